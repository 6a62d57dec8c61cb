import Derived.Test.YtbaafbcdhgfpdaaClaw
import Derived.Deep.DeepCutAuto
import Derived.Lib.LazyBuf
namespace Go.Proofs.Ytbaafbcdhgfpdaa.crcLong
open Go.RowKit Cr
/-- An append onto a row of the call's own: what the row's first cells were, they are still. -/
theorem own_app_keep (w : World) (B : Nat) (v : Value) (l : List Nat) (h : Own B w v l) (hB : B ≤ w.heap.size) (A : Option Addr) (m : List Nat) (k c : Nat) (hk : m.length = k) (hm : Rd w A m) (hs : l.length + k ≤ 1000000) (hA : A = none → c = 0) :
    ∃ R W', (Builtin.append_ #[22, 22] 22 #[v, .slice A k c]).run Try.prog w = .ok R W' ∧ Own B W' R (l ++ m) ∧ Below B w W' ∧ ∀ A' n c', v = .slice A' n c' → Rd W' A' l := by
  obtain ⟨R, W', hrun, hown, hbel⟩ := own_app w B v l h hB A m k c hk hm hs hA
  refine ⟨R, W', hrun, hown, hbel, ?_⟩
  intro A' n c' hv
  obtain ⟨i0, hi, hz0, hz1, hz2⟩ := info_parts info5
  subst hk
  rcases h.2 with ⟨_, hn⟩ | ⟨g, cap, cur, hv2, _, hh, hc, hcm, hsz, ht⟩
  · obtain rfl := List.eq_nil_of_length_eq_zero hn
    exact Rd.nil _ _
  · rw [hv2] at hv hrun
    injection hv with e1 e2 e3
    subst e1; subst e2; subst e3
    have hr : Rd w (some ⟨g, 0, none⟩) l := Rd.of_has (t := 5) (cs := cur) hh fun i hi => by
      have h1 : (l.map bv)[i]? = some (bv l[i]) := by simp [hi]
      rw [← ht, List.getElem?_take, if_pos (by omega)] at h1
      simpa using h1
    have hS := src_rd (P := Try.prog) w Try.underlying22 A m c hm
    by_cases hroom : l.length + m.length ≤ cap
    · have hcell : ∀ j, j < (m.map bv).length → (w.cell? ⟨g, 0 + l.length * i0.size + j, none⟩).isSome = true := by
        intro j hj
        rw [cell_of_row w g _ cur 5 (0, 0) hh, hz1]
        rw [List.length_map] at hj
        simp
        omega
      have h2 := run_append_room_src (P := Try.prog) w 22 22 22 5 i0 Try.underlying22 hi g 0 l.length cap (.slice A m.length c) m.length (m.map bv) (by rw [hz1]; exact hS) hroom hcell (fun j _ => frozen_of_row w g _ cur 5 hh)
      rw [hrun] at h2
      injection h2 with _ h2
      subst h2
      intro hl
      obtain ⟨b, off, e, hc2⟩ := hr hl
      injection e with e
      injection e with e1 e2
      subst e1; subst e2
      refine ⟨g, 0, rfl, fun i hi => ?_⟩
      rw [World.cell?_setCells_out g _ _ w _ (fun _ _ => .inl (by show 0 + i < _; rw [hz1]; omega))]
      exact hc2 i hi
    · have h2 := run_append_grow_src (P := Try.prog) w 22 22 22 5 i0 (.int .u8 0) Try.underlying22 hi hz0 (some ⟨g, 0, none⟩) l.length cap (l.map bv) (by rw [hz1]; exact firstCells_rd w.drew _ l cap hr) (.slice A m.length c) m.length (m.map bv) (by rw [hz1]; exact hS) (by omega) (by omega) (growslice_fits (by omega) (by rw [hz2]; omega))
      rw [hrun] at h2
      injection h2 with _ h2
      subst h2
      exact hr.below (((Below.refl _ w).drew).alloc (Nat.le_refl _) _)
theorem byte_new (w : World) (y : Nat) : Rd (w.alloc (.cells #[.int .u8 (y : Nat)] 5)) (some ⟨w.heap.size, 0, none⟩) [y] :=
  Rd.of_has (Has.new w 5 _) fun i hi => by
    obtain rfl : i = 0 := by simpa using hi
    rfl
/-- What is taken of bytes with one more. -/
theorem take_more (l : List Nat) (n y : Nat) (hn : l.length = n) : ∃ X E, takeF (l ++ le4 (sum l) ++ [y]) = (X, E) ∧ ((E = 0 ∧ X.length = n + 1) ∨ E = 3) := by
  have hl : (l ++ le4 (sum l) ++ [y]).length = n + 5 := by simp [le4_len, hn]
  unfold takeF
  rw [if_neg (by omega), hl]
  split
  · exact ⟨_, _, rfl, .inl ⟨rfl, by rw [List.length_take, hl]; omega⟩⟩
  · exact ⟨_, _, rfl, .inr rfl⟩
/-- What is taken of bytes that are cut short. -/
theorem take_less (l : List Nat) (n : Nat) (hn : l.length = n) : ∃ X E, takeF ((l ++ le4 (sum l)).take (n + 3)) = (X, E) ∧ ((E = 0 ∧ X.length + 1 = n) ∨ (E = 3 ∧ 0 < n) ∨ (E = 4 ∧ n = 0)) := by
  have hl : ((l ++ le4 (sum l)).take (n + 3)).length = n + 3 := by simp [le4_len, hn]
  unfold takeF
  rw [hl]
  by_cases h : n = 0
  · rw [if_pos (by omega)]
    exact ⟨_, _, rfl, .inr (.inr ⟨rfl, h⟩)⟩
  · rw [if_neg (by omega)]
    split
    · exact ⟨_, _, rfl, .inl ⟨rfl, by rw [List.length_take, hl]; omega⟩⟩
    · exact ⟨_, _, rfl, .inr (.inl ⟨rfl, by omega⟩)⟩
theorem own_slice {B : Nat} {w : World} {v : Value} {l : List Nat} (h : Own B w v l) : ∃ A c, v = .slice A l.length c ∧ l.length ≤ c ∧ c ≤ maxLen ∧ Rd w A l ∧ (A = none → c = 0) := by
  rcases h.2 with ⟨hv, hn⟩ | ⟨g, cap, cur, hv, _, hh, hc, hm, _, ht⟩
  · obtain rfl := List.eq_nil_of_length_eq_zero hn
    exact ⟨none, 0, hv, Nat.le_refl _, Nat.zero_le _, Rd.nil _ _, fun _ => rfl⟩
  · subst hv
    exact ⟨_, _, rfl, hc, hm, Rd.of_has (t := 5) (cs := cur) hh fun i hi => by
      have h1 : (l.map bv)[i]? = some (bv l[i]) := by simp [hi]
      rw [← ht, List.getElem?_take, if_pos (by omega)] at h1
      simpa using h1, fun e => by cases e⟩
set_option maxHeartbeats 2000000 in
set_option maxRecDepth 100000 in
theorem walk (SUM : SumC) (PUT : PutC) (TAKE : TakeC) (a0 : Option Addr) (len0 cap0 : Nat) (z0 : List Int) (a1 : Int) (w : World) (w0 : IsRow .u8 w a0 len0 cap0 z0) (_ : (Lit.int .i64 a1).wf = true) :
    Calls Try.prog 9 #[.slice a0 len0 cap0, .int .i64 a1] w fun e w' => e = .returned (.bool true) ∧ Below w.heap.size w w' := by
  obtain ⟨l0, hl, hlc, hcm, hb, hr, h0⟩ := w0.bytes
  clear w0
  have hcm' := hcm
  unfold maxLen at hcm'
  obtain ⟨n, hn⟩ : ∃ n, n = if 100 < len0 then 100 else len0 := ⟨_, rfl⟩
  have hn1 : n ≤ 100 ∧ n ≤ len0 := by rw [hn]; split <;> omega
  obtain ⟨hn1, hn2⟩ := hn1
  obtain ⟨l, el⟩ : ∃ l, l = l0.take n := ⟨_, rfl⟩
  have HN := Lib.hid (show l.length = n by rw [el, List.length_take]; omega)
  have HBY : Hid (∀ x ∈ l, x < 256) := by rw [el]; exact fun x hx => hb x (List.mem_of_mem_take hx)
  have HR : Hid (Rd w a0 l) := by rw [el]; exact hr.take _
  have H0 := Lib.hid h0
  have HL := Lib.hid (lives_any SUM)
  have HP := Lib.hid PUT
  have HT := Lib.hid TAKE
  have HE := Lib.hid hn
  clear hl hb hr h0 el SUM PUT TAKE hn
  go_enter Try.func9, Try.ntmps9
  go_upto_if 14 with (fail)
  go_cut [0] (fun s0 wx => s0 = .slice a0 n cap0 ∧ w = wx)
  case first =>
    by_cases gn : 100 < len0
    · have E2 : Hid (n = 100) := by show _ = _; rw [HE.out, if_pos gn]
      go_wp2_with fail
      go_meet
      exact ⟨by rw [E2.out], rfl⟩
    · have E2 : Hid (n = len0) := by show _ = _; rw [HE.out, if_neg gn]
      go_wp2_with fail
      go_meet
      exact ⟨by rw [E2.out], rfl⟩
  case rest =>
    obtain ⟨rfl, rfl⟩ := hcut
    go_wp2_with fail
    refine (HP.out none [] 0 0 a0 l n cap0 _ rfl (Nat.le_refl _) (by omega) HN.out (by omega) (by omega) HBY.out (Rd.nil _ _) HR.out (fun _ => rfl) H0.out (Nat.zero_le _) hcm).mono ?_
    rintro e w1 ⟨v, rfl, ho, hb1⟩
    rw [List.nil_append] at ho
    obtain ⟨A1, c1, hv, hn1', hc1, hr1, hnil1⟩ := own_slice ho
    have hlen : (l ++ le4 (sum l)).length = n + 4 := by rw [List.length_append, le4_len, HN.out]
    rw [hlen] at hv hn1'
    subst hv
    have hbyte : ∀ x ∈ l ++ le4 (sum l), x < 256 := by
      intro x hx
      rcases List.mem_append.1 hx with hx | hx
      · exact HBY.out x hx
      · exact le4_byte _ (sum_lt l HBY.out) x hx
    obtain ⟨y, hy⟩ : ∃ y : Nat, (y : Int) = a1 % 256 := ⟨(a1 % 256).toNat, by omega⟩
    have hy2 : y < 256 := by omega
    have hk := own_app_keep (w1.alloc (.cells #[.int .u8 (y : Nat)] 5)) w.heap.size _ (l ++ le4 (sum l)) (World.ownsRow.alloc ho _) (by have := hb1.size; simp; omega) (some ⟨w1.heap.size, 0, none⟩) [y] 1 1 rfl (byte_new w1 y) (by omega) (fun e => by cases e)
    rw [hy] at hk
    have HK := Lib.hid hk
    have HO := Lib.hid ho
    have HB1 := Lib.hid hb1
    have HR1 := Lib.hid hr1
    have HLEN := Lib.hid hlen
    have HBB := Lib.hid hbyte
    have HNIL := Lib.hid hnil1
    have HY := Lib.hid hy
    unfold maxLen at hc1
    obtain ⟨X, E, hX, hXE⟩ := take_more l n y HN.out
    obtain ⟨Y, F, hY, hYF⟩ := take_less l n HN.out
    have HX := Lib.hid hX
    have HYT := Lib.hid hY
    have HXE := Lib.hid hXE
    have HYF := Lib.hid hYF
    clear ho hb1 hr1 hlen hbyte hnil1 hy hX hY hk hXE hYF
    go_wp2_with (at_builtin; refine wpList_app rfl _ _ 22 22 rfl (.slice A1 (n + 4) c1) (.slice (some ⟨w1.heap.size, 0, none⟩) 1 1) rfl rfl ?_; obtain ⟨R, W', hrun, hown, hbel, hkeep⟩ := HK.out; refine ⟨R, W', hrun, ?_⟩; have HO2 := Lib.hid hown; have HB2 := Lib.hid (((HB1.out.alloc HB1.out.size _)).trans hbel); have HR2 := Lib.hid (hkeep A1 (n + 4) c1 rfl); clear hrun hown hbel hkeep HK)
    obtain ⟨A2, c2, hv2, hn2', hc2, hr2, hnil2⟩ := own_slice HO2.out
    have hlen2 : (l ++ le4 (sum l) ++ [y]).length = n + 5 := by rw [List.length_append, HLEN.out]; rfl
    rw [hlen2] at hv2 hn2'
    subst hv2
    have hbyte2 : ∀ x ∈ l ++ le4 (sum l) ++ [y], x < 256 := by
      intro x hx
      rcases List.mem_append.1 hx with hx | hx
      · exact HBB.out x hx
      · rw [List.mem_singleton] at hx; omega
    have HT2 := Lib.hid (HT.out A2 _ (n + 5) c2 W' hlen2 hn2' hc2 (by omega) hbyte2 hr2 hnil2)
    clear hr2 hnil2 hbyte2 hlen2 hn2' hc2
    refine HT2.out.mono ?_
    rintro e w2 ⟨A3, n3, c3, rfl, N3, hn3, R3, B3⟩
    rw [HX.out] at N3 R3 ⊢
    have HB3 := Lib.hid (HB2.out.trans (B3.out.mono HB2.out.size))
    have HR3 := Lib.hid (HR2.out.below B3.out)
    have hT4 := HT.out A1 ((l ++ le4 (sum l)).take (n + 3)) (n + 3) c1 w2 (by rw [List.length_take, HLEN.out]; omega) (by omega) (by unfold maxLen; exact hc1) (by omega) (fun x hx => HBB.out x (List.mem_of_mem_take hx)) (HR3.out.take _) HNIL.out
    rw [HYT.out] at hT4
    have HT4 := Lib.hid hT4
    clear hT4 HT2 HR2 HB2 B3
    go_wp2_with fail
    refine HT4.out.mono ?_
    rintro e w4 ⟨A5, n5, c5, rfl, N5, hn5, R5, B5⟩
    have HB5 := Lib.hid (HB3.out.trans (B5.out.mono HB3.out.size))
    clear B5 HT4 hn3 hn5
    have hn3 : n3 = X.length := N3.out.symm
    have hn5 : n5 = Y.length := N5.out.symm
    rcases HXE.out with ⟨rfl, hx⟩ | rfl
    · rw [hx] at hn3
      subst hn3
      rcases HYF.out with ⟨rfl, hy⟩ | ⟨rfl, hy⟩ | ⟨rfl, rfl⟩
      · obtain rfl : n5 = n - 1 := by omega
        have hn0 : 0 < n := by omega
        clear hx hn5 hy
        go_wp2_with fail
        refine (HL.out _).mono ?_
        rintro e w6 ⟨rfl, B6⟩
        go_wp2_with fail
        go_ret
        exact ⟨rfl, HB5.out.trans (B6.out.mono HB5.out.size)⟩
      · clear hx hn5
        go_wp2_with fail
        refine (HL.out _).mono ?_
        rintro e w6 ⟨rfl, B6⟩
        go_wp2_with fail
        go_ret
        exact ⟨rfl, HB5.out.trans (B6.out.mono HB5.out.size)⟩
      · clear hx hn5
        go_wp2_with fail
        refine (HL.out _).mono ?_
        rintro e w6 ⟨rfl, B6⟩
        go_wp2_with fail
        go_ret
        exact ⟨rfl, HB5.out.trans (B6.out.mono HB5.out.size)⟩
    · clear hn3
      rcases HYF.out with ⟨rfl, hy⟩ | ⟨rfl, hy⟩ | ⟨rfl, rfl⟩
      · obtain rfl : n5 = n - 1 := by omega
        have hn0 : 0 < n := by omega
        clear hn5 hy
        go_wp2_with fail
        refine (HL.out _).mono ?_
        rintro e w6 ⟨rfl, B6⟩
        go_wp2_with fail
        go_ret
        exact ⟨rfl, HB5.out.trans (B6.out.mono HB5.out.size)⟩
      · clear hn5
        go_wp2_with fail
        refine (HL.out _).mono ?_
        rintro e w6 ⟨rfl, B6⟩
        go_wp2_with fail
        go_ret
        exact ⟨rfl, HB5.out.trans (B6.out.mono HB5.out.size)⟩
      · clear hn5
        go_wp2_with fail
        refine (HL.out _).mono ?_
        rintro e w6 ⟨rfl, B6⟩
        go_wp2_with fail
        go_ret
        exact ⟨rfl, HB5.out.trans (B6.out.mono HB5.out.size)⟩
end Go.Proofs.Ytbaafbcdhgfpdaa.crcLong
