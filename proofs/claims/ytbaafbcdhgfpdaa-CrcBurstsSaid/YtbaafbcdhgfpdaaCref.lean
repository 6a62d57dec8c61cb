/-
  What the document's own answers of layer 2 come to: the check of bytes, bytes with their check, and what is taken.
-/
import Derived.Test.YtbaafbcdhgfpdaaProg
import Derived.Test.YtbaafbcdhgfpdaaKit
import Derived.Test.YtbaafbcdhgfpdaaCrcMath
import Derived.Test.YtbaafbcdhgfpdaaStr
import Derived.Deep.RegionWith
import Derived.Laws.AppendOwnNone
namespace Go.Proofs.Ytbaafbcdhgfpdaa
open Go.RowKit Cr
theorem byte_lt {l : List Nat} (h : ∀ x ∈ l, x < 256) {k : Nat} (hk : k < l.length) : l[k] < 256 := h _ (List.getElem_mem hk)
/-- The check of more bytes, of any number. -/
def moreF (s : Int) (l : List Nat) : Nat := reg ((s % 4294967296).toNat ^^^ ones) l ^^^ ones
set_option maxHeartbeats 1000000 in
theorem refMore_any (A : Option Addr) (l : List Nat) (n c : Nat) (s : Int) (w : World) (hn : l.length = n) (hb : n ≤ 1000000) (hl : ∀ x ∈ l, x < 256) (hA : Rd w A l) :
    Calls Try.prog 14 #[.int .i64 s, .slice A n c] w fun e w' => e = .returned (.int .i64 (moreF s l)) ∧ w = w' := by
  obtain ⟨a, ha⟩ : ∃ a : Nat, (a : Int) = s % 4294967296 := ⟨(s % 4294967296).toNat, by omega⟩
  have hal : a < 4294967296 := by omega
  have HX : Hid (bits .xor .u32 (s % 4294967296) 4294967295 = ((a ^^^ ones : Nat) : Int)) := by show _ = _; rw [← ha]; exact u32_xor_nat a ones hal ones_lt
  have HM : Hid (moreF s l = reg (a ^^^ ones) l ^^^ ones) := by show _ = _; unfold moreF; rw [show (s % 4294967296).toNat = a by omega]
  have HN := Lib.hid hn
  have HL := Lib.hid hl
  have HA := Lib.hid hA
  clear ha hn hl hA
  go_enter Try.func14, Try.ntmps14
  go_wp2_with fail
  rw [HX.out]
  have hc0 : a ^^^ ones < 4294967296 := xor_lt hal ones_lt
  generalize a ^^^ ones = C at *
  go_loop [5, 6] (fun v i => ∃ k x : Nat, k ≤ n ∧ i = .int .i64 k ∧ v = .int .u32 x ∧ x < 4294967296 ∧ Hid (reg x (l.drop k) = reg C l)) (fun _ i => n - (intOf i).toNat)
  case atStart => exact ⟨0, C, by omega, rfl, rfl, hc0, rfl⟩
  case round =>
    obtain ⟨k, x, hk, rfl, rfl, hx, HE⟩ := hrel
    by_cases hlt : k < n
    · have hkl : k < l.length := by rw [HN.out]; exact hlt
      have hne : l ≠ [] := by rintro rfl; simp at hkl
      obtain ⟨b, off, rfl, hc⟩ := HA.out hne
      have hcell := hc k hkl
      have hy := byte_lt HL.out hkl
      have HD : Hid (reg (stn 8 (x ^^^ l[k])) (l.drop (k + 1)) = reg C l) := by
        show _ = _; rw [← HE.out, List.drop_eq_getElem_cons hkl]; rfl
      clear hc HE
      generalize l[k] = y at *
      unfold bv at hcell
      have HY : Hid (bits .xor .u32 (x : Int) (y : Int) = ((x ^^^ y : Nat) : Int)) := u32_xor_nat x y hx (by omega)
      have hz : x ^^^ y < 4294967296 := xor_lt hx (by omega)
      go_wp2_with fail
      rw [HY.out]
      generalize x ^^^ y = z at *
      go_loop [5, 7] (fun v i => ∃ j u : Nat, j ≤ 8 ∧ i = .int .i64 j ∧ v = .int .u32 u ∧ u < 4294967296 ∧ Hid (stn (8 - j) u = stn 8 z)) (fun _ i => 8 - (intOf i).toNat)
      case atStart => exact ⟨0, z, by omega, rfl, rfl, hz, rfl⟩
      case round =>
        obtain ⟨j, u, hj, rfl, rfl, hu, HJ⟩ := hrel
        by_cases hj8 : j < 8
        · have HS : Hid (stn (8 - (j + 1)) (st u) = stn 8 z) := by show _ = _; rw [← HJ.out, show 8 - j = (8 - (j + 1)) + 1 by omega]; rfl
          by_cases hodd : u % 2 = 1
          · have HO := Lib.hid hodd
            have t1 : ((u : Int) % 2 == 1) = true := beq_iff_eq.2 (by omega)
            have HP : Hid (bits .xor .u32 ((u : Int) / 2) 3988292384 = ((st u : Nat) : Int)) := by
              show _ = _
              have h := u32_xor_nat (u / 2) poly (by omega) poly_lt
              unfold st; rw [if_pos hodd]
              exact h
            clear hodd
            go_wp2_with fail
            go_round
            case rel => exact ⟨j + 1, st u, by omega, by go_num, by rw [HP.out], st_lt hu, HS.out⟩
            case measure => simp [intOf]; omega
          · have HO := Lib.hid hodd
            have t1 : ((u : Int) % 2 == 1) = false := beq_eq_false_iff_ne.2 (by omega)
            have HP : Hid ((u : Int) / 2 = ((st u : Nat) : Int)) := by show _ = _; unfold st; rw [if_neg hodd]; omega
            clear hodd
            go_wp2_with fail
            go_round
            case rel => exact ⟨j + 1, st u, by omega, by go_num, by rw [HP.out], st_lt hu, HS.out⟩
            case measure => simp [intOf]; omega
        · obtain rfl : j = 8 := by omega
          have HU : Hid (u = stn 8 z) := HJ.out
          clear HJ
          go_wp2_with fail
          go_round
          case rel => exact ⟨k + 1, u, by omega, by go_num, rfl, hu, by show _ = _; rw [HU.out]; exact HD.out⟩
          case measure => simp [intOf]; omega
    · obtain rfl : k = n := by omega
      have HR : Hid (x = reg C l) := by show _ = _; rw [← HE.out, List.drop_eq_nil_of_le (by rw [HN.out]; omega)]; rfl
      have HO : Hid (bits .xor .u32 (x : Int) 4294967295 = ((x ^^^ ones : Nat) : Int)) := u32_xor_nat x ones hx ones_lt
      have hlt2 := xor_lt hx ones_lt
      have HM2 : Hid (moreF s l = x ^^^ ones) := by show _ = _; rw [HM.out, HR.out]
      clear HE HR HM
      go_wp2_with fail
      have e : wrap64 ((x ^^^ ones : Nat) : Int) = ((x ^^^ ones : Nat) : Int) := by unfold wrap64; omega
      rw [HO.out, e]
      go_ret
      exact ⟨by rw [HM2.out]; rfl, rfl⟩
theorem moreF_zero (l : List Nat) : moreF 0 l = sum l := by
  unfold moreF sum
  have e : ((0 : Int) % 4294967296).toNat ^^^ ones = ones := by decide
  rw [e]
theorem moreF_sum (l m : List Nat) (hl : ∀ x ∈ l, x < 256) : moreF (sum l) m = sum (l ++ m) := by
  have h := sum_lt l hl
  unfold moreF
  have e : (((sum l : Nat) : Int) % 4294967296).toNat = sum l := by omega
  rw [e, sum_more]
theorem moreF_lt (s : Int) (l : List Nat) (hl : ∀ x ∈ l, x < 256) : moreF s l < 4294967296 := by
  unfold moreF
  exact xor_lt (reg_lt l (xor_lt (by omega) ones_lt) hl) ones_lt
set_option maxHeartbeats 400000 in
theorem refSum_any (A : Option Addr) (l : List Nat) (n c : Nat) (w : World) (hn : l.length = n) (hb : n ≤ 1000000) (hl : ∀ x ∈ l, x < 256) (hA : Rd w A l) :
    Calls Try.prog 11 #[.slice A n c] w fun e w' => e = .returned (.int .i64 (sum l)) ∧ w = w' := by
  have HC := Lib.hid (refMore_any A l n c 0 w hn hb hl hA)
  go_enter Try.func11, Try.ntmps11
  go_wp2_with fail
  refine HC.out.mono ?_
  rintro e w1 ⟨rfl, rfl⟩
  rw [moreF_zero]
  go_wp2_with fail
  go_ret
  exact ⟨rfl, rfl⟩
theorem info5 : (Try.prog.info? 5).map (fun i => (i.zero, i.size, i.bytes)) = some (some (.int .u8 0), 1, 1) := by kernel_rfl
/-- Bytes in a row of the call's own. -/
def Own (B : Nat) (w : World) (v : Value) (l : List Nat) : Prop := w.ownsRow B 5 1 v l.length (l.map bv)
/-- Bytes come back, in a row of the call's own. -/
def OutO (w : World) (l : List Nat) (e : Ending) (w' : World) : Prop := ∃ v, e = .returned v ∧ Own w.heap.size w' v l ∧ Below w.heap.size w w'
/-- Bytes are put behind a row of the call's own. -/
theorem own_app (w : World) (B : Nat) (v : Value) (l : List Nat) (h : Own B w v l) (hB : B ≤ w.heap.size) (A : Option Addr) (m : List Nat) (k c : Nat) (hk : m.length = k) (hm : Rd w A m) (hs : l.length + k ≤ 1000000) (hA : A = none → c = 0) :
    ∃ R W', (Builtin.append_ #[22, 22] 22 #[v, .slice A k c]).run Try.prog w = .ok R W' ∧ Own B W' R (l ++ m) ∧ Below B w W' := by
  subst hk
  obtain ⟨i0, hi, hz0, hz1, hz2⟩ := info_parts info5
  rcases A with _ | a
  · have hl : m = [] := by
      rcases m with _ | ⟨x, m⟩
      · rfl
      · obtain ⟨b, off, e, _⟩ := hm (by simp)
        cases e
    subst hl
    rw [hA rfl, List.append_nil]
    exact ⟨v, w, run_append_owned_none w B 22 22 5 i0 1 Try.underlying22 hi v _ _ h, h, Below.refl _ _⟩
  · have hc : ∀ j u, (m.map bv)[j]? = some u → w.cell? (a.add j) = some u := by
      intro j u hj
      have hjl : j < m.length := by
        have := (List.getElem?_eq_some_iff.1 hj).1
        simpa using this
      obtain ⟨b, off, e, hc⟩ := hm (by rintro rfl; simp at hjl)
      injection e with e
      subst e
      rw [Addr.add_lit, hc j hjl]
      simpa [hjl] using hj
    obtain ⟨R, W', hrun, hown, hg, _⟩ := run_append_own (P := Try.prog) w B 22 22 5 i0 (.int .u8 0) 1 1 Try.underlying22 hi hz0 hz1 hz2 rfl (by decide) v l.length (l.map bv) h a m.length c (m.map bv) (by simp) hc (bv_one m) (by unfold maxLen; omega) (by omega) hB
    refine ⟨R, W', hrun, ?_, (Below.refl B w).grown hg hB fun k hk => (World.ownsRow.lt h k hk).1⟩
    unfold Own; rw [List.map_append, List.length_append]; exact hown
theorem le4_new (W : World) (S : Nat) : Rd (W.alloc (.cells #[.int .u8 ((S : Int) % 256), .int .u8 ((S : Int) / 256 % 256), .int .u8 ((S : Int) / 65536 % 256), .int .u8 ((S : Int) / 16777216)] 5)) (some ⟨W.heap.size, 0, none⟩) (le4 S) := by
  refine Rd.of_has (Has.new W 5 _) fun i hi => ?_
  rw [le4_len] at hi
  have h : i = 0 ∨ i = 1 ∨ i = 2 ∨ i = 3 := by omega
  rcases h with rfl | rfl | rfl | rfl <;> simp [le4, bv]
theorem le4_app (W : World) (B : Nat) (v : Value) (l : List Nat) (S : Nat) (h : Own B W v l) (hB : B ≤ W.heap.size) (hl : l.length ≤ 1000) :
    ∃ R W', (Builtin.append_ #[22, 22] 22 #[v, .slice (some ⟨W.heap.size, 0, none⟩) 4 4]).run Try.prog (W.alloc (.cells #[.int .u8 ((S : Int) % 256), .int .u8 ((S : Int) / 256 % 256), .int .u8 ((S : Int) / 65536 % 256), .int .u8 ((S : Int) / 16777216)] 5)) = .ok R W' ∧ Own B W' R (l ++ le4 S) ∧ Below B W W' := by
  obtain ⟨R, W', h1, h2, h3⟩ := own_app _ B v l (World.ownsRow.alloc h _) (by simp; omega) (some ⟨W.heap.size, 0, none⟩) (le4 S) 4 4 (le4_len S) (le4_new W S) (by omega) (fun e => by cases e)
  exact ⟨R, W', h1, h2, ((Below.refl B W).alloc hB _).trans h3⟩
set_option maxHeartbeats 1000000 in
theorem refPut_any (A : Option Addr) (l : List Nat) (n c : Nat) (A' : Option Addr) (m : List Nat) (k d : Nat) (w : World) (hn : l.length = n) (hk : m.length = k) (hb : n + k ≤ 1000) (hm : ∀ x ∈ m, x < 256) (hA : Rd w A l) (hA' : Rd w A' m) (h0 : A = none → c = 0) (h0' : A' = none → d = 0) :
    Calls Try.prog 18 #[.slice A n c, .slice A' k d] w (OutO w (l ++ m ++ le4 (sum m))) := by
  have HN := Lib.hid hn
  have HK := Lib.hid hk
  have HMB := Lib.hid hm
  have HA := Lib.hid hA
  have HA' := Lib.hid hA'
  have H0 := Lib.hid h0
  have H0' := Lib.hid h0'
  have HP1 := Lib.hid (own_app w w.heap.size (.slice none 0 0) [] (World.ownsRow_nil _ _ _ _) (Nat.le_refl _) A l n c hn hA (by simp; omega) h0)
  clear hn hk hm hA hA' h0 h0'
  go_enter Try.func18, Try.ntmps18
  go_wp2_with (first
    | (at_builtin; refine wpList_app rfl _ _ 22 22 rfl (.slice none 0 0) (.slice A n c) rfl rfl ?_; obtain ⟨R, W', hrun, hmade⟩ := HP1.out; refine ⟨R, W', hrun, ?_⟩; have HM := Lib.hid hmade; clear hrun hmade HP1)
    | (at_builtin; refine wpList_app rfl _ _ 22 22 rfl R (.slice A' k d) rfl rfl ?_; obtain ⟨R2, W2, hrun, hmade⟩ := own_app W' w.heap.size R _ HM.out.1 HM.out.2.size A' m k d HK.out (HA'.out.below HM.out.2) (by rw [List.nil_append, HN.out]; omega) H0'.out; refine ⟨R2, W2, hrun, ?_⟩; have HM2 := Lib.hid hmade; have HB2 := Lib.hid (HM.out.2.trans hmade.2); clear hrun hmade HM)
    | (go_at_call 11; fail))
  refine (refSum_any A' m k d _ HK.out (by omega) HMB.out (HA'.out.below HB2.out)).mono ?_
  rintro e w3 ⟨rfl, rfl⟩
  have hsl := sum_lt m HMB.out
  generalize hS : sum m = S at *
  have HS := Lib.hid hS
  clear hS
  have HP3 := Lib.hid (le4_app W2 w.heap.size R2 _ S HM2.out.1 HB2.out.size (by rw [List.nil_append, List.length_append, HN.out, HK.out]; omega))
  go_wp2_with (at_builtin; refine wpList_app rfl _ _ 22 22 rfl R2 (.slice (some ⟨W2.heap.size, 0, none⟩) 4 4) rfl rfl ?_; obtain ⟨R3, W3, hrun, hmade⟩ := HP3.out; refine ⟨R3, W3, hrun, ?_⟩; have HM3 := Lib.hid hmade; clear hrun hmade HP3)
  go_ret
  refine ⟨R3, rfl, ?_, HB2.out.trans HM3.out.2⟩
  have h := HM3.out.1
  rw [List.nil_append] at h
  exact h
/-- What is taken: the bytes ahead of their check, and the error. -/
def takeF (l : List Nat) : List Nat × Nat := if l.length < 4 then ([], 4) else if sum (l.take (l.length - 4)) = un4 (l.drop (l.length - 4)) then (l.take (l.length - 4), 0) else ([], 3)
theorem take_stands (l : List Nat) (hl : ∀ x ∈ l, x < 256) (h4 : 4 ≤ l.length) : (l.take (l.length - 4) ++ le4 (sum (l.take (l.length - 4))) = l) ↔ sum (l.take (l.length - 4)) = un4 (l.drop (l.length - 4)) := by
  have hd : (l.drop (l.length - 4)).length = 4 := by rw [List.length_drop]; omega
  obtain ⟨h1, _⟩ := le4_un4 _ hd (fun x hx => hl x (List.mem_of_mem_drop hx))
  have hs : l.take (l.length - 4) ++ l.drop (l.length - 4) = l := List.take_append_drop _ _
  constructor
  · intro h
    have h2 : l.take (l.length - 4) ++ le4 (sum (l.take (l.length - 4))) = l.take (l.length - 4) ++ l.drop (l.length - 4) := by rw [hs]; exact h
    have h3 := List.append_cancel_left h2
    rw [← h1] at h3
    exact le4_inj h3
  · intro h
    rw [h, h1, hs]
theorem OutO.str {w w' : World} {l : List Nat} {e : Ending} (h : OutO w l e w') : ∃ A n c, e = .returned (.slice A n c) ∧ Sem.run Try.prog (convert 22 9 (.slice A n c)) w' = .ok (.string (bs l)) w' ∧ Hid (Str w l A n w') := by
  obtain ⟨v, he, ho, hb⟩ := h
  rcases ho.2 with ⟨hv, hn⟩ | ⟨g, cap, cur, hv, _, hh, hc, _, _, ht⟩
  · obtain rfl := List.eq_nil_of_length_eq_zero hn
    have hs : Str w [] none 0 w' := ⟨rfl, Rd.nil _ _, hb⟩
    exact ⟨none, 0, 0, by rw [he, hv], hs.conv 0, hs⟩
  · subst hv
    have hr : Rd w' (some ⟨g, 0, none⟩) l := Rd.of_has (t := 5) (cs := cur) hh fun i hi => by
      have h1 : (l.map bv)[i]? = some (bv l[i]) := by simp [hi]
      rw [← ht, List.getElem?_take, if_pos (by omega)] at h1
      simpa using h1
    have hs : Str w l (some ⟨g, 0, none⟩) l.length w' := ⟨rfl, hr, hb⟩
    exact ⟨_, _, _, he, hs.conv cap, hs⟩
set_option maxHeartbeats 1000000 in
theorem refTake_any (A : Option Addr) (l : List Nat) (n c : Nat) (w : World) (hn : l.length = n) (hc : n ≤ c) (hb : n ≤ 900) (hl : ∀ x ∈ l, x < 256) (hA : Rd w A l) (h0 : A = none → c = 0) :
    Calls Try.prog 19 #[.slice A n c] w fun e w' => (∃ A' n' c', e = .returned (.tuple #[.slice A' n' c', .int .i64 ((takeF l).2 : Int)]) ∧ (takeF l).1.length = n' ∧ n' ≤ c' ∧ Rd w' A' (takeF l).1) ∧ Below w.heap.size w w' := by

  by_cases h4 : n < 4
  · have HT : Hid (takeF l = ([], 4)) := by show _ = _; unfold takeF; rw [if_pos (by omega)]
    clear hn hl hA h0
    go_enter Try.func19, Try.ntmps19
    go_wp2_with fail
    go_ret2
    rw [HT.out]
    exact ⟨⟨none, 0, 0, rfl, rfl, Nat.le_refl _, Rd.nil _ _⟩, Below.refl _ _⟩
  · have HP := fun W (hW : Below w.heap.size w W) => refPut_any none [] 0 0 A (l.take (n - 4)) (n - 4) c W rfl (by rw [List.length_take]; omega) (by omega) (fun x hx => hl x (List.mem_of_mem_take hx)) (Rd.nil _ _) ((hA.below hW).take _) (fun _ => rfl) h0
    have HPP := Lib.hid HP
    have CB : ∀ W, Below w.heap.size w W → Sem.run Try.prog (convert 22 9 (.slice A n c)) W = .ok (.string (bs l)) W := fun W hW => conv_len W A l n c hn (hA.below hW)
    have HCB := Lib.hid CB
    have cb0 := CB w.drew (Below.refl _ w).drew
    have hk0 : (0 : Int) ≤ (n : Int) - 4 := by omega
    have hk1 : ((n : Int) - 4).toNat = n - 4 := by omega
    have hw4 : IntKind.i64.wrap ((n : Int) - 4) = (n : Int) - 4 := by rw [IntKind.wrap_i64]; omega
    obtain ⟨t, ht⟩ : ∃ t, t = l.take (n - 4) ++ le4 (sum (l.take (n - 4))) := ⟨_, rfl⟩
    have HTT := Lib.hid ht
    have tb : ∀ x ∈ t, x < 256 := by
      rw [ht]; intro x hx
      have hb' : ∀ x ∈ l.take (n - 4), x < 256 := fun x hx => hl x (List.mem_of_mem_take hx)
      rcases List.mem_append.1 hx with h | h
      · exact hb' x h
      · exact le4_byte _ (sum_lt _ hb') x h
    have hq := bs_eqb tb hl
    have HL := Lib.hid hl
    have HN := Lib.hid hn
    have HA := Lib.hid hA
    clear HP CB ht tb hl hn hA h0
    by_cases hs : t = l
    · have HT : Hid (takeF l = (l.take (n - 4), 0)) := by
        have hst := (take_stands l HL.out (by rw [HN.out]; omega)).1 (by rw [HN.out, ← HTT.out]; exact hs)
        show _ = _; unfold takeF; rw [if_neg (by rw [HN.out]; omega), if_pos hst, HN.out]
      have hq2 : ((bs t).toList == (bs l).toList) = true := by rw [hq]; exact decide_eq_true hs
      have hq3 : ((bs t).toList != (bs l).toList) = false := by simp [bne, hq2]
      clear hs hq
      go_enter Try.func19, Try.ntmps19
      go_wp2_with fail
      go_region_with (first
        | (go_at_call 18; refine (HPP.out _ (Below.refl _ w).drew).mono ?_; intro e x1 ho; obtain ⟨A1, n1, c1, rfl, eq1, S1⟩ := ho.str; have cb1 := HCB.out _ ((Below.refl _ w).drew.trans S1.out.2.2); rw [List.nil_append, ← HTT.out] at eq1; clear ho))
      all_goals
        have BW := Lib.hid ((Below.refl _ w).drew.trans S1.out.2.2)
        clear eq1 cb1 cb0
        go_wp2_with fail
        go_ret2
        rw [HT.out]
        exact ⟨⟨A, n - 4, c, rfl, by rw [List.length_take, HN.out]; omega, by omega, (HA.out.below BW.out).take _⟩, BW.out⟩
    · have HT : Hid (takeF l = ([], 3)) := by
        have hst : ¬ sum (l.take (l.length - 4)) = un4 (l.drop (l.length - 4)) := fun h => by
          have h2 := (take_stands l HL.out (by rw [HN.out]; omega)).2 h
          rw [HN.out, ← HTT.out] at h2
          exact hs h2
        show _ = _; unfold takeF; rw [if_neg (by rw [HN.out]; omega), if_neg hst]
      have hq2 : ((bs t).toList == (bs l).toList) = false := by rw [hq]; exact decide_eq_false hs
      have hq3 : ((bs t).toList != (bs l).toList) = true := by simp [bne, hq2]
      clear hs hq
      go_enter Try.func19, Try.ntmps19
      go_wp2_with fail
      go_region_with (first
        | (go_at_call 18; refine (HPP.out _ (Below.refl _ w).drew).mono ?_; intro e x1 ho; obtain ⟨A1, n1, c1, rfl, eq1, S1⟩ := ho.str; have cb1 := HCB.out _ ((Below.refl _ w).drew.trans S1.out.2.2); rw [List.nil_append, ← HTT.out] at eq1; clear ho))
      all_goals
        have BW := Lib.hid ((Below.refl _ w).drew.trans S1.out.2.2)
        clear eq1 cb1 cb0
        go_wp2_with fail
        go_ret2
        rw [HT.out]
        exact ⟨⟨none, 0, 0, rfl, rfl, Nat.le_refl _, Rd.nil _ _⟩, BW.out⟩
end Go.Proofs.Ytbaafbcdhgfpdaa
