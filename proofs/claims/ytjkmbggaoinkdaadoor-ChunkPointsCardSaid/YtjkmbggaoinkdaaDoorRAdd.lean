/-
  The document's At and Add of works.
-/
import Derived.Test.YtjkmbggaoinkdaaDoorFewW
namespace Go.Proofs.YtjkmbggaoinkdaaDoor
open Go.RowKit Dg
set_option maxRecDepth 100000
set_option maxHeartbeats 2000000 in
theorem rat_any (A : Option Addr) (T : List Wk) (n c : Nat) (s : ByteArray) (w : World) (hn : T.length = n) (hl : n ≤ 1000) (hA : WRow w A T) :
    Calls Tryd.prog 81 #[.slice A n c, .string s] w fun e w' => e = .returned (.int .i64 (watI T s)) ∧ w' = w := by
  have HN := Lib.hid hn
  have HA := Lib.hid hA
  clear hn hA
  go_enter Tryd.func81, Tryd.ntmps81
  go_wp2_with fail
  go_loopw [5] (fun i wr => ∃ k : Nat, k ≤ n ∧ i = .int .i64 k ∧ Hid (∀ j (hj : j < k) (hj2 : j < T.length), (T[j].t.toList == s.toList) = false) ∧ wr = w) (fun i _ => n - (intOf i).toNat)
  case atStart => exact ⟨0, by omega, rfl, (fun j hj => absurd hj (by omega)), rfl⟩
  case round =>
    obtain ⟨k, hk, rfl, HF, rfl⟩ := hrel
    by_cases hlt : k < n
    · have hkl : k < T.length := by rw [HN.out]; exact hlt
      obtain ⟨b, off, rfl, hc⟩ := HA.out (by intro e; rw [e] at hkl; simp at hkl)
      obtain ⟨c0, c1, c2⟩ := hc k hkl
      have HAT := Lib.hid (fun he => watI_at (s := s) hkl he (fun j hj => HF.out j hj (by omega)))
      have HNX : Hid ((T[k].t.toList == s.toList) = false → ∀ j (hj : j < k + 1) (hj2 : j < T.length), (T[j].t.toList == s.toList) = false) := fun he j hj hj2 => by
        by_cases e : j = k
        · subst e; exact he
        · exact HF.out j (by omega) hj2
      clear hc c1 c2
      generalize T[k].t = xa at *
      have hkz : (k : Int) < (n : Int) := by omega
      cases q : (xa.toList == s.toList)
      · go_wp2_with fail
        go_roundw
        case rel => exact ⟨k + 1, by omega, by go_num, HNX.out q, by trivial⟩
        case measure => simp [intOf]; omega
      · go_wp2_with fail
        go_ret
        exact ⟨by rw [HAT.out q]; rfl, by trivial⟩
    · obtain rfl : k = n := by omega
      have HF2 := Lib.hid (watI_none (T := T) (s := s) (fun j hj => HF.out j (by rw [← HN.out]; exact hj) hj))
      go_wp2_with fail
      go_ret
      exact ⟨by rw [HF2.out]; rfl, by trivial⟩
/-- Where a table's work stands among works in order; -1: nowhere. -/
def watS (T : List Wk) (s : ByteArray) : Int := if plW T s = true then (lbW T s : Int) else -1
theorem watS_is {T : List Wk} {s : ByteArray} (hS : SortW T) : watI T s = watS T s := by
  unfold watS watI
  cases h : plW T s
  · rw [if_neg (plW_tat' hS h)]; simp
  · obtain ⟨h1, h2⟩ := plW_tat h
    rw [h2, if_pos h1]; simp
theorem rat11_any {B : Nat} {v : Value} {T : List Wk} (s : ByteArray) (w : World) (h : OwnW B w v T) (hl : T.length ≤ 800) (hS : SortW T) :
    Calls Tryd.prog 81 #[v, .string s] w fun e w' => e = .returned (.int .i64 (watS T s)) ∧ w' = w := by
  obtain ⟨A, n, c, rfl, hn, hc, hm, hr, hz⟩ := ownW_open h
  rw [← watS_is hS]
  exact rat_any A T n c s w hn.out (by have := hn.out; omega) hr.out
/-- The parts of a row of the call's own, cut at k, as they are handed to append. -/
theorem wcut {B : Nat} {w : World} {A : Option Addr} {n c : Nat} {T : List Wk} (h : OwnW B w (.slice A n c) T) (k : Nat) (hk : k ≤ n) :
    T.length = n ∧ (T.take k).length = k ∧ (T.drop k).length = n - k ∧ n ≤ c ∧ c ≤ maxLen ∧ WRow w A (T.take k) ∧ (A = none → c = 0) ∧ (A = none ∨ ∃ b off, A = some ⟨b, off, none⟩) ∧ ∀ b off, A = some ⟨b, off, none⟩ → WRow w (some ⟨b, off + k * 3, none⟩) (T.drop k) := by
  obtain ⟨A2, c2, e, hc, hm, hr, hz⟩ := ownW_row h
  obtain ⟨rfl, rfl, rfl⟩ := slice_inj e
  refine ⟨rfl, by rw [List.length_take]; omega, by rw [List.length_drop], hc, hm, hr.take k, hz, ownW_addr h, fun b off e => ?_⟩
  subst e
  exact hr.drop k
set_option maxHeartbeats 6000000 in
theorem radd_any {B : Nat} {v : Value} {T : List Wk} (s : ByteArray) (w : World) (h : OwnW B w v T) (hl : T.length ≤ 800) (hS : SortW T) :
    Calls Tryd.prog 80 #[v, .string s] w fun e w' => ∃ u, e = .returned (.tuple #[u, .int .i64 (addE T s)]) ∧ Hid (OwnW w.heap.size w' u (addL T s)) ∧ Hid (Below w.heap.size w w') := by
  obtain ⟨A, n, c, rfl, hn, hc, hm, hr, hz⟩ := ownW_open h
  have HO := Lib.hid h
  have HAT := Lib.hid (rat11_any s w h hl hS)
  have hlb := lw_le T s
  rw [hn.out] at hlb
  have HE1 : Hid (addE T s = if nameF s = false then 6 else if plW T s = true then 8 else 0) := rfl
  have HL1 : Hid (addL T s = if nameF s = false ∨ plW T s = true then [] else T.take (lbW T s) ++ [⟨s, false, ⟨#[]⟩⟩] ++ T.drop (lbW T s)) := rfl
  have HLO : Hid (∀ k (_ : k < lbW T s) (hk : k < T.length), Op.bytesLess T[k].t.toList s.toList = true) := fun k h1 h2 => lw_lo h1 h2
  have HHI : Hid (∀ (hk : lbW T s < T.length), Op.bytesLess T[lbW T s].t.toList s.toList = false) := fun hk => lw_hi hS (Nat.le_refl _) hk
  have HNM := Lib.hid (refName_any s w)
  have HN := Lib.hid hn.out
  have HR := Lib.hid hr.out
  have HCUT := Lib.hid (wcut h (lbW T s) hlb)
  have HWS : Hid (watS T s = if plW T s = true then (lbW T s : Int) else -1) := rfl
  clear hn hr hz h hS
  unfold maxLen at hm
  generalize addE T s = aE at *
  generalize addL T s = aL at *
  generalize watS T s = ws at *
  cases hnf : nameF s
  · rw [hnf] at HE1 HL1 HNM
    clear hnf
    go_enter Tryd.func80, Tryd.ntmps80
    go_wp2_with fail
    refine HNM.out.mono ?_
    rintro e w1 ⟨rfl, rfl⟩
    go_wp2_with fail
    go_ret2
    exact ⟨_, by rw [HE1.out]; rfl, by rw [HL1.out]; exact ownW_nil _ _, Below.refl _ _⟩
  · rw [hnf] at HE1 HL1 HNM
    clear hnf
    cases hp : plW T s
    · rw [hp] at HE1 HL1 HWS
      clear hp
      generalize lbW T s = lb at *
      obtain rfl : ws = -1 := HWS.out
      go_enter Tryd.func80, Tryd.ntmps80
      go_wp2_with fail
      refine HNM.out.mono ?_
      rintro e w1 ⟨rfl, rfl⟩
      go_wp2_with fail
      refine HAT.out.mono ?_
      rintro e w1 ⟨rfl, rfl⟩
      go_wp2_with fail
      go_loopw [7] (fun i wr => ∃ k : Nat, k ≤ lb ∧ i = .int .i64 k ∧ wr = w1) (fun i _ => lb - (intOf i).toNat)
      case atStart => exact ⟨0, by omega, rfl, rfl⟩
      case round =>
        obtain ⟨k, hk, rfl, rfl⟩ := hrel
        by_cases hlt : k < lb
        · have hkl : k < T.length := by rw [HN.out]; omega
          obtain ⟨b, off, rfl, hc0⟩ := HR.out (by intro e; rw [e] at hkl; simp at hkl)
          obtain ⟨c0, _, _⟩ := hc0 k hkl
          have hls := HLO.out k hlt hkl
          have hkz : (k : Int) < (n : Int) := by omega
          clear hc0
          generalize T[k].t = xt at *
          go_wp2_with fail
          go_roundw
          case rel => exact ⟨k + 1, by omega, by go_num, by trivial⟩
          case measure => simp [intOf]; omega
        · obtain rfl : k = lb := by omega
          obtain ⟨hq1, hq2, hq3, hq4, hq5, hq6, hq7, hq8, hq9⟩ := HCUT.out
          by_cases hn2 : k < n
          · have hkl : k < T.length := by rw [HN.out]; omega
            obtain ⟨b, off, rfl, hc0⟩ := HR.out (by intro e; rw [e] at hkl; simp at hkl)
            obtain ⟨c0, _, _⟩ := hc0 k hkl
            have hls := HHI.out hkl
            have hkz : (k : Int) < (n : Int) := by omega
            have hct : ¬ c = k := by omega
            clear hc0
            generalize T[k].t = xt at *
            have HA1 := Lib.hid (appWs wr wr.heap.size (.slice none 0 0) [] (ownW_nil _ _) (Nat.le_refl _) (some ⟨b, off, none⟩) (T.take k) k c hq2 hq6 (fun e => by cases e) (by simp <;> omega))
            obtain ⟨R1, W1, hrun1, ho1, hb1⟩ := HA1.out
            obtain ⟨A1, n1, c1, rfl, hn1, hnc1, hcm1, hrr1, hzz1⟩ := ownW_open ho1
            have HA2 := Lib.hid (appW W1 W1.heap.size rfl wr.heap.size (.slice A1 n1 c1) _ ⟨s, false, ⟨#[]⟩⟩ ho1 hb1.size (by rw [List.nil_append, hq2]; omega))
            obtain ⟨R2, W2, hrun2, ho2, hb2⟩ := HA2.out
            obtain ⟨A2, n2, c2, rfl, hn2', hnc2, hcm2, hrr2, hzz2⟩ := ownW_open ho2
            have hbb : Below wr.heap.size wr W2 := hb1.trans hb2
            have HA3 := Lib.hid (appWs W2 wr.heap.size (.slice A2 n2 c2) _ ho2 hbb.size (some ⟨b, off + k * 3, none⟩) (T.drop k) (n - k) (c - k) (by omega) ((hq9 b off rfl).below hbb) (fun e => by cases e) (by rw [List.length_append, List.nil_append, hq2]; simp only [List.length_singleton]; omega))
            obtain ⟨R3, W3, hrun3, ho3, hb3⟩ := HA3.out
            have hFIN : Hid (OwnW wr.heap.size W3 R3 aL) := by show OwnW _ _ _ _; rw [HL1.out]; simpa using ho3
            have hBEL : Hid (Below wr.heap.size wr W3) := hbb.trans hb3
            clear HA1 HA2 HA3 ho1 ho2 ho3 hb1 hb2 hb3 hbb hrr1 hrr2 hn1 hn2' HL1 HCUT hq1 hq2 hq3 hq6 hq9
            go_wp2_with (first | (at_builtin; refine wpList_app rfl _ _ 41 41 rfl (.slice none 0 0) (.slice (some ⟨b, off, none⟩) k c) rfl rfl ⟨_, _, hrun1, ?_⟩) | (at_builtin; refine wpList_app rfl _ _ 41 41 rfl (.slice A1 n1 c1) (.slice (some ⟨W1.heap.size, 0, none⟩) 1 1) rfl rfl ⟨_, _, hrun2, ?_⟩) | (at_builtin; refine wpList_app rfl _ _ 41 41 rfl (.slice A2 n2 c2) (.slice (some ⟨b, off + k * 3, none⟩) ((n - k)) ((c - k))) rfl rfl ⟨_, _, hrun3, ?_⟩))
            go_ret2
            exact ⟨_, by rw [HE1.out]; rfl, hFIN, hBEL⟩
          · obtain rfl : k = n := by omega
            have hkz : ¬ ((k : Int) < (k : Int)) := by omega
            have hkk : (k : Int) ≤ (c : Int) := by omega
            rcases hq8 with rfl | ⟨b, off, rfl⟩
            · obtain rfl := hq7 rfl
              obtain rfl : k = 0 := by omega
              have HA1 := Lib.hid (appWs wr wr.heap.size (.slice none 0 0) [] (ownW_nil _ _) (Nat.le_refl _) none (T.take 0) 0 0 hq2 hq6 (fun _ => rfl) (by simp <;> omega))
              obtain ⟨R1, W1, hrun1, ho1, hb1⟩ := HA1.out
              obtain ⟨A1, n1, c1, rfl, hn1, hnc1, hcm1, hrr1, hzz1⟩ := ownW_open ho1
              have HA2 := Lib.hid (appW W1 W1.heap.size rfl wr.heap.size (.slice A1 n1 c1) _ ⟨s, false, ⟨#[]⟩⟩ ho1 hb1.size (by rw [List.nil_append, hq2]; omega))
              obtain ⟨R2, W2, hrun2, ho2, hb2⟩ := HA2.out
              obtain ⟨A2, n2, c2, rfl, hn2', hnc2, hcm2, hrr2, hzz2⟩ := ownW_open ho2
              have hbb : Below wr.heap.size wr W2 := hb1.trans hb2
              have HA3 := Lib.hid (appWs W2 wr.heap.size (.slice A2 n2 c2) _ ho2 hbb.size none (T.drop 0) 0 0 (by omega) (by rw [List.drop_eq_nil_of_le (by omega)]; exact WRow.nil _ _) (fun _ => rfl) (by rw [List.length_append, List.nil_append, hq2]; simp only [List.length_singleton]; omega))
              obtain ⟨R3, W3, hrun3, ho3, hb3⟩ := HA3.out
              have hFIN : Hid (OwnW wr.heap.size W3 R3 aL) := by show OwnW _ _ _ _; rw [HL1.out]; simpa using ho3
              have hBEL : Hid (Below wr.heap.size wr W3) := hbb.trans hb3
              clear HA1 HA2 HA3 ho1 ho2 ho3 hb1 hb2 hb3 hbb hrr1 hrr2 hn1 hn2' HL1 HCUT hq1 hq2 hq3 hq6 hq9
              go_wp2_with (first | (at_builtin; refine wpList_app rfl _ _ 41 41 rfl (.slice none 0 0) (.slice none 0 0) rfl rfl ⟨_, _, hrun1, ?_⟩) | (at_builtin; refine wpList_app rfl _ _ 41 41 rfl (.slice A1 n1 c1) (.slice (some ⟨W1.heap.size, 0, none⟩) 1 1) rfl rfl ⟨_, _, hrun2, ?_⟩) | (at_builtin; refine wpList_app rfl _ _ 41 41 rfl (.slice A2 n2 c2) (.slice none (0) (0)) rfl rfl ⟨_, _, hrun3, ?_⟩))
              go_ret2
              exact ⟨_, by rw [HE1.out]; rfl, hFIN, hBEL⟩
            · by_cases hct : c = k
              · subst hct
                have HA1 := Lib.hid (appWs wr wr.heap.size (.slice none 0 0) [] (ownW_nil _ _) (Nat.le_refl _) (some ⟨b, off, none⟩) (T.take c) c c hq2 hq6 (fun e => by cases e) (by simp <;> omega))
                obtain ⟨R1, W1, hrun1, ho1, hb1⟩ := HA1.out
                obtain ⟨A1, n1, c1, rfl, hn1, hnc1, hcm1, hrr1, hzz1⟩ := ownW_open ho1
                have HA2 := Lib.hid (appW W1 W1.heap.size rfl wr.heap.size (.slice A1 n1 c1) _ ⟨s, false, ⟨#[]⟩⟩ ho1 hb1.size (by rw [List.nil_append, hq2]; omega))
                obtain ⟨R2, W2, hrun2, ho2, hb2⟩ := HA2.out
                obtain ⟨A2, n2, c2, rfl, hn2', hnc2, hcm2, hrr2, hzz2⟩ := ownW_open ho2
                have hbb : Below wr.heap.size wr W2 := hb1.trans hb2
                have HA3 := Lib.hid (appWs W2 wr.heap.size (.slice A2 n2 c2) _ ho2 hbb.size (some ⟨b, off, none⟩) (T.drop c) 0 0 (by omega) (by rw [List.drop_eq_nil_of_le (by omega)]; exact WRow.nil _ _) (fun e => by cases e) (by rw [List.length_append, List.nil_append, hq2]; simp only [List.length_singleton]; omega))
                obtain ⟨R3, W3, hrun3, ho3, hb3⟩ := HA3.out
                have hFIN : Hid (OwnW wr.heap.size W3 R3 aL) := by show OwnW _ _ _ _; rw [HL1.out]; simpa using ho3
                have hBEL : Hid (Below wr.heap.size wr W3) := hbb.trans hb3
                clear HA1 HA2 HA3 ho1 ho2 ho3 hb1 hb2 hb3 hbb hrr1 hrr2 hn1 hn2' HL1 HCUT hq1 hq2 hq3 hq6 hq9
                go_wp2_with (first | (at_builtin; refine wpList_app rfl _ _ 41 41 rfl (.slice none 0 0) (.slice (some ⟨b, off, none⟩) c c) rfl rfl ⟨_, _, hrun1, ?_⟩) | (at_builtin; refine wpList_app rfl _ _ 41 41 rfl (.slice A1 n1 c1) (.slice (some ⟨W1.heap.size, 0, none⟩) 1 1) rfl rfl ⟨_, _, hrun2, ?_⟩) | (at_builtin; refine wpList_app rfl _ _ 41 41 rfl (.slice A2 n2 c2) (.slice (some ⟨b, off, none⟩) (0) (0)) rfl rfl ⟨_, _, hrun3, ?_⟩))
                go_ret2
                exact ⟨_, by rw [HE1.out]; rfl, hFIN, hBEL⟩
              · have hcc : ¬ c = k := hct
                have HA1 := Lib.hid (appWs wr wr.heap.size (.slice none 0 0) [] (ownW_nil _ _) (Nat.le_refl _) (some ⟨b, off, none⟩) (T.take k) k c hq2 hq6 (fun e => by cases e) (by simp <;> omega))
                obtain ⟨R1, W1, hrun1, ho1, hb1⟩ := HA1.out
                obtain ⟨A1, n1, c1, rfl, hn1, hnc1, hcm1, hrr1, hzz1⟩ := ownW_open ho1
                have HA2 := Lib.hid (appW W1 W1.heap.size rfl wr.heap.size (.slice A1 n1 c1) _ ⟨s, false, ⟨#[]⟩⟩ ho1 hb1.size (by rw [List.nil_append, hq2]; omega))
                obtain ⟨R2, W2, hrun2, ho2, hb2⟩ := HA2.out
                obtain ⟨A2, n2, c2, rfl, hn2', hnc2, hcm2, hrr2, hzz2⟩ := ownW_open ho2
                have hbb : Below wr.heap.size wr W2 := hb1.trans hb2
                have HA3 := Lib.hid (appWs W2 wr.heap.size (.slice A2 n2 c2) _ ho2 hbb.size (some ⟨b, off + k * 3, none⟩) (T.drop k) 0 (c - k) (by omega) ((hq9 b off rfl).below hbb) (fun e => by cases e) (by rw [List.length_append, List.nil_append, hq2]; simp only [List.length_singleton]; omega))
                obtain ⟨R3, W3, hrun3, ho3, hb3⟩ := HA3.out
                have hFIN : Hid (OwnW wr.heap.size W3 R3 aL) := by show OwnW _ _ _ _; rw [HL1.out]; simpa using ho3
                have hBEL : Hid (Below wr.heap.size wr W3) := hbb.trans hb3
                clear HA1 HA2 HA3 ho1 ho2 ho3 hb1 hb2 hb3 hbb hrr1 hrr2 hn1 hn2' HL1 HCUT hq1 hq2 hq3 hq6 hq9
                go_wp2_with (first | (at_builtin; refine wpList_app rfl _ _ 41 41 rfl (.slice none 0 0) (.slice (some ⟨b, off, none⟩) k c) rfl rfl ⟨_, _, hrun1, ?_⟩) | (at_builtin; refine wpList_app rfl _ _ 41 41 rfl (.slice A1 n1 c1) (.slice (some ⟨W1.heap.size, 0, none⟩) 1 1) rfl rfl ⟨_, _, hrun2, ?_⟩) | (at_builtin; refine wpList_app rfl _ _ 41 41 rfl (.slice A2 n2 c2) (.slice (some ⟨b, off + k * 3, none⟩) (0) ((c - k))) rfl rfl ⟨_, _, hrun3, ?_⟩))
                go_ret2
                exact ⟨_, by rw [HE1.out]; rfl, hFIN, hBEL⟩
    · rw [hp] at HE1 HL1 HWS
      clear hp
      obtain rfl : ws = (lbW T s : Int) := HWS.out
      have hz0 : (0 : Int) ≤ (lbW T s : Int) := by omega
      have HLX : Hid (aL = []) := by show _ = _; rw [HL1.out]; rfl
      clear HLO HHI HCUT HL1
      generalize lbW T s = lb at *
      go_enter Tryd.func80, Tryd.ntmps80
      go_wp2_with fail
      refine HNM.out.mono ?_
      rintro e w1 ⟨rfl, rfl⟩
      go_wp2_with fail
      refine HAT.out.mono ?_
      rintro e w1 ⟨rfl, rfl⟩
      go_wp2_with fail
      go_ret2
      exact ⟨_, by rw [HE1.out]; rfl, by rw [HLX.out]; exact ownW_nil _ _, Below.refl _ _⟩
end Go.Proofs.YtjkmbggaoinkdaaDoor
