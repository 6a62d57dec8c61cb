/-
  The program's put of works.
-/
import Derived.Test.YtjmfcbfjeoooeaaDoorConcW
import Derived.Deep.RegionHeld3
namespace Go.Proofs.YtjmfcbfjeoooeaaDoor
open Go.RowKit Dg
set_option maxRecDepth 100000
theorem wd1 {w W : World} (h : Hid (Below w.heap.size w W)) (o : Obj) : Hid (Below w.heap.size w (W.alloc o).drew) := (h.out.alloc h.out.size o).drew
/-- Three rows put together. -/
theorem wcat3_any (g : Nat) (A1 A2 A3 : Option Addr) (T1 T2 T3 : List Wk) (n1 c1 n2 c2 n3 c3 : Nat) (w : World) (h1 : T1.length = n1) (h2 : T2.length = n2) (h3 : T3.length = n3) (hl : n1 + n2 + n3 ≤ 1000)
    (hc0 : w.cell? ⟨g, 0, none⟩ = some (.slice A1 n1 c1)) (hc1 : w.cell? ⟨g, 1, none⟩ = some (.slice A2 n2 c2)) (hc2 : w.cell? ⟨g, 2, none⟩ = some (.slice A3 n3 c3))
    (r1 : WRow w A1 T1) (r2 : WRow w A2 T2) (r3 : WRow w A3 T3) (z1 : A1 = none → c1 = 0) (z2 : A2 = none → c2 = 0) (z3 : A3 = none → c3 = 0) :
    Calls Tryd.prog 88 #[.slice (some ⟨g, 0, none⟩) 3 3] w fun e w' => ∃ v, e = .returned v ∧ Hid (OwnW w.heap.size w' v (T1 ++ T2 ++ T3)) ∧ Hid (Below w.heap.size w w') := by
  have hcat : catW [(A1, T1, c1), (A2, T2, c2), (A3, T3, c3)] 3 = T1 ++ T2 ++ T3 := by simp [catW]
  have hC := concatW_any g [(A1, T1, c1), (A2, T2, c2), (A3, T3, c3)] 3 3 w rfl (by omega) (fun i hi => by
    have : i = 0 ∨ i = 1 ∨ i = 2 := by simp at hi; omega
    rcases this with rfl | rfl | rfl
    · exact ⟨by rw [hc0]; simp [h1], r1, z1⟩
    · exact ⟨by rw [hc1]; simp [h2], r2, z2⟩
    · exact ⟨by rw [hc2]; simp [h3], r3, z3⟩) (by rw [hcat]; simp; omega)
  rw [hcat] at hC
  exact hC
/-- The same of rows that lie at an elder world. -/
theorem wcatput_any (w W : World) (hb : Below w.heap.size w W) (A1 A2 A3 : Option Addr) (T1 T2 T3 : List Wk) (n1 c1 n2 c2 n3 c3 : Nat) (h1 : T1.length = n1) (h2 : T2.length = n2) (h3 : T3.length = n3) (hl : n1 + n2 + n3 ≤ 1000)
    (r1 : WRow w A1 T1) (r2 : WRow w A2 T2) (r3 : WRow w A3 T3) (z1 : A1 = none → c1 = 0) (z2 : A2 = none → c2 = 0) (z3 : A3 = none → c3 = 0) :
    Calls Tryd.prog 88 #[.slice (some ⟨W.heap.size, 0, none⟩) 3 3] (W.alloc (.cells #[.slice A1 n1 c1, .slice A2 n2 c2, .slice A3 n3 c3] 22)).drew fun e w' => ∃ v, e = .returned v ∧ Hid (OwnW W.heap.size w' v (T1 ++ T2 ++ T3)) ∧ Hid (Below W.heap.size W w') := by
  have hb2 : Below w.heap.size w (W.alloc (.cells #[.slice A1 n1 c1, .slice A2 n2 c2, .slice A3 n3 c3] 22)).drew := (hb.alloc hb.size _).drew
  have hh := (Has.new W 22 #[.slice A1 n1 c1, .slice A2 n2 c2, .slice A3 n3 c3]).drew
  refine (wcat3_any W.heap.size A1 A2 A3 T1 T2 T3 n1 c1 n2 c2 n3 c3 _ h1 h2 h3 hl (hh.cell 0) (hh.cell 1) (hh.cell 2) (r1.below hb2) (r2.below hb2) (r3.below hb2) z1 z2 z3).mono ?_
  rintro e w' ⟨v, rfl, ho, hb'⟩
  exact ⟨v, rfl, ownW_down ho.out (by simp), (((Below.refl W.heap.size W).alloc (Nat.le_refl _) _).drew).trans (hb'.out.mono (by simp))⟩
set_option maxHeartbeats 6000000 in
theorem wput_any (A : Option Addr) (T : List Wk) (n c f t : Nat) (B : Option Addr) (X : List Wk) (m d : Nat) (w : World) (hn : T.length = n) (hnc : n ≤ c) (hcm : c ≤ maxLen) (hft : f ≤ t) (htn : t ≤ n) (hl : n ≤ 900) (hA : WRow w A T) (hA0 : A = none → c = 0) (hA1 : A = none ∨ ∃ b off, A = some ⟨b, off, none⟩) (hX : X.length = m) (hm : m ≤ 1) (hB : WRow w B X) (hB0 : B = none → d = 0) :
    Calls Tryd.prog 51 #[.slice A n c, .int .i64 f, .int .i64 t, .slice B m d] w fun e w' => ∃ v, e = .returned v ∧ Hid (OwnW w.heap.size w' v (T.take f ++ X ++ T.drop t)) ∧ Hid (Below w.heap.size w w') := by
  have hlt : (T.take f).length = f := by rw [List.length_take]; omega
  have hld : (T.drop t).length = n - t := by rw [List.length_drop, hn]
  obtain ⟨T0, hT0⟩ : ∃ T0, T.take f ++ X ++ T.drop t = T0 := ⟨_, rfl⟩
  have z1 : (f : Int) ≤ (t : Int) := by omega
  have z2 : (t : Int) ≤ (n : Int) := by omega
  have z3 : (n : Int) ≤ (c : Int) := by omega
  have z4 : (f : Int) ≤ (c : Int) := by omega
  have z5 : (t : Int) ≤ (c : Int) := by omega
  unfold maxLen at hcm
  rcases hA1 with rfl | ⟨b, off, rfl⟩
  · obtain rfl : c = 0 := hA0 rfl
    obtain rfl : n = 0 := by omega
    obtain rfl : t = 0 := by omega
    obtain rfl : f = 0 := by omega
    have HC := Lib.hid (wcatput_any w w (Below.refl _ w) none B none (T.take 0) X (T.drop 0) 0 0 m d 0 0 hlt hX hld (by omega) (by rw [List.take_zero]; exact WRow.nil _ _) hB (by rw [List.eq_nil_of_length_eq_zero hn]; exact WRow.nil _ _) (fun _ => rfl) hB0 (fun _ => rfl))
    rw [hT0] at HC ⊢
    clear hA hA0 hX hB hB0 hlt hld hT0 hn
    have hb0 : Hid (Below w.heap.size w w.drew) := (Below.refl _ w).drew
    have hbr : Hid (Below w.heap.size w w) := Below.refl _ w
    go_enter Tryd.func51, Tryd.ntmps51
    go_wp2_with fail
    go_region_held3 (fun X => Hid (Below w.heap.size w X)) (first | assumption | exact wd1 (by assumption) _)
      (first | (go_at_call 88; refine HC.out.mono ?_; rintro e x1 ⟨v, rfl, ho, hbx⟩))
    all_goals
      go_wp2_with fail
      go_ret
      exact ⟨_, rfl, by assumption, by assumption⟩
  · by_cases hct : c = t
    · obtain rfl := hct.symm
      have hnt : t = n := by omega
      subst hnt
      have HC := Lib.hid (wcatput_any w w (Below.refl _ w) (some ⟨b, off, none⟩) B (some ⟨b, off, none⟩) (T.take f) X (T.drop t) f t m d 0 0 hlt hX (by omega) (by omega) (hA.take f) hB (by rw [List.drop_eq_nil_of_le (by omega)]; exact WRow.nil _ _) (fun e => by cases e) hB0 (fun e => by cases e))
      rw [hT0] at HC ⊢
      clear hA hA0 hX hB hB0 hlt hld hT0 hn
      have hb0 : Hid (Below w.heap.size w w.drew) := (Below.refl _ w).drew
      have hbr : Hid (Below w.heap.size w w) := Below.refl _ w
      go_enter Tryd.func51, Tryd.ntmps51
      go_wp2_with fail
      go_region_held3 (fun X => Hid (Below w.heap.size w X)) (first | assumption | exact wd1 (by assumption) _)
        (first | (go_at_call 88; refine HC.out.mono ?_; rintro e x1 ⟨v, rfl, ho, hbx⟩))
      all_goals
        go_wp2_with fail
        go_ret
        exact ⟨_, rfl, by assumption, by assumption⟩
    · have HC := Lib.hid (wcatput_any w w (Below.refl _ w) (some ⟨b, off, none⟩) B (some ⟨b, off + t * 3, none⟩) (T.take f) X (T.drop t) f c m d (n - t) (c - t) hlt hX hld (by omega) (hA.take f) hB (hA.drop t) (fun e => by cases e) hB0 (fun e => by cases e))
      rw [hT0] at HC ⊢
      clear hA hA0 hX hB hB0 hlt hld hT0 hn
      have hb0 : Hid (Below w.heap.size w w.drew) := (Below.refl _ w).drew
      have hbr : Hid (Below w.heap.size w w) := Below.refl _ w
      go_enter Tryd.func51, Tryd.ntmps51
      go_wp2_with fail
      go_region_held3 (fun X => Hid (Below w.heap.size w X)) (first | assumption | exact wd1 (by assumption) _)
        (first | (go_at_call 88; refine HC.out.mono ?_; rintro e x1 ⟨v, rfl, ho, hbx⟩))
      all_goals
        go_wp2_with fail
        go_ret
        exact ⟨_, rfl, by assumption, by assumption⟩
end Go.Proofs.YtjmfcbfjeoooeaaDoor
