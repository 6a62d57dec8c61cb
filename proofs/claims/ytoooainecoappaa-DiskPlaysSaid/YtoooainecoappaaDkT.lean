/-
  The program's tear: of a file's loose bytes a beginning is kept, the others are gone.
-/
import Derived.Test.YtoooainecoappaaDkPs
import Derived.RegionTactic
namespace Go.Proofs.Ytoooainecoappaa
open Go.RowKit Go.Maps Go.WideShapes Go.WideMaps
theorem Tur.drew3 (X : List Nat) (w : World) : Tur X w w.drew.drew.drew := ⟨rfl, rfl, rfl, Nat.le_refl _, fun _ _ _ => rfl⟩
/-- How many bytes are kept. -/
def tornK (L k : Nat) (n : Int) : Nat := k + (if n < 0 then (-1 - n).toNat else n.toNat) % (L - k + 1)
theorem tornK_le {L k : Nat} (n : Int) (h : k ≤ L) : tornK L k n ≤ L := by
  unfold tornK
  have := Nat.mod_lt (if n < 0 then (-1 - n).toNat else n.toNat) (show 0 < L - k + 1 by omega)
  omega
set_option maxHeartbeats 2000000 in
set_option maxRecDepth 100000 in
theorem tear_walk (w : World) (g : Nat) (A : Option Addr) (L c k : Nat) (n : Int) (hg : Has w g 99 #[.slice A L c, .int .i64 k]) (hk : k ≤ L) (hL : L ≤ c) (hc : c ≤ maxLen) (hl : L ≤ 1000000) (hn : -9223372036854775808 ≤ n ∧ n ≤ 9223372036854775807) :
    Calls Try.prog 69 #[.pointer (some ⟨g, 0, none⟩), .int .i64 n] w fun e w' => e = .returned (.tuple #[]) ∧
      Hid (Has w' g 99 #[.slice A (tornK L k n) c, .int .i64 (tornK L k n)]) ∧ Hid (Tur [g] w w') := by
  obtain ⟨N, hN⟩ : ∃ N : Nat, (if n < 0 then -1 - n else n) = (N : Int) := ⟨(if n < 0 then -1 - n else n).toNat, by split <;> omega⟩
  have hT : tornK L k n = k + N % (L - k + 1) := by
    unfold tornK
    congr 2
    split <;> rename_i h <;> simp only [h, if_true, if_false] at hN <;> omega
  have HT := Lib.hid hT
  clear hT
  have hN2 : (N : Int) ≤ 9223372036854775807 := by split at hN <;> omega
  have hmod : (N : Int).tmod ((L : Int) - (k : Int) + 1) = ((N % (L - k + 1) : Nat) : Int) := by
    have e : (L : Int) - (k : Int) + 1 = ((L - k + 1 : Nat) : Int) := by omega
    rw [e]
    exact (Int.ofNat_tmod N (L - k + 1)).symm
  have hML := Nat.mod_lt N (show 0 < L - k + 1 by omega)
  generalize hM : N % (L - k + 1) = M at *
  have g0 := hg.cell 0
  have g1 := hg.cell 1
  have z0 := hg.free 0
  have z1 := hg.free 1
  have HG := Lib.hid hg
  clear hg
  have a1 : -9223372036854775808 ≤ (L : Int) - (k : Int) := by omega
  have a2 : (L : Int) - (k : Int) ≤ 9223372036854775807 := by omega
  have a3 : ((L : Int) - (k : Int) + 1 == 0) = false := by simp; omega
  have hcI : (c : Int) ≤ 9223372036854775807 := by unfold maxLen at hc; omega
  by_cases hneg : n < 0
  · rw [if_pos hneg] at hN
    have b1 : -9223372036854775808 ≤ -1 - n := by omega
    have b2 : -1 - n ≤ 9223372036854775807 := by omega
    go_enter Try.func69, Try.ntmps69
    go_wp2_with fail
    go_region
    all_goals go_wp2_with fail
    all_goals go_region
    all_goals go_wp2_with fail
    all_goals go_region
    all_goals go_wp2_with fail
    all_goals go_end0
    all_goals rw [HT.out]
    all_goals exact ⟨rfl, ((HG.out.put 1 (.int .i64 ((k + M : Nat) : Int))).put 0 (.slice A (k + M) c)).drewN 3, ((Tur.setCell w (p := ⟨g, 1, none⟩) (by simp) _).trans (Tur.setCell _ (p := ⟨g, 0, none⟩) (by simp) _) (Fre.refl _ _)).trans (Tur.drew3 _ _) (Fre.refl _ _)⟩
  · rw [if_neg hneg] at hN
    subst hN
    have b1 : (0 : Int) ≤ (N : Int) := by omega
    go_enter Try.func69, Try.ntmps69
    go_wp2_with fail
    go_region
    all_goals go_wp2_with fail
    all_goals go_region
    all_goals go_wp2_with fail
    all_goals go_region
    all_goals go_wp2_with fail
    all_goals go_end0
    all_goals rw [HT.out]
    all_goals exact ⟨rfl, ((HG.out.put 1 (.int .i64 ((k + M : Nat) : Int))).put 0 (.slice A (k + M) c)).drewN 3, ((Tur.setCell w (p := ⟨g, 1, none⟩) (by simp) _).trans (Tur.setCell _ (p := ⟨g, 0, none⟩) (by simp) _) (Fre.refl _ _)).trans (Tur.drew3 _ _) (Fre.refl _ _)⟩
end Go.Proofs.Ytoooainecoappaa
