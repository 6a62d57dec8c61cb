/-
  The tables t00, t01 and so on: in order, and such as may be. Mathematics.
-/
import Derived.Test.YtiefogofiajmnaaDoorPFol
namespace Go.Proofs.YtiefogofiajmnaaDoor
open Go.RowKit Dg
def tnm (i : Nat) : ByteArray := ⟨#[116, UInt8.ofNat (48 + i / 10), UInt8.ofNat (48 + i % 10)]⟩
def idL : List Cl := [⟨⟨#[105, 100]⟩, 2, false⟩]
def mnD (k : Nat) : List Td := (List.range k).map fun i => ⟨tnm i, idL, 1⟩
theorem mnD_len (k : Nat) : (mnD k).length = k := by simp [mnD]
theorem mnD_get (k i : Nat) (h : i < (mnD k).length) : (mnD k)[i] = ⟨tnm i, idL, 1⟩ := by simp [mnD]
theorem mnD_succ (k : Nat) : mnD (k + 1) = mnD k ++ [⟨tnm k, idL, 1⟩] := by simp [mnD, List.range_succ]
theorem tnm_name (i : Nat) (h : i < 70) : nameF (tnm i) = true := by
  have : ∀ i : Fin 70, nameF (tnm i.1) = true := by decide +kernel
  exact this ⟨i, h⟩
theorem tnm_less (i j : Nat) (h : i < j) (hj : j < 70) : Op.bytesLess (tnm i).toList (tnm j).toList = true := by
  have : ∀ j : Fin 70, ∀ i : Fin j.1, Op.bytesLess (tnm i.1).toList (tnm j.1).toList = true := by decide +kernel
  exact this ⟨j, hj⟩ ⟨i, h⟩
theorem idL_may : smayF idL 1 = true := by decide +kernel
theorem mnD_sort (k : Nat) (hk : k ≤ 70) : SortD (mnD k) := by
  unfold SortD
  rw [List.pairwise_iff_getElem]
  intro i j hi hj hij
  rw [mnD_get, mnD_get]
  rw [mnD_len] at hj
  exact tnm_less i j hij (by omega)
theorem mnD_lb (k i : Nat) (hki : k ≤ i) (hi : i < 70) : lbD (mnD k) (tnm i) = k := by
  unfold lbD
  have : (mnD k).findIdx (fun x => !Op.bytesLess x.nm.toList (tnm i).toList) = (mnD k).length := List.findIdx_eq_length.2 fun x hx => by
    obtain ⟨j, hj, rfl⟩ := List.getElem_of_mem hx
    rw [mnD_get]
    rw [mnD_len] at hj
    rw [tnm_less j i (by omega) hi]; rfl
  rw [this, mnD_len]
theorem mnD_pl (k i : Nat) (hki : k ≤ i) (hi : i < 70) : plD (mnD k) (tnm i) = false := by
  unfold plD
  rw [mnD_lb k i hki hi, List.getElem?_eq_none (by rw [mnD_len]; omega)]
theorem many_E {T : List Tb} {k i : Nat} (hT : tds T = mnD k) (hki : k ≤ i) (hi : i < 70) : fcE T (tnm i) idL 1 = if 64 ≤ k then 13 else 0 := by
  have hp : plF T (tnm i) = false := by rw [plF_d, hT]; exact mnD_pl k i hki hi
  have hl : T.length = k := by rw [← tds_len, hT, mnD_len]
  split
  · exact fcE_many (tnm_name i hi) hp idL_may (by omega)
  · exact fcE_ok (tnm_name i hi) hp idL_may (by omega)
theorem many_D {T : List Tb} {k : Nat} {cn : ByteArray} {kd : Int} {no : Bool} (hT : tds T = mnD k) (hk : k < 64) : foD T 1 (tnm k) idL 1 cn kd no = mnD (k + 1) := by
  have hE := many_E hT (Nat.le_refl k) (by omega)
  rw [if_neg (by omega)] at hE
  rw [foD_c hE, lbN_d, hT, mnD_lb k k (Nat.le_refl k) (by omega), mnD_succ]
  rw [List.take_of_length_le (by rw [mnD_len]; omega), List.drop_of_length_le (by rw [mnD_len]; omega), List.append_nil]
theorem many_right {T : List Tb} {k : Nat} (hT : tds T = mnD k) (hk : k ≤ 64) : rightF T = true := by
  refine right_is ((sort_d T).2 (by rw [hT]; exact mnD_sort k (by omega))) (fun x hx => ?_) (by rw [← tds_len, hT, mnD_len]; exact hk)
  have hm : x.td ∈ mnD k := by rw [← hT]; exact List.mem_map_of_mem hx
  obtain ⟨j, hj, he⟩ := List.getElem_of_mem hm
  rw [mnD_get] at he
  rw [mnD_len] at hj
  have h1 : x.nm = tnm j := (congrArg Td.nm he).symm
  have h2 : x.L = idL := (congrArg Td.L he).symm
  have h3 : x.K = 1 := (congrArg Td.K he).symm
  rw [h1, h2, h3]
  exact ⟨tnm_name j (by omega), idL_may⟩
end Go.Proofs.YtiefogofiajmnaaDoor
