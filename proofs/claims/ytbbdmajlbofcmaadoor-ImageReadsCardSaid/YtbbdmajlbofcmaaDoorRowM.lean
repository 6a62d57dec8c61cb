/-
  A row that is made of any values fits the schema.
-/
import Derived.Test.YtbbdmajlbofcmaaDoorRfits
namespace Go.Proofs.YtbbdmajlbofcmaaDoor
open Go.RowKit Dg
theorem good_k {k : Int} (n : Int) (s : ByteArray) (h0 : 1 ≤ k) (h1 : k ≤ 4) : (Vl.good ⟨k, n, s⟩).k = k := by
  have hk : kind5 k = k := by unfold kind5; rw [if_neg (by omega)]; omega
  have : k = 1 ∨ k = 2 ∨ k = 3 ∨ k = 4 := by omega
  unfold Vl.good
  simp only [hk]
  rcases this with rfl | rfl | rfl | rfl <;> simp
theorem nil_may : vlNil.may = true := by decide +kernel
theorem rowOf_stands (c : Cl) (v : Vl) (h0 : 1 ≤ c.k) (h1 : c.k ≤ 4) : standsF c (rowOf c v) = true := by
  unfold rowOf
  split
  · rename_i h
    unfold standsF
    rw [nil_may, h.1]
    simp [vlNil]
  · unfold standsF
    rw [good_may, good_k _ _ h0 h1]
    simp
theorem rowF_len (M : List Cl) (R : List Vl) : (rowF M R).length = M.length := rowTo_len _ _ _
theorem rowF_get (M : List Cl) (R : List Vl) (i : Nat) (h : i < M.length) : (rowF M R)[i]'(by rw [rowF_len]; exact h) = rowOf M[i] (R.getD i vlNil) := by
  unfold rowF rowTo
  rw [List.getElem_map, List.getElem_range]
  unfold rowAt
  rw [List.getElem?_eq_getElem h]
theorem rowF_fits (M : List Cl) (R : List Vl) (hM : ∀ c ∈ M, 1 ≤ c.k ∧ c.k ≤ 4) : fitsF M (rowF M R) = true := by
  unfold fitsF fitsTo
  rw [rowF_len]
  simp only [decide_true, Bool.true_and]
  rw [List.all_eq_true]
  intro i hi
  have hi' : i < M.length := List.mem_range.1 hi
  rw [List.getElem?_eq_getElem hi', List.getElem?_eq_getElem (by rw [rowF_len]; exact hi'), rowF_get M R i hi']
  have := hM M[i] (List.getElem_mem hi')
  exact rowOf_stands _ _ this.1 this.2
theorem rowOf_fit (c : Cl) (v : Vl) (h0 : 1 ≤ c.k) (h1 : c.k ≤ 4) (hv : v.fits) : (rowOf c v).fits := by
  unfold rowOf
  split
  · exact ⟨⟨by simp [vlNil], by simp [vlNil], by simp [vlNil, empty_zero]⟩, by simp [vlNil], by simp [vlNil]⟩
  · exact good_fits _ ⟨hv.1, by show _ ≤ c.k; omega, by show c.k ≤ _; omega⟩
theorem nil_fits : vlNil.fits := ⟨⟨by simp [vlNil], by simp [vlNil], by simp [vlNil, empty_zero]⟩, by simp [vlNil], by simp [vlNil]⟩
theorem rowF_fit (M : List Cl) (R : List Vl) (hM : ∀ c ∈ M, 1 ≤ c.k ∧ c.k ≤ 4) (hR : ∀ v ∈ R, v.fits) : ∀ x ∈ rowF M R, x.fits := fun x hx => by
  obtain ⟨i, hi, rfl⟩ := List.getElem_of_mem hx
  have hi' : i < M.length := by rw [rowF_len] at hi; exact hi
  rw [rowF_get M R i hi']
  have h := hM M[i] (List.getElem_mem hi')
  refine rowOf_fit _ _ h.1 h.2 ?_
  rw [List.getD_eq_getElem?_getD]
  cases hh : R[i]? with
  | none => exact nil_fits
  | some v => exact hR v (List.mem_of_getElem? hh)
end Go.Proofs.YtbbdmajlbofcmaaDoor
