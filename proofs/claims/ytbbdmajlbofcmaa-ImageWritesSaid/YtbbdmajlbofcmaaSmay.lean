/-
  Which schemas may be: the program's May and the document's.
-/
import Derived.Test.YtbbdmajlbofcmaaFind
namespace Go.Proofs.Ytbbdmajlbofcmaa
open Go.RowKit Dg
/-- May the column at place i of a schema be? -/
def colOk (L : List Cl) (K : Int) (i : Nat) : Bool := match L[i]? with
  | some c => nameF c.nm && (findI L c.nm == (i : Int)) && kindF c.k && !(c.no && decide ((i : Int) < K))
  | none => true
def colsTo (L : List Cl) (K : Int) (k : Nat) : Bool := (List.range k).all fun i => colOk L K i
theorem colsTo_succ (L : List Cl) (K : Int) (k : Nat) : colsTo L K (k + 1) = (colsTo L K k && colOk L K k) := by
  unfold colsTo; rw [List.range_succ, List.all_append]; simp
theorem colsTo_false (L : List Cl) (K : Int) (k n : Nat) (hk : k < n) (h : colOk L K k = false) : colsTo L K n = false := by
  unfold colsTo; rw [List.all_eq_false]
  exact ⟨k, List.mem_range.2 hk, by simp [h]⟩
theorem colOk_at (L : List Cl) (K : Int) (k : Nat) (h : k < L.length) : colOk L K k = (nameF L[k].nm && (findI L L[k].nm == (k : Int)) && kindF L[k].k && !(L[k].no && decide ((k : Int) < K))) := by
  unfold colOk; rw [List.getElem?_eq_getElem h]
def smayF (L : List Cl) (K : Int) : Bool := decide (1 ≤ L.length) && decide (L.length ≤ 16) && decide (1 ≤ K) && decide (K ≤ 4) && decide (K ≤ L.length) && colsTo L K L.length
theorem smayF_yes {L : List Cl} {K : Int} (h0 : 1 ≤ L.length) (h1 : L.length ≤ 16) (h2 : 1 ≤ K) (h3 : K ≤ 4) (h4 : K ≤ L.length) : smayF L K = colsTo L K L.length := by
  unfold smayF; simp [h0, h1, h2, h3, h4]
theorem smayF_no {L : List Cl} {K : Int} (h : ¬ (1 ≤ L.length ∧ L.length ≤ 16 ∧ 1 ≤ K ∧ K ≤ 4 ∧ K ≤ L.length)) : smayF L K = false := by
  cases e : smayF L K
  · rfl
  · unfold smayF at e; simp at e; omega
theorem findI_early {L : List Cl} {s : ByteArray} {j k : Nat} (hjk : j < k) (hk : k < L.length) (he : (L[j].nm.toList == s.toList) = true) : (findI L s == (k : Int)) = false := by
  have h : findN L s ≤ j := by
    by_cases hh : findN L s ≤ j
    · exact hh
    · have := List.not_of_lt_findIdx (p := fun c : Cl => c.nm.toList == s.toList) (xs := L) (i := j) (by unfold findN at hh; omega)
      rw [he] at this; cases this
  unfold findI
  split
  · simp; omega
  · simp
end Go.Proofs.Ytbbdmajlbofcmaa
