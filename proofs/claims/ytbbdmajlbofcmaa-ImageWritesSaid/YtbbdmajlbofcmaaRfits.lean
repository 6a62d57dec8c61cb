/-
  Which rows fit a schema: the document's stands and Fits.
-/
import Derived.Test.YtbbdmajlbofcmaaRow4
import Derived.Test.YtbbdmajlbofcmaaCmp
import Derived.Test.YtbbdmajlbofcmaaPutC
import Derived.Deep.RegionHeld3
namespace Go.Proofs.Ytbbdmajlbofcmaa
open Go.RowKit Dg
def standsF (c : Cl) (v : Vl) : Bool := v.may && (v.k == c.k || (v.k == 0 && c.no))
def fitsTo (M : List Cl) (R : List Vl) (k : Nat) : Bool := (List.range k).all fun i => match M[i]?, R[i]? with | some c, some v => standsF c v | _, _ => true
theorem fitsTo_succ (M : List Cl) (R : List Vl) (k : Nat) (h : k < M.length) (h' : k < R.length) : fitsTo M R (k + 1) = (fitsTo M R k && standsF M[k] R[k]) := by
  unfold fitsTo; rw [List.range_succ, List.all_append]; simp [h, h']
theorem fitsTo_false (M : List Cl) (R : List Vl) (k n : Nat) (hk : k < n) (h : k < M.length) (h' : k < R.length) (hs : standsF M[k] R[k] = false) : fitsTo M R n = false := by
  unfold fitsTo; rw [List.all_eq_false]
  exact ⟨k, List.mem_range.2 hk, by simp [h, h', hs]⟩
def fitsF (M : List Cl) (R : List Vl) : Bool := decide (R.length = M.length) && fitsTo M R M.length
end Go.Proofs.Ytbbdmajlbofcmaa
