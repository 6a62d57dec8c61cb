/-
  Bytes of a call's own, read; texts as bytes.
-/
import Derived.Test.YtbbdmajlbofcmaaLyPut
namespace Go.Proofs.Ytbbdmajlbofcmaa
open Go.RowKit Dg
theorem rd_none {w : World} {l : List Nat} (h : Rd w none l) : l = [] := by
  rcases l with _ | ⟨x, l⟩
  · rfl
  · obtain ⟨b, off, e, _⟩ := h (by simp)
    cases e
theorem rd_owned {w : World} {base c : Nat} {l : List Nat} {A : Option Addr} (h : w.ownsRow base 5 1 (.slice A l.length c) l.length (l.map bv)) : l.length ≤ c ∧ Rd w A l := by
  rcases h.2 with ⟨e, hn⟩ | ⟨g, cap, cur, e, _, hh, hc, _, _, ht⟩
  · injection e with e1 e2 e3
    refine ⟨by omega, ?_⟩
    rw [List.eq_nil_of_length_eq_zero hn]
    exact Rd.nil _ _
  · injection e with e1 e2 e3
    subst e1; subst e3
    refine ⟨hc, Rd.of_has (t := 5) (cs := cur) hh fun i hi => ?_⟩
    have h1 : (l.map bv)[i]? = some (bv l[i]) := by simp [hi]
    rw [← ht, List.getElem?_take, if_pos (by omega)] at h1
    simpa using h1
def txt (s : ByteArray) : List Nat := digs s.size ++ sb s
theorem txt_pos (s : ByteArray) : 0 < (txt s).length := by
  unfold txt; rw [List.length_append]; have := digs_pos s.size; omega
theorem txt_le (s : ByteArray) (h : s.size ≤ 200) : (txt s).length ≤ 210 := by
  unfold txt; rw [List.length_append, sb_length]; have := digs_le_ten s.size (by omega); omega
theorem txt_byte (s : ByteArray) : ∀ x ∈ txt s, x < 256 := by
  intro x hx
  rcases List.mem_append.1 hx with h | h
  · exact digs_byte _ x h
  · exact sb_byte s x h
end Go.Proofs.Ytbbdmajlbofcmaa
