/-
  Rows put together: slices.Concat.
-/
import Derived.Test.YtbbdmajlbofcmaaCol
import Derived.Lib.AppendZerosOnto
import Derived.Laws.AppendOwnNone
namespace Go.Proofs.Ytbbdmajlbofcmaa
open Go.RowKit Dg
set_option maxRecDepth 100000
theorem zerosC (w : World) (n G : Nat) (hG : n ≤ G) (hm : G ≤ maxLen) :
    OwnC w.heap.size (w.drew.alloc (.cells (([] : List Value).toArray ++ Builtin.zeroCells (Value.agg #[.string ⟨#[]⟩, .int .i64 0, .bool false]).cells n ++ Builtin.zeroCells (Value.agg #[.string ⟨#[]⟩, .int .i64 0, .bool false]).cells (G - n)) 37)) (.slice (some ⟨w.heap.size, 0, none⟩) 0 G) [] :=
  World.ownsRow_made (base := w.heap.size) w.drew _ G (Nat.le_refl _) hm (by simp [size_zeroCells, Value.cells]; omega)
/-- A row of slices of bytes, as it is handed to a function that takes any number of them. -/
def PartsC (w : World) (g : Nat) (L : List (Option Addr × List Cl × Nat)) : Prop := ∀ i (h : i < L.length), w.cell? ⟨g, i, none⟩ = some (.slice L[i].1 L[i].2.1.length L[i].2.2) ∧ CRow w L[i].1 L[i].2.1 ∧ (L[i].1 = none → L[i].2.2 = 0)
def catC (L : List (Option Addr × List Cl × Nat)) (k : Nat) : List Cl := (L.take k).flatMap (fun x => x.2.1)
theorem catC_zero (L : List (Option Addr × List Cl × Nat)) : catC L 0 = [] := rfl
theorem catC_succ (L : List (Option Addr × List Cl × Nat)) (k : Nat) (h : k < L.length) : catC L (k + 1) = catC L k ++ L[k].2.1 := by
  unfold catC
  rw [List.take_succ_eq_append_getElem h, List.flatMap_append]
  simp
theorem catC_le (L : List (Option Addr × List Cl × Nat)) (k : Nat) : (catC L k).length ≤ (catC L L.length).length := by
  have h : catC L L.length = catC L k ++ (L.drop k).flatMap (fun x => x.2.1) := by
    unfold catC
    rw [← List.flatMap_append, List.take_append_drop, List.take_length]
  rw [h, List.length_append]
  omega
theorem catC_len_succ (L : List (Option Addr × List Cl × Nat)) (k : Nat) (h : k < L.length) : (catC L (k + 1)).length = (catC L k).length + L[k].2.1.length := by
  rw [catC_succ L k h, List.length_append]
theorem ownC_down {B B' : Nat} {w : World} {v : Value} {l : List Cl} (h : OwnC B w v l) (hb : B' ≤ B) : OwnC B' w v l := by
  obtain ⟨h1, h2⟩ := h
  refine ⟨h1, ?_⟩
  rcases h2 with h2 | ⟨g, cap, cur, e, hg, r⟩
  · exact .inl h2
  · exact .inr ⟨g, cap, cur, e, Nat.le_trans hb hg, r⟩
theorem OwnC.far {B : Nat} {w : World} {v : Value} {L : List Cl} (h : OwnC B w v L) {p : Addr} (hp : p.block < B) (u : Value) : OwnC B (w.setCell p u) v L := by
  rcases h.2 with ⟨hv, hn⟩ | ⟨g, cap, cur, hv, hg, hh, hc, hcm, hsz, ht⟩
  · exact ⟨h.1, .inl ⟨hv, hn⟩⟩
  · exact ⟨h.1, .inr ⟨g, cap, cur, hv, hg, Has.far (t := 37) (cs := cur) hh (by omega) u, hc, hcm, hsz, ht⟩⟩
end Go.Proofs.Ytbbdmajlbofcmaa
