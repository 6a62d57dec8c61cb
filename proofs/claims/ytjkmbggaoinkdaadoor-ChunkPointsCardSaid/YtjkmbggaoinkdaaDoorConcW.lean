/-
  Rows of works put together: slices.Concat.
-/
import Derived.Test.YtjkmbggaoinkdaaDoorWk
import Derived.Lib.AppendZerosOnto
import Derived.Laws.AppendOwnNone
namespace Go.Proofs.YtjkmbggaoinkdaaDoor
open Go.RowKit Dg
set_option maxRecDepth 100000
theorem zerosW (w : World) (n G : Nat) (hG : n ≤ G) (hm : G ≤ maxLen) :
    OwnW w.heap.size (w.drew.alloc (.cells (([] : List Value).toArray ++ Builtin.zeroCells (Value.agg #[.string ⟨#[]⟩, .bool false, .string ⟨#[]⟩]).cells n ++ Builtin.zeroCells (Value.agg #[.string ⟨#[]⟩, .bool false, .string ⟨#[]⟩]).cells (G - n)) 75)) (.slice (some ⟨w.heap.size, 0, none⟩) 0 G) [] :=
  World.ownsRow_made (base := w.heap.size) w.drew _ G (Nat.le_refl _) hm (by simp [size_zeroCells, Value.cells]; omega)
/-- A row of slices of bytes, as it is handed to a function that takes any number of them. -/
def PartsW (w : World) (g : Nat) (L : List (Option Addr × List Wk × Nat)) : Prop := ∀ i (h : i < L.length), w.cell? ⟨g, i, none⟩ = some (.slice L[i].1 L[i].2.1.length L[i].2.2) ∧ WRow w L[i].1 L[i].2.1 ∧ (L[i].1 = none → L[i].2.2 = 0)
def catW (L : List (Option Addr × List Wk × Nat)) (k : Nat) : List Wk := (L.take k).flatMap (fun x => x.2.1)
theorem catW_zero (L : List (Option Addr × List Wk × Nat)) : catW L 0 = [] := rfl
theorem catW_succ (L : List (Option Addr × List Wk × Nat)) (k : Nat) (h : k < L.length) : catW L (k + 1) = catW L k ++ L[k].2.1 := by
  unfold catW
  rw [List.take_succ_eq_append_getElem h, List.flatMap_append]
  simp
theorem catW_le (L : List (Option Addr × List Wk × Nat)) (k : Nat) : (catW L k).length ≤ (catW L L.length).length := by
  have h : catW L L.length = catW L k ++ (L.drop k).flatMap (fun x => x.2.1) := by
    unfold catW
    rw [← List.flatMap_append, List.take_append_drop, List.take_length]
  rw [h, List.length_append]
  omega
theorem catW_len_succ (L : List (Option Addr × List Wk × Nat)) (k : Nat) (h : k < L.length) : (catW L (k + 1)).length = (catW L k).length + L[k].2.1.length := by
  rw [catW_succ L k h, List.length_append]
end Go.Proofs.YtjkmbggaoinkdaaDoor
