/-
  Numbers that come in, read as data.
-/
import Derived.Test.YtcdjeibcnkpadaaDoorArgs
import Derived.Deep.Slices
namespace Go.Proofs.YtcdjeibcnkpadaaDoor
open Go.ChangeShapes Go.WideShapes Go.RowKit Go.Joins Go.Deep Go.Lib
set_option maxRecDepth 100000
/-- The cells at A read as the numbers L. -/
def IRow (w : World) (A : Option Addr) (L : List Int) : Prop := L ≠ [] → ∃ b off, A = some ⟨b, off, none⟩ ∧ ∀ i (h : i < L.length), w.cell? ⟨b, off + i, none⟩ = some (.int .i64 L[i])
theorem IRow.below {w w' : World} {A : Option Addr} {L : List Int} (h : IRow w A L) (hb : Below w.heap.size w w') : IRow w' A L := fun hne => by
  obtain ⟨b, off, e, hc⟩ := h hne
  exact ⟨b, off, e, fun i hi => (hb.cell (World.block_lt_of_cell? _ _ (hc i hi))).trans (hc i hi)⟩
section
variable {H : Type} {enc : TypeId × Value → H} {w : World} {base : Nat} {spare : Nat → Bool} {held : Bool}
/-- Numbers that came in. -/
theorem nums_in {r : Reach} {b0 : Nat} {v : Value} {d : DataW H} {p : List MemPlace} (hv : Value.okWide Tryd.prog w r b0 64 v) (h : DataW.Trod enc Tryd.prog w base spare held 64 v d p) :
    ∃ (A : Option Addr) (len cap : Nat) (L : List Int), v = .slice A len cap ∧ L.length = len ∧ len ≤ cap ∧ cap ≤ maxLen ∧ IRow w A L ∧ ∀ x ∈ L, -9223372036854775808 ≤ x ∧ x ≤ 9223372036854775807 := by
  obtain ⟨a, l0, c0, rfl⟩ := okWide_slice Tryd.underlying64 hv
  obtain ⟨fuel, hf⟩ := h
  rcases open_ints Tryd.underlying64 Tryd.underlying3 (by kernel_rfl) hf with ⟨hcs, _⟩ | ⟨x, len, cap, zs, hcs, _, h1, h2, hz, _, hc, hw⟩
  · simp [Value.cells] at hcs
    obtain ⟨rfl, rfl, rfl⟩ := hcs
    exact ⟨none, 0, 0, [], rfl, rfl, Nat.le_refl _, Nat.zero_le _, fun h => absurd rfl h, fun _ h => (by cases h)⟩
  · simp [Value.cells] at hcs
    obtain ⟨rfl, rfl, rfl⟩ := hcs
    have h3 : l0 ≤ zs.length := by
      rw [show zs.length = _ by simpa using hz]
      first | exact h1 | (split <;> omega)
    refine ⟨some x, l0, c0, zs.take l0, rfl, by rw [List.length_take]; omega, h1, h2, fun hl => ?_, fun z hz => bounds_int (hw z (List.mem_of_mem_take hz))⟩
    have hp : 0 < zs.length := by
      rcases zs with _ | ⟨z, zs⟩
      · simp at hl
      · simp
    obtain ⟨b, off, rfl, hc'⟩ := ints_at hc hp
    refine ⟨b, off, rfl, fun i hi => ?_⟩
    rw [List.length_take] at hi
    rw [hc' i (by omega), List.getD_eq_getElem?_getD, List.getElem?_eq_getElem (by omega), List.getElem_take]
    rfl
end
end Go.Proofs.YtcdjeibcnkpadaaDoor
