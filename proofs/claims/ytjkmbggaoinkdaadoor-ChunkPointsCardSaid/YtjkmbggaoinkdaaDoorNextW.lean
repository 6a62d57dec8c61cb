/-
  The next work: the program's Next, and the document's.
-/
import Derived.Test.YtjkmbggaoinkdaaDoorRGood
import Derived.Laws.ResultCell
namespace Go.Proofs.YtjkmbggaoinkdaaDoor
open Go.RowKit Dg
set_option maxRecDepth 100000
/-- The place of the first work that is not done. -/
def fstN (T : List Wk) : Nat := T.findIdx fun x => !x.d
/-- The next work, and whether there is one. -/
def nextV (T : List Wk) : Value := match T[fstN T]? with
  | some x => .tuple #[.agg #[.string x.t, .bool x.d, .string x.k], .bool true]
  | none => .tuple #[.agg #[.string ⟨#[]⟩, .bool false, .string ⟨#[]⟩], .bool false]
theorem fstN_at {T : List Wk} {k : Nat} (h : k < T.length) (he : T[k].d = false) (hb : ∀ j (hj : j < k), (T[j]'(by omega)).d = true) : fstN T = k := by
  unfold fstN
  rw [List.findIdx_eq h]
  exact ⟨by simp [he], fun j hj => by simp [hb j hj]⟩
theorem nextV_at {T : List Wk} {k : Nat} (h : k < T.length) (he : T[k].d = false) (hb : ∀ j (hj : j < k), (T[j]'(by omega)).d = true) : nextV T = .tuple #[.agg #[.string T[k].t, .bool T[k].d, .string T[k].k], .bool true] := by
  unfold nextV; rw [fstN_at h he hb, List.getElem?_eq_getElem h]
theorem nextV_none {T : List Wk} (hb : ∀ j (hj : j < T.length), T[j].d = true) : nextV T = .tuple #[.agg #[.string ⟨#[]⟩, .bool false, .string ⟨#[]⟩], .bool false] := by
  have e : fstN T = T.length := by
    unfold fstN
    exact List.findIdx_eq_length.2 fun x hx => by
      obtain ⟨j, hj, rfl⟩ := List.getElem_of_mem hx
      simp [hb j hj]
  unfold nextV; rw [e, List.getElem?_eq_none (Nat.le_refl _)]
theorem wEnd2 {fn : Func} {p u : Tmp} (h : fn.results = #[.cell p 75, .tmp u]) (w' : World) (g : Nat) (c0 c1 c2 : Value) (tmps : Array Value) (hp : tmps.getD p undef = .pointer (some ⟨g, 0, none⟩)) (hh : Has w' g 75 #[c0, c1, c2]) :
    (results fn tmps).run Tryd.prog w' = .ok (.tuple #[.agg #[c0, c1, c2], tmps.getD u undef]) w' := by
  rw [results_cell_tmp h, hp]
  simp only [asAddr, Sem.run_pure, Result.andThen_ok]
  rw [run_loadVar_row w' g 75 75 #[c0, c1, c2] (0, 0) _ hh Tryd.underlying75 rfl (by kernel_rfl)]
  rfl
theorem hput3 {W : World} {g : Nat} {t : TypeId} {a0 a1 a2 : Value} (h : Has W g t #[a0, a1, a2]) (u0 u1 u2 : Value) : Has (((W.setCell ⟨g, 0, none⟩ u0).setCell ⟨g, 1, none⟩ u1).setCell ⟨g, 2, none⟩ u2) g t #[u0, u1, u2] := ((h.put 0 u0).put 1 u1).put 2 u2
theorem bput3 {w W : World} {g B : Nat} (hg : B ≤ g) (h : Below B w W) (u0 u1 u2 : Value) : Below B w (((W.setCell ⟨g, 0, none⟩ u0).setCell ⟨g, 1, none⟩ u1).setCell ⟨g, 2, none⟩ u2) :=
  ((h.setCell (p := ⟨g, 0, none⟩) hg u0).setCell (p := ⟨g, 1, none⟩) hg u1).setCell (p := ⟨g, 2, none⟩) hg u2
end Go.Proofs.YtjkmbggaoinkdaaDoor
