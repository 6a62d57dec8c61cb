/-
  A change that comes in, read as data.
-/
import Derived.Test.YtcdjeibcnkpadaaDoorArgs
namespace Go.Proofs.YtcdjeibcnkpadaaDoor
open Go.ChangeShapes Go.WideShapes Go.RowKit Go.Joins Go.Deep Go.Lib
set_option maxRecDepth 100000
theorem cellsG : Tryd.prog.cellsOf 49 = 7 := by kernel_rfl
section
variable {H : Type} {enc : TypeId × Value → H} {w : World} {base : Nat} {spare : Nat → Bool} {held : Bool}
set_option maxRecDepth 100000 in
theorem chg_in {fuel : Nat} {cs : List Value} {x : DataW H × List MemPlace} (h : DataW.trod enc Tryd.prog w base spare held fuel 49 cs = some x) (hl : Lite 49 x.1) :
    ∃ (ck : Int) (tn : ByteArray) (A : Option Addr) (len cap : Nat) (L : List Cl) (K : Int) (cl : Cl), cs = [.int .i64 ck, .string tn, .slice A len cap, .int .i64 K, .string cl.nm, .int .i64 cl.k, .bool cl.no] ∧ (L.length = len ∧ len ≤ cap ∧ cap ≤ maxLen ∧ CRow w A L ∧ ∀ v ∈ L, v.fit) ∧ cl.fit := by
  obtain ⟨xs, n, _, hx, hc, hxl, hf⟩ := DataW.trod_struct Tryd.underlying49 h
  rw [cellsG] at hc
  match cs, hc with
  | [c0, c1, c2, c3, c4, c5, c6], _ =>
    match xs, hxl with
    | [y0, y1, y2, y3], _ =>
      have f0 := hf 0 _ rfl
      have f1 := hf 1 _ rfl
      have f2 := hf 2 _ rfl
      have f3 := hf 3 _ rfl
      simp [cellsI, cellsS, cellsH, cellsC] at f0 f1 f2 f3
      obtain ⟨ck, e0, _, _⟩ := DataW.trod_int Tryd.underlying3 f0
      obtain ⟨tn, e1, _, _⟩ := DataW.trod_string Tryd.underlying9 f1
      obtain ⟨A, len, cap, L, K, e2, hL, _, _⟩ := sch_in f2 (fun n hn => hl n (by rw [hx]; simp only [DataW.weights, Tryd.underlying49]; simp [DataW.weightsEach]; exact .inr (.inr (.inl hn))))
      obtain ⟨cl, e3, hcl⟩ := col_in f3 (fun n hn => hl n (by rw [hx]; simp only [DataW.weights, Tryd.underlying49]; simp [DataW.weightsEach]; exact .inr (.inr (.inr hn))))
      simp [Cl.cells] at e0 e1 e2 e3
      obtain ⟨e2, e22⟩ := e2
      obtain ⟨e3, e32, e33⟩ := e3
      subst e0 e1 e2 e22 e3 e32 e33
      exact ⟨ck, tn, A, len, cap, L, K, cl, rfl, hL, hcl⟩
/-- A change that came in. -/
theorem change_in {r : Reach} {b0 : Nat} {v : Value} {d : DataW H} {p : List MemPlace} (hv : Value.okWide Tryd.prog w r b0 49 v) (h : DataW.Trod enc Tryd.prog w base spare held 49 v d p) (hl : Lite 49 d) :
    ∃ (ck : Int) (tn : ByteArray) (A : Option Addr) (len cap : Nat) (L : List Cl) (K : Int) (cl : Cl), v = .agg #[.int .i64 ck, .string tn, .slice A len cap, .int .i64 K, .string cl.nm, .int .i64 cl.k, .bool cl.no] ∧ (L.length = len ∧ len ≤ cap ∧ cap ≤ maxLen ∧ CRow w A L ∧ ∀ v ∈ L, v.fit) ∧ cl.fit := by
  obtain ⟨fuel, hf⟩ := h
  obtain ⟨cs, rfl, hsz⟩ := okWide_struct Tryd.underlying49 hv
  obtain ⟨ck, tn, A, len, cap, L, K, cl, e, hL⟩ := chg_in hf hl
  rw [cells_agg] at e
  refine ⟨ck, tn, A, len, cap, L, K, cl, ?_, hL⟩
  have : cs = #[.int .i64 ck, .string tn, .slice A len cap, .int .i64 K, .string cl.nm, .int .i64 cl.k, .bool cl.no] := by
    apply Array.ext'
    rw [e]
  rw [this]
end
end Go.Proofs.YtcdjeibcnkpadaaDoor
