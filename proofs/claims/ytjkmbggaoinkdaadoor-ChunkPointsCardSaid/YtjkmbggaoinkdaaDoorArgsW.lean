/-
  Numbers, works and points that come in, read as data.
-/
import Derived.Test.YtjkmbggaoinkdaaDoorArgs
import Derived.Test.YtjkmbggaoinkdaaDoorWk
import Derived.Deep.Slices
namespace Go.Proofs.YtjkmbggaoinkdaaDoor
open Go.ChangeShapes Go.WideShapes Go.RowKit Go.Joins Go.Deep Go.Lib
set_option maxRecDepth 100000
/-- Its texts are not too long. -/
def Wk.fit (x : Wk) : Prop := x.t.size ≤ 140737488355328 ∧ x.k.size ≤ 140737488355328
/-- The cells at A read as the numbers L. -/
def IRow (w : World) (A : Option Addr) (L : List Int) : Prop := L ≠ [] → ∃ b off, A = some ⟨b, off, none⟩ ∧ ∀ i (h : i < L.length), w.cell? ⟨b, off + i, none⟩ = some (.int .i64 L[i])
theorem IRow.below {w w' : World} {A : Option Addr} {L : List Int} (h : IRow w A L) (hb : Below w.heap.size w w') : IRow w' A L := fun hne => by
  obtain ⟨b, off, e, hc⟩ := h hne
  exact ⟨b, off, e, fun i hi => (hb.cell (World.block_lt_of_cell? _ _ (hc i hi))).trans (hc i hi)⟩
theorem cellsWk : Tryd.prog.cellsOf 75 = 3 := by kernel_rfl
theorem cellsWs : Tryd.prog.cellsOf 41 = 1 := by kernel_rfl
theorem cellsP : Tryd.prog.cellsOf 43 = 4 := by kernel_rfl
section
variable {H : Type} {enc : TypeId × Value → H} {w : World} {base : Nat} {spare : Nat → Bool} {held : Bool}
set_option maxRecDepth 100000 in
theorem wk_in {fuel : Nat} {cs : List Value} {x : DataW H × List MemPlace} (h : DataW.trod enc Tryd.prog w base spare held fuel 75 cs = some x) (hl : Lite 75 x.1) :
    ∃ v : Wk, cs = v.row ∧ Wk.fit v := by
  obtain ⟨xs, n, _, hx, hc, hxl, hf⟩ := DataW.trod_struct Tryd.underlying75 h
  rw [cellsWk] at hc
  match cs, hc with
  | [c0, c1, c2], _ =>
    match xs, hxl with
    | [y0, y1, y2], _ =>
      have f0 := hf 0 _ rfl
      have f1 := hf 1 _ rfl
      have f2 := hf 2 _ rfl
      simp [cellsS, cellsB] at f0 f1 f2
      obtain ⟨s, e0, ey, _⟩ := DataW.trod_string Tryd.underlying9 f0
      obtain ⟨b, e1, _⟩ := DataW.trod_bool Tryd.underlying4 f1
      obtain ⟨k, e2, ey2, _⟩ := DataW.trod_string Tryd.underlying9 f2
      simp at e0 e1 e2
      subst e0 e1 e2
      refine ⟨⟨s, b, k⟩, rfl, ?_, ?_⟩
      · have := hl s.data.toList.length (by rw [hx]; simp [DataW.weights, Tryd.underlying75, DataW.weightsEach, ey])
        rw [bytes_size] at this
        exact reach_le this
      · have := hl k.data.toList.length (by rw [hx]; simp [DataW.weights, Tryd.underlying75, DataW.weightsEach, ey2])
        rw [bytes_size] at this
        exact reach_le this
theorem wks_in {fuel : Nat} {cs : List Value} {x : DataW H × List MemPlace} (h : DataW.trod enc Tryd.prog w base spare held fuel 41 cs = some x) (hl : Lite 41 x.1) :
    ∃ (A : Option Addr) (len cap : Nat) (L : List Wk), cs = [.slice A len cap] ∧ L.length = len ∧ len ≤ cap ∧ cap ≤ maxLen ∧ WRow w A L ∧ ∀ v ∈ L, Wk.fit v := by
  rcases open_slice Tryd.underlying41 h with ⟨hcs, _⟩ | ⟨a, len, cap, m, n, D, Pl, hcs, _, hlc, hcm, hm, hx, hel⟩
  · exact ⟨none, 0, 0, [], hcs, rfl, Nat.le_refl _, Nat.zero_le _, fun h => absurd rfl h, fun _ h => by cases h⟩
  · have hlm : len ≤ m := by rw [hm]; split <;> omega
    have hv : ∀ i, i < len → ∃ v : Wk, Wk.fit v ∧ ∀ j (hj : j < 3), w.cell? (a.add (i * 3 + j)) = v.row[j]? := by
      intro i hi
      obtain ⟨cs', hc, ht⟩ := hel i (by omega)
      rw [cellsWk] at hc
      obtain ⟨_, _, hat⟩ := World.cells?_some hc
      obtain ⟨v, e, hfit⟩ := wk_in ht (fun n hn => hl n (by
        rw [hx]
        simp only [DataW.weights, Tryd.underlying41]
        refine List.mem_cons_of_mem _ (List.mem_append_left _ (weights_in (d := D i) ?_ n hn))
        exact List.mem_map.2 ⟨i, List.mem_range.2 hi, rfl⟩))
      refine ⟨v, hfit, fun j hj => ?_⟩
      rw [← Go.Deep.add_add, hat j hj, e]
    have hL : ∃ L : List Wk, L.length = len ∧ (∀ v ∈ L, Wk.fit v) ∧ ∀ i (hi : i < L.length), ∀ j, j < 3 → w.cell? (a.add (i * 3 + j)) = L[i].row[j]? := by
      clear hx hel hm hlc hlm hcs
      induction len with
      | zero => exact ⟨[], rfl, fun _ h => (by cases h), fun i hi => absurd hi (by simp)⟩
      | succ len ih =>
        obtain ⟨L, h1, h2, h3⟩ := ih (fun i hi => hv i (by omega))
        obtain ⟨v, h4, h5⟩ := hv len (by omega)
        refine ⟨L ++ [v], by simp [h1], fun u hu => ?_, fun i hi j hj => ?_⟩
        · rcases List.mem_append.1 hu with h | h
          · exact h2 u h
          · rw [List.mem_singleton.1 h]; exact h4
        · by_cases hil : i < L.length
          · rw [List.getElem_append_left hil]; exact h3 i hil j hj
          · have e : i = len := by simp at hi; omega
            subst e
            rw [List.getElem_append_right (by omega)]
            simp only [h1, Nat.sub_self, List.getElem_cons_zero]
            exact h5 j hj
    obtain ⟨L, h1, h2, h3⟩ := hL
    refine ⟨some a, len, cap, L, hcs, h1, hlc, hcm, fun hne => ?_, h2⟩
    have h0 : 0 < L.length := List.length_pos_iff.2 hne
    obtain ⟨b, off, ha⟩ : ∃ b off, a = ⟨b, off, none⟩ := by
      have := h3 0 h0 0 (by omega)
      obtain ⟨b, off, spot⟩ := a
      have hspot : spot = none := by simpa [Addr.add] using World.cell?_spot this
      exact ⟨b, off, by rw [hspot]⟩
    subst ha
    refine ⟨b, off, rfl, fun i hi => ?_⟩
    have q0 := h3 i hi 0 (by omega)
    have q1 := h3 i hi 1 (by omega)
    have q2 := h3 i hi 2 (by omega)
    rw [Addr.add_lit] at q0 q1 q2
    exact ⟨q0, q1, q2⟩
/-- Works that came in. -/
theorem works_in {r : Reach} {b0 : Nat} {v : Value} {d : DataW H} {p : List MemPlace} (hv : Value.okWide Tryd.prog w r b0 41 v) (h : DataW.Trod enc Tryd.prog w base spare held 41 v d p) (hl : Lite 41 d) :
    ∃ (A : Option Addr) (len cap : Nat) (L : List Wk), v = .slice A len cap ∧ L.length = len ∧ len ≤ cap ∧ cap ≤ maxLen ∧ WRow w A L ∧ ∀ v ∈ L, Wk.fit v := by
  obtain ⟨a, l, c, rfl⟩ := okWide_slice Tryd.underlying41 hv
  obtain ⟨fuel, hf⟩ := h
  obtain ⟨A, len, cap, L, hcs, h⟩ := wks_in hf hl
  simp [Value.cells] at hcs
  obtain ⟨rfl, rfl, rfl⟩ := hcs
  exact ⟨_, _, _, L, rfl, h⟩
set_option maxRecDepth 100000 in
/-- A point that came in. -/
theorem point_in {r : Reach} {b0 : Nat} {v : Value} {d : DataW H} {p : List MemPlace} (hv : Value.okWide Tryd.prog w r b0 43 v) (h : DataW.Trod enc Tryd.prog w base spare held 43 v d p) (hl : Lite 43 d) :
    ∃ (x y z : Int) (A : Option Addr) (len cap : Nat) (L : List Wk), v = .agg #[.int .i64 x, .int .i64 y, .int .i64 z, .slice A len cap] ∧ (-9223372036854775808 ≤ x ∧ x ≤ 9223372036854775807) ∧ (-9223372036854775808 ≤ y ∧ y ≤ 9223372036854775807) ∧ (-9223372036854775808 ≤ z ∧ z ≤ 9223372036854775807) ∧ L.length = len ∧ len ≤ cap ∧ cap ≤ maxLen ∧ WRow w A L ∧ ∀ v ∈ L, Wk.fit v := by
  obtain ⟨fuel, hf⟩ := h
  obtain ⟨cs, rfl, hsz⟩ := okWide_struct Tryd.underlying43 hv
  obtain ⟨xs, n, _, hx, hc, hxl, hg⟩ := DataW.trod_struct Tryd.underlying43 hf
  rw [cells_agg, cellsP] at hc
  obtain ⟨cs⟩ := cs
  match cs, hc with
  | [c0, c1, c2, c3], _ =>
    match xs, hxl with
    | [y0, y1, y2, y3], _ =>
      have f0 := hg 0 _ rfl
      have f1 := hg 1 _ rfl
      have f2 := hg 2 _ rfl
      have f3 := hg 3 _ rfl
      simp [cells_agg, cellsI, cellsWs] at f0 f1 f2 f3
      obtain ⟨x, e0, _, hx0⟩ := DataW.trod_int Tryd.underlying3 f0
      obtain ⟨y, e1, _, hx1⟩ := DataW.trod_int Tryd.underlying3 f1
      obtain ⟨z, e2, _, hx2⟩ := DataW.trod_int Tryd.underlying3 f2
      obtain ⟨A, len, cap, L, e3, hL⟩ := wks_in f3 (fun n hn => hl n (by have hx' := congrArg Prod.fst hx; simp only at hx'; rw [hx']; simp only [DataW.weights, Tryd.underlying43]; simp [DataW.weightsEach]; exact .inr (.inr (.inr hn))))
      simp at e0 e1 e2 e3
      subst e0 e1 e2 e3
      exact ⟨x, y, z, A, len, cap, L, rfl, bounds_int hx0, bounds_int hx1, bounds_int hx2, hL⟩
end
end Go.Proofs.YtjkmbggaoinkdaaDoor
