/-
  What comes in, read as data: tables, changes.
-/
import Derived.Test.YtiefogofiajmnaaDoorMg7
import Derived.Test.YtiefogofiajmnaaDoorTab
namespace Go.Proofs.YtiefogofiajmnaaDoor
open Go.ChangeShapes Go.WideShapes Go.RowKit Go.Joins Go.Deep Go.Lib
set_option maxRecDepth 100000
theorem cellsT : Tryd.prog.cellsOf 30 = 3 := by kernel_rfl
def Tb.cells (x : Tb) : List Value := [.string x.nm, .slice x.A x.n x.c, .int .i64 x.K]
section
variable {H : Type} {enc : TypeId × Value → H} {w : World} {base : Nat} {spare : Nat → Bool} {held : Bool}
/-- A table's columns lie where they should, and what it has can be. -/
def TbIn (w : World) (x : Tb) : Prop := (x.L.length = x.n ∧ x.n ≤ x.c ∧ x.c ≤ maxLen ∧ CRow w x.A x.L) ∧ (∀ y ∈ x.L, y.fit) ∧ x.nm.size ≤ 140737488355328 ∧ -9223372036854775808 ≤ x.K ∧ x.K ≤ 9223372036854775807
theorem tab_in {fuel : Nat} {cs : List Value} {x : DataW H × List MemPlace} (h : DataW.trod enc Tryd.prog w base spare held fuel 30 cs = some x) (hl : Lite 30 x.1) :
    ∃ v : Tb, cs = v.cells ∧ TbIn w v := by
  obtain ⟨xs, n, _, hx, hc, hxl, hf⟩ := DataW.trod_struct Tryd.underlying30 h
  rw [cellsT] at hc
  match cs, hc with
  | [c0, c1, c2], _ =>
    match xs, hxl with
    | [y0, y1], _ =>
      have f0 := hf 0 _ rfl
      have f1 := hf 1 _ rfl
      simp [cellsS, cellsH] at f0 f1
      obtain ⟨s, e0, ey, _⟩ := DataW.trod_string Tryd.underlying9 f0
      have hsz := hl s.data.toList.length (by rw [hx]; simp [DataW.weights, Tryd.underlying30, DataW.weightsEach, ey])
      rw [bytes_size] at hsz
      obtain ⟨A, len, cap, L, K, e1, hL, hk1, hk2⟩ := sch_in f1 (fun n hn => hl n (by rw [hx]; simp only [DataW.weights, Tryd.underlying30]; simp [DataW.weightsEach]; exact .inr hn))
      simp at e0 e1
      obtain ⟨e1, e2⟩ := e1
      subst e0 e1 e2
      exact ⟨⟨s, A, len, cap, L, K⟩, rfl, ⟨hL.1, hL.2.1, hL.2.2.1, hL.2.2.2.1⟩, hL.2.2.2.2, reach_le hsz, hk1, hk2⟩
theorem tabs_in {fuel : Nat} {cs : List Value} {x : DataW H × List MemPlace} (h : DataW.trod enc Tryd.prog w base spare held fuel 22 cs = some x) (hl : Lite 22 x.1) :
    ∃ (A : Option Addr) (len cap : Nat) (L : List Tb), cs = [.slice A len cap] ∧ L.length = len ∧ len ≤ cap ∧ cap ≤ maxLen ∧ TRow w A L ∧ ∀ v ∈ L, TbIn w v := by
  rcases open_slice Tryd.underlying22 h with ⟨hcs, _⟩ | ⟨a, len, cap, m, n, D, Pl, hcs, _, hlc, hcm, hm, hx, hel⟩
  · exact ⟨none, 0, 0, [], hcs, rfl, Nat.le_refl _, Nat.zero_le _, fun h => absurd rfl h, fun _ h => by cases h⟩
  · have hlm : len ≤ m := by rw [hm]; split <;> omega
    have hv : ∀ i, i < len → ∃ v : Tb, TbIn w v ∧ ∀ j (hj : j < 3), w.cell? (a.add (i * 3 + j)) = v.cells[j]? := by
      intro i hi
      obtain ⟨cs', hc, ht⟩ := hel i (by omega)
      rw [cellsT] at hc
      obtain ⟨_, _, hat⟩ := World.cells?_some hc
      obtain ⟨v, e, hfit⟩ := tab_in ht (fun n hn => hl n (by
        rw [hx]
        simp only [DataW.weights, Tryd.underlying22]
        refine List.mem_cons_of_mem _ (List.mem_append_left _ (weights_in (d := D i) ?_ n hn))
        exact List.mem_map.2 ⟨i, List.mem_range.2 hi, rfl⟩))
      refine ⟨v, hfit, fun j hj => ?_⟩
      rw [← Go.Deep.add_add, hat j hj, e]
    have hL : ∃ L : List Tb, L.length = len ∧ (∀ v ∈ L, TbIn w v) ∧ ∀ i (hi : i < L.length), ∀ j, j < 3 → w.cell? (a.add (i * 3 + j)) = L[i].cells[j]? := by
      clear hx hel hm hlc hlm hcs
      induction len with
      | zero => exact ⟨[], rfl, fun _ h => (by cases h), fun i hi => absurd hi (by simp)⟩
      | succ len ih =>
        obtain ⟨L, h1, h2, h3⟩ := ih (fun i hi => hv i (by omega))
        obtain ⟨v, h4, h5⟩ := hv len (by omega)
        refine ⟨L ++ [v], by simp [h1], fun u hu => ?_, fun i hi j hj => ?_⟩
        · rcases List.mem_append.1 hu with h | h
          · exact h2 u h
          · rw [List.mem_singleton.1 h]; exact h4
        · by_cases hil : i < L.length
          · rw [List.getElem_append_left hil]; exact h3 i hil j hj
          · have e : i = len := by simp at hi; omega
            subst e
            rw [List.getElem_append_right (by omega)]
            simp only [h1, Nat.sub_self, List.getElem_cons_zero]
            exact h5 j hj
    obtain ⟨L, h1, h2, h3⟩ := hL
    refine ⟨some a, len, cap, L, hcs, h1, hlc, hcm, fun hne => ?_, h2⟩
    have h0 : 0 < L.length := List.length_pos_iff.2 hne
    obtain ⟨b, off, ha⟩ : ∃ b off, a = ⟨b, off, none⟩ := by
      have := h3 0 h0 0 (by omega)
      obtain ⟨b, off, spot⟩ := a
      have hspot : spot = none := by simpa [Addr.add] using World.cell?_spot this
      exact ⟨b, off, by rw [hspot]⟩
    subst ha
    refine ⟨b, off, rfl, fun i hi => ?_⟩
    have q0 := h3 i hi 0 (by omega)
    have q1 := h3 i hi 1 (by omega)
    have q2 := h3 i hi 2 (by omega)
    rw [Addr.add_lit] at q0 q1 q2
    exact ⟨q0, q1, q2⟩
/-- Tables that came in. -/
theorem tables_in {r : Reach} {b0 : Nat} {v : Value} {d : DataW H} {p : List MemPlace} (hv : Value.okWide Tryd.prog w r b0 22 v) (h : DataW.Trod enc Tryd.prog w base spare held 22 v d p) (hl : Lite 22 d) :
    ∃ (A : Option Addr) (len cap : Nat) (L : List Tb), v = .slice A len cap ∧ L.length = len ∧ len ≤ cap ∧ cap ≤ maxLen ∧ TRow w A L ∧ ∀ v ∈ L, TbIn w v := by
  obtain ⟨a, l, c, rfl⟩ := okWide_slice Tryd.underlying22 hv
  obtain ⟨fuel, hf⟩ := h
  obtain ⟨A, len, cap, L, hcs, h⟩ := tabs_in hf hl
  simp [Value.cells] at hcs
  obtain ⟨rfl, rfl, rfl⟩ := hcs
  exact ⟨_, _, _, L, rfl, h⟩
end
end Go.Proofs.YtiefogofiajmnaaDoor
namespace Go.Proofs.YtiefogofiajmnaaDoor
open Go.ChangeShapes Go.WideShapes Go.RowKit Go.Joins Go.Deep Go.Lib
set_option maxRecDepth 100000
section
variable {H : Type} {enc : TypeId × Value → H} {w : World} {base : Nat} {spare : Nat → Bool} {held : Bool}
set_option maxRecDepth 100000 in
theorem chgK_in {fuel : Nat} {cs : List Value} {x : DataW H × List MemPlace} (h : DataW.trod enc Tryd.prog w base spare held fuel 40 cs = some x) (hl : Lite 40 x.1) :
    ∃ (ck : Int) (tn : ByteArray) (A : Option Addr) (len cap : Nat) (L : List Cl) (K : Int) (cl : Cl), cs = [.int .i64 ck, .string tn, .slice A len cap, .int .i64 K, .string cl.nm, .int .i64 cl.k, .bool cl.no] ∧ (L.length = len ∧ len ≤ cap ∧ cap ≤ maxLen ∧ CRow w A L ∧ ∀ v ∈ L, v.fit) ∧ cl.fit ∧ tn.size ≤ 140737488355328 ∧ -9223372036854775808 ≤ K ∧ K ≤ 9223372036854775807 := by
  obtain ⟨xs, n, _, hx, hc, hxl, hf⟩ := DataW.trod_struct Tryd.underlying40 h
  rw [cellsG] at hc
  match cs, hc with
  | [c0, c1, c2, c3, c4, c5, c6], _ =>
    match xs, hxl with
    | [y0, y1, y2, y3], _ =>
      have f0 := hf 0 _ rfl
      have f1 := hf 1 _ rfl
      have f2 := hf 2 _ rfl
      have f3 := hf 3 _ rfl
      simp [cellsI, cellsS, cellsH, cellsC] at f0 f1 f2 f3
      obtain ⟨ck, e0, _, _⟩ := DataW.trod_int Tryd.underlying3 f0
      obtain ⟨tn, e1, ey, _⟩ := DataW.trod_string Tryd.underlying9 f1
      have hsz := hl tn.data.toList.length (by rw [hx]; simp [DataW.weights, Tryd.underlying40, DataW.weightsEach, ey])
      rw [bytes_size] at hsz
      obtain ⟨A, len, cap, L, K, e2, hL, hk1, hk2⟩ := sch_in f2 (fun n hn => hl n (by rw [hx]; simp only [DataW.weights, Tryd.underlying40]; simp [DataW.weightsEach]; exact .inr (.inr (.inl hn))))
      obtain ⟨cl, e3, hcl⟩ := col_in f3 (fun n hn => hl n (by rw [hx]; simp only [DataW.weights, Tryd.underlying40]; simp [DataW.weightsEach]; exact .inr (.inr (.inr hn))))
      simp [Cl.cells] at e0 e1 e2 e3
      obtain ⟨e2, e22⟩ := e2
      obtain ⟨e3, e32, e33⟩ := e3
      subst e0 e1 e2 e22 e3 e32 e33
      exact ⟨ck, tn, A, len, cap, L, K, cl, rfl, hL, hcl, reach_le hsz, hk1, hk2⟩
/-- A change that came in. -/
theorem changeK_in {r : Reach} {b0 : Nat} {v : Value} {d : DataW H} {p : List MemPlace} (hv : Value.okWide Tryd.prog w r b0 40 v) (h : DataW.Trod enc Tryd.prog w base spare held 40 v d p) (hl : Lite 40 d) :
    ∃ (ck : Int) (tn : ByteArray) (A : Option Addr) (len cap : Nat) (L : List Cl) (K : Int) (cl : Cl), v = .agg #[.int .i64 ck, .string tn, .slice A len cap, .int .i64 K, .string cl.nm, .int .i64 cl.k, .bool cl.no] ∧ (L.length = len ∧ len ≤ cap ∧ cap ≤ maxLen ∧ CRow w A L ∧ ∀ v ∈ L, v.fit) ∧ cl.fit ∧ tn.size ≤ 140737488355328 ∧ -9223372036854775808 ≤ K ∧ K ≤ 9223372036854775807 := by
  obtain ⟨fuel, hf⟩ := h
  obtain ⟨cs, rfl, hsz⟩ := okWide_struct Tryd.underlying40 hv
  obtain ⟨ck, tn, A, len, cap, L, K, cl, e, hL⟩ := chgK_in hf hl
  rw [cells_agg] at e
  refine ⟨ck, tn, A, len, cap, L, K, cl, ?_, hL⟩
  have : cs = #[.int .i64 ck, .string tn, .slice A len cap, .int .i64 K, .string cl.nm, .int .i64 cl.k, .bool cl.no] := by
    apply Array.ext'
    rw [e]
  rw [this]
end
end Go.Proofs.YtiefogofiajmnaaDoor
