/-
  Arguments of layer 8's laws, read as data: rows of bytes, and asks.
-/
import Derived.Test.YtoooainecoappaaDkG
namespace Go.Proofs.Ytoooainecoappaa
open Go.ChangeShapes Go.WideShapes Go.RowKit Go.Joins Go.Deep Go.Lib
set_option maxRecDepth 100000
theorem cellsRow : Try.prog.cellsOf 28 = 1 := by kernel_rfl
theorem cellsI : Try.prog.cellsOf 3 = 1 := by kernel_rfl
theorem cellsS : Try.prog.cellsOf 9 = 1 := by kernel_rfl
theorem cellsN : Try.prog.cellsOf 29 = 1 := by kernel_rfl
theorem cellsA : Try.prog.cellsOf 31 = 6 := by kernel_rfl
/-- Bytes as they lie. -/
structure Br where
  A : Option Addr
  l : List Nat
  c : Nat
def Br.v (x : Br) : Value := .slice x.A x.l.length x.c
structure Br.ok (w : World) (x : Br) : Prop where
  cap : x.l.length ≤ x.c
  max : x.c ≤ maxLen
  byte : ∀ y ∈ x.l, y < 256
  rd : Rd w x.A x.l
  nil : x.A = none → x.c = 0
/-- Cells at A, k of them an element. -/
def Elems (w : World) (A : Option Addr) (k : Nat) (L : List (Array Value)) : Prop := L ≠ [] → ∃ b off, A = some ⟨b, off, none⟩ ∧ ∀ i (h : i < L.length), ∀ j, j < k → w.cell? ⟨b, off + i * k + j, none⟩ = L[i][j]?
/-- What is asked, as it lies. -/
structure Ak where
  kd : Int
  nm : ByteArray
  to : ByteArray
  b : Br
  n : Int
  K : Option Addr
  keep : List Int
  ck : Nat
def Ak.cells (x : Ak) : Array Value := #[.int .i64 x.kd, .string x.nm, .string x.to, x.b.v, .int .i64 x.n, .slice x.K x.keep.length x.ck]
structure Ak.ok (w : World) (x : Ak) : Prop where
  kd : -9223372036854775808 ≤ x.kd ∧ x.kd ≤ 9223372036854775807
  nm : x.nm.size ≤ 140737488355328
  to : x.to.size ≤ 140737488355328
  b : x.b.ok w
  n : -9223372036854775808 ≤ x.n ∧ x.n ≤ 9223372036854775807
  ints : ∀ y ∈ x.keep, -9223372036854775808 ≤ y ∧ y ≤ 9223372036854775807
  kcap : x.keep.length ≤ x.ck
  kmax : x.ck ≤ maxLen
  krd : Ints w x.K x.keep
  knil : x.K = none → x.ck = 0
  kfew : x.keep.length ≤ 140737488355328
section
variable {H : Type} {enc : TypeId × Value → H} {w : World} {base : Nat} {spare : Nat → Bool} {held : Bool}
theorem weights_in {e : TypeId} : ∀ {l : List (DataW H)} {d : DataW H}, d ∈ l → ∀ n ∈ d.weights Try.prog e, n ∈ DataW.weightsAll Try.prog e l
  | d0 :: l, d, h, n, hn => by
    simp only [DataW.weightsAll, List.mem_append]
    rcases List.mem_cons.1 h with rfl | h
    · exact .inl hn
    · exact .inr (weights_in h n hn)
theorem br_of {fuel : Nat} {cs : List Value} {x : DataW H × List MemPlace} (h : DataW.trod enc Try.prog w base spare held fuel 28 cs = some x) : ∃ y : Br, cs = [y.v] ∧ y.ok w := by
  obtain ⟨A, len, cap, l, hcs, rfl, h1, h2, h3, h4, h5⟩ := bytes_of h
  exact ⟨⟨A, l, cap⟩, hcs, h1, h2, h3, h4, h5⟩
theorem ask_of {fuel : Nat} {cs : List Value} {x : DataW H × List MemPlace} (h : DataW.trod enc Try.prog w base spare held fuel 31 cs = some x) (hl : Lite 31 x.1) :
    ∃ v : Ak, cs = v.cells.toList ∧ v.ok w := by
  obtain ⟨xs, n, _, hx, hc, hxl, hf⟩ := DataW.trod_struct Try.underlying31 h
  rw [cellsA] at hc
  match cs, hc with
  | [c0, c1, c2, c3, c4, c5], _ =>
    match xs, hxl with
    | [y0, y1, y2, y3, y4, y5], _ =>
      have f0 := hf 0 _ rfl
      have f1 := hf 1 _ rfl
      have f2 := hf 2 _ rfl
      have f3 := hf 3 _ rfl
      have f4 := hf 4 _ rfl
      have f5 := hf 5 _ rfl
      simp [cellsI, cellsS, cellsRow, cellsN] at f0 f1 f2 f3 f4 f5
      obtain ⟨k, e0, _, hk⟩ := DataW.trod_int Try.underlying3 f0
      obtain ⟨s, e1, ey1, _⟩ := DataW.trod_string Try.underlying9 f1
      obtain ⟨t, e2, ey2, _⟩ := DataW.trod_string Try.underlying9 f2
      obtain ⟨b, e3, hb⟩ := br_of f3
      obtain ⟨m, e4, _, hm⟩ := DataW.trod_int Try.underlying3 f4
      obtain ⟨K, lk, ck, keep, e5, rfl, i1, i2, i3, i4, i5, i6⟩ := ints_of f5
      simp at e0 e1 e2 e3 e4 e5
      subst e0 e1 e2 e3 e4 e5
      have w1 := hl s.data.toList.length (by rw [hx]; simp [DataW.weights, Try.underlying31, DataW.weightsEach, ey1])
      have w2 := hl t.data.toList.length (by rw [hx]; simp [DataW.weights, Try.underlying31, DataW.weightsEach, ey2])
      rw [bytes_size] at w1 w2
      have w3 := i6 (fun n hn => hl n (by rw [hx]; simp [DataW.weights, Try.underlying31, DataW.weightsEach, hn]))
      exact ⟨⟨k, s, t, b, m, K, keep, ck⟩, rfl, bounds_int hk, reach_le w1, reach_le w2, hb, bounds_int hm, i3, i1, i2, i4, i5, w3⟩
theorem asks_of {fuel : Nat} {cs : List Value} {x : DataW H × List MemPlace} (h : DataW.trod enc Try.prog w base spare held fuel 22 cs = some x) (hl : Lite 22 x.1) :
    ∃ (A : Option Addr) (len cap : Nat) (L : List Ak), cs = [.slice A len cap] ∧ L.length = len ∧ len ≤ cap ∧ cap ≤ maxLen ∧ Elems w A 6 (L.map Ak.cells) ∧ ∀ v ∈ L, v.ok w := by
  rcases open_slice Try.underlying22 h with ⟨hcs, _⟩ | ⟨a, len, cap, m, n, D, Pl, hcs, _, hlc, hcm, hm, hx, hel⟩
  · exact ⟨none, 0, 0, [], hcs, rfl, Nat.le_refl _, Nat.zero_le _, fun h => absurd rfl h, fun _ h => by cases h⟩
  · have hlm : len ≤ m := by rw [hm]; split <;> omega
    have hv : ∀ i, i < len → ∃ v : Ak, v.ok w ∧ ∀ j (hj : j < 6), w.cell? (a.add (i * 6 + j)) = (Ak.cells v)[j]? := by
      intro i hi
      obtain ⟨cs', hc, ht⟩ := hel i (by omega)
      rw [cellsA] at hc
      obtain ⟨_, _, hat⟩ := World.cells?_some hc
      obtain ⟨v, e, hfit⟩ := ask_of ht (fun n hn => hl n (by
        rw [hx]
        simp only [DataW.weights, Try.underlying22]
        refine List.mem_cons_of_mem _ (List.mem_append_left _ (weights_in (d := D i) ?_ n hn))
        exact List.mem_map.2 ⟨i, List.mem_range.2 hi, rfl⟩))
      refine ⟨v, hfit, fun j hj => ?_⟩
      rw [← Go.Deep.add_add, hat j hj, e]
      simp
    have hL : ∃ L : List Ak, L.length = len ∧ (∀ v ∈ L, v.ok w) ∧ ∀ i (hi : i < L.length), ∀ j, j < 6 → w.cell? (a.add (i * 6 + j)) = (Ak.cells L[i])[j]? := by
      clear hx hel hm hlc hlm hcs
      induction len with
      | zero => exact ⟨[], rfl, fun _ h => (by cases h), fun i hi => absurd hi (by simp)⟩
      | succ len ih =>
        obtain ⟨L, h1, h2, h3⟩ := ih (fun i hi => hv i (by omega))
        obtain ⟨v, h4, h5⟩ := hv len (by omega)
        refine ⟨L ++ [v], by simp [h1], fun u hu => ?_, fun i hi j hj => ?_⟩
        · rcases List.mem_append.1 hu with h | h
          · exact h2 u h
          · rw [List.mem_singleton.1 h]; exact h4
        · by_cases hil : i < L.length
          · rw [List.getElem_append_left hil]; exact h3 i hil j hj
          · have e : i = len := by simp at hi; omega
            subst e
            rw [List.getElem_append_right (by omega)]
            simp only [h1, Nat.sub_self, List.getElem_cons_zero]
            exact h5 j hj
    obtain ⟨L, h1, h2, h3⟩ := hL
    refine ⟨some a, len, cap, L, hcs, h1, hlc, hcm, fun hne => ?_, h2⟩
    have h0 : 0 < L.length := by
      rcases L with _ | ⟨x, L⟩
      · exact absurd rfl hne
      · simp
    obtain ⟨b, off, ha⟩ : ∃ b off, a = ⟨b, off, none⟩ := by
      have := h3 0 h0 0 (by omega)
      obtain ⟨b, off, spot⟩ := a
      have hspot : spot = none := by simpa [Addr.add] using World.cell?_spot this
      exact ⟨b, off, by rw [hspot]⟩
    subst ha
    refine ⟨b, off, rfl, fun i hi j hj => ?_⟩
    rw [List.length_map] at hi
    have q := h3 i hi j hj
    rw [Addr.add_lit] at q
    rw [List.getElem_map, Nat.add_assoc]
    exact q
theorem asks_in {r : Reach} {b0 : Nat} {v : Value} {d : DataW H} {p : List MemPlace} (hv : Value.okWide Try.prog w r b0 22 v) (h : DataW.Trod enc Try.prog w base spare held 22 v d p) (hl : Lite 22 d) :
    ∃ (A : Option Addr) (len cap : Nat) (L : List Ak), v = .slice A len cap ∧ L.length = len ∧ len ≤ cap ∧ cap ≤ maxLen ∧ Elems w A 6 (L.map Ak.cells) ∧ ∀ v ∈ L, v.ok w := by
  obtain ⟨a, l0, c0, rfl⟩ := okWide_slice Try.underlying22 hv
  obtain ⟨fuel, hf⟩ := h
  obtain ⟨A, len, cap, L, hcs, rest⟩ := asks_of hf hl
  simp [Value.cells] at hcs
  obtain ⟨rfl, rfl, rfl⟩ := hcs
  exact ⟨_, _, _, L, rfl, rest⟩
end
end Go.Proofs.Ytoooainecoappaa
