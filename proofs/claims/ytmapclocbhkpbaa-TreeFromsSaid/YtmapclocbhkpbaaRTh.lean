/-
  Arguments of layer 9's laws, read as data: deeds.
-/
import Derived.Test.YtmapclocbhkpbaaTrZ
namespace Go.Proofs.Ytmapclocbhkpbaa
open Go.ChangeShapes Go.WideShapes Go.RowKit Go.Joins Go.Deep Go.Lib
set_option maxRecDepth 100000
set_option linter.unusedVariables false
theorem cellsI9 : Try.prog.cellsOf 3 = 1 := by kernel_rfl
theorem cellsDee : Try.prog.cellsOf 32 = 3 := by kernel_rfl
/-- Cells at A, k of them an element. -/
def Elems (w : World) (A : Option Addr) (k : Nat) (L : List (Array Value)) : Prop := L ≠ [] → ∃ b off, A = some ⟨b, off, none⟩ ∧ ∀ i (h : i < L.length), ∀ j, j < k → w.cell? ⟨b, off + i * k + j, none⟩ = L[i][j]?
/-- A deed, as it lies. -/
structure Dee where
  kd : Int
  n : Int
  key : ByteArray
def Dee.cells (x : Dee) : Array Value := #[.int .i64 x.kd, .int .i64 x.n, .string x.key]
structure Dee.ok (w : World) (x : Dee) : Prop where
  kd : -9223372036854775808 ≤ x.kd ∧ x.kd ≤ 9223372036854775807
  n : -9223372036854775808 ≤ x.n ∧ x.n ≤ 9223372036854775807
section
variable {H : Type} {enc : TypeId × Value → H} {w : World} {base : Nat} {spare : Nat → Bool} {held : Bool}
theorem deed_of {fuel : Nat} {cs : List Value} {x : DataW H × List MemPlace} (h : DataW.trod enc Try.prog w base spare held fuel 32 cs = some x) :
    ∃ v : Dee, cs = v.cells.toList ∧ v.ok w := by
  obtain ⟨xs, n, _, hx, hc, hxl, hf⟩ := DataW.trod_struct Try.underlying32 h
  rw [cellsDee] at hc
  match cs, hc with
  | [c0, c1, c2], _ =>
    match xs, hxl with
    | [y0, y1, y2], _ =>
      have f0 := hf 0 _ rfl
      have f1 := hf 1 _ rfl
      have f2 := hf 2 _ rfl
      simp [cellsI9, cellsS] at f0 f1 f2
      obtain ⟨k, e0, _, hk⟩ := DataW.trod_int Try.underlying3 f0
      obtain ⟨m, e1, _, hm⟩ := DataW.trod_int Try.underlying3 f1
      obtain ⟨s, e2, ey2, _⟩ := DataW.trod_string Try.underlying9 f2
      simp at e0 e1 e2
      subst e0 e1 e2
      exact ⟨⟨k, m, s⟩, rfl, bounds_int hk, bounds_int hm⟩
theorem deeds_of {fuel : Nat} {cs : List Value} {x : DataW H × List MemPlace} (h : DataW.trod enc Try.prog w base spare held fuel 22 cs = some x) :
    ∃ (A : Option Addr) (len cap : Nat) (L : List Dee), cs = [.slice A len cap] ∧ L.length = len ∧ len ≤ cap ∧ cap ≤ maxLen ∧ Elems w A 3 (L.map Dee.cells) ∧ ∀ v ∈ L, v.ok w := by
  rcases open_slice Try.underlying22 h with ⟨hcs, _⟩ | ⟨a, len, cap, m, n, D, Pl, hcs, _, hlc, hcm, hm, hx, hel⟩
  · exact ⟨none, 0, 0, [], hcs, rfl, Nat.le_refl _, Nat.zero_le _, fun h => absurd rfl h, fun _ h => by cases h⟩
  · have hlm : len ≤ m := by rw [hm]; split <;> omega
    have hv : ∀ i, i < len → ∃ v : Dee, v.ok w ∧ ∀ j (hj : j < 3), w.cell? (a.add (i * 3 + j)) = (Dee.cells v)[j]? := by
      intro i hi
      obtain ⟨cs', hc, ht⟩ := hel i (by omega)
      rw [cellsDee] at hc
      obtain ⟨_, _, hat⟩ := World.cells?_some hc
      obtain ⟨v, e, hfit⟩ := deed_of ht
      refine ⟨v, hfit, fun j hj => ?_⟩
      rw [← Go.Deep.add_add, hat j hj, e]
      simp
    have hL : ∃ L : List Dee, L.length = len ∧ (∀ v ∈ L, v.ok w) ∧ ∀ i (hi : i < L.length), ∀ j, j < 3 → w.cell? (a.add (i * 3 + j)) = (Dee.cells L[i])[j]? := by
      clear hx hel hm hlc hlm hcs
      induction len with
      | zero => exact ⟨[], rfl, fun _ h => (by cases h), fun i hi => absurd hi (by simp)⟩
      | succ len ih =>
        obtain ⟨L, h1, h2, h3⟩ := ih (fun i hi => hv i (by omega))
        obtain ⟨v, h4, h5⟩ := hv len (by omega)
        refine ⟨L ++ [v], by simp [h1], fun u hu => ?_, fun i hi j hj => ?_⟩
        · rcases List.mem_append.1 hu with h | h
          · exact h2 u h
          · rw [List.mem_singleton.1 h]; exact h4
        · by_cases hil : i < L.length
          · rw [List.getElem_append_left hil]; exact h3 i hil j hj
          · have e : i = len := by simp at hi; omega
            subst e
            rw [List.getElem_append_right (by omega)]
            simp only [h1, Nat.sub_self, List.getElem_cons_zero]
            exact h5 j hj
    obtain ⟨L, h1, h2, h3⟩ := hL
    refine ⟨some a, len, cap, L, hcs, h1, hlc, hcm, fun hne => ?_, h2⟩
    have h0 : 0 < L.length := by
      rcases L with _ | ⟨x, L⟩
      · exact absurd rfl hne
      · simp
    obtain ⟨b, off, ha⟩ : ∃ b off, a = ⟨b, off, none⟩ := by
      have := h3 0 h0 0 (by omega)
      obtain ⟨b, off, spot⟩ := a
      have hspot : spot = none := by simpa [Addr.add] using World.cell?_spot this
      exact ⟨b, off, by rw [hspot]⟩
    subst ha
    refine ⟨b, off, rfl, fun i hi j hj => ?_⟩
    rw [List.length_map] at hi
    have q := h3 i hi j hj
    rw [Addr.add_lit] at q
    rw [List.getElem_map, Nat.add_assoc]
    exact q
theorem deeds_in {r : Reach} {b0 : Nat} {v : Value} {d : DataW H} {p : List MemPlace} (hv : Value.okWide Try.prog w r b0 22 v) (h : DataW.Trod enc Try.prog w base spare held 22 v d p) :
    ∃ (A : Option Addr) (len cap : Nat) (L : List Dee), v = .slice A len cap ∧ L.length = len ∧ len ≤ cap ∧ cap ≤ maxLen ∧ Elems w A 3 (L.map Dee.cells) ∧ ∀ v ∈ L, v.ok w := by
  obtain ⟨a, l0, c0, rfl⟩ := okWide_slice Try.underlying22 hv
  obtain ⟨fuel, hf⟩ := h
  obtain ⟨A, len, cap, L, hcs, rest⟩ := deeds_of hf
  simp [Value.cells] at hcs
  obtain ⟨rfl, rfl, rfl⟩ := hcs
  exact ⟨_, _, _, L, rfl, rest⟩
end
end Go.Proofs.Ytmapclocbhkpbaa
