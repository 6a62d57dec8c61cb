/-
  Arguments of layer 9's laws, read as data: numbers, and rows of texts.
-/
import Derived.Test.YtmapclocbhkpbaaTrY
import Derived.Test.YtmapclocbhkpbaaRows
import Derived.ProofKit
import Derived.OpenShut
import Derived.ChangeOld
import Derived.Below
import Derived.Deep.Slices
import Derived.Lib.SmallJoins
import Derived.SizedLaws
namespace Go.Proofs.Ytmapclocbhkpbaa
open Go.ChangeShapes Go.WideShapes Go.RowKit Go.Joins Go.Deep Go.Lib
set_option maxRecDepth 100000
set_option linter.unusedVariables false
theorem cellsS : Try.prog.cellsOf 9 = 1 := by kernel_rfl
/-- Texts that can be read from an address on. -/
def Strs (w : World) (A : Option Addr) (L : List ByteArray) : Prop := L ≠ [] → ∃ b off, A = some ⟨b, off, none⟩ ∧ ∀ i (h : i < L.length), w.cell? ⟨b, off + i, none⟩ = some (.string L[i])
theorem bounds_int {n : Int} (h : (Lit.int .i64 n).wf = true) : -9223372036854775808 ≤ n ∧ n ≤ 9223372036854775807 := by
  simpa [Lit.wf, IntKind.min, IntKind.max, IntKind.signed, IntKind.bits] using h
section
variable {H : Type} {enc : TypeId × Value → H} {w : World} {base : Nat} {spare : Nat → Bool} {held : Bool}
theorem strs_of {fuel : Nat} {cs : List Value} {x : DataW H × List MemPlace} (h : DataW.trod enc Try.prog w base spare held fuel 26 cs = some x) :
    ∃ (A : Option Addr) (len cap : Nat) (L : List ByteArray), cs = [.slice A len cap] ∧ L.length = len ∧ len ≤ cap ∧ cap ≤ maxLen ∧ Strs w A L := by
  rcases open_slice Try.underlying26 h with ⟨hcs, _⟩ | ⟨a, len, cap, m, n, D, Pl, hcs, _, hlc, hcm, hm, hx, hel⟩
  · exact ⟨none, 0, 0, [], hcs, rfl, Nat.le_refl _, Nat.zero_le _, fun h => absurd rfl h⟩
  · have hlm : len ≤ m := by rw [hm]; split <;> omega
    have hv : ∀ i, i < len → ∃ v : ByteArray, w.cell? (a.add i) = some (.string v) := by
      intro i hi
      obtain ⟨cs', hc, ht⟩ := hel i (by omega)
      rw [cellsS] at hc
      obtain ⟨_, _, hat⟩ := World.cells?_some hc
      obtain ⟨s, e, _⟩ := DataW.trod_string Try.underlying9 ht
      refine ⟨s, ?_⟩
      have q := hat 0 (by omega)
      rw [e] at q
      have e2 : (a.add (i * 1)).add 0 = a.add i := by obtain ⟨b, off, spot⟩ := a; simp [Addr.add]
      rw [e2] at q
      exact q
    have hL : ∃ L : List ByteArray, L.length = len ∧ ∀ i (hi : i < L.length), w.cell? (a.add i) = some (.string L[i]) := by
      clear hx hel hm hlc hlm hcs
      induction len with
      | zero => exact ⟨[], rfl, fun i hi => absurd hi (by simp)⟩
      | succ len ih =>
        obtain ⟨L, h1, h3⟩ := ih (fun i hi => hv i (by omega))
        obtain ⟨v, h4⟩ := hv len (by omega)
        refine ⟨L ++ [v], by simp [h1], fun i hi => ?_⟩
        by_cases hil : i < L.length
        · rw [List.getElem_append_left hil]; exact h3 i hil
        · have e : i = len := by simp at hi; omega
          subst e
          rw [List.getElem_append_right (by omega)]
          simp only [h1, Nat.sub_self, List.getElem_cons_zero]
          exact h4
    obtain ⟨L, h1, h3⟩ := hL
    refine ⟨some a, len, cap, L, hcs, h1, hlc, hcm, fun hne => ?_⟩
    have h0 : 0 < L.length := by
      rcases L with _ | ⟨x, L⟩
      · exact absurd rfl hne
      · simp
    obtain ⟨b, off, ha⟩ : ∃ b off, a = ⟨b, off, none⟩ := by
      have := h3 0 h0
      obtain ⟨b, off, spot⟩ := a
      have hspot : spot = none := by simpa [Addr.add] using World.cell?_spot this
      exact ⟨b, off, by rw [hspot]⟩
    subst ha
    refine ⟨b, off, rfl, fun i hi => ?_⟩
    have q := h3 i hi
    rw [Addr.add_lit] at q
    exact q
theorem strs_in {r : Reach} {b0 : Nat} {v : Value} {d : DataW H} {p : List MemPlace} (hv : Value.okWide Try.prog w r b0 26 v) (h : DataW.Trod enc Try.prog w base spare held 26 v d p) :
    ∃ (A : Option Addr) (len cap : Nat) (L : List ByteArray), v = .slice A len cap ∧ L.length = len ∧ len ≤ cap ∧ cap ≤ maxLen ∧ Strs w A L := by
  obtain ⟨a, l0, c0, rfl⟩ := okWide_slice Try.underlying26 hv
  obtain ⟨fuel, hf⟩ := h
  obtain ⟨A, len, cap, L, hcs, rest⟩ := strs_of hf
  simp [Value.cells] at hcs
  obtain ⟨rfl, rfl, rfl⟩ := hcs
  exact ⟨_, _, _, L, rfl, rest⟩
end
end Go.Proofs.Ytmapclocbhkpbaa
