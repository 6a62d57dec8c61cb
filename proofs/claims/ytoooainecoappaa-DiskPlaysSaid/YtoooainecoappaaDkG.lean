/-
  Arguments of layer 8's laws, read as data: numbers and bytes.
-/
import Derived.Test.YtoooainecoappaaRows
import Derived.Test.YtoooainecoappaaDkV
import Derived.ProofKit
import Derived.OpenShut
import Derived.ChangeOld
import Derived.Below
import Derived.Deep.Slices
import Derived.Lib.SmallJoins
import Derived.SizedLaws
namespace Go.Proofs.Ytoooainecoappaa
open Go.ChangeShapes Go.WideShapes Go.RowKit Go.Joins Go.Deep Go.Lib
set_option maxRecDepth 100000
section
variable {H : Type} {enc : TypeId × Value → H} {w : World} {base : Nat} {spare : Nat → Bool} {held : Bool}
/-- A datum no text of which is too long to be read. -/
def Lite (t : TypeId) (d : DataW H) : Prop := ∀ n ∈ d.weights Try.prog t, n ≤ reachBytes
theorem lite_of {ts : List TypeId} {ds : List (DataW H)} (h : (DataW.weightsEach Try.prog ts ds).all (· ≤ reachBytes) = true) {j : Nat} {t : TypeId} {d : DataW H} (ht : ts[j]? = some t) (hd : ds[j]? = some d) : Lite t d := fun n hn => by
  have := List.all_eq_true.1 h n (DataW.weights_mem_each ht hd n hn)
  simpa using this
theorem bounds_int {n : Int} (h : (Lit.int .i64 n).wf = true) : -9223372036854775808 ≤ n ∧ n ≤ 9223372036854775807 := by
  simpa [Lit.wf, IntKind.min, IntKind.max, IntKind.signed, IntKind.bits] using h
theorem bounds8 {n : Int} (h : (Lit.int .u8 n).wf = true) : 0 ≤ n ∧ n ≤ 255 := by
  simpa [Lit.wf, IntKind.min, IntKind.max, IntKind.signed, IntKind.bits] using h
theorem bytes_size (s : ByteArray) : s.data.toList.length = s.size := rfl
theorem reach_le {n : Nat} (h : n ≤ reachBytes) : n ≤ 140737488355328 := Nat.le_trans h (Nat.le_of_lt reachBytes_lt)
theorem bytes_of {fuel : Nat} {cs : List Value} {x : DataW H × List MemPlace} (h : DataW.trod enc Try.prog w base spare held fuel 28 cs = some x) :
    ∃ (A : Option Addr) (len cap : Nat) (l : List Nat), cs = [.slice A len cap] ∧ l.length = len ∧ len ≤ cap ∧ cap ≤ maxLen ∧ (∀ x ∈ l, x < 256) ∧ Rd w A l ∧ (A = none → cap = 0) := by
  rcases open_ints Try.underlying28 Try.underlying5 (by kernel_rfl) h with ⟨hcs, _⟩ | ⟨x, l0, c0, zs, hcs, _, h1, h2, hz, _, hc, hw⟩
  · exact ⟨none, 0, 0, [], hcs, rfl, Nat.le_refl _, Nat.zero_le _, fun _ h => (by cases h), Rd.nil _ _, fun _ => rfl⟩
  · have h3 : l0 ≤ zs.length := by
      rw [show zs.length = _ by simpa using hz]
      first | exact h1 | (split <;> omega)
    have hb : ∀ i, i < zs.length → 0 ≤ zs.getD i 0 ∧ zs.getD i 0 ≤ 255 := fun i hi => by
      have := hw (zs.getD i 0) (by rw [List.getD_eq_getElem?_getD, List.getElem?_eq_getElem hi]; exact List.getElem_mem hi)
      exact bounds8 this
    refine ⟨some x, l0, c0, (zs.take l0).map Int.toNat, hcs, by rw [List.length_map, List.length_take]; omega, h1, h2, ?_, fun hl => ?_, fun e => by cases e⟩
    · intro y hy
      obtain ⟨z, hz, rfl⟩ := List.mem_map.1 hy
      have := bounds8 (hw z (List.mem_of_mem_take hz))
      omega
    · have hp : 0 < zs.length := by
        rcases zs with _ | ⟨z, zs⟩
        · simp at hl
        · simp
      obtain ⟨b, off, rfl, hc'⟩ := ints_at hc hp
      refine ⟨b, off, rfl, fun i hi => ?_⟩
      rw [List.length_map, List.length_take] at hi
      rw [hc' i (by omega)]
      have h0 := hb i (by omega)
      have e : zs.getD i 0 = zs[i]'(by omega) := by rw [List.getD_eq_getElem?_getD, List.getElem?_eq_getElem (by omega)]; rfl
      rw [e] at h0 ⊢
      simp only [bv, List.getElem_map, List.getElem_take, Option.some.injEq, Value.int.injEq, true_and]
      omega
theorem bytes_in {r : Reach} {b0 : Nat} {v : Value} {d : DataW H} {p : List MemPlace} (hv : Value.okWide Try.prog w r b0 28 v) (h : DataW.Trod enc Try.prog w base spare held 28 v d p) :
    ∃ (A : Option Addr) (len cap : Nat) (l : List Nat), v = .slice A len cap ∧ l.length = len ∧ len ≤ cap ∧ cap ≤ maxLen ∧ (∀ x ∈ l, x < 256) ∧ Rd w A l ∧ (A = none → cap = 0) := by
  obtain ⟨a, l0, c0, rfl⟩ := okWide_slice Try.underlying28 hv
  obtain ⟨fuel, hf⟩ := h
  obtain ⟨A, len, cap, l, hcs, rest⟩ := bytes_of hf
  simp [Value.cells] at hcs
  obtain ⟨rfl, rfl, rfl⟩ := hcs
  exact ⟨_, _, _, l, rfl, rest⟩
/-- Numbers that come in. -/
theorem ints_of {fuel : Nat} {cs : List Value} {x : DataW H × List MemPlace} (h : DataW.trod enc Try.prog w base spare held fuel 29 cs = some x) :
    ∃ (A : Option Addr) (len cap : Nat) (l : List Int), cs = [.slice A len cap] ∧ l.length = len ∧ len ≤ cap ∧ cap ≤ maxLen ∧ (∀ x ∈ l, -9223372036854775808 ≤ x ∧ x ≤ 9223372036854775807) ∧ Ints w A l ∧ (A = none → cap = 0) ∧ (Lite 29 x.1 → l.length ≤ 140737488355328) := by
  rcases open_ints Try.underlying29 Try.underlying3 (by kernel_rfl) h with ⟨hcs, _⟩ | ⟨x, l0, c0, zs, hcs, _, h1, h2, hz, hxx, hc, hw⟩
  · exact ⟨none, 0, 0, [], hcs, rfl, Nat.le_refl _, Nat.zero_le _, fun _ h => (by cases h), fun h => absurd rfl h, fun _ => rfl, fun _ => Nat.zero_le _⟩
  · have h3 : l0 ≤ zs.length := by
      rw [show zs.length = _ by simpa using hz]
      first | exact h1 | (split <;> omega)
    refine ⟨some x, l0, c0, zs.take l0, hcs, by rw [List.length_take]; omega, h1, h2, fun y hy => bounds_int (hw y (List.mem_of_mem_take hy)), fun hl => ?_, (fun e => by cases e), fun hl => ?_⟩
    rotate_left
    · have hb8 : Try.prog.bytesOf 3 = 8 := by kernel_rfl
      have hw8 : ((lits .i64 (zs.take l0) : List (DataW H)).length + (lits .i64 (zs.drop l0) : List (DataW H)).length) * 8 ≤ reachBytes := by
        refine hl _ ?_
        rw [hxx]
        simp only [DataW.weights, Try.underlying29, hb8]
        exact List.mem_cons_self
      have hw9 := reach_le hw8
      simp only [lits, List.length_map] at hw9
      omega
    have hp : 0 < zs.length := by
      rcases zs with _ | ⟨z, zs⟩
      · simp at hl
      · simp
    obtain ⟨b, off, rfl, hc'⟩ := ints_at hc hp
    refine ⟨b, off, rfl, fun i hi => ?_⟩
    rw [List.length_take] at hi
    rw [hc' i (by omega)]
    have e : zs.getD i 0 = zs[i]'(by omega) := by rw [List.getD_eq_getElem?_getD, List.getElem?_eq_getElem (by omega)]; rfl
    rw [e, List.getElem_take]
end
end Go.Proofs.Ytoooainecoappaa
