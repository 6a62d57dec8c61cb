/-
  The key of a row of values: the program's.
-/
import Derived.Test.YtjkmbggaoinkdaaKeyC
namespace Go.Proofs.Ytjkmbggaoinkdaa
open Go.RowKit Dg
/-- A value. -/
structure Vl where
  k : Int
  n : Int
  s : ByteArray
def Vl.may (x : Vl) : Bool := mayF x.k x.n x.s
def Vl.key (x : Vl) : List Nat := keyV x.k x.n x.s
def Vl.val (x : Vl) : Value := .agg #[.int .i64 x.k, .int .i64 x.n, .string x.s]
def Vl.cells (x : Vl) : List Value := [.int .i64 x.k, .int .i64 x.n, .string x.s]
/-- Its number is one of 64 bits. -/
def Vl.fit (x : Vl) : Prop := -9223372036854775808 ≤ x.n ∧ x.n ≤ 9223372036854775807 ∧ x.s.size ≤ 140737488355328
/-- The cells at A read as the values L. -/
def VRow (w : World) (A : Option Addr) (L : List Vl) : Prop :=
  L ≠ [] → ∃ b off, A = some ⟨b, off, none⟩ ∧ ∀ i (h : i < L.length), w.cell? ⟨b, off + i * 3, none⟩ = some (.int .i64 L[i].k) ∧ w.cell? ⟨b, off + i * 3 + 1, none⟩ = some (.int .i64 L[i].n) ∧ w.cell? ⟨b, off + i * 3 + 2, none⟩ = some (.string L[i].s)
theorem VRow.below {w w' : World} {A : Option Addr} {L : List Vl} (h : VRow w A L) (hb : Below w.heap.size w w') : VRow w' A L := fun hl => by
  obtain ⟨b, off, e, hc⟩ := h hl
  refine ⟨b, off, e, fun i hi => ?_⟩
  obtain ⟨h0, h1, h2⟩ := hc i hi
  exact ⟨(hb.cell (World.block_lt_of_cell? w _ h0)).trans h0, (hb.cell (World.block_lt_of_cell? w _ h1)).trans h1, (hb.cell (World.block_lt_of_cell? w _ h2)).trans h2⟩
/-- The keys of values, one behind the other. -/
def keys (L : List Vl) : List Nat := L.flatMap Vl.key
theorem keys_succ (L : List Vl) (k : Nat) (h : k < L.length) : keys (L.take (k + 1)) = keys (L.take k) ++ L[k].key := by
  unfold keys
  rw [List.take_succ_eq_append_getElem h, List.flatMap_append]
  simp
theorem mem_take {α : Type} (L : List α) (k : Nat) (h : k < L.length) : L[k] ∈ L.take (k + 1) := by
  rw [List.take_succ_eq_append_getElem h]
  exact List.mem_append_right _ (List.mem_singleton.2 rfl)
theorem short_size {n : Int} {s : ByteArray} (h : short n s = true) : s.size ≤ 4096 := by
  unfold short at h; simp at h; exact h.2
theorem empty_size {s : ByteArray} (h : s.toList.isEmpty = true) : s.size = 0 := by
  rw [ByteArray.toList_eq] at h
  obtain ⟨⟨l⟩⟩ := s
  simp at h
  subst h; rfl
theorem may_size {k n : Int} {s : ByteArray} (h : mayF k n s = true) : s.size ≤ 4096 := by
  unfold mayF at h
  repeat' split at h
  all_goals first
    | (simp only [Bool.and_eq_true] at h; first | (have := empty_size h.2; omega) | (have := empty_size h.1; omega) | exact short_size h.1)
    | (have := empty_size h; omega)
    | exact short_size h
    | cases h
theorem keys_le (L : List Vl) (k : Nat) (hk : k ≤ L.length) (h : ∀ x ∈ L.take k, x.may = true) : (keys (L.take k)).length ≤ 8201 * k := by
  induction k with
  | zero => simp [keys]
  | succ k ih =>
    rw [keys_succ L k (by omega), List.length_append]
    have h1 := ih (by omega) (fun x hx => h x (by rw [List.take_succ_eq_append_getElem (by omega)]; exact List.mem_append_left _ hx))
    have h2 : L[k].may = true := h _ (mem_take L k (by omega))
    have h3 := keyV_len L[k].k L[k].n L[k].s
    have h4 := may_size h2
    unfold Vl.key
    omega
end Go.Proofs.Ytjkmbggaoinkdaa
