/-
  Nodes' small functions: size, height, find, lot, middle, least, atop, single.
-/
import Derived.Test.YtmapclocbhkpbaaTrK
import Derived.Deep.RegionHeld3
namespace Go.Proofs.Ytmapclocbhkpbaa
open Go.RowKit Go.Maps Dg
set_option linter.unusedVariables false
section
variable {n : Nat} {w : World}
theorem size_any (T : Tr) (hT : IsTr n w T) : Calls Try.prog 30 #[.pointer T.ptr] w fun e w' => e = .returned (.int .i64 (T.size : Int)) ∧ w' = w := by
  cases T with
  | nil =>
    go_enter Try.func30, Try.ntmps30
    go_wp2_with fail
    go_ret
    exact ⟨rfl, rfl⟩
  | node b l k v lo le r =>
    obtain ⟨h1, h2, h3, h4⟩ := hT
    show Calls _ _ #[.pointer (some ⟨b, 0, none⟩)] _ _
    have c4 : w.cell? ⟨b, 4, none⟩ = some (.int .i64 ((l.size + 1 + r.size : Nat) : Int)) := h2.cell 4
    go_enter Try.func30, Try.ntmps30
    go_wp2_with fail
    go_ret
    exact ⟨rfl, rfl⟩
theorem height_any (T : Tr) (hT : IsTr n w T) : Calls Try.prog 33 #[.pointer T.ptr] w fun e w' => e = .returned (.int .i64 (T.ht : Int)) ∧ w' = w := by
  cases T with
  | nil =>
    go_enter Try.func33, Try.ntmps33
    go_wp2_with fail
    go_ret
    exact ⟨rfl, rfl⟩
  | node b l k v lo le r =>
    obtain ⟨h1, h2, h3, h4⟩ := hT
    show Calls _ _ #[.pointer (some ⟨b, 0, none⟩)] _ _
    have c4 : w.cell? ⟨b, 5, none⟩ = some (.int .i64 ((1 + max l.ht r.ht : Nat) : Int)) := h2.cell 5
    go_enter Try.func33, Try.ntmps33
    go_wp2_with fail
    go_ret
    exact ⟨rfl, rfl⟩
theorem middle_any (w : World) (m : Nat) (hm : m ≤ 1000000) : Calls Try.prog 42 #[.int .i64 (m : Int)] w fun e w' => e = .returned (.tuple #[.int .i64 ((m : Int) / 3), .int .i64 ((m : Int) - (m : Int) / 3)]) ∧ w' = w := by
  have h1 : (0 : Int) ≤ (m : Int) / 3 := by omega
  have h2 : (m : Int) / 3 ≤ (m : Int) := by omega
  go_enter Try.func42, Try.ntmps42
  go_wp2_with fail
  go_ret2
  exact ⟨rfl, rfl⟩
/-- The node of a key, on the way down. -/
def Tr.find (key : ByteArray) : Tr → Option Nd
  | .nil => none
  | .node b l k v _ _ r => if k.toList == key.toList then some ⟨b, k, v⟩ else if kl key k then l.find key else r.find key
def ndPtr : Option Nd → Value
  | none => .pointer none
  | some x => .pointer (some ⟨x.b, 0, none⟩)
/-- How far down it still goes, as the memory has it. -/
def mzr (w : World) : Value → Nat
  | .pointer (some a) => match w.cell? ⟨a.block, 5, none⟩ with
    | some (.int _ h) => h.toNat
    | _ => 0
  | _ => 0
theorem mzr_at {T : Tr} (hT : IsTr n w T) : mzr w (.pointer T.ptr) = T.ht := by
  cases T with
  | nil => rfl
  | node b l k v lo le r =>
    have c5 : w.cell? ⟨b, 5, none⟩ = some (.int .i64 ((1 + max l.ht r.ht : Nat) : Int)) := hT.2.1.cell 5
    show (match w.cell? ⟨b, 5, none⟩ with | some (.int _ h) => h.toNat | _ => 0) = _
    rw [c5]
    rfl
set_option maxHeartbeats 2000000 in
theorem find_any (T : Tr) (hT : IsTr n w T) (key : ByteArray) : Calls Try.prog 27 #[.pointer T.ptr, .string key] w fun e w' => e = .returned (ndPtr (T.find key)) ∧ w' = w := by
  go_enter Try.func27, Try.ntmps27
  go_wp2_with fail
  go_loopw [0] (fun p wr => ∃ S : Tr, p = .pointer S.ptr ∧ IsTr n w S ∧ S.find key = T.find key ∧ wr = w) (fun p wr => mzr wr p)
  case atStart => exact ⟨T, rfl, hT, rfl, rfl⟩
  case round =>
    obtain ⟨S, rfl, hS, hf, rfl⟩ := hrel
    cases S with
    | nil =>
      have hp : (Tr.nil).ptr = none := rfl
      rw [hp]
      go_wp2_with fail
      go_ret
      rw [← hf]
      exact ⟨rfl, rfl⟩
    | node b l k v lo le r =>
      have hS' := hS
      obtain ⟨h1, h2, h3, h4⟩ := hS
      have hp : (Tr.node b l k v lo le r).ptr = some ⟨b, 0, none⟩ := rfl
      rw [hp]
      have c0 : wr.cell? ⟨b, 0, none⟩ = some (.string k) := h2.cell 0
      have c2 : wr.cell? ⟨b, 2, none⟩ = some (.pointer l.ptr) := h2.cell 2
      have c3 : wr.cell? ⟨b, 3, none⟩ = some (.pointer r.ptr) := h2.cell 3
      cases he : (k.toList == key.toList) with
      | true =>
        have hff : (Tr.node b l k v lo le r).find key = some ⟨b, k, v⟩ := by simp [Tr.find, he]
        go_wp2_with fail
        go_ret
        rw [← hf, hff]
        exact ⟨rfl, rfl⟩
      | false =>
        cases hl : Op.bytesLess key.toList k.toList with
        | true =>
          have hff : (Tr.node b l k v lo le r).find key = l.find key := by simp [Tr.find, he, kl, hl]
          go_wp2_with fail
          go_roundw
          case rel => exact ⟨l, rfl, h3, by rw [← hf, hff], by trivial⟩
          case measure => rw [mzr_at h3, ← hp, mzr_at hS']; simp only [Tr.ht]; omega
        | false =>
          have hff : (Tr.node b l k v lo le r).find key = r.find key := by simp [Tr.find, he, kl, hl]
          go_wp2_with fail
          go_roundw
          case rel => exact ⟨r, rfl, h4, by rw [← hf, hff], by trivial⟩
          case measure => rw [mzr_at h4, ← hp, mzr_at hS']; simp only [Tr.ht]; omega
set_option maxHeartbeats 2000000 in
theorem lot_any (w : World) (key : ByteArray) (hk : key.size ≤ 140737488355328) : Calls Try.prog 37 #[.string key] w fun e w' => (∃ k : Int, e = .returned (.int .i64 k)) ∧ w' = w := by
  have hkI : (key.size : Int) ≤ 140737488355328 := by omega
  go_enter Try.func37, Try.ntmps37
  go_wp2_with fail
  go_loopw [3, 7] (fun h i wr => ∃ (x : Int) (k : Nat), k ≤ key.size ∧ h = .int .u64 x ∧ i = .int .i64 k ∧ wr = w) (fun _ i _ => key.size - (intOf i).toNat)
  case atStart => exact ⟨_, 0, by omega, rfl, rfl, rfl⟩
  case round =>
    obtain ⟨x, k, hk2, rfl, rfl, rfl⟩ := hrel
    by_cases hlt : k < key.size
    · have hi : (k : Int) < (key.size : Int) := by omega
      go_wp2_with fail
      go_roundw
      case rel => exact ⟨_, k + 1, by omega, rfl, by go_num, by trivial⟩
      case measure => simp [intOf]; omega
    · go_wp2_with fail
      go_ret
      exact ⟨⟨_, rfl⟩, rfl⟩
end
end Go.Proofs.Ytmapclocbhkpbaa
