/-
  The key of a row of values: the document's.
-/
import Derived.Test.YtbbdmajlbofcmaaKeyD
namespace Go.Proofs.Ytbbdmajlbofcmaa
open Go.RowKit Dg
/-- What the document's loop has of a number at round k. -/
def shl (m k : Nat) : Nat := m * 256 ^ k % 18446744073709551616
theorem shl_byte (m k : Nat) (hm : m < 18446744073709551616) (hk : k < 8) : shl m k / 72057594037927936 = m / 2 ^ (8 * (8 - 1 - k)) % 256 := by
  unfold shl
  have e : k = 0 ∨ k = 1 ∨ k = 2 ∨ k = 3 ∨ k = 4 ∨ k = 5 ∨ k = 6 ∨ k = 7 := by omega
  rcases e with rfl | rfl | rfl | rfl | rfl | rfl | rfl | rfl <;> simp <;> omega
theorem shl_next (m k : Nat) : shl m k * 256 % 18446744073709551616 = shl m (k + 1) := by
  unfold shl
  rw [Nat.mod_mul_mod, Nat.pow_succ, Nat.mul_assoc]
theorem shl_lt (m k : Nat) : shl m k < 18446744073709551616 := Nat.mod_lt _ (by omega)
theorem may_kind {k n : Int} {s : ByteArray} (h : mayF k n s = true) : k = 0 ∨ k = 1 ∨ k = 2 ∨ k = 3 ∨ k = 4 := by
  unfold mayF at h
  repeat' split at h
  all_goals first | (simp; omega) | omega | cases h
theorem keyV_one (n : Int) (s : ByteArray) : keyV 1 n s = [1] ++ [(n % 256).toNat] := by
  simp [keyV, hi]
theorem keyV_two (n : Int) (s : ByteArray) : keyV 2 n s = [2] ++ hi (n + 9223372036854775808) 8 8 := rfl
theorem keyV_text3 (n : Int) (s : ByteArray) : keyV 3 n s = [3] ++ (esc (sb s) ++ [0, 1]) := rfl
theorem keyV_text4 (n : Int) (s : ByteArray) : keyV 4 n s = [4] ++ (esc (sb s) ++ [0, 1]) := rfl
end Go.Proofs.Ytbbdmajlbofcmaa
