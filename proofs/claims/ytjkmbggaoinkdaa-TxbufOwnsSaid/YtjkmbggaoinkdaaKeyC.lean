/-
  A value's key behind others; and the key of a row of values.
-/
import Derived.Test.YtjkmbggaoinkdaaKeyB
namespace Go.Proofs.Ytjkmbggaoinkdaa
open Go.RowKit Dg
theorem xor_half (u : Nat) (h : u < 18446744073709551616) : u ^^^ 9223372036854775808 = (u + 9223372036854775808) % 18446744073709551616 := by
  have h1 := Nat.xor_mod_two_pow (a := u) (b := 9223372036854775808) (n := 63)
  have h2 := Nat.xor_div_two_pow (a := u) (b := 9223372036854775808) (n := 63)
  rw [show (2 : Nat) ^ 63 = 9223372036854775808 by decide] at h1 h2
  rw [show (9223372036854775808 : Nat) % 9223372036854775808 = 0 by decide, Nat.xor_zero] at h1
  rw [show (9223372036854775808 : Nat) / 9223372036854775808 = 1 by decide] at h2
  have h3 : u / 9223372036854775808 = 0 ∨ u / 9223372036854775808 = 1 := by omega
  rcases h3 with h3 | h3 <;> rw [h3] at h2
  · rw [show (0 : Nat) ^^^ 1 = 1 by decide] at h2; omega
  · rw [show (1 : Nat) ^^^ 1 = 0 by decide] at h2; omega
/-- A number with its highest bit changed. -/
def flip (n : Int) : Int := if n < 0 then n + 9223372036854775808 else n - 9223372036854775808
theorem flip_bits (n : Int) (h0 : -9223372036854775808 ≤ n) (h1 : n ≤ 9223372036854775807) : bits .xor .i64 n (-9223372036854775808) = flip n := by
  show IntKind.i64.wrap ((BitVec.ofInt 64 n ^^^ BitVec.ofInt 64 (-9223372036854775808)).toNat : Int) = _
  rw [BitVec.toNat_xor, show (BitVec.ofInt 64 (-9223372036854775808)).toNat = 9223372036854775808 by decide]
  have e : (BitVec.ofInt 64 n).toNat = (n % 18446744073709551616).toNat := by simp [BitVec.toNat_ofInt]
  rw [e, xor_half _ (by omega), IntKind.wrap_i64]
  unfold flip
  split <;> omega
theorem hi_flip (n : Int) (h0 : -9223372036854775808 ≤ n) (h1 : n ≤ 9223372036854775807) : hi (flip n) 8 8 = hi (n + 9223372036854775808) 8 8 := by
  unfold hi
  apply List.map_congr_left
  intro i hi
  have hi := List.mem_range.1 hi
  have e : i = 0 ∨ i = 1 ∨ i = 2 ∨ i = 3 ∨ i = 4 ∨ i = 5 ∨ i = 6 ∨ i = 7 := by omega
  unfold flip
  split
  · rfl
  · rcases e with rfl | rfl | rfl | rfl | rfl | rfl | rfl | rfl <;> simp <;> omega
/-- A value's key. -/
def keyV (k n : Int) (s : ByteArray) : List Nat :=
  if k = 1 then 1 :: hi n 1 1 else if k = 2 then 2 :: hi (n + 9223372036854775808) 8 8 else if k = 3 ∨ k = 4 then k.toNat :: (esc (sb s) ++ [0, 1]) else [(k % 256).toNat]
theorem keyV_len (k n : Int) (s : ByteArray) : (keyV k n s).length ≤ 2 * s.size + 9 := by
  unfold keyV
  have := esc_len (sb s)
  rw [sb_length] at this
  repeat' split
  all_goals simp [hi_len] <;> omega
end Go.Proofs.Ytjkmbggaoinkdaa
