/-
  Put together, as far as it is used: Math.
-/
import Derived.Lib.BitFns
set_option linter.unusedVariables false
set_option linter.unusedSimpArgs false
set_option linter.defProp false
namespace Go.Proofs.YtnpmgempkoeapaaGreatDoor.Dg
open Go.Lib (bitLen bitLen_half bitLen_shift)

def digs (n : Nat) : List Nat := if n < 128 then [n] else (n % 128 + 128) :: digs (n / 128)
termination_by n
decreasing_by omega

theorem digs_lt {n : Nat} (h : n < 128) : digs n = [n] := by rw [digs, if_pos h]
theorem digs_ge {n : Nat} (h : 128 ≤ n) : digs n = (n % 128 + 128) :: digs (n / 128) := by rw [digs, if_neg (by omega)]

theorem digs_pos (n : Nat) : 0 < (digs n).length := by
 rcases Nat.lt_or_ge n 128 with h | h
 ·rw [digs_lt h]; simp
 ·rw [digs_ge h]; simp

theorem digs_byte (n : Nat) : ∀ x ∈ digs n, x < 256 := by
 induction n using Nat.strongRecOn with
 | ind n ih =>
   rcases Nat.lt_or_ge n 128 with h | h
   ·rw [digs_lt h]; intro x hx; simp at hx; omega
   ·rw [digs_ge h]; intro x hx
    rcases List.mem_cons.1 hx with rfl | hx
    ·omega
    ·exact ih (n / 128) (by omega) x hx

def size (n : Nat) : Nat := (bitLen (n ||| 1) + 6) / 7

theorem or_one (n : Nat) : n ||| 1 = if n % 2 = 1 then n else n + 1 := by
 have h := Nat.or_mod_two_pow (a := n) (b := 1) (n := 1)
 have hd : (n ||| 1) / 2 = n / 2 := by
  have := Nat.or_div_two (a := n) (b := 1)
  simpa using this
 have h1 : (n ||| 1) % 2 = 1 := by
  have h2 := h
  simp only [Nat.pow_one] at h2
  rw [h2]
  rcases Nat.mod_two_eq_zero_or_one n with e | e <;> rw [e] <;> rfl
 split <;> omega

theorem bitLen_or {m : Nat} (h0 : m ≠ 0) (h : m < 18446744073709551616) : bitLen (m ||| 1) = bitLen m := by
 have ho := or_one m
 have hlt : m ||| 1 < 18446744073709551616 := by rw [ho]; split <;> omega
 have hz : m ||| 1 ≠ 0 := by rw [ho]; split <;> omega
 have hd : (m ||| 1) / 2 = m / 2 := by rw [ho]; split <;> omega
 rw [bitLen_half _ hz (by simpa using hlt), bitLen_half m h0 (by simpa using h), hd]

theorem size_small : ∀ n : Fin 128, size n.val = 1 := by decide +kernel

theorem size_eq (n : Nat) (h : n < 18446744073709551616) : size n = (digs n).length := by
 induction n using Nat.strongRecOn with
 | ind n ih =>
   rcases Nat.lt_or_ge n 128 with hlt | hge
   ·rw [digs_lt hlt]; exact size_small ⟨n, hlt⟩
   ·rw [digs_ge hge, List.length_cons, ← ih (n / 128) (by omega) (by omega)]
    unfold size
    have ho := or_one n
    have hs := bitLen_shift 7 (n ||| 1) (by rw [ho]; split <;> simp <;> omega) (by rw [ho]; split <;> simp <;> omega)
    have hd : (n ||| 1) / 2 ^ 7 = n / 128 := by rw [ho]; split <;> simp <;> omega
    rw [hs, hd, ← bitLen_or (m := n / 128) (by omega) (by omega)]
    omega

theorem digs_le_ten (n : Nat) (h : n < 18446744073709551616) : (digs n).length ≤ 10 := by
 have step : ∀ k m, m < 128 ^ k → (digs m).length ≤ max k 1 := by
  intro k
  induction k with
  | zero => intro m hm; have : m = 0 := by simpa using hm
            subst this; rw [digs_lt (by omega)]; simp
  | succ k ih =>
    intro m hm
    rcases Nat.lt_or_ge m 128 with hlt | hge
    ·rw [digs_lt hlt]; simp only [List.length_cons, List.length_nil]; omega
    ·rw [digs_ge hge, List.length_cons]
     have hk : 0 < k := by
      rcases Nat.eq_zero_or_pos k with rfl | hk
      ·simp at hm; omega
      ·exact hk
     have := ih (m / 128) (by rw [Nat.pow_succ] at hm; exact Nat.div_lt_of_lt_mul (by rw [Nat.mul_comm]; exact hm))
     omega
 have := step 10 n (by omega)
 omega

def digAt (n k i : Nat) : Nat := if i + 1 = k then n / 128 ^ i % 128 else n / 128 ^ i % 128 + 128

theorem digs_range (n : Nat) : digs n = (List.range (digs n).length).map (digAt n (digs n).length) := by
 induction n using Nat.strongRecOn with
 | ind n ih =>
   rcases Nat.lt_or_ge n 128 with hlt | hge
   ·rw [digs_lt hlt]; simp [digAt]; omega
   ·have hp := digs_pos (n / 128)
    have e := ih (n / 128) (by omega)
    rw [digs_ge hge, List.length_cons, List.range_succ_eq_map, List.map_cons, List.map_map]
    congr 1
    ·simp only [digAt]; rw [if_neg (by omega)]; simp
    ·conv => lhs; rw [e]
     apply List.map_congr_left
     intro i _
     simp only [digAt, Function.comp]
     have : n / 128 ^ (i + 1) = n / 128 / 128 ^ i := by rw [Nat.pow_succ, Nat.mul_comm, Nat.div_div_eq_div_mul]
     rw [this]
     by_cases hi : i + 1 = (digs (n / 128)).length
     ·rw [if_pos hi, if_pos (by omega)]
     ·rw [if_neg hi, if_neg (by omega)]

end Go.Proofs.YtnpmgempkoeapaaGreatDoor.Dg
