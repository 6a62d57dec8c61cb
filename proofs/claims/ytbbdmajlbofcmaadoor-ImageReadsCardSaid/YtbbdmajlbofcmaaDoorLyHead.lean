/-
  Reading a number: what the loop of 'head' comes to, as a function of the bytes; and what it gives on written numbers, on such as are cut short, and on two bytes that are no number.
-/
import Derived.Test.YtbbdmajlbofcmaaDoorMath
namespace Go.Proofs.YtbbdmajlbofcmaaDoor.Dg

/-- n with one more digit d at place i, in 64 bits. -/
def join (i n d : Nat) : Nat := n + d * 128 ^ i % 18446744073709551616

/-- The number at the head of l, how many bytes it has, the error: f rounds are left, i bytes have been read, they come to n. -/
def headF (most : Nat) : Nat → Nat → Nat → List Nat → Nat × Nat × Nat
  | 0, _, _, _ => (0, 0, 2)
  | _ + 1, _, _, [] => (0, 0, 4)
  | f + 1, i, n, b :: l =>
    if 128 ≤ b then headF most f (i + 1) (join i n (b % 128)) l
    else if (0 < i ∧ b % 128 = 0) ∨ join i n (b % 128) / 128 ^ i ≠ b % 128 ∨ most < join i n (b % 128) then (0, 0, 2)
    else (join i n (b % 128), i + 1, 0)

section
variable {most f i n b : Nat} {l : List Nat} {R : Nat × Nat × Nat}
theorem head_over (h : headF most 0 i n l = R) : R = (0, 0, 2) := by rw [← h]; simp [headF]
theorem head_end (h : headF most (f + 1) i n [] = R) : R = (0, 0, 4) := by rw [← h]; simp [headF]
theorem head_more (h : headF most (f + 1) i n (b :: l) = R) (hb : 128 ≤ b) : headF most f (i + 1) (join i n (b % 128)) l = R := by
  rw [← h, headF, if_pos hb]
theorem head_form (h : headF most (f + 1) i n (b :: l) = R) (hb : b < 128) (hc : (0 < i ∧ b % 128 = 0) ∨ join i n (b % 128) / 128 ^ i ≠ b % 128 ∨ most < join i n (b % 128)) : R = (0, 0, 2) := by
  rw [← h, headF, if_neg (by omega), if_pos hc]
theorem head_good (h : headF most (f + 1) i n (b :: l) = R) (hb : b < 128) (hc : ¬ ((0 < i ∧ b % 128 = 0) ∨ join i n (b % 128) / 128 ^ i ≠ b % 128 ∨ most < join i n (b % 128))) : R = (join i n (b % 128), i + 1, 0) := by
  rw [← h, headF, if_neg (by omega), if_neg hc]
end

theorem pow_le_nine : ∀ i, i ≤ 9 → 128 ^ i ≤ 9223372036854775808 := by
  intro i hi
  have := Nat.pow_le_pow_right (n := 128) (by omega) hi
  have e : (128 : Nat) ^ 9 = 9223372036854775808 := by decide
  omega
theorem join_lt {i n d : Nat} (hi : i < 9) (hn : n < 128 ^ i) (hd : d < 128) : join i n d < 128 ^ (i + 1) := by
  have hp := pow_le_nine (i + 1) (by omega)
  have he : (128 : Nat) ^ (i + 1) = 128 ^ i * 128 := Nat.pow_succ ..
  have h1 : d * 128 ^ i ≤ 127 * 128 ^ i := Nat.mul_le_mul_right _ (by omega)
  unfold join
  rw [Nat.mod_eq_of_lt (by omega)]
  omega
theorem join_big {n d : Nat} (i : Nat) (hi : i ≤ 9) (hn : n < 128 ^ i) : join i n d < 18446744073709551616 := by
  have hp := pow_le_nine i hi
  unfold join
  rcases Nat.lt_or_ge i 9 with h | h
  · have h2 : d * 128 ^ i % 18446744073709551616 = 128 ^ i * (d % (18446744073709551616 / 128 ^ i)) := by
      have e : (18446744073709551616 : Nat) = 128 ^ i * (18446744073709551616 / 128 ^ i) := by
        have : i = 0 ∨ i = 1 ∨ i = 2 ∨ i = 3 ∨ i = 4 ∨ i = 5 ∨ i = 6 ∨ i = 7 ∨ i = 8 := by omega
        rcases this with rfl | rfl | rfl | rfl | rfl | rfl | rfl | rfl | rfl <;> decide
      conv => lhs; rw [e]
      rw [Nat.mul_comm d, Nat.mul_mod_mul_left]
    have e : (18446744073709551616 : Nat) = 128 ^ i * (18446744073709551616 / 128 ^ i) := by
      have : i = 0 ∨ i = 1 ∨ i = 2 ∨ i = 3 ∨ i = 4 ∨ i = 5 ∨ i = 6 ∨ i = 7 ∨ i = 8 := by omega
      rcases this with rfl | rfl | rfl | rfl | rfl | rfl | rfl | rfl | rfl <;> decide
    have hq : 0 < 18446744073709551616 / 128 ^ i := Nat.div_pos (by omega) (Nat.pow_pos (by omega))
    have hm := Nat.mod_lt d hq
    rw [h2]
    have h3 : 128 ^ i * (d % (18446744073709551616 / 128 ^ i) + 1) ≤ 128 ^ i * (18446744073709551616 / 128 ^ i) := Nat.mul_le_mul_left _ (by omega)
    rw [Nat.mul_add] at h3
    omega
  · obtain rfl : i = 9 := by omega
    have e9 : (128 : Nat) ^ 9 = 9223372036854775808 := by decide
    rw [e9] at hn ⊢
    omega

/-- A number that is written is read as it was; one above 'most' is refused. -/
theorem head_digs (most : Nat) (rest : List Nat) : ∀ (m f i n : Nat), n < 128 ^ i → (0 < i → 0 < m) → n + m * 128 ^ i < 18446744073709551616 → (digs m).length ≤ f →
    headF most f i n (digs m ++ rest) = if most < n + m * 128 ^ i then (0, 0, 2) else (n + m * 128 ^ i, i + (digs m).length, 0) := by
  intro m
  induction m using Nat.strongRecOn with
  | ind m ih =>
    intro f i n hn hm hlt hf
    obtain ⟨f, rfl⟩ : ∃ g, f = g + 1 := ⟨f - 1, by have := digs_pos m; omega⟩
    rcases Nat.lt_or_ge m 128 with h | h
    · have hj : join i n (m % 128) = n + m * 128 ^ i := by
        unfold join
        rw [Nat.mod_eq_of_lt h, Nat.mod_eq_of_lt (by omega)]
      have hd : (n + m * 128 ^ i) / 128 ^ i = m := by
        rw [Nat.add_mul_div_right _ _ (Nat.pow_pos (by omega)), Nat.div_eq_of_lt hn, Nat.zero_add]
      rw [digs_lt h, List.singleton_append, headF, if_neg (by omega), hj, hd, Nat.mod_eq_of_lt h]
      by_cases hmost : most < n + m * 128 ^ i
      · rw [if_pos (Or.inr (Or.inr hmost)), if_pos hmost]
      · rw [if_neg (by omega), if_neg hmost]; simp
    · have hj : join i n ((m % 128 + 128) % 128) = n + m % 128 * 128 ^ i := by
        unfold join
        rw [show (m % 128 + 128) % 128 = m % 128 by omega]
        rw [Nat.mod_eq_of_lt]
        have : m % 128 * 128 ^ i ≤ m * 128 ^ i := Nat.mul_le_mul_right _ (by omega)
        omega
      have he : n + m % 128 * 128 ^ i + m / 128 * 128 ^ (i + 1) = n + m * 128 ^ i := by
        rw [Nat.pow_succ, ← Nat.mul_assoc, Nat.mul_right_comm, Nat.add_assoc, ← Nat.add_mul]
        congr 2
        omega
      have hn' : n + m % 128 * 128 ^ i < 128 ^ (i + 1) := by
        have h1 : m % 128 * 128 ^ i ≤ 127 * 128 ^ i := Nat.mul_le_mul_right _ (by omega)
        rw [Nat.pow_succ]
        omega
      rw [digs_ge h, List.cons_append, headF, if_pos (by omega), hj, ih (m / 128) (by omega) f (i + 1) _ hn' (fun _ => by omega) (by rw [he]; exact hlt) (by rw [digs_ge h, List.length_cons] at hf; omega), he]
      rw [List.length_cons, show i + 1 + (digs (m / 128)).length = i + ((digs (m / 128)).length + 1) by omega]

/-- A number that is cut short. -/
theorem head_cut (most : Nat) : ∀ (m f i n c : Nat), c < (digs m).length → (digs m).length ≤ f → headF most f i n ((digs m).take c) = (0, 0, 4) := by
  intro m
  induction m using Nat.strongRecOn with
  | ind m ih =>
    intro f i n c hc hf
    obtain ⟨f, rfl⟩ : ∃ g, f = g + 1 := ⟨f - 1, by have := digs_pos m; omega⟩
    rcases c with _ | c
    · simp [headF]
    · rcases Nat.lt_or_ge m 128 with h | h
      · rw [digs_lt h] at hc; simp at hc
      · rw [digs_ge h, List.length_cons] at hc hf
        rw [digs_ge h, List.take_succ_cons, headF, if_pos (by omega)]
        exact ih (m / 128) (by omega) f _ _ c (by omega) (by omega)

/-- The bytes 128, 0: no number. -/
theorem head_zero (most f : Nat) (rest : List Nat) : headF most (f + 2) 0 0 (128 :: 0 :: rest) = (0, 0, 2) := by
  simp [headF]

/-- It goes on by no more bytes than there are. -/
theorem head_len (most : Nat) : ∀ (f i n : Nat) (l : List Nat), (headF most f i n l).2.1 ≤ i + l.length := by
  intro f
  induction f with
  | zero => intro i n l; simp [headF]
  | succ f ih =>
    intro i n l
    rcases l with _ | ⟨b, l⟩
    · simp [headF]
    · rw [headF, List.length_cons]
      by_cases hb : 128 ≤ b
      · rw [if_pos hb]
        have := ih (i + 1) (join i n (b % 128)) l
        omega
      · rw [if_neg hb]
        split
        · simp
        · simp only; omega
theorem head_big (most : Nat) : ∀ (f i n : Nat) (l : List Nat), (headF most f i n l).1 ≤ most := by
  intro f
  induction f with
  | zero => intro i n l; simp [headF]
  | succ f ih =>
    intro i n l
    rcases l with _ | ⟨b, l⟩
    · simp [headF]
    · rw [headF]
      by_cases hb : 128 ≤ b
      · rw [if_pos hb]; exact ih _ _ _
      · rw [if_neg hb]
        split
        · simp
        · simp only; omega
/-- What a reader's number is, what is left, and the error. -/
def numF (most : Nat) (l : List Nat) (e : Nat) : Nat × List Nat × Nat :=
  if e ≠ 0 then (0, l, e) else if (headF most 10 0 0 l).2.2 ≠ 0 then (0, l, (headF most 10 0 0 l).2.2) else ((headF most 10 0 0 l).1, l.drop (headF most 10 0 0 l).2.1, 0)
theorem numF_le (most : Nat) (l : List Nat) (e : Nat) : (numF most l e).1 ≤ most := by
  unfold numF
  split
  · simp
  · split
    · simp
    · exact head_big ..
end Go.Proofs.YtbbdmajlbofcmaaDoor.Dg
