/-
  The document's values of a key, byte by byte. Mathematics.
-/
import Derived.Test.YtjkmbggaoinkdaaDoorGdM
import Derived.Test.YtjkmbggaoinkdaaDoorCmp
namespace Go.Proofs.YtjkmbggaoinkdaaDoor
open Go.RowKit Dg
set_option maxRecDepth 100000
theorem sb_dropc (s : ByteArray) (k : Nat) (h : k < s.size) : (sb s).drop k = (s[k]'h).toNat :: (sb s).drop (k + 1) := by
  rw [List.drop_eq_getElem_cons (by rw [sb_length]; exact h), sb_get s k h]
theorem be_drop_succ (s : ByteArray) (i j : Nat) (h : i + j < s.size) : beN (((sb s).drop i).take (j + 1)) = beN (((sb s).drop i).take j) * 256 + (s[i + j]'h).toNat := by
  have hl : j < ((sb s).drop i).length := by rw [List.length_drop, sb_length]; omega
  rw [List.take_succ_eq_append_getElem hl, be_snoc, List.getElem_drop, sb_get]
theorem be_drop_lt (s : ByteArray) (i j : Nat) : beN (((sb s).drop i).take j) < 256 ^ j := by
  have h := be_lt (((sb s).drop i).take j) (fun x hx => sb_byte s x (List.mem_of_mem_drop (List.mem_of_mem_take hx)))
  refine Nat.lt_of_lt_of_le h (Nat.pow_le_pow_right (by omega) ?_)
  rw [List.length_take]; omega
theorem be_pow8 {j : Nat} (h : j ≤ 8) : (256 : Nat) ^ j ≤ 18446744073709551616 := by
  rw [show (18446744073709551616 : Nat) = 256 ^ 8 by decide]
  exact Nat.pow_le_pow_right (by omega) h
/-- What the document's values of a text come to. -/
def RValsR (s : ByteArray) (w : World) (e : Ending) (w' : World) : Prop :=
  (∃ L v, Good1 L ∧ (∀ x ∈ L, x.fits) ∧ L.length ≤ s.size ∧ keys L = sb s ∧ e = .returned (.tuple #[v, .bool true]) ∧ OwnV w.heap.size w' v L) ∨
  ((∀ L, Good1 L → keys L ≠ sb s) ∧ e = .returned (.tuple #[.slice none 0 0, .bool false]))
/-- Where what follows begins no value, the whole is no key. -/
theorem rv_no {s : ByteArray} {k : Nat} (hk : k < s.size) {acc : List Vl} (hG : Good1 acc) (hK : keys acc ++ (sb s).drop k = sb s) (hh : headF ((sb s).drop k) = none) : ∀ L, Good1 L → keys L ≠ sb s := fun L hL he => by
  rw [← hK] at he
  obtain ⟨M, h1, h2⟩ := keys_split acc L _ hG hL he
  rcases M with _ | ⟨v, M⟩
  · have := congrArg List.length h2
    rw [List.length_drop, sb_length] at this
    simp [keys] at this
    omega
  · have hv := hL v (by rw [h1]; simp)
    rw [keys_cons] at h2
    have := head_key v (keys M) hv.1 hv.2
    rw [h2, hh] at this
    cases this
theorem headF_none {c : Nat} {rest : List Nat} (h : headR c rest = none) : headF (c :: rest) = none := by simp [headF, h]
theorem headF_bad {c : Nat} {rest : List Nat} {v : Vl} {n : Nat} (h : headR c rest = some (v, n)) (hm : v.may = false) : headF (c :: rest) = none := by simp [headF, h, hm]
/-- Where a value begins, it is one more. -/
theorem rv_yes {s : ByteArray} {k : Nat} (hk : k < s.size) (hsz : s.size ≤ 900) {acc : List Vl} (hG : Good1 acc) (hF : ∀ x ∈ acc, x.fits) (hK : keys acc ++ (sb s).drop k = sb s) {v : Vl} {n : Nat}
    (h : headR (s[k]'hk).toNat ((sb s).drop (k + 1)) = some (v, n)) (hm : v.may = true) : Good1 (acc ++ [v]) ∧ (∀ x ∈ acc ++ [v], x.fits) ∧ keys (acc ++ [v]) ++ (sb s).drop (k + 1 + n) = sb s ∧ k + 1 + n ≤ s.size := by
  have hh : headF ((sb s).drop k) = some (v, n + 1) := by
    rw [sb_dropc s k hk]
    simp [headF, h, hm]
  obtain ⟨h1, h2, r, h3, h4⟩ := head_some ((sb s).drop k) (fun x hx => sb_byte s x (List.mem_of_mem_drop hx)) (by rw [List.length_drop, sb_length]; omega) v (n + 1) hh
  have hl := congrArg List.length h3
  rw [List.length_drop, sb_length, List.length_append, ← h4] at hl
  have hd : (sb s).drop (k + 1 + n) = r := by
    rw [show k + 1 + n = k + (n + 1) by omega, ← List.drop_drop, h3, h4, List.drop_left]
  refine ⟨fun x hx => ?_, fun x hx => ?_, ?_, by omega⟩
  · rcases List.mem_append.1 hx with hx | hx
    · exact hG x hx
    · rw [List.mem_singleton.1 hx]; exact ⟨h1, h2.1⟩
  · rcases List.mem_append.1 hx with hx | hx
    · exact hF x hx
    · rw [List.mem_singleton.1 hx]; exact h2
  · rw [keys_snoc, hd, List.append_assoc, ← h3, hK]
theorem headR_one {c : Nat} {s : ByteArray} {k : Nat} (hc : c = 1) (h : k < s.size) : headR c ((sb s).drop k) = some (⟨1, (s[k]'h).toNat, ⟨#[]⟩⟩, 1) := by
  subst hc
  rw [sb_dropc s k h]
  simp [headR, beN]
theorem headR_one_no {c : Nat} {s : ByteArray} {k : Nat} (hc : c = 1) (h : ¬ k < s.size) : headR c ((sb s).drop k) = none := by
  subst hc
  rw [List.drop_eq_nil_of_le (by rw [sb_length]; omega)]
  simp [headR]
theorem headR_two {c : Nat} {s : ByteArray} {k : Nat} (hc : c = 2) (h : k + 8 ≤ s.size) : headR c ((sb s).drop k) = some (⟨2, (beN (((sb s).drop k).take 8) : Int) - 9223372036854775808, ⟨#[]⟩⟩, 8) := by
  subst hc
  unfold headR
  rw [if_neg (by omega), if_pos rfl, if_neg (by rw [List.length_drop, sb_length]; omega)]
theorem headR_two_no {c : Nat} {s : ByteArray} {k : Nat} (hc : c = 2) (h : ¬ k + 8 ≤ s.size) : headR c ((sb s).drop k) = none := by
  subst hc
  unfold headR
  rw [if_neg (by omega), if_pos rfl, if_pos (by rw [List.length_drop, sb_length]; omega)]
theorem headR_text {c : Nat} {l : List Nat} (hc : c = 3 ∨ c = 4) : headR c l = (decS false [] 0 l).map fun x => (⟨c, 0, bs x.1⟩, x.2) := by
  unfold headR
  rw [if_neg (by omega), if_neg (by omega), if_pos hc]
theorem headR_else {c : Nat} {l : List Nat} (h1 : c ≠ 1) (h2 : c ≠ 2) (h3 : c ≠ 3) (h4 : c ≠ 4) : headR c l = some (⟨c, 0, ⟨#[]⟩⟩, 0) := by
  unfold headR
  rw [if_neg h1, if_neg h2, if_neg (by omega)]
theorem decS_step {s : ByteArray} {j i : Nat} {acc : List Nat} (h : j < s.size) (hx : (s[j]'h).toNat ≠ 0) : decS false acc i ((sb s).drop j) = decS false (acc ++ [(s[j]'h).toNat]) (i + 1) ((sb s).drop (j + 1)) := by
  rw [sb_dropc s j h]
  simp [decS, hx]
theorem decS_pair {s : ByteArray} {j i : Nat} {acc : List Nat} (h : j < s.size) (h1 : j + 1 < s.size) (hx : (s[j]'h).toNat = 0) (hy : (s[j + 1]'h1).toNat = 255) : decS false acc i ((sb s).drop j) = decS false (acc ++ [0]) (i + 2) ((sb s).drop (j + 2)) := by
  rw [sb_dropc s j h, sb_dropc s (j + 1) h1]
  simp [decS, hx, hy]
theorem decS_end {s : ByteArray} {j i : Nat} {acc : List Nat} (h : ¬ j + 1 < s.size) : decS false acc i ((sb s).drop j) = none := by
  by_cases h0 : j < s.size
  · rw [sb_dropc s j h0, List.drop_eq_nil_of_le (by rw [sb_length]; omega)]
    simp only [decS]
    split <;> rfl
  · rw [List.drop_eq_nil_of_le (by rw [sb_length]; omega)]
    rfl
theorem decS_done {s : ByteArray} {j i : Nat} {acc : List Nat} (h : j < s.size) (h1 : j + 1 < s.size) (hx : (s[j]'h).toNat = 0) (hy : (s[j + 1]'h1).toNat = 1) : decS false acc i ((sb s).drop j) = some (acc, i + 2) := by
  rw [sb_dropc s j h, sb_dropc s (j + 1) h1]
  simp [decS, hx, hy]
theorem decS_bad {s : ByteArray} {j i : Nat} {acc : List Nat} (h : j < s.size) (h1 : j + 1 < s.size) (hx : (s[j]'h).toNat = 0) (hy : (s[j + 1]'h1).toNat ≠ 255) (hz : (s[j + 1]'h1).toNat ≠ 1) : decS false acc i ((sb s).drop j) = none := by
  rw [sb_dropc s j h, sb_dropc s (j + 1) h1]
  simp [decS, hx, hy, hz]
end Go.Proofs.YtjkmbggaoinkdaaDoor
