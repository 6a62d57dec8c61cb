/-
  A number as a text: the document's.
-/
import Derived.Test.YtlkhijccjjpbbaaDoorQuote
import Derived.Lib.ItoaNum
namespace Go.Proofs.YtlkhijccjjpbbaaDoor
open Go.RowKit Dg
/-- A number's digits, base ten. -/
def decN (u : Nat) : List Nat := if h : u < 10 then [48 + u] else decN (u / 10) ++ [48 + u % 10]
termination_by u
decreasing_by omega
theorem decN_small {u : Nat} (h : u < 10) : decN u = [48 + u] := by rw [decN, dif_pos h]
theorem decN_big {u : Nat} (h : ¬ u < 10) : decN u = decN (u / 10) ++ [48 + u % 10] := by rw [decN, dif_neg h]
theorem decN_digits (u : Nat) : (decN u).map UInt8.ofNat = Lib.decDigits u := by
  induction u using Nat.strongRecOn with
  | _ u ih =>
    by_cases h : u < 10
    · rw [decN_small h, Lib.decDigits, dif_pos h]; rfl
    · rw [decN_big h, Lib.decDigits, dif_neg h, List.map_append, ih (u / 10) (by omega)]; rfl
theorem decN_byte (u : Nat) : ∀ x ∈ decN u, 48 ≤ x ∧ x ≤ 57 := by
  induction u using Nat.strongRecOn with
  | _ u ih =>
    by_cases h : u < 10
    · rw [decN_small h]; intro x hx; rw [List.mem_singleton.1 hx]; omega
    · rw [decN_big h]
      intro x hx
      rcases List.mem_append.1 hx with h1 | h1
      · exact ih (u / 10) (by omega) x h1
      · rw [List.mem_singleton.1 h1]; omega
theorem decN_pos (u : Nat) : decN u ≠ [] := by
  by_cases h : u < 10
  · rw [decN_small h]; simp
  · rw [decN_big h]; simp
theorem decN_len : ∀ (k u : Nat), u < 10 ^ (k + 1) → (decN u).length ≤ k + 1
  | 0, u, h => by rw [decN_small (by simpa using h)]; simp
  | k + 1, u, h => by
    by_cases h10 : u < 10
    · rw [decN_small h10]; simp
    · rw [decN_big h10, List.length_append]
      have := decN_len k (u / 10) (by rw [Nat.pow_succ] at h; omega)
      simp; omega
theorem decN_inj : ∀ (u v : Nat), decN u = decN v → u = v := by
  intro u
  induction u using Nat.strongRecOn with
  | _ u ih =>
    intro v h
    by_cases hu : u < 10
    · by_cases hv : v < 10
      · rw [decN_small hu, decN_small hv] at h
        simp at h; omega
      · rw [decN_small hu, decN_big hv] at h
        have := congrArg List.length h
        have hp := List.length_pos_iff.2 (decN_pos (v / 10))
        simp only [List.length_append, List.length_cons, List.length_nil] at this
        omega
    · by_cases hv : v < 10
      · rw [decN_big hu, decN_small hv] at h
        have := congrArg List.length h
        have hp := List.length_pos_iff.2 (decN_pos (u / 10))
        simp only [List.length_append, List.length_cons, List.length_nil] at this
        omega
      · rw [decN_big hu, decN_big hv] at h
        obtain ⟨h1, h2⟩ := List.append_inj' h rfl
        have := ih (u / 10) (by omega) _ h1
        simp at h2
        omega
def itoaN (n : Int) : List Nat := if n < 0 then 45 :: decN n.natAbs else decN n.toNat
theorem itoaN_itoa (n : Int) : bs (itoaN n) = ⟨(Lib.itoa n).toArray⟩ := by
  unfold bs itoaN Lib.itoa
  split
  · rw [List.map_cons, decN_digits]; rfl
  · rw [decN_digits]
theorem itoaN_byte (n : Int) : ∀ x ∈ itoaN n, x < 256 := by
  unfold itoaN
  intro x hx
  split at hx
  · rcases List.mem_cons.1 hx with rfl | h
    · omega
    · have := decN_byte _ x h; omega
  · have := decN_byte _ x hx; omega
theorem itoaN_inj {n m : Int} (h : itoaN n = itoaN m) : n = m := by
  unfold itoaN at h
  have key : ∀ a b : Nat, 45 :: decN a ≠ decN b := by
    intro a b e
    have := decN_byte b 45 (by rw [← e]; simp)
    omega
  split at h <;> split at h
  · have := decN_inj _ _ (List.cons.inj h).2; omega
  · exact (key _ _ h).elim
  · exact (key _ _ h.symm).elim
  · have := decN_inj _ _ h; omega
theorem itoaN_len (n : Int) (h0 : -9223372036854775808 ≤ n) (h1 : n ≤ 9223372036854775807) : (itoaN n).length ≤ 21 := by
  unfold itoaN
  split
  · have := decN_len 19 n.natAbs (by omega); simp; omega
  · have := decN_len 19 n.toNat (by omega); omega
set_option maxHeartbeats 2000000 in
set_option maxRecDepth 100000 in
theorem tens_any (u : Nat) : ∀ (w : World), u < 18446744073709551616 → Calls Tryd.prog 67 #[.int .u64 u] w fun e w' => e = .returned (.string (bs (decN u))) ∧ Hid (Below w.heap.size w w') := by
  induction u using Nat.strongRecOn with
  | _ u ih =>
    intro w hu
    have HC : Hid (Sem.run Tryd.prog (convert 39 9 (.slice (some ⟨w.heap.size, 0, none⟩) 1 1)) (w.alloc (.cells #[.int .u8 (48 + (u : Int) % 10)] 5)) = .ok (.string (bs [48 + u % 10])) (w.alloc (.cells #[.int .u8 (48 + (u : Int) % 10)] 5))) := by
      show _ = _
      refine conv_len _ _ [48 + u % 10] 1 1 rfl (Rd.of_has (t := 5) (Has.new _ _ _) ?_)
      intro i hi
      obtain rfl : i = 0 := by simp at hi; omega
      simp [bv]
    have IH := Lib.hid ih
    have HB : Hid (Below w.heap.size w (w.alloc (.cells #[.int .u8 (48 + (u : Int) % 10)] 5))) := (Below.refl w.heap.size w).alloc (Nat.le_refl _) _
    have ht : (u : Int).tmod 10 = (u : Int) % 10 := rfl
    have w1 : IntKind.u64.wrap (48 + (u : Int) % 10) = 48 + (u : Int) % 10 := by rw [IntKind.wrap_u64]; omega
    have w2 : IntKind.u8.wrap (48 + (u : Int) % 10) = 48 + (u : Int) % 10 := by rw [IntKind.wrap_u8]; omega
    clear ih
    by_cases h : u < 10
    · have h9 : (u : Int) ≤ 9 := by omega
      have hc := HC.out
      go_enter Tryd.func67, Tryd.ntmps67
      go_wp2_with fail
      go_ret
      exact ⟨by rw [decN_small h, show u % 10 = u by omega]; rfl, HB⟩
    · have h9 : (9 : Int) < u := by omega
      have hc := HC.out
      have HR := Lib.hid (IH.out (u / 10) (by omega) (w.alloc (.cells #[.int .u8 (48 + (u : Int) % 10)] 5)) (by omega))
      have hb1 : (bs (decN (u / 10))).size ≤ 20 := by rw [bs_size]; exact decN_len 19 _ (by omega)
      have hb2 : (bs [48 + u % 10]).size ≤ 20 := by rw [bs_size]; simp
      have HE : Hid (bs (decN (u / 10)) ++ bs [48 + u % 10] = bs (decN u)) := by show _ = _; rw [decN_big h, bs_append]
      go_enter Tryd.func67, Tryd.ntmps67
      go_wp2_with fail
      refine HR.out.mono ?_
      rintro e w1 ⟨rfl, hb⟩
      have HB1 := Lib.hid (HB.out.trans (hb.out.mono HB.out.size))
      clear hb
      go_wp2_with fail
      go_ret
      exact ⟨by rw [HE.out]; rfl, HB1⟩
set_option maxHeartbeats 2000000 in
set_option maxRecDepth 100000 in
theorem decimal_any (n : Int) (w : World) (h0 : -9223372036854775808 ≤ n) (h1 : n ≤ 9223372036854775807) :
    Calls Tryd.prog 49 #[.int .i64 n] w fun e w' => e = .returned (.string (bs (itoaN n))) ∧ Hid (Below w.heap.size w w') := by
  by_cases hn : n < 0
  · have HE : Hid (bs (itoaN n) = ⟨#[45]⟩ ++ bs (decN n.natAbs)) := by
      show _ = _
      unfold itoaN
      rw [if_pos hn, show (45 :: decN n.natAbs) = [45] ++ decN n.natAbs from rfl, bs_append]
      rfl
    obtain ⟨u, hu⟩ : ∃ u, n.natAbs = u := ⟨_, rfl⟩
    rw [hu] at HE
    have w1 : IntKind.i64.wrap (n + 1) = n + 1 := by rw [IntKind.wrap_i64]; omega
    have w2 : IntKind.i64.wrap (-(n + 1)) = -(n + 1) := by rw [IntKind.wrap_i64]; omega
    have w3 : IntKind.u64.wrap (-(n + 1)) = -(n + 1) := by rw [IntKind.wrap_u64]; omega
    have w4 : IntKind.u64.wrap (-(n + 1) + 1) = (u : Int) := by rw [IntKind.wrap_u64]; omega
    have hb1 : (bs (decN u)).size ≤ 20 := by rw [bs_size]; exact decN_len 19 _ (by omega)
    have HT := Lib.hid (fun W => tens_any u W (by omega))
    go_enter Tryd.func49, Tryd.ntmps49
    go_wp2_with fail
    refine (HT.out _).mono ?_
    rintro e w1 ⟨rfl, hb⟩
    go_wp2_with fail
    go_ret
    exact ⟨by rw [HE.out]; rfl, hb⟩
  · have HE : Hid (bs (itoaN n) = bs (decN n.toNat)) := by show _ = _; unfold itoaN; rw [if_neg hn]
    have hn2 : 0 ≤ n := by omega
    obtain ⟨u, rfl⟩ := Int.eq_ofNat_of_zero_le hn2
    have w3 : IntKind.u64.wrap (u : Int) = (u : Int) := by rw [IntKind.wrap_u64]; omega
    have HT := Lib.hid (fun W => tens_any u W (by omega))
    go_enter Tryd.func49, Tryd.ntmps49
    go_wp2_with fail
    refine (HT.out _).mono ?_
    rintro e w1 ⟨rfl, hb⟩
    go_wp2_with fail
    go_ret
    exact ⟨by rw [HE.out]; rfl, hb⟩
end Go.Proofs.YtlkhijccjjpbbaaDoor
