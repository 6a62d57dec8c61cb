/-
  A value's key behind others; and the key of a row of values.
-/
import Derived.Test.YtcdjeibcnkpadaaDoorKeyB
namespace Go.Proofs.YtcdjeibcnkpadaaDoor
open Go.RowKit Dg
theorem xor_half (u : Nat) (h : u < 18446744073709551616) : u ^^^ 9223372036854775808 = (u + 9223372036854775808) % 18446744073709551616 := by
  have h1 := Nat.xor_mod_two_pow (a := u) (b := 9223372036854775808) (n := 63)
  have h2 := Nat.xor_div_two_pow (a := u) (b := 9223372036854775808) (n := 63)
  rw [show (2 : Nat) ^ 63 = 9223372036854775808 by decide] at h1 h2
  rw [show (9223372036854775808 : Nat) % 9223372036854775808 = 0 by decide, Nat.xor_zero] at h1
  rw [show (9223372036854775808 : Nat) / 9223372036854775808 = 1 by decide] at h2
  have h3 : u / 9223372036854775808 = 0 ∨ u / 9223372036854775808 = 1 := by omega
  rcases h3 with h3 | h3 <;> rw [h3] at h2
  · rw [show (0 : Nat) ^^^ 1 = 1 by decide] at h2; omega
  · rw [show (1 : Nat) ^^^ 1 = 0 by decide] at h2; omega
/-- A number with its highest bit changed. -/
def flip (n : Int) : Int := if n < 0 then n + 9223372036854775808 else n - 9223372036854775808
theorem flip_bits (n : Int) (h0 : -9223372036854775808 ≤ n) (h1 : n ≤ 9223372036854775807) : bits .xor .i64 n (-9223372036854775808) = flip n := by
  show IntKind.i64.wrap ((BitVec.ofInt 64 n ^^^ BitVec.ofInt 64 (-9223372036854775808)).toNat : Int) = _
  rw [BitVec.toNat_xor, show (BitVec.ofInt 64 (-9223372036854775808)).toNat = 9223372036854775808 by decide]
  have e : (BitVec.ofInt 64 n).toNat = (n % 18446744073709551616).toNat := by simp [BitVec.toNat_ofInt]
  rw [e, xor_half _ (by omega), IntKind.wrap_i64]
  unfold flip
  split <;> omega
theorem hi_flip (n : Int) (h0 : -9223372036854775808 ≤ n) (h1 : n ≤ 9223372036854775807) : hi (flip n) 8 8 = hi (n + 9223372036854775808) 8 8 := by
  unfold hi
  apply List.map_congr_left
  intro i hi
  have hi := List.mem_range.1 hi
  have e : i = 0 ∨ i = 1 ∨ i = 2 ∨ i = 3 ∨ i = 4 ∨ i = 5 ∨ i = 6 ∨ i = 7 := by omega
  unfold flip
  split
  · rfl
  · rcases e with rfl | rfl | rfl | rfl | rfl | rfl | rfl | rfl <;> simp <;> omega
/-- A value's key. -/
def keyV (k n : Int) (s : ByteArray) : List Nat :=
  if k = 1 then 1 :: hi n 1 1 else if k = 2 then 2 :: hi (n + 9223372036854775808) 8 8 else if k = 3 ∨ k = 4 then k.toNat :: (esc (sb s) ++ [0, 1]) else [(k % 256).toNat]
theorem keyV_len (k n : Int) (s : ByteArray) : (keyV k n s).length ≤ 2 * s.size + 9 := by
  unfold keyV
  have := esc_len (sb s)
  rw [sb_length] at this
  repeat' split
  all_goals simp [hi_len] <;> omega
set_option maxHeartbeats 2000000 in
set_option maxRecDepth 100000 in
theorem addKey_any (B : Nat) (v : Value) (l : List Nat) (k n : Int) (s : ByteArray) (w : World) (h : Own B w v l) (hB : B ≤ w.heap.size) (hl : l.length + 2 * s.size ≤ 800000) (h0 : -9223372036854775808 ≤ n) (h1 : n ≤ 9223372036854775807) :
    Calls Tryd.prog 87 #[v, .agg #[.int .i64 k, .int .i64 n, .string s]] w fun e w' => ∃ v', e = .returned v' ∧ Hid (Own B w' v' (l ++ keyV k n s)) ∧ Hid (Below B w w') := by
  have HA := Lib.hid (app_at (w.alloc (.cells #[.int .i64 k, .int .i64 n, .string s] 68)) (w.heap.size + 1) (by simp) B v l [(k % 256).toNat] #[.int .u8 (k % 256)] (by simp [bv]; omega) 1 rfl (World.ownsRow.alloc h _) (by simp; omega) (by omega))
  have HW : Hid (Below B w (w.alloc (.cells #[.int .i64 k, .int .i64 n, .string s] 68))) := (Below.refl _ _).alloc hB _
  have HH : Hid (Has (w.alloc (.cells #[.int .i64 k, .int .i64 n, .string s] 68)) w.heap.size 68 #[.int .i64 k, .int .i64 n, .string s]) := Has.new _ _ _
  have HF := Lib.hid (flip_bits n h0 h1)
  have HF2 := Lib.hid (hi_flip n h0 h1)
  clear h
  obtain ⟨W1, hW1⟩ : ∃ W1, W1 = w.alloc (.cells #[.int .i64 k, .int .i64 n, .string s] 68) := ⟨_, rfl⟩
  have HZ : Hid (W1.heap.size = w.heap.size + 1) := by show _ = _; rw [hW1]; simp
  rw [← hW1] at HA HW HH
  go_enter Tryd.func87, Tryd.ntmps87
  go_wp2_with (at_builtin; rw [← hW1]; refine wpList_app rfl _ _ 131 131 rfl v (.slice (some ⟨w.heap.size + 1, 0, none⟩) 1 1) rfl rfl ?_; obtain ⟨R, W', hrun, hmade⟩ := HA.out; refine ⟨R, W', hrun, ?_⟩; have HM := Lib.hid hmade; have hhas := hmade.2.2 _ _ _ (by decide) HH.out; clear hrun hmade HA; have hc0 := hhas.cell 0; have hc1 := hhas.cell 1; have hc2 := hhas.cell 2; simp at hc0 hc1 hc2; clear hhas)
  all_goals
    have HB1 : Hid (Below B w W') := HW.out.trans HM.out.2.1
    have hB1 : B ≤ W'.heap.size := Nat.le_trans hB HB1.out.size
  · have e : (k == 1) = true := by assumption
    refine (addNumber_any B R _ n 1 W' HM.out.1 hB1 (by simp; omega) (by omega)).mono ?_
    rintro e2 w2 ⟨v2, rfl, ho, hb⟩
    have HK : Hid (keyV k n s = 1 :: hi n 1 1) := by
      show _ = _
      unfold keyV
      simp at e
      subst e
      simp
    have HO : Hid (Own B w2 v2 (l ++ keyV k n s)) := by
      have h := ho.out
      simp at e
      show Own _ _ _ _
      rw [HK.out]
      subst e
      simpa using h
    go_wp2_with fail
    go_ret
    exact ⟨v2, rfl, HO, HB1.out.trans hb.out⟩
  · have e : (k == 2) = true := by assumption
    rw [HF.out]
    refine (addNumber_any B R _ (flip n) 8 W' HM.out.1 hB1 (by simp; omega) (by omega)).mono ?_
    rintro e2 w2 ⟨v2, rfl, ho, hb⟩
    have HK : Hid (keyV k n s = 2 :: hi (n + 9223372036854775808) 8 8) := by
      show _ = _
      unfold keyV
      simp at e
      subst e
      simp
    have HO : Hid (Own B w2 v2 (l ++ keyV k n s)) := by
      have h := ho.out
      simp at e
      show Own _ _ _ _
      rw [HK.out]
      rw [HF2.out] at h
      subst e
      simpa using h
    go_wp2_with fail
    go_ret
    exact ⟨v2, rfl, HO, HB1.out.trans hb.out⟩
  · have e : (k == 3) = true := by assumption
    refine (addText_any B R _ s W' HM.out.1 hB1 (by simp; omega)).mono ?_
    rintro e2 w2 ⟨v2, rfl, ho, hb⟩
    have HK : Hid (keyV k n s = 3 :: (esc (sb s) ++ [0, 1])) := by
      show _ = _
      unfold keyV
      simp at e
      subst e
      simp
    have HO : Hid (Own B w2 v2 (l ++ keyV k n s)) := by
      have h := ho.out
      simp at e
      show Own _ _ _ _
      rw [HK.out]
      subst e
      simpa using h
    go_wp2_with fail
    go_ret
    exact ⟨v2, rfl, HO, HB1.out.trans hb.out⟩
  · have e : (k == 4) = true := by assumption
    refine (addText_any B R _ s W' HM.out.1 hB1 (by simp; omega)).mono ?_
    rintro e2 w2 ⟨v2, rfl, ho, hb⟩
    have HK : Hid (keyV k n s = 4 :: (esc (sb s) ++ [0, 1])) := by
      show _ = _
      unfold keyV
      simp at e
      subst e
      simp
    have HO : Hid (Own B w2 v2 (l ++ keyV k n s)) := by
      have h := ho.out
      simp at e
      show Own _ _ _ _
      rw [HK.out]
      subst e
      simpa using h
    go_wp2_with fail
    go_ret
    exact ⟨v2, rfl, HO, HB1.out.trans hb.out⟩
  · have e1 : (k == 1) = false := by assumption
    have e2 : (k == 2) = false := by assumption
    have e3 : (k == 3) = false := by assumption
    have e4 : (k == 4) = false := by assumption
    have HO : Hid (Own B W' R (l ++ keyV k n s)) := by
      have h := HM.out.1
      simp at e1 e2 e3 e4
      show Own _ _ _ _
      unfold keyV
      simpa [e1, e2, e3, e4] using h
    go_ret
    exact ⟨R, rfl, HO, HB1⟩
end Go.Proofs.YtcdjeibcnkpadaaDoor
