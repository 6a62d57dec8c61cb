/-
  Put together, as far as it is used: Ma.
-/
import Derived.Test.YtnpmgempkoeapaaGreatDoorPeaa
import Derived.Test.YtnpmgempkoeapaaGreatDoorPeab
import Derived.Test.YtnpmgempkoeapaaGreatDoorShelf
import Derived.OpenShut
import Derived.Lib.AppendStr
set_option linter.unusedVariables false
set_option linter.unusedSimpArgs false
set_option linter.defProp false
namespace Go.Proofs.YtnpmgempkoeapaaGreatDoor.Dg

def join (i n d : Nat) : Nat := n + d * 128 ^ i % 18446744073709551616

def yheadF (most : Nat) : Nat → Nat → Nat → List Nat → Nat × Nat × Nat
 | 0, _, _, _ => (0, 0, 2)
 | _ + 1, _, _, [] => (0, 0, 4)
 | f + 1, i, n, b :: l =>
   if 128 ≤ b then yheadF most f (i + 1) (join i n (b % 128)) l
   else if (0 < i ∧ b % 128 = 0) ∨ join i n (b % 128) / 128 ^ i ≠ b % 128 ∨ most < join i n (b % 128) then (0, 0, 2)
   else (join i n (b % 128), i + 1, 0)

section
variable {most f i n b : Nat} {l : List Nat} {R : Nat × Nat × Nat}
theorem head_over (h : yheadF most 0 i n l = R) : R = (0, 0, 2) := by rw [← h]; simp [yheadF]
theorem head_end (h : yheadF most (f + 1) i n [] = R) : R = (0, 0, 4) := by rw [← h]; simp [yheadF]
theorem head_more (h : yheadF most (f + 1) i n (b :: l) = R) (hb : 128 ≤ b) : yheadF most f (i + 1) (join i n (b % 128)) l = R := by
 rw [← h, yheadF, if_pos hb]
theorem head_form (h : yheadF most (f + 1) i n (b :: l) = R) (hb : b < 128) (hc : (0 < i ∧ b % 128 = 0) ∨ join i n (b % 128) / 128 ^ i ≠ b % 128 ∨ most < join i n (b % 128)) : R = (0, 0, 2) := by
 rw [← h, yheadF, if_neg (by omega), if_pos hc]
theorem head_good (h : yheadF most (f + 1) i n (b :: l) = R) (hb : b < 128) (hc : ¬ ((0 < i ∧ b % 128 = 0) ∨ join i n (b % 128) / 128 ^ i ≠ b % 128 ∨ most < join i n (b % 128))) : R = (join i n (b % 128), i + 1, 0) := by
 rw [← h, yheadF, if_neg (by omega), if_neg hc]
end

theorem pow_le_nine : ∀ i, i ≤ 9 → 128 ^ i ≤ 9223372036854775808 := by
 intro i hi
 have := Nat.pow_le_pow_right (n := 128) (by omega) hi
 have e : (128 : Nat) ^ 9 = 9223372036854775808 := by decide
 omega
theorem join_lt {i n d : Nat} (hi : i < 9) (hn : n < 128 ^ i) (hd : d < 128) : join i n d < 128 ^ (i + 1) := by
 have hp := pow_le_nine (i + 1) (by omega)
 have he : (128 : Nat) ^ (i + 1) = 128 ^ i * 128 := Nat.pow_succ ..
 have h1 : d * 128 ^ i ≤ 127 * 128 ^ i := Nat.mul_le_mul_right _ (by omega)
 unfold join
 rw [Nat.mod_eq_of_lt (by omega)]
 omega
theorem join_big {n d : Nat} (i : Nat) (hi : i ≤ 9) (hn : n < 128 ^ i) : join i n d < 18446744073709551616 := by
 have hp := pow_le_nine i hi
 unfold join
 rcases Nat.lt_or_ge i 9 with h | h
 ·have h2 : d * 128 ^ i % 18446744073709551616 = 128 ^ i * (d % (18446744073709551616 / 128 ^ i)) := by
   have e : (18446744073709551616 : Nat) = 128 ^ i * (18446744073709551616 / 128 ^ i) := by
    have : i = 0 ∨ i = 1 ∨ i = 2 ∨ i = 3 ∨ i = 4 ∨ i = 5 ∨ i = 6 ∨ i = 7 ∨ i = 8 := by omega
    rcases this with rfl | rfl | rfl | rfl | rfl | rfl | rfl | rfl | rfl <;> decide
   conv => lhs; rw [e]
   rw [Nat.mul_comm d, Nat.mul_mod_mul_left]
  have e : (18446744073709551616 : Nat) = 128 ^ i * (18446744073709551616 / 128 ^ i) := by
   have : i = 0 ∨ i = 1 ∨ i = 2 ∨ i = 3 ∨ i = 4 ∨ i = 5 ∨ i = 6 ∨ i = 7 ∨ i = 8 := by omega
   rcases this with rfl | rfl | rfl | rfl | rfl | rfl | rfl | rfl | rfl <;> decide
  have hq : 0 < 18446744073709551616 / 128 ^ i := Nat.div_pos (by omega) (Nat.pow_pos (by omega))
  have hm := Nat.mod_lt d hq
  rw [h2]
  have h3 : 128 ^ i * (d % (18446744073709551616 / 128 ^ i) + 1) ≤ 128 ^ i * (18446744073709551616 / 128 ^ i) := Nat.mul_le_mul_left _ (by omega)
  rw [Nat.mul_add] at h3
  omega
 ·obtain rfl : i = 9 := by omega
  have e9 : (128 : Nat) ^ 9 = 9223372036854775808 := by decide
  rw [e9] at hn ⊢
  omega

theorem head_digs (most : Nat) (rest : List Nat) : ∀ (m f i n : Nat), n < 128 ^ i → (0 < i → 0 < m) → n + m * 128 ^ i < 18446744073709551616 → (digs m).length ≤ f →
 yheadF most f i n (digs m ++ rest) = if most < n + m * 128 ^ i then (0, 0, 2) else (n + m * 128 ^ i, i + (digs m).length, 0) := by
 intro m
 induction m using Nat.strongRecOn with
 | ind m ih =>
   intro f i n hn hm hlt hf
   obtain ⟨f, rfl⟩ : ∃ g, f = g + 1 := ⟨f - 1, by have := digs_pos m; omega⟩
   rcases Nat.lt_or_ge m 128 with h | h
   ·have hj : join i n (m % 128) = n + m * 128 ^ i := by
     unfold join
     rw [Nat.mod_eq_of_lt h, Nat.mod_eq_of_lt (by omega)]
    have hd : (n + m * 128 ^ i) / 128 ^ i = m := by
     rw [Nat.add_mul_div_right _ _ (Nat.pow_pos (by omega)), Nat.div_eq_of_lt hn, Nat.zero_add]
    rw [digs_lt h, List.singleton_append, yheadF, if_neg (by omega), hj, hd, Nat.mod_eq_of_lt h]
    by_cases hmost : most < n + m * 128 ^ i
    ·rw [if_pos (Or.inr (Or.inr hmost)), if_pos hmost]
    ·rw [if_neg (by omega), if_neg hmost]; simp
   ·have hj : join i n ((m % 128 + 128) % 128) = n + m % 128 * 128 ^ i := by
     unfold join
     rw [show (m % 128 + 128) % 128 = m % 128 by omega]
     rw [Nat.mod_eq_of_lt]
     have : m % 128 * 128 ^ i ≤ m * 128 ^ i := Nat.mul_le_mul_right _ (by omega)
     omega
    have he : n + m % 128 * 128 ^ i + m / 128 * 128 ^ (i + 1) = n + m * 128 ^ i := by
     rw [Nat.pow_succ, ← Nat.mul_assoc, Nat.mul_right_comm, Nat.add_assoc, ← Nat.add_mul]
     congr 2
     omega
    have hn' : n + m % 128 * 128 ^ i < 128 ^ (i + 1) := by
     have h1 : m % 128 * 128 ^ i ≤ 127 * 128 ^ i := Nat.mul_le_mul_right _ (by omega)
     rw [Nat.pow_succ]
     omega
    rw [digs_ge h, List.cons_append, yheadF, if_pos (by omega), hj, ih (m / 128) (by omega) f (i + 1) _ hn' (fun _ => by omega) (by rw [he]; exact hlt) (by rw [digs_ge h, List.length_cons] at hf; omega), he]
    rw [List.length_cons, show i + 1 + (digs (m / 128)).length = i + ((digs (m / 128)).length + 1) by omega]

theorem head_len (most : Nat) : ∀ (f i n : Nat) (l : List Nat), (yheadF most f i n l).2.1 ≤ i + l.length := by
 intro f
 induction f with
 | zero => intro i n l; simp [yheadF]
 | succ f ih =>
   intro i n l
   rcases l with _ | ⟨b, l⟩
   ·simp [yheadF]
   ·rw [yheadF, List.length_cons]
    by_cases hb : 128 ≤ b
    ·rw [if_pos hb]
     have := ih (i + 1) (join i n (b % 128)) l
     omega
    ·rw [if_neg hb]
     split
     ·simp
     ·simp only; omega
theorem head_big (most : Nat) : ∀ (f i n : Nat) (l : List Nat), (yheadF most f i n l).1 ≤ most := by
 intro f
 induction f with
 | zero => intro i n l; simp [yheadF]
 | succ f ih =>
   intro i n l
   rcases l with _ | ⟨b, l⟩
   ·simp [yheadF]
   ·rw [yheadF]
    by_cases hb : 128 ≤ b
    ·rw [if_pos hb]; exact ih _ _ _
    ·rw [if_neg hb]
     split
     ·simp
     ·simp only; omega
def numF (most : Nat) (l : List Nat) (e : Nat) : Nat × List Nat × Nat :=
 if e ≠ 0 then (0, l, e) else if (yheadF most 10 0 0 l).2.2 ≠ 0 then (0, l, (yheadF most 10 0 0 l).2.2) else ((yheadF most 10 0 0 l).1, l.drop (yheadF most 10 0 0 l).2.1, 0)
theorem numF_le (most : Nat) (l : List Nat) (e : Nat) : (numF most l e).1 ≤ most := by
 unfold numF
 split
 ·simp
 ·split
  ·simp
  ·exact head_big ..
end Go.Proofs.YtnpmgempkoeapaaGreatDoor.Dg
namespace Go.Proofs.YtnpmgempkoeapaaGreatDoor
open Go.RowKit Dg
set_option maxRecDepth 100000
def ybig : Nat := 18446744073709551616
theorem ylen64_any (x : Nat) (w : World) (h : x < ybig) :
 Calls Tryz.prog 93 #[.int .u64 x] w fun e w' => e = .returned (.int .i64 (Lib.bitLen x)) ∧ w = w' :=
 (Tryz.bits_Len64 x w (by omega) (by unfold ybig at h; omega)).mono fun e w' ⟨he, hw⟩ => ⟨by rw [he, Int.toNat_natCast], hw.symm⟩

def yDigs (n : Nat) (w : World) (e : Ending) (w' : World) : Prop :=
 e = .returned (.slice (some ⟨w.heap.size, 0, none⟩) (digs n).length (digs n).length) ∧ Has w' w.heap.size 5 ((digs n).map bv).toArray ∧ w'.heap.size = w.heap.size + 1 ∧ Below w.heap.size w w'

set_option maxHeartbeats 400000 in
theorem ydigits_any (n : Nat) (w : World) (h1 : n < ybig) : Calls Tryz.prog 60 #[.int .u64 n] w (yDigs n w) := by
 have hor : bits .or .u64 (n : Int) 1 = ((n ||| 1 : Nat) : Int) := u64_or_nat n 1 (by unfold ybig at h1; exact h1) (by omega)
 have hsz : size n = (digs n).length := size_eq n h1
 have hp := digs_pos n
 have ht := digs_le_ten n h1
 obtain ⟨i0, hi, hz0, hz1, hz2⟩ := info_parts info5
 have hor2 : (n ||| 1) < ybig := by rw [or_one]; unfold ybig at h1 ⊢; split <;> omega
 have hb : ((Lib.bitLen (n ||| 1) : Nat) : Int) ≤ 70 := by unfold size at hsz; omega
 have HQ : Hid ((((Lib.bitLen (n ||| 1) : Nat) : Int) + 6) / 7 = ((digs n).length : Int)) := by show _ = _; unfold size at hsz; omega
 have HO := Lib.hid hor
 have hmk := fun (k : Nat) (hk : k ≤ 10) (W : World) => run_make (P := Tryz.prog) W 37 5 i0 (.int .u8 0) Tryz.underlying37 hi hz0 .i64 .i64 k k (by omega) (by omega) (by rw [hz2]; omega) (by omega)
 have HM := Lib.hid hmk
 have Hz1 := Lib.hid hz1
 clear hsz hor hmk hz1
 go_enter Tryz.func60, Tryz.ntmps60
 go_wp2_with fail
 rw [HO.out]
 refine (ylen64_any _ _ hor2).mono ?_
 rintro e w' ⟨rfl, rfl⟩
 go_wp2_with fail
 rw [HQ.out, HM.out _ ht]
 simp only [Int.toNat_natCast, Hz1.out]
 rw [arr_zero n]
 clear HM HQ HO Hz1
 generalize hL : (digs n).length = L at *
 have HL := Lib.hid hL
 clear hL
 go_wp2_with fail
 go_loopw [14] (fun i wr => ∃ k : Nat, k ≤ L ∧ i = .int .i64 k ∧ Has wr w.heap.size 5 (arr n L k) ∧ wr.heap.size = w.heap.size + 1 ∧ Below w.heap.size w wr) (fun i _ => L - (intOf i).toNat)
 case atStart => exact ⟨0, by omega, rfl, Has.new _ _ _, by simp, (Below.refl _ _).alloc (Nat.le_refl _) _⟩
 case round =>
  obtain ⟨k, hk, rfl, hblk, hsz, hbel⟩ := hrel
  have HB := Lib.hid hblk
  have HS := Lib.hid hsz
  clear hblk hsz
  by_cases hlt : k < L
  ·have hc : wr.cell? ⟨w.heap.size, k, none⟩ = some (if k < k then Value.int .u8 ((n / 128 ^ k % 128 + 128 : Nat) : Int) else .int .u8 0) := by
    rw [HB.out.cell, arr_get n L k k hlt]
   have hf := HB.out.free k
   go_wp2_with fail
   go_roundw
   case rel =>
    refine ⟨k + 1, by omega, by go_num, ?_, ?_, ?_⟩
    ·rw [bits_or128, ← arr_put]; exact HB.out.put k _
    ·rw [size_set]; exact HS.out
    ·exact hbel.setCell (Nat.le_refl _) _
   case measure => simp [intOf]; omega
  ·obtain rfl : k = L := by omega
   have hc : wr.cell? ⟨w.heap.size, k - 1, none⟩ = some (Value.int .u8 ((n / 128 ^ (k - 1) % 128 + 128 : Nat) : Int)) := by
    rw [HB.out.cell, arr_get n k k (k - 1) (by omega), if_pos (by omega)]
   have hf := HB.out.free (k - 1)
   go_wp2_with fail
   have e : bits .and .u8 ((n : Int) / 128 ^ (k - 1) % 128 + 128) 127 = ((n / 128 ^ (k - 1) % 128 : Nat) : Int) := by
    rw [← bits_and127]; simp
   rw [e]
   go_ret
   refine ⟨by rw [HL.out]; rfl, ?_, ?_, ?_⟩
   ·rw [← arr_end n k HL.out hp]; exact HB.out.put (k - 1) _
   ·rw [size_set]; exact HS.out
   ·exact hbel.setCell (Nat.le_refl _) _

theorem yDigs.made {n : Nat} {w : World} {e : Ending} {w' : World} (h : yDigs n w e w') : ∃ v, e = .returned v ∧ Made w (digs n) v w' := by
 obtain ⟨he, hh, _, hb⟩ := h
 refine ⟨_, he, _, _, rfl, Nat.le_refl _, Rd.of_has hh fun i hi => ?_, hb⟩
 simp [hi]

def yOut (w : World) (l : List Nat) (e : Ending) (w' : World) : Prop := ∃ v, e = .returned v ∧ Made w l v w'

theorem yDigs.out {n : Nat} {w : World} {e : Ending} {w' : World} (h : yDigs n w e w') : ∃ A c, e = .returned (.slice A (digs n).length c) ∧ Rd w' A (digs n) ∧ Below w.heap.size w w' := by
 obtain ⟨v, he, A, c, rfl, _, hr, hb⟩ := h.made
 exact ⟨A, c, he, hr, hb⟩
theorem ybyteCells_sb (s : ByteArray) : byteCells s = (sb s).map bv := by
 simp [byteCells, sb, bv, List.map_map, Function.comp]
theorem ysrc_string (w : World) (s : ByteArray) : Src Tryz.prog 1 9 (.string s) (sb s).length ((sb s).map bv) w := by
 rw [← ybyteCells_sb, sb_length]
 exact Src.ofString w Tryz.underlying9 s
theorem ytext_run (w : World) (b off : Nat) (l : List Nat) (s : ByteArray) (hl : Rd w (some ⟨b, off, none⟩) l) (hb : l.length + s.size ≤ 1000000) :
 ∃ R W', (Builtin.append_ #[37, 9] 37 #[.slice (some ⟨b, off, none⟩) l.length l.length, .string s]).run Tryz.prog w = .ok R W' ∧ Made w (l ++ sb s) R W' := by
 obtain ⟨i0, hi, hz0, hz1, hz2⟩ := info_parts info5
 have hs := ysrc_string w s
 rcases Nat.eq_zero_or_pos s.size with h0 | h0
 ·have e : sb s = [] := List.eq_nil_of_length_eq_zero (by rw [sb_length, h0])
  rw [e] at hs ⊢
  refine ⟨_, _, run_app_none w 37 Tryz.underlying37 hi hz1 b off l.length l.length (.string s) hs (Nat.le_refl _), ?_⟩
  rw [List.append_nil]
  exact ⟨_, _, rfl, Nat.le_refl _, hl, Below.refl _ _⟩
 ·exact run_app_grow w 37 Tryz.underlying37 hi hz0 hz1 hz2 _ l l.length hl (.string s) (sb s) hs (by rw [sb_length]; omega) (by rw [sb_length]; omega)

theorem and127_any (x : Nat) (h : x < 256) : bits .and .u8 (x : Int) 127 = ((x % 128 : Nat) : Int) := by
 have hh := u8_and_nat x 127 h (by omega)
 have o := and127 ⟨x, h⟩
 simp only at o
 rw [o] at hh
 exact hh
theorem pow_split : ∀ k, k ≤ 9 → (18446744073709551616 : Nat) = 128 ^ k * (18446744073709551616 / 128 ^ k) := by
 intro i hi
 have : i = 0 ∨ i = 1 ∨ i = 2 ∨ i = 3 ∨ i = 4 ∨ i = 5 ∨ i = 6 ∨ i = 7 ∨ i = 8 ∨ i = 9 := by omega
 rcases this with rfl | rfl | rfl | rfl | rfl | rfl | rfl | rfl | rfl | rfl <;> decide
theorem bits_join (k N d : Nat) (hk : k ≤ 9) (hN : N < 128 ^ k) :
 bits .or .u64 (N : Int) (IntKind.u64.wrap ((d : Int) * 2 ^ (7 * k))) = ((join k N d : Nat) : Int) := by
 have e : IntKind.u64.wrap ((d : Int) * 2 ^ (7 * k)) = ((d * 128 ^ k % 18446744073709551616 : Nat) : Int) := by
  rw [IntKind.wrap_u64, ← pow7, Int.natCast_emod, Int.natCast_mul, Int.natCast_pow]; rfl
 have hp := pow_le_nine k hk
 have hs : d * 128 ^ k % 18446744073709551616 = 2 ^ (7 * k) * (d % (18446744073709551616 / 128 ^ k)) := by
  rw [pow7]
  conv => lhs; rw [pow_split k hk]
  rw [Nat.mul_comm d, Nat.mul_mod_mul_left]
 rw [e, u64_or_nat _ _ (by omega) (Nat.mod_lt _ (by omega))]
 have ho := Nat.two_pow_add_eq_or_of_lt (i := 7 * k) (b := N) (by rw [pow7]; exact hN) (d % (18446744073709551616 / 128 ^ k))
 unfold join
 rw [hs, Nat.or_comm, ← ho, Nat.add_comm]

def HeadOut (R : Nat × Nat × Nat) (w : World) (e : Ending) (w' : World) : Prop :=
 e = .returned (.tuple #[.int .u64 (R.1 : Int), .int .i64 (R.2.1 : Int), .int .i64 (R.2.2 : Int)]) ∧ w = w'

set_option maxHeartbeats 1000000 in
theorem yhead_some (b off : Nat) (l : List Nat) (c most : Nat) (w : World) (hn : l.length ≤ 1000000) (hl : ∀ x ∈ l, x < 256) (hc : ∀ i (h : i < l.length), w.cell? ⟨b, off + i, none⟩ = some (bv l[i])) :
 Calls Tryz.prog 117 #[.slice (some ⟨b, off, none⟩) l.length c, .int .u64 most] w (HeadOut (yheadF most 10 0 0 l) w) := by
 have HC := Lib.hid hc
 clear hc
 generalize hR : yheadF most 10 0 0 l = R
 have HR0 := Lib.hid hR
 clear hR
 go_enter Tryz.func117, Tryz.ntmps117
 go_wp2_with fail
 go_loop [7, 10] (fun n i => ∃ k N : Nat, k ≤ 10 ∧ i = .int .i64 k ∧ n = .int .u64 N ∧ Hid (k ≤ 9 → N < 128 ^ k) ∧ k ≤ l.length ∧ Hid (yheadF most (10 - k) k N (l.drop k) = R)) (fun _ i => 10 - (intOf i).toNat)
 case atStart => exact ⟨0, 0, by omega, rfl, rfl, fun _ => by simp, by omega, HR0.out⟩
 case round =>
  clear HR0
  obtain ⟨k, N, hk, rfl, rfl, hN, hkl, HR⟩ := hrel
  by_cases h10 : k < 10
  ·obtain ⟨f, hf⟩ : ∃ f, f + 1 = 10 - k := ⟨9 - k, by omega⟩
   have HF := Lib.hid hf
   clear hf
   by_cases hlen : k < l.length
   ·have hcell := HC.out k hlen
    have hb := hl l[k] (List.getElem_mem hlen)
    have HD := Lib.hid (List.drop_eq_getElem_cons hlen)
    generalize l[k] = x at *
    unfold bv at hcell
    have hj := bits_join k N (x % 128) (by omega) (hN.out (by omega))
    have hq := int_div_pow (join k N (x % 128)) k
    have HJ9 : Hid (k + 1 ≤ 9 → join k N (x % 128) < 128 ^ (k + 1)) := fun h => join_lt (by omega) (hN.out (by omega)) (by omega)
    have HR1 : Hid (yheadF most (f + 1) k N (x :: l.drop (k + 1)) = R) := by show _ = _; rw [HF.out, ← HD.out]; exact HR.out
    obtain ⟨d, hd⟩ : ∃ d, d = x % 128 := ⟨_, rfl⟩
    have ha := and127_any x hb
    rw [← hd] at hj hq ha
    have HX := Lib.hid hd
    clear hd
    obtain ⟨M, hM⟩ : ∃ M, M = join k N d := ⟨_, rfl⟩
    rw [← hM] at hj hq
    have HM := Lib.hid hM
    clear hM
    obtain ⟨q, hq'⟩ : ∃ q, q = M / 128 ^ k := ⟨_, rfl⟩
    rw [← hq'] at hq
    have HQ := Lib.hid hq'
    clear hq' HR HD
    have hdb : d < 128 := by rw [HX.out]; omega
    have hMb : M < 18446744073709551616 := by rw [HM.out]; exact join_big k (by omega) (hN.out (by omega))
    by_cases h128 : x < 128
    ·have g : decide (128 ≤ (x : Int)) = false := by simp; omega
     have bad : ((0 < k ∧ d = 0) ∨ q ≠ d ∨ most < M) → R = (0, 0, 2) := fun hh => head_form HR1.out h128 (by rw [← HX.out, ← HM.out, ← HQ.out]; exact hh)
     have good : ¬ ((0 < k ∧ d = 0) ∨ q ≠ d ∨ most < M) → R = (M, k + 1, 0) := fun hh => by
      have := head_good HR1.out h128 (by rw [← HX.out, ← HM.out, ← HQ.out]; exact hh)
      rw [← HX.out, ← HM.out] at this
      exact this
     have BAD := Lib.hid bad
     have GOOD := Lib.hid good
     clear bad good
     by_cases c1 : 0 < k <;> by_cases c2 : d = 0
     all_goals
      have C2 := Lib.hid c2
      first | (have td : ((d : Int) == 0) = true := by simp; omega) | (have td : ((d : Int) == 0) = false := by simp; omega)
      clear c2
      by_cases c3 : q = d
      all_goals
       have C3 := Lib.hid c3
       first | (have tq : ((q : Int) != (d : Int)) = true := by simp; omega) | (have tq : ((q : Int) != (d : Int)) = false := by simp; omega)
       clear c3
       by_cases c4 : most < M
       all_goals
        go_wp2_with fail
        go_ret3
        first
         | (have e := BAD.out (by have := C2.out; have := C3.out; omega); exact ⟨by rw [e]; rfl, rfl⟩)
         | (have e := GOOD.out (by have := C2.out; have := C3.out; omega); exact ⟨by rw [e]; simp, rfl⟩)
    ·have g : decide (128 ≤ (x : Int)) = true := by simp; omega
     go_wp2_with fail
     go_round
     case rel => exact ⟨k + 1, M, by omega, by go_num, rfl, (by rw [HM.out, HX.out]; exact HJ9), by omega, by show _ = _; rw [show 10 - (k + 1) = f by have := HF.out; omega, HM.out, HX.out]; exact head_more HR1.out (by omega)⟩
     case measure => simp [intOf]; omega
   ·obtain rfl : k = l.length := by omega
    have e : R = (0, 0, 4) := head_end (most := most) (f := f) (i := l.length) (n := N) (by rw [HF.out, ← HR.out, List.drop_length])
    have H := Lib.hid e
    clear e
    go_wp2_with fail
    go_ret3
    exact ⟨by rw [H.out]; rfl, rfl⟩
  ·obtain rfl : k = 10 := by omega
   have e : R = (0, 0, 2) := head_over HR.out
   have H := Lib.hid e
   clear e
   go_wp2_with fail
   go_ret3
   exact ⟨by rw [H.out]; rfl, rfl⟩

set_option maxHeartbeats 400000 in
theorem head_none (A : Option Addr) (c most : Nat) (w : World) :
 Calls Tryz.prog 117 #[.slice A 0 c, .int .u64 most] w (HeadOut (0, 0, 4) w) := by
 go_enter Tryz.func117, Tryz.ntmps117
 go_wp2_with fail
 go_loop [7, 10] (fun n i => i = .int .i64 0 ∧ n = .int .u64 0) (fun _ _ => 0)
 case atStart => exact ⟨rfl, rfl⟩
 case round =>
  obtain ⟨rfl, rfl⟩ := hrel
  go_wp2_with fail
  go_ret3
  exact ⟨rfl, rfl⟩
theorem yhead_any (A : Option Addr) (l : List Nat) (c most : Nat) (w : World) (hn : l.length ≤ 1000000) (hl : ∀ x ∈ l, x < 256) (h : Rd w A l) :
 Calls Tryz.prog 117 #[.slice A l.length c, .int .u64 most] w (HeadOut (yheadF most 10 0 0 l) w) := by
 rcases l with _ | ⟨x, l⟩
 ·exact head_none A c most w
 ·obtain ⟨b, off, rfl, hc⟩ := h (by simp)
  exact yhead_some b off _ c most w hn hl hc
theorem xor_i64 (a : Nat) (c : Int) (ha : a < 9223372036854775808) (hc : c = 0 ∨ c = -1) : bits .xor .i64 (a : Int) c = if c = 0 then (a : Int) else -(a : Int) - 1 := by
 have e1 : (BitVec.ofInt 64 (a : Int)).toNat = a := ofInt_u64 a (by omega)
 show IntKind.i64.wrap ((BitVec.ofInt 64 (a : Int) ^^^ BitVec.ofInt 64 c).toNat : Int) = _
 rcases hc with rfl | rfl
 ·rw [BitVec.toNat_xor, e1, if_pos rfl]
  have : (BitVec.ofInt 64 0).toNat = 0 := by decide
  rw [this, Nat.xor_zero, IntKind.wrap_i64]
  omega
 ·have : (BitVec.ofInt 64 (-1)) = BitVec.allOnes 64 := by decide
  rw [this, BitVec.xor_allOnes, BitVec.toNat_not, e1, if_neg (by omega), IntKind.wrap_i64]
  omega
theorem zag_bits (r : Nat) (h : r < 18446744073709551616) :
 bits .xor .i64 ((r : Int) / 2) (wrap64 (-wrap64 (bits .and .u64 (r : Int) 1))) = zag r := by
 have ha : bits .and .u64 (r : Int) 1 = ((r % 2 : Nat) : Int) := by
  have := u64_and_nat r 1 h (by omega)
  rw [Nat.and_one_is_mod] at this
  exact this
 have hd : (r : Int) / 2 = ((r / 2 : Nat) : Int) := by omega
 rw [ha, hd]
 have hw : wrap64 (-wrap64 ((r % 2 : Nat) : Int)) = if r % 2 = 0 then 0 else -1 := by
  unfold wrap64
  split <;> omega
 rw [hw, xor_i64 _ _ (by omega) (by split <;> simp)]
 unfold zag
 by_cases e : r % 2 = 0
 ·rw [if_pos e, if_pos rfl, if_pos e]
 ·rw [if_neg e, if_neg (by omega), if_neg e]
def Rdr (w : World) (g : Nat) (l : List Nat) (e : Nat) : Prop :=
 ∃ A c, Has w g 112 #[.slice A l.length c, .int .i64 (e : Int)] ∧ l.length ≤ c ∧ Rd w A l
theorem rdr_cells (A : Option Addr) (n c : Nat) (e : Int) : ∀ (i x : Nat), (#[Value.slice A n c, .int .i64 e] : Array Value)[i]? ≠ some (bv x) := by
 intro i x h
 rcases i with _ | _ | i
 ·simp [bv] at h
 ·simp [bv] at h
 ·simp at h
theorem Rd.turn {w w' : World} {A : Option Addr} {l : List Nat} {g : Nat} {t : TypeId} {cs : Array Value} (h : Rd w A l) (hg : w.grownBy w' (some g)) (hh : Has w g t cs) (hcs : ∀ (i x : Nat), cs[i]? ≠ some (bv x)) : Rd w' A l := fun hl => by
 obtain ⟨b, off, e, hc⟩ := h hl
 refine ⟨b, off, e, fun i hi => ?_⟩
 refine hg.cell (hc i hi) fun hb => ?_
 injection hb with hb
 have hx := hc i hi
 rw [show b = g from hb, hh.cell] at hx
 exact hcs _ _ hx
theorem grown_set (w : World) (g i : Nat) (u : Value) : w.grownBy (w.setCell ⟨g, i, none⟩ u) (some g) :=
 ⟨rfl, rfl, rfl, by rw [size_set]; exact Nat.le_refl _, fun k _ hne => Below.heap_setCell w _ u k (fun e => hne (by rw [e]))⟩
theorem grown_trans {a b c : World} {g : Nat} (h : a.grownBy b (some g)) (k : b.grownBy c (some g)) : a.grownBy c (some g) :=
 ⟨k.os.trans h.os, k.tape.trans h.tape, k.output.trans h.output, Nat.le_trans h.size k.size, fun i hi hne => (k.block i (Nat.lt_of_lt_of_le hi h.size) hne).trans (h.block i hi hne)⟩
theorem grown_refl (a : World) (g : Nat) : a.grownBy a (some g) := ⟨rfl, rfl, rfl, Nat.le_refl _, fun _ _ _ => rfl⟩

section
variable (g : Nat) (l : List Nat) (e : Nat) (w : World)
set_option maxHeartbeats 400000 in
theorem pass_err (k : Int) (r : Int) (h : Rdr w g l e) (he : e ≠ 0) :
 Calls Tryz.prog 70 #[.pointer (some ⟨g, 0, none⟩), .int .i64 k, .int .i64 r] w fun x w' => x = .returned (.bool false) ∧ w = w' := by
 obtain ⟨A, c, hh, hn, hr⟩ := h
 have c1 : w.cell? ⟨g, 1, none⟩ = some (.int .i64 e) := hh.cell 1
 have g1 : ((e : Int) == 0) = false := by simp; omega
 have g2 : ((e : Int) != 0) = true := by simp; omega
 have HE := Lib.hid he
 clear hh hr he
 go_enter Tryz.func70, Tryz.ntmps70
 go_wp2_with fail
 go_ret
 exact ⟨rfl, rfl⟩
set_option maxHeartbeats 400000 in
theorem Errno_get (h : Rdr w g l e) :
 Calls Tryz.prog 114 #[.pointer (some ⟨g, 0, none⟩)] w fun x w' => x = .returned (.int .i64 (e : Int)) ∧ w = w' := by
 obtain ⟨A, c, hh, hn, hr⟩ := h
 have c1 : w.cell? ⟨g, 1, none⟩ = some (.int .i64 e) := hh.cell 1
 clear hh hr
 go_enter Tryz.func114, Tryz.ntmps114
 go_wp2_with fail
 go_ret
 exact ⟨rfl, rfl⟩
def endF (l : List Nat) (e : Nat) : Nat := if e = 0 ∧ 0 < l.length then 2 else e
set_option maxHeartbeats 400000 in
theorem End_get (h : Rdr w g l e) (hb : l.length ≤ 1000000) :
 Calls Tryz.prog 38 #[.pointer (some ⟨g, 0, none⟩)] w fun x w' => x = .returned (.int .i64 (endF l e : Int)) ∧ w = w' := by
 obtain ⟨A, c, hh, hn, hr⟩ := h
 have c0 : w.cell? ⟨g, 0, none⟩ = some (.slice A l.length c) := hh.cell 0
 have c1 : w.cell? ⟨g, 1, none⟩ = some (.int .i64 e) := hh.cell 1
 clear hh hr
 obtain ⟨E, hE⟩ : ∃ E, E = endF l e := ⟨_, rfl⟩
 rw [← hE]
 have HE := Lib.hid hE
 clear hE
 by_cases he : e = 0
 ·have h0 : ((e : Int) == 0) = true := by simp; omega
  by_cases hp : 0 < l.length
  ·have H : Hid (E = 2) := by show _ = _; rw [HE.out]; unfold endF; rw [if_pos ⟨he, hp⟩]
   clear he
   go_enter Tryz.func38, Tryz.ntmps38
   go_wp2_with fail
   go_ret
   exact ⟨by rw [H.out]; rfl, rfl⟩
  ·have H : Hid (E = e) := by show _ = _; rw [HE.out]; unfold endF; rw [if_neg (by omega)]
   clear he
   go_enter Tryz.func38, Tryz.ntmps38
   go_wp2_with fail
   go_ret
   exact ⟨by rw [H.out]; rfl, rfl⟩
 ·have h0 : ((e : Int) == 0) = false := by simp; omega
  have H : Hid (E = e) := by show _ = _; rw [HE.out]; unfold endF; rw [if_neg (by omega)]
  clear he
  go_enter Tryz.func38, Tryz.ntmps38
  go_wp2_with fail
  go_ret
  exact ⟨by rw [H.out]; rfl, rfl⟩
def byteF (l : List Nat) (e : Nat) : Nat × List Nat × Nat := if e ≠ 0 then (0, l, e) else match l with | [] => (0, [], 4) | x :: t => (x, t, 0)
theorem byteF_go (x : Nat) (t : List Nat) : byteF (x :: t) 0 = (x, t, 0) := rfl
theorem byteF_err {e : Nat} (l : List Nat) (h : e ≠ 0) : byteF l e = (0, l, e) := by unfold byteF; rw [if_pos h]
end
end Go.Proofs.YtnpmgempkoeapaaGreatDoor
namespace Go.Proofs.YtnpmgempkoeapaaGreatDoor
open Go.RowKit Dg
set_option maxRecDepth 100000
theorem yrd_none {w : World} {l : List Nat} (h : Rd w none l) : l = [] := by
 rcases l with _ | ⟨x, l⟩
 ·rfl
 ·obtain ⟨b, off, e, _⟩ := h (by simp)
  cases e
theorem yrd_owned {w : World} {base c : Nat} {l : List Nat} {A : Option Addr} (h : w.ownsRow base 5 1 (.slice A l.length c) l.length (l.map bv)) : l.length ≤ c ∧ Rd w A l := by
 rcases h.2 with ⟨e, hn⟩ | ⟨g, cap, cur, e, _, hh, hc, _, _, ht⟩
 ·injection e with e1 e2 e3
  refine ⟨by omega, ?_⟩
  rw [List.eq_nil_of_length_eq_zero hn]
  exact Rd.nil _ _
 ·injection e with e1 e2 e3
  subst e1; subst e3
  refine ⟨hc, Rd.of_has (t := 5) (cs := cur) hh fun i hi => ?_⟩
  have h1 : (l.map bv)[i]? = some (bv l[i]) := by simp [hi]
  rw [← ht, List.getElem?_take, if_pos (by omega)] at h1
  simpa using h1
theorem clone_any (A : Option Addr) (l : List Nat) (c : Nat) (w : World) (h : Rd w A l) (hb : l.length ≤ 1000000) :
 Calls Tryz.prog 69 #[.slice A l.length c] w (yOut w l) := by
 rcases A with _ | a
 ·obtain rfl := yrd_none h
  exact (Any.bytes_Clone_nil Tryz.laysSlK4 0 c w).mono fun e w' ⟨he, hw⟩ => ⟨_, he, none, 0, rfl, Nat.le_refl _, Rd.nil _ _, by rw [hw]; exact Below.refl _ _⟩
 ·refine (Tryz.bytes_Clone_at a l.length c (l.map Int.ofNat) w (by simp) (by omega) ?_).mono ?_
  ·intro i hi
   obtain ⟨b, off, e, hc⟩ := h (by rintro rfl; simp at hi)
   injection e with e
   subst e
   rw [Addr.add_lit, hc i hi]
   simp [bv, hi]
  ·rintro e w' ⟨v', rfl, hown, hne, hb'⟩
   have hm : (l.map Int.ofNat).map (Value.int .u8) = l.map bv := by rw [List.map_map]; rfl
   rw [hm] at hown
   rcases hown.2 with ⟨e, hn⟩ | ⟨g, cap, cur, e, _, _⟩
   ·exact absurd e hne
   ·subst e
    obtain ⟨h1, h2⟩ := yrd_owned hown
    exact ⟨_, rfl, _, _, rfl, h1, h2, hb'⟩

set_option maxHeartbeats 400000 in
theorem Read_any (A : Option Addr) (l : List Nat) (c : Nat) (w : World) (h : Rd w A l) (hb : l.length ≤ 1000000) :
 Calls Tryz.prog 35 #[.slice A l.length c] w fun e w' => ∃ g, e = .returned (.pointer (some ⟨g, 0, none⟩)) ∧ w.heap.size ≤ g ∧ Rdr w' g l 0 ∧ Below w.heap.size w w' := by
 have HC := Lib.hid (clone_any A l c w h hb)
 go_enter Tryz.func35, Tryz.ntmps35
 go_wp2_with fail
 refine HC.out.mono ?_
 rintro e w1 ⟨v, rfl, A', c', rfl, hc', hr, hbl⟩
 have HR := Lib.hid hr
 have HB := Lib.hid hbl
 clear hr hbl
 go_wp2_with fail
 go_ret
 exact ⟨_, rfl, HB.out.size, ⟨A', c', Has.new w1 112 _, hc', HR.out.below ((Below.refl _ _).alloc (Nat.le_refl _) _)⟩, HB.out.alloc HB.out.size _⟩

def textF (most : Int) (l : List Nat) (e : Nat) : List Nat × List Nat × Nat :=
 if e ≠ 0 then ([], l, e) else
 let R := yheadF 9223372036854775807 10 0 0 l
 if R.2.2 ≠ 0 then ([], l, R.2.2) else if most < R.1 then ([], l, 2) else if (l.length : Int) - R.2.1 < R.1 then ([], l, 4) else ((l.drop R.2.1).take R.1, l.drop (R.2.1 + R.1), 0)
theorem Rd.cut {w : World} {A : Option Addr} {l : List Nat} (h : Rd w A l) (k m : Nat) : Rd w (A.map (fun x => x.add k)) ((l.drop k).take m) := fun hl => by
 have hne : l ≠ [] := by rintro rfl; simp at hl
 obtain ⟨b, off, rfl, hc⟩ := h hne
 rw [Option.map_some, Addr.add_lit]
 exact ((Rd.drop h k).take m) hl
section
variable (g : Nat) (l : List Nat) (e : Nat) (w : World)
end
end Go.Proofs.YtnpmgempkoeapaaGreatDoor
namespace Go.Proofs.YtnpmgempkoeapaaGreatDoor
open Go.RowKit Dg
set_option maxRecDepth 100000
theorem Rdr.far {w w' : World} {g g' : Nat} {l l' : List Nat} {e e' : Nat} (h : Rdr w g l e) (hg : w.grownBy w' (some g')) (hh : Rdr w g' l' e') (hne : g ≠ g') : Rdr w' g l e := by
 obtain ⟨A, c, h1, h2, h3⟩ := h
 obtain ⟨A', c', h1', _, _⟩ := hh
 exact ⟨A, c, (hg.block g h1.lt (fun e => hne (by injection e))).trans h1, h2, h3.turn hg h1' (rdr_cells _ _ _ _)⟩
theorem Rdr.lt {w : World} {g : Nat} {l : List Nat} {e : Nat} (h : Rdr w g l e) : g < w.heap.size := by
 obtain ⟨A, c, h1, _, _⟩ := h
 exact h1.lt
theorem Rdr.below {w w' : World} {g : Nat} {l : List Nat} {e : Nat} (h : Rdr w g l e) (hb : Below w.heap.size w w') : Rdr w' g l e := by
 obtain ⟨A, c, h1, h2, h3⟩ := h
 exact ⟨A, c, h1.below hb h1.lt, h2, h3.below hb⟩
theorem Below.turn {w w1 w2 : World} {g : Nat} (h : Below w.heap.size w w1) (hg : w1.grownBy w2 (some g)) (hl : w.heap.size ≤ g) : Below w.heap.size w w2 :=
 h.grown hg h.size (fun k hk => by injection hk with hk; omega)

theorem Rdr.drew {w : World} {g : Nat} {l : List Nat} {e : Nat} (h : Rdr w g l e) : Rdr w.drew g l e := h
theorem head_whole (most n : Nat) (rest : List Nat) (hn : n < 18446744073709551616) (hm : n ≤ most) : yheadF most 10 0 0 (digs n ++ rest) = (n, (digs n).length, 0) := by
 have h := head_digs most rest n 10 0 0 (by omega) (fun h => absurd h (by omega)) (by omega) (digs_le_ten n hn)
 rw [h, if_neg (by simp; omega)]
 simp
theorem numF_whole (most n : Nat) (rest : List Nat) (hn : n < 18446744073709551616) (hm : n ≤ most) : numF most (digs n ++ rest) 0 = (n, rest, 0) := by
 unfold numF
 rw [head_whole most n rest hn hm]
 simp
def ytxt (s : ByteArray) : List Nat := digs s.size ++ sb s
theorem ytxt_byte (s : ByteArray) : ∀ x ∈ ytxt s, x < 256 := by
 intro x hx
 rcases List.mem_append.1 hx with h | h
 ·exact digs_byte _ x h
 ·exact sb_byte s x h
theorem Read_len (A : Option Addr) (l : List Nat) (n c : Nat) (w : World) (hn : l.length = n) (h : Rd w A l) (hb : n ≤ 1000000) :
 Calls Tryz.prog 35 #[.slice A n c] w fun e w' => ∃ g, e = .returned (.pointer (some ⟨g, 0, none⟩)) ∧ w.heap.size ≤ g ∧ Hid (Rdr w' g l 0) ∧ Hid (Below w.heap.size w w') := by
 rw [← hn] at hb ⊢
 exact Read_any A l c w h hb
theorem endF_nil : endF [] 0 = 0 := rfl
theorem OutO.out {w w' : World} {l : List Nat} {e : Ending} (h : OutO w l e w') : yOut w l e w' := by
 obtain ⟨v, he, ho, hb⟩ := h
 rcases ho.2 with ⟨hv, hn⟩ | ⟨g, cap, cur, hv, _⟩
 ·obtain rfl := List.eq_nil_of_length_eq_zero hn
  exact ⟨v, he, none, 0, hv, Nat.le_refl _, Rd.nil _ _, hb⟩
 ·subst hv
  obtain ⟨h1, h2⟩ := yrd_owned ho
  exact ⟨_, he, _, _, rfl, h1, h2, hb⟩
theorem ref_app (w : World) (B : Nat) (v : Value) (l : List Nat) (d : Nat) (x : Int) (hx : (d : Int) = x) (h : Own B w v l) (hB : B ≤ w.heap.size) (hl : l.length ≤ 1000) :
 ∃ R W', (Builtin.append_ #[37, 37] 37 #[v, .slice (some ⟨w.heap.size, 0, none⟩) 1 1]).run Tryz.prog (w.alloc (.cells #[.int .u8 x] 5)) = .ok R W' ∧ Own B W' R (l ++ [d]) ∧ Below B w W' := by
 subst hx
 obtain ⟨i0, hi, hz0, hz1, hz2⟩ := info_parts info5
 obtain ⟨R, W', hrun, hown, hg, _⟩ := run_append_own (P := Tryz.prog) (w.alloc (.cells #[bv d] 5)) B 37 37 5 i0 (.int .u8 0) 1 1 Tryz.underlying37 hi hz0 hz1 hz2 rfl (by decide) v l.length (l.map bv) (h.alloc _)
  ⟨w.heap.size, 0, none⟩ 1 1 [bv d] rfl (fun j u hj => by
    rcases j with _ | j
    ·have := (Has.new w 5 #[bv d]).cell 0
     simpa [Addr.add] using this.trans hj
    ·simp at hj) (fun u hu => by simp at hu; subst hu; rfl) (by unfold maxLen; omega) (by omega) (by simp; omega)
 refine ⟨R, W', hrun, ?_, ?_⟩
 ·unfold Own; rw [List.map_append, List.length_append]; exact hown
 ·exact ((Below.refl B w).alloc hB _).grown hg (by simp; omega) fun k hk => (World.ownsRow.lt h k hk).1
set_option maxHeartbeats 400000 in
theorem refdigits_any (n : Nat) (w : World) (hn : n < ybig) : Calls Tryz.prog 76 #[.int .u64 n] w (OutO w (digs n)) := by
 unfold ybig at hn
 go_enter Tryz.func76, Tryz.ntmps76
 go_wp2_with fail
 go_loopw [0, 3] (fun m V wr => ∃ (N : Nat) (o : List Nat) (v : Value), N ≤ n ∧ m = .int .u64 N ∧ v = V ∧ Hid (o ++ digs N = digs n) ∧ Hid (Own w.heap.size wr v o) ∧ Hid (Below w.heap.size w wr)) (fun m _ _ => (intOf m).toNat)
 case atStart => exact ⟨n, [], _, Nat.le_refl _, rfl, rfl, rfl, World.ownsRow_nil _ _ _ _, Below.refl _ _⟩
 case round =>
  obtain ⟨N, o, v, hN, rfl, rfl, HE, HO, HB⟩ := hrel
  have hol : o.length ≤ 1000 := by
   have h1 := congrArg List.length HE.out
   have h2 := digs_le_ten n hn
   rw [List.length_append] at h1
   omega
  by_cases hlt : N < 128
  ·have hq : ((N : Int) / 128 == 0) = true := beq_iff_eq.2 (by omega)
   have HA := Lib.hid (ref_app wr w.heap.size v o N ((N : Int) % 128) (by omega) HO.out HB.out.size hol)
   have HE2 : Hid (o ++ [N] = digs n) := by show _ = _; rw [← HE.out, digs_lt hlt]
   clear HE
   go_wp2_with (at_builtin; refine wpList_app rfl _ _ 37 37 rfl v (.slice (some ⟨wr.heap.size, 0, none⟩) 1 1) rfl rfl ?_; obtain ⟨R, W', hrun, hmade⟩ := HA.out; refine ⟨R, W', hrun, ?_⟩; have HM := Lib.hid hmade; clear hrun hmade)
   go_ret
   exact ⟨R, rfl, by rw [← HE2.out]; exact HM.out.1, HB.out.trans HM.out.2⟩
  ·have hq : ((N : Int) / 128 == 0) = false := beq_eq_false_iff_ne.2 (by omega)
   have HA := Lib.hid (ref_app wr w.heap.size v o (N % 128 + 128) ((N : Int) % 128 + 128) (by omega) HO.out HB.out.size hol)
   have HE2 : Hid ((o ++ [N % 128 + 128]) ++ digs (N / 128) = digs n) := by show _ = _; rw [← HE.out, digs_ge (n := N) (by omega), List.append_assoc]; rfl
   have HD : Hid ((N : Int) / 128 = ((N / 128 : Nat) : Int)) := by show _ = _; omega
   clear HE
   go_wp2_with (at_builtin; refine wpList_app rfl _ _ 37 37 rfl v (.slice (some ⟨wr.heap.size, 0, none⟩) 1 1) rfl rfl ?_; obtain ⟨R, W', hrun, hmade⟩ := HA.out; refine ⟨R, W', hrun, ?_⟩; have HM := Lib.hid hmade; clear hrun hmade)
   go_roundw
   case rel => exact ⟨N / 128, o ++ [N % 128 + 128], R, by omega, by rw [HD.out], rfl, HE2, HM.out.1, HB.out.trans HM.out.2⟩
   case measure => simp [intOf]; omega
theorem zig_nonneg (n : Nat) : 2 * n = zig (n : Int) := by unfold zig; rw [if_pos (by omega)]; omega
theorem zig_neg (n : Int) (p : Nat) (h : -(n + 1) = (p : Int)) : 2 * p + 1 = zig n := by unfold zig; rw [if_neg (by omega)]; omega
set_option maxHeartbeats 400000 in
theorem refNumber_any (n : Nat) (w : World) (hn : (n : Int) ≤ 9223372036854775807) : Calls Tryz.prog 41 #[.int .i64 n] w (OutO w (digs n)) := by
 have HC := Lib.hid (refdigits_any n w (by unfold ybig; omega))
 go_enter Tryz.func41, Tryz.ntmps41
 go_wp2_with fail
 refine HC.out.mono ?_
 rintro e w1 ⟨v, rfl, ho, hb⟩
 have HO := Lib.hid ho
 have HB := Lib.hid hb
 clear ho hb
 go_wp2_with fail
 go_ret
 exact ⟨v, rfl, HO.out, HB.out⟩
set_option maxHeartbeats 400000 in
theorem refSigned_any (n : Int) (w : World) (h0 : -9223372036854775808 ≤ n) (h1 : n ≤ 9223372036854775807) : Calls Tryz.prog 75 #[.int .i64 n] w (OutO w (digs (zig n))) := by
 have HC := Lib.hid (refdigits_any (zig n) w (zig_lt n h0 h1))
 by_cases hs : 0 ≤ n
 ·obtain ⟨p, rfl⟩ := Int.eq_ofNat_of_zero_le hs
  have HZ : Hid (2 * (p : Int) = ((zig (p : Int) : Nat) : Int)) := by show _ = _; have := zig_nonneg p; omega
  go_enter Tryz.func75, Tryz.ntmps75
  go_wp2_with fail
  rw [HZ.out]
  refine HC.out.mono ?_
  rintro e w1 ⟨v, rfl, ho, hb⟩
  have HO := Lib.hid ho
  have HB := Lib.hid hb
  clear ho hb
  go_wp2_with fail
  go_ret
  exact ⟨v, rfl, HO.out, HB.out⟩
 ·obtain ⟨p, hp⟩ : ∃ p : Nat, -(n + 1) = (p : Int) := ⟨(-(n + 1)).toNat, by omega⟩
  have HZ : Hid (2 * (-(n + 1)) + 1 = ((zig n : Nat) : Int)) := by show _ = _; have := zig_neg n p hp; omega
  clear hp
  go_enter Tryz.func75, Tryz.ntmps75
  go_wp2_with fail
  rw [HZ.out]
  refine HC.out.mono ?_
  rintro e w1 ⟨v, rfl, ho, hb⟩
  have HO := Lib.hid ho
  have HB := Lib.hid hb
  clear ho hb
  go_wp2_with fail
  go_ret
  exact ⟨v, rfl, HO.out, HB.out⟩
theorem strCells_sb (s : ByteArray) : Lib.strCells s = (sb s).map bv := by
 simp [Lib.strCells, sb, bv, List.map_map, Function.comp]
set_option maxHeartbeats 400000 in
theorem refText_any (s : ByteArray) (w : World) (hs : s.size ≤ 1000) : Calls Tryz.prog 39 #[.string s] w (OutO w (ytxt s)) := by
 obtain ⟨i0, hi, hz0, hz1, hz2⟩ := info_parts info5
 have HC := Lib.hid (refNumber_any s.size w (by omega))
 have ht := digs_le_ten s.size (by omega)
 clear hz1
 go_enter Tryz.func39, Tryz.ntmps39
 go_wp2_with fail
 refine HC.out.mono ?_
 rintro e w1 ⟨v, rfl, ho, hb⟩
 have HR : Hid (∃ R W', (Builtin.append_ #[37, 9] 37 #[v, .string s]).run Tryz.prog w1 = .ok R W' ∧ Own w.heap.size W' R (ytxt s) ∧ Below w.heap.size w W') := by
  obtain ⟨i0, hi, hz0, hz1, hz2⟩ := info_parts info5
  obtain ⟨R, W', hrun, hown, hg, _⟩ := Lib.run_append_own_string (P := Tryz.prog) w1 w.heap.size 37 9 37 5 i0 Tryz.underlying37 Tryz.underlying9 hi hz0 hz1 hz2 v _ _ ho s (by unfold maxLen; omega) (by omega) hb.size
  refine ⟨R, W', hrun, ?_, hb.grown hg hb.size fun k hk => (World.ownsRow.lt ho k hk).1⟩
  unfold Own ytxt
  rw [List.map_append, List.length_append, sb_length, ← strCells_sb]
  exact hown
 clear ho hb
 go_wp2_with (at_builtin; refine wpList_app rfl _ _ 37 9 rfl v (.string s) rfl rfl ?_; obtain ⟨R, W', hrun, hmade⟩ := HR.out; refine ⟨R, W', hrun, ?_⟩; have HM := Lib.hid hmade; clear hrun hmade)
 go_ret
 exact ⟨R, rfl, HM.out.1, HM.out.2⟩
def RdrD (D : Nat) (w : World) (g : Nat) (l : List Nat) (e : Nat) : Prop :=
 ∃ A c, Has w g 112 #[.slice A l.length c, .int .i64 (e : Int)] ∧ l.length ≤ c ∧ Rd w A l ∧ (l ≠ [] → ∀ a, A = some a → a.block < D)
theorem RdrD.rdr {D : Nat} {w : World} {g : Nat} {l : List Nat} {e : Nat} (h : RdrD D w g l e) : Rdr w g l e := by
 obtain ⟨A, c, h1, h2, h3, _⟩ := h
 exact ⟨A, c, h1, h2, h3⟩
theorem Rdr.dd {w : World} {g : Nat} {l : List Nat} {e : Nat} (h : Rdr w g l e) : RdrD w.heap.size w g l e := by
 obtain ⟨A, c, h1, h2, h3⟩ := h
 refine ⟨A, c, h1, h2, h3, fun hne a ha => ?_⟩
 obtain ⟨b, off, e, hc⟩ := h3 hne
 rw [e] at ha
 injection ha with ha
 subst ha
 exact World.block_lt_of_cell? w _ (hc 0 (List.length_pos_iff.2 hne))
theorem RdrD.keep {D : Nat} {w w' : World} {g : Nat} {l : List Nat} {e : Nat} (h : RdrD D w g l e) (hg : g < D) (hb : Below D w w') : RdrD D w' g l e := by
 obtain ⟨A, c, h1, h2, h3, h4⟩ := h
 refine ⟨A, c, (hb.block g hg).trans h1, h2, fun hne => ?_, h4⟩
 obtain ⟨b, off, e, hc⟩ := h3 hne
 have hlt : b < D := h4 hne _ e
 refine ⟨b, off, e, fun i hi => ?_⟩
 rw [← hc i hi]
 exact World.cell?_of_block (w := w) (hb.block b hlt)
def StepD (D : Nat) (w : World) (g : Nat) (v : Value) (l : List Nat) (e : Nat) (x : Ending) (w' : World) : Prop :=
 x = .returned v ∧ RdrD D w' g l e ∧ w.grownBy w' (some g)
section
variable {D : Nat} (g : Nat) (l : List Nat) (e : Nat) (w : World)
set_option maxHeartbeats 400000 in
theorem passD_bad (k : Int) (r : Nat) (h : RdrD D w g l 0) (he : r ≠ 0) :
 Calls Tryz.prog 70 #[.pointer (some ⟨g, 0, none⟩), .int .i64 k, .int .i64 r] w (StepD D w g (.bool false) l r) := by
 obtain ⟨A, c, hh, hn, hr, hdd⟩ := h
 have HDD := Lib.hid hdd
 clear hdd
 have c1 : w.cell? ⟨g, 1, none⟩ = some (.int .i64 0) := hh.cell 1
 have f1 := hh.free 1
 have g2 : ((r : Int) != 0) = true := by simp; omega
 have HE := Lib.hid he
 have HH := Lib.hid hh
 have HR := Lib.hid hr
 clear hh hr he
 go_enter Tryz.func70, Tryz.ntmps70
 go_wp2_with fail
 go_ret
 exact ⟨rfl, ⟨A, c, HH.out.put 1 _, hn, HR.out.turn (grown_set w g 1 _) HH.out (rdr_cells _ _ _ _), HDD.out⟩, grown_set w g 1 _⟩
set_option maxHeartbeats 400000 in
theorem passD_good (k : Nat) (h : RdrD D w g l 0) (hk : k ≤ l.length) (hb : l.length ≤ 1000000) :
 Calls Tryz.prog 70 #[.pointer (some ⟨g, 0, none⟩), .int .i64 k, .int .i64 0] w (StepD D w g (.bool true) (l.drop k) 0) := by
 obtain ⟨A, c, hh, hn, hr, hdd⟩ := h
 have HDD := Lib.hid hdd
 clear hdd
 have c0 : w.cell? ⟨g, 0, none⟩ = some (.slice A l.length c) := hh.cell 0
 have c1 : w.cell? ⟨g, 1, none⟩ = some (.int .i64 0) := hh.cell 1
 have f0 := hh.free 0
 have f1 := hh.free 1
 have HH := Lib.hid hh
 have HR := Lib.hid hr
 clear hh hr
 go_enter Tryz.func70, Tryz.ntmps70
 go_wp2_with fail
 all_goals
  go_ret
  have h1 : Has (w.setCell ⟨g, 1, none⟩ (.int .i64 0)) g 112 #[.slice A l.length c, .int .i64 0] := HH.out.put 1 (.int .i64 0)
  have r1 := HR.out.turn (grown_set w g 1 (.int .i64 0)) HH.out (rdr_cells _ _ _ _)
  refine ⟨rfl, ⟨_, _, (by rw [List.length_drop]; exact h1.put 0 _), (by rw [List.length_drop]; omega), ?_, fun hne a ha => by
   have hl0 : l ≠ [] := by rintro rfl; simp at hne
   have h0 := HDD.out hl0
   obtain ⟨b, off, rfl, _⟩ := r1 hl0
   have h2 := h0 _ rfl
   first | (exfalso; omega) | (rw [Option.map_some, Addr.add_lit] at ha; injection ha with ha; subst ha; exact h2) | (simp at ha; subst ha; exact h2)⟩, grown_trans (grown_set w g 1 (.int .i64 0)) (grown_set (w.setCell ⟨g, 1, none⟩ (.int .i64 0)) g 0 _)⟩
  refine Rd.turn ?_ (grown_set (w.setCell ⟨g, 1, none⟩ (.int .i64 0)) g 0 _) h1 (rdr_cells _ _ _ _)
  intro hl
  have hne : l ≠ [] := by rintro rfl; simp at hl
  have hlt : k < l.length := by
   rcases Nat.lt_or_ge k l.length with h | h
   ·exact h
   ·exact absurd (List.drop_eq_nil_of_le h) hl
  obtain ⟨b, off, rfl, hc⟩ := r1 hne
  first
   | (exfalso; omega)
   | (have r2 := Rd.drop r1 k hl
      rw [Option.map_some, Addr.add_lit]
      exact r2)
set_option maxHeartbeats 400000 in
theorem numberD_any (most : Nat) (h : RdrD D w g l e) (hl : ∀ x ∈ l, x < 256) (hb : l.length ≤ 1000000) :
 Calls Tryz.prog 113 #[.pointer (some ⟨g, 0, none⟩), .int .u64 most] w (StepD D w g (.int .u64 ((numF most l e).1 : Int)) (numF most l e).2.1 (numF most l e).2.2) := by
 have H := Lib.hid h
 obtain ⟨A, c, hh, hn, hr, hdd⟩ := h
 have HDD := Lib.hid hdd
 clear hdd
 have c0 : w.cell? ⟨g, 0, none⟩ = some (.slice A l.length c) := hh.cell 0
 have HR := Lib.hid hr
 have HH := yhead_any A l c most w hb hl hr
 have hle := head_len most 10 0 0 l
 obtain ⟨R, hR⟩ : ∃ R, R = yheadF most 10 0 0 l := ⟨_, rfl⟩
 have hnum : numF most l e = if e ≠ 0 then (0, l, e) else if R.2.2 ≠ 0 then (0, l, R.2.2) else (R.1, l.drop R.2.1, 0) := by rw [hR]; rfl
 rw [hnum]
 rw [← hR] at HH hle
 obtain ⟨r1, r2, r3⟩ := R
 simp only at hle hnum ⊢
 have HE := Lib.hid hnum
 have HHH := Lib.hid HH
 have HL := Lib.hid hle
 clear hh hr hR hnum HH hle hn
 by_cases he : e = 0
 ·subst he
  by_cases h3 : r3 = 0
  ·subst h3
   rw [if_neg (by simp), if_neg (by simp)]
   have hk : r2 ≤ l.length := by have := HL.out; omega
   go_enter Tryz.func113, Tryz.ntmps113
   go_wp2_with fail
   refine HHH.out.mono ?_
   rintro x w1 ⟨rfl, rfl⟩
   go_wp2_with fail
   refine (passD_good g l w r2 H.out hk hb).mono ?_
   rintro x w1 ⟨rfl, hd, hg⟩
   have HD := Lib.hid hd
   have HG := Lib.hid hg
   clear hd hg
   go_wp2_with fail
   go_ret
   exact ⟨rfl, HD.out, HG.out⟩
  ·have HN := Lib.hid h3
   rw [if_neg (by simp), if_pos h3]
   clear h3
   go_enter Tryz.func113, Tryz.ntmps113
   go_wp2_with fail
   refine HHH.out.mono ?_
   rintro x w1 ⟨rfl, rfl⟩
   go_wp2_with fail
   refine (passD_bad g l w _ r3 H.out HN.out).mono ?_
   rintro x w1 ⟨rfl, hd, hg⟩
   have HD := Lib.hid hd
   have HG := Lib.hid hg
   clear hd hg
   go_wp2_with fail
   go_ret
   exact ⟨rfl, HD.out, HG.out⟩
 ·have HN := Lib.hid he
  rw [if_pos he]
  clear he
  go_enter Tryz.func113, Tryz.ntmps113
  go_wp2_with fail
  refine HHH.out.mono ?_
  rintro x w1 ⟨rfl, rfl⟩
  go_wp2_with fail
  refine (pass_err g l e w _ _ H.out.rdr HN.out).mono ?_
  rintro x w1 ⟨rfl, rfl⟩
  go_wp2_with fail
  go_ret
  exact ⟨rfl, H.out, grown_refl _ _⟩
set_option maxHeartbeats 400000 in
theorem SignedD_get (h : RdrD D w g l e) (hl : ∀ x ∈ l, x < 256) (hb : l.length ≤ 1000000) :
 Calls Tryz.prog 130 #[.pointer (some ⟨g, 0, none⟩)] w (StepD D w g (.int .i64 (zag (numF 18446744073709551615 l e).1)) (numF 18446744073709551615 l e).2.1 (numF 18446744073709551615 l e).2.2) := by
 have hc := numberD_any g l e w 18446744073709551615 h hl hb
 have hle := numF_le 18446744073709551615 l e
 generalize numF 18446744073709551615 l e = R at *
 obtain ⟨r1, r2, r3⟩ := R
 simp only at hle hc ⊢
 have HC := Lib.hid hc
 clear hc h
 go_enter Tryz.func130, Tryz.ntmps130
 go_wp2_with fail
 refine HC.out.mono ?_
 rintro x w1 ⟨rfl, hd, hg⟩
 have HD := Lib.hid hd
 have HG := Lib.hid hg
 clear hd hg
 go_wp2_with fail
 rw [zag_bits r1 (by omega)]
 go_ret
 exact ⟨rfl, HD.out, HG.out⟩
set_option maxHeartbeats 400000 in
theorem ByteD_end (h : RdrD D w g [] 0) :
 Calls Tryz.prog 36 #[.pointer (some ⟨g, 0, none⟩)] w (StepD D w g (.int .i64 0) [] 4) := by
 have H := Lib.hid h
 obtain ⟨A, c, hh, hn, hr, hdd⟩ := h
 have HDD := Lib.hid hdd
 clear hdd
 have c0 : w.cell? ⟨g, 0, none⟩ = some (.slice A 0 c) := hh.cell 0
 clear hh hr hn
 go_enter Tryz.func36, Tryz.ntmps36
 go_wp2_with fail
 refine (passD_bad g [] w _ 4 H.out (by omega)).mono ?_
 rintro x w1 ⟨rfl, hd, hg⟩
 have HD := Lib.hid hd
 have HG := Lib.hid hg
 clear hd hg
 go_wp2_with fail
 go_ret
 exact ⟨rfl, HD.out, HG.out⟩
set_option maxHeartbeats 400000 in
theorem ByteD_go (y : Nat) (t : List Nat) (h : RdrD D w g (y :: t) 0) (hy : y < 256) (hb : (y :: t).length ≤ 1000000) :
 Calls Tryz.prog 36 #[.pointer (some ⟨g, 0, none⟩)] w (StepD D w g (.int .i64 y) t 0) := by
 have H := Lib.hid h
 obtain ⟨A, c, hh, hn, hr, hdd⟩ := h
 have HDD := Lib.hid hdd
 clear hdd
 have c0 : w.cell? ⟨g, 0, none⟩ = some (.slice A (y :: t).length c) := hh.cell 0
 have HR := Lib.hid hr
 have HH := Lib.hid hh
 obtain ⟨b, off, rfl, hx⟩ := hr (by simp)
 clear hx hr
 have hp : (((y :: t).length : Int) == 0) = false := by simp; omega
 have hp2 : 0 < (y :: t).length := by simp
 clear hh hn
 generalize hL : (y :: t).length = L at *
 have HL := Lib.hid hL
 clear hL
 go_enter Tryz.func36, Tryz.ntmps36
 go_wp2_with fail
 refine (passD_good g (y :: t) w 1 H.out (by simp) (by rw [HL.out]; exact hb)).mono ?_
 rintro x w1 ⟨rfl, hd, hg⟩
 have cy : w1.cell? ⟨b, off, none⟩ = some (.int .u8 y) := by
  obtain ⟨b', off', e', hc⟩ := (HR.out.turn hg HH.out (rdr_cells _ _ _ _)) (by simp)
  injection e' with e'
  injection e' with e1 e2
  subst e1; subst e2
  exact hc 0 (by simp)
 have HD := Lib.hid hd
 have HG := Lib.hid hg
 clear hd hg
 go_wp2_with fail
 go_ret
 exact ⟨rfl, HD.out, HG.out⟩
set_option maxHeartbeats 400000 in
theorem ByteD_err (h : RdrD D w g l e) (he : e ≠ 0) :
 Calls Tryz.prog 36 #[.pointer (some ⟨g, 0, none⟩)] w (StepD D w g (.int .i64 0) l e) := by
 have H := Lib.hid h
 obtain ⟨A, c, hh, hn, hr, hdd⟩ := h
 have HDD := Lib.hid hdd
 clear hdd
 have c0 : w.cell? ⟨g, 0, none⟩ = some (.slice A l.length c) := hh.cell 0
 have HN := Lib.hid he
 clear hh hr hn he
 by_cases hp : l.length = 0
 all_goals
  have HP := Lib.hid hp
  first | (have hq : ((l.length : Int) == 0) = true := beq_iff_eq.2 (by omega)) | (have hq : ((l.length : Int) == 0) = false := beq_eq_false_iff_ne.2 (by omega))
  clear hp
  go_enter Tryz.func36, Tryz.ntmps36
  go_wp2_with fail
  refine (pass_err g l e w _ _ H.out.rdr HN.out).mono ?_
  rintro x w1 ⟨rfl, rfl⟩
  go_wp2_with fail
  go_ret
  exact ⟨rfl, H.out, grown_refl _ _⟩
theorem ByteD_get (h : RdrD D w g l e) (hl : ∀ x ∈ l, x < 256) (hb : l.length ≤ 1000000) :
 Calls Tryz.prog 36 #[.pointer (some ⟨g, 0, none⟩)] w (StepD D w g (.int .i64 (byteF l e).1) (byteF l e).2.1 (byteF l e).2.2) := by
 by_cases he : e = 0
 ·subst he
  rcases l with _ | ⟨y, t⟩
  ·exact ByteD_end g w h
  ·exact ByteD_go g w y t h (hl y (by simp)) hb
 ·rw [byteF_err l he]
  exact ByteD_err g l e w h he
set_option maxHeartbeats 800000 in
theorem TextD_get (most : Int) (h : RdrD D w g l e) (hl : ∀ x ∈ l, x < 256) (hb : l.length ≤ 1000000) :
 Calls Tryz.prog 102 #[.pointer (some ⟨g, 0, none⟩), .int .i64 most] w (StepD D w g (.string (bs (textF most l e).1)) (textF most l e).2.1 (textF most l e).2.2) := by
 have H := Lib.hid h
 obtain ⟨A, c, hh, hn, hr, hdd⟩ := h
 have HDD := Lib.hid hdd
 clear hdd
 have c0 : w.cell? ⟨g, 0, none⟩ = some (.slice A l.length c) := hh.cell 0
 have HR := Lib.hid hr
 have HAS := Lib.hid hh
 have HH := yhead_any A l c 9223372036854775807 w hb hl hr
 have hle := head_len 9223372036854775807 10 0 0 l
 have hbg := head_big 9223372036854775807 10 0 0 l
 obtain ⟨R, hR⟩ : ∃ R, R = yheadF 9223372036854775807 10 0 0 l := ⟨_, rfl⟩
 have hnum : textF most l e = if e ≠ 0 then ([], l, e) else if R.2.2 ≠ 0 then ([], l, R.2.2) else if most < R.1 then ([], l, 2) else if (l.length : Int) - R.2.1 < R.1 then ([], l, 4) else ((l.drop R.2.1).take R.1, l.drop (R.2.1 + R.1), 0) := by rw [hR]; rfl
 rw [hnum]
 rw [← hR] at HH hle hbg
 obtain ⟨r1, r2, r3⟩ := R
 simp only at hle hnum hbg ⊢
 have HHH := Lib.hid HH
 have hk : r2 ≤ l.length := by omega
 clear hh hr hR hnum HH hle
 by_cases he : e = 0
 ·subst he
  rw [if_neg (by simp)]
  by_cases h3 : r3 = 0
  ·subst h3
   rw [if_neg (by simp)]
   by_cases hm : most < r1
   ·rw [if_pos hm]
    go_enter Tryz.func102, Tryz.ntmps102
    go_wp2_with fail
    refine HHH.out.mono ?_
    rintro x w1 ⟨rfl, rfl⟩
    go_wp2_with fail
    refine (passD_bad g l w _ 2 H.out (by omega)).mono ?_
    rintro x w1 ⟨rfl, hd, hg⟩
    have HD := Lib.hid hd
    have HG := Lib.hid hg
    clear hd hg
    go_wp2_with fail
    go_ret
    exact ⟨rfl, HD.out, HG.out⟩
   ·rw [if_neg hm]
    by_cases hs : (l.length : Int) - r2 < r1
    ·rw [if_pos hs]
     go_enter Tryz.func102, Tryz.ntmps102
     go_wp2_with fail
     refine HHH.out.mono ?_
     rintro x w1 ⟨rfl, rfl⟩
     go_wp2_with fail
     refine (passD_bad g l w _ 4 H.out (by omega)).mono ?_
     rintro x w1 ⟨rfl, hd, hg⟩
     have HD := Lib.hid hd
     have HG := Lib.hid hg
     clear hd hg
     go_wp2_with fail
     go_ret
     exact ⟨rfl, HD.out, HG.out⟩
    ·rw [if_neg hs]
     go_enter Tryz.func102, Tryz.ntmps102
     go_wp2_with fail
     refine HHH.out.mono ?_
     rintro x w1 ⟨rfl, rfl⟩
     go_wp2_with fail
     refine (passD_good g l w (r2 + r1) H.out (by omega) hb).mono ?_
     rintro x w1 ⟨rfl, hd, hg⟩
     have HD := Lib.hid hd
     have HG := Lib.hid hg
     have HT := Lib.hid (HR.out.turn hg HAS.out (rdr_cells _ _ _ _))
     clear hd hg
     go_wp2_with fail
     ·rw [conv_len w1 _ ((l.drop r2).take r1) r1 _ (by rw [List.length_take, List.length_drop]; omega) (by rw [List.drop_eq_nil_of_le (by omega), List.take_nil]; exact Rd.nil _ _)]
      go_wp2_with fail
      go_ret
      exact ⟨rfl, HD.out, HG.out⟩
     ·rw [conv_len w1 _ ((l.drop r2).take r1) r1 _ (by rw [List.length_take, List.length_drop]; omega) (HT.out.cut r2 r1)]
      go_wp2_with fail
      go_ret
      exact ⟨rfl, HD.out, HG.out⟩
  ·have HN := Lib.hid h3
   rw [if_pos h3]
   have q3 : ((r3 : Int) != 0) = true := by rw [bne_iff_ne]; omega
   clear h3
   go_enter Tryz.func102, Tryz.ntmps102
   go_wp2_with fail
   refine HHH.out.mono ?_
   rintro x w1 ⟨rfl, rfl⟩
   go_wp2_with fail
   refine (passD_bad g l w _ r3 H.out HN.out).mono ?_
   rintro x w1 ⟨rfl, hd, hg⟩
   have HD := Lib.hid hd
   have HG := Lib.hid hg
   clear hd hg
   go_wp2_with fail
   go_ret
   exact ⟨rfl, HD.out, HG.out⟩
 ·have HN := Lib.hid he
  rw [if_pos he]
  clear he
  by_cases hm : most < r1 <;> by_cases hs : (l.length : Int) - r2 < r1 <;> by_cases h3 : r3 = 0
  all_goals
   have H3 := Lib.hid h3
   first | (have q3 : ((r3 : Int) != 0) = true := by rw [bne_iff_ne]; omega) | (have q3 : ((r3 : Int) != 0) = false := by rw [bne_eq_false_iff_eq]; omega)
   clear h3
   go_enter Tryz.func102, Tryz.ntmps102
   go_wp2_with fail
   refine HHH.out.mono ?_
   rintro x w1 ⟨rfl, rfl⟩
   go_wp2_with fail
   all_goals
    refine (pass_err g l e w _ _ H.out.rdr HN.out).mono ?_
    rintro x w1 ⟨rfl, rfl⟩
    go_wp2_with fail
    go_ret
    exact ⟨rfl, H.out, grown_refl _ _⟩
end
end Go.Proofs.YtnpmgempkoeapaaGreatDoor
namespace Go.Proofs.YtnpmgempkoeapaaGreatDoor
open Go.RowKit Dg
set_option maxRecDepth 100000
end Go.Proofs.YtnpmgempkoeapaaGreatDoor
