/-
  What crc.table gives: for each number of a byte, its eight halvings; and what crc.halve gives.
-/
import Derived.Test.YtbaafbcdhgfpdaaProg
import Derived.Test.YtbaafbcdhgfpdaaKit
import Derived.Test.YtbaafbcdhgfpdaaCrcMath
import Derived.Laws.Rows
namespace Go.Proofs.Ytbaafbcdhgfpdaa
open Go.RowKit Cr
/-- A row of 256 numbers. -/
def tabA (f : Nat → Nat) : Array Value := ((List.range 256).map (fun j => Value.int .u32 (f j : Nat))).toArray
theorem tabA_size (f : Nat → Nat) : (tabA f).size = 256 := by simp [tabA]
theorem tabA_get (f : Nat → Nat) (j : Nat) (h : j < 256) : (tabA f)[j]? = some (.int .u32 (f j : Nat)) := by simp [tabA, h]
theorem tabA_ext {f g : Nat → Nat} (h : ∀ j, j < 256 → f j = g j) : tabA f = tabA g := by
  unfold tabA
  congr 1
  exact List.map_congr_left fun j hj => by rw [h j (List.mem_range.1 hj)]
theorem tabA_put (f : Nat → Nat) (k v : Nat) : (tabA f).setIfInBounds k (.int .u32 (v : Nat)) = tabA (fun j => if j = k then v else f j) := by
  apply Array.ext_getElem?
  intro j
  rw [Array.getElem?_setIfInBounds, tabA_size]
  by_cases hj : j < 256
  · rw [tabA_get _ j hj, tabA_get _ j hj]
    by_cases e : k = j
    · subst e; rw [if_pos rfl, if_pos hj, if_pos rfl]
    · rw [if_neg e, if_neg (fun h => e h.symm)]
  · have e1 : (tabA f)[j]? = none := by rw [Array.getElem?_eq_none]; rw [tabA_size]; omega
    have e2 : (tabA (fun j => if j = k then v else f j))[j]? = none := by rw [Array.getElem?_eq_none]; rw [tabA_size]; omega
    rw [e1, e2]
    split
    · rw [if_neg (by omega)]
    · rfl
theorem tabA_one (f : Nat → Nat) : (tabA f).all (·.oneCell') = true := by
  rw [Array.all_eq_true]
  intro i hi
  simp [tabA] at hi ⊢
  rfl
theorem zero39 (w : World) : Sem.run Try.prog (zeroValue 39) w = .ok (.agg (tabA fun _ => 0)) w := by kernel_rfl
theorem halve_any (n : Nat) (w : World) (h : n < 4294967296) : Calls Try.prog 24 #[.int .u32 n] w fun e w' => e = .returned (.int .u32 (st n : Nat)) ∧ w = w' := by
  by_cases hodd : n % 2 = 1
  · have t1 : ((n : Int) % 2 == 1) = true := beq_iff_eq.2 (by omega)
    have HP : Hid (bits .xor .u32 ((n : Int) / 2) 3988292384 = ((st n : Nat) : Int)) := by
      show _ = _
      have h := u32_xor_nat (n / 2) poly (by omega) poly_lt
      unfold st; rw [if_pos hodd]
      exact h
    clear hodd
    go_enter Try.func24, Try.ntmps24
    go_wp2_with fail
    rw [HP.out]
    go_ret
    exact ⟨rfl, rfl⟩
  · have t1 : ((n : Int) % 2 == 1) = false := beq_eq_false_iff_ne.2 (by omega)
    have HP : Hid ((n : Int) / 2 = ((st n : Nat) : Int)) := by show _ = _; unfold st; rw [if_neg hodd]; omega
    clear hodd
    go_enter Try.func24, Try.ntmps24
    go_wp2_with fail
    rw [HP.out]
    go_ret
    exact ⟨rfl, rfl⟩
/-! ### the table, as it is filled: behind k rounds the multiples of 2^(8-k) stand; within a round, up to o, those of 2^(7-k) too -/
def fT (k : Nat) (j : Nat) : Nat := if j % 2 ^ (8 - k) = 0 then stn 8 j else 0
def gT (k o : Nat) (j : Nat) : Nat := if j % 2 ^ (8 - k) = 0 ∨ (j % 2 ^ (7 - k) = 0 ∧ j < o) then stn 8 j else 0
theorem eight {k : Nat} (h : k < 8) : k = 0 ∨ k = 1 ∨ k = 2 ∨ k = 3 ∨ k = 4 ∨ k = 5 ∨ k = 6 ∨ k = 7 := by omega
theorem fT_zero : tabA (fT 0) = tabA (fun _ => 0) := tabA_ext fun j hj => by
  unfold fT
  split
  · have : j = 0 := by omega
    subst this; exact stn_zero 8
  · rfl
theorem fT_end : tabA (fT 8) = tabA (stn 8) := tabA_ext fun j _ => by unfold fT; rw [if_pos (by omega)]
theorem gT_start (k : Nat) : tabA (gT k 0) = tabA (fT k) := tabA_ext fun j _ => by
  unfold gT fT
  by_cases h : j % 2 ^ (8 - k) = 0
  · rw [if_pos h, if_pos (.inl h)]
  · rw [if_neg h, if_neg (by omega)]
theorem gT_end (k : Nat) (hk : k < 8) : tabA (gT k 256) = tabA (fT (k + 1)) := tabA_ext fun j hj => by
  unfold gT fT
  have e : (8 - (k + 1)) = 7 - k := by omega
  rw [e]
  have h2 : j % 2 ^ (8 - k) = 0 → j % 2 ^ (7 - k) = 0 := by
    rcases eight hk with rfl | rfl | rfl | rfl | rfl | rfl | rfl | rfl <;> simp <;> omega
  by_cases h : j % 2 ^ (7 - k) = 0
  · rw [if_pos h, if_pos (.inr ⟨h, hj⟩)]
  · rw [if_neg h, if_neg (fun h3 => h3.elim (fun h3 => h (h2 h3)) (fun h3 => h h3.1))]
theorem or_add {i b : Nat} (m : Nat) (h : b < 2 ^ i) : 2 ^ i * m + b = 2 ^ i * m ^^^ b := by
  rw [Nat.two_pow_add_eq_or_of_lt h]
  apply Nat.eq_of_testBit_eq
  intro j
  rw [Nat.testBit_or, Nat.testBit_xor]
  by_cases hj : j < i
  · have : (2 ^ i * m).testBit j = false := by rw [Nat.testBit_two_pow_mul]; simp; omega
    rw [this]; simp
  · have : b.testBit j = false := Nat.testBit_lt_two_pow (Nat.lt_of_lt_of_le h (Nat.pow_le_pow_right (by omega) (by omega)))
    rw [this]; simp
theorem stn_two (k o : Nat) (hk : k < 8) (ho : o % 2 ^ (8 - k) = 0) : stn 8 (o + 2 ^ (7 - k)) = stn 8 o ^^^ stn (k + 1) 1 := by
  have e1 : stn 8 (2 ^ (7 - k)) = stn (k + 1) 1 := by
    have h := stn_add (7 - k) (k + 1) (2 ^ (7 - k))
    rw [show 7 - k + (k + 1) = 8 by omega] at h
    rw [h]
    have h2 := stn_pow (7 - k) 1
    rw [Nat.mul_one] at h2
    rw [h2]
  obtain ⟨m, hm⟩ : ∃ m, o = 2 ^ (8 - k) * m := ⟨o / 2 ^ (8 - k), by have := Nat.div_add_mod o (2 ^ (8 - k)); omega⟩
  have hlt : 2 ^ (7 - k) < 2 ^ (8 - k) := Nat.pow_lt_pow_right (by omega) (by omega)
  rw [hm, or_add m hlt, stn_xor, e1]
theorem gT_step (k o : Nat) (hk : k < 8) (ho : o % 2 ^ (8 - k) = 0) :
    tabA (fun j => if j = o + 2 ^ (7 - k) then stn 8 o ^^^ stn (k + 1) 1 else gT k o j) = tabA (gT k (o + 2 * 2 ^ (7 - k))) := tabA_ext fun j hj => by
  by_cases e : j = o + 2 ^ (7 - k)
  · rw [if_pos e, ← stn_two k o hk ho, ← e]
    unfold gT
    rw [if_pos]
    right
    subst e
    rcases eight hk with rfl | rfl | rfl | rfl | rfl | rfl | rfl | rfl <;> simp at ho ⊢ <;> omega
  · rw [if_neg e]
    unfold gT
    have hiff : (j % 2 ^ (8 - k) = 0 ∨ j % 2 ^ (7 - k) = 0 ∧ j < o) ↔ (j % 2 ^ (8 - k) = 0 ∨ j % 2 ^ (7 - k) = 0 ∧ j < o + 2 * 2 ^ (7 - k)) := by
      rcases eight hk with rfl | rfl | rfl | rfl | rfl | rfl | rfl | rfl <;> simp at ho e ⊢ <;> omega
    by_cases h : j % 2 ^ (8 - k) = 0 ∨ j % 2 ^ (7 - k) = 0 ∧ j < o
    · rw [if_pos h, if_pos (hiff.1 h)]
    · rw [if_neg h, if_neg (fun h2 => h (hiff.2 h2))]
theorem gT_at (k o : Nat) (ho : o % 2 ^ (8 - k) = 0) : gT k o o = stn 8 o := by unfold gT; rw [if_pos (.inl ho)]
/-- A round's facts, all in one. -/
theorem round_of (k o : Nat) (hk : k < 8) (ho : o % 2 ^ (8 - k) = 0) (h : o < 256) : 1 ≤ 2 ^ (7 - k) ∧ 2 ^ (7 - k) ≤ 128 ∧ o + 2 * 2 ^ (7 - k) ≤ 256 ∧ (o + 2 * 2 ^ (7 - k)) % 2 ^ (8 - k) = 0 := by
  rcases eight hk with rfl | rfl | rfl | rfl | rfl | rfl | rfl | rfl <;> simp at ho ⊢ <;> omega
theorem bit_of (k : Nat) (hk : k < 8) : 1 ≤ 2 ^ (7 - k) ∧ 2 ^ (7 - k) ≤ 128 ∧ (128 : Int) / 2 ^ k = ((2 ^ (7 - k) : Nat) : Int) := by
  rcases eight hk with rfl | rfl | rfl | rfl | rfl | rfl | rfl | rfl <;> decide
theorem below_setRow {B g : Nat} {a w : World} (h : Below B a w) (hg : B ≤ g) (cs : Array Value) : Below B a (w.setRow g cs) :=
  ⟨h.os, h.tape, h.output, by rw [setRow_size]; exact h.size, fun k hk => (setRow_other w g k cs (by omega)).trans (h.block k hk)⟩
set_option maxHeartbeats 1000000 in
set_option maxRecDepth 100000 in
theorem table_any (w : World) : Calls Try.prog 20 #[] w fun e w' => e = .returned (.agg (tabA (stn 8))) ∧ Hid (Below w.heap.size w w') := by
  have z39 := zero39
  go_enter Try.func20, Try.ntmps20
  go_wp2_with fail
  rw [← fT_zero]
  clear z39
  go_loopw [2, 6] (fun n i wr => ∃ k : Nat, k ≤ 8 ∧ i = .int .i64 k ∧ n = .int .u32 (stn k 1 : Nat) ∧ Has wr (w.heap.size + 1) 39 (tabA (fT k)) ∧ Has wr w.heap.size 39 (tabA (fT 0)) ∧ Below w.heap.size w wr) (fun _ i _ => 8 - (intOf i).toNat)
  case atStart =>
    refine ⟨0, by omega, rfl, rfl, ?_, ?_, ?_⟩
    · have h := Has.new (w.alloc (.cells (tabA (fT 0)) 39)) 39 (tabA (fT 0))
      simpa using h
    · exact (Has.new w 39 (tabA (fT 0))).alloc _
    · exact ((Below.refl _ _).alloc (Nat.le_refl _) _).alloc (by simp) _
  case round =>
    obtain ⟨k, hk, rfl, rfl, hT, hR, hbel⟩ := hrel
    have HT := Lib.hid hT
    have HR := Lib.hid hR
    have HB := Lib.hid hbel
    clear hT hR hbel
    by_cases hlt : k < 8
    · have hn : stn k 1 < 4294967296 := stn_lt k (by omega)
      obtain ⟨p, hp⟩ : ∃ p, p = 2 ^ (7 - k) := ⟨_, rfl⟩
      obtain ⟨b1, b2, b3⟩ := bit_of k hlt
      rw [← hp] at b1 b2 b3
      have HP := Lib.hid hp
      have H3 := Lib.hid b3
      clear b3 hp
      have HN : Hid (st (stn k 1) = stn (k + 1) 1) := by show _ = _; rw [stn_add k 1]; rfl
      go_wp2_with fail
      refine (halve_any _ _ hn).mono ?_
      rintro e w1 ⟨rfl, rfl⟩
      rw [HN.out, H3.out]
      have hN : stn (k + 1) 1 < 4294967296 := stn_lt (k + 1) (by omega)
      obtain ⟨N, eN⟩ : ∃ N, N = stn (k + 1) 1 := ⟨_, rfl⟩
      have HE := Lib.hid eN
      rw [← eN] at hN ⊢
      clear eN HN H3 hn
      go_wp2_with fail
      obtain ⟨wo, rfl⟩ : ∃ wo : World, wo = wr := ⟨_, rfl⟩
      go_loopw [5] (fun o wx => ∃ j : Nat, j ≤ 256 ∧ o = .int .i64 j ∧ Hid (j % 2 ^ (8 - k) = 0) ∧ Has wx (w.heap.size + 1) 39 (tabA (gT k j)) ∧ Has wx w.heap.size 39 (tabA (fT 0)) ∧ Below w.heap.size w wx) (fun o _ => 256 - (intOf o).toNat)
      case atStart => exact ⟨0, by omega, rfl, Nat.zero_mod _, by rw [gT_start]; exact HT.out, HR.out, HB.out⟩
      case round =>
        obtain ⟨j, hj, rfl, HJ, hT2, hR2, hb2⟩ := hrel
        have HT2 := Lib.hid hT2
        have HR2 := Lib.hid hR2
        have HB2 := Lib.hid hb2
        clear hT2 hR2 hb2
        by_cases hlt2 : j < 256
        · obtain ⟨_, _, c1, c2⟩ := round_of k j hlt HJ.out hlt2
          rw [← HP.out] at c1 c2
          have HC2 := Lib.hid c2
          clear c2
          have hc : wr.cell? ⟨w.heap.size + 1, j, none⟩ = some (.int .u32 (stn 8 j : Nat)) := by rw [HT2.out.cell, tabA_get _ j hlt2, gT_at k j HJ.out]
          have hf := HT2.out.free (j + p)
          have hc2 : wr.cell? ⟨w.heap.size + 1, j + p, none⟩ = some (.int .u32 (gT k j (j + p) : Nat)) := by rw [HT2.out.cell, tabA_get _ _ (by omega)]
          generalize gT k j (j + p) = G at hc2
          have hs8 : stn 8 j < 4294967296 := stn_lt 8 (by omega)
          have HX := Lib.hid (u32_xor_nat (stn 8 j) N hs8 hN)
          generalize hS : stn 8 j = S at *
          have HS := Lib.hid hS
          clear hS
          go_wp2_with fail
          go_roundw
          case rel =>
            refine ⟨j + 2 * p, by omega, by go_num, HC2.out, ?_, ?_, ?_⟩
            · rw [HX.out, HP.out, ← gT_step k j hlt HJ.out, ← HP.out, HS.out, ← HE.out, ← tabA_put]
              exact HT2.out.put (j + p) _
            · exact HR2.out.far (by simp) _
            · exact HB2.out.setCell (by simp) _
          case measure => simp [intOf]; omega
        · obtain rfl : j = 256 := by omega
          go_wp2_with fail
          go_roundw
          case rel => exact ⟨k + 1, by omega, by go_num, by rw [HE.out], by rw [← gT_end k hlt]; exact HT2.out, HR2.out, HB2.out⟩
          case measure => simp [intOf]; omega
    · obtain rfl : k = 8 := by omega
      have hT := HT.out
      rw [fT_end] at hT
      have HT8 := Lib.hid hT
      clear hT HT
      go_wp2_with (first
        | (refine wpList_load_row rfl 39 _ rfl (w.heap.size + 1) rfl 39 (tabA (stn 8)) (0, 0) _ HT8.out Try.underlying39 rfl (by rw [tabA_size]; kernel_rfl) ?_)
        | (refine wpList_store_row rfl 39 _ _ rfl w.heap.size (tabA (stn 8)) rfl rfl 39 (tabA (fT 0)) HR.out (by rw [tabA_size]; kernel_rfl) (by rw [tabA_size, tabA_size]) (tabA_one _) ?_))
      have hb : Below w.heap.size w (wr.setRow w.heap.size (tabA (stn 8))) := below_setRow HB.out (Nat.le_refl _) _
      exact bodyPost_ret (v := .agg (tabA (stn 8))) (results_cell_row Try.results20 _ _ w.heap.size 39 (tabA (stn 8)) (0, 0) _ rfl (setRow_heap wr w.heap.size _ _ 39 (0, 0) HR.out) Try.underlying39 rfl (by rw [tabA_size]; kernel_rfl)) rfl ⟨rfl, hb⟩
end Go.Proofs.Ytbaafbcdhgfpdaa
