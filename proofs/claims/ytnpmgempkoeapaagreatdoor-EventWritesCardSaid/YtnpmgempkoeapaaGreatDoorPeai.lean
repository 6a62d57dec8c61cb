/-
  Put together, as far as it is used: Rkey.
-/
import Derived.Test.YtnpmgempkoeapaaGreatDoorPeac
set_option linter.unusedVariables false
set_option linter.unusedSimpArgs false
set_option linter.defProp false
namespace Go.Proofs.YtnpmgempkoeapaaGreatDoor
open Go.RowKit Dg
def shl (m k : Nat) : Nat := m * 256 ^ k % 18446744073709551616
theorem shl_byte (m k : Nat) (hm : m < 18446744073709551616) (hk : k < 8) : shl m k / 72057594037927936 = m / 2 ^ (8 * (8 - 1 - k)) % 256 := by
 unfold shl
 have e : k = 0 ∨ k = 1 ∨ k = 2 ∨ k = 3 ∨ k = 4 ∨ k = 5 ∨ k = 6 ∨ k = 7 := by omega
 rcases e with rfl | rfl | rfl | rfl | rfl | rfl | rfl | rfl <;> simp <;> omega
theorem shl_next (m k : Nat) : shl m k * 256 % 18446744073709551616 = shl m (k + 1) := by
 unfold shl
 rw [Nat.mod_mul_mod, Nat.pow_succ, Nat.mul_assoc]
theorem shl_lt (m k : Nat) : shl m k < 18446744073709551616 := Nat.mod_lt _ (by omega)
theorem may_kind {k n : Int} {s : ByteArray} (h : mayF k n s = true) : k = 0 ∨ k = 1 ∨ k = 2 ∨ k = 3 ∨ k = 4 := by
 unfold mayF at h
 repeat' split at h
 all_goals first | (simp; omega) | omega | cases h
theorem keyV_one (n : Int) (s : ByteArray) : keyV 1 n s = [1] ++ [(n % 256).toNat] := by
 simp [keyV, hi]
theorem keyV_two (n : Int) (s : ByteArray) : keyV 2 n s = [2] ++ hi (n + 9223372036854775808) 8 8 := rfl
theorem keyV_text3 (n : Int) (s : ByteArray) : keyV 3 n s = [3] ++ (esc (sb s) ++ [0, 1]) := rfl
theorem keyV_text4 (n : Int) (s : ByteArray) : keyV 4 n s = [4] ++ (esc (sb s) ++ [0, 1]) := rfl
set_option maxHeartbeats 8000000 in
set_option maxRecDepth 100000 in
theorem refKey_any (A : Option Addr) (L : List Vl) (n c : Nat) (w : World) (hn : L.length = n) (hl : n ≤ 64) (hA : VRow w A L) (hf : ∀ x ∈ L, x.fit) (hm : ∀ x ∈ L, x.may = true) :
 Calls Tryz.prog 65 #[.slice A n c] w fun x w' => x = .returned (.string (bs (keys L))) ∧ Hid (Below w.heap.size w w') := by
 have HN := Lib.hid hn
 have HA := Lib.hid hA
 have HF := Lib.hid hf
 have HM := Lib.hid hm
 clear hn hA hf hm
 go_enter Tryz.func65, Tryz.ntmps65
 go_wp2_with fail
 go_loopw [3, 4] (fun x i wr => ∃ (k : Nat) (u : Value), k ≤ n ∧ i = .int .i64 k ∧ u = x ∧ Hid (Own w.heap.size wr u (keys (L.take k))) ∧ Hid (Below w.heap.size w wr)) (fun _ i _ => n - (intOf i).toNat)
 case atStart => exact ⟨0, _, by omega, rfl, rfl, own_nil _ _, Below.refl _ _⟩
 case round =>
  obtain ⟨k, u, hk, rfl, rfl, HO, HB⟩ := hrel
  by_cases hlt : k < n
  ·have hkl : k < L.length := by rw [HN.out]; exact hlt
   obtain ⟨b, off, rfl, hc⟩ := (HA.out.below HB.out) (by intro e; rw [e] at hkl; simp at hkl)
   obtain ⟨c0, c1, c2⟩ := hc k hkl
   have hfit := HF.out L[k] (List.getElem_mem hkl)
   have HKS := Lib.hid (keys_succ L k hkl)
   have HLE := Lib.hid (keys_le L k (by omega) (fun x hx => HM.out x (List.mem_of_mem_take hx)))
   have hmay : mayF L[k].k L[k].n L[k].s = true := HM.out L[k] (List.getElem_mem hkl)
   clear hc
   unfold Vl.key at HKS
   generalize L[k] = x at *
   obtain ⟨xk, xn, xs⟩ := x
   obtain ⟨f0, f1, f2⟩ := hfit
   simp only at c0 c1 c2 f0 f1 f2 hmay
   have hsz := may_size hmay
   have hkk := may_kind hmay
   have HMAY := Lib.hid hmay
   clear hmay
   obtain ⟨l, hl2⟩ : ∃ l, keys (L.take k) = l := ⟨_, rfl⟩
   rw [hl2] at HO HKS HLE
   have hll : l.length ≤ 530000 := by have := HLE.out; omega
   clear HLE hl2
   have HW : Hid (Below w.heap.size w (wr.alloc (.cells #[.int .i64 xk, .int .i64 xn, .string xs] 87))) := HB.out.alloc HB.out.size _
   have HH : Hid (Has (wr.alloc (.cells #[.int .i64 xk, .int .i64 xn, .string xs] 87)) wr.heap.size 87 #[.int .i64 xk, .int .i64 xn, .string xs]) := Has.new _ _ _
   have HO0 : Hid (Own w.heap.size (wr.alloc (.cells #[.int .i64 xk, .int .i64 xn, .string xs] 87)) u l) := HO.out.alloc _
   obtain ⟨W1, hW1⟩ : ∃ W1, W1 = wr.alloc (.cells #[.int .i64 xk, .int .i64 xn, .string xs] 87) := ⟨_, rfl⟩
   have hZ : W1.heap.size = wr.heap.size + 1 := by rw [hW1]; simp
   rw [← hW1] at HW HH HO0
   rcases hkk with rfl | rfl | rfl | rfl | rfl
   ·have HA1 := Lib.hid (app_at W1 (wr.heap.size + 1) hZ.symm w.heap.size u l [0] #[.int .u8 0] rfl 1 rfl HO0.out HW.out.size (by omega))
    go_wp2_with (at_builtin; rw [← hW1]; refine wpList_app rfl _ _ 37 37 rfl u (.slice (some ⟨wr.heap.size + 1, 0, none⟩) 1 1) rfl rfl ?_; obtain ⟨R, W', hrun, hmade⟩ := HA1.out; refine ⟨R, W', hrun, ?_⟩; have HM1 := Lib.hid hmade; have hhas := hmade.2.2 _ _ _ (by decide) HH.out; clear hrun hmade HA1; have hc0 := hhas.cell 0; have hc1 := hhas.cell 1; have hc2 := hhas.cell 2; simp at hc0 hc1 hc2; have HH1 := Lib.hid hhas; clear hhas)
    go_roundw
    case rel => exact ⟨k + 1, R, by omega, by go_num, rfl, by rw [HKS.out]; exact HM1.out.1, HW.out.trans HM1.out.2.1⟩
    case measure => simp [intOf]; omega
   ·have HA1 := Lib.hid (app_at W1 (wr.heap.size + 1) hZ.symm w.heap.size u l [1] #[.int .u8 1] rfl 1 rfl HO0.out HW.out.size (by omega))
    go_wp2_with (first
     | (at_builtin; rw [← hW1]; refine wpList_app rfl _ _ 37 37 rfl u (.slice (some ⟨wr.heap.size + 1, 0, none⟩) 1 1) rfl rfl ?_; obtain ⟨R, W', hrun, hmade⟩ := HA1.out; refine ⟨R, W', hrun, ?_⟩; have HM1 := Lib.hid hmade; have hhas := hmade.2.2 _ _ _ (by decide) HH.out; clear hrun hmade HA1; have hc0 := hhas.cell 0; have hc1 := hhas.cell 1; have hc2 := hhas.cell 2; simp at hc0 hc1 hc2; have HH1 := Lib.hid hhas; clear hhas)
     | (at_builtin; refine wpList_app rfl _ _ 37 37 rfl R (.slice (some ⟨W'.heap.size, 0, none⟩) 1 1) rfl rfl ?_; obtain ⟨R2, W2, hrun, hmade⟩ := app_new W' w.heap.size R _ [(xn % 256).toNat] #[.int .u8 (xn % 256)] (by simp [bv]; omega) 1 rfl HM1.out.1 (Nat.le_trans HW.out.size HM1.out.2.1.size) (by simp; omega); refine ⟨R2, W2, hrun, ?_⟩; have HM2 := Lib.hid hmade; clear hrun hmade))
    go_roundw
    case rel => exact ⟨k + 1, R2, by omega, by go_num, rfl, by rw [HKS.out, keyV_one]; have h := HM2.out.1; rw [List.append_assoc] at h; exact h, HW.out.trans (HM1.out.2.1.trans HM2.out.2)⟩
    case measure => simp [intOf]; omega
   ·have HA1 := Lib.hid (app_at W1 (wr.heap.size + 1) hZ.symm w.heap.size u l [2] #[.int .u8 2] rfl 1 rfl HO0.out HW.out.size (by omega))
    go_wp2_with (at_builtin; rw [← hW1]; refine wpList_app rfl _ _ 37 37 rfl u (.slice (some ⟨wr.heap.size + 1, 0, none⟩) 1 1) rfl rfl ?_; obtain ⟨R, W', hrun, hmade⟩ := HA1.out; refine ⟨R, W', hrun, ?_⟩; have HM1 := Lib.hid hmade; have hhas := hmade.2.2 _ _ _ (by decide) HH.out; clear hrun hmade HA1; have hc0 := hhas.cell 0; have hc1 := hhas.cell 1; have hc2 := hhas.cell 2; simp at hc0 hc1 hc2; have HH1 := Lib.hid hhas; clear hhas)
    obtain ⟨wo, rfl⟩ : ∃ wo : World, wo = wr := ⟨_, rfl⟩
    obtain ⟨m, hm⟩ : ∃ m : Nat, (m : Int) = xn + 9223372036854775808 := ⟨(xn + 9223372036854775808).toNat, by omega⟩
    have hm2 : m < 18446744073709551616 := by omega
    have HW2 : IntKind.u64.wrap (IntKind.u64.wrap xn + 9223372036854775808) = ((shl m 0 : Nat) : Int) := by
     unfold shl
     rw [IntKind.wrap_u64, IntKind.wrap_u64]
     omega
    rw [HW2]
    clear HW2
    have HMM := Lib.hid hm
    clear hm
    go_loopw [3, 6, 7] (fun x nn i wr => ∃ (j : Nat) (u2 : Value), j ≤ 8 ∧ i = .int .i64 j ∧ nn = .int .u64 (shl m j : Nat) ∧ u2 = x ∧ Hid (Own w.heap.size wr u2 (l ++ [2] ++ hi (m : Int) 8 j)) ∧ Hid (Below w.heap.size w wr)) (fun _ _ i _ => 8 - (intOf i).toNat)
    case atStart => exact ⟨0, R, by omega, rfl, rfl, rfl, by show Own _ _ _ _; simpa [hi] using HM1.out.1, HW.out.trans HM1.out.2.1⟩
    case round =>
     obtain ⟨j, u2, hj, rfl, rfl, rfl, HO2, HB2⟩ := hrel
     have hsl := shl_lt m j
     have HSN := Lib.hid (shl_next m j)
     by_cases hj8 : j < 8
     ·have HSB := Lib.hid (shl_byte m j hm2 hj8)
      have HHS := Lib.hid (hi_succ (m : Int) 8 j)
      generalize shl m j = N at *
      have HA2 := Lib.hid (app_new wr w.heap.size u2 (l ++ [2] ++ hi (m : Int) 8 j) [m / 2 ^ (8 * (8 - 1 - j)) % 256] #[.int .u8 ((N : Int) / 72057594037927936)] (by rw [← HSB.out]; simp [bv]) 1 rfl HO2.out HB2.out.size (by simp [hi_len]; omega))
      have HSI : Hid ((((m : Nat) : Int) / 2 ^ (8 * (8 - 1 - j)) % 256).toNat = m / 2 ^ (8 * (8 - 1 - j)) % 256) := by
       show _ = _
       rw [show ((m : Int) / 2 ^ (8 * (8 - 1 - j)) % 256) = ((m / 2 ^ (8 * (8 - 1 - j)) % 256 : Nat) : Int) by rw [Int.natCast_emod, Int.natCast_ediv, Int.natCast_pow]; rfl]
       exact Int.toNat_natCast _
      have HNN : Hid ((N : Int) * 256 % 18446744073709551616 = ((shl m (j + 1) : Nat) : Int)) := by show _ = _; rw [← HSN.out]; omega
      clear HSB HSN
      go_wp2_with (at_builtin; refine wpList_app rfl _ _ 37 37 rfl u2 (.slice (some ⟨wr.heap.size, 0, none⟩) 1 1) rfl rfl ?_; obtain ⟨R2, W2, hrun, hmade⟩ := HA2.out; refine ⟨R2, W2, hrun, ?_⟩; have HM2 := Lib.hid hmade; clear hrun hmade HA2)
      go_roundw
      case rel => exact ⟨j + 1, R2, by omega, by go_num, by first | rw [HNN.out] | (rw [← HNN.out, IntKind.wrap_u64]), rfl, by rw [HHS.out, HSI.out, ← List.append_assoc]; exact HM2.out.1, HB2.out.trans HM2.out.2⟩
      case measure => simp [intOf]; omega
     ·obtain rfl : j = 8 := by omega
      go_wp2_with fail
      go_roundw
      case rel => exact ⟨k + 1, u2, by omega, by go_num, rfl, by rw [HKS.out, keyV_two, ← HMM.out, ← List.append_assoc]; exact HO2, HB2⟩
      case measure => simp [intOf]; omega
   ·have HA1 := Lib.hid (app_at W1 (wr.heap.size + 1) hZ.symm w.heap.size u l [3] #[.int .u8 3] rfl 1 rfl HO0.out HW.out.size (by omega))
    go_wp2_with (at_builtin; rw [← hW1]; refine wpList_app rfl _ _ 37 37 rfl u (.slice (some ⟨wr.heap.size + 1, 0, none⟩) 1 1) rfl rfl ?_; obtain ⟨R, W', hrun, hmade⟩ := HA1.out; refine ⟨R, W', hrun, ?_⟩; have HM1 := Lib.hid hmade; have hhas := hmade.2.2 _ _ _ (by decide) HH.out; clear hrun hmade HA1; have hc0 := hhas.cell 0; have hc1 := hhas.cell 1; have hc2 := hhas.cell 2; simp at hc0 hc1 hc2; have HH1 := Lib.hid hhas; clear hhas)
    obtain ⟨wo, rfl⟩ : ∃ wo : World, wo = wr := ⟨_, rfl⟩
    clear hc0 hc1 hc2 hW1
    go_loopw [3, 8] (fun x i wr => ∃ (j : Nat) (u2 : Value), j ≤ xs.size ∧ i = .int .i64 j ∧ u2 = x ∧ Hid (Own w.heap.size wr u2 (l ++ [3] ++ esc ((sb xs).take j))) ∧ Hid (Below w.heap.size w wr) ∧ Hid (Has wr wo.heap.size 87 #[.int .i64 3, .int .i64 xn, .string xs])) (fun _ i _ => xs.size - (intOf i).toNat)
    case atStart => exact ⟨0, R, by omega, rfl, rfl, by show Own _ _ _ _; simpa [esc] using HM1.out.1, HW.out.trans HM1.out.2.1, HH1⟩
    case round =>
     obtain ⟨j, u2, hj, rfl, rfl, HO2, HB2, HH2⟩ := hrel
     have d2 := HH2.out.cell 2
     simp at d2
     have hel : (esc ((sb xs).take j)).length ≤ 2 * j := by
      have := esc_len ((sb xs).take j)
      rw [List.length_take] at this
      omega
     by_cases hjs : j < xs.size
     ·have HS := Lib.hid (sb_take_succ xs j hjs)
      by_cases hz : xs[j].toNat = 0
      ·have HE : Hid (esc ((sb xs).take (j + 1)) = esc ((sb xs).take j) ++ [0] ++ [255]) := by
        show _ = _
        rw [HS.out, esc_append, hz]; simp [esc]
       have hzz : ((xs[j].toNat : Int) == 0) = true := by rw [hz]; rfl
       have HA2 := Lib.hid (app_at wr wr.heap.size rfl w.heap.size u2 (l ++ [3] ++ esc ((sb xs).take j)) [0] #[.int .u8 0] rfl 1 rfl HO2.out HB2.out.size (by simp; omega))
       go_wp2_with (first
        | (at_builtin; refine wpList_app rfl _ _ 37 37 rfl u2 (.slice (some ⟨wr.heap.size, 0, none⟩) 1 1) rfl rfl ?_; obtain ⟨R2, W2, hrun, hmade⟩ := HA2.out; refine ⟨R2, W2, hrun, ?_⟩; have HM2 := Lib.hid hmade; have HH3 := Lib.hid (hmade.2.2 _ _ _ (by decide) HH2.out); have e2 := HH3.out.cell 2; simp at e2; clear hrun hmade HA2)
        | (at_builtin; refine wpList_app rfl _ _ 37 37 rfl R2 (.slice (some ⟨W2.heap.size, 0, none⟩) 1 1) rfl rfl ?_; obtain ⟨R3, W3, hrun, hmade⟩ := app_at W2 W2.heap.size rfl w.heap.size R2 _ [255] #[.int .u8 255] rfl 1 rfl HM2.out.1 (Nat.le_trans HB2.out.size HM2.out.2.1.size) (by simp; omega); refine ⟨R3, W3, hrun, ?_⟩; have HM3 := Lib.hid hmade; clear hrun hmade))
       go_roundw
       case rel => exact ⟨j + 1, R3, by omega, by go_num, rfl, by rw [HE.out, ← List.append_assoc, ← List.append_assoc]; exact HM3.out.1, HB2.out.trans (HM2.out.2.1.trans HM3.out.2.1), HM3.out.2.2 _ _ _ (by decide) HH3.out⟩
       case measure => simp [intOf]; omega
      ·have HE : Hid (esc ((sb xs).take (j + 1)) = esc ((sb xs).take j) ++ [xs[j].toNat]) := by
        show _ = _
        rw [HS.out, esc_append]; simp [esc, hz]
       have hzz : ((xs[j].toNat : Int) == 0) = false := by simp; omega
       have HA2 := Lib.hid (app_at wr wr.heap.size rfl w.heap.size u2 (l ++ [3] ++ esc ((sb xs).take j)) [xs[j].toNat] #[.int .u8 xs[j].toNat] (by simp [bv]) 1 rfl HO2.out HB2.out.size (by simp; omega))
       go_wp2_with (at_builtin; refine wpList_app rfl _ _ 37 37 rfl u2 (.slice (some ⟨wr.heap.size, 0, none⟩) 1 1) rfl rfl ?_; obtain ⟨R2, W2, hrun, hmade⟩ := HA2.out; refine ⟨R2, W2, hrun, ?_⟩; have HM2 := Lib.hid hmade; have HH3 := Lib.hid (hmade.2.2 _ _ _ (by decide) HH2.out); have e2 := HH3.out.cell 2; simp at e2; clear hrun hmade HA2)
       go_roundw
       case rel => exact ⟨j + 1, R2, by omega, by go_num, rfl, by rw [HE.out, ← List.append_assoc]; exact HM2.out.1, HB2.out.trans HM2.out.2.1, HH3⟩
       case measure => simp [intOf]; omega
     ·obtain rfl : j = xs.size := by omega
      have HT : Hid ((sb xs).take xs.size = sb xs) := List.take_of_length_le (by rw [sb_length]; exact Nat.le_refl _)
      have HA2 := Lib.hid (app_at wr wr.heap.size rfl w.heap.size u2 (l ++ [3] ++ esc ((sb xs).take xs.size)) [0, 1] #[.int .u8 0, .int .u8 1] rfl 2 rfl HO2.out HB2.out.size (by simp; omega))
      go_wp2_with (at_builtin; refine wpList_app rfl _ _ 37 37 rfl u2 (.slice (some ⟨wr.heap.size, 0, none⟩) 2 2) rfl rfl ?_; obtain ⟨R2, W2, hrun, hmade⟩ := HA2.out; refine ⟨R2, W2, hrun, ?_⟩; have HM2 := Lib.hid hmade; clear hrun hmade HA2)
      go_roundw
      case rel => exact ⟨k + 1, R2, by omega, by go_num, rfl, by rw [HKS.out, keyV_text3]; have h := HM2.out.1; rw [HT.out, List.append_assoc, List.append_assoc] at h; exact h, HB2.out.trans HM2.out.2.1⟩
      case measure => simp [intOf]; omega
   ·have HA1 := Lib.hid (app_at W1 (wr.heap.size + 1) hZ.symm w.heap.size u l [4] #[.int .u8 4] rfl 1 rfl HO0.out HW.out.size (by omega))
    go_wp2_with (at_builtin; rw [← hW1]; refine wpList_app rfl _ _ 37 37 rfl u (.slice (some ⟨wr.heap.size + 1, 0, none⟩) 1 1) rfl rfl ?_; obtain ⟨R, W', hrun, hmade⟩ := HA1.out; refine ⟨R, W', hrun, ?_⟩; have HM1 := Lib.hid hmade; have hhas := hmade.2.2 _ _ _ (by decide) HH.out; clear hrun hmade HA1; have hc0 := hhas.cell 0; have hc1 := hhas.cell 1; have hc2 := hhas.cell 2; simp at hc0 hc1 hc2; have HH1 := Lib.hid hhas; clear hhas)
    obtain ⟨wo, rfl⟩ : ∃ wo : World, wo = wr := ⟨_, rfl⟩
    clear hc0 hc1 hc2 hW1
    go_loopw [3, 8] (fun x i wr => ∃ (j : Nat) (u2 : Value), j ≤ xs.size ∧ i = .int .i64 j ∧ u2 = x ∧ Hid (Own w.heap.size wr u2 (l ++ [4] ++ esc ((sb xs).take j))) ∧ Hid (Below w.heap.size w wr) ∧ Hid (Has wr wo.heap.size 87 #[.int .i64 4, .int .i64 xn, .string xs])) (fun _ i _ => xs.size - (intOf i).toNat)
    case atStart => exact ⟨0, R, by omega, rfl, rfl, by show Own _ _ _ _; simpa [esc] using HM1.out.1, HW.out.trans HM1.out.2.1, HH1⟩
    case round =>
     obtain ⟨j, u2, hj, rfl, rfl, HO2, HB2, HH2⟩ := hrel
     have d2 := HH2.out.cell 2
     simp at d2
     have hel : (esc ((sb xs).take j)).length ≤ 2 * j := by
      have := esc_len ((sb xs).take j)
      rw [List.length_take] at this
      omega
     by_cases hjs : j < xs.size
     ·have HS := Lib.hid (sb_take_succ xs j hjs)
      by_cases hz : xs[j].toNat = 0
      ·have HE : Hid (esc ((sb xs).take (j + 1)) = esc ((sb xs).take j) ++ [0] ++ [255]) := by
        show _ = _
        rw [HS.out, esc_append, hz]; simp [esc]
       have hzz : ((xs[j].toNat : Int) == 0) = true := by rw [hz]; rfl
       have HA2 := Lib.hid (app_at wr wr.heap.size rfl w.heap.size u2 (l ++ [4] ++ esc ((sb xs).take j)) [0] #[.int .u8 0] rfl 1 rfl HO2.out HB2.out.size (by simp; omega))
       go_wp2_with (first
        | (at_builtin; refine wpList_app rfl _ _ 37 37 rfl u2 (.slice (some ⟨wr.heap.size, 0, none⟩) 1 1) rfl rfl ?_; obtain ⟨R2, W2, hrun, hmade⟩ := HA2.out; refine ⟨R2, W2, hrun, ?_⟩; have HM2 := Lib.hid hmade; have HH3 := Lib.hid (hmade.2.2 _ _ _ (by decide) HH2.out); have e2 := HH3.out.cell 2; simp at e2; clear hrun hmade HA2)
        | (at_builtin; refine wpList_app rfl _ _ 37 37 rfl R2 (.slice (some ⟨W2.heap.size, 0, none⟩) 1 1) rfl rfl ?_; obtain ⟨R3, W3, hrun, hmade⟩ := app_at W2 W2.heap.size rfl w.heap.size R2 _ [255] #[.int .u8 255] rfl 1 rfl HM2.out.1 (Nat.le_trans HB2.out.size HM2.out.2.1.size) (by simp; omega); refine ⟨R3, W3, hrun, ?_⟩; have HM3 := Lib.hid hmade; clear hrun hmade))
       go_roundw
       case rel => exact ⟨j + 1, R3, by omega, by go_num, rfl, by rw [HE.out, ← List.append_assoc, ← List.append_assoc]; exact HM3.out.1, HB2.out.trans (HM2.out.2.1.trans HM3.out.2.1), HM3.out.2.2 _ _ _ (by decide) HH3.out⟩
       case measure => simp [intOf]; omega
      ·have HE : Hid (esc ((sb xs).take (j + 1)) = esc ((sb xs).take j) ++ [xs[j].toNat]) := by
        show _ = _
        rw [HS.out, esc_append]; simp [esc, hz]
       have hzz : ((xs[j].toNat : Int) == 0) = false := by simp; omega
       have HA2 := Lib.hid (app_at wr wr.heap.size rfl w.heap.size u2 (l ++ [4] ++ esc ((sb xs).take j)) [xs[j].toNat] #[.int .u8 xs[j].toNat] (by simp [bv]) 1 rfl HO2.out HB2.out.size (by simp; omega))
       go_wp2_with (at_builtin; refine wpList_app rfl _ _ 37 37 rfl u2 (.slice (some ⟨wr.heap.size, 0, none⟩) 1 1) rfl rfl ?_; obtain ⟨R2, W2, hrun, hmade⟩ := HA2.out; refine ⟨R2, W2, hrun, ?_⟩; have HM2 := Lib.hid hmade; have HH3 := Lib.hid (hmade.2.2 _ _ _ (by decide) HH2.out); have e2 := HH3.out.cell 2; simp at e2; clear hrun hmade HA2)
       go_roundw
       case rel => exact ⟨j + 1, R2, by omega, by go_num, rfl, by rw [HE.out, ← List.append_assoc]; exact HM2.out.1, HB2.out.trans HM2.out.2.1, HH3⟩
       case measure => simp [intOf]; omega
     ·obtain rfl : j = xs.size := by omega
      have HT : Hid ((sb xs).take xs.size = sb xs) := List.take_of_length_le (by rw [sb_length]; exact Nat.le_refl _)
      have HA2 := Lib.hid (app_at wr wr.heap.size rfl w.heap.size u2 (l ++ [4] ++ esc ((sb xs).take xs.size)) [0, 1] #[.int .u8 0, .int .u8 1] rfl 2 rfl HO2.out HB2.out.size (by simp; omega))
      go_wp2_with (at_builtin; refine wpList_app rfl _ _ 37 37 rfl u2 (.slice (some ⟨wr.heap.size, 0, none⟩) 2 2) rfl rfl ?_; obtain ⟨R2, W2, hrun, hmade⟩ := HA2.out; refine ⟨R2, W2, hrun, ?_⟩; have HM2 := Lib.hid hmade; clear hrun hmade HA2)
      go_roundw
      case rel => exact ⟨k + 1, R2, by omega, by go_num, rfl, by rw [HKS.out, keyV_text4]; have h := HM2.out.1; rw [HT.out, List.append_assoc, List.append_assoc] at h; exact h, HB2.out.trans HM2.out.2.1⟩
      case measure => simp [intOf]; omega
  ·obtain rfl : k = n := by omega
   have HT : Hid (L.take k = L) := List.take_of_length_le (by rw [HN.out]; exact Nat.le_refl _)
   obtain ⟨A1, n1, c1, rfl, HL1, hconv⟩ := own_conv HO.out
   rw [HT.out] at hconv
   go_wp2_with fail
   go_ret
   exact ⟨rfl, HB⟩
end Go.Proofs.YtnpmgempkoeapaaGreatDoor
