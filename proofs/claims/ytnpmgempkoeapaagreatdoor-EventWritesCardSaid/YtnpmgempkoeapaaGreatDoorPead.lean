/-
  Put together, as far as it is used: Rutf.
-/
import Derived.Test.YtnpmgempkoeapaaGreatDoorPeab
import Derived.Test.YtnpmgempkoeapaaGreatDoorPeac
set_option linter.unusedVariables false
set_option linter.unusedSimpArgs false
set_option linter.defProp false
namespace Go.Proofs.YtnpmgempkoeapaaGreatDoor
open Go.RowKit Dg Uf
theorem bt_at (s : ByteArray) (k j : Nat) (h : k + j < s.size) : bt (s.data.toList.drop k) j = (s[k + j]'h).toNat := by
 unfold bt
 rw [List.getD_eq_getElem?_getD, List.getElem?_drop]
 have : s.data.toList[k + j]? = some (s[k + j]'h) := by
  rw [Array.getElem?_toList]
  exact Array.getElem?_eq_getElem (by simpa using h)
 rw [this]; rfl
theorem drop_len (s : ByteArray) (k : Nat) : (s.data.toList.drop k).length = s.size - k := by
 rw [List.length_drop]; rfl
set_option maxHeartbeats 4000000 in
set_option maxRecDepth 100000 in
theorem refUtf8_any (s : ByteArray) (w : World) (hs : s.size ≤ 140737488355328) :
 Calls Tryz.prog 84 #[.string s] w fun e w' => e = .returned (.bool (Lib.validD s.data.toList)) ∧ w = w' := by
 obtain ⟨ANS, hA⟩ : ∃ ANS, Lib.validD s.data.toList = ANS := ⟨_, rfl⟩
 rw [hA]
 go_enter Tryz.func84, Tryz.ntmps84
 go_wp2_with fail
 go_loop [3] (fun i => ∃ k : Nat, k ≤ s.size ∧ i = .int .i64 k ∧ Hid (Lib.validD (s.data.toList.drop k) = ANS)) (fun i => s.size - (intOf i).toNat)
 case atStart => exact ⟨0, by omega, rfl, hA⟩
 case round =>
  obtain ⟨k, hk, rfl, HE⟩ := hrel
  clear hA
  by_cases hlt : k < s.size
  ·have hb := s[k].toNat_lt
   have HB0 : Hid (bt (s.data.toList.drop k) 0 = s[k].toNat) := bt_at s k 0 hlt
   have HL : Hid ((s.data.toList.drop k).length = s.size - k) := drop_len s k
   by_cases h128 : s[k].toNat < 128
   ·have HN : Hid (Lib.validD (s.data.toList.drop (k + 1)) = ANS) := by
     show _ = _
     rw [← HE.out, valid_one (s.data.toList.drop k) (by intro h; have := HL.out; rw [h] at this; simp at this; omega) (by rw [HB0.out]; exact h128), List.drop_drop]
    clear HE HB0 HL
    go_wp2_with fail
    go_round
    case rel => exact ⟨k + 1, by omega, by go_num, HN⟩
    case measure => simp [intOf]; omega
   by_cases hbad : s[k].toNat < 192
   ·have HN : Hid (ANS = false) := by
     show _ = _
     rw [← HE.out, valid_bad (s.data.toList.drop k) (by rw [HB0.out]; omega) (by rw [HB0.out]; omega)]
    clear HE HB0 HL
    go_wp2_with fail
    go_ret
    exact ⟨by rw [HN.out]; rfl, rfl⟩
   by_cases hbad : 248 ≤ s[k].toNat
   ·have HN : Hid (ANS = false) := by
     show _ = _
     rw [← HE.out, valid_bad (s.data.toList.drop k) (by rw [HB0.out]; omega) (by rw [HB0.out]; omega)]
    clear HE HB0 HL
    go_wp2_with fail
    go_ret
    exact ⟨by rw [HN.out]; rfl, rfl⟩
   by_cases h2 : s[k].toNat < 224
   ·by_cases hl2 : k + 2 ≤ s.size
    ·have hk1 : k < 140737488355328 := by omega
     go_wp2_with fail
     go_loop [7, 8] (fun v i => ∃ j V : Nat, 1 ≤ j ∧ j ≤ 2 ∧ i = .int .i64 j ∧ v = .int .i64 V ∧ V < 64 ^ j ∧ Hid (V = vw 192 (s.data.toList.drop k) j) ∧ Hid (∀ t, 1 ≤ t → t < j → Co (bt (s.data.toList.drop k) t))) (fun _ i => 2 - (intOf i).toNat)
     case atStart =>
      refine ⟨1, s[k].toNat - 192, by omega, by omega, rfl, ?_, by omega, ?_, fun t h1 h2 => by omega⟩
      ·congr 1; omega
      ·show _ = bt (s.data.toList.drop k) 0 - 192
       rw [HB0.out]
     case round =>
      obtain ⟨j, V, hj1, hj, rfl, rfl, hV, HV, HC⟩ := hrel
      have hp : 64 ^ j ≤ 16777216 := by
       have : j = 1 ∨ j = 2 ∨ j = 3 ∨ j = 4 := by omega
       rcases this with rfl | rfl | rfl | rfl <;> omega
      by_cases hjn : j < 2
      ·have hkj : k + j < s.size := by omega
       have hbj := s[k + j].toNat_lt
       have HBJ : Hid (bt (s.data.toList.drop k) j = s[k + j].toNat) := bt_at s k j hkj
       by_cases hlo : s[k + j].toNat < 128
       ·have HN : Hid (ANS = false) := by
         show _ = _
         rcases valid_two (s.data.toList.drop k) (by rw [HB0.out]; omega) (by rw [HB0.out]; omega) with h | h
         ·exfalso
          have hco : ∀ t, 1 ≤ t → t < 2 → Co (bt (s.data.toList.drop k) t) := (fun t h1 h2 => by have ht : t = 1 := (by omega); subst ht; exact h.2.1)
          have := (hco j hj1 hjn).1; rw [HBJ.out] at this; omega
         ·rw [← HE.out]; exact h.2
        clear HE HB0 HL HV HC HBJ hp hV
        go_wp2_with fail
        go_ret
        exact ⟨by rw [HN.out]; rfl, rfl⟩
       by_cases hhi : 192 ≤ s[k + j].toNat
       ·have HN : Hid (ANS = false) := by
         show _ = _
         rcases valid_two (s.data.toList.drop k) (by rw [HB0.out]; omega) (by rw [HB0.out]; omega) with h | h
         ·exfalso
          have hco : ∀ t, 1 ≤ t → t < 2 → Co (bt (s.data.toList.drop k) t) := (fun t h1 h2 => by have ht : t = 1 := (by omega); subst ht; exact h.2.1)
          have := (hco j hj1 hjn).2; rw [HBJ.out] at this; omega
         ·rw [← HE.out]; exact h.2
        clear HE HB0 HL HV HC HBJ hp hV
        go_wp2_with fail
        go_ret
        exact ⟨by rw [HN.out]; rfl, rfl⟩
       ·have hVV : V ≤ 16777216 := by omega
        have HV2 : Hid (64 * V + s[k + j].toNat - 128 = vw 192 (s.data.toList.drop k) (j + 1)) := by
         show _ = _; rw [vw_next _ _ _ hj1, ← HV.out, HBJ.out]
        have HC2 : Hid (∀ t, 1 ≤ t → t < j + 1 → Co (bt (s.data.toList.drop k) t)) := fun t h1 h2 => by
         by_cases e : t = j
         ·subst e; rw [HBJ.out]; exact ⟨by omega, by omega⟩
         ·exact HC.out t h1 (by omega)
        have hV64 : 64 * V + s[k + j].toNat - 128 < 64 ^ (j + 1) := by rw [Nat.pow_succ]; omega
        clear hp
        go_wp2_with fail
        go_round
        case rel => exact ⟨j + 1, 64 * V + s[k + j].toNat - 128, by omega, by omega, by go_num, by congr 1; omega, hV64, HV2, HC2⟩
        case measure => simp [intOf]; omega
      ·obtain rfl : j = 2 := by omega
       have hVV : V ≤ 16777216 := by omega
       have hV0 : V ≤ 1114111 := by omega
       by_cases b1 : V < 128
       ·have HN : Hid (ANS = false) := by
         show _ = _
         rcases valid_two (s.data.toList.drop k) (by rw [HB0.out]; omega) (by rw [HB0.out]; omega) with h | h
         ·exfalso; have := h.2.2.1; rw [← vw_two, ← HV.out] at this; omega
         ·rw [← HE.out]; exact h.2
        clear HE HB0 HL HV HC hp hV
        go_wp2_with fail
        go_ret
        exact ⟨by rw [HN.out]; rfl, rfl⟩
       ·have HN : Hid (Lib.validD (s.data.toList.drop (k + 2)) = ANS) := by
         show _ = _
         rcases valid_two (s.data.toList.drop k) (by rw [HB0.out]; omega) (by rw [HB0.out]; omega) with h | h
         ·rw [← HE.out, h.2.2.2, List.drop_drop]
         ·exfalso; apply h.1; refine ⟨by rw [HL.out]; omega, HC.out 1 (by omega) (by omega), ?_⟩; rw [← vw_two, ← HV.out]; omega
        have hV3 : V < 55296 := by omega
        clear HE HB0 HL HV HC hp hV
        go_wp2_with fail
        go_round
        case rel => exact ⟨k + 2, by omega, by go_num, HN⟩
        case measure => simp [intOf]; omega
    ·have HN : Hid (ANS = false) := by
      show _ = _
      rcases valid_two (s.data.toList.drop k) (by rw [HB0.out]; omega) (by rw [HB0.out]; omega) with h | h
      ·have := h.1; rw [HL.out] at this; omega
      ·rw [← HE.out]; exact h.2
     clear HE HB0 HL
     go_wp2_with fail
     go_ret
     exact ⟨by rw [HN.out]; rfl, rfl⟩
   by_cases h3 : s[k].toNat < 240
   ·by_cases hl2 : k + 3 ≤ s.size
    ·have hk1 : k < 140737488355328 := by omega
     go_wp2_with fail
     go_loop [7, 8] (fun v i => ∃ j V : Nat, 1 ≤ j ∧ j ≤ 3 ∧ i = .int .i64 j ∧ v = .int .i64 V ∧ V < 64 ^ j ∧ Hid (V = vw 224 (s.data.toList.drop k) j) ∧ Hid (∀ t, 1 ≤ t → t < j → Co (bt (s.data.toList.drop k) t))) (fun _ i => 3 - (intOf i).toNat)
     case atStart =>
      refine ⟨1, s[k].toNat - 224, by omega, by omega, rfl, ?_, by omega, ?_, fun t h1 h2 => by omega⟩
      ·congr 1; omega
      ·show _ = bt (s.data.toList.drop k) 0 - 224
       rw [HB0.out]
     case round =>
      obtain ⟨j, V, hj1, hj, rfl, rfl, hV, HV, HC⟩ := hrel
      have hp : 64 ^ j ≤ 16777216 := by
       have : j = 1 ∨ j = 2 ∨ j = 3 ∨ j = 4 := by omega
       rcases this with rfl | rfl | rfl | rfl <;> omega
      by_cases hjn : j < 3
      ·have hkj : k + j < s.size := by omega
       have hbj := s[k + j].toNat_lt
       have HBJ : Hid (bt (s.data.toList.drop k) j = s[k + j].toNat) := bt_at s k j hkj
       by_cases hlo : s[k + j].toNat < 128
       ·have HN : Hid (ANS = false) := by
         show _ = _
         rcases valid_three (s.data.toList.drop k) (by rw [HB0.out]; omega) (by rw [HB0.out]; omega) _ rfl with h | h
         ·exfalso
          have hco : ∀ t, 1 ≤ t → t < 3 → Co (bt (s.data.toList.drop k) t) := (fun t h1 h2 => by have ht : t = 1 ∨ t = 2 := (by omega); rcases ht with rfl | rfl <;> first | exact h.2.1 | exact h.2.2.1)
          have := (hco j hj1 hjn).1; rw [HBJ.out] at this; omega
         ·rw [← HE.out]; exact h.2
        clear HE HB0 HL HV HC HBJ hp hV
        go_wp2_with fail
        go_ret
        exact ⟨by rw [HN.out]; rfl, rfl⟩
       by_cases hhi : 192 ≤ s[k + j].toNat
       ·have HN : Hid (ANS = false) := by
         show _ = _
         rcases valid_three (s.data.toList.drop k) (by rw [HB0.out]; omega) (by rw [HB0.out]; omega) _ rfl with h | h
         ·exfalso
          have hco : ∀ t, 1 ≤ t → t < 3 → Co (bt (s.data.toList.drop k) t) := (fun t h1 h2 => by have ht : t = 1 ∨ t = 2 := (by omega); rcases ht with rfl | rfl <;> first | exact h.2.1 | exact h.2.2.1)
          have := (hco j hj1 hjn).2; rw [HBJ.out] at this; omega
         ·rw [← HE.out]; exact h.2
        clear HE HB0 HL HV HC HBJ hp hV
        go_wp2_with fail
        go_ret
        exact ⟨by rw [HN.out]; rfl, rfl⟩
       ·have hVV : V ≤ 16777216 := by omega
        have HV2 : Hid (64 * V + s[k + j].toNat - 128 = vw 224 (s.data.toList.drop k) (j + 1)) := by
         show _ = _; rw [vw_next _ _ _ hj1, ← HV.out, HBJ.out]
        have HC2 : Hid (∀ t, 1 ≤ t → t < j + 1 → Co (bt (s.data.toList.drop k) t)) := fun t h1 h2 => by
         by_cases e : t = j
         ·subst e; rw [HBJ.out]; exact ⟨by omega, by omega⟩
         ·exact HC.out t h1 (by omega)
        have hV64 : 64 * V + s[k + j].toNat - 128 < 64 ^ (j + 1) := by rw [Nat.pow_succ]; omega
        clear hp
        go_wp2_with fail
        go_round
        case rel => exact ⟨j + 1, 64 * V + s[k + j].toNat - 128, by omega, by omega, by go_num, by congr 1; omega, hV64, HV2, HC2⟩
        case measure => simp [intOf]; omega
      ·obtain rfl : j = 3 := by omega
       have hVV : V ≤ 16777216 := by omega
       have hV0 : V ≤ 1114111 := by omega
       by_cases b1 : V < 2048
       ·have HN : Hid (ANS = false) := by
         show _ = _
         rcases valid_three (s.data.toList.drop k) (by rw [HB0.out]; omega) (by rw [HB0.out]; omega) _ rfl with h | h
         ·exfalso; have := h.2.2.2.1; rw [← vw_three, ← HV.out] at this; omega
         ·rw [← HE.out]; exact h.2
        clear HE HB0 HL HV HC hp hV
        go_wp2_with fail
        go_ret
        exact ⟨by rw [HN.out]; rfl, rfl⟩
       by_cases b2 : V < 55296
       ·have HN : Hid (Lib.validD (s.data.toList.drop (k + 3)) = ANS) := by
         show _ = _
         rcases valid_three (s.data.toList.drop k) (by rw [HB0.out]; omega) (by rw [HB0.out]; omega) _ rfl with h | h
         ·rw [← HE.out, h.2.2.2.2.2, List.drop_drop]
         ·exfalso; apply h.1; refine ⟨by rw [HL.out]; omega, HC.out 1 (by omega) (by omega), HC.out 2 (by omega) (by omega), ?_, ?_⟩ <;> rw [← vw_three, ← HV.out] <;> omega
        clear HE HB0 HL HV HC hp hV
        go_wp2_with fail
        go_round
        case rel => exact ⟨k + 3, by omega, by go_num, HN⟩
        case measure => simp [intOf]; omega
       by_cases b3 : V ≤ 57343
       ·have HN : Hid (ANS = false) := by
         show _ = _
         rcases valid_three (s.data.toList.drop k) (by rw [HB0.out]; omega) (by rw [HB0.out]; omega) _ rfl with h | h
         ·exfalso; have := h.2.2.2.2.1; rw [← vw_three, ← HV.out] at this; omega
         ·rw [← HE.out]; exact h.2
        clear HE HB0 HL HV HC hp hV
        go_wp2_with fail
        go_ret
        exact ⟨by rw [HN.out]; rfl, rfl⟩
       ·have HN : Hid (Lib.validD (s.data.toList.drop (k + 3)) = ANS) := by
         show _ = _
         rcases valid_three (s.data.toList.drop k) (by rw [HB0.out]; omega) (by rw [HB0.out]; omega) _ rfl with h | h
         ·rw [← HE.out, h.2.2.2.2.2, List.drop_drop]
         ·exfalso; apply h.1; refine ⟨by rw [HL.out]; omega, HC.out 1 (by omega) (by omega), HC.out 2 (by omega) (by omega), ?_, ?_⟩ <;> rw [← vw_three, ← HV.out] <;> omega
        clear HE HB0 HL HV HC hp hV
        go_wp2_with fail
        go_round
        case rel => exact ⟨k + 3, by omega, by go_num, HN⟩
        case measure => simp [intOf]; omega
    ·have HN : Hid (ANS = false) := by
      show _ = _
      rcases valid_three (s.data.toList.drop k) (by rw [HB0.out]; omega) (by rw [HB0.out]; omega) _ rfl with h | h
      ·have := h.1; rw [HL.out] at this; omega
      ·rw [← HE.out]; exact h.2
     clear HE HB0 HL
     go_wp2_with fail
     go_ret
     exact ⟨by rw [HN.out]; rfl, rfl⟩
   ·by_cases hl2 : k + 4 ≤ s.size
    ·have hk1 : k < 140737488355328 := by omega
     go_wp2_with fail
     go_loop [7, 8] (fun v i => ∃ j V : Nat, 1 ≤ j ∧ j ≤ 4 ∧ i = .int .i64 j ∧ v = .int .i64 V ∧ V < 64 ^ j ∧ Hid (V = vw 240 (s.data.toList.drop k) j) ∧ Hid (∀ t, 1 ≤ t → t < j → Co (bt (s.data.toList.drop k) t))) (fun _ i => 4 - (intOf i).toNat)
     case atStart =>
      refine ⟨1, s[k].toNat - 240, by omega, by omega, rfl, ?_, by omega, ?_, fun t h1 h2 => by omega⟩
      ·congr 1; omega
      ·show _ = bt (s.data.toList.drop k) 0 - 240
       rw [HB0.out]
     case round =>
      obtain ⟨j, V, hj1, hj, rfl, rfl, hV, HV, HC⟩ := hrel
      have hp : 64 ^ j ≤ 16777216 := by
       have : j = 1 ∨ j = 2 ∨ j = 3 ∨ j = 4 := by omega
       rcases this with rfl | rfl | rfl | rfl <;> omega
      by_cases hjn : j < 4
      ·have hkj : k + j < s.size := by omega
       have hbj := s[k + j].toNat_lt
       have HBJ : Hid (bt (s.data.toList.drop k) j = s[k + j].toNat) := bt_at s k j hkj
       by_cases hlo : s[k + j].toNat < 128
       ·have HN : Hid (ANS = false) := by
         show _ = _
         rcases valid_four (s.data.toList.drop k) (by rw [HB0.out]; omega) (by rw [HB0.out]; omega) _ rfl with h | h
         ·exfalso
          have hco : ∀ t, 1 ≤ t → t < 4 → Co (bt (s.data.toList.drop k) t) := (fun t h1 h2 => by have ht : t = 1 ∨ t = 2 ∨ t = 3 := (by omega); rcases ht with rfl | rfl | rfl <;> first | exact h.2.1 | exact h.2.2.1 | exact h.2.2.2.1)
          have := (hco j hj1 hjn).1; rw [HBJ.out] at this; omega
         ·rw [← HE.out]; exact h.2
        clear HE HB0 HL HV HC HBJ hp hV
        go_wp2_with fail
        go_ret
        exact ⟨by rw [HN.out]; rfl, rfl⟩
       by_cases hhi : 192 ≤ s[k + j].toNat
       ·have HN : Hid (ANS = false) := by
         show _ = _
         rcases valid_four (s.data.toList.drop k) (by rw [HB0.out]; omega) (by rw [HB0.out]; omega) _ rfl with h | h
         ·exfalso
          have hco : ∀ t, 1 ≤ t → t < 4 → Co (bt (s.data.toList.drop k) t) := (fun t h1 h2 => by have ht : t = 1 ∨ t = 2 ∨ t = 3 := (by omega); rcases ht with rfl | rfl | rfl <;> first | exact h.2.1 | exact h.2.2.1 | exact h.2.2.2.1)
          have := (hco j hj1 hjn).2; rw [HBJ.out] at this; omega
         ·rw [← HE.out]; exact h.2
        clear HE HB0 HL HV HC HBJ hp hV
        go_wp2_with fail
        go_ret
        exact ⟨by rw [HN.out]; rfl, rfl⟩
       ·have hVV : V ≤ 16777216 := by omega
        have HV2 : Hid (64 * V + s[k + j].toNat - 128 = vw 240 (s.data.toList.drop k) (j + 1)) := by
         show _ = _; rw [vw_next _ _ _ hj1, ← HV.out, HBJ.out]
        have HC2 : Hid (∀ t, 1 ≤ t → t < j + 1 → Co (bt (s.data.toList.drop k) t)) := fun t h1 h2 => by
         by_cases e : t = j
         ·subst e; rw [HBJ.out]; exact ⟨by omega, by omega⟩
         ·exact HC.out t h1 (by omega)
        have hV64 : 64 * V + s[k + j].toNat - 128 < 64 ^ (j + 1) := by rw [Nat.pow_succ]; omega
        clear hp
        go_wp2_with fail
        go_round
        case rel => exact ⟨j + 1, 64 * V + s[k + j].toNat - 128, by omega, by omega, by go_num, by congr 1; omega, hV64, HV2, HC2⟩
        case measure => simp [intOf]; omega
      ·obtain rfl : j = 4 := by omega
       have hVV : V ≤ 16777216 := by omega
       by_cases b1 : V < 65536
       ·have HN : Hid (ANS = false) := by
         show _ = _
         rcases valid_four (s.data.toList.drop k) (by rw [HB0.out]; omega) (by rw [HB0.out]; omega) _ rfl with h | h
         ·exfalso; have := h.2.2.2.2.1; rw [← vw_four, ← HV.out] at this; omega
         ·rw [← HE.out]; exact h.2
        clear HE HB0 HL HV HC hp hV
        go_wp2_with fail
        go_ret
        exact ⟨by rw [HN.out]; rfl, rfl⟩
       by_cases b2 : 1114111 < V
       ·have HN : Hid (ANS = false) := by
         show _ = _
         rcases valid_four (s.data.toList.drop k) (by rw [HB0.out]; omega) (by rw [HB0.out]; omega) _ rfl with h | h
         ·exfalso; have := h.2.2.2.2.2.1; rw [← vw_four, ← HV.out] at this; omega
         ·rw [← HE.out]; exact h.2
        clear HE HB0 HL HV HC hp hV
        go_wp2_with fail
        go_ret
        exact ⟨by rw [HN.out]; rfl, rfl⟩
       ·have HN : Hid (Lib.validD (s.data.toList.drop (k + 4)) = ANS) := by
         show _ = _
         rcases valid_four (s.data.toList.drop k) (by rw [HB0.out]; omega) (by rw [HB0.out]; omega) _ rfl with h | h
         ·rw [← HE.out, h.2.2.2.2.2.2, List.drop_drop]
         ·exfalso; apply h.1; refine ⟨by rw [HL.out]; omega, HC.out 1 (by omega) (by omega), HC.out 2 (by omega) (by omega), HC.out 3 (by omega) (by omega), ?_, ?_⟩ <;> rw [← vw_four, ← HV.out] <;> omega
        have b3 : ¬ V ≤ 57343 := by omega
        clear HE HB0 HL HV HC hp hV
        go_wp2_with fail
        go_round
        case rel => exact ⟨k + 4, by omega, by go_num, HN⟩
        case measure => simp [intOf]; omega
    ·have HN : Hid (ANS = false) := by
      show _ = _
      rcases valid_four (s.data.toList.drop k) (by rw [HB0.out]; omega) (by rw [HB0.out]; omega) _ rfl with h | h
      ·have := h.1; rw [HL.out] at this; omega
      ·rw [← HE.out]; exact h.2
     clear HE HB0 HL
     go_wp2_with fail
     go_ret
     exact ⟨by rw [HN.out]; rfl, rfl⟩
  ·obtain rfl : k = s.size := by omega
   have HN : Hid (ANS = true) := by
    show _ = _
    rw [← HE.out, show s.data.toList.drop s.size = [] from List.drop_eq_nil_of_le (Nat.le_refl _)]; rfl
   go_wp2_with fail
   go_ret
   exact ⟨by rw [HN.out]; rfl, rfl⟩
end Go.Proofs.YtnpmgempkoeapaaGreatDoor
