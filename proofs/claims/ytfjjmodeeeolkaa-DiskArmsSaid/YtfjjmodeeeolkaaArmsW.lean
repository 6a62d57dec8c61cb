/-
  DiskArms, walked.
-/
import Derived.Test.YtfjjmodeeeolkaaDkX
namespace Go.Proofs.Ytfjjmodeeeolkaa.diskArms
open Go.RowKit Go.Maps Go.WideShapes Go.WideMaps
/-- The disk when so many bytes were asked for. -/
def armS (N i : Nat) : Ds := ⟨100, [⟨[97], List.replicate (min i (N + 1)) 1, 0⟩], if i ≤ N then ((N - i : Nat) : Int) else 0, decide (N < i)⟩
theorem file_a : fileF sA = true := by decide
theorem one_get (l : List Nat) (k : Nat) : getP (nmO sA) [⟨[97], l, k⟩] = some ⟨[97], l, k⟩ := rfl
theorem errs_up (l : List Nat) (k : Nat) (a : Int) (r : Nat) : errs ⟨r, [⟨[97], l, k⟩], a, false⟩ sA [] = 0 := by
  unfold errs
  rfl
theorem errs_off (S : Ds) (h : S.down = true) : errs S sA [] = 12 := by unfold errs; rw [if_pos h]
theorem armC (N i : Nat) : createD (armS N i) sA = (armS N i, if i ≤ N then 8 else 12) := by
  by_cases h : i ≤ N
  · have e : armS N i = ⟨100, [⟨[97], List.replicate (min i (N + 1)) 1, 0⟩], ((N - i : Nat) : Int), false⟩ := by
      unfold armS; rw [if_pos h]; simp; omega
    rw [e, if_pos h]
    unfold createD
    rw [errs_up]
    rfl
  · have hd : (armS N i).down = true := by unfold armS; simp; omega
    unfold createD
    rw [errs_off _ hd, if_neg h]
    rfl
theorem armA (N i : Nat) (hN : N < 21) : appendD (armS N i) sA [1] = (armS N (i + 1), if i < N then 0 else 12) := by
  by_cases h : i ≤ N
  · have e : armS N i = ⟨100, [⟨[97], List.replicate i 1, 0⟩], ((N - i : Nat) : Int), false⟩ := by
      unfold armS; rw [if_pos h, Nat.min_eq_left (by omega)]; simp; omega
    have hr : List.replicate i 1 ++ [1] = List.replicate (i + 1) 1 := by rw [List.replicate_succ']
    have hf : ¬ freeD (armS N i) < ([1] : List Nat).length := by
      rw [e]
      unfold freeD
      show ¬ 100 - tot [⟨[97], List.replicate i 1, 0⟩] < 1
      rw [tot_cons]
      show ¬ 100 - ((List.replicate i 1).length + 0) < 1
      rw [List.length_replicate]; omega
    unfold appendD
    rw [if_neg hf, e, errs_up]
    have hm : moreD ⟨100, [⟨[97], List.replicate i 1, 0⟩], ((N - i : Nat) : Int), false⟩ sA [1] = ⟨100, [⟨[97], List.replicate (i + 1) 1, 0⟩], ((N - i : Nat) : Int), false⟩ := by
      show (⟨100, [⟨[97], List.replicate i 1 ++ [1], 0⟩], _, _⟩ : Ds) = _
      rw [hr]
    rw [hm, if_pos rfl]
    unfold deedF
    by_cases h2 : i < N
    · have h0 : ¬ ((N - i : Nat) : Int) = 0 := by omega
      rw [if_neg h0, if_pos h2]
      have hd : dec ((N - i : Nat) : Int) = ((N - (i + 1) : Nat) : Int) := by unfold dec; rw [if_pos (by omega)]; omega
      show ((⟨100, [⟨[97], List.replicate (i + 1) 1, 0⟩], dec ((N - i : Nat) : Int), false⟩ : Ds), 0) = _
      rw [hd]
      unfold armS
      have e2 : decide (N < i + 1) = false := by simp; omega
      rw [if_pos (show i + 1 ≤ N by omega), Nat.min_eq_left (show i + 1 ≤ N + 1 by omega), e2]
    · obtain rfl : i = N := by omega
      have h0 : ((i - i : Nat) : Int) = 0 := by omega
      rw [if_pos h0, if_neg h2]
      show ((⟨100, [⟨[97], List.replicate (i + 1) 1, 0⟩], ((i - i : Nat) : Int), true⟩ : Ds), 12) = _
      rw [h0]
      unfold armS
      have e2 : decide (i < i + 1) = true := by simp
      rw [if_neg (show ¬ i + 1 ≤ i by omega), Nat.min_eq_left (Nat.le_refl _), e2]
  · have hd : (armS N i).down = true := by unfold armS; simp; omega
    have e : armS N (i + 1) = armS N i := by
      unfold armS
      rw [if_neg h, if_neg (by omega), Nat.min_eq_right (by omega), Nat.min_eq_right (by omega)]
      have e1 : decide (N < i) = true := by simp; omega
      have e2 : decide (N < i + 1) = true := by simp; omega
      rw [e1, e2]
    unfold appendD
    rw [errs_off _ hd, if_neg (by omega), if_neg (by omega), e]
theorem armDn (N i : Nat) : (armS N i).down = decide (N < i) := rfl
theorem arm_start (N : Nat) : { (⟨100, [⟨[97], [], 0⟩], -1, false⟩ : Ds) with armed := (N : Int) } = armS N 0 := by
  unfold armS
  rw [if_pos (Nat.zero_le _), Nat.zero_min, Nat.sub_zero]
  rfl
set_option maxHeartbeats 4000000 in
set_option maxRecDepth 100000 in
theorem walk (n : Int) (w : World) (hn : -9223372036854775808 ≤ n ∧ n ≤ 9223372036854775807) :
    Calls Try.prog 8 #[.int .i64 n] w fun e w' => e = .returned (.bool true) ∧ Below w.heap.size w w' := by
  obtain ⟨M, hM⟩ : ∃ M : Nat, (if n < 0 then -(n + 1) else n) = (M : Int) := ⟨(if n < 0 then -(n + 1) else n).toNat, by split <;> omega⟩
  have hM2 : (M : Int) ≤ 9223372036854775807 := by split at hM <;> omega
  have hmod : (M : Int).tmod 21 = ((M % 21 : Nat) : Int) := by
    have e : (21 : Int) = ((21 : Nat) : Int) := rfl
    rw [e]
    exact (Int.ofNat_tmod M 21).symm
  have hML := Nat.mod_lt M (show 0 < 21 by omega)
  generalize M % 21 = N at *
  have tail : ∀ (a b : Int), (a = (M : Int)) → True := fun _ _ _ => trivial
  clear tail
  by_cases hneg : n < 0
  · rw [if_pos hneg] at hM
    have b1 : -9223372036854775808 ≤ n + 1 := by omega
    have b2 : n + 1 ≤ 9223372036854775807 := by omega
    have b3 : -9223372036854775808 ≤ -(n + 1) := by omega
    have b4 : -(n + 1) ≤ 9223372036854775807 := by omega
    go_enter Try.func8, Try.ntmps8
    go_wp2_with fail
    refine (newP_any w 100 (by omega)).mono ?_
    rintro e w1 ⟨rfl, hd, hb⟩
    have D := Lib.hid (⟨_, hd.out, hb.out.size⟩ : DK w.heap.size (w.heap.size + 1) w1 (newD 100))
    have HB := Lib.hid hb.out
    clear hd hb
    go_wp2_with fail
    refine (create_dk D.out sA (by decide) (by decide)).mono ?_
    rintro e w2 ⟨k, rfl, hk, D2, hb⟩
    rw [ex1] at D2
    have HB2 := Lib.hid (HB.out.trans hb.out)
    clear hk hb D HB
    go_wp2_with fail
    refine (arm_dk D2.out (N : Int) (by omega)).mono ?_
    rintro e w3 ⟨rfl, D3, hb⟩
    rw [arm_start] at D3
    have HB3 := Lib.hid (HB2.out.trans hb.out)
    clear hb D2 HB2
    go_wp2_with fail
    go_loopw [4] (fun v wr => ∃ i : Nat, i ≤ 25 ∧ v = .int .i64 i ∧ Hid (DK w.heap.size (w.heap.size + 1) wr (armS N i)) ∧ Hid (Below w.heap.size w wr)) (fun v _ => 25 - (intOf v).toNat)
    case atStart => exact ⟨0, by omega, rfl, D3, HB3⟩
    case round =>
      obtain ⟨i, hi, rfl, DI, HI⟩ := hrel
      have HCD := Lib.hid (armC N i)
      have HAD := Lib.hid (armA N i hML)
      by_cases hlt : i < 25
      · go_wp2_with fail
        refine (create_dk DI.out sA (by decide) (by show 1 ≤ _; omega)).mono ?_
        rintro e w4 ⟨k, rfl, hk, D4, hb⟩
        rw [HCD.out] at hk D4
        obtain rfl : k = _ := hk.out
        have HI4 := Lib.hid (HI.out.trans hb.out)
        clear hk hb DI
        have HAP := Lib.hid (append_dk (D4.out.alloc (.cells #[.int .u8 1] 5)) sA (by decide) (some ⟨w4.heap.size, 0, none⟩) [1] 1 1 rfl (bytes_new w4 [1] (0, 0)) (fun e => by cases e) (by decide))
        have HI5 := Lib.hid (HI4.out.alloc HI4.out.size (.cells #[.int .u8 1] 5))
        clear HI HI4
        by_cases h1 : i ≤ N
        · rw [if_pos h1]
          go_wp2_with fail
          refine HAP.out.mono ?_
          rintro e w5 ⟨k, rfl, hk, D5, hb⟩
          rw [HAD.out] at hk D5
          obtain rfl : k = _ := hk.out
          have HI6 := Lib.hid (HI5.out.trans hb.out)
          have HDW := Lib.hid (down_dk D5.out)
          rw [armDn] at HDW
          clear hk hb HI5 HAP
          by_cases h2 : i < N
          · have h3 : decide (N < i + 1) = false := by simp; omega
            rw [if_pos h2]
            rw [h3] at HDW
            go_wp2_with fail
            refine HDW.out.mono ?_
            rintro e w6 ⟨rfl, rfl⟩
            go_wp2_with fail
            go_roundw
            case rel => exact ⟨i + 1, by omega, by go_num, D5, HI6⟩
            case measure => simp [intOf]; omega
          · have h3 : decide (N < i + 1) = true := by simp; omega
            have h5 : N ≤ i := by omega
            rw [if_neg h2]
            rw [h3] at HDW
            go_wp2_with fail
            refine HDW.out.mono ?_
            rintro e w6 ⟨rfl, rfl⟩
            go_wp2_with fail
            go_roundw
            case rel => exact ⟨i + 1, by omega, by go_num, D5, HI6⟩
            case measure => simp [intOf]; omega
        · have h2 : ¬ i < N := by omega
          have h5 : N ≤ i := by omega
          have h6 : N < i := by omega
          have h3 : decide (N < i + 1) = true := by simp; omega
          rw [if_neg h1]
          go_wp2_with fail
          refine HAP.out.mono ?_
          rintro e w5 ⟨k, rfl, hk, D5, hb⟩
          rw [HAD.out] at hk D5
          obtain rfl : k = _ := hk.out
          have HI6 := Lib.hid (HI5.out.trans hb.out)
          have HDW := Lib.hid (down_dk D5.out)
          rw [armDn] at HDW
          clear hk hb HI5 HAP
          rw [if_neg h2]
          rw [h3] at HDW
          go_wp2_with fail
          refine HDW.out.mono ?_
          rintro e w6 ⟨rfl, rfl⟩
          go_wp2_with fail
          go_roundw
          case rel => exact ⟨i + 1, by omega, by go_num, D5, HI6⟩
          case measure => simp [intOf]; omega
      · obtain rfl : i = 25 := by omega
        go_wp2_with fail
        refine (lives_any wr).mono ?_
        rintro e w7 ⟨rfl, hb⟩
        have HI7 := Lib.hid (HI.out.trans (hb.out.mono HI.out.size))
        clear hb
        go_wp2_with fail
        go_ret
        exact ⟨rfl, HI7.out⟩
  · rw [if_neg hneg] at hM
    subst hM
    have b1 : ¬ ((M : Int) < 0) := by omega
    go_enter Try.func8, Try.ntmps8
    go_wp2_with fail
    refine (newP_any w 100 (by omega)).mono ?_
    rintro e w1 ⟨rfl, hd, hb⟩
    have D := Lib.hid (⟨_, hd.out, hb.out.size⟩ : DK w.heap.size (w.heap.size + 1) w1 (newD 100))
    have HB := Lib.hid hb.out
    clear hd hb
    go_wp2_with fail
    refine (create_dk D.out sA (by decide) (by decide)).mono ?_
    rintro e w2 ⟨k, rfl, hk, D2, hb⟩
    rw [ex1] at D2
    have HB2 := Lib.hid (HB.out.trans hb.out)
    clear hk hb D HB
    go_wp2_with fail
    refine (arm_dk D2.out (N : Int) (by omega)).mono ?_
    rintro e w3 ⟨rfl, D3, hb⟩
    rw [arm_start] at D3
    have HB3 := Lib.hid (HB2.out.trans hb.out)
    clear hb D2 HB2
    go_wp2_with fail
    go_loopw [4] (fun v wr => ∃ i : Nat, i ≤ 25 ∧ v = .int .i64 i ∧ Hid (DK w.heap.size (w.heap.size + 1) wr (armS N i)) ∧ Hid (Below w.heap.size w wr)) (fun v _ => 25 - (intOf v).toNat)
    case atStart => exact ⟨0, by omega, rfl, D3, HB3⟩
    case round =>
      obtain ⟨i, hi, rfl, DI, HI⟩ := hrel
      have HCD := Lib.hid (armC N i)
      have HAD := Lib.hid (armA N i hML)
      by_cases hlt : i < 25
      · go_wp2_with fail
        refine (create_dk DI.out sA (by decide) (by show 1 ≤ _; omega)).mono ?_
        rintro e w4 ⟨k, rfl, hk, D4, hb⟩
        rw [HCD.out] at hk D4
        obtain rfl : k = _ := hk.out
        have HI4 := Lib.hid (HI.out.trans hb.out)
        clear hk hb DI
        have HAP := Lib.hid (append_dk (D4.out.alloc (.cells #[.int .u8 1] 5)) sA (by decide) (some ⟨w4.heap.size, 0, none⟩) [1] 1 1 rfl (bytes_new w4 [1] (0, 0)) (fun e => by cases e) (by decide))
        have HI5 := Lib.hid (HI4.out.alloc HI4.out.size (.cells #[.int .u8 1] 5))
        clear HI HI4
        by_cases h1 : i ≤ N
        · rw [if_pos h1]
          go_wp2_with fail
          refine HAP.out.mono ?_
          rintro e w5 ⟨k, rfl, hk, D5, hb⟩
          rw [HAD.out] at hk D5
          obtain rfl : k = _ := hk.out
          have HI6 := Lib.hid (HI5.out.trans hb.out)
          have HDW := Lib.hid (down_dk D5.out)
          rw [armDn] at HDW
          clear hk hb HI5 HAP
          by_cases h2 : i < N
          · have h3 : decide (N < i + 1) = false := by simp; omega
            rw [if_pos h2]
            rw [h3] at HDW
            go_wp2_with fail
            refine HDW.out.mono ?_
            rintro e w6 ⟨rfl, rfl⟩
            go_wp2_with fail
            go_roundw
            case rel => exact ⟨i + 1, by omega, by go_num, D5, HI6⟩
            case measure => simp [intOf]; omega
          · have h3 : decide (N < i + 1) = true := by simp; omega
            have h5 : N ≤ i := by omega
            rw [if_neg h2]
            rw [h3] at HDW
            go_wp2_with fail
            refine HDW.out.mono ?_
            rintro e w6 ⟨rfl, rfl⟩
            go_wp2_with fail
            go_roundw
            case rel => exact ⟨i + 1, by omega, by go_num, D5, HI6⟩
            case measure => simp [intOf]; omega
        · have h2 : ¬ i < N := by omega
          have h5 : N ≤ i := by omega
          have h6 : N < i := by omega
          have h3 : decide (N < i + 1) = true := by simp; omega
          rw [if_neg h1]
          go_wp2_with fail
          refine HAP.out.mono ?_
          rintro e w5 ⟨k, rfl, hk, D5, hb⟩
          rw [HAD.out] at hk D5
          obtain rfl : k = _ := hk.out
          have HI6 := Lib.hid (HI5.out.trans hb.out)
          have HDW := Lib.hid (down_dk D5.out)
          rw [armDn] at HDW
          clear hk hb HI5 HAP
          rw [if_neg h2]
          rw [h3] at HDW
          go_wp2_with fail
          refine HDW.out.mono ?_
          rintro e w6 ⟨rfl, rfl⟩
          go_wp2_with fail
          go_roundw
          case rel => exact ⟨i + 1, by omega, by go_num, D5, HI6⟩
          case measure => simp [intOf]; omega
      · obtain rfl : i = 25 := by omega
        go_wp2_with fail
        refine (lives_any wr).mono ?_
        rintro e w7 ⟨rfl, hb⟩
        have HI7 := Lib.hid (HI.out.trans (hb.out.mono HI.out.size))
        clear hb
        go_wp2_with fail
        go_ret
        exact ⟨rfl, HI7.out⟩
end Go.Proofs.Ytfjjmodeeeolkaa.diskArms
