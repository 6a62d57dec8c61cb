/-
  like: has a tree what it must have?
-/
import Derived.Test.YtmapclocbhkpbaaRTf
namespace Go.Proofs.Ytmapclocbhkpbaa
open Go.RowKit Go.Maps Dg
set_option linter.unusedVariables false
theorem does_any {B tb rb : Nat} {X : List Nat} {w : World} {T : Tr} (h : Duo B tb rb X w T) (hz : T.con.length ≤ 80000) (kd n : Int) (s : ByteArray) (hn : -9223372036854775808 ≤ n ∧ n ≤ 9223372036854775807) :
    Calls Try.prog 8 #[.pointer (some ⟨tb, 0, none⟩), .pointer (some ⟨rb, 0, none⟩), .agg #[.int .i64 kd, .int .i64 n, .string s]] w fun e w' => e = .returned (.bool true) ∧ Did B tb rb X w w' T := by
  by_cases h0 : kd = 0
  · subst h0; exact does_put h hz n s
  · by_cases h1 : kd = 1
    · subst h1; exact does_cut h hz n s
    · exact does_get h hz kd n s h0 h1 hn
theorem ht_pos : ∀ T : Tr, T.size ≠ 0 → T.ht ≠ 0
  | .nil, h => absurd rfl h
  | .node _ l _ _ _ _ r, _ => by
    show 1 + max l.ht r.ht ≠ 0
    omega
set_option maxHeartbeats 8000000 in
set_option maxRecDepth 100000 in
theorem like_any {B tb rb : Nat} {X : List Nat} {w : World} {T : Tr} (h : Duo B tb rb X w T) (hz : T.con.length ≤ 80000) :
    Calls Try.prog 9 #[.pointer (some ⟨tb, 0, none⟩), .pointer (some ⟨rb, 0, none⟩)] w fun e w' => e = .returned (.bool true) ∧ Below w.heap.size w w' := by
  obtain ⟨A, n, c, A2, c2, h1, hl, hnc, hcm, -, -, hr, -, -, -, -, -, -⟩ := h.r.rows
  have d0 : w.cell? ⟨rb, 0, none⟩ = some (.slice A n c) := h1.cell 0
  have HD := Lib.hid hr
  have HT := Lib.hid h.t
  have HL := Lib.hid hl
  have hn8 : n ≤ 80000 := by omega
  have HN := Lib.hid (len_any h.t)
  have HH := Lib.hid (hgt_any h.t)
  rw [hl] at HN
  have hts : T.size = n := by rw [← con_len]; exact hl
  have HTS := Lib.hid hts
  have HT2 : Hid (∀ d, n + 1 < 2 ^ d → T.ht ≤ 2 * d) := fun d hd => bal_ht2 _ T (Nat.le_refl _) h.t.bal d (by rw [hts]; exact hd)
  have HTN : Hid (T.ht ≤ n) := by show T.ht ≤ n; rw [← hts]; exact ht_size T
  have HTP : Hid (n ≠ 0 → T.ht ≠ 0) := fun hne => ht_pos T (by rw [hts]; exact hne)
  have HRB := Lib.hid h1.lt
  clear h h1 hr hl hts
  go_enter Try.func9, Try.ntmps9
  go_wp2_with fail
  go_loopw [6, 7] (fun u6 u7 wr => ∃ d k : Nat, u6 = .int .i64 d ∧ u7 = .int .i64 k ∧ d + k ≤ n + 1 ∧ Hid (n + 1 < (k + 1) * 2 ^ d) ∧ Hid (wr = w)) (fun _ u _ => (intOf u).toNat)
  case atStart => exact ⟨0, n + 1, rfl, by go_num, by omega, by show _ < _; omega, Lib.hid rfl⟩
  case round =>
    obtain ⟨d, k, rfl, rfl, hdk, HP, HW⟩ := hrel
    obtain rfl : wr = w := HW.out
    clear HW
    by_cases hk : k = 0
    · subst hk
      have hd2 : T.ht ≤ 2 * d := HT2.out d (by have := HP.out; omega)
      generalize T.ht = hh at *
      have hh1 : ¬ 2 * (d : Int) < (hh : Int) := by omega
      have hd8 : (d : Int) ≤ 80001 := by omega
      have hdec : decide (2 * (d : Int) < (hh : Int)) = false := decide_eq_false hh1
      have hhp : (((hh : Int) == 0) == ((n : Int) == 0)) = true := by
        by_cases hn0 : n = 0
        · have := HTN.out
          have e : hh = 0 := by omega
          rw [hn0, e]
          rfl
        · have := HTP.out hn0
          have e1 : ((hh : Int) == 0) = false := by simp; omega
          have e2 : ((n : Int) == 0) = false := by simp; omega
          rw [e1, e2]
          rfl
      clear HP HT2 HTN HTP hdk
      go_wp2_with fail
      refine HN.out.mono ?_
      rintro e w1 ⟨rfl, rfl⟩
      go_wp2_with fail
      refine HH.out.mono ?_
      rintro e w2 ⟨rfl, rfl⟩
      go_wp2_with fail
      refine HH.out.mono ?_
      rintro e w3 ⟨rfl, rfl⟩
      go_wp2_with fail
      have HTD := Lib.hid (HT.out.below (Below.refl _ w3).drew)
      have d0d : w3.drew.cell? ⟨rb, 0, none⟩ = some (.slice A n c) := d0
      have hw : IntKind.i64.wrap ((n : Int) + 1) = (n : Int) + 1 := by rw [IntKind.wrap_i64]; omega
      refine wp_region_held_drew (S := fun X => X.cell? ⟨rb, 0, none⟩ = some (.slice A n c)) (by kernel_rfl) (by exact d0d) (fun _ => ?_)
      (refine wpAnyH_take (i := 0) (v := ?_) rfl (by kernel_rfl) (by kernel_rfl) (by kernel_rfl) (fun _ _ _ h => h) (Or.inl ⟨by rfl, ?_⟩) (by assumption) ?_; rotate_left; (intro w hSw; (try dsimp only at hSw); go_simp; try with_reducible rfl); ((try simp only [List.getElem_toArray]); (try simp only [List.getElem_cons_succ]); (try simp only [List.getElem_cons_zero]); (try simp only [Act.put]); (try simp only [List.setIfInBounds_toArray]); (try simp only [List.set_cons_succ]); (try simp only [List.set_cons_zero])))
      (refine wpAnyH_take (i := 1) (v := ?_) rfl (by kernel_rfl) (by kernel_rfl) (by kernel_rfl) (fun _ _ _ h => h) (Or.inl ⟨by rfl, ?_⟩) (by assumption) ?_; rotate_left; (intro w hSw; (try dsimp only at hSw); go_simp; try with_reducible rfl); ((try simp only [List.getElem_toArray]); (try simp only [List.getElem_cons_succ]); (try simp only [List.getElem_cons_zero]); (try simp only [Act.put]); (try simp only [List.setIfInBounds_toArray]); (try simp only [List.set_cons_succ]); (try simp only [List.set_cons_zero])))
      (refine wpAnyH_take (i := 2) (v := ?_) rfl (by kernel_rfl) (by kernel_rfl) (by kernel_rfl) (fun _ _ _ h => h) (Or.inl ⟨by rfl, ?_⟩) (by assumption) ?_; rotate_left; (intro w hSw; (try dsimp only at hSw); go_simp; try with_reducible rfl); ((try simp only [List.getElem_toArray]); (try simp only [List.getElem_cons_succ]); (try simp only [List.getElem_cons_zero]); (try simp only [Act.put]); (try simp only [List.setIfInBounds_toArray]); (try simp only [List.set_cons_succ]); (try simp only [List.set_cons_zero])))
      (refine wpAnyH_take (i := 4) (v := ?_) rfl (by kernel_rfl) (by kernel_rfl) (by kernel_rfl) (fun _ _ _ h => h) (Or.inl ⟨by rfl, ?_⟩) (by assumption) ?_; rotate_left; (intro w hSw; (try dsimp only at hSw); go_simp; try with_reducible rfl); ((try simp only [List.getElem_toArray]); (try simp only [List.getElem_cons_succ]); (try simp only [List.getElem_cons_zero]); (try simp only [Act.put]); (try simp only [List.setIfInBounds_toArray]); (try simp only [List.set_cons_succ]); (try simp only [List.set_cons_zero])))
      (refine wpAnyH_take (i := 5) (v := ?_) rfl (by kernel_rfl) (by kernel_rfl) (by kernel_rfl) (fun _ _ _ h => h) (Or.inl ⟨by rfl, ?_⟩) (by assumption) ?_; rotate_left; (intro w hSw; (try dsimp only at hSw); go_simp; try with_reducible rfl); ((try simp only [List.getElem_toArray]); (try simp only [List.getElem_cons_succ]); (try simp only [List.getElem_cons_zero]); (try simp only [Act.put]); (try simp only [List.setIfInBounds_toArray]); (try simp only [List.set_cons_succ]); (try simp only [List.set_cons_zero])))
      (refine wpAnyH_take (i := 6) (v := ?_) rfl (by kernel_rfl) (by kernel_rfl) (by kernel_rfl) (fun _ _ _ h => h) (Or.inl ⟨by rfl, ?_⟩) (by assumption) ?_; rotate_left; (intro w hSw; (try dsimp only at hSw); go_simp; try with_reducible rfl); ((try simp only [List.getElem_toArray]); (try simp only [List.getElem_cons_succ]); (try simp only [List.getElem_cons_zero]); (try simp only [Act.put]); (try simp only [List.setIfInBounds_toArray]); (try simp only [List.set_cons_succ]); (try simp only [List.set_cons_zero])))
      (refine wpAnyH_take (i := 7) (v := ?_) rfl (by kernel_rfl) (by kernel_rfl) (by kernel_rfl) (fun _ _ _ h => h) (Or.inl ⟨by rfl, ?_⟩) (by assumption) ?_; rotate_left; (intro w hSw; (try dsimp only at hSw); go_simp; try with_reducible rfl); ((try simp only [List.getElem_toArray]); (try simp only [List.getElem_cons_succ]); (try simp only [List.getElem_cons_zero]); (try simp only [Act.put]); (try simp only [List.setIfInBounds_toArray]); (try simp only [List.set_cons_succ]); (try simp only [List.set_cons_zero])))
      refine wpAnyH_ready (rs := [3]) (by kernel_rfl) (by simp) ?_
      refine AllReadyH.cons rfl (fun K2 hK2 => ?_) AllReadyH.nil
      go_simp
      refine (keys_any w3.drew tb T HTD.out.tr HTD.out.top (by rw [HTS.out]; omega) ⟨#[]⟩ ((n : Int) + 1)).mono ?_
      rintro e w4 ⟨v4, rfl, ho4, b4⟩
      rw [keysF_con HTD.out.ris, keysL_all (by omega) (by have := HL.out; omega)] at ho4
      obtain ⟨A4, n4, q4, rfl, hn4, -, -, hcs4, -⟩ := ownS_row ho4
      obtain rfl : n = n4 := by rw [List.length_map, HL.out] at hn4; exact hn4
      have d4 : w4.cell? ⟨rb, 0, none⟩ = some (.slice A n c) := (b4.cell (p := ⟨rb, 0, none⟩) (World.block_lt_of_cell? _ _ d0d)).trans d0d
      have HSM := Lib.hid (same_any (T.con.map (fun x : ByteArray × Int => x.1)) w4 A4 A n q4 c (by rw [List.length_map]; exact HL.out) (show RdS w4 A4 (T.con.map (fun x : ByteArray × Int => x.1)) from hcs4) ((show RdS w3.drew A _ from HD.out).below b4) (by omega))
      have HB4 := Lib.hid ((Below.refl _ w3).drew.trans (b4.mono (Nat.le_refl _)))
      clear ho4 hcs4 b4 hn4
      go_wp2_with fail
      refine hK2.out _ _ (by exact d4) (fun hq => ?_)
      clear hK2 K2
      ((try simp only [List.getElem_toArray]); (try simp only [List.getElem_cons_succ]); (try simp only [List.getElem_cons_zero]); (try simp only [Act.put]); (try simp only [List.setIfInBounds_toArray]); (try simp only [List.set_cons_succ]); (try simp only [List.set_cons_zero]))
      refine wpAnyH_ready (rs := [8]) (by kernel_rfl) (by simp) ?_
      refine AllReadyH.cons rfl (fun K2 hK2 => ?_) AllReadyH.nil
      go_simp
      refine HSM.out.mono ?_
      rintro e w5 ⟨rfl, k5, rfl⟩
      have d5 : (w4.drewN k5).cell? ⟨rb, 0, none⟩ = some (.slice A n c) := d4
      have HFIN : Hid (Below w3.heap.size w3 (w4.drewN k5)) := Below.drewN HB4.out k5
      go_wp2_with fail
      refine hK2.out _ _ (by exact d5) (fun hq => ?_)
      clear hK2 K2
      ((try simp only [List.getElem_toArray]); (try simp only [List.getElem_cons_succ]); (try simp only [List.getElem_cons_zero]); (try simp only [Act.put]); (try simp only [List.setIfInBounds_toArray]); (try simp only [List.set_cons_succ]); (try simp only [List.set_cons_zero]))
      (refine wpAnyH_take (i := 9) (v := ?_) rfl (by kernel_rfl) (by kernel_rfl) (by kernel_rfl) (fun _ _ _ h => h) (Or.inl ⟨by rfl, ?_⟩) (by assumption) ?_; rotate_left; (intro w hSw; (try dsimp only at hSw); go_simp; try with_reducible rfl); ((try simp only [List.getElem_toArray]); (try simp only [List.getElem_cons_succ]); (try simp only [List.getElem_cons_zero]); (try simp only [Act.put]); (try simp only [List.setIfInBounds_toArray]); (try simp only [List.set_cons_succ]); (try simp only [List.set_cons_zero])))
      refine wpAnyH_done (by kernel_rfl) ?_ _
      go_wp2_with fail
      go_ret
      exact ⟨rfl, HFIN.out⟩
    · have hkI : (0 : Int) < (k : Int) := by omega
      obtain ⟨k2, HK2⟩ : ∃ k2 : Nat, Hid (k2 = k / 2) := ⟨_, rfl⟩
      have hk2 : (k : Int).tdiv 2 = (k2 : Int) := by rw [HK2.out]; exact (Int.ofNat_tdiv k 2).symm
      have hk2b : (k2 : Int) ≤ 80001 := by have := HK2.out; omega
      have hk2w : IntKind.i64.wrap (k2 : Int) = (k2 : Int) := by rw [IntKind.wrap_i64]; omega
      have HP2 : Hid (n + 1 < (k / 2 + 1) * 2 ^ (d + 1)) := by
        show n + 1 < (k / 2 + 1) * 2 ^ (d + 1)
        have h1 := HP.out
        have h2 : (k + 1) * 2 ^ d ≤ ((k / 2 + 1) * 2) * 2 ^ d := Nat.mul_le_mul_right _ (by omega)
        rw [Nat.pow_succ, Nat.mul_comm (2 ^ d) 2, ← Nat.mul_assoc]
        omega
      rw [← HK2.out] at HP2
      go_wp2_with fail
      go_roundw
      case rel => exact ⟨d + 1, k2, by go_num, by go_num, by have := HK2.out; omega, HP2, by first | exact Lib.hid rfl | trivial⟩
      case measure => have := HK2.out; simp [intOf]; omega
end Go.Proofs.Ytmapclocbhkpbaa
