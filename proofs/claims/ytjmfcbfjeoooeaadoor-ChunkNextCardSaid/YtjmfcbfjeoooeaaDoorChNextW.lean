/-
  The law ChunkNext walked.
-/
import Derived.Test.YtjmfcbfjeoooeaaDoorCntM
import Derived.Test.YtjmfcbfjeoooeaaDoorLives11
import Derived.Test.YtjmfcbfjeoooeaaDoorArgsW
namespace Go.Proofs.YtjmfcbfjeoooeaaDoor.chunkNext
open Go.RowKit Dg
set_option maxRecDepth 100000
set_option maxHeartbeats 8000000 in
theorem walk (A : Option Addr) (n c : Nat) (L : List Wk) (w : World) (hn : L.length = n) (hnc : n ≤ c) (hcm : c ≤ maxLen) (hr : WRow w A L) (hf : ∀ x ∈ L, Wk.fit x) (hT : Tabs w) :
    Calls Tryd.prog 8 #[.slice A n c] w fun e w' => e = .returned (.bool true) ∧ Below w.heap.size w w' := by
  have HFEW := Lib.hid (few_any A L n c w hn hnc hcm hr hf)
  have HT := Lib.hid hT
  clear hn hnc hcm hr hf hT
  go_enter Tryd.func8, Tryd.ntmps8
  go_wp2_with fail
  refine HFEW.out.mono ?_
  rintro e w1 ⟨u1, rfl, ho1, hb1⟩
  go_wp2_with fail
  refine (rgood11_any w1 ho1.out (fewL_short L)).mono ?_
  rintro e w2 ⟨u2, rfl, ho2, hb2⟩
  have HB := Lib.hid (hb1.out.trans (hb2.out.mono hb1.out.size))
  have HO := Lib.hid (ownW_down ho2.out hb1.out.size)
  have hS0 := goodW_sort (fewL L)
  have hl0 := goodW_len (fewL L)
  generalize goodW (fewL L) = T0 at *
  have HSO := Lib.hid hS0
  clear hb1 hb2 ho1 ho2 HFEW hS0
  obtain ⟨A2, n2, z2, rfl, HN, hnz, hzm, HR, _⟩ := ownW_open HO.out
  unfold maxLen at hzm
  go_wp2_with fail
  go_loopw [4, 5] (fun a i wr => ∃ k : Nat, k ≤ n2 ∧ i = .int .i64 k ∧ a = .int .i64 (cntN (T0.take k) : Nat) ∧ wr = w2) (fun _ i _ => n2 - (intOf i).toNat)
  case atStart => exact ⟨0, by omega, rfl, rfl, rfl⟩
  case round =>
    obtain ⟨k, hk, rfl, rfl, rfl⟩ := hrel
    by_cases hlt : k < n2
    · have hkl : k < T0.length := by rw [HN.out]; exact hlt
      obtain ⟨b, off, rfl, hc⟩ := HR.out (by intro e; rw [e] at hkl; simp at hkl)
      obtain ⟨c0, c1, c2⟩ := hc k hkl
      have HCT := Lib.hid (cntN_take T0 k hkl)
      have hcl : cntN (T0.take k) ≤ 4 := Nat.le_trans (cntN_le _) (by rw [List.length_take]; omega)
      have hkz : (k : Int) < (n2 : Int) := by omega
      clear hc c0 c2
      generalize cntN (T0.take k) = q at *
      cases hd : T0[k].d
      · rw [hd] at c1 HCT
        go_wp2_with fail
        go_roundw
        case rel => exact ⟨k + 1, by omega, by go_num, by rw [HCT.out]; go_num, by trivial⟩
        case measure => simp [intOf]; omega
      · rw [hd] at c1 HCT
        go_wp2_with fail
        go_roundw
        case rel => exact ⟨k + 1, by omega, by go_num, by rw [HCT.out]; rfl, by trivial⟩
        case measure => simp [intOf]; omega
    · obtain rfl : k = n2 := by omega
      have hall : T0.take k = T0 := List.take_of_length_le (by rw [HN.out]; exact Nat.le_refl _)
      rw [hall]
      have hcl : cntN T0 ≤ 4 := Nat.le_trans (cntN_le _) (by omega)
      obtain ⟨C, hC⟩ : ∃ C, cntN T0 = C := ⟨_, rfl⟩
      rw [hC] at hcl ⊢
      have HC := Lib.hid hC
      clear hall hC
      go_wp2_with fail
      go_loopw [3, 6] (fun g i wr => ∃ (k : Nat) (u : Value) (T : List Wk), k ≤ C ∧ i = .int .i64 k ∧ u = g ∧ Hid (OwnW w.heap.size wr u T) ∧ Hid (SortW T) ∧ T.length ≤ 4 ∧ Hid (cntN T + k = C) ∧ Hid (Below w.heap.size w wr)) (fun _ i _ => C - (intOf i).toNat)
      case atStart => exact ⟨0, _, T0, by omega, rfl, rfl, HO, HSO, hl0, HC, HB⟩
      case round =>
        obtain ⟨j, u, T, hj, rfl, rfl, HOT, HST, hlT, HCN, HBT⟩ := hrel
        clear HO HSO HC HB HN HR hnz hl0
        have HNX := Lib.hid (pnext_any wr HOT.out (by omega))
        by_cases hjl : j < C
        · obtain ⟨f, hf, hd, hb, _⟩ := first_of (T := T) (by have := HCN.out; omega)
          have hnv := nextV_at hf hd hb
          rw [hnv, hd] at HNX
          have hge := goW_end HST.out hf hd ⟨#[]⟩
          have HG1 := Lib.hid hge.1
          have HG2 := Lib.hid hge.2
          have HS2 := Lib.hid (endW_sort HST.out hf)
          have HL2 : Hid ((endW T f).length ≤ 4) := by show _ ≤ _; rw [endW_len hf]; exact hlT
          have HC2 : Hid (cntN (endW T f) + (j + 1) = C) := by show _ = _; have := endW_cnt hf hd; have := HCN.out; omega
          have HCV := Lib.hid (endW_cov HST.out hf (kI 3))
          have hjz : (j : Int) < (C : Int) := by omega
          generalize endW T f = T3 at *
          clear hnv hge hd hb
          generalize T[f].t = ft at *
          generalize T[f].k = fk at *
          go_wp2_with fail
          refine HNX.out.mono ?_
          rintro e w3 ⟨rfl, hb3⟩
          have HX := Lib.hid (Has.new w3 28 #[.string ft, .bool false, .string fk])
          have hw4 : Below wr.heap.size wr (w3.alloc (.cells #[.string ft, .bool false, .string fk] 28)) := hb3.out.alloc hb3.out.size _
          have HB4 := Lib.hid (HBT.out.trans (hw4.mono HBT.out.size))
          have HO4 := Lib.hid (HOT.out.below hw4)
          have hz4 : w.heap.size ≤ w3.heap.size := Nat.le_trans HBT.out.size hb3.out.size
          clear hw4 hb3 HNX
          go_wp2_with fail
          obtain ⟨W4, hW4⟩ : ∃ W, W = w3.alloc (.cells #[.string ft, .bool false, .string fk] 28) := ⟨_, rfl⟩
          rw [← hW4] at HX HB4 HO4 ⊢
          have hq : w3.heap.size < W4.heap.size := by rw [hW4]; simp
          clear hW4
          generalize w3.heap.size = q at *
          refine (pgo_any ft ⟨#[]⟩ true W4 HO4.out (by omega) HST.out (by simp [ByteArray.size]) (HT.out.below HB4.out)).mono ?_
          rintro e w5 ⟨u5, rfl, ho5, hb5⟩
          rw [HG1.out]
          rw [HG2.out] at ho5
          have HB5 := Lib.hid (HB4.out.trans (hb5.out.mono HB4.out.size))
          have HO5 := Lib.hid (ownW_down ho5.out HB4.out.size)
          have HX5 := Lib.hid (HX.out.below hb5.out HX.out.lt)
          clear ho5 hb5 HX HO4 HB4
          have x0 : w5.cell? ⟨q, 0, none⟩ = some (.string ft) := HX5.out.cell 0
          go_wp2_with fail
          refine wp_region_held_drew (S := (fun X : World => X.cell? ⟨q, 0, none⟩ = some (.string ft))) (by kernel_rfl) x0 (fun _ => ?_)
          (refine wpAnyH_take (i := 0) (v := ?_) rfl (by kernel_rfl) (by kernel_rfl) (by kernel_rfl) (fun _ _ _ h => h) (Or.inl ⟨by rfl, ?_⟩) (by assumption) ?_; rotate_left; (intro w hSw; (try dsimp only at hSw); go_simp; try with_reducible rfl); ((try simp only [List.getElem_toArray]); (try simp only [List.getElem_cons_succ]); (try simp only [List.getElem_cons_zero]); (try simp only [Act.put]); (try simp only [List.setIfInBounds_toArray]); (try simp only [List.set_cons_succ]); (try simp only [List.set_cons_zero])))
          (refine wpAnyH_take (i := 1) (v := ?_) rfl (by kernel_rfl) (by kernel_rfl) (by kernel_rfl) (fun _ _ _ h => h) (Or.inl ⟨by rfl, ?_⟩) (by assumption) ?_; rotate_left; (intro w hSw; (try dsimp only at hSw); go_simp; try with_reducible rfl); ((try simp only [List.getElem_toArray]); (try simp only [List.getElem_cons_succ]); (try simp only [List.getElem_cons_zero]); (try simp only [Act.put]); (try simp only [List.setIfInBounds_toArray]); (try simp only [List.set_cons_succ]); (try simp only [List.set_cons_zero])))
          (refine wpAnyH_take (i := 2) (v := ?_) rfl (by kernel_rfl) (by kernel_rfl) (by kernel_rfl) (fun _ _ _ h => h) (Or.inl ⟨by rfl, ?_⟩) (by assumption) ?_; rotate_left; (intro w hSw; (try dsimp only at hSw); go_simp; try with_reducible rfl); ((try simp only [List.getElem_toArray]); (try simp only [List.getElem_cons_succ]); (try simp only [List.getElem_cons_zero]); (try simp only [Act.put]); (try simp only [List.setIfInBounds_toArray]); (try simp only [List.set_cons_succ]); (try simp only [List.set_cons_zero])))
          (refine wpAnyH_take (i := 3) (v := ?_) rfl (by kernel_rfl) (by kernel_rfl) (by kernel_rfl) (fun _ _ _ h => h) (Or.inl ⟨by rfl, ?_⟩) (by assumption) ?_; rotate_left; (intro w hSw; (try dsimp only at hSw); go_simp; try with_reducible rfl); ((try simp only [List.getElem_toArray]); (try simp only [List.getElem_cons_succ]); (try simp only [List.getElem_cons_zero]); (try simp only [Act.put]); (try simp only [List.setIfInBounds_toArray]); (try simp only [List.set_cons_succ]); (try simp only [List.set_cons_zero])))
          (refine wpAnyH_take (i := 4) (v := ?_) rfl (by kernel_rfl) (by kernel_rfl) (by kernel_rfl) (fun _ _ _ h => h) (Or.inl ⟨by rfl, ?_⟩) (by assumption) ?_; rotate_left; (intro w hSw; (try dsimp only at hSw); go_simp; try with_reducible rfl); ((try simp only [List.getElem_toArray]); (try simp only [List.getElem_cons_succ]); (try simp only [List.getElem_cons_zero]); (try simp only [Act.put]); (try simp only [List.setIfInBounds_toArray]); (try simp only [List.set_cons_succ]); (try simp only [List.set_cons_zero])))
          (refine wpAnyH_take (i := 5) (v := ?_) rfl (by kernel_rfl) (by kernel_rfl) (by kernel_rfl) (fun _ _ _ h => h) (Or.inl ⟨by rfl, ?_⟩) (by assumption) ?_; rotate_left; (intro w hSw; (try dsimp only at hSw); go_simp; try with_reducible rfl); ((try simp only [List.getElem_toArray]); (try simp only [List.getElem_cons_succ]); (try simp only [List.getElem_cons_zero]); (try simp only [Act.put]); (try simp only [List.setIfInBounds_toArray]); (try simp only [List.set_cons_succ]); (try simp only [List.set_cons_zero])))
          refine wpAnyH_ready (rs := [6]) (by kernel_rfl) (by simp) ?_
          refine AllReadyH.cons rfl (fun K2 hK2 => ?_) AllReadyH.nil
          go_simp
          refine (lawKey_any 3 _ (by omega) (by omega)).mono ?_
          rintro e x6 ⟨rfl, hb6⟩
          have HB6 := Lib.hid (HB5.out.drew.trans (hb6.out.mono (HB5.out.drew).size))
          have HO6 := Lib.hid ((HO5.out.below (Below.refl _ w5).drew).below hb6.out)
          have x6c : (fun X : World => X.cell? ⟨q, 0, none⟩ = some (.string ft)) x6 := (HX5.out.drew.below hb6.out HX5.out.drew.lt).cell 0
          go_wp2_with fail
          refine hK2.out _ _ (by (try dsimp only); exact x6c) (fun _ => ?_)
          clear hK2 K2
          (try simp only [List.getElem_toArray]); (try simp only [List.getElem_cons_succ]); (try simp only [List.getElem_cons_zero]); (try simp only [Act.put]); (try simp only [List.setIfInBounds_toArray]); (try simp only [List.set_cons_succ]); (try simp only [List.set_cons_zero])
          refine wpAnyH_ready (rs := [7]) (by kernel_rfl) (by simp) ?_
          refine AllReadyH.cons rfl (fun K2 hK2 => ?_) AllReadyH.nil
          go_simp
          refine (cov_any ft (kI 3) _ HO6.out (by have := HL2.out; omega) HS2.out).mono ?_
          rintro e x7 ⟨rfl, hb7⟩
          rw [HCV.out]
          have HB7 := Lib.hid (HB6.out.trans (hb7.out.mono HB6.out.size))
          have HO7 := Lib.hid (HO6.out.below hb7.out)
          have x7c : (fun X : World => X.cell? ⟨q, 0, none⟩ = some (.string ft)) x7 := keepW hb7.out x6c
          go_wp2_with fail
          refine hK2.out _ _ (by (try dsimp only); exact x7c) (fun _ => ?_)
          clear hK2 K2
          (try simp only [List.getElem_toArray]); (try simp only [List.getElem_cons_succ]); (try simp only [List.getElem_cons_zero]); (try simp only [Act.put]); (try simp only [List.setIfInBounds_toArray]); (try simp only [List.set_cons_succ]); (try simp only [List.set_cons_zero])
          (refine wpAnyH_take (i := 8) (v := ?_) rfl (by kernel_rfl) (by kernel_rfl) (by kernel_rfl) (fun _ _ _ h => h) (Or.inl ⟨by rfl, ?_⟩) (by assumption) ?_; rotate_left; (intro w hSw; (try dsimp only at hSw); go_simp; try with_reducible rfl); ((try simp only [List.getElem_toArray]); (try simp only [List.getElem_cons_succ]); (try simp only [List.getElem_cons_zero]); (try simp only [Act.put]); (try simp only [List.setIfInBounds_toArray]); (try simp only [List.set_cons_succ]); (try simp only [List.set_cons_zero])))
          (refine wpAnyH_take (i := 9) (v := ?_) rfl (by kernel_rfl) (by kernel_rfl) (by kernel_rfl) (fun _ _ _ h => h) (Or.inl ⟨by rfl, ?_⟩) (by assumption) ?_; rotate_left; (intro w hSw; (try dsimp only at hSw); go_simp; try with_reducible rfl); ((try simp only [List.getElem_toArray]); (try simp only [List.getElem_cons_succ]); (try simp only [List.getElem_cons_zero]); (try simp only [Act.put]); (try simp only [List.setIfInBounds_toArray]); (try simp only [List.set_cons_succ]); (try simp only [List.set_cons_zero])))
          refine wpAnyH_done (by kernel_rfl) ?_ _
          go_wp2_with fail
          go_roundw
          case rel => exact ⟨j + 1, _, T3, by omega, by go_num, rfl, HO7.out, HS2.out, HL2.out, HC2.out, HB7.out⟩
          case measure => simp [intOf]; omega
        · obtain rfl : j = C := by omega
          have hnv := nextV_none (none_of (T := T) (by have := HCN.out; omega))
          rw [hnv] at HNX
          have hjz : ¬ ((j : Int) < (j : Int)) := by omega
          go_wp2_with fail
          refine HNX.out.mono ?_
          rintro e w3 ⟨rfl, hb3⟩
          have hw4 : Below wr.heap.size wr (w3.alloc (.cells #[.string ⟨#[]⟩, .bool false, .string ⟨#[]⟩] 28)) := hb3.out.alloc hb3.out.size _
          have HB4 := Lib.hid (HBT.out.trans (hw4.mono HBT.out.size))
          clear hw4 hb3 HNX
          go_wp2_with fail
          refine (lives11_any _ (HT.out.below HB4.out)).mono ?_
          rintro e w5 ⟨rfl, hb5⟩
          have HB5 := Lib.hid (HB4.out.trans (hb5.mono HB4.out.size))
          clear hb5
          go_wp2_with fail
          go_ret
          exact ⟨rfl, HB5.out⟩
end Go.Proofs.YtjmfcbfjeoooeaaDoor.chunkNext
