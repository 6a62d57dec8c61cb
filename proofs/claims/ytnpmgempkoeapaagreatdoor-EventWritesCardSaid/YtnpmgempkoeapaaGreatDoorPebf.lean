/-
  Put together, as far as it is used: EwW.
-/
import Derived.Test.YtnpmgempkoeapaaGreatDoorPebd
import Derived.Test.YtnpmgempkoeapaaGreatDoorPebe
set_option linter.unusedVariables false
set_option linter.unusedSimpArgs false
set_option linter.defProp false
namespace Go.Proofs.YtnpmgempkoeapaaGreatDoor
open Go.RowKit Go.Maps Dg
set_option maxRecDepth 100000
set_option maxHeartbeats 4000000 in
theorem rcol_true (s : ByteArray) (k : Nat) (w : World) (h0 : s.size ≤ 1000) (hk : k < 256) :
 Calls Tryz.prog 42 #[.agg #[.string s, .int .i64 (k : Int), .bool true]] w fun e w' => ∃ v, e = .returned v ∧ Hid (Own w.heap.size w' v (ytxt s ++ [k, 1])) ∧ Hid (Below w.heap.size w w') := by
 obtain ⟨w1, hw1⟩ : ∃ W, w.alloc (.cells #[.string s, .int .i64 (k : Int), .bool true] 29) = W := ⟨_, rfl⟩
 have HB : Hid (Below w.heap.size w w1) := by rw [← hw1]; exact (Below.refl _ w).alloc (Nat.le_refl _) _
 have HH : Hid (Has w1 w.heap.size 29 #[.string s, .int .i64 (k : Int), .bool true]) := by rw [← hw1]; exact Has.new _ _ _
 have HT := Lib.hid (fun (W : World) => refText_any s W (by omega))
 have hln : (ytxt s).length ≤ 900000 := by
  have := digs_le_ten s.size (by omega)
  unfold ytxt; simp only [List.length_append, sb_length]; omega
 have hwk := u8_wrap k hk
 have c0 : w1.cell? ⟨w.heap.size, 0, none⟩ = some (.string s) := HH.out.cell 0
 have c1 : w1.cell? ⟨w.heap.size, 1, none⟩ = some (.int .i64 k) := HH.out.cell 1
 have c2 : w1.cell? ⟨w.heap.size, 2, none⟩ = some (.bool true) := HH.out.cell 2
 go_enter Tryz.func42, Tryz.ntmps42
 go_wp2_with fail
 clear hw1
 refine wp_region_held_drew (S := (fun X : World => X.cell? ⟨w.heap.size, 0, none⟩ = some (.string s) ∧ X.cell? ⟨w.heap.size, 1, none⟩ = some (.int .i64 k))) (by kernel_rfl) (by exact ⟨c0, c1⟩) (fun _ => ?_)
 (refine wpAnyH_take (i := 0) (v := ?_) rfl (by kernel_rfl) (by kernel_rfl) (by kernel_rfl) (fun _ _ _ h => h) (Or.inl ⟨by rfl, ?_⟩) (by assumption) ?_; rotate_left; (intro w hSw; (try dsimp only at hSw); go_simp; try with_reducible rfl); ((try simp only [zA, zB, zC, Act.put, zD, zE, zF])))
 (refine wpAnyH_take (i := 1) (v := ?_) rfl (by kernel_rfl) (by kernel_rfl) (by kernel_rfl) (fun _ _ _ h => h) (Or.inl ⟨by rfl, ?_⟩) (by assumption) ?_; rotate_left; (intro w hSw; (try dsimp only at hSw); go_simp; try with_reducible rfl); ((try simp only [zA, zB, zC, Act.put, zD, zE, zF])))
 (refine wpAnyH_take (i := 3) (v := ?_) rfl (by kernel_rfl) (by kernel_rfl) (by kernel_rfl) (fun _ _ _ h => h) (Or.inl ⟨by rfl, ?_⟩) (by assumption) ?_; rotate_left; (intro w hSw; (try dsimp only at hSw); go_simp; try with_reducible rfl); ((try simp only [zA, zB, zC, Act.put, zD, zE, zF])))
 (refine wpAnyH_take (i := 4) (v := ?_) rfl (by kernel_rfl) (by kernel_rfl) (by kernel_rfl) (fun _ _ _ h => h) (Or.inl ⟨by rfl, ?_⟩) (by assumption) ?_; rotate_left; (intro w hSw; (try dsimp only at hSw); go_simp; try with_reducible rfl); ((try simp only [zA, zB, zC, Act.put, zD, zE, zF])))
 (refine wpAnyH_take (i := 5) (v := ?_) rfl (by kernel_rfl) (by kernel_rfl) (by kernel_rfl) (fun _ _ _ h => h) (Or.inl ⟨by rfl, ?_⟩) (by assumption) ?_; rotate_left; (intro w hSw; (try dsimp only at hSw); go_simp; try with_reducible rfl); ((try simp only [zA, zB, zC, Act.put, zD, zE, zF])))
 (refine wpAnyH_take (i := 6) (v := ?_) rfl (by kernel_rfl) (by kernel_rfl) (by kernel_rfl) (fun _ _ _ h => h) (Or.inl ⟨by rfl, ?_⟩) (by assumption) ?_; rotate_left; (intro w hSw; (try dsimp only at hSw); go_simp; try with_reducible rfl); ((try simp only [zA, zB, zC, Act.put, zD, zE, zF])))
 refine wpAnyH_ready (rs := [2, 7]) (by kernel_rfl) (by simp) ?_
 refine AllReadyH.cons rfl (fun K2 hK2 => ?_) (AllReadyH.cons rfl (fun K2 hK2 => ?_) AllReadyH.nil)
 ·go_simp
  refine (HT.out w1.drew).mono ?_
  rintro e w2 ⟨v2, rfl, ho, hb⟩
  have hb12 : Below w1.heap.size w1 w2 := (Below.refl w1.heap.size w1).drew.trans hb
  have HH2 := Lib.hid (HH.out.below hb12 HH.out.lt)
  have HB2 := Lib.hid (HB.out.trans (hb12.mono HB.out.size))
  have HO2 := Lib.hid (own_down ho (show w.heap.size ≤ w1.drew.heap.size from HB.out.size))
  clear ho hb hb12
  have c0w2 : w2.cell? ⟨w.heap.size, 0, none⟩ = some (.string s) := HH2.out.cell 0
  have c1w2 : w2.cell? ⟨w.heap.size, 1, none⟩ = some (.int .i64 k) := HH2.out.cell 1
  go_wp2_with fail
  refine hK2.out _ _ (by (try dsimp only); exact ⟨c0w2, c1w2⟩) (fun _ => ?_)
  clear hK2 K2
  (try simp only [zA, zB, zC, Act.put, zD, zE, zF])
  obtain ⟨w3, hw3⟩ : ∃ W, w2.alloc (.cells #[.int .u8 k, .int .u8 1] 5) = W := ⟨_, rfl⟩
  have hb3 : Below w2.heap.size w2 w3 := by rw [← hw3]; exact (Below.refl _ w2).alloc (Nat.le_refl _) _
  have HRl : Hid (Rd w3 (some ⟨w2.heap.size, 0, none⟩) [k, 1]) := by rw [← hw3]; exact rd_two w2 k 1
  have HHw := Lib.hid (HH2.out.below hb3 HH2.out.lt)
  have HBw := Lib.hid (HB2.out.trans (hb3.mono HB2.out.size))
  have HO := Lib.hid (HO2.out.below hb3)
  clear hb3
  have c0w3 : w3.cell? ⟨w.heap.size, 0, none⟩ = some (.string s) := HHw.out.cell 0
  have c1w3 : w3.cell? ⟨w.heap.size, 1, none⟩ = some (.int .i64 k) := HHw.out.cell 1
  refine wpAnyH_ready (rs := [7]) (by kernel_rfl) (by simp) ?_
  refine AllReadyH.cons rfl (fun K2 hK2 => ?_) AllReadyH.nil
  go_simp
  (try rw [hw3])
  clear hw3
  generalize w2.heap.size = g at *
  refine hK2.out _ _ (by (try dsimp only); exact ⟨c0w3, c1w3⟩) (fun _ => ?_)
  clear hK2 K2
  (try simp only [zA, zB, zC, Act.put, zD, zE, zF])
  refine wpAnyH_ready (rs := [8]) (by kernel_rfl) (by simp) ?_
  refine AllReadyH.cons rfl (fun K2 hK2 => ?_) AllReadyH.nil
  obtain ⟨R8, W8, hrun8, ho9, hb9, hk9⟩ := eown_app w3 w.heap.size v2 _ HO.out HBw.out.size (some ⟨g, 0, none⟩) [k, 1] 2 2 rfl HRl.out (by omega) (fun e => by cases e)
  refine estep_app (by rfl) _ _ _ _ (by rfl) (v2) (.slice (some ⟨g, 0, none⟩) 2 2) (by rfl) (by rfl) ⟨R8, W8, hrun8, ?_⟩
  have HO9 := Lib.hid ho9
  have HB9 := Lib.hid (HBw.out.trans hb9)
  have HC9 := Lib.hid (hk9 w.heap.size 29 _ (by decide) HHw.out)
  clear ho9 hb9 hk9
  refine hK2.out _ _ (by (try dsimp only); exact ⟨HC9.out.cell 0, HC9.out.cell 1⟩) (fun _ => ?_)
  clear hK2 K2 hrun8
  (try simp only [zA, zB, zC, Act.put, zD, zE, zF])
  (refine wpAnyH_take (i := 9) (v := ?_) rfl (by kernel_rfl) (by kernel_rfl) (by kernel_rfl) (fun _ _ _ h => h) (Or.inl ⟨by rfl, ?_⟩) (by assumption) ?_; rotate_left; (intro w hSw; (try dsimp only at hSw); go_simp; try with_reducible rfl); ((try simp only [zA, zB, zC, Act.put, zD, zE, zF])))
  refine wpAnyH_done (by kernel_rfl) ?_ _
  go_wp2_with fail
  go_ret
  exact ⟨_, rfl, HO9, HB9⟩
 ·go_simp
  obtain ⟨w3, hw3⟩ : ∃ W, (w1.alloc (.cells #[.int .u8 k, .int .u8 1] 5)).drew = W := ⟨_, rfl⟩
  have hb13 : Below w1.heap.size w1 w3 := by rw [← hw3]; exact ((Below.refl _ w1).alloc (Nat.le_refl _) _).drew
  have HR3 : Hid (Rd w3 (some ⟨w1.heap.size, 0, none⟩) [k, 1]) := by rw [← hw3]; exact (rd_two w1 k 1).below (Below.refl _ _).drew
  have HH3 := Lib.hid (HH.out.below hb13 HH.out.lt)
  have HB3 := Lib.hid (HB.out.trans (hb13.mono HB.out.size))
  have HB13 := Lib.hid hb13
  clear hb13
  have c0w3 : w3.cell? ⟨w.heap.size, 0, none⟩ = some (.string s) := HH3.out.cell 0
  have c1w3 : w3.cell? ⟨w.heap.size, 1, none⟩ = some (.int .i64 k) := HH3.out.cell 1
  (try rw [hw3])
  clear hw3
  obtain ⟨g, hg⟩ : ∃ g, w1.heap.size = g := ⟨_, rfl⟩
  rw [hg] at HR3 ⊢
  clear hg
  refine hK2.out _ _ (by (try dsimp only); exact ⟨c0w3, c1w3⟩) (fun _ => ?_)
  clear hK2 K2
  (try simp only [zA, zB, zC, Act.put, zD, zE, zF])
  refine wpAnyH_ready (rs := [2]) (by kernel_rfl) (by simp) ?_
  refine AllReadyH.cons rfl (fun K2 hK2 => ?_) AllReadyH.nil
  go_simp
  refine (HT.out w3).mono ?_
  rintro e w4 ⟨v2, rfl, ho, hb⟩
  have HHw := Lib.hid (HH3.out.below hb HH3.out.lt)
  have HBw := Lib.hid (HB3.out.trans (hb.mono HB3.out.size))
  have HO := Lib.hid (own_down ho HB3.out.size)
  have HRl := Lib.hid (HR3.out.below hb)
  clear ho hb
  have c0w4 : w4.cell? ⟨w.heap.size, 0, none⟩ = some (.string s) := HHw.out.cell 0
  have c1w4 : w4.cell? ⟨w.heap.size, 1, none⟩ = some (.int .i64 k) := HHw.out.cell 1
  go_wp2_with fail
  refine hK2.out _ _ (by (try dsimp only); exact ⟨c0w4, c1w4⟩) (fun _ => ?_)
  clear hK2 K2
  (try simp only [zA, zB, zC, Act.put, zD, zE, zF])
  refine wpAnyH_ready (rs := [8]) (by kernel_rfl) (by simp) ?_
  refine AllReadyH.cons rfl (fun K2 hK2 => ?_) AllReadyH.nil
  obtain ⟨R8, W8, hrun8, ho9, hb9, hk9⟩ := eown_app w4 w.heap.size v2 _ HO.out HBw.out.size (some ⟨g, 0, none⟩) [k, 1] 2 2 rfl HRl.out (by omega) (fun e => by cases e)
  refine estep_app (by rfl) _ _ _ _ (by rfl) (v2) (.slice (some ⟨g, 0, none⟩) 2 2) (by rfl) (by rfl) ⟨R8, W8, hrun8, ?_⟩
  have HO9 := Lib.hid ho9
  have HB9 := Lib.hid (HBw.out.trans hb9)
  have HC9 := Lib.hid (hk9 w.heap.size 29 _ (by decide) HHw.out)
  clear ho9 hb9 hk9
  refine hK2.out _ _ (by (try dsimp only); exact ⟨HC9.out.cell 0, HC9.out.cell 1⟩) (fun _ => ?_)
  clear hK2 K2 hrun8
  (try simp only [zA, zB, zC, Act.put, zD, zE, zF])
  (refine wpAnyH_take (i := 9) (v := ?_) rfl (by kernel_rfl) (by kernel_rfl) (by kernel_rfl) (fun _ _ _ h => h) (Or.inl ⟨by rfl, ?_⟩) (by assumption) ?_; rotate_left; (intro w hSw; (try dsimp only at hSw); go_simp; try with_reducible rfl); ((try simp only [zA, zB, zC, Act.put, zD, zE, zF])))
  refine wpAnyH_done (by kernel_rfl) ?_ _
  go_wp2_with fail
  go_ret
  exact ⟨_, rfl, HO9, HB9⟩
set_option maxHeartbeats 4000000 in
theorem rcol_false (s : ByteArray) (k : Nat) (w : World) (h0 : s.size ≤ 1000) (hk : k < 256) :
 Calls Tryz.prog 42 #[.agg #[.string s, .int .i64 (k : Int), .bool false]] w fun e w' => ∃ v, e = .returned v ∧ Hid (Own w.heap.size w' v (ytxt s ++ [k, 0])) ∧ Hid (Below w.heap.size w w') := by
 obtain ⟨w1, hw1⟩ : ∃ W, w.alloc (.cells #[.string s, .int .i64 (k : Int), .bool false] 29) = W := ⟨_, rfl⟩
 have HB : Hid (Below w.heap.size w w1) := by rw [← hw1]; exact (Below.refl _ w).alloc (Nat.le_refl _) _
 have HH : Hid (Has w1 w.heap.size 29 #[.string s, .int .i64 (k : Int), .bool false]) := by rw [← hw1]; exact Has.new _ _ _
 have HT := Lib.hid (fun (W : World) => refText_any s W (by omega))
 have hln : (ytxt s).length ≤ 900000 := by
  have := digs_le_ten s.size (by omega)
  unfold ytxt; simp only [List.length_append, sb_length]; omega
 have hwk := u8_wrap k hk
 have c0 : w1.cell? ⟨w.heap.size, 0, none⟩ = some (.string s) := HH.out.cell 0
 have c1 : w1.cell? ⟨w.heap.size, 1, none⟩ = some (.int .i64 k) := HH.out.cell 1
 have c2 : w1.cell? ⟨w.heap.size, 2, none⟩ = some (.bool false) := HH.out.cell 2
 go_enter Tryz.func42, Tryz.ntmps42
 go_wp2_with fail
 clear hw1
 refine wp_region_held_drew (S := (fun X : World => X.cell? ⟨w.heap.size, 0, none⟩ = some (.string s) ∧ X.cell? ⟨w.heap.size, 1, none⟩ = some (.int .i64 k))) (by kernel_rfl) (by exact ⟨c0, c1⟩) (fun _ => ?_)
 (refine wpAnyH_take (i := 0) (v := ?_) rfl (by kernel_rfl) (by kernel_rfl) (by kernel_rfl) (fun _ _ _ h => h) (Or.inl ⟨by rfl, ?_⟩) (by assumption) ?_; rotate_left; (intro w hSw; (try dsimp only at hSw); go_simp; try with_reducible rfl); ((try simp only [zA, zB, zC, Act.put, zD, zE, zF])))
 (refine wpAnyH_take (i := 1) (v := ?_) rfl (by kernel_rfl) (by kernel_rfl) (by kernel_rfl) (fun _ _ _ h => h) (Or.inl ⟨by rfl, ?_⟩) (by assumption) ?_; rotate_left; (intro w hSw; (try dsimp only at hSw); go_simp; try with_reducible rfl); ((try simp only [zA, zB, zC, Act.put, zD, zE, zF])))
 (refine wpAnyH_take (i := 3) (v := ?_) rfl (by kernel_rfl) (by kernel_rfl) (by kernel_rfl) (fun _ _ _ h => h) (Or.inl ⟨by rfl, ?_⟩) (by assumption) ?_; rotate_left; (intro w hSw; (try dsimp only at hSw); go_simp; try with_reducible rfl); ((try simp only [zA, zB, zC, Act.put, zD, zE, zF])))
 (refine wpAnyH_take (i := 4) (v := ?_) rfl (by kernel_rfl) (by kernel_rfl) (by kernel_rfl) (fun _ _ _ h => h) (Or.inl ⟨by rfl, ?_⟩) (by assumption) ?_; rotate_left; (intro w hSw; (try dsimp only at hSw); go_simp; try with_reducible rfl); ((try simp only [zA, zB, zC, Act.put, zD, zE, zF])))
 (refine wpAnyH_take (i := 5) (v := ?_) rfl (by kernel_rfl) (by kernel_rfl) (by kernel_rfl) (fun _ _ _ h => h) (Or.inl ⟨by rfl, ?_⟩) (by assumption) ?_; rotate_left; (intro w hSw; (try dsimp only at hSw); go_simp; try with_reducible rfl); ((try simp only [zA, zB, zC, Act.put, zD, zE, zF])))
 (refine wpAnyH_take (i := 6) (v := ?_) rfl (by kernel_rfl) (by kernel_rfl) (by kernel_rfl) (fun _ _ _ h => h) (Or.inl ⟨by rfl, ?_⟩) (by assumption) ?_; rotate_left; (intro w hSw; (try dsimp only at hSw); go_simp; try with_reducible rfl); ((try simp only [zA, zB, zC, Act.put, zD, zE, zF])))
 refine wpAnyH_ready (rs := [2, 7]) (by kernel_rfl) (by simp) ?_
 refine AllReadyH.cons rfl (fun K2 hK2 => ?_) (AllReadyH.cons rfl (fun K2 hK2 => ?_) AllReadyH.nil)
 ·go_simp
  refine (HT.out w1.drew).mono ?_
  rintro e w2 ⟨v2, rfl, ho, hb⟩
  have hb12 : Below w1.heap.size w1 w2 := (Below.refl w1.heap.size w1).drew.trans hb
  have HH2 := Lib.hid (HH.out.below hb12 HH.out.lt)
  have HB2 := Lib.hid (HB.out.trans (hb12.mono HB.out.size))
  have HO2 := Lib.hid (own_down ho (show w.heap.size ≤ w1.drew.heap.size from HB.out.size))
  clear ho hb hb12
  have c0w2 : w2.cell? ⟨w.heap.size, 0, none⟩ = some (.string s) := HH2.out.cell 0
  have c1w2 : w2.cell? ⟨w.heap.size, 1, none⟩ = some (.int .i64 k) := HH2.out.cell 1
  go_wp2_with fail
  refine hK2.out _ _ (by (try dsimp only); exact ⟨c0w2, c1w2⟩) (fun _ => ?_)
  clear hK2 K2
  (try simp only [zA, zB, zC, Act.put, zD, zE, zF])
  obtain ⟨w3, hw3⟩ : ∃ W, w2.alloc (.cells #[.int .u8 k, .int .u8 0] 5) = W := ⟨_, rfl⟩
  have hb3 : Below w2.heap.size w2 w3 := by rw [← hw3]; exact (Below.refl _ w2).alloc (Nat.le_refl _) _
  have HRl : Hid (Rd w3 (some ⟨w2.heap.size, 0, none⟩) [k, 0]) := by rw [← hw3]; exact rd_two w2 k 0
  have HHw := Lib.hid (HH2.out.below hb3 HH2.out.lt)
  have HBw := Lib.hid (HB2.out.trans (hb3.mono HB2.out.size))
  have HO := Lib.hid (HO2.out.below hb3)
  clear hb3
  have c0w3 : w3.cell? ⟨w.heap.size, 0, none⟩ = some (.string s) := HHw.out.cell 0
  have c1w3 : w3.cell? ⟨w.heap.size, 1, none⟩ = some (.int .i64 k) := HHw.out.cell 1
  refine wpAnyH_ready (rs := [7]) (by kernel_rfl) (by simp) ?_
  refine AllReadyH.cons rfl (fun K2 hK2 => ?_) AllReadyH.nil
  go_simp
  (try rw [hw3])
  clear hw3
  generalize w2.heap.size = g at *
  refine hK2.out _ _ (by (try dsimp only); exact ⟨c0w3, c1w3⟩) (fun _ => ?_)
  clear hK2 K2
  (try simp only [zA, zB, zC, Act.put, zD, zE, zF])
  refine wpAnyH_ready (rs := [8]) (by kernel_rfl) (by simp) ?_
  refine AllReadyH.cons rfl (fun K2 hK2 => ?_) AllReadyH.nil
  obtain ⟨R8, W8, hrun8, ho9, hb9, hk9⟩ := eown_app w3 w.heap.size v2 _ HO.out HBw.out.size (some ⟨g, 0, none⟩) [k, 0] 2 2 rfl HRl.out (by omega) (fun e => by cases e)
  refine estep_app (by rfl) _ _ _ _ (by rfl) (v2) (.slice (some ⟨g, 0, none⟩) 2 2) (by rfl) (by rfl) ⟨R8, W8, hrun8, ?_⟩
  have HO9 := Lib.hid ho9
  have HB9 := Lib.hid (HBw.out.trans hb9)
  have HC9 := Lib.hid (hk9 w.heap.size 29 _ (by decide) HHw.out)
  clear ho9 hb9 hk9
  refine hK2.out _ _ (by (try dsimp only); exact ⟨HC9.out.cell 0, HC9.out.cell 1⟩) (fun _ => ?_)
  clear hK2 K2 hrun8
  (try simp only [zA, zB, zC, Act.put, zD, zE, zF])
  (refine wpAnyH_take (i := 9) (v := ?_) rfl (by kernel_rfl) (by kernel_rfl) (by kernel_rfl) (fun _ _ _ h => h) (Or.inl ⟨by rfl, ?_⟩) (by assumption) ?_; rotate_left; (intro w hSw; (try dsimp only at hSw); go_simp; try with_reducible rfl); ((try simp only [zA, zB, zC, Act.put, zD, zE, zF])))
  refine wpAnyH_done (by kernel_rfl) ?_ _
  go_wp2_with fail
  go_ret
  exact ⟨_, rfl, HO9, HB9⟩
 ·go_simp
  obtain ⟨w3, hw3⟩ : ∃ W, (w1.alloc (.cells #[.int .u8 k, .int .u8 0] 5)).drew = W := ⟨_, rfl⟩
  have hb13 : Below w1.heap.size w1 w3 := by rw [← hw3]; exact ((Below.refl _ w1).alloc (Nat.le_refl _) _).drew
  have HR3 : Hid (Rd w3 (some ⟨w1.heap.size, 0, none⟩) [k, 0]) := by rw [← hw3]; exact (rd_two w1 k 0).below (Below.refl _ _).drew
  have HH3 := Lib.hid (HH.out.below hb13 HH.out.lt)
  have HB3 := Lib.hid (HB.out.trans (hb13.mono HB.out.size))
  have HB13 := Lib.hid hb13
  clear hb13
  have c0w3 : w3.cell? ⟨w.heap.size, 0, none⟩ = some (.string s) := HH3.out.cell 0
  have c1w3 : w3.cell? ⟨w.heap.size, 1, none⟩ = some (.int .i64 k) := HH3.out.cell 1
  (try rw [hw3])
  clear hw3
  obtain ⟨g, hg⟩ : ∃ g, w1.heap.size = g := ⟨_, rfl⟩
  rw [hg] at HR3 ⊢
  clear hg
  refine hK2.out _ _ (by (try dsimp only); exact ⟨c0w3, c1w3⟩) (fun _ => ?_)
  clear hK2 K2
  (try simp only [zA, zB, zC, Act.put, zD, zE, zF])
  refine wpAnyH_ready (rs := [2]) (by kernel_rfl) (by simp) ?_
  refine AllReadyH.cons rfl (fun K2 hK2 => ?_) AllReadyH.nil
  go_simp
  refine (HT.out w3).mono ?_
  rintro e w4 ⟨v2, rfl, ho, hb⟩
  have HHw := Lib.hid (HH3.out.below hb HH3.out.lt)
  have HBw := Lib.hid (HB3.out.trans (hb.mono HB3.out.size))
  have HO := Lib.hid (own_down ho HB3.out.size)
  have HRl := Lib.hid (HR3.out.below hb)
  clear ho hb
  have c0w4 : w4.cell? ⟨w.heap.size, 0, none⟩ = some (.string s) := HHw.out.cell 0
  have c1w4 : w4.cell? ⟨w.heap.size, 1, none⟩ = some (.int .i64 k) := HHw.out.cell 1
  go_wp2_with fail
  refine hK2.out _ _ (by (try dsimp only); exact ⟨c0w4, c1w4⟩) (fun _ => ?_)
  clear hK2 K2
  (try simp only [zA, zB, zC, Act.put, zD, zE, zF])
  refine wpAnyH_ready (rs := [8]) (by kernel_rfl) (by simp) ?_
  refine AllReadyH.cons rfl (fun K2 hK2 => ?_) AllReadyH.nil
  obtain ⟨R8, W8, hrun8, ho9, hb9, hk9⟩ := eown_app w4 w.heap.size v2 _ HO.out HBw.out.size (some ⟨g, 0, none⟩) [k, 0] 2 2 rfl HRl.out (by omega) (fun e => by cases e)
  refine estep_app (by rfl) _ _ _ _ (by rfl) (v2) (.slice (some ⟨g, 0, none⟩) 2 2) (by rfl) (by rfl) ⟨R8, W8, hrun8, ?_⟩
  have HO9 := Lib.hid ho9
  have HB9 := Lib.hid (HBw.out.trans hb9)
  have HC9 := Lib.hid (hk9 w.heap.size 29 _ (by decide) HHw.out)
  clear ho9 hb9 hk9
  refine hK2.out _ _ (by (try dsimp only); exact ⟨HC9.out.cell 0, HC9.out.cell 1⟩) (fun _ => ?_)
  clear hK2 K2 hrun8
  (try simp only [zA, zB, zC, Act.put, zD, zE, zF])
  (refine wpAnyH_take (i := 9) (v := ?_) rfl (by kernel_rfl) (by kernel_rfl) (by kernel_rfl) (fun _ _ _ h => h) (Or.inl ⟨by rfl, ?_⟩) (by assumption) ?_; rotate_left; (intro w hSw; (try dsimp only at hSw); go_simp; try with_reducible rfl); ((try simp only [zA, zB, zC, Act.put, zD, zE, zF])))
  refine wpAnyH_done (by kernel_rfl) ?_ _
  go_wp2_with fail
  go_ret
  exact ⟨_, rfl, HO9, HB9⟩
theorem rcol_any (x : Cl) (k : Nat) (w : World) (h0 : x.nm.size ≤ 1000) (hxk : x.k = (k : Int)) (hk : k < 256) :
 Calls Tryz.prog 42 #[.agg #[.string x.nm, .int .i64 x.k, .bool x.no]] w fun e w' => ∃ A n c, e = .returned (.slice A n c) ∧ Hid ((colC x).length = n) ∧ Hid (Rd w' A (colC x)) ∧ Hid (A = none → c = 0) ∧ Hid (Below w.heap.size w w') := by
 obtain ⟨xn, xk, xd⟩ := x
 simp only at h0 hxk ⊢
 subst hxk
 rcases xd with _ | _
 ·refine (rcol_false xn k w h0 hk).mono ?_
  rintro e w' ⟨v, rfl, ho, hb⟩
  obtain ⟨A, n, c, rfl, h1, _, h2, h3⟩ := own_openZ ho.out
  exact ⟨A, n, c, rfl, h1, h2, h3, hb⟩
 ·refine (rcol_true xn k w h0 hk).mono ?_
  rintro e w' ⟨v, rfl, ho, hb⟩
  obtain ⟨A, n, c, rfl, h1, _, h2, h3⟩ := own_openZ ho.out
  exact ⟨A, n, c, rfl, h1, h2, h3, hb⟩
end Go.Proofs.YtnpmgempkoeapaaGreatDoor
