/-
  asks: an ask, of both disks.
-/
import Derived.Test.YtoooainecoappaaRz
import Derived.Test.YtoooainecoappaaDkH
import Derived.Deep.RegionHeld3
namespace Go.Proofs.Ytoooainecoappaa
open Go.RowKit Go.Maps Go.WideShapes
theorem len_deed {S T : Ds} (h : T.fs.length ≤ S.fs.length + 1) : (deedF S T).1.fs.length ≤ S.fs.length + 1 := by
  unfold deedF
  split
  · exact Nat.le_succ _
  · exact h
theorem len_ins (x : Pf) : ∀ l : List Pf, (insP x l).length = l.length + 1
  | [] => rfl
  | y :: r => by
    unfold insP
    split
    · simp
    · simp [len_ins x r]
theorem len_create (S : Ds) (s : ByteArray) : (createD S s).1.fs.length ≤ S.fs.length + 1 := by
  unfold createD
  split
  · refine len_deed ?_
    show (insP _ _).length ≤ _
    rw [len_ins]
    have : (delP (nmO s) S.fs).length ≤ S.fs.length := List.length_filter_le _ _
    omega
  · split <;> exact Nat.le_succ _
theorem len_remove (S : Ds) (s : ByteArray) : (removeD S s).1.fs.length ≤ S.fs.length + 1 := by
  unfold removeD
  split
  · exact len_deed (Nat.le_succ_of_le (List.length_filter_le _ _))
  · exact Nat.le_succ _
theorem len_rename (S : Ds) (s t : ByteArray) : (renameD S s t).1.fs.length ≤ S.fs.length + 1 := by
  unfold renameD
  split
  · refine len_deed ?_
    show (insP _ _).length ≤ _
    rw [len_ins]
    have h1 : (delP (nmO s) S.fs).length ≤ S.fs.length := List.length_filter_le _ _
    have h2 : (delP (nmO t) (delP (nmO s) S.fs)).length ≤ (delP (nmO s) S.fs).length := List.length_filter_le _ _
    omega
  · exact Nat.le_succ _
theorem len_sync (S : Ds) (s : ByteArray) : (syncD S s).1.fs.length ≤ S.fs.length + 1 := by
  unfold syncD
  split
  · exact len_deed (by show (setP _ _).length ≤ _; unfold setP; rw [List.length_map]; exact Nat.le_succ _)
  · exact Nat.le_succ _
theorem len_append (S : Ds) (s : ByteArray) (b : List Nat) : (appendD S s b).1.fs.length ≤ S.fs.length + 1 := by
  have hm : (moreD S s b).fs.length = S.fs.length := by show (setP _ _).length = _; unfold setP; rw [List.length_map]
  unfold appendD
  split
  · split
    · exact Nat.le_succ _
    · have := len_deed (S := moreD S s b) (T := moreD S s b) (Nat.le_succ _)
      rw [hm] at this
      exact this
  · exact Nat.le_succ _
theorem len_up (S : Ds) (keep : List Int) : (upD S keep).fs.length ≤ S.fs.length + 1 := by
  unfold upD
  split
  · show (upTo _ _ _).length ≤ _
    rw [upTo_len]
    exact Nat.le_succ _
  · exact Nat.le_succ _
section
variable {B d r : Nat} {w : World} {S : Ds}
set_option maxHeartbeats 8000000 in
set_option maxRecDepth 100000 in
theorem ask_any (h : Two B d r w S S) (hn : Nm S) (hl : S.fs.length ≤ 1000) (kd : Int) (nm to : ByteArray) (bA : Option Addr) (bl : List Nat) (bn bc : Nat) (n : Int) (K : Option Addr) (keep : List Int) (kn ck : Nat)
    (hnm : nm.size ≤ 140737488355328) (hto : to.size ≤ 140737488355328) (hbn : bl.length = bn) (hbcap : bn ≤ bc) (hbmax : bc ≤ maxLen) (hbd : ∀ X, Below B w X → Rd X bA bl) (hbb : ∀ y ∈ bl, y < 256) (hA0 : bA = none → bc = 0)
    (hnr : -9223372036854775808 ≤ n ∧ n ≤ 9223372036854775807) (hkn : keep.length = kn) (hkb : kn ≤ 140737488355328) (hints : ∀ X, Below B w X → Ints X K keep) (hrg : ∀ y ∈ keep, -9223372036854775808 ≤ y ∧ y ≤ 9223372036854775807) (hKB : keep ≠ [] → ∀ a, K = some a → a.block < B) :
    Calls Try.prog 12 #[.pointer (some ⟨d, 0, none⟩), .pointer (some ⟨r, 0, none⟩), .agg #[.int .i64 kd, .string nm, .string to, .slice bA bn bc, .int .i64 n, .slice K kn ck]] w fun e w' => e = .returned (.bool true) ∧ ∃ S', Hid (Two B d r w' S' S') ∧ Hid (Nm S') ∧ Hid (S'.fs.length ≤ S.fs.length + 1) ∧ Hid (Below B w w') := by
  have HN := Lib.hid hn
  have HG := Lib.hid h.good
  have HS1 : Hid (Has (w.alloc (.cells #[.int .i64 kd, .string nm, .string to, .slice bA bn bc, .int .i64 n, .slice K kn ck] 31)) w.heap.size 31 #[.int .i64 kd, .string nm, .string to, .slice bA bn bc, .int .i64 n, .slice K kn ck]) := Has.new w 31 #[.int .i64 kd, .string nm, .string to, .slice bA bn bc, .int .i64 n, .slice K kn ck]
  have HZ := Lib.hid (h.box (.cells #[.int .i64 kd, .string nm, .string to, .slice bA bn bc, .int .i64 n, .slice K kn ck] 31))
  have HB0 : Hid (Below B w (w.alloc (.cells #[.int .i64 kd, .string nm, .string to, .slice bA bn bc, .int .i64 n, .slice K kn ck] 31))) := ((Below.refl w.heap.size w).alloc (Nat.le_refl _) _).mono h.size
  have HBD := Lib.hid hbd
  have HBB := Lib.hid hbb
  have HI := Lib.hid hints
  have HRG := Lib.hid hrg
  have HKB := Lib.hid hKB
  have HBL := Lib.hid hbn
  have HKL := Lib.hid hkn
  obtain ⟨z, hz⟩ : ∃ z, Hid (z = w.heap.size) := ⟨_, rfl⟩
  obtain ⟨W, hW⟩ : ∃ W, Hid (W = w.alloc (.cells #[.int .i64 kd, .string nm, .string to, .slice bA bn bc, .int .i64 n, .slice K kn ck] 31)) := ⟨_, rfl⟩
  rw [← hW.out, ← hz.out] at HS1 HZ
  rw [← hW.out] at HB0
  have z0 := HS1.out.cell 0
  have z1 := HS1.out.cell 1
  have z2 := HS1.out.cell 2
  have z3 := HS1.out.cell 3
  have z4 := HS1.out.cell 4
  have z5 := HS1.out.cell 5
  clear h hn hbd hbb hints hrg hKB hbn hkn
  go_enter Try.func12, Try.ntmps12
  by_cases hb50 : 50 < bn
  · have hc50 : (50 : Int) ≤ (bc : Int) := by omega
    have hcI : (bc : Int) ≤ 9223372036854775807 := by unfold maxLen at hbmax; omega
    by_cases k0 : kd = 0
    · subst k0
      have HZD := Lib.hid (HZ.out.below (Below.refl W.heap.size W).drew)
      have zd1 : W.drew.cell? ⟨z, 1, none⟩ = some (.string nm) := z1
      have HCR := Lib.hid (create_z HZD.out nm hnm (by omega))
      go_wp2_with fail
      rw [← hW.out, ← hz.out]
      have hsz0 : W.drew.cell? ⟨z, 1, none⟩ = some (.string nm) := zd1
      refine wp_region_held_drew (S := fun X => X.cell? ⟨z, 1, none⟩ = some (.string nm)) (by kernel_rfl) hsz0 (fun _ => ?_)
      (refine wpAnyH_take (i := 0) (v := ?_) rfl (by kernel_rfl) (by kernel_rfl) (by kernel_rfl) (fun _ _ _ h => h) (Or.inl ⟨by rfl, ?_⟩) (by assumption) ?_; rotate_left; (intro w hSw; (try dsimp only at hSw); go_simp; try with_reducible rfl); ((try simp only [List.getElem_toArray]); (try simp only [List.getElem_cons_succ]); (try simp only [List.getElem_cons_zero]); (try simp only [Act.put]); (try simp only [List.setIfInBounds_toArray]); (try simp only [List.set_cons_succ]); (try simp only [List.set_cons_zero])))
      (refine wpAnyH_take (i := 1) (v := ?_) rfl (by kernel_rfl) (by kernel_rfl) (by kernel_rfl) (fun _ _ _ h => h) (Or.inl ⟨by rfl, ?_⟩) (by assumption) ?_; rotate_left; (intro w hSw; (try dsimp only at hSw); go_simp; try with_reducible rfl); ((try simp only [List.getElem_toArray]); (try simp only [List.getElem_cons_succ]); (try simp only [List.getElem_cons_zero]); (try simp only [Act.put]); (try simp only [List.setIfInBounds_toArray]); (try simp only [List.set_cons_succ]); (try simp only [List.set_cons_zero])))
      (refine wpAnyH_take (i := 2) (v := ?_) rfl (by kernel_rfl) (by kernel_rfl) (by kernel_rfl) (fun _ _ _ h => h) (Or.inl ⟨by rfl, ?_⟩) (by assumption) ?_; rotate_left; (intro w hSw; (try dsimp only at hSw); go_simp; try with_reducible rfl); ((try simp only [List.getElem_toArray]); (try simp only [List.getElem_cons_succ]); (try simp only [List.getElem_cons_zero]); (try simp only [Act.put]); (try simp only [List.setIfInBounds_toArray]); (try simp only [List.set_cons_succ]); (try simp only [List.set_cons_zero])))
      (refine wpAnyH_take (i := 4) (v := ?_) rfl (by kernel_rfl) (by kernel_rfl) (by kernel_rfl) (fun _ _ _ h => h) (Or.inl ⟨by rfl, ?_⟩) (by assumption) ?_; rotate_left; (intro w hSw; (try dsimp only at hSw); go_simp; try with_reducible rfl); ((try simp only [List.getElem_toArray]); (try simp only [List.getElem_cons_succ]); (try simp only [List.getElem_cons_zero]); (try simp only [Act.put]); (try simp only [List.setIfInBounds_toArray]); (try simp only [List.set_cons_succ]); (try simp only [List.set_cons_zero])))
      (refine wpAnyH_take (i := 5) (v := ?_) rfl (by kernel_rfl) (by kernel_rfl) (by kernel_rfl) (fun _ _ _ h => h) (Or.inl ⟨by rfl, ?_⟩) (by assumption) ?_; rotate_left; (intro w hSw; (try dsimp only at hSw); go_simp; try with_reducible rfl); ((try simp only [List.getElem_toArray]); (try simp only [List.getElem_cons_succ]); (try simp only [List.getElem_cons_zero]); (try simp only [Act.put]); (try simp only [List.setIfInBounds_toArray]); (try simp only [List.set_cons_succ]); (try simp only [List.set_cons_zero])))
      (refine wpAnyH_take (i := 6) (v := ?_) rfl (by kernel_rfl) (by kernel_rfl) (by kernel_rfl) (fun _ _ _ h => h) (Or.inl ⟨by rfl, ?_⟩) (by assumption) ?_; rotate_left; (intro w hSw; (try dsimp only at hSw); go_simp; try with_reducible rfl); ((try simp only [List.getElem_toArray]); (try simp only [List.getElem_cons_succ]); (try simp only [List.getElem_cons_zero]); (try simp only [Act.put]); (try simp only [List.setIfInBounds_toArray]); (try simp only [List.set_cons_succ]); (try simp only [List.set_cons_zero])))
      refine wpAnyH_ready (rs := [3]) (by kernel_rfl) (by simp) ?_
      refine AllReadyH.cons rfl (fun K2 hK2 => ?_) AllReadyH.nil
      go_simp
      refine HCR.out.mono ?_
      rintro e v5 ⟨k1, rfl, hk1, h5, h6⟩
      have zz5 : v5.cell? ⟨z, 1, none⟩ = some (.string nm) := (World.cell?_of_block (a := ⟨z, 1, none⟩) h6.out.2).trans zd1
      have HRC := Lib.hid (rcreate_z h5.out HG.out (by omega) nm hnm)
      have HB5 : Hid (Below B w v5) := HB0.out.trans (((Below.refl B W).drew).trans h6.out.1)
      clear h6 HCR
      go_wp2_with fail
      refine hK2.out _ _ (by (try dsimp only); exact zz5) (fun hq => ?_)
      clear hK2 K2
      (try simp only [List.getElem_toArray]); (try simp only [List.getElem_cons_succ]); (try simp only [List.getElem_cons_zero]); (try simp only [Act.put]); (try simp only [List.setIfInBounds_toArray]); (try simp only [List.set_cons_succ]); (try simp only [List.set_cons_zero])
      refine wpAnyH_ready (rs := [7]) (by kernel_rfl) (by simp) ?_
      refine AllReadyH.cons rfl (fun K2 hK2 => ?_) AllReadyH.nil
      go_simp
      refine HRC.out.mono ?_
      rintro e v6 ⟨k2, rfl, hk2, h7, h8⟩
      obtain rfl : k2 = k1 := hk2.out.trans hk1.out.symm
      have HQ := Lib.hid (⟨_, h7.out.two, HN.out.create nm, len_create S nm, HB5.out.trans h8.out.1⟩ : ∃ S', Hid (Two B d r v6 S' S') ∧ Hid (Nm S') ∧ Hid (S'.fs.length ≤ S.fs.length + 1) ∧ Hid (Below B w v6))
      have zz6 : v6.cell? ⟨z, 1, none⟩ = some (.string nm) := (World.cell?_of_block (a := ⟨z, 1, none⟩) h8.out.2).trans zz5
      clear h7 h8 h5 hk1 hk2 HRC
      go_wp2_with fail
      refine hK2.out _ _ (by (try dsimp only); exact zz6) (fun hq => ?_)
      clear hK2 K2
      (try simp only [List.getElem_toArray]); (try simp only [List.getElem_cons_succ]); (try simp only [List.getElem_cons_zero]); (try simp only [Act.put]); (try simp only [List.setIfInBounds_toArray]); (try simp only [List.set_cons_succ]); (try simp only [List.set_cons_zero])
      (refine wpAnyH_take (i := 8) (v := ?_) rfl (by kernel_rfl) (by kernel_rfl) (by kernel_rfl) (fun _ _ _ h => h) (Or.inl ⟨by rfl, ?_⟩) (by assumption) ?_; rotate_left; (intro w hSw; (try dsimp only at hSw); go_simp; try with_reducible rfl); ((try simp only [List.getElem_toArray]); (try simp only [List.getElem_cons_succ]); (try simp only [List.getElem_cons_zero]); (try simp only [Act.put]); (try simp only [List.setIfInBounds_toArray]); (try simp only [List.set_cons_succ]); (try simp only [List.set_cons_zero])))
      (refine wpAnyH_take (i := 9) (v := ?_) rfl (by kernel_rfl) (by kernel_rfl) (by kernel_rfl) (fun _ _ _ h => h) (Or.inl ⟨by rfl, ?_⟩) (by assumption) ?_; rotate_left; (intro w hSw; (try dsimp only at hSw); go_simp; try with_reducible rfl); ((try simp only [List.getElem_toArray]); (try simp only [List.getElem_cons_succ]); (try simp only [List.getElem_cons_zero]); (try simp only [Act.put]); (try simp only [List.setIfInBounds_toArray]); (try simp only [List.set_cons_succ]); (try simp only [List.set_cons_zero])))
      refine wpAnyH_done (by kernel_rfl) ?_ _
      go_wp2_with fail
      go_ret
      exact ⟨rfl, HQ.out⟩
    by_cases k2 : kd = 2
    · subst k2
      have HZD := Lib.hid (HZ.out.below (Below.refl W.heap.size W).drew)
      have zd1 : W.drew.cell? ⟨z, 1, none⟩ = some (.string nm) := z1
      have HCR := Lib.hid (sync_z HZD.out nm hnm)
      go_wp2_with fail
      rw [← hW.out, ← hz.out]
      have hsz0 : W.drew.cell? ⟨z, 1, none⟩ = some (.string nm) := zd1
      refine wp_region_held_drew (S := fun X => X.cell? ⟨z, 1, none⟩ = some (.string nm)) (by kernel_rfl) hsz0 (fun _ => ?_)
      (refine wpAnyH_take (i := 0) (v := ?_) rfl (by kernel_rfl) (by kernel_rfl) (by kernel_rfl) (fun _ _ _ h => h) (Or.inl ⟨by rfl, ?_⟩) (by assumption) ?_; rotate_left; (intro w hSw; (try dsimp only at hSw); go_simp; try with_reducible rfl); ((try simp only [List.getElem_toArray]); (try simp only [List.getElem_cons_succ]); (try simp only [List.getElem_cons_zero]); (try simp only [Act.put]); (try simp only [List.setIfInBounds_toArray]); (try simp only [List.set_cons_succ]); (try simp only [List.set_cons_zero])))
      (refine wpAnyH_take (i := 1) (v := ?_) rfl (by kernel_rfl) (by kernel_rfl) (by kernel_rfl) (fun _ _ _ h => h) (Or.inl ⟨by rfl, ?_⟩) (by assumption) ?_; rotate_left; (intro w hSw; (try dsimp only at hSw); go_simp; try with_reducible rfl); ((try simp only [List.getElem_toArray]); (try simp only [List.getElem_cons_succ]); (try simp only [List.getElem_cons_zero]); (try simp only [Act.put]); (try simp only [List.setIfInBounds_toArray]); (try simp only [List.set_cons_succ]); (try simp only [List.set_cons_zero])))
      (refine wpAnyH_take (i := 2) (v := ?_) rfl (by kernel_rfl) (by kernel_rfl) (by kernel_rfl) (fun _ _ _ h => h) (Or.inl ⟨by rfl, ?_⟩) (by assumption) ?_; rotate_left; (intro w hSw; (try dsimp only at hSw); go_simp; try with_reducible rfl); ((try simp only [List.getElem_toArray]); (try simp only [List.getElem_cons_succ]); (try simp only [List.getElem_cons_zero]); (try simp only [Act.put]); (try simp only [List.setIfInBounds_toArray]); (try simp only [List.set_cons_succ]); (try simp only [List.set_cons_zero])))
      (refine wpAnyH_take (i := 4) (v := ?_) rfl (by kernel_rfl) (by kernel_rfl) (by kernel_rfl) (fun _ _ _ h => h) (Or.inl ⟨by rfl, ?_⟩) (by assumption) ?_; rotate_left; (intro w hSw; (try dsimp only at hSw); go_simp; try with_reducible rfl); ((try simp only [List.getElem_toArray]); (try simp only [List.getElem_cons_succ]); (try simp only [List.getElem_cons_zero]); (try simp only [Act.put]); (try simp only [List.setIfInBounds_toArray]); (try simp only [List.set_cons_succ]); (try simp only [List.set_cons_zero])))
      (refine wpAnyH_take (i := 5) (v := ?_) rfl (by kernel_rfl) (by kernel_rfl) (by kernel_rfl) (fun _ _ _ h => h) (Or.inl ⟨by rfl, ?_⟩) (by assumption) ?_; rotate_left; (intro w hSw; (try dsimp only at hSw); go_simp; try with_reducible rfl); ((try simp only [List.getElem_toArray]); (try simp only [List.getElem_cons_succ]); (try simp only [List.getElem_cons_zero]); (try simp only [Act.put]); (try simp only [List.setIfInBounds_toArray]); (try simp only [List.set_cons_succ]); (try simp only [List.set_cons_zero])))
      (refine wpAnyH_take (i := 6) (v := ?_) rfl (by kernel_rfl) (by kernel_rfl) (by kernel_rfl) (fun _ _ _ h => h) (Or.inl ⟨by rfl, ?_⟩) (by assumption) ?_; rotate_left; (intro w hSw; (try dsimp only at hSw); go_simp; try with_reducible rfl); ((try simp only [List.getElem_toArray]); (try simp only [List.getElem_cons_succ]); (try simp only [List.getElem_cons_zero]); (try simp only [Act.put]); (try simp only [List.setIfInBounds_toArray]); (try simp only [List.set_cons_succ]); (try simp only [List.set_cons_zero])))
      refine wpAnyH_ready (rs := [3]) (by kernel_rfl) (by simp) ?_
      refine AllReadyH.cons rfl (fun K2 hK2 => ?_) AllReadyH.nil
      go_simp
      refine HCR.out.mono ?_
      rintro e v5 ⟨k1, rfl, hk1, h5, h6⟩
      have zz5 : v5.cell? ⟨z, 1, none⟩ = some (.string nm) := (World.cell?_of_block (a := ⟨z, 1, none⟩) h6.out.2).trans zd1
      have HRC := Lib.hid (rsync_z h5.out HG.out (by omega) nm hnm)
      have HB5 : Hid (Below B w v5) := HB0.out.trans (((Below.refl B W).drew).trans h6.out.1)
      clear h6 HCR
      go_wp2_with fail
      refine hK2.out _ _ (by (try dsimp only); exact zz5) (fun hq => ?_)
      clear hK2 K2
      (try simp only [List.getElem_toArray]); (try simp only [List.getElem_cons_succ]); (try simp only [List.getElem_cons_zero]); (try simp only [Act.put]); (try simp only [List.setIfInBounds_toArray]); (try simp only [List.set_cons_succ]); (try simp only [List.set_cons_zero])
      refine wpAnyH_ready (rs := [7]) (by kernel_rfl) (by simp) ?_
      refine AllReadyH.cons rfl (fun K2 hK2 => ?_) AllReadyH.nil
      go_simp
      refine HRC.out.mono ?_
      rintro e v6 ⟨k2, rfl, hk2, h7, h8⟩
      obtain rfl : k2 = k1 := hk2.out.trans hk1.out.symm
      have HQ := Lib.hid (⟨_, h7.out.two, HN.out.sync nm, len_sync S nm, HB5.out.trans h8.out.1⟩ : ∃ S', Hid (Two B d r v6 S' S') ∧ Hid (Nm S') ∧ Hid (S'.fs.length ≤ S.fs.length + 1) ∧ Hid (Below B w v6))
      have zz6 : v6.cell? ⟨z, 1, none⟩ = some (.string nm) := (World.cell?_of_block (a := ⟨z, 1, none⟩) h8.out.2).trans zz5
      clear h7 h8 h5 hk1 hk2 HRC
      go_wp2_with fail
      refine hK2.out _ _ (by (try dsimp only); exact zz6) (fun hq => ?_)
      clear hK2 K2
      (try simp only [List.getElem_toArray]); (try simp only [List.getElem_cons_succ]); (try simp only [List.getElem_cons_zero]); (try simp only [Act.put]); (try simp only [List.setIfInBounds_toArray]); (try simp only [List.set_cons_succ]); (try simp only [List.set_cons_zero])
      (refine wpAnyH_take (i := 8) (v := ?_) rfl (by kernel_rfl) (by kernel_rfl) (by kernel_rfl) (fun _ _ _ h => h) (Or.inl ⟨by rfl, ?_⟩) (by assumption) ?_; rotate_left; (intro w hSw; (try dsimp only at hSw); go_simp; try with_reducible rfl); ((try simp only [List.getElem_toArray]); (try simp only [List.getElem_cons_succ]); (try simp only [List.getElem_cons_zero]); (try simp only [Act.put]); (try simp only [List.setIfInBounds_toArray]); (try simp only [List.set_cons_succ]); (try simp only [List.set_cons_zero])))
      (refine wpAnyH_take (i := 9) (v := ?_) rfl (by kernel_rfl) (by kernel_rfl) (by kernel_rfl) (fun _ _ _ h => h) (Or.inl ⟨by rfl, ?_⟩) (by assumption) ?_; rotate_left; (intro w hSw; (try dsimp only at hSw); go_simp; try with_reducible rfl); ((try simp only [List.getElem_toArray]); (try simp only [List.getElem_cons_succ]); (try simp only [List.getElem_cons_zero]); (try simp only [Act.put]); (try simp only [List.setIfInBounds_toArray]); (try simp only [List.set_cons_succ]); (try simp only [List.set_cons_zero])))
      refine wpAnyH_done (by kernel_rfl) ?_ _
      go_wp2_with fail
      go_ret
      exact ⟨rfl, HQ.out⟩
    by_cases k3 : kd = 3
    · subst k3
      have HZD := Lib.hid (HZ.out.below (Below.refl W.heap.size W).drew)
      have zd1 : W.drew.cell? ⟨z, 1, none⟩ = some (.string nm) := z1
      have zd2 : W.drew.cell? ⟨z, 2, none⟩ = some (.string to) := z2
      have HCR := Lib.hid (rename_z HZD.out nm to hnm hto (by omega))
      go_wp2_with fail
      rw [← hW.out, ← hz.out]
      have hsz0 : W.drew.cell? ⟨z, 1, none⟩ = some (.string nm) ∧ W.drew.cell? ⟨z, 2, none⟩ = some (.string to) := ⟨zd1, zd2⟩
      refine wp_region_held_drew (S := fun X => X.cell? ⟨z, 1, none⟩ = some (.string nm) ∧ X.cell? ⟨z, 2, none⟩ = some (.string to)) (by kernel_rfl) hsz0 (fun _ => ?_)
      (refine wpAnyH_take (i := 0) (v := ?_) rfl (by kernel_rfl) (by kernel_rfl) (by kernel_rfl) (fun _ _ _ h => h) (Or.inl ⟨by rfl, ?_⟩) (by assumption) ?_; rotate_left; (intro w hSw; (try dsimp only at hSw); obtain ⟨s0, s1⟩ := hSw; go_simp; try with_reducible rfl); ((try simp only [List.getElem_toArray]); (try simp only [List.getElem_cons_succ]); (try simp only [List.getElem_cons_zero]); (try simp only [Act.put]); (try simp only [List.setIfInBounds_toArray]); (try simp only [List.set_cons_succ]); (try simp only [List.set_cons_zero])))
      (refine wpAnyH_take (i := 1) (v := ?_) rfl (by kernel_rfl) (by kernel_rfl) (by kernel_rfl) (fun _ _ _ h => h) (Or.inl ⟨by rfl, ?_⟩) (by assumption) ?_; rotate_left; (intro w hSw; (try dsimp only at hSw); obtain ⟨s0, s1⟩ := hSw; go_simp; try with_reducible rfl); ((try simp only [List.getElem_toArray]); (try simp only [List.getElem_cons_succ]); (try simp only [List.getElem_cons_zero]); (try simp only [Act.put]); (try simp only [List.setIfInBounds_toArray]); (try simp only [List.set_cons_succ]); (try simp only [List.set_cons_zero])))
      (refine wpAnyH_take (i := 2) (v := ?_) rfl (by kernel_rfl) (by kernel_rfl) (by kernel_rfl) (fun _ _ _ h => h) (Or.inl ⟨by rfl, ?_⟩) (by assumption) ?_; rotate_left; (intro w hSw; (try dsimp only at hSw); obtain ⟨s0, s1⟩ := hSw; go_simp; try with_reducible rfl); ((try simp only [List.getElem_toArray]); (try simp only [List.getElem_cons_succ]); (try simp only [List.getElem_cons_zero]); (try simp only [Act.put]); (try simp only [List.setIfInBounds_toArray]); (try simp only [List.set_cons_succ]); (try simp only [List.set_cons_zero])))
      (refine wpAnyH_take (i := 3) (v := ?_) rfl (by kernel_rfl) (by kernel_rfl) (by kernel_rfl) (fun _ _ _ h => h) (Or.inl ⟨by rfl, ?_⟩) (by assumption) ?_; rotate_left; (intro w hSw; (try dsimp only at hSw); obtain ⟨s0, s1⟩ := hSw; go_simp; try with_reducible rfl); ((try simp only [List.getElem_toArray]); (try simp only [List.getElem_cons_succ]); (try simp only [List.getElem_cons_zero]); (try simp only [Act.put]); (try simp only [List.setIfInBounds_toArray]); (try simp only [List.set_cons_succ]); (try simp only [List.set_cons_zero])))
      (refine wpAnyH_take (i := 4) (v := ?_) rfl (by kernel_rfl) (by kernel_rfl) (by kernel_rfl) (fun _ _ _ h => h) (Or.inl ⟨by rfl, ?_⟩) (by assumption) ?_; rotate_left; (intro w hSw; (try dsimp only at hSw); obtain ⟨s0, s1⟩ := hSw; go_simp; try with_reducible rfl); ((try simp only [List.getElem_toArray]); (try simp only [List.getElem_cons_succ]); (try simp only [List.getElem_cons_zero]); (try simp only [Act.put]); (try simp only [List.setIfInBounds_toArray]); (try simp only [List.set_cons_succ]); (try simp only [List.set_cons_zero])))
      (refine wpAnyH_take (i := 6) (v := ?_) rfl (by kernel_rfl) (by kernel_rfl) (by kernel_rfl) (fun _ _ _ h => h) (Or.inl ⟨by rfl, ?_⟩) (by assumption) ?_; rotate_left; (intro w hSw; (try dsimp only at hSw); obtain ⟨s0, s1⟩ := hSw; go_simp; try with_reducible rfl); ((try simp only [List.getElem_toArray]); (try simp only [List.getElem_cons_succ]); (try simp only [List.getElem_cons_zero]); (try simp only [Act.put]); (try simp only [List.setIfInBounds_toArray]); (try simp only [List.set_cons_succ]); (try simp only [List.set_cons_zero])))
      (refine wpAnyH_take (i := 7) (v := ?_) rfl (by kernel_rfl) (by kernel_rfl) (by kernel_rfl) (fun _ _ _ h => h) (Or.inl ⟨by rfl, ?_⟩) (by assumption) ?_; rotate_left; (intro w hSw; (try dsimp only at hSw); obtain ⟨s0, s1⟩ := hSw; go_simp; try with_reducible rfl); ((try simp only [List.getElem_toArray]); (try simp only [List.getElem_cons_succ]); (try simp only [List.getElem_cons_zero]); (try simp only [Act.put]); (try simp only [List.setIfInBounds_toArray]); (try simp only [List.set_cons_succ]); (try simp only [List.set_cons_zero])))
      (refine wpAnyH_take (i := 8) (v := ?_) rfl (by kernel_rfl) (by kernel_rfl) (by kernel_rfl) (fun _ _ _ h => h) (Or.inl ⟨by rfl, ?_⟩) (by assumption) ?_; rotate_left; (intro w hSw; (try dsimp only at hSw); obtain ⟨s0, s1⟩ := hSw; go_simp; try with_reducible rfl); ((try simp only [List.getElem_toArray]); (try simp only [List.getElem_cons_succ]); (try simp only [List.getElem_cons_zero]); (try simp only [Act.put]); (try simp only [List.setIfInBounds_toArray]); (try simp only [List.set_cons_succ]); (try simp only [List.set_cons_zero])))
      (refine wpAnyH_take (i := 9) (v := ?_) rfl (by kernel_rfl) (by kernel_rfl) (by kernel_rfl) (fun _ _ _ h => h) (Or.inl ⟨by rfl, ?_⟩) (by assumption) ?_; rotate_left; (intro w hSw; (try dsimp only at hSw); obtain ⟨s0, s1⟩ := hSw; go_simp; try with_reducible rfl); ((try simp only [List.getElem_toArray]); (try simp only [List.getElem_cons_succ]); (try simp only [List.getElem_cons_zero]); (try simp only [Act.put]); (try simp only [List.setIfInBounds_toArray]); (try simp only [List.set_cons_succ]); (try simp only [List.set_cons_zero])))
      (refine wpAnyH_take (i := 10) (v := ?_) rfl (by kernel_rfl) (by kernel_rfl) (by kernel_rfl) (fun _ _ _ h => h) (Or.inl ⟨by rfl, ?_⟩) (by assumption) ?_; rotate_left; (intro w hSw; (try dsimp only at hSw); obtain ⟨s0, s1⟩ := hSw; go_simp; try with_reducible rfl); ((try simp only [List.getElem_toArray]); (try simp only [List.getElem_cons_succ]); (try simp only [List.getElem_cons_zero]); (try simp only [Act.put]); (try simp only [List.setIfInBounds_toArray]); (try simp only [List.set_cons_succ]); (try simp only [List.set_cons_zero])))
      refine wpAnyH_ready (rs := [5]) (by kernel_rfl) (by simp) ?_
      refine AllReadyH.cons rfl (fun K2 hK2 => ?_) AllReadyH.nil
      go_simp
      refine HCR.out.mono ?_
      rintro e v5 ⟨k1, rfl, hk1, h5, h6⟩
      have zz5 : v5.cell? ⟨z, 1, none⟩ = some (.string nm) ∧ v5.cell? ⟨z, 2, none⟩ = some (.string to) := ⟨(World.cell?_of_block (a := ⟨z, 1, none⟩) h6.out.2).trans zd1, (World.cell?_of_block (a := ⟨z, 2, none⟩) h6.out.2).trans zd2⟩
      have HRC := Lib.hid (rrename_z h5.out HG.out (by omega) nm to hnm hto)
      have HB5 : Hid (Below B w v5) := HB0.out.trans (((Below.refl B W).drew).trans h6.out.1)
      clear h6 HCR
      go_wp2_with fail
      refine hK2.out _ _ (by (try dsimp only); exact zz5) (fun hq => ?_)
      clear hK2 K2
      (try simp only [List.getElem_toArray]); (try simp only [List.getElem_cons_succ]); (try simp only [List.getElem_cons_zero]); (try simp only [Act.put]); (try simp only [List.setIfInBounds_toArray]); (try simp only [List.set_cons_succ]); (try simp only [List.set_cons_zero])
      refine wpAnyH_ready (rs := [11]) (by kernel_rfl) (by simp) ?_
      refine AllReadyH.cons rfl (fun K2 hK2 => ?_) AllReadyH.nil
      go_simp
      refine HRC.out.mono ?_
      rintro e v6 ⟨k2, rfl, hk2, h7, h8⟩
      obtain rfl : k2 = k1 := hk2.out.trans hk1.out.symm
      have HQ := Lib.hid (⟨_, h7.out.two, HN.out.rename nm to, len_rename S nm to, HB5.out.trans h8.out.1⟩ : ∃ S', Hid (Two B d r v6 S' S') ∧ Hid (Nm S') ∧ Hid (S'.fs.length ≤ S.fs.length + 1) ∧ Hid (Below B w v6))
      have zz6 : v6.cell? ⟨z, 1, none⟩ = some (.string nm) ∧ v6.cell? ⟨z, 2, none⟩ = some (.string to) := ⟨(World.cell?_of_block (a := ⟨z, 1, none⟩) h8.out.2).trans zz5.1, (World.cell?_of_block (a := ⟨z, 2, none⟩) h8.out.2).trans zz5.2⟩
      clear h7 h8 h5 hk1 hk2 HRC
      go_wp2_with fail
      refine hK2.out _ _ (by (try dsimp only); exact zz6) (fun hq => ?_)
      clear hK2 K2
      (try simp only [List.getElem_toArray]); (try simp only [List.getElem_cons_succ]); (try simp only [List.getElem_cons_zero]); (try simp only [Act.put]); (try simp only [List.setIfInBounds_toArray]); (try simp only [List.set_cons_succ]); (try simp only [List.set_cons_zero])
      (refine wpAnyH_take (i := 12) (v := ?_) rfl (by kernel_rfl) (by kernel_rfl) (by kernel_rfl) (fun _ _ _ h => h) (Or.inl ⟨by rfl, ?_⟩) (by assumption) ?_; rotate_left; (intro w hSw; (try dsimp only at hSw); obtain ⟨s0, s1⟩ := hSw; go_simp; try with_reducible rfl); ((try simp only [List.getElem_toArray]); (try simp only [List.getElem_cons_succ]); (try simp only [List.getElem_cons_zero]); (try simp only [Act.put]); (try simp only [List.setIfInBounds_toArray]); (try simp only [List.set_cons_succ]); (try simp only [List.set_cons_zero])))
      (refine wpAnyH_take (i := 13) (v := ?_) rfl (by kernel_rfl) (by kernel_rfl) (by kernel_rfl) (fun _ _ _ h => h) (Or.inl ⟨by rfl, ?_⟩) (by assumption) ?_; rotate_left; (intro w hSw; (try dsimp only at hSw); obtain ⟨s0, s1⟩ := hSw; go_simp; try with_reducible rfl); ((try simp only [List.getElem_toArray]); (try simp only [List.getElem_cons_succ]); (try simp only [List.getElem_cons_zero]); (try simp only [Act.put]); (try simp only [List.setIfInBounds_toArray]); (try simp only [List.set_cons_succ]); (try simp only [List.set_cons_zero])))
      refine wpAnyH_done (by kernel_rfl) ?_ _
      go_wp2_with fail
      go_ret
      exact ⟨rfl, HQ.out⟩
    by_cases k4 : kd = 4
    · subst k4
      have HZD := Lib.hid (HZ.out.below (Below.refl W.heap.size W).drew)
      have zd1 : W.drew.cell? ⟨z, 1, none⟩ = some (.string nm) := z1
      have HCR := Lib.hid (remove_z HZD.out nm hnm)
      go_wp2_with fail
      rw [← hW.out, ← hz.out]
      have hsz0 : W.drew.cell? ⟨z, 1, none⟩ = some (.string nm) := zd1
      refine wp_region_held_drew (S := fun X => X.cell? ⟨z, 1, none⟩ = some (.string nm)) (by kernel_rfl) hsz0 (fun _ => ?_)
      (refine wpAnyH_take (i := 0) (v := ?_) rfl (by kernel_rfl) (by kernel_rfl) (by kernel_rfl) (fun _ _ _ h => h) (Or.inl ⟨by rfl, ?_⟩) (by assumption) ?_; rotate_left; (intro w hSw; (try dsimp only at hSw); go_simp; try with_reducible rfl); ((try simp only [List.getElem_toArray]); (try simp only [List.getElem_cons_succ]); (try simp only [List.getElem_cons_zero]); (try simp only [Act.put]); (try simp only [List.setIfInBounds_toArray]); (try simp only [List.set_cons_succ]); (try simp only [List.set_cons_zero])))
      (refine wpAnyH_take (i := 1) (v := ?_) rfl (by kernel_rfl) (by kernel_rfl) (by kernel_rfl) (fun _ _ _ h => h) (Or.inl ⟨by rfl, ?_⟩) (by assumption) ?_; rotate_left; (intro w hSw; (try dsimp only at hSw); go_simp; try with_reducible rfl); ((try simp only [List.getElem_toArray]); (try simp only [List.getElem_cons_succ]); (try simp only [List.getElem_cons_zero]); (try simp only [Act.put]); (try simp only [List.setIfInBounds_toArray]); (try simp only [List.set_cons_succ]); (try simp only [List.set_cons_zero])))
      (refine wpAnyH_take (i := 2) (v := ?_) rfl (by kernel_rfl) (by kernel_rfl) (by kernel_rfl) (fun _ _ _ h => h) (Or.inl ⟨by rfl, ?_⟩) (by assumption) ?_; rotate_left; (intro w hSw; (try dsimp only at hSw); go_simp; try with_reducible rfl); ((try simp only [List.getElem_toArray]); (try simp only [List.getElem_cons_succ]); (try simp only [List.getElem_cons_zero]); (try simp only [Act.put]); (try simp only [List.setIfInBounds_toArray]); (try simp only [List.set_cons_succ]); (try simp only [List.set_cons_zero])))
      (refine wpAnyH_take (i := 4) (v := ?_) rfl (by kernel_rfl) (by kernel_rfl) (by kernel_rfl) (fun _ _ _ h => h) (Or.inl ⟨by rfl, ?_⟩) (by assumption) ?_; rotate_left; (intro w hSw; (try dsimp only at hSw); go_simp; try with_reducible rfl); ((try simp only [List.getElem_toArray]); (try simp only [List.getElem_cons_succ]); (try simp only [List.getElem_cons_zero]); (try simp only [Act.put]); (try simp only [List.setIfInBounds_toArray]); (try simp only [List.set_cons_succ]); (try simp only [List.set_cons_zero])))
      (refine wpAnyH_take (i := 5) (v := ?_) rfl (by kernel_rfl) (by kernel_rfl) (by kernel_rfl) (fun _ _ _ h => h) (Or.inl ⟨by rfl, ?_⟩) (by assumption) ?_; rotate_left; (intro w hSw; (try dsimp only at hSw); go_simp; try with_reducible rfl); ((try simp only [List.getElem_toArray]); (try simp only [List.getElem_cons_succ]); (try simp only [List.getElem_cons_zero]); (try simp only [Act.put]); (try simp only [List.setIfInBounds_toArray]); (try simp only [List.set_cons_succ]); (try simp only [List.set_cons_zero])))
      (refine wpAnyH_take (i := 6) (v := ?_) rfl (by kernel_rfl) (by kernel_rfl) (by kernel_rfl) (fun _ _ _ h => h) (Or.inl ⟨by rfl, ?_⟩) (by assumption) ?_; rotate_left; (intro w hSw; (try dsimp only at hSw); go_simp; try with_reducible rfl); ((try simp only [List.getElem_toArray]); (try simp only [List.getElem_cons_succ]); (try simp only [List.getElem_cons_zero]); (try simp only [Act.put]); (try simp only [List.setIfInBounds_toArray]); (try simp only [List.set_cons_succ]); (try simp only [List.set_cons_zero])))
      refine wpAnyH_ready (rs := [3]) (by kernel_rfl) (by simp) ?_
      refine AllReadyH.cons rfl (fun K2 hK2 => ?_) AllReadyH.nil
      go_simp
      refine HCR.out.mono ?_
      rintro e v5 ⟨k1, rfl, hk1, h5, h6⟩
      have zz5 : v5.cell? ⟨z, 1, none⟩ = some (.string nm) := (World.cell?_of_block (a := ⟨z, 1, none⟩) h6.out.2).trans zd1
      have HRC := Lib.hid (rremove_z h5.out HG.out (by omega) nm hnm)
      have HB5 : Hid (Below B w v5) := HB0.out.trans (((Below.refl B W).drew).trans h6.out.1)
      clear h6 HCR
      go_wp2_with fail
      refine hK2.out _ _ (by (try dsimp only); exact zz5) (fun hq => ?_)
      clear hK2 K2
      (try simp only [List.getElem_toArray]); (try simp only [List.getElem_cons_succ]); (try simp only [List.getElem_cons_zero]); (try simp only [Act.put]); (try simp only [List.setIfInBounds_toArray]); (try simp only [List.set_cons_succ]); (try simp only [List.set_cons_zero])
      refine wpAnyH_ready (rs := [7]) (by kernel_rfl) (by simp) ?_
      refine AllReadyH.cons rfl (fun K2 hK2 => ?_) AllReadyH.nil
      go_simp
      refine HRC.out.mono ?_
      rintro e v6 ⟨k2, rfl, hk2, h7, h8⟩
      obtain rfl : k2 = k1 := hk2.out.trans hk1.out.symm
      have HQ := Lib.hid (⟨_, h7.out.two, HN.out.remove nm, len_remove S nm, HB5.out.trans h8.out.1⟩ : ∃ S', Hid (Two B d r v6 S' S') ∧ Hid (Nm S') ∧ Hid (S'.fs.length ≤ S.fs.length + 1) ∧ Hid (Below B w v6))
      have zz6 : v6.cell? ⟨z, 1, none⟩ = some (.string nm) := (World.cell?_of_block (a := ⟨z, 1, none⟩) h8.out.2).trans zz5
      clear h7 h8 h5 hk1 hk2 HRC
      go_wp2_with fail
      refine hK2.out _ _ (by (try dsimp only); exact zz6) (fun hq => ?_)
      clear hK2 K2
      (try simp only [List.getElem_toArray]); (try simp only [List.getElem_cons_succ]); (try simp only [List.getElem_cons_zero]); (try simp only [Act.put]); (try simp only [List.setIfInBounds_toArray]); (try simp only [List.set_cons_succ]); (try simp only [List.set_cons_zero])
      (refine wpAnyH_take (i := 8) (v := ?_) rfl (by kernel_rfl) (by kernel_rfl) (by kernel_rfl) (fun _ _ _ h => h) (Or.inl ⟨by rfl, ?_⟩) (by assumption) ?_; rotate_left; (intro w hSw; (try dsimp only at hSw); go_simp; try with_reducible rfl); ((try simp only [List.getElem_toArray]); (try simp only [List.getElem_cons_succ]); (try simp only [List.getElem_cons_zero]); (try simp only [Act.put]); (try simp only [List.setIfInBounds_toArray]); (try simp only [List.set_cons_succ]); (try simp only [List.set_cons_zero])))
      (refine wpAnyH_take (i := 9) (v := ?_) rfl (by kernel_rfl) (by kernel_rfl) (by kernel_rfl) (fun _ _ _ h => h) (Or.inl ⟨by rfl, ?_⟩) (by assumption) ?_; rotate_left; (intro w hSw; (try dsimp only at hSw); go_simp; try with_reducible rfl); ((try simp only [List.getElem_toArray]); (try simp only [List.getElem_cons_succ]); (try simp only [List.getElem_cons_zero]); (try simp only [Act.put]); (try simp only [List.setIfInBounds_toArray]); (try simp only [List.set_cons_succ]); (try simp only [List.set_cons_zero])))
      refine wpAnyH_done (by kernel_rfl) ?_ _
      go_wp2_with fail
      go_ret
      exact ⟨rfl, HQ.out⟩
    by_cases k6 : kd = 6
    · subst k6
      have HCR := Lib.hid (arm_z HZ.out n hnr)
      go_wp2_with fail
      rw [← hW.out, ← hz.out]
      refine HCR.out.mono ?_
      rintro e v5 ⟨rfl, h5, h6⟩
      have y5 : v5.cell? ⟨z, 4, none⟩ = some (.int .i64 n) := (World.cell?_of_block (a := ⟨z, 4, none⟩) h6.out.2).trans z4
      have HB5 : Hid (Below B w v5) := HB0.out.trans h6.out.1
      have HRC := Lib.hid (rarm_z h5.out n hnr)
      clear h5 h6 HCR
      go_wp2_with fail
      refine HRC.out.mono ?_
      rintro e v6 ⟨rfl, h7, h8⟩
      have HQ := Lib.hid (⟨_, h7.out.two, HN.out, Nat.le_succ _, HB5.out.trans h8.out.1⟩ : ∃ S', Hid (Two B d r v6 S' S') ∧ Hid (Nm S') ∧ Hid (S'.fs.length ≤ S.fs.length + 1) ∧ Hid (Below B w v6))
      clear h7 h8 HRC
      go_wp2_with fail
      go_ret
      exact ⟨rfl, HQ.out⟩
    by_cases k7 : kd = 7
    · subst k7
      have HCR := Lib.hid (up_z HZ.out (by omega) K keep kn ck HKL.out hkb (HI.out _ (HB0.out)) HKB.out HRG.out)
      go_wp2_with fail
      rw [← hW.out, ← hz.out]
      refine HCR.out.mono ?_
      rintro e v5 ⟨rfl, h5, h6⟩
      have y5 : v5.cell? ⟨z, 5, none⟩ = some (.slice K kn ck) := (World.cell?_of_block (a := ⟨z, 5, none⟩) h6.out.2).trans z5
      have HB5 : Hid (Below B w v5) := HB0.out.trans h6.out.1
      have HRC := Lib.hid (rup_z h5.out HG.out (by omega) K keep kn ck HKL.out hkb (HI.out _ (HB5.out)) HKB.out HRG.out)
      clear h5 h6 HCR
      go_wp2_with fail
      refine HRC.out.mono ?_
      rintro e v6 ⟨rfl, h7, h8⟩
      have HQ := Lib.hid (⟨_, h7.out.two, HN.out.up keep, len_up S keep, HB5.out.trans h8.out.1⟩ : ∃ S', Hid (Two B d r v6 S' S') ∧ Hid (Nm S') ∧ Hid (S'.fs.length ≤ S.fs.length + 1) ∧ Hid (Below B w v6))
      clear h7 h8 HRC
      go_wp2_with fail
      go_ret
      exact ⟨rfl, HQ.out⟩
    by_cases k1 : kd = 1
    · subst k1
      have HFL : Hid ((bl.take 50).length = 50) := by show _ = _; rw [List.length_take]; have := HBL.out; omega
      have HRD : Hid (∀ X, Below B w X → Rd X bA (bl.take 50)) := fun X hX => (HBD.out X hX).take 50
      have HBY : Hid (∀ y ∈ (bl.take 50), y < 256) := fun y hy => HBB.out y (List.mem_of_mem_take hy)
      have HZD := Lib.hid (HZ.out.below (Below.refl W.heap.size W).drew)
      have zd1 : W.drew.cell? ⟨z, 1, none⟩ = some (.string nm) := z1
      have HBd : Hid (Below B w W.drew) := HB0.out.trans ((Below.refl B W).drew)
      have HCR := Lib.hid (append_z HZD.out nm hnm bA (bl.take 50) 50 bc HFL.out (HRD.out _ HBd.out) hA0 HBY.out)
      go_wp2_with fail
      rw [← hW.out, ← hz.out]
      have hsz0 : W.drew.cell? ⟨z, 1, none⟩ = some (.string nm) ∧ Hid (Rd W.drew bA (bl.take 50)) := ⟨zd1, HRD.out _ HBd.out⟩
      refine wp_region_held_drew (S := fun X => X.cell? ⟨z, 1, none⟩ = some (.string nm) ∧ Hid (Rd X bA (bl.take 50))) (by kernel_rfl) hsz0 (fun _ => ?_)
      (refine wpAnyH_take (i := 0) (v := ?_) rfl (by kernel_rfl) (by kernel_rfl) (by kernel_rfl) (fun _ _ _ h => h) (Or.inl ⟨by rfl, ?_⟩) (by assumption) ?_; rotate_left; (intro w hSw; (try dsimp only at hSw); obtain ⟨s1, s2⟩ := hSw; go_simp; try with_reducible rfl); ((try simp only [List.getElem_toArray]); (try simp only [List.getElem_cons_succ]); (try simp only [List.getElem_cons_zero]); (try simp only [Act.put]); (try simp only [List.setIfInBounds_toArray]); (try simp only [List.set_cons_succ]); (try simp only [List.set_cons_zero])))
      (refine wpAnyH_take (i := 1) (v := ?_) rfl (by kernel_rfl) (by kernel_rfl) (by kernel_rfl) (fun _ _ _ h => h) (Or.inl ⟨by rfl, ?_⟩) (by assumption) ?_; rotate_left; (intro w hSw; (try dsimp only at hSw); obtain ⟨s1, s2⟩ := hSw; go_simp; try with_reducible rfl); ((try simp only [List.getElem_toArray]); (try simp only [List.getElem_cons_succ]); (try simp only [List.getElem_cons_zero]); (try simp only [Act.put]); (try simp only [List.setIfInBounds_toArray]); (try simp only [List.set_cons_succ]); (try simp only [List.set_cons_zero])))
      (refine wpAnyH_take (i := 2) (v := ?_) rfl (by kernel_rfl) (by kernel_rfl) (by kernel_rfl) (fun _ _ _ h => h) (Or.inl ⟨by rfl, ?_⟩) (by assumption) ?_; rotate_left; (intro w hSw; (try dsimp only at hSw); obtain ⟨s1, s2⟩ := hSw; go_simp; try with_reducible rfl); ((try simp only [List.getElem_toArray]); (try simp only [List.getElem_cons_succ]); (try simp only [List.getElem_cons_zero]); (try simp only [Act.put]); (try simp only [List.setIfInBounds_toArray]); (try simp only [List.set_cons_succ]); (try simp only [List.set_cons_zero])))
      (refine wpAnyH_take (i := 3) (v := ?_) rfl (by kernel_rfl) (by kernel_rfl) (by kernel_rfl) (fun _ _ _ h => h) (Or.inl ⟨by rfl, ?_⟩) (by assumption) ?_; rotate_left; (intro w hSw; (try dsimp only at hSw); obtain ⟨s1, s2⟩ := hSw; go_simp; try with_reducible rfl); ((try simp only [List.getElem_toArray]); (try simp only [List.getElem_cons_succ]); (try simp only [List.getElem_cons_zero]); (try simp only [Act.put]); (try simp only [List.setIfInBounds_toArray]); (try simp only [List.set_cons_succ]); (try simp only [List.set_cons_zero])))
      (refine wpAnyH_take (i := 5) (v := ?_) rfl (by kernel_rfl) (by kernel_rfl) (by kernel_rfl) (fun _ _ _ h => h) (Or.inl ⟨by rfl, ?_⟩) (by assumption) ?_; rotate_left; (intro w hSw; (try dsimp only at hSw); obtain ⟨s1, s2⟩ := hSw; go_simp; try with_reducible rfl); ((try simp only [List.getElem_toArray]); (try simp only [List.getElem_cons_succ]); (try simp only [List.getElem_cons_zero]); (try simp only [Act.put]); (try simp only [List.setIfInBounds_toArray]); (try simp only [List.set_cons_succ]); (try simp only [List.set_cons_zero])))
      (refine wpAnyH_take (i := 6) (v := ?_) rfl (by kernel_rfl) (by kernel_rfl) (by kernel_rfl) (fun _ _ _ h => h) (Or.inl ⟨by rfl, ?_⟩) (by assumption) ?_; rotate_left; (intro w hSw; (try dsimp only at hSw); obtain ⟨s1, s2⟩ := hSw; go_simp; try with_reducible rfl); ((try simp only [List.getElem_toArray]); (try simp only [List.getElem_cons_succ]); (try simp only [List.getElem_cons_zero]); (try simp only [Act.put]); (try simp only [List.setIfInBounds_toArray]); (try simp only [List.set_cons_succ]); (try simp only [List.set_cons_zero])))
      (refine wpAnyH_take (i := 7) (v := ?_) rfl (by kernel_rfl) (by kernel_rfl) (by kernel_rfl) (fun _ _ _ h => h) (Or.inl ⟨by rfl, ?_⟩) (by assumption) ?_; rotate_left; (intro w hSw; (try dsimp only at hSw); obtain ⟨s1, s2⟩ := hSw; go_simp; try with_reducible rfl); ((try simp only [List.getElem_toArray]); (try simp only [List.getElem_cons_succ]); (try simp only [List.getElem_cons_zero]); (try simp only [Act.put]); (try simp only [List.setIfInBounds_toArray]); (try simp only [List.set_cons_succ]); (try simp only [List.set_cons_zero])))
      (refine wpAnyH_take (i := 8) (v := ?_) rfl (by kernel_rfl) (by kernel_rfl) (by kernel_rfl) (fun _ _ _ h => h) (Or.inl ⟨by rfl, ?_⟩) (by assumption) ?_; rotate_left; (intro w hSw; (try dsimp only at hSw); obtain ⟨s1, s2⟩ := hSw; go_simp; try with_reducible rfl); ((try simp only [List.getElem_toArray]); (try simp only [List.getElem_cons_succ]); (try simp only [List.getElem_cons_zero]); (try simp only [Act.put]); (try simp only [List.setIfInBounds_toArray]); (try simp only [List.set_cons_succ]); (try simp only [List.set_cons_zero])))
      (refine wpAnyH_take (i := 9) (v := ?_) rfl (by kernel_rfl) (by kernel_rfl) (by kernel_rfl) (fun _ _ _ h => h) (Or.inl ⟨by rfl, ?_⟩) (by assumption) ?_; rotate_left; (intro w hSw; (try dsimp only at hSw); obtain ⟨s1, s2⟩ := hSw; have hcv := conv_len w bA (bl.take 50) 50 bc HFL.out s2.out; go_simp; try with_reducible rfl); ((try simp only [List.getElem_toArray]); (try simp only [List.getElem_cons_succ]); (try simp only [List.getElem_cons_zero]); (try simp only [Act.put]); (try simp only [List.setIfInBounds_toArray]); (try simp only [List.set_cons_succ]); (try simp only [List.set_cons_zero])))
      refine wpAnyH_ready (rs := [4]) (by kernel_rfl) (by simp) ?_
      refine AllReadyH.cons rfl (fun K2 hK2 => ?_) AllReadyH.nil
      go_simp
      refine HCR.out.mono ?_
      rintro e v5 ⟨k1, rfl, hk1, h5, h6⟩
      have HB5 : Hid (Below B w v5) := HBd.out.trans h6.out.1
      have zz5 : v5.cell? ⟨z, 1, none⟩ = some (.string nm) ∧ Hid (Rd v5 bA (bl.take 50)) := ⟨(World.cell?_of_block (a := ⟨z, 1, none⟩) h6.out.2).trans zd1, HRD.out _ HB5.out⟩
      have HRC := Lib.hid (rappend_z h5.out HG.out (by omega) nm hnm (bl.take 50) (by rw [HFL.out]; omega))
      clear h6 HCR
      go_wp2_with fail
      refine hK2.out _ _ (by (try dsimp only); exact zz5) (fun hq => ?_)
      clear hK2 K2
      (try simp only [List.getElem_toArray]); (try simp only [List.getElem_cons_succ]); (try simp only [List.getElem_cons_zero]); (try simp only [Act.put]); (try simp only [List.setIfInBounds_toArray]); (try simp only [List.set_cons_succ]); (try simp only [List.set_cons_zero])
      refine wpAnyH_ready (rs := [10]) (by kernel_rfl) (by simp) ?_
      refine AllReadyH.cons rfl (fun K2 hK2 => ?_) AllReadyH.nil
      go_simp
      refine HRC.out.mono ?_
      rintro e v6 ⟨k2, rfl, hk2, h7, h8⟩
      obtain rfl : k2 = k1 := hk2.out.trans hk1.out.symm
      have HB6 : Hid (Below B w v6) := HB5.out.trans h8.out.1
      have HQ := Lib.hid (⟨_, h7.out.two, HN.out.append nm (bl.take 50), len_append S nm (bl.take 50), HB6.out⟩ : ∃ S', Hid (Two B d r v6 S' S') ∧ Hid (Nm S') ∧ Hid (S'.fs.length ≤ S.fs.length + 1) ∧ Hid (Below B w v6))
      have zz6 : v6.cell? ⟨z, 1, none⟩ = some (.string nm) ∧ Hid (Rd v6 bA (bl.take 50)) := ⟨(World.cell?_of_block (a := ⟨z, 1, none⟩) h8.out.2).trans zz5.1, HRD.out _ HB6.out⟩
      clear h7 h8 h5 hk1 hk2 HRC
      go_wp2_with fail
      refine hK2.out _ _ (by (try dsimp only); exact zz6) (fun hq => ?_)
      clear hK2 K2
      (try simp only [List.getElem_toArray]); (try simp only [List.getElem_cons_succ]); (try simp only [List.getElem_cons_zero]); (try simp only [Act.put]); (try simp only [List.setIfInBounds_toArray]); (try simp only [List.set_cons_succ]); (try simp only [List.set_cons_zero])
      (refine wpAnyH_take (i := 11) (v := ?_) rfl (by kernel_rfl) (by kernel_rfl) (by kernel_rfl) (fun _ _ _ h => h) (Or.inl ⟨by rfl, ?_⟩) (by assumption) ?_; rotate_left; (intro w hSw; (try dsimp only at hSw); obtain ⟨s1, s2⟩ := hSw; go_simp; try with_reducible rfl); ((try simp only [List.getElem_toArray]); (try simp only [List.getElem_cons_succ]); (try simp only [List.getElem_cons_zero]); (try simp only [Act.put]); (try simp only [List.setIfInBounds_toArray]); (try simp only [List.set_cons_succ]); (try simp only [List.set_cons_zero])))
      (refine wpAnyH_take (i := 12) (v := ?_) rfl (by kernel_rfl) (by kernel_rfl) (by kernel_rfl) (fun _ _ _ h => h) (Or.inl ⟨by rfl, ?_⟩) (by assumption) ?_; rotate_left; (intro w hSw; (try dsimp only at hSw); obtain ⟨s1, s2⟩ := hSw; go_simp; try with_reducible rfl); ((try simp only [List.getElem_toArray]); (try simp only [List.getElem_cons_succ]); (try simp only [List.getElem_cons_zero]); (try simp only [Act.put]); (try simp only [List.setIfInBounds_toArray]); (try simp only [List.set_cons_succ]); (try simp only [List.set_cons_zero])))
      refine wpAnyH_done (by kernel_rfl) ?_ _
      go_wp2_with fail
      go_ret
      exact ⟨rfl, HQ.out⟩
    have HCR := Lib.hid (read_dk HZ.out.two.dk nm hnm)
    go_wp2_with fail
    rw [← hW.out, ← hz.out]
    refine HCR.out.mono ?_
    rintro e v5 ⟨A5, n5, c5, k5, rfl, hk5, hl5, hown, hrd, hb5⟩
    have y5 : v5.cell? ⟨z, 1, none⟩ = some (.string nm) := (World.cell?_of_block (a := ⟨z, 1, none⟩) (hb5.out.block z HS1.out.lt)).trans z1
    have H5 := Lib.hid (HZ.out.below hb5.out)
    obtain ⟨v, ra, hr⟩ := H5.out.two.rin
    have HRC := Lib.hid (rread_any hr HG.out (by omega) nm hnm)
    have HK5 := Lib.hid hk5.out
    have HRD := Lib.hid hrd.out
    have HL5 := Lib.hid hl5.out
    have HB5 : Hid (Below B w v5) := HB0.out.trans (hb5.out.mono HZ.out.two.size)
    clear hr hk5 hown hrd hl5 hb5 HCR
    go_wp2_with fail
    refine HRC.out.mono ?_
    rintro e v6 ⟨k6, rfl, hk6, hb6⟩
    obtain rfl : k6 = k5 := hk6.out.trans HK5.out.symm
    have hcv : Sem.run Try.prog (convert 28 9 (.slice A5 n5 c5)) v6 = .ok (.string (bs (readD S nm).1)) v6 := conv_len v6 A5 _ n5 c5 HL5.out (Rd.block HRD.out hb6.out)
    have HQ : Hid (∃ S', Hid (Two B d r v6 S' S') ∧ Hid (Nm S') ∧ Hid (S'.fs.length ≤ S.fs.length + 1) ∧ Hid (Below B w v6)) := ⟨S, H5.out.two.below hb6.out, HN.out, Nat.le_succ _, HB5.out.trans (hb6.out.mono H5.out.two.size)⟩
    clear hk6 hb6 HRC
    generalize bs (readD S nm).1 = sx at *
    go_wp2_with fail
    go_ret
    exact ⟨rfl, HQ.out⟩
  · by_cases k0 : kd = 0
    · subst k0
      have HZD := Lib.hid (HZ.out.below (Below.refl W.heap.size W).drew)
      have zd1 : W.drew.cell? ⟨z, 1, none⟩ = some (.string nm) := z1
      have HCR := Lib.hid (create_z HZD.out nm hnm (by omega))
      go_wp2_with fail
      rw [← hW.out, ← hz.out]
      have hsz0 : W.drew.cell? ⟨z, 1, none⟩ = some (.string nm) := zd1
      refine wp_region_held_drew (S := fun X => X.cell? ⟨z, 1, none⟩ = some (.string nm)) (by kernel_rfl) hsz0 (fun _ => ?_)
      (refine wpAnyH_take (i := 0) (v := ?_) rfl (by kernel_rfl) (by kernel_rfl) (by kernel_rfl) (fun _ _ _ h => h) (Or.inl ⟨by rfl, ?_⟩) (by assumption) ?_; rotate_left; (intro w hSw; (try dsimp only at hSw); go_simp; try with_reducible rfl); ((try simp only [List.getElem_toArray]); (try simp only [List.getElem_cons_succ]); (try simp only [List.getElem_cons_zero]); (try simp only [Act.put]); (try simp only [List.setIfInBounds_toArray]); (try simp only [List.set_cons_succ]); (try simp only [List.set_cons_zero])))
      (refine wpAnyH_take (i := 1) (v := ?_) rfl (by kernel_rfl) (by kernel_rfl) (by kernel_rfl) (fun _ _ _ h => h) (Or.inl ⟨by rfl, ?_⟩) (by assumption) ?_; rotate_left; (intro w hSw; (try dsimp only at hSw); go_simp; try with_reducible rfl); ((try simp only [List.getElem_toArray]); (try simp only [List.getElem_cons_succ]); (try simp only [List.getElem_cons_zero]); (try simp only [Act.put]); (try simp only [List.setIfInBounds_toArray]); (try simp only [List.set_cons_succ]); (try simp only [List.set_cons_zero])))
      (refine wpAnyH_take (i := 2) (v := ?_) rfl (by kernel_rfl) (by kernel_rfl) (by kernel_rfl) (fun _ _ _ h => h) (Or.inl ⟨by rfl, ?_⟩) (by assumption) ?_; rotate_left; (intro w hSw; (try dsimp only at hSw); go_simp; try with_reducible rfl); ((try simp only [List.getElem_toArray]); (try simp only [List.getElem_cons_succ]); (try simp only [List.getElem_cons_zero]); (try simp only [Act.put]); (try simp only [List.setIfInBounds_toArray]); (try simp only [List.set_cons_succ]); (try simp only [List.set_cons_zero])))
      (refine wpAnyH_take (i := 4) (v := ?_) rfl (by kernel_rfl) (by kernel_rfl) (by kernel_rfl) (fun _ _ _ h => h) (Or.inl ⟨by rfl, ?_⟩) (by assumption) ?_; rotate_left; (intro w hSw; (try dsimp only at hSw); go_simp; try with_reducible rfl); ((try simp only [List.getElem_toArray]); (try simp only [List.getElem_cons_succ]); (try simp only [List.getElem_cons_zero]); (try simp only [Act.put]); (try simp only [List.setIfInBounds_toArray]); (try simp only [List.set_cons_succ]); (try simp only [List.set_cons_zero])))
      (refine wpAnyH_take (i := 5) (v := ?_) rfl (by kernel_rfl) (by kernel_rfl) (by kernel_rfl) (fun _ _ _ h => h) (Or.inl ⟨by rfl, ?_⟩) (by assumption) ?_; rotate_left; (intro w hSw; (try dsimp only at hSw); go_simp; try with_reducible rfl); ((try simp only [List.getElem_toArray]); (try simp only [List.getElem_cons_succ]); (try simp only [List.getElem_cons_zero]); (try simp only [Act.put]); (try simp only [List.setIfInBounds_toArray]); (try simp only [List.set_cons_succ]); (try simp only [List.set_cons_zero])))
      (refine wpAnyH_take (i := 6) (v := ?_) rfl (by kernel_rfl) (by kernel_rfl) (by kernel_rfl) (fun _ _ _ h => h) (Or.inl ⟨by rfl, ?_⟩) (by assumption) ?_; rotate_left; (intro w hSw; (try dsimp only at hSw); go_simp; try with_reducible rfl); ((try simp only [List.getElem_toArray]); (try simp only [List.getElem_cons_succ]); (try simp only [List.getElem_cons_zero]); (try simp only [Act.put]); (try simp only [List.setIfInBounds_toArray]); (try simp only [List.set_cons_succ]); (try simp only [List.set_cons_zero])))
      refine wpAnyH_ready (rs := [3]) (by kernel_rfl) (by simp) ?_
      refine AllReadyH.cons rfl (fun K2 hK2 => ?_) AllReadyH.nil
      go_simp
      refine HCR.out.mono ?_
      rintro e v5 ⟨k1, rfl, hk1, h5, h6⟩
      have zz5 : v5.cell? ⟨z, 1, none⟩ = some (.string nm) := (World.cell?_of_block (a := ⟨z, 1, none⟩) h6.out.2).trans zd1
      have HRC := Lib.hid (rcreate_z h5.out HG.out (by omega) nm hnm)
      have HB5 : Hid (Below B w v5) := HB0.out.trans (((Below.refl B W).drew).trans h6.out.1)
      clear h6 HCR
      go_wp2_with fail
      refine hK2.out _ _ (by (try dsimp only); exact zz5) (fun hq => ?_)
      clear hK2 K2
      (try simp only [List.getElem_toArray]); (try simp only [List.getElem_cons_succ]); (try simp only [List.getElem_cons_zero]); (try simp only [Act.put]); (try simp only [List.setIfInBounds_toArray]); (try simp only [List.set_cons_succ]); (try simp only [List.set_cons_zero])
      refine wpAnyH_ready (rs := [7]) (by kernel_rfl) (by simp) ?_
      refine AllReadyH.cons rfl (fun K2 hK2 => ?_) AllReadyH.nil
      go_simp
      refine HRC.out.mono ?_
      rintro e v6 ⟨k2, rfl, hk2, h7, h8⟩
      obtain rfl : k2 = k1 := hk2.out.trans hk1.out.symm
      have HQ := Lib.hid (⟨_, h7.out.two, HN.out.create nm, len_create S nm, HB5.out.trans h8.out.1⟩ : ∃ S', Hid (Two B d r v6 S' S') ∧ Hid (Nm S') ∧ Hid (S'.fs.length ≤ S.fs.length + 1) ∧ Hid (Below B w v6))
      have zz6 : v6.cell? ⟨z, 1, none⟩ = some (.string nm) := (World.cell?_of_block (a := ⟨z, 1, none⟩) h8.out.2).trans zz5
      clear h7 h8 h5 hk1 hk2 HRC
      go_wp2_with fail
      refine hK2.out _ _ (by (try dsimp only); exact zz6) (fun hq => ?_)
      clear hK2 K2
      (try simp only [List.getElem_toArray]); (try simp only [List.getElem_cons_succ]); (try simp only [List.getElem_cons_zero]); (try simp only [Act.put]); (try simp only [List.setIfInBounds_toArray]); (try simp only [List.set_cons_succ]); (try simp only [List.set_cons_zero])
      (refine wpAnyH_take (i := 8) (v := ?_) rfl (by kernel_rfl) (by kernel_rfl) (by kernel_rfl) (fun _ _ _ h => h) (Or.inl ⟨by rfl, ?_⟩) (by assumption) ?_; rotate_left; (intro w hSw; (try dsimp only at hSw); go_simp; try with_reducible rfl); ((try simp only [List.getElem_toArray]); (try simp only [List.getElem_cons_succ]); (try simp only [List.getElem_cons_zero]); (try simp only [Act.put]); (try simp only [List.setIfInBounds_toArray]); (try simp only [List.set_cons_succ]); (try simp only [List.set_cons_zero])))
      (refine wpAnyH_take (i := 9) (v := ?_) rfl (by kernel_rfl) (by kernel_rfl) (by kernel_rfl) (fun _ _ _ h => h) (Or.inl ⟨by rfl, ?_⟩) (by assumption) ?_; rotate_left; (intro w hSw; (try dsimp only at hSw); go_simp; try with_reducible rfl); ((try simp only [List.getElem_toArray]); (try simp only [List.getElem_cons_succ]); (try simp only [List.getElem_cons_zero]); (try simp only [Act.put]); (try simp only [List.setIfInBounds_toArray]); (try simp only [List.set_cons_succ]); (try simp only [List.set_cons_zero])))
      refine wpAnyH_done (by kernel_rfl) ?_ _
      go_wp2_with fail
      go_ret
      exact ⟨rfl, HQ.out⟩
    by_cases k2 : kd = 2
    · subst k2
      have HZD := Lib.hid (HZ.out.below (Below.refl W.heap.size W).drew)
      have zd1 : W.drew.cell? ⟨z, 1, none⟩ = some (.string nm) := z1
      have HCR := Lib.hid (sync_z HZD.out nm hnm)
      go_wp2_with fail
      rw [← hW.out, ← hz.out]
      have hsz0 : W.drew.cell? ⟨z, 1, none⟩ = some (.string nm) := zd1
      refine wp_region_held_drew (S := fun X => X.cell? ⟨z, 1, none⟩ = some (.string nm)) (by kernel_rfl) hsz0 (fun _ => ?_)
      (refine wpAnyH_take (i := 0) (v := ?_) rfl (by kernel_rfl) (by kernel_rfl) (by kernel_rfl) (fun _ _ _ h => h) (Or.inl ⟨by rfl, ?_⟩) (by assumption) ?_; rotate_left; (intro w hSw; (try dsimp only at hSw); go_simp; try with_reducible rfl); ((try simp only [List.getElem_toArray]); (try simp only [List.getElem_cons_succ]); (try simp only [List.getElem_cons_zero]); (try simp only [Act.put]); (try simp only [List.setIfInBounds_toArray]); (try simp only [List.set_cons_succ]); (try simp only [List.set_cons_zero])))
      (refine wpAnyH_take (i := 1) (v := ?_) rfl (by kernel_rfl) (by kernel_rfl) (by kernel_rfl) (fun _ _ _ h => h) (Or.inl ⟨by rfl, ?_⟩) (by assumption) ?_; rotate_left; (intro w hSw; (try dsimp only at hSw); go_simp; try with_reducible rfl); ((try simp only [List.getElem_toArray]); (try simp only [List.getElem_cons_succ]); (try simp only [List.getElem_cons_zero]); (try simp only [Act.put]); (try simp only [List.setIfInBounds_toArray]); (try simp only [List.set_cons_succ]); (try simp only [List.set_cons_zero])))
      (refine wpAnyH_take (i := 2) (v := ?_) rfl (by kernel_rfl) (by kernel_rfl) (by kernel_rfl) (fun _ _ _ h => h) (Or.inl ⟨by rfl, ?_⟩) (by assumption) ?_; rotate_left; (intro w hSw; (try dsimp only at hSw); go_simp; try with_reducible rfl); ((try simp only [List.getElem_toArray]); (try simp only [List.getElem_cons_succ]); (try simp only [List.getElem_cons_zero]); (try simp only [Act.put]); (try simp only [List.setIfInBounds_toArray]); (try simp only [List.set_cons_succ]); (try simp only [List.set_cons_zero])))
      (refine wpAnyH_take (i := 4) (v := ?_) rfl (by kernel_rfl) (by kernel_rfl) (by kernel_rfl) (fun _ _ _ h => h) (Or.inl ⟨by rfl, ?_⟩) (by assumption) ?_; rotate_left; (intro w hSw; (try dsimp only at hSw); go_simp; try with_reducible rfl); ((try simp only [List.getElem_toArray]); (try simp only [List.getElem_cons_succ]); (try simp only [List.getElem_cons_zero]); (try simp only [Act.put]); (try simp only [List.setIfInBounds_toArray]); (try simp only [List.set_cons_succ]); (try simp only [List.set_cons_zero])))
      (refine wpAnyH_take (i := 5) (v := ?_) rfl (by kernel_rfl) (by kernel_rfl) (by kernel_rfl) (fun _ _ _ h => h) (Or.inl ⟨by rfl, ?_⟩) (by assumption) ?_; rotate_left; (intro w hSw; (try dsimp only at hSw); go_simp; try with_reducible rfl); ((try simp only [List.getElem_toArray]); (try simp only [List.getElem_cons_succ]); (try simp only [List.getElem_cons_zero]); (try simp only [Act.put]); (try simp only [List.setIfInBounds_toArray]); (try simp only [List.set_cons_succ]); (try simp only [List.set_cons_zero])))
      (refine wpAnyH_take (i := 6) (v := ?_) rfl (by kernel_rfl) (by kernel_rfl) (by kernel_rfl) (fun _ _ _ h => h) (Or.inl ⟨by rfl, ?_⟩) (by assumption) ?_; rotate_left; (intro w hSw; (try dsimp only at hSw); go_simp; try with_reducible rfl); ((try simp only [List.getElem_toArray]); (try simp only [List.getElem_cons_succ]); (try simp only [List.getElem_cons_zero]); (try simp only [Act.put]); (try simp only [List.setIfInBounds_toArray]); (try simp only [List.set_cons_succ]); (try simp only [List.set_cons_zero])))
      refine wpAnyH_ready (rs := [3]) (by kernel_rfl) (by simp) ?_
      refine AllReadyH.cons rfl (fun K2 hK2 => ?_) AllReadyH.nil
      go_simp
      refine HCR.out.mono ?_
      rintro e v5 ⟨k1, rfl, hk1, h5, h6⟩
      have zz5 : v5.cell? ⟨z, 1, none⟩ = some (.string nm) := (World.cell?_of_block (a := ⟨z, 1, none⟩) h6.out.2).trans zd1
      have HRC := Lib.hid (rsync_z h5.out HG.out (by omega) nm hnm)
      have HB5 : Hid (Below B w v5) := HB0.out.trans (((Below.refl B W).drew).trans h6.out.1)
      clear h6 HCR
      go_wp2_with fail
      refine hK2.out _ _ (by (try dsimp only); exact zz5) (fun hq => ?_)
      clear hK2 K2
      (try simp only [List.getElem_toArray]); (try simp only [List.getElem_cons_succ]); (try simp only [List.getElem_cons_zero]); (try simp only [Act.put]); (try simp only [List.setIfInBounds_toArray]); (try simp only [List.set_cons_succ]); (try simp only [List.set_cons_zero])
      refine wpAnyH_ready (rs := [7]) (by kernel_rfl) (by simp) ?_
      refine AllReadyH.cons rfl (fun K2 hK2 => ?_) AllReadyH.nil
      go_simp
      refine HRC.out.mono ?_
      rintro e v6 ⟨k2, rfl, hk2, h7, h8⟩
      obtain rfl : k2 = k1 := hk2.out.trans hk1.out.symm
      have HQ := Lib.hid (⟨_, h7.out.two, HN.out.sync nm, len_sync S nm, HB5.out.trans h8.out.1⟩ : ∃ S', Hid (Two B d r v6 S' S') ∧ Hid (Nm S') ∧ Hid (S'.fs.length ≤ S.fs.length + 1) ∧ Hid (Below B w v6))
      have zz6 : v6.cell? ⟨z, 1, none⟩ = some (.string nm) := (World.cell?_of_block (a := ⟨z, 1, none⟩) h8.out.2).trans zz5
      clear h7 h8 h5 hk1 hk2 HRC
      go_wp2_with fail
      refine hK2.out _ _ (by (try dsimp only); exact zz6) (fun hq => ?_)
      clear hK2 K2
      (try simp only [List.getElem_toArray]); (try simp only [List.getElem_cons_succ]); (try simp only [List.getElem_cons_zero]); (try simp only [Act.put]); (try simp only [List.setIfInBounds_toArray]); (try simp only [List.set_cons_succ]); (try simp only [List.set_cons_zero])
      (refine wpAnyH_take (i := 8) (v := ?_) rfl (by kernel_rfl) (by kernel_rfl) (by kernel_rfl) (fun _ _ _ h => h) (Or.inl ⟨by rfl, ?_⟩) (by assumption) ?_; rotate_left; (intro w hSw; (try dsimp only at hSw); go_simp; try with_reducible rfl); ((try simp only [List.getElem_toArray]); (try simp only [List.getElem_cons_succ]); (try simp only [List.getElem_cons_zero]); (try simp only [Act.put]); (try simp only [List.setIfInBounds_toArray]); (try simp only [List.set_cons_succ]); (try simp only [List.set_cons_zero])))
      (refine wpAnyH_take (i := 9) (v := ?_) rfl (by kernel_rfl) (by kernel_rfl) (by kernel_rfl) (fun _ _ _ h => h) (Or.inl ⟨by rfl, ?_⟩) (by assumption) ?_; rotate_left; (intro w hSw; (try dsimp only at hSw); go_simp; try with_reducible rfl); ((try simp only [List.getElem_toArray]); (try simp only [List.getElem_cons_succ]); (try simp only [List.getElem_cons_zero]); (try simp only [Act.put]); (try simp only [List.setIfInBounds_toArray]); (try simp only [List.set_cons_succ]); (try simp only [List.set_cons_zero])))
      refine wpAnyH_done (by kernel_rfl) ?_ _
      go_wp2_with fail
      go_ret
      exact ⟨rfl, HQ.out⟩
    by_cases k3 : kd = 3
    · subst k3
      have HZD := Lib.hid (HZ.out.below (Below.refl W.heap.size W).drew)
      have zd1 : W.drew.cell? ⟨z, 1, none⟩ = some (.string nm) := z1
      have zd2 : W.drew.cell? ⟨z, 2, none⟩ = some (.string to) := z2
      have HCR := Lib.hid (rename_z HZD.out nm to hnm hto (by omega))
      go_wp2_with fail
      rw [← hW.out, ← hz.out]
      have hsz0 : W.drew.cell? ⟨z, 1, none⟩ = some (.string nm) ∧ W.drew.cell? ⟨z, 2, none⟩ = some (.string to) := ⟨zd1, zd2⟩
      refine wp_region_held_drew (S := fun X => X.cell? ⟨z, 1, none⟩ = some (.string nm) ∧ X.cell? ⟨z, 2, none⟩ = some (.string to)) (by kernel_rfl) hsz0 (fun _ => ?_)
      (refine wpAnyH_take (i := 0) (v := ?_) rfl (by kernel_rfl) (by kernel_rfl) (by kernel_rfl) (fun _ _ _ h => h) (Or.inl ⟨by rfl, ?_⟩) (by assumption) ?_; rotate_left; (intro w hSw; (try dsimp only at hSw); obtain ⟨s0, s1⟩ := hSw; go_simp; try with_reducible rfl); ((try simp only [List.getElem_toArray]); (try simp only [List.getElem_cons_succ]); (try simp only [List.getElem_cons_zero]); (try simp only [Act.put]); (try simp only [List.setIfInBounds_toArray]); (try simp only [List.set_cons_succ]); (try simp only [List.set_cons_zero])))
      (refine wpAnyH_take (i := 1) (v := ?_) rfl (by kernel_rfl) (by kernel_rfl) (by kernel_rfl) (fun _ _ _ h => h) (Or.inl ⟨by rfl, ?_⟩) (by assumption) ?_; rotate_left; (intro w hSw; (try dsimp only at hSw); obtain ⟨s0, s1⟩ := hSw; go_simp; try with_reducible rfl); ((try simp only [List.getElem_toArray]); (try simp only [List.getElem_cons_succ]); (try simp only [List.getElem_cons_zero]); (try simp only [Act.put]); (try simp only [List.setIfInBounds_toArray]); (try simp only [List.set_cons_succ]); (try simp only [List.set_cons_zero])))
      (refine wpAnyH_take (i := 2) (v := ?_) rfl (by kernel_rfl) (by kernel_rfl) (by kernel_rfl) (fun _ _ _ h => h) (Or.inl ⟨by rfl, ?_⟩) (by assumption) ?_; rotate_left; (intro w hSw; (try dsimp only at hSw); obtain ⟨s0, s1⟩ := hSw; go_simp; try with_reducible rfl); ((try simp only [List.getElem_toArray]); (try simp only [List.getElem_cons_succ]); (try simp only [List.getElem_cons_zero]); (try simp only [Act.put]); (try simp only [List.setIfInBounds_toArray]); (try simp only [List.set_cons_succ]); (try simp only [List.set_cons_zero])))
      (refine wpAnyH_take (i := 3) (v := ?_) rfl (by kernel_rfl) (by kernel_rfl) (by kernel_rfl) (fun _ _ _ h => h) (Or.inl ⟨by rfl, ?_⟩) (by assumption) ?_; rotate_left; (intro w hSw; (try dsimp only at hSw); obtain ⟨s0, s1⟩ := hSw; go_simp; try with_reducible rfl); ((try simp only [List.getElem_toArray]); (try simp only [List.getElem_cons_succ]); (try simp only [List.getElem_cons_zero]); (try simp only [Act.put]); (try simp only [List.setIfInBounds_toArray]); (try simp only [List.set_cons_succ]); (try simp only [List.set_cons_zero])))
      (refine wpAnyH_take (i := 4) (v := ?_) rfl (by kernel_rfl) (by kernel_rfl) (by kernel_rfl) (fun _ _ _ h => h) (Or.inl ⟨by rfl, ?_⟩) (by assumption) ?_; rotate_left; (intro w hSw; (try dsimp only at hSw); obtain ⟨s0, s1⟩ := hSw; go_simp; try with_reducible rfl); ((try simp only [List.getElem_toArray]); (try simp only [List.getElem_cons_succ]); (try simp only [List.getElem_cons_zero]); (try simp only [Act.put]); (try simp only [List.setIfInBounds_toArray]); (try simp only [List.set_cons_succ]); (try simp only [List.set_cons_zero])))
      (refine wpAnyH_take (i := 6) (v := ?_) rfl (by kernel_rfl) (by kernel_rfl) (by kernel_rfl) (fun _ _ _ h => h) (Or.inl ⟨by rfl, ?_⟩) (by assumption) ?_; rotate_left; (intro w hSw; (try dsimp only at hSw); obtain ⟨s0, s1⟩ := hSw; go_simp; try with_reducible rfl); ((try simp only [List.getElem_toArray]); (try simp only [List.getElem_cons_succ]); (try simp only [List.getElem_cons_zero]); (try simp only [Act.put]); (try simp only [List.setIfInBounds_toArray]); (try simp only [List.set_cons_succ]); (try simp only [List.set_cons_zero])))
      (refine wpAnyH_take (i := 7) (v := ?_) rfl (by kernel_rfl) (by kernel_rfl) (by kernel_rfl) (fun _ _ _ h => h) (Or.inl ⟨by rfl, ?_⟩) (by assumption) ?_; rotate_left; (intro w hSw; (try dsimp only at hSw); obtain ⟨s0, s1⟩ := hSw; go_simp; try with_reducible rfl); ((try simp only [List.getElem_toArray]); (try simp only [List.getElem_cons_succ]); (try simp only [List.getElem_cons_zero]); (try simp only [Act.put]); (try simp only [List.setIfInBounds_toArray]); (try simp only [List.set_cons_succ]); (try simp only [List.set_cons_zero])))
      (refine wpAnyH_take (i := 8) (v := ?_) rfl (by kernel_rfl) (by kernel_rfl) (by kernel_rfl) (fun _ _ _ h => h) (Or.inl ⟨by rfl, ?_⟩) (by assumption) ?_; rotate_left; (intro w hSw; (try dsimp only at hSw); obtain ⟨s0, s1⟩ := hSw; go_simp; try with_reducible rfl); ((try simp only [List.getElem_toArray]); (try simp only [List.getElem_cons_succ]); (try simp only [List.getElem_cons_zero]); (try simp only [Act.put]); (try simp only [List.setIfInBounds_toArray]); (try simp only [List.set_cons_succ]); (try simp only [List.set_cons_zero])))
      (refine wpAnyH_take (i := 9) (v := ?_) rfl (by kernel_rfl) (by kernel_rfl) (by kernel_rfl) (fun _ _ _ h => h) (Or.inl ⟨by rfl, ?_⟩) (by assumption) ?_; rotate_left; (intro w hSw; (try dsimp only at hSw); obtain ⟨s0, s1⟩ := hSw; go_simp; try with_reducible rfl); ((try simp only [List.getElem_toArray]); (try simp only [List.getElem_cons_succ]); (try simp only [List.getElem_cons_zero]); (try simp only [Act.put]); (try simp only [List.setIfInBounds_toArray]); (try simp only [List.set_cons_succ]); (try simp only [List.set_cons_zero])))
      (refine wpAnyH_take (i := 10) (v := ?_) rfl (by kernel_rfl) (by kernel_rfl) (by kernel_rfl) (fun _ _ _ h => h) (Or.inl ⟨by rfl, ?_⟩) (by assumption) ?_; rotate_left; (intro w hSw; (try dsimp only at hSw); obtain ⟨s0, s1⟩ := hSw; go_simp; try with_reducible rfl); ((try simp only [List.getElem_toArray]); (try simp only [List.getElem_cons_succ]); (try simp only [List.getElem_cons_zero]); (try simp only [Act.put]); (try simp only [List.setIfInBounds_toArray]); (try simp only [List.set_cons_succ]); (try simp only [List.set_cons_zero])))
      refine wpAnyH_ready (rs := [5]) (by kernel_rfl) (by simp) ?_
      refine AllReadyH.cons rfl (fun K2 hK2 => ?_) AllReadyH.nil
      go_simp
      refine HCR.out.mono ?_
      rintro e v5 ⟨k1, rfl, hk1, h5, h6⟩
      have zz5 : v5.cell? ⟨z, 1, none⟩ = some (.string nm) ∧ v5.cell? ⟨z, 2, none⟩ = some (.string to) := ⟨(World.cell?_of_block (a := ⟨z, 1, none⟩) h6.out.2).trans zd1, (World.cell?_of_block (a := ⟨z, 2, none⟩) h6.out.2).trans zd2⟩
      have HRC := Lib.hid (rrename_z h5.out HG.out (by omega) nm to hnm hto)
      have HB5 : Hid (Below B w v5) := HB0.out.trans (((Below.refl B W).drew).trans h6.out.1)
      clear h6 HCR
      go_wp2_with fail
      refine hK2.out _ _ (by (try dsimp only); exact zz5) (fun hq => ?_)
      clear hK2 K2
      (try simp only [List.getElem_toArray]); (try simp only [List.getElem_cons_succ]); (try simp only [List.getElem_cons_zero]); (try simp only [Act.put]); (try simp only [List.setIfInBounds_toArray]); (try simp only [List.set_cons_succ]); (try simp only [List.set_cons_zero])
      refine wpAnyH_ready (rs := [11]) (by kernel_rfl) (by simp) ?_
      refine AllReadyH.cons rfl (fun K2 hK2 => ?_) AllReadyH.nil
      go_simp
      refine HRC.out.mono ?_
      rintro e v6 ⟨k2, rfl, hk2, h7, h8⟩
      obtain rfl : k2 = k1 := hk2.out.trans hk1.out.symm
      have HQ := Lib.hid (⟨_, h7.out.two, HN.out.rename nm to, len_rename S nm to, HB5.out.trans h8.out.1⟩ : ∃ S', Hid (Two B d r v6 S' S') ∧ Hid (Nm S') ∧ Hid (S'.fs.length ≤ S.fs.length + 1) ∧ Hid (Below B w v6))
      have zz6 : v6.cell? ⟨z, 1, none⟩ = some (.string nm) ∧ v6.cell? ⟨z, 2, none⟩ = some (.string to) := ⟨(World.cell?_of_block (a := ⟨z, 1, none⟩) h8.out.2).trans zz5.1, (World.cell?_of_block (a := ⟨z, 2, none⟩) h8.out.2).trans zz5.2⟩
      clear h7 h8 h5 hk1 hk2 HRC
      go_wp2_with fail
      refine hK2.out _ _ (by (try dsimp only); exact zz6) (fun hq => ?_)
      clear hK2 K2
      (try simp only [List.getElem_toArray]); (try simp only [List.getElem_cons_succ]); (try simp only [List.getElem_cons_zero]); (try simp only [Act.put]); (try simp only [List.setIfInBounds_toArray]); (try simp only [List.set_cons_succ]); (try simp only [List.set_cons_zero])
      (refine wpAnyH_take (i := 12) (v := ?_) rfl (by kernel_rfl) (by kernel_rfl) (by kernel_rfl) (fun _ _ _ h => h) (Or.inl ⟨by rfl, ?_⟩) (by assumption) ?_; rotate_left; (intro w hSw; (try dsimp only at hSw); obtain ⟨s0, s1⟩ := hSw; go_simp; try with_reducible rfl); ((try simp only [List.getElem_toArray]); (try simp only [List.getElem_cons_succ]); (try simp only [List.getElem_cons_zero]); (try simp only [Act.put]); (try simp only [List.setIfInBounds_toArray]); (try simp only [List.set_cons_succ]); (try simp only [List.set_cons_zero])))
      (refine wpAnyH_take (i := 13) (v := ?_) rfl (by kernel_rfl) (by kernel_rfl) (by kernel_rfl) (fun _ _ _ h => h) (Or.inl ⟨by rfl, ?_⟩) (by assumption) ?_; rotate_left; (intro w hSw; (try dsimp only at hSw); obtain ⟨s0, s1⟩ := hSw; go_simp; try with_reducible rfl); ((try simp only [List.getElem_toArray]); (try simp only [List.getElem_cons_succ]); (try simp only [List.getElem_cons_zero]); (try simp only [Act.put]); (try simp only [List.setIfInBounds_toArray]); (try simp only [List.set_cons_succ]); (try simp only [List.set_cons_zero])))
      refine wpAnyH_done (by kernel_rfl) ?_ _
      go_wp2_with fail
      go_ret
      exact ⟨rfl, HQ.out⟩
    by_cases k4 : kd = 4
    · subst k4
      have HZD := Lib.hid (HZ.out.below (Below.refl W.heap.size W).drew)
      have zd1 : W.drew.cell? ⟨z, 1, none⟩ = some (.string nm) := z1
      have HCR := Lib.hid (remove_z HZD.out nm hnm)
      go_wp2_with fail
      rw [← hW.out, ← hz.out]
      have hsz0 : W.drew.cell? ⟨z, 1, none⟩ = some (.string nm) := zd1
      refine wp_region_held_drew (S := fun X => X.cell? ⟨z, 1, none⟩ = some (.string nm)) (by kernel_rfl) hsz0 (fun _ => ?_)
      (refine wpAnyH_take (i := 0) (v := ?_) rfl (by kernel_rfl) (by kernel_rfl) (by kernel_rfl) (fun _ _ _ h => h) (Or.inl ⟨by rfl, ?_⟩) (by assumption) ?_; rotate_left; (intro w hSw; (try dsimp only at hSw); go_simp; try with_reducible rfl); ((try simp only [List.getElem_toArray]); (try simp only [List.getElem_cons_succ]); (try simp only [List.getElem_cons_zero]); (try simp only [Act.put]); (try simp only [List.setIfInBounds_toArray]); (try simp only [List.set_cons_succ]); (try simp only [List.set_cons_zero])))
      (refine wpAnyH_take (i := 1) (v := ?_) rfl (by kernel_rfl) (by kernel_rfl) (by kernel_rfl) (fun _ _ _ h => h) (Or.inl ⟨by rfl, ?_⟩) (by assumption) ?_; rotate_left; (intro w hSw; (try dsimp only at hSw); go_simp; try with_reducible rfl); ((try simp only [List.getElem_toArray]); (try simp only [List.getElem_cons_succ]); (try simp only [List.getElem_cons_zero]); (try simp only [Act.put]); (try simp only [List.setIfInBounds_toArray]); (try simp only [List.set_cons_succ]); (try simp only [List.set_cons_zero])))
      (refine wpAnyH_take (i := 2) (v := ?_) rfl (by kernel_rfl) (by kernel_rfl) (by kernel_rfl) (fun _ _ _ h => h) (Or.inl ⟨by rfl, ?_⟩) (by assumption) ?_; rotate_left; (intro w hSw; (try dsimp only at hSw); go_simp; try with_reducible rfl); ((try simp only [List.getElem_toArray]); (try simp only [List.getElem_cons_succ]); (try simp only [List.getElem_cons_zero]); (try simp only [Act.put]); (try simp only [List.setIfInBounds_toArray]); (try simp only [List.set_cons_succ]); (try simp only [List.set_cons_zero])))
      (refine wpAnyH_take (i := 4) (v := ?_) rfl (by kernel_rfl) (by kernel_rfl) (by kernel_rfl) (fun _ _ _ h => h) (Or.inl ⟨by rfl, ?_⟩) (by assumption) ?_; rotate_left; (intro w hSw; (try dsimp only at hSw); go_simp; try with_reducible rfl); ((try simp only [List.getElem_toArray]); (try simp only [List.getElem_cons_succ]); (try simp only [List.getElem_cons_zero]); (try simp only [Act.put]); (try simp only [List.setIfInBounds_toArray]); (try simp only [List.set_cons_succ]); (try simp only [List.set_cons_zero])))
      (refine wpAnyH_take (i := 5) (v := ?_) rfl (by kernel_rfl) (by kernel_rfl) (by kernel_rfl) (fun _ _ _ h => h) (Or.inl ⟨by rfl, ?_⟩) (by assumption) ?_; rotate_left; (intro w hSw; (try dsimp only at hSw); go_simp; try with_reducible rfl); ((try simp only [List.getElem_toArray]); (try simp only [List.getElem_cons_succ]); (try simp only [List.getElem_cons_zero]); (try simp only [Act.put]); (try simp only [List.setIfInBounds_toArray]); (try simp only [List.set_cons_succ]); (try simp only [List.set_cons_zero])))
      (refine wpAnyH_take (i := 6) (v := ?_) rfl (by kernel_rfl) (by kernel_rfl) (by kernel_rfl) (fun _ _ _ h => h) (Or.inl ⟨by rfl, ?_⟩) (by assumption) ?_; rotate_left; (intro w hSw; (try dsimp only at hSw); go_simp; try with_reducible rfl); ((try simp only [List.getElem_toArray]); (try simp only [List.getElem_cons_succ]); (try simp only [List.getElem_cons_zero]); (try simp only [Act.put]); (try simp only [List.setIfInBounds_toArray]); (try simp only [List.set_cons_succ]); (try simp only [List.set_cons_zero])))
      refine wpAnyH_ready (rs := [3]) (by kernel_rfl) (by simp) ?_
      refine AllReadyH.cons rfl (fun K2 hK2 => ?_) AllReadyH.nil
      go_simp
      refine HCR.out.mono ?_
      rintro e v5 ⟨k1, rfl, hk1, h5, h6⟩
      have zz5 : v5.cell? ⟨z, 1, none⟩ = some (.string nm) := (World.cell?_of_block (a := ⟨z, 1, none⟩) h6.out.2).trans zd1
      have HRC := Lib.hid (rremove_z h5.out HG.out (by omega) nm hnm)
      have HB5 : Hid (Below B w v5) := HB0.out.trans (((Below.refl B W).drew).trans h6.out.1)
      clear h6 HCR
      go_wp2_with fail
      refine hK2.out _ _ (by (try dsimp only); exact zz5) (fun hq => ?_)
      clear hK2 K2
      (try simp only [List.getElem_toArray]); (try simp only [List.getElem_cons_succ]); (try simp only [List.getElem_cons_zero]); (try simp only [Act.put]); (try simp only [List.setIfInBounds_toArray]); (try simp only [List.set_cons_succ]); (try simp only [List.set_cons_zero])
      refine wpAnyH_ready (rs := [7]) (by kernel_rfl) (by simp) ?_
      refine AllReadyH.cons rfl (fun K2 hK2 => ?_) AllReadyH.nil
      go_simp
      refine HRC.out.mono ?_
      rintro e v6 ⟨k2, rfl, hk2, h7, h8⟩
      obtain rfl : k2 = k1 := hk2.out.trans hk1.out.symm
      have HQ := Lib.hid (⟨_, h7.out.two, HN.out.remove nm, len_remove S nm, HB5.out.trans h8.out.1⟩ : ∃ S', Hid (Two B d r v6 S' S') ∧ Hid (Nm S') ∧ Hid (S'.fs.length ≤ S.fs.length + 1) ∧ Hid (Below B w v6))
      have zz6 : v6.cell? ⟨z, 1, none⟩ = some (.string nm) := (World.cell?_of_block (a := ⟨z, 1, none⟩) h8.out.2).trans zz5
      clear h7 h8 h5 hk1 hk2 HRC
      go_wp2_with fail
      refine hK2.out _ _ (by (try dsimp only); exact zz6) (fun hq => ?_)
      clear hK2 K2
      (try simp only [List.getElem_toArray]); (try simp only [List.getElem_cons_succ]); (try simp only [List.getElem_cons_zero]); (try simp only [Act.put]); (try simp only [List.setIfInBounds_toArray]); (try simp only [List.set_cons_succ]); (try simp only [List.set_cons_zero])
      (refine wpAnyH_take (i := 8) (v := ?_) rfl (by kernel_rfl) (by kernel_rfl) (by kernel_rfl) (fun _ _ _ h => h) (Or.inl ⟨by rfl, ?_⟩) (by assumption) ?_; rotate_left; (intro w hSw; (try dsimp only at hSw); go_simp; try with_reducible rfl); ((try simp only [List.getElem_toArray]); (try simp only [List.getElem_cons_succ]); (try simp only [List.getElem_cons_zero]); (try simp only [Act.put]); (try simp only [List.setIfInBounds_toArray]); (try simp only [List.set_cons_succ]); (try simp only [List.set_cons_zero])))
      (refine wpAnyH_take (i := 9) (v := ?_) rfl (by kernel_rfl) (by kernel_rfl) (by kernel_rfl) (fun _ _ _ h => h) (Or.inl ⟨by rfl, ?_⟩) (by assumption) ?_; rotate_left; (intro w hSw; (try dsimp only at hSw); go_simp; try with_reducible rfl); ((try simp only [List.getElem_toArray]); (try simp only [List.getElem_cons_succ]); (try simp only [List.getElem_cons_zero]); (try simp only [Act.put]); (try simp only [List.setIfInBounds_toArray]); (try simp only [List.set_cons_succ]); (try simp only [List.set_cons_zero])))
      refine wpAnyH_done (by kernel_rfl) ?_ _
      go_wp2_with fail
      go_ret
      exact ⟨rfl, HQ.out⟩
    by_cases k6 : kd = 6
    · subst k6
      have HCR := Lib.hid (arm_z HZ.out n hnr)
      go_wp2_with fail
      rw [← hW.out, ← hz.out]
      refine HCR.out.mono ?_
      rintro e v5 ⟨rfl, h5, h6⟩
      have y5 : v5.cell? ⟨z, 4, none⟩ = some (.int .i64 n) := (World.cell?_of_block (a := ⟨z, 4, none⟩) h6.out.2).trans z4
      have HB5 : Hid (Below B w v5) := HB0.out.trans h6.out.1
      have HRC := Lib.hid (rarm_z h5.out n hnr)
      clear h5 h6 HCR
      go_wp2_with fail
      refine HRC.out.mono ?_
      rintro e v6 ⟨rfl, h7, h8⟩
      have HQ := Lib.hid (⟨_, h7.out.two, HN.out, Nat.le_succ _, HB5.out.trans h8.out.1⟩ : ∃ S', Hid (Two B d r v6 S' S') ∧ Hid (Nm S') ∧ Hid (S'.fs.length ≤ S.fs.length + 1) ∧ Hid (Below B w v6))
      clear h7 h8 HRC
      go_wp2_with fail
      go_ret
      exact ⟨rfl, HQ.out⟩
    by_cases k7 : kd = 7
    · subst k7
      have HCR := Lib.hid (up_z HZ.out (by omega) K keep kn ck HKL.out hkb (HI.out _ (HB0.out)) HKB.out HRG.out)
      go_wp2_with fail
      rw [← hW.out, ← hz.out]
      refine HCR.out.mono ?_
      rintro e v5 ⟨rfl, h5, h6⟩
      have y5 : v5.cell? ⟨z, 5, none⟩ = some (.slice K kn ck) := (World.cell?_of_block (a := ⟨z, 5, none⟩) h6.out.2).trans z5
      have HB5 : Hid (Below B w v5) := HB0.out.trans h6.out.1
      have HRC := Lib.hid (rup_z h5.out HG.out (by omega) K keep kn ck HKL.out hkb (HI.out _ (HB5.out)) HKB.out HRG.out)
      clear h5 h6 HCR
      go_wp2_with fail
      refine HRC.out.mono ?_
      rintro e v6 ⟨rfl, h7, h8⟩
      have HQ := Lib.hid (⟨_, h7.out.two, HN.out.up keep, len_up S keep, HB5.out.trans h8.out.1⟩ : ∃ S', Hid (Two B d r v6 S' S') ∧ Hid (Nm S') ∧ Hid (S'.fs.length ≤ S.fs.length + 1) ∧ Hid (Below B w v6))
      clear h7 h8 HRC
      go_wp2_with fail
      go_ret
      exact ⟨rfl, HQ.out⟩
    by_cases k1 : kd = 1
    · subst k1
      have HFL : Hid (bl.length = bn) := HBL.out
      have HRD : Hid (∀ X, Below B w X → Rd X bA bl) := HBD.out
      have HBY : Hid (∀ y ∈ bl, y < 256) := HBB.out
      have HZD := Lib.hid (HZ.out.below (Below.refl W.heap.size W).drew)
      have zd1 : W.drew.cell? ⟨z, 1, none⟩ = some (.string nm) := z1
      have HBd : Hid (Below B w W.drew) := HB0.out.trans ((Below.refl B W).drew)
      have HCR := Lib.hid (append_z HZD.out nm hnm bA bl bn bc HFL.out (HRD.out _ HBd.out) hA0 HBY.out)
      go_wp2_with fail
      rw [← hW.out, ← hz.out]
      have hsz0 : W.drew.cell? ⟨z, 1, none⟩ = some (.string nm) ∧ Hid (Rd W.drew bA bl) := ⟨zd1, HRD.out _ HBd.out⟩
      refine wp_region_held_drew (S := fun X => X.cell? ⟨z, 1, none⟩ = some (.string nm) ∧ Hid (Rd X bA bl)) (by kernel_rfl) hsz0 (fun _ => ?_)
      (refine wpAnyH_take (i := 0) (v := ?_) rfl (by kernel_rfl) (by kernel_rfl) (by kernel_rfl) (fun _ _ _ h => h) (Or.inl ⟨by rfl, ?_⟩) (by assumption) ?_; rotate_left; (intro w hSw; (try dsimp only at hSw); obtain ⟨s1, s2⟩ := hSw; go_simp; try with_reducible rfl); ((try simp only [List.getElem_toArray]); (try simp only [List.getElem_cons_succ]); (try simp only [List.getElem_cons_zero]); (try simp only [Act.put]); (try simp only [List.setIfInBounds_toArray]); (try simp only [List.set_cons_succ]); (try simp only [List.set_cons_zero])))
      (refine wpAnyH_take (i := 1) (v := ?_) rfl (by kernel_rfl) (by kernel_rfl) (by kernel_rfl) (fun _ _ _ h => h) (Or.inl ⟨by rfl, ?_⟩) (by assumption) ?_; rotate_left; (intro w hSw; (try dsimp only at hSw); obtain ⟨s1, s2⟩ := hSw; go_simp; try with_reducible rfl); ((try simp only [List.getElem_toArray]); (try simp only [List.getElem_cons_succ]); (try simp only [List.getElem_cons_zero]); (try simp only [Act.put]); (try simp only [List.setIfInBounds_toArray]); (try simp only [List.set_cons_succ]); (try simp only [List.set_cons_zero])))
      (refine wpAnyH_take (i := 2) (v := ?_) rfl (by kernel_rfl) (by kernel_rfl) (by kernel_rfl) (fun _ _ _ h => h) (Or.inl ⟨by rfl, ?_⟩) (by assumption) ?_; rotate_left; (intro w hSw; (try dsimp only at hSw); obtain ⟨s1, s2⟩ := hSw; go_simp; try with_reducible rfl); ((try simp only [List.getElem_toArray]); (try simp only [List.getElem_cons_succ]); (try simp only [List.getElem_cons_zero]); (try simp only [Act.put]); (try simp only [List.setIfInBounds_toArray]); (try simp only [List.set_cons_succ]); (try simp only [List.set_cons_zero])))
      (refine wpAnyH_take (i := 3) (v := ?_) rfl (by kernel_rfl) (by kernel_rfl) (by kernel_rfl) (fun _ _ _ h => h) (Or.inl ⟨by rfl, ?_⟩) (by assumption) ?_; rotate_left; (intro w hSw; (try dsimp only at hSw); obtain ⟨s1, s2⟩ := hSw; go_simp; try with_reducible rfl); ((try simp only [List.getElem_toArray]); (try simp only [List.getElem_cons_succ]); (try simp only [List.getElem_cons_zero]); (try simp only [Act.put]); (try simp only [List.setIfInBounds_toArray]); (try simp only [List.set_cons_succ]); (try simp only [List.set_cons_zero])))
      (refine wpAnyH_take (i := 5) (v := ?_) rfl (by kernel_rfl) (by kernel_rfl) (by kernel_rfl) (fun _ _ _ h => h) (Or.inl ⟨by rfl, ?_⟩) (by assumption) ?_; rotate_left; (intro w hSw; (try dsimp only at hSw); obtain ⟨s1, s2⟩ := hSw; go_simp; try with_reducible rfl); ((try simp only [List.getElem_toArray]); (try simp only [List.getElem_cons_succ]); (try simp only [List.getElem_cons_zero]); (try simp only [Act.put]); (try simp only [List.setIfInBounds_toArray]); (try simp only [List.set_cons_succ]); (try simp only [List.set_cons_zero])))
      (refine wpAnyH_take (i := 6) (v := ?_) rfl (by kernel_rfl) (by kernel_rfl) (by kernel_rfl) (fun _ _ _ h => h) (Or.inl ⟨by rfl, ?_⟩) (by assumption) ?_; rotate_left; (intro w hSw; (try dsimp only at hSw); obtain ⟨s1, s2⟩ := hSw; go_simp; try with_reducible rfl); ((try simp only [List.getElem_toArray]); (try simp only [List.getElem_cons_succ]); (try simp only [List.getElem_cons_zero]); (try simp only [Act.put]); (try simp only [List.setIfInBounds_toArray]); (try simp only [List.set_cons_succ]); (try simp only [List.set_cons_zero])))
      (refine wpAnyH_take (i := 7) (v := ?_) rfl (by kernel_rfl) (by kernel_rfl) (by kernel_rfl) (fun _ _ _ h => h) (Or.inl ⟨by rfl, ?_⟩) (by assumption) ?_; rotate_left; (intro w hSw; (try dsimp only at hSw); obtain ⟨s1, s2⟩ := hSw; go_simp; try with_reducible rfl); ((try simp only [List.getElem_toArray]); (try simp only [List.getElem_cons_succ]); (try simp only [List.getElem_cons_zero]); (try simp only [Act.put]); (try simp only [List.setIfInBounds_toArray]); (try simp only [List.set_cons_succ]); (try simp only [List.set_cons_zero])))
      (refine wpAnyH_take (i := 8) (v := ?_) rfl (by kernel_rfl) (by kernel_rfl) (by kernel_rfl) (fun _ _ _ h => h) (Or.inl ⟨by rfl, ?_⟩) (by assumption) ?_; rotate_left; (intro w hSw; (try dsimp only at hSw); obtain ⟨s1, s2⟩ := hSw; go_simp; try with_reducible rfl); ((try simp only [List.getElem_toArray]); (try simp only [List.getElem_cons_succ]); (try simp only [List.getElem_cons_zero]); (try simp only [Act.put]); (try simp only [List.setIfInBounds_toArray]); (try simp only [List.set_cons_succ]); (try simp only [List.set_cons_zero])))
      (refine wpAnyH_take (i := 9) (v := ?_) rfl (by kernel_rfl) (by kernel_rfl) (by kernel_rfl) (fun _ _ _ h => h) (Or.inl ⟨by rfl, ?_⟩) (by assumption) ?_; rotate_left; (intro w hSw; (try dsimp only at hSw); obtain ⟨s1, s2⟩ := hSw; have hcv := conv_len w bA bl bn bc HFL.out s2.out; go_simp; try with_reducible rfl); ((try simp only [List.getElem_toArray]); (try simp only [List.getElem_cons_succ]); (try simp only [List.getElem_cons_zero]); (try simp only [Act.put]); (try simp only [List.setIfInBounds_toArray]); (try simp only [List.set_cons_succ]); (try simp only [List.set_cons_zero])))
      refine wpAnyH_ready (rs := [4]) (by kernel_rfl) (by simp) ?_
      refine AllReadyH.cons rfl (fun K2 hK2 => ?_) AllReadyH.nil
      go_simp
      refine HCR.out.mono ?_
      rintro e v5 ⟨k1, rfl, hk1, h5, h6⟩
      have HB5 : Hid (Below B w v5) := HBd.out.trans h6.out.1
      have zz5 : v5.cell? ⟨z, 1, none⟩ = some (.string nm) ∧ Hid (Rd v5 bA bl) := ⟨(World.cell?_of_block (a := ⟨z, 1, none⟩) h6.out.2).trans zd1, HRD.out _ HB5.out⟩
      have HRC := Lib.hid (rappend_z h5.out HG.out (by omega) nm hnm bl (by rw [HFL.out]; omega))
      clear h6 HCR
      go_wp2_with fail
      refine hK2.out _ _ (by (try dsimp only); exact zz5) (fun hq => ?_)
      clear hK2 K2
      (try simp only [List.getElem_toArray]); (try simp only [List.getElem_cons_succ]); (try simp only [List.getElem_cons_zero]); (try simp only [Act.put]); (try simp only [List.setIfInBounds_toArray]); (try simp only [List.set_cons_succ]); (try simp only [List.set_cons_zero])
      refine wpAnyH_ready (rs := [10]) (by kernel_rfl) (by simp) ?_
      refine AllReadyH.cons rfl (fun K2 hK2 => ?_) AllReadyH.nil
      go_simp
      refine HRC.out.mono ?_
      rintro e v6 ⟨k2, rfl, hk2, h7, h8⟩
      obtain rfl : k2 = k1 := hk2.out.trans hk1.out.symm
      have HB6 : Hid (Below B w v6) := HB5.out.trans h8.out.1
      have HQ := Lib.hid (⟨_, h7.out.two, HN.out.append nm bl, len_append S nm bl, HB6.out⟩ : ∃ S', Hid (Two B d r v6 S' S') ∧ Hid (Nm S') ∧ Hid (S'.fs.length ≤ S.fs.length + 1) ∧ Hid (Below B w v6))
      have zz6 : v6.cell? ⟨z, 1, none⟩ = some (.string nm) ∧ Hid (Rd v6 bA bl) := ⟨(World.cell?_of_block (a := ⟨z, 1, none⟩) h8.out.2).trans zz5.1, HRD.out _ HB6.out⟩
      clear h7 h8 h5 hk1 hk2 HRC
      go_wp2_with fail
      refine hK2.out _ _ (by (try dsimp only); exact zz6) (fun hq => ?_)
      clear hK2 K2
      (try simp only [List.getElem_toArray]); (try simp only [List.getElem_cons_succ]); (try simp only [List.getElem_cons_zero]); (try simp only [Act.put]); (try simp only [List.setIfInBounds_toArray]); (try simp only [List.set_cons_succ]); (try simp only [List.set_cons_zero])
      (refine wpAnyH_take (i := 11) (v := ?_) rfl (by kernel_rfl) (by kernel_rfl) (by kernel_rfl) (fun _ _ _ h => h) (Or.inl ⟨by rfl, ?_⟩) (by assumption) ?_; rotate_left; (intro w hSw; (try dsimp only at hSw); obtain ⟨s1, s2⟩ := hSw; go_simp; try with_reducible rfl); ((try simp only [List.getElem_toArray]); (try simp only [List.getElem_cons_succ]); (try simp only [List.getElem_cons_zero]); (try simp only [Act.put]); (try simp only [List.setIfInBounds_toArray]); (try simp only [List.set_cons_succ]); (try simp only [List.set_cons_zero])))
      (refine wpAnyH_take (i := 12) (v := ?_) rfl (by kernel_rfl) (by kernel_rfl) (by kernel_rfl) (fun _ _ _ h => h) (Or.inl ⟨by rfl, ?_⟩) (by assumption) ?_; rotate_left; (intro w hSw; (try dsimp only at hSw); obtain ⟨s1, s2⟩ := hSw; go_simp; try with_reducible rfl); ((try simp only [List.getElem_toArray]); (try simp only [List.getElem_cons_succ]); (try simp only [List.getElem_cons_zero]); (try simp only [Act.put]); (try simp only [List.setIfInBounds_toArray]); (try simp only [List.set_cons_succ]); (try simp only [List.set_cons_zero])))
      refine wpAnyH_done (by kernel_rfl) ?_ _
      go_wp2_with fail
      go_ret
      exact ⟨rfl, HQ.out⟩
    have HCR := Lib.hid (read_dk HZ.out.two.dk nm hnm)
    go_wp2_with fail
    rw [← hW.out, ← hz.out]
    refine HCR.out.mono ?_
    rintro e v5 ⟨A5, n5, c5, k5, rfl, hk5, hl5, hown, hrd, hb5⟩
    have y5 : v5.cell? ⟨z, 1, none⟩ = some (.string nm) := (World.cell?_of_block (a := ⟨z, 1, none⟩) (hb5.out.block z HS1.out.lt)).trans z1
    have H5 := Lib.hid (HZ.out.below hb5.out)
    obtain ⟨v, ra, hr⟩ := H5.out.two.rin
    have HRC := Lib.hid (rread_any hr HG.out (by omega) nm hnm)
    have HK5 := Lib.hid hk5.out
    have HRD := Lib.hid hrd.out
    have HL5 := Lib.hid hl5.out
    have HB5 : Hid (Below B w v5) := HB0.out.trans (hb5.out.mono HZ.out.two.size)
    clear hr hk5 hown hrd hl5 hb5 HCR
    go_wp2_with fail
    refine HRC.out.mono ?_
    rintro e v6 ⟨k6, rfl, hk6, hb6⟩
    obtain rfl : k6 = k5 := hk6.out.trans HK5.out.symm
    have hcv : Sem.run Try.prog (convert 28 9 (.slice A5 n5 c5)) v6 = .ok (.string (bs (readD S nm).1)) v6 := conv_len v6 A5 _ n5 c5 HL5.out (Rd.block HRD.out hb6.out)
    have HQ : Hid (∃ S', Hid (Two B d r v6 S' S') ∧ Hid (Nm S') ∧ Hid (S'.fs.length ≤ S.fs.length + 1) ∧ Hid (Below B w v6)) := ⟨S, H5.out.two.below hb6.out, HN.out, Nat.le_succ _, HB5.out.trans (hb6.out.mono H5.out.two.size)⟩
    clear hk6 hb6 HRC
    generalize bs (readD S nm).1 = sx at *
    go_wp2_with fail
    go_ret
    exact ⟨rfl, HQ.out⟩
end
end Go.Proofs.Ytoooainecoappaa
