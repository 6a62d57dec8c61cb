/-
  like: a disk has what it must have.
-/
import Derived.Test.YtoooainecoappaaRt
import Derived.Test.YtoooainecoappaaDkG
import Derived.Deep.RegionHeld3
namespace Go.Proofs.Ytoooainecoappaa
open Go.RowKit Go.Maps Go.WideShapes
/-- All names are names. -/
def Nm (S : Ds) : Prop := ∀ f ∈ S.fs, fileF (tx f.nm) = true
theorem mem_insP {x f : Pf} : ∀ {l : List Pf}, f ∈ insP x l → f = x ∨ f ∈ l
  | [], h => .inl (by simpa [insP] using h)
  | y :: r, h => by
    unfold insP at h
    split at h
    · rcases List.mem_cons.1 h with rfl | h
      · exact .inl rfl
      · exact .inr h
    · rcases List.mem_cons.1 h with rfl | h
      · exact .inr List.mem_cons_self
      · exact (mem_insP h).imp id fun h => List.mem_cons_of_mem _ h
theorem Nm.deed {S T : Ds} (h : Nm S) (k : Nm T) : Nm (deedF S T).1 := by
  unfold deedF
  split
  · exact h
  · exact k
theorem errs_all {S : Ds} {s : ByteArray} {L : List ByteArray} (h : errs S s L = 0 ∨ errs S s L = 7) : (s :: L).all fileF = true := by
  unfold errs at h
  cases hb : (s :: L).all fileF with
  | true => rfl
  | false =>
    exfalso
    rw [hb] at h
    cases hd : S.down <;> simp [hd] at h
theorem Nm.create {S : Ds} (h : Nm S) (s : ByteArray) : Nm (createD S s).1 := by
  unfold createD
  split
  · rename_i e
    refine h.deed fun f hf => ?_
    rcases mem_insP hf with rfl | hf
    · have := errs_all (.inr e)
      simpa [tx_nm] using this
    · exact h f (List.mem_filter.1 hf).1
  · split <;> exact h
theorem Nm.remove {S : Ds} (h : Nm S) (s : ByteArray) : Nm (removeD S s).1 := by
  unfold removeD
  split
  · exact h.deed fun f hf => h f (List.mem_filter.1 hf).1
  · exact h
theorem Nm.rename {S : Ds} (h : Nm S) (s t : ByteArray) : Nm (renameD S s t).1 := by
  unfold renameD
  split
  · rename_i e
    refine h.deed fun f hf => ?_
    rcases mem_insP hf with rfl | hf
    · have := errs_all (.inl e)
      simp at this
      exact this.2
    · exact h f (List.mem_filter.1 (List.mem_filter.1 hf).1).1
  · exact h
theorem Nm.set {S : Ds} (h : Nm S) (x : Pf) (hx : fileF (tx x.nm) = true) (f : Pf) (hf : f ∈ setP x S.fs) : fileF (tx f.nm) = true := by
  obtain ⟨g, hg, rfl⟩ := List.mem_map.1 hf
  split
  · exact hx
  · exact h g hg
theorem Nm.sync {S : Ds} (h : Nm S) (s : ByteArray) : Nm (syncD S s).1 := by
  unfold syncD
  split
  · rename_i e
    refine h.deed (h.set _ ?_)
    have := errs_all (.inl e)
    simpa [tx_nm] using this
  · exact h
theorem Nm.append {S : Ds} (h : Nm S) (s : ByteArray) (b : List Nat) : Nm (appendD S s b).1 := by
  unfold appendD
  split
  · rename_i e
    have hm : Nm (moreD S s b) := h.set _ (by have := errs_all (.inl e); simpa [tx_nm] using this)
    split
    · exact h
    · exact hm.deed hm
  · exact h
theorem Nm.up {S : Ds} (h : Nm S) (keep : List Int) : Nm (upD S keep) := by
  unfold upD
  split
  · intro f hf
    have h1 : f.nm ∈ (upTo keep S.fs S.fs.length).map Pf.nm := List.mem_map_of_mem hf
    rw [upTo_nm] at h1
    obtain ⟨g, hg, e⟩ := List.mem_map.1 h1
    rw [← e]
    exact h g hg
  · exact h
theorem readD_at {S : Ds} (hg : Good S) (hn : Nm S) (hd : S.down = false) {k : Nat} {f : Pf} (hk : S.fs[k]? = some f) : readD S (tx f.nm) = (f.l, 0) := by
  have hm := List.mem_of_getElem? hk
  have hh : hasP (nmO (tx f.nm)) S.fs = true := List.any_eq_true.2 ⟨f, hm, by show (f.nm == f.nm) = true; simp⟩
  have he : errs S (tx f.nm) [] = 0 := by unfold errs; rw [hd]; simp [hn f hm, hh]
  unfold readD
  rw [he, if_pos rfl, fileD_at hg hk rfl]
theorem fileF_sz {s : ByteArray} (h : fileF s = true) : s.size ≤ 140737488355328 := by
  unfold fileF at h
  simp at h
  omega
section
variable {B d r : Nat} {w : World} {S : Ds}
set_option maxHeartbeats 8000000 in
set_option maxRecDepth 100000 in
theorem like_any (h : Two B d r w S S) (hn : Nm S) (hl : S.fs.length ≤ 100000) :
    Calls Try.prog 13 #[.pointer (some ⟨d, 0, none⟩), .pointer (some ⟨r, 0, none⟩)] w fun e w' => e = .returned (.bool true) ∧ Hid (Below w.heap.size w w') := by
  have H := Lib.hid h
  have HN := Lib.hid hn
  have HLS := Lib.hid (list_dk h.dk hl)
  clear h hn
  go_enter Try.func13, Try.ntmps13
  go_wp2_with fail
  refine HLS.out.mono ?_
  rintro e w1 ⟨LA, n, lc, rfl, hn, hrow, hb⟩
  have hB1 := hb.out
  have H1 := Lib.hid (H.out.below (hb.out.drew))
  have HDN := Lib.hid (down_dk H1.out.dk)
  have HFR := Lib.hid (free_dk H1.out.dk)
  obtain ⟨v, ra, hr⟩ := H1.out.rin
  have t3 : w1.drew.cell? ⟨r, 3, none⟩ = some (.bool S.down) := hr.top.cell 3
  have HB := Lib.hid hb.out
  have HBD := Lib.hid ((Below.refl w1.heap.size w1).drew)
  clear hb hr hB1
  by_cases hd : S.down = true
  · rw [hd] at t3 HDN
    have hn0 : n = 0 := by rw [hn.out]; unfold listD; rw [if_pos hd]; rfl
    subst hn0
    clear hn hrow H HLS
    have hz : Hid (Below w1.heap.size w1 w1.drew) ∧ w1.drew.cell? ⟨r, 3, none⟩ = some (.bool true) := ⟨HBD, t3⟩
    go_wp2_with fail
    refine wp_region_held_drew (S := fun X => Hid (Below w1.heap.size w1 X) ∧ X.cell? ⟨r, 3, none⟩ = some (.bool true)) (by kernel_rfl) hz (fun _ => ?_)
    (refine wpAnyH_take (i := 0) (v := ?_) rfl (by kernel_rfl) (by kernel_rfl) (by kernel_rfl) (fun _ _ _ h => h) (Or.inl ⟨by rfl, ?_⟩) (by assumption) ?_; rotate_left; (intro w hSw; (try dsimp only at hSw); have hSw2 := hSw.2; go_simp; try with_reducible rfl); ((try simp only [List.getElem_toArray]); (try simp only [List.getElem_cons_succ]); (try simp only [List.getElem_cons_zero]); (try simp only [Act.put]); (try simp only [List.setIfInBounds_toArray]); (try simp only [List.set_cons_succ]); (try simp only [List.set_cons_zero])))
    (refine wpAnyH_take (i := 2) (v := ?_) rfl (by kernel_rfl) (by kernel_rfl) (by kernel_rfl) (fun _ _ _ h => h) (Or.inl ⟨by rfl, ?_⟩) (by assumption) ?_; rotate_left; (intro w hSw; (try dsimp only at hSw); have hSw2 := hSw.2; go_simp; try with_reducible rfl); ((try simp only [List.getElem_toArray]); (try simp only [List.getElem_cons_succ]); (try simp only [List.getElem_cons_zero]); (try simp only [Act.put]); (try simp only [List.setIfInBounds_toArray]); (try simp only [List.set_cons_succ]); (try simp only [List.set_cons_zero])))
    (refine wpAnyH_take (i := 3) (v := ?_) rfl (by kernel_rfl) (by kernel_rfl) (by kernel_rfl) (fun _ _ _ h => h) (Or.inl ⟨by rfl, ?_⟩) (by assumption) ?_; rotate_left; (intro w hSw; (try dsimp only at hSw); have hSw2 := hSw.2; go_simp; try with_reducible rfl); ((try simp only [List.getElem_toArray]); (try simp only [List.getElem_cons_succ]); (try simp only [List.getElem_cons_zero]); (try simp only [Act.put]); (try simp only [List.setIfInBounds_toArray]); (try simp only [List.set_cons_succ]); (try simp only [List.set_cons_zero])))
    (refine wpAnyH_take (i := 4) (v := ?_) rfl (by kernel_rfl) (by kernel_rfl) (by kernel_rfl) (fun _ _ _ h => h) (Or.inl ⟨by rfl, ?_⟩) (by assumption) ?_; rotate_left; (intro w hSw; (try dsimp only at hSw); have hSw2 := hSw.2; go_simp; try with_reducible rfl); ((try simp only [List.getElem_toArray]); (try simp only [List.getElem_cons_succ]); (try simp only [List.getElem_cons_zero]); (try simp only [Act.put]); (try simp only [List.setIfInBounds_toArray]); (try simp only [List.set_cons_succ]); (try simp only [List.set_cons_zero])))
    (refine wpAnyH_take (i := 5) (v := ?_) rfl (by kernel_rfl) (by kernel_rfl) (by kernel_rfl) (fun _ _ _ h => h) (Or.inl ⟨by rfl, ?_⟩) (by assumption) ?_; rotate_left; (intro w hSw; (try dsimp only at hSw); have hSw2 := hSw.2; go_simp; try with_reducible rfl); ((try simp only [List.getElem_toArray]); (try simp only [List.getElem_cons_succ]); (try simp only [List.getElem_cons_zero]); (try simp only [Act.put]); (try simp only [List.setIfInBounds_toArray]); (try simp only [List.set_cons_succ]); (try simp only [List.set_cons_zero])))
    refine wpAnyH_ready (rs := [1]) (by kernel_rfl) (by simp) ?_
    refine AllReadyH.cons rfl (fun K2 hK2 => ?_) AllReadyH.nil
    go_simp
    refine HDN.out.mono ?_
    rintro e x ⟨rfl, rfl⟩
    go_wp2_with fail
    refine hK2.out _ _ (by (try dsimp only); exact hz) (fun hq => ?_)
    clear hK2 K2
    (try simp only [List.getElem_toArray]); (try simp only [List.getElem_cons_succ]); (try simp only [List.getElem_cons_zero]); (try simp only [Act.put]); (try simp only [List.setIfInBounds_toArray]); (try simp only [List.set_cons_succ]); (try simp only [List.set_cons_zero])
    (refine wpAnyH_take (i := 6) (v := ?_) rfl (by kernel_rfl) (by kernel_rfl) (by kernel_rfl) (fun _ _ _ h => h) (Or.inl ⟨by rfl, ?_⟩) (by assumption) ?_; rotate_left; (intro w hSw; (try dsimp only at hSw); have hSw2 := hSw.2; go_simp; try with_reducible rfl); ((try simp only [List.getElem_toArray]); (try simp only [List.getElem_cons_succ]); (try simp only [List.getElem_cons_zero]); (try simp only [Act.put]); (try simp only [List.setIfInBounds_toArray]); (try simp only [List.set_cons_succ]); (try simp only [List.set_cons_zero])))
    (refine wpAnyH_take (i := 7) (v := ?_) rfl (by kernel_rfl) (by kernel_rfl) (by kernel_rfl) (fun _ _ _ h => h) (Or.inl ⟨by rfl, ?_⟩) (by assumption) ?_; rotate_left; (intro w hSw; (try dsimp only at hSw); have hSw2 := hSw.2; go_simp; try with_reducible rfl); ((try simp only [List.getElem_toArray]); (try simp only [List.getElem_cons_succ]); (try simp only [List.getElem_cons_zero]); (try simp only [Act.put]); (try simp only [List.setIfInBounds_toArray]); (try simp only [List.set_cons_succ]); (try simp only [List.set_cons_zero])))
    (refine wpAnyH_take (i := 8) (v := ?_) rfl (by kernel_rfl) (by kernel_rfl) (by kernel_rfl) (fun _ _ _ h => h) (Or.inl ⟨by rfl, ?_⟩) (by assumption) ?_; rotate_left; (intro w hSw; (try dsimp only at hSw); have hSw2 := hSw.2; go_simp; try with_reducible rfl); ((try simp only [List.getElem_toArray]); (try simp only [List.getElem_cons_succ]); (try simp only [List.getElem_cons_zero]); (try simp only [Act.put]); (try simp only [List.setIfInBounds_toArray]); (try simp only [List.set_cons_succ]); (try simp only [List.set_cons_zero])))
    (refine wpAnyH_take (i := 10) (v := ?_) rfl (by kernel_rfl) (by kernel_rfl) (by kernel_rfl) (fun _ _ _ h => h) (Or.inl ⟨by rfl, ?_⟩) (by assumption) ?_; rotate_left; (intro w hSw; (try dsimp only at hSw); have hSw2 := hSw.2; go_simp; try with_reducible rfl); ((try simp only [List.getElem_toArray]); (try simp only [List.getElem_cons_succ]); (try simp only [List.getElem_cons_zero]); (try simp only [Act.put]); (try simp only [List.setIfInBounds_toArray]); (try simp only [List.set_cons_succ]); (try simp only [List.set_cons_zero])))
    refine wpAnyH_ready (rs := [9]) (by kernel_rfl) (by simp) ?_
    refine AllReadyH.cons rfl (fun K2 hK2 => ?_) AllReadyH.nil
    go_simp
    refine HFR.out.mono ?_
    rintro e vF ⟨rfl, hF⟩
    have H2 := Lib.hid (H1.out.below hF.out)
    obtain ⟨v2, ra2, hr2⟩ := H2.out.rin
    have HRF := Lib.hid (rfree_any hr2 H2.out.good hl)
    have t32 : vF.cell? ⟨r, 3, none⟩ = some (.bool S.down) := hr2.top.cell 3
    rw [hd] at t32
    have HBF : Hid (Below w1.heap.size w1 vF) := hz.1.out.trans (hF.out.mono hz.1.out.size)
    clear hF hr2
    go_wp2_with fail
    refine hK2.out _ _ (by (try dsimp only); exact ⟨HBF, t32⟩) (fun hq => ?_)
    clear hK2 K2
    (try simp only [List.getElem_toArray]); (try simp only [List.getElem_cons_succ]); (try simp only [List.getElem_cons_zero]); (try simp only [Act.put]); (try simp only [List.setIfInBounds_toArray]); (try simp only [List.set_cons_succ]); (try simp only [List.set_cons_zero])
    refine wpAnyH_ready (rs := [11]) (by kernel_rfl) (by simp) ?_
    refine AllReadyH.cons rfl (fun K2 hK2 => ?_) AllReadyH.nil
    go_simp
    refine HRF.out.mono ?_
    rintro e vR ⟨rfl, hF⟩
    have H3 := Lib.hid (H2.out.below hF.out)
    obtain ⟨v3, ra3, hr3⟩ := H3.out.rin
    obtain ⟨A3, c3, rfl, q1, q2, q3, q4, -⟩ := hr3.row
    clear q1 q2 q3 q4
    have t33 : vR.cell? ⟨r, 3, none⟩ = some (.bool S.down) := hr3.top.cell 3
    have t31 : vR.cell? ⟨r, 1, none⟩ = some (.slice A3 S.fs.length c3) := hr3.top.cell 1
    have HR3 := Lib.hid hr3
    rw [hd] at t33
    have HBR : Hid (Below w1.heap.size w1 vR) := HBF.out.trans (hF.out.mono HBF.out.size)
    clear hF hr3
    go_wp2_with fail
    refine hK2.out _ _ (by (try dsimp only); exact ⟨HBR, t33⟩) (fun hq => ?_)
    clear hK2 K2
    (try simp only [List.getElem_toArray]); (try simp only [List.getElem_cons_succ]); (try simp only [List.getElem_cons_zero]); (try simp only [Act.put]); (try simp only [List.setIfInBounds_toArray]); (try simp only [List.set_cons_succ]); (try simp only [List.set_cons_zero])
    (refine wpAnyH_take (i := 12) (v := ?_) rfl (by kernel_rfl) (by kernel_rfl) (by kernel_rfl) (fun _ _ _ h => h) (Or.inl ⟨by rfl, ?_⟩) (by assumption) ?_; rotate_left; (intro w hSw; (try dsimp only at hSw); have hSw2 := hSw.2; go_simp; try with_reducible rfl); ((try simp only [List.getElem_toArray]); (try simp only [List.getElem_cons_succ]); (try simp only [List.getElem_cons_zero]); (try simp only [Act.put]); (try simp only [List.setIfInBounds_toArray]); (try simp only [List.set_cons_succ]); (try simp only [List.set_cons_zero])))
    (refine wpAnyH_take (i := 13) (v := ?_) rfl (by kernel_rfl) (by kernel_rfl) (by kernel_rfl) (fun _ _ _ h => h) (Or.inl ⟨by rfl, ?_⟩) (by assumption) ?_; rotate_left; (intro w hSw; (try dsimp only at hSw); have hSw2 := hSw.2; go_simp; try with_reducible rfl); ((try simp only [List.getElem_toArray]); (try simp only [List.getElem_cons_succ]); (try simp only [List.getElem_cons_zero]); (try simp only [Act.put]); (try simp only [List.setIfInBounds_toArray]); (try simp only [List.set_cons_succ]); (try simp only [List.set_cons_zero])))
    (refine wpAnyH_take (i := 14) (v := ?_) rfl (by kernel_rfl) (by kernel_rfl) (by kernel_rfl) (fun _ _ _ h => h) (Or.inl ⟨by rfl, ?_⟩) (by assumption) ?_; rotate_left; (intro w hSw; (try dsimp only at hSw); have hSw2 := hSw.2; go_simp; try with_reducible rfl); ((try simp only [List.getElem_toArray]); (try simp only [List.getElem_cons_succ]); (try simp only [List.getElem_cons_zero]); (try simp only [Act.put]); (try simp only [List.setIfInBounds_toArray]); (try simp only [List.set_cons_succ]); (try simp only [List.set_cons_zero])))
    (refine wpAnyH_take (i := 15) (v := ?_) rfl (by kernel_rfl) (by kernel_rfl) (by kernel_rfl) (fun _ _ _ h => h) (Or.inl ⟨by rfl, ?_⟩) (by assumption) ?_; rotate_left; (intro w hSw; (try dsimp only at hSw); have hSw2 := hSw.2; go_simp; try with_reducible rfl); ((try simp only [List.getElem_toArray]); (try simp only [List.getElem_cons_succ]); (try simp only [List.getElem_cons_zero]); (try simp only [Act.put]); (try simp only [List.setIfInBounds_toArray]); (try simp only [List.set_cons_succ]); (try simp only [List.set_cons_zero])))
    (refine wpAnyH_take (i := 16) (v := ?_) rfl (by kernel_rfl) (by kernel_rfl) (by kernel_rfl) (fun _ _ _ h => h) (Or.inl ⟨by rfl, ?_⟩) (by assumption) ?_; rotate_left; (intro w hSw; (try dsimp only at hSw); have hSw2 := hSw.2; go_simp; try with_reducible rfl); ((try simp only [List.getElem_toArray]); (try simp only [List.getElem_cons_succ]); (try simp only [List.getElem_cons_zero]); (try simp only [Act.put]); (try simp only [List.setIfInBounds_toArray]); (try simp only [List.set_cons_succ]); (try simp only [List.set_cons_zero])))
    (refine wpAnyH_take (i := 17) (v := ?_) rfl (by kernel_rfl) (by kernel_rfl) (by kernel_rfl) (fun _ _ _ h => h) (Or.inl ⟨by rfl, ?_⟩) (by assumption) ?_; rotate_left; (intro w hSw; (try dsimp only at hSw); have hSw2 := hSw.2; go_simp; try with_reducible rfl); ((try simp only [List.getElem_toArray]); (try simp only [List.getElem_cons_succ]); (try simp only [List.getElem_cons_zero]); (try simp only [Act.put]); (try simp only [List.setIfInBounds_toArray]); (try simp only [List.set_cons_succ]); (try simp only [List.set_cons_zero])))
    (refine wpAnyH_take (i := 18) (v := ?_) rfl (by kernel_rfl) (by kernel_rfl) (by kernel_rfl) (fun _ _ _ h => h) (Or.inl ⟨by rfl, ?_⟩) (by assumption) ?_; rotate_left; (intro w hSw; (try dsimp only at hSw); have hSw2 := hSw.2; go_simp; try with_reducible rfl); ((try simp only [List.getElem_toArray]); (try simp only [List.getElem_cons_succ]); (try simp only [List.getElem_cons_zero]); (try simp only [Act.put]); (try simp only [List.setIfInBounds_toArray]); (try simp only [List.set_cons_succ]); (try simp only [List.set_cons_zero])))
    (refine wpAnyH_take (i := 19) (v := ?_) rfl (by kernel_rfl) (by kernel_rfl) (by kernel_rfl) (fun _ _ _ h => h) (Or.inl ⟨by rfl, ?_⟩) (by assumption) ?_; rotate_left; (intro w hSw; (try dsimp only at hSw); have hSw2 := hSw.2; go_simp; try with_reducible rfl); ((try simp only [List.getElem_toArray]); (try simp only [List.getElem_cons_succ]); (try simp only [List.getElem_cons_zero]); (try simp only [Act.put]); (try simp only [List.setIfInBounds_toArray]); (try simp only [List.set_cons_succ]); (try simp only [List.set_cons_zero])))
    (refine wpAnyH_take (i := 20) (v := ?_) rfl (by kernel_rfl) (by kernel_rfl) (by kernel_rfl) (fun _ _ _ h => h) (Or.inl ⟨by rfl, ?_⟩) (by assumption) ?_; rotate_left; (intro w hSw; (try dsimp only at hSw); have hSw2 := hSw.2; go_simp; try with_reducible rfl); ((try simp only [List.getElem_toArray]); (try simp only [List.getElem_cons_succ]); (try simp only [List.getElem_cons_zero]); (try simp only [Act.put]); (try simp only [List.setIfInBounds_toArray]); (try simp only [List.set_cons_succ]); (try simp only [List.set_cons_zero])))
    (refine wpAnyH_take (i := 21) (v := ?_) rfl (by kernel_rfl) (by kernel_rfl) (by kernel_rfl) (fun _ _ _ h => h) (Or.inl ⟨by rfl, ?_⟩) (by assumption) ?_; rotate_left; (intro w hSw; (try dsimp only at hSw); have hSw2 := hSw.2; go_simp; try with_reducible rfl); ((try simp only [List.getElem_toArray]); (try simp only [List.getElem_cons_succ]); (try simp only [List.getElem_cons_zero]); (try simp only [Act.put]); (try simp only [List.setIfInBounds_toArray]); (try simp only [List.set_cons_succ]); (try simp only [List.set_cons_zero])))
    (refine wpAnyH_take (i := 22) (v := ?_) rfl (by kernel_rfl) (by kernel_rfl) (by kernel_rfl) (fun _ _ _ h => h) (Or.inl ⟨by rfl, ?_⟩) (by assumption) ?_; rotate_left; (intro w hSw; (try dsimp only at hSw); have hSw2 := hSw.2; go_simp; try with_reducible rfl); ((try simp only [List.getElem_toArray]); (try simp only [List.getElem_cons_succ]); (try simp only [List.getElem_cons_zero]); (try simp only [Act.put]); (try simp only [List.setIfInBounds_toArray]); (try simp only [List.set_cons_succ]); (try simp only [List.set_cons_zero])))
    (refine wpAnyH_take (i := 23) (v := ?_) rfl (by kernel_rfl) (by kernel_rfl) (by kernel_rfl) (fun _ _ _ h => h) (Or.inl ⟨by rfl, ?_⟩) (by assumption) ?_; rotate_left; (intro w hSw; (try dsimp only at hSw); have hSw2 := hSw.2; go_simp; try with_reducible rfl); ((try simp only [List.getElem_toArray]); (try simp only [List.getElem_cons_succ]); (try simp only [List.getElem_cons_zero]); (try simp only [Act.put]); (try simp only [List.setIfInBounds_toArray]); (try simp only [List.set_cons_succ]); (try simp only [List.set_cons_zero])))
    (refine wpAnyH_take (i := 24) (v := ?_) rfl (by kernel_rfl) (by kernel_rfl) (by kernel_rfl) (fun _ _ _ h => h) (Or.inl ⟨by rfl, ?_⟩) (by assumption) ?_; rotate_left; (intro w hSw; (try dsimp only at hSw); have hSw2 := hSw.2; go_simp; try with_reducible rfl); ((try simp only [List.getElem_toArray]); (try simp only [List.getElem_cons_succ]); (try simp only [List.getElem_cons_zero]); (try simp only [Act.put]); (try simp only [List.setIfInBounds_toArray]); (try simp only [List.set_cons_succ]); (try simp only [List.set_cons_zero])))
    refine wpAnyH_done (by kernel_rfl) ?_ _
    go_wp2_with fail
    go_ret
    exact ⟨rfl, HB.out.trans (HBR.out.mono HB.out.size)⟩
  · have hd' : S.down = false := by simpa using hd
    clear hd
    have hd := hd'
    rw [hd] at t3 HDN
    have hz : Hid (Below w1.heap.size w1 w1.drew) ∧ w1.drew.cell? ⟨r, 3, none⟩ = some (.bool false) := ⟨HBD, t3⟩
    have HROW := Lib.hid hrow.out
    have hn2 : n = S.fs.length := by rw [hn.out]; unfold listD; rw [hd]; simp
    subst hn2
    clear hn hrow H HLS
    go_wp2_with fail
    refine wp_region_held_drew (S := fun X => Hid (Below w1.heap.size w1 X) ∧ X.cell? ⟨r, 3, none⟩ = some (.bool false)) (by kernel_rfl) hz (fun _ => ?_)
    (refine wpAnyH_take (i := 0) (v := ?_) rfl (by kernel_rfl) (by kernel_rfl) (by kernel_rfl) (fun _ _ _ h => h) (Or.inl ⟨by rfl, ?_⟩) (by assumption) ?_; rotate_left; (intro w hSw; (try dsimp only at hSw); have hSw2 := hSw.2; go_simp; try with_reducible rfl); ((try simp only [List.getElem_toArray]); (try simp only [List.getElem_cons_succ]); (try simp only [List.getElem_cons_zero]); (try simp only [Act.put]); (try simp only [List.setIfInBounds_toArray]); (try simp only [List.set_cons_succ]); (try simp only [List.set_cons_zero])))
    (refine wpAnyH_take (i := 2) (v := ?_) rfl (by kernel_rfl) (by kernel_rfl) (by kernel_rfl) (fun _ _ _ h => h) (Or.inl ⟨by rfl, ?_⟩) (by assumption) ?_; rotate_left; (intro w hSw; (try dsimp only at hSw); have hSw2 := hSw.2; go_simp; try with_reducible rfl); ((try simp only [List.getElem_toArray]); (try simp only [List.getElem_cons_succ]); (try simp only [List.getElem_cons_zero]); (try simp only [Act.put]); (try simp only [List.setIfInBounds_toArray]); (try simp only [List.set_cons_succ]); (try simp only [List.set_cons_zero])))
    (refine wpAnyH_take (i := 3) (v := ?_) rfl (by kernel_rfl) (by kernel_rfl) (by kernel_rfl) (fun _ _ _ h => h) (Or.inl ⟨by rfl, ?_⟩) (by assumption) ?_; rotate_left; (intro w hSw; (try dsimp only at hSw); have hSw2 := hSw.2; go_simp; try with_reducible rfl); ((try simp only [List.getElem_toArray]); (try simp only [List.getElem_cons_succ]); (try simp only [List.getElem_cons_zero]); (try simp only [Act.put]); (try simp only [List.setIfInBounds_toArray]); (try simp only [List.set_cons_succ]); (try simp only [List.set_cons_zero])))
    (refine wpAnyH_take (i := 4) (v := ?_) rfl (by kernel_rfl) (by kernel_rfl) (by kernel_rfl) (fun _ _ _ h => h) (Or.inl ⟨by rfl, ?_⟩) (by assumption) ?_; rotate_left; (intro w hSw; (try dsimp only at hSw); have hSw2 := hSw.2; go_simp; try with_reducible rfl); ((try simp only [List.getElem_toArray]); (try simp only [List.getElem_cons_succ]); (try simp only [List.getElem_cons_zero]); (try simp only [Act.put]); (try simp only [List.setIfInBounds_toArray]); (try simp only [List.set_cons_succ]); (try simp only [List.set_cons_zero])))
    (refine wpAnyH_take (i := 5) (v := ?_) rfl (by kernel_rfl) (by kernel_rfl) (by kernel_rfl) (fun _ _ _ h => h) (Or.inl ⟨by rfl, ?_⟩) (by assumption) ?_; rotate_left; (intro w hSw; (try dsimp only at hSw); have hSw2 := hSw.2; go_simp; try with_reducible rfl); ((try simp only [List.getElem_toArray]); (try simp only [List.getElem_cons_succ]); (try simp only [List.getElem_cons_zero]); (try simp only [Act.put]); (try simp only [List.setIfInBounds_toArray]); (try simp only [List.set_cons_succ]); (try simp only [List.set_cons_zero])))
    refine wpAnyH_ready (rs := [1]) (by kernel_rfl) (by simp) ?_
    refine AllReadyH.cons rfl (fun K2 hK2 => ?_) AllReadyH.nil
    go_simp
    refine HDN.out.mono ?_
    rintro e x ⟨rfl, rfl⟩
    go_wp2_with fail
    refine hK2.out _ _ (by (try dsimp only); exact hz) (fun hq => ?_)
    clear hK2 K2
    (try simp only [List.getElem_toArray]); (try simp only [List.getElem_cons_succ]); (try simp only [List.getElem_cons_zero]); (try simp only [Act.put]); (try simp only [List.setIfInBounds_toArray]); (try simp only [List.set_cons_succ]); (try simp only [List.set_cons_zero])
    (refine wpAnyH_take (i := 6) (v := ?_) rfl (by kernel_rfl) (by kernel_rfl) (by kernel_rfl) (fun _ _ _ h => h) (Or.inl ⟨by rfl, ?_⟩) (by assumption) ?_; rotate_left; (intro w hSw; (try dsimp only at hSw); have hSw2 := hSw.2; go_simp; try with_reducible rfl); ((try simp only [List.getElem_toArray]); (try simp only [List.getElem_cons_succ]); (try simp only [List.getElem_cons_zero]); (try simp only [Act.put]); (try simp only [List.setIfInBounds_toArray]); (try simp only [List.set_cons_succ]); (try simp only [List.set_cons_zero])))
    (refine wpAnyH_take (i := 7) (v := ?_) rfl (by kernel_rfl) (by kernel_rfl) (by kernel_rfl) (fun _ _ _ h => h) (Or.inl ⟨by rfl, ?_⟩) (by assumption) ?_; rotate_left; (intro w hSw; (try dsimp only at hSw); have hSw2 := hSw.2; go_simp; try with_reducible rfl); ((try simp only [List.getElem_toArray]); (try simp only [List.getElem_cons_succ]); (try simp only [List.getElem_cons_zero]); (try simp only [Act.put]); (try simp only [List.setIfInBounds_toArray]); (try simp only [List.set_cons_succ]); (try simp only [List.set_cons_zero])))
    (refine wpAnyH_take (i := 8) (v := ?_) rfl (by kernel_rfl) (by kernel_rfl) (by kernel_rfl) (fun _ _ _ h => h) (Or.inl ⟨by rfl, ?_⟩) (by assumption) ?_; rotate_left; (intro w hSw; (try dsimp only at hSw); have hSw2 := hSw.2; go_simp; try with_reducible rfl); ((try simp only [List.getElem_toArray]); (try simp only [List.getElem_cons_succ]); (try simp only [List.getElem_cons_zero]); (try simp only [Act.put]); (try simp only [List.setIfInBounds_toArray]); (try simp only [List.set_cons_succ]); (try simp only [List.set_cons_zero])))
    (refine wpAnyH_take (i := 10) (v := ?_) rfl (by kernel_rfl) (by kernel_rfl) (by kernel_rfl) (fun _ _ _ h => h) (Or.inl ⟨by rfl, ?_⟩) (by assumption) ?_; rotate_left; (intro w hSw; (try dsimp only at hSw); have hSw2 := hSw.2; go_simp; try with_reducible rfl); ((try simp only [List.getElem_toArray]); (try simp only [List.getElem_cons_succ]); (try simp only [List.getElem_cons_zero]); (try simp only [Act.put]); (try simp only [List.setIfInBounds_toArray]); (try simp only [List.set_cons_succ]); (try simp only [List.set_cons_zero])))
    refine wpAnyH_ready (rs := [9]) (by kernel_rfl) (by simp) ?_
    refine AllReadyH.cons rfl (fun K2 hK2 => ?_) AllReadyH.nil
    go_simp
    refine HFR.out.mono ?_
    rintro e vF ⟨rfl, hF⟩
    have H2 := Lib.hid (H1.out.below hF.out)
    obtain ⟨v2, ra2, hr2⟩ := H2.out.rin
    have HRF := Lib.hid (rfree_any hr2 H2.out.good hl)
    have t32 : vF.cell? ⟨r, 3, none⟩ = some (.bool S.down) := hr2.top.cell 3
    rw [hd] at t32
    have HBF : Hid (Below w1.heap.size w1 vF) := hz.1.out.trans (hF.out.mono hz.1.out.size)
    clear hF hr2
    go_wp2_with fail
    refine hK2.out _ _ (by (try dsimp only); exact ⟨HBF, t32⟩) (fun hq => ?_)
    clear hK2 K2
    (try simp only [List.getElem_toArray]); (try simp only [List.getElem_cons_succ]); (try simp only [List.getElem_cons_zero]); (try simp only [Act.put]); (try simp only [List.setIfInBounds_toArray]); (try simp only [List.set_cons_succ]); (try simp only [List.set_cons_zero])
    refine wpAnyH_ready (rs := [11]) (by kernel_rfl) (by simp) ?_
    refine AllReadyH.cons rfl (fun K2 hK2 => ?_) AllReadyH.nil
    go_simp
    refine HRF.out.mono ?_
    rintro e vR ⟨rfl, hF⟩
    have H3 := Lib.hid (H2.out.below hF.out)
    obtain ⟨v3, ra3, hr3⟩ := H3.out.rin
    obtain ⟨A3, c3, rfl, q1, q2, q3, q4, -⟩ := hr3.row
    clear q1 q2 q3 q4
    have t33 : vR.cell? ⟨r, 3, none⟩ = some (.bool S.down) := hr3.top.cell 3
    have t31 : vR.cell? ⟨r, 1, none⟩ = some (.slice A3 S.fs.length c3) := hr3.top.cell 1
    have HR3 := Lib.hid hr3
    rw [hd] at t33
    have HBR : Hid (Below w1.heap.size w1 vR) := HBF.out.trans (hF.out.mono HBF.out.size)
    clear hF hr3
    go_wp2_with fail
    refine hK2.out _ _ (by (try dsimp only); exact ⟨HBR, t33⟩) (fun hq => ?_)
    clear hK2 K2
    (try simp only [List.getElem_toArray]); (try simp only [List.getElem_cons_succ]); (try simp only [List.getElem_cons_zero]); (try simp only [Act.put]); (try simp only [List.setIfInBounds_toArray]); (try simp only [List.set_cons_succ]); (try simp only [List.set_cons_zero])
    (refine wpAnyH_take (i := 12) (v := ?_) rfl (by kernel_rfl) (by kernel_rfl) (by kernel_rfl) (fun _ _ _ h => h) (Or.inl ⟨by rfl, ?_⟩) (by assumption) ?_; rotate_left; (intro w hSw; (try dsimp only at hSw); have hSw2 := hSw.2; go_simp; try with_reducible rfl); ((try simp only [List.getElem_toArray]); (try simp only [List.getElem_cons_succ]); (try simp only [List.getElem_cons_zero]); (try simp only [Act.put]); (try simp only [List.setIfInBounds_toArray]); (try simp only [List.set_cons_succ]); (try simp only [List.set_cons_zero])))
    (refine wpAnyH_take (i := 13) (v := ?_) rfl (by kernel_rfl) (by kernel_rfl) (by kernel_rfl) (fun _ _ _ h => h) (Or.inl ⟨by rfl, ?_⟩) (by assumption) ?_; rotate_left; (intro w hSw; (try dsimp only at hSw); have hSw2 := hSw.2; go_simp; try with_reducible rfl); ((try simp only [List.getElem_toArray]); (try simp only [List.getElem_cons_succ]); (try simp only [List.getElem_cons_zero]); (try simp only [Act.put]); (try simp only [List.setIfInBounds_toArray]); (try simp only [List.set_cons_succ]); (try simp only [List.set_cons_zero])))
    (refine wpAnyH_take (i := 14) (v := ?_) rfl (by kernel_rfl) (by kernel_rfl) (by kernel_rfl) (fun _ _ _ h => h) (Or.inl ⟨by rfl, ?_⟩) (by assumption) ?_; rotate_left; (intro w hSw; (try dsimp only at hSw); have hSw2 := hSw.2; go_simp; try with_reducible rfl); ((try simp only [List.getElem_toArray]); (try simp only [List.getElem_cons_succ]); (try simp only [List.getElem_cons_zero]); (try simp only [Act.put]); (try simp only [List.setIfInBounds_toArray]); (try simp only [List.set_cons_succ]); (try simp only [List.set_cons_zero])))
    (refine wpAnyH_take (i := 15) (v := ?_) rfl (by kernel_rfl) (by kernel_rfl) (by kernel_rfl) (fun _ _ _ h => h) (Or.inl ⟨by rfl, ?_⟩) (by assumption) ?_; rotate_left; (intro w hSw; (try dsimp only at hSw); have hSw2 := hSw.2; go_simp; try with_reducible rfl); ((try simp only [List.getElem_toArray]); (try simp only [List.getElem_cons_succ]); (try simp only [List.getElem_cons_zero]); (try simp only [Act.put]); (try simp only [List.setIfInBounds_toArray]); (try simp only [List.set_cons_succ]); (try simp only [List.set_cons_zero])))
    (refine wpAnyH_take (i := 16) (v := ?_) rfl (by kernel_rfl) (by kernel_rfl) (by kernel_rfl) (fun _ _ _ h => h) (Or.inl ⟨by rfl, ?_⟩) (by assumption) ?_; rotate_left; (intro w hSw; (try dsimp only at hSw); have hSw2 := hSw.2; go_simp; try with_reducible rfl); ((try simp only [List.getElem_toArray]); (try simp only [List.getElem_cons_succ]); (try simp only [List.getElem_cons_zero]); (try simp only [Act.put]); (try simp only [List.setIfInBounds_toArray]); (try simp only [List.set_cons_succ]); (try simp only [List.set_cons_zero])))
    (refine wpAnyH_take (i := 17) (v := ?_) rfl (by kernel_rfl) (by kernel_rfl) (by kernel_rfl) (fun _ _ _ h => h) (Or.inl ⟨by rfl, ?_⟩) (by assumption) ?_; rotate_left; (intro w hSw; (try dsimp only at hSw); have hSw2 := hSw.2; go_simp; try with_reducible rfl); ((try simp only [List.getElem_toArray]); (try simp only [List.getElem_cons_succ]); (try simp only [List.getElem_cons_zero]); (try simp only [Act.put]); (try simp only [List.setIfInBounds_toArray]); (try simp only [List.set_cons_succ]); (try simp only [List.set_cons_zero])))
    (refine wpAnyH_take (i := 18) (v := ?_) rfl (by kernel_rfl) (by kernel_rfl) (by kernel_rfl) (fun _ _ _ h => h) (Or.inl ⟨by rfl, ?_⟩) (by assumption) ?_; rotate_left; (intro w hSw; (try dsimp only at hSw); have hSw2 := hSw.2; go_simp; try with_reducible rfl); ((try simp only [List.getElem_toArray]); (try simp only [List.getElem_cons_succ]); (try simp only [List.getElem_cons_zero]); (try simp only [Act.put]); (try simp only [List.setIfInBounds_toArray]); (try simp only [List.set_cons_succ]); (try simp only [List.set_cons_zero])))
    (refine wpAnyH_take (i := 19) (v := ?_) rfl (by kernel_rfl) (by kernel_rfl) (by kernel_rfl) (fun _ _ _ h => h) (Or.inl ⟨by rfl, ?_⟩) (by assumption) ?_; rotate_left; (intro w hSw; (try dsimp only at hSw); have hSw2 := hSw.2; go_simp; try with_reducible rfl); ((try simp only [List.getElem_toArray]); (try simp only [List.getElem_cons_succ]); (try simp only [List.getElem_cons_zero]); (try simp only [Act.put]); (try simp only [List.setIfInBounds_toArray]); (try simp only [List.set_cons_succ]); (try simp only [List.set_cons_zero])))
    (refine wpAnyH_take (i := 20) (v := undef) rfl (by kernel_rfl) (by kernel_rfl) (by kernel_rfl) (fun _ _ _ h => h) (Or.inr ⟨by rfl, rfl⟩) (by assumption) ?_; ((try simp only [List.getElem_toArray]); (try simp only [List.getElem_cons_succ]); (try simp only [List.getElem_cons_zero]); (try simp only [Act.put]); (try simp only [List.setIfInBounds_toArray]); (try simp only [List.set_cons_succ]); (try simp only [List.set_cons_zero])))
    (refine wpAnyH_take (i := 21) (v := undef) rfl (by kernel_rfl) (by kernel_rfl) (by kernel_rfl) (fun _ _ _ h => h) (Or.inr ⟨by rfl, rfl⟩) (by assumption) ?_; ((try simp only [List.getElem_toArray]); (try simp only [List.getElem_cons_succ]); (try simp only [List.getElem_cons_zero]); (try simp only [Act.put]); (try simp only [List.setIfInBounds_toArray]); (try simp only [List.set_cons_succ]); (try simp only [List.set_cons_zero])))
    (refine wpAnyH_take (i := 22) (v := undef) rfl (by kernel_rfl) (by kernel_rfl) (by kernel_rfl) (fun _ _ _ h => h) (Or.inr ⟨by rfl, rfl⟩) (by assumption) ?_; ((try simp only [List.getElem_toArray]); (try simp only [List.getElem_cons_succ]); (try simp only [List.getElem_cons_zero]); (try simp only [Act.put]); (try simp only [List.setIfInBounds_toArray]); (try simp only [List.set_cons_succ]); (try simp only [List.set_cons_zero])))
    (refine wpAnyH_take (i := 23) (v := ?_) rfl (by kernel_rfl) (by kernel_rfl) (by kernel_rfl) (fun _ _ _ h => h) (Or.inl ⟨by rfl, ?_⟩) (by assumption) ?_; rotate_left; (intro w hSw; (try dsimp only at hSw); have hSw2 := hSw.2; go_simp; try with_reducible rfl); ((try simp only [List.getElem_toArray]); (try simp only [List.getElem_cons_succ]); (try simp only [List.getElem_cons_zero]); (try simp only [Act.put]); (try simp only [List.setIfInBounds_toArray]); (try simp only [List.set_cons_succ]); (try simp only [List.set_cons_zero])))
    (refine wpAnyH_take (i := 24) (v := ?_) rfl (by kernel_rfl) (by kernel_rfl) (by kernel_rfl) (fun _ _ _ h => h) (Or.inl ⟨by rfl, ?_⟩) (by assumption) ?_; rotate_left; (intro w hSw; (try dsimp only at hSw); have hSw2 := hSw.2; go_simp; try with_reducible rfl); ((try simp only [List.getElem_toArray]); (try simp only [List.getElem_cons_succ]); (try simp only [List.getElem_cons_zero]); (try simp only [Act.put]); (try simp only [List.setIfInBounds_toArray]); (try simp only [List.set_cons_succ]); (try simp only [List.set_cons_zero])))
    refine wpAnyH_done (by kernel_rfl) ?_ _
    go_wp2_with fail
    clear hz t3 t32 HDN HFR HRF hq
    go_wp2_with fail
    go_loopw [6] (fun i wr => ∃ k : Nat, k ≤ S.fs.length ∧ i = .int .i64 k ∧ Hid (Below vR.heap.size vR wr)) (fun i _ => S.fs.length - (intOf i).toNat)
    case atStart => exact ⟨0, by omega, rfl, Below.refl _ _⟩
    case round =>
      obtain ⟨k, hk, rfl, HW⟩ := hrel
      by_cases hlt : k < S.fs.length
      · have hk1 := List.getElem?_eq_getElem hlt
        have HRD := Lib.hid (readD_at H3.out.good HN.out hd hk1)
        have hg := H3.out.good
        have hkp := (hg.kept S.fs[k] (List.getElem_mem _)).1
        have hlx := hg.len (List.getElem_mem (h := hlt))
        have hroom := hg.room
        have H4 := Lib.hid (H3.out.below HW.out)
        have HR4 := HR3.out.keep (fun b hb => HW.out.block b (HR3.out.lt b hb))
        have HDR := Lib.hid (read_dk H4.out.dk (tx S.fs[k].nm) (fileF_sz (HN.out _ (List.getElem_mem hlt))))
        have hc : ∃ g, LA = some ⟨g, 0, none⟩ ∧ wr.cell? ⟨g, k, none⟩ = some (.string (tx S.fs[k].nm)) := by
          have hr := HROW.out
          rcases hr.2 with ⟨h1, h2⟩ | ⟨g, cap, cur, h1, h2, h3, _⟩
          · omega
          · injection h1 with h1
            refine ⟨g, h1, ?_⟩
            have hl1 := hr.cells (g := g) (by rw [h1]; rfl) k (encStr S.fs[k].nm) (by unfold listD; rw [hd]; simp [hk1])
            rw [Addr.add_lit, Nat.zero_add] at hl1
            have hlw := World.block_lt_of_cell? w1 ⟨g, k, none⟩ hl1
            have hb := HBR.out.trans (HW.out.mono HBR.out.size)
            exact (World.cell?_of_block (w := w1) (a := ⟨g, k, none⟩) (hb.block g hlw)).trans hl1
        obtain ⟨g, rfl, a0⟩ := hc
        obtain ⟨A', c', he', q1, q2, q3, q4, hrow4⟩ := HR4.row
        injection he' with e1 e2 e3
        obtain ⟨g4, hAg, c0, c1, c2, -⟩ := hrow4 k S.fs[k] hk1
        rw [← e1] at hAg
        subst hAg
        have u1 : wr.cell? ⟨r, 1, none⟩ = some (.slice (some ⟨g4, 0, none⟩) S.fs.length c3) := HR4.top.cell 1
        clear e1 e2 e3 q1 q2 q3 q4 hrow4 HR4 t31 t33
        generalize S.fs[k] = x at *
        have s1 : (bs (x.l.take x.k)).size ≤ 1000 := by rw [bs_size, List.length_take]; omega
        have s2 : (bs (x.l.drop x.k)).size ≤ 1000 := by rw [bs_size, List.length_drop]; omega
        have hcat : bs (x.l.take x.k) ++ bs (x.l.drop x.k) = bs x.l := by rw [← bs_append, List.take_append_drop]
        have hcc : ¬ (9223372036854775807 < (bs (x.l.take x.k)).size + (bs (x.l.drop x.k)).size) := by omega
        have i1 : (k : Int) < (S.fs.length : Int) := by omega
        clear hg hk1 hkp hlx hroom
        go_wp2_with fail
        refine HDR.out.mono ?_
        rintro e w5 ⟨A5, n5, c5, k5, rfl, hk5, hl5, hown, hrd, hb5⟩
        rw [HRD.out] at hk5 hl5 hrd
        obtain rfl : k5 = 0 := hk5.out
        obtain rfl : x.l.length = n5 := hl5.out
        have HB5 := Lib.hid hb5.out
        have stay : ∀ (p : Addr) (u : Value), wr.cell? p = some u → w5.cell? p = some u := fun p u hp => (World.cell?_of_block (w := wr) (a := p) (HB5.out.block p.block (World.block_lt_of_cell? wr p hp))).trans hp
        have a0 := stay _ _ a0
        have c0 := stay _ _ c0
        have c1 := stay _ _ c1
        have c2 := stay _ _ c2
        have u1 := stay _ _ u1
        have hcv : ∀ q, Sem.run Try.prog (convert 28 9 (.slice A5 x.l.length c5)) (w5.drewN q) = .ok (.string (bs x.l)) (w5.drewN q) := fun q => conv_len (w5.drewN q) A5 x.l x.l.length c5 rfl hrd.out
        have HW5 : Hid (∀ q, Below vR.heap.size vR (w5.drewN q)) := fun q => below_drewN (HW.out.trans (HB5.out.mono HW.out.size)) q
        clear stay hk5 hl5 hown hrd hb5 HDR HRD
        generalize bs (x.l.take x.k) = sa at *
        generalize bs (x.l.drop x.k) = sb2 at *
        generalize bs x.l = sl at *
        generalize tx x.nm = sn at *
        go_wp2_with fail
        go_quiet (fail)
        go_wp2_with fail
        go_roundw
        case rel => exact ⟨k + 1, by omega, by go_num, HW5.out _⟩
        case measure => simp [intOf]; omega
      · obtain rfl : k = S.fs.length := by omega
        go_wp2_with fail
        go_ret
        exact ⟨rfl, HB.out.trans ((HBR.out.trans (HW.out.mono HBR.out.size)).mono HB.out.size)⟩
end
end Go.Proofs.Ytoooainecoappaa
