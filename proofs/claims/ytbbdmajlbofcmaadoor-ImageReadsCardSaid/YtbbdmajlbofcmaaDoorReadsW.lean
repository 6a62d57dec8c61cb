/-
  The law ImageReads walked.
-/
import Derived.Test.YtbbdmajlbofcmaaDoorGood4
import Derived.Test.YtbbdmajlbofcmaaDoorLives5
import Derived.Test.YtbbdmajlbofcmaaDoorVsame
import Derived.Test.YtbbdmajlbofcmaaDoorImgRc
import Derived.Deep.RegionWith
import Derived.Deep.Cut
namespace Go.Proofs.YtbbdmajlbofcmaaDoor.imageReads
open Go.RowKit Dg
theorem few60_any (A : Option Addr) (n c : Nat) (w : World) (hn : n ≤ c) (hc : c ≤ maxLen) :
    Calls Tryd.prog 12 #[.slice A n c, .int .i64 60] w fun e w' => e = .returned (.slice A (min n 60) c) ∧ w = w' := by
  unfold maxLen at hc
  have hc2 : (c : Int) ≤ 9223372036854775807 := by omega
  by_cases h : n ≤ 60
  · rw [Nat.min_eq_left h]
    have h0 : (n : Int) ≤ 60 := by omega
    go_enter Tryd.func12, Tryd.ntmps12
    go_wp2_with fail
    go_ret
    exact ⟨rfl, rfl⟩
  · rw [Nat.min_eq_right (by omega)]
    have h0 : (60 : Int) < (n : Int) := by omega
    have h1 : (60 : Int) ≤ (c : Int) := by omega
    go_enter Tryd.func12, Tryd.ntmps12
    go_wp2_with fail
    go_ret
    exact ⟨rfl, rfl⟩
set_option maxHeartbeats 6000000 in
set_option maxRecDepth 100000 in
theorem walk (A : Option Addr) (n c : Nat) (L : List Cl) (K : Int) (Ab : Option Addr) (nb cb : Nat) (lb : List Nat) (w : World) (hn : L.length = n) (hnc : n ≤ c) (hcm : c ≤ maxLen) (hA : CRow w A L) (hf : ∀ x ∈ L, x.fit) (hk0 : -9223372036854775808 ≤ K) (hk1 : K ≤ 9223372036854775807) (hnb : lb.length = nb) (hncb : nb ≤ cb) (hcmb : cb ≤ maxLen) (hxb : ∀ x ∈ lb, x < 256) (hBb : Rd w Ab lb) (_hzb : Ab = none → cb = 0) (hT : Tabs w) :
    Calls Tryd.prog 3 #[.agg #[.slice A n c, .int .i64 K], .slice Ab nb cb] w fun e w' => e = .returned (.bool true) ∧ Below w.heap.size w w' := by
  have HB := Lib.hid ((Below.refl w.heap.size w).alloc (Nat.le_refl _) (.cells #[.slice A n c, .int .i64 K] 24))
  have HC1 := Lib.hid (rgood_any A L n c K (w.alloc (.cells #[.slice A n c, .int .i64 K] 24)) hn hnc hcm (hA.below HB.out) hf hk0 hk1)
  have HGS := Lib.hid (goodS_is L K)
  have hs0 : (w.alloc (.cells #[.slice A n c, .int .i64 K] 24)).heap.size = w.heap.size + 1 := by simp
  rw [hs0] at HC1
  have HBB := Lib.hid (hBb.below HB.out)
  have HXB := Lib.hid hxb
  have HNB := Lib.hid hnb
  have HTB := Lib.hid (hT.below HB.out)
  clear hBb hxb _hzb hnb hT hs0 hn hnc hcm hA hf
  go_enter Tryd.func3, Tryd.ntmps3
  go_wp2_with fail
  refine HC1.out.mono ?_
  rintro e w1 ⟨v1, rfl, ho1, hb⟩
  generalize gdC L K = G at *
  generalize gdK L K = gk at *
  obtain ⟨Ag, ng, cg, rfl, HNG, hngc, hcgm, HVG, HZG⟩ := ownC_open ho1.out
  have HFIT := Lib.hid (goodS_fit G gk HGS.out)
  have HKD := Lib.hid (fun (x : Cl) (hx : x ∈ G) => (show 1 ≤ x.k ∧ x.k ≤ 4 from ⟨(HFIT.out x hx).2.1, (HFIT.out x hx).2.2.1⟩))
  have hlen := HGS.out.len
  have hkeys := HGS.out.keys
  rw [HNG.out] at hlen hkeys
  obtain ⟨hl1, hl6⟩ := hlen
  obtain ⟨hg1, hgn, hg3⟩ := hkeys
  replace HB := Lib.hid (HB.out.trans (hb.out.mono (by simp)))
  replace HBB := Lib.hid (HBB.out.below (hb.out.mono (by simp)))
  replace HTB := Lib.hid (HTB.out.below (hb.out.mono (by simp)))
  clear hb ho1 HC1 HZG HFIT HGS
  have hb : Below w1.heap.size w1 (w1.alloc (.cells #[.slice Ag ng cg, .int .i64 gk] 24)) := (Below.refl _ _).alloc (Nat.le_refl _) _
  replace HB := Lib.hid (HB.out.trans (hb.mono HB.out.size))
  replace HBB := Lib.hid (HBB.out.below hb)
  replace HTB := Lib.hid (HTB.out.below hb)
  replace HVG := Lib.hid (HVG.out.below hb)
  clear hb
  have HG := Lib.hid (Has.new w1 24 #[.slice Ag ng cg, .int .i64 gk])
  go_wp2_with fail
  refine (few60_any Ab nb cb _ hncb hcmb).mono ?_
  rintro e wF ⟨rfl, hwf⟩
  subst hwf
  obtain ⟨m, hm⟩ : ∃ m, min nb 60 = m := ⟨_, rfl⟩
  have HLB : Hid ((lb.take 60).length = m) := by show _ = _; rw [List.length_take, HNB.out, ← hm]; omega
  have HX2 := Lib.hid (fun (x : Nat) (hx : x ∈ lb.take 60) => HXB.out x (List.mem_of_mem_take hx))
  replace HBB := Lib.hid (HBB.out.take 60)
  have hm20 : m ≤ 60 := by omega
  have hmc : m ≤ cb := by omega
  rw [hm]
  generalize lb.take 60 = lc at *
  clear HXB HNB hm
  obtain ⟨w2, hW1⟩ : ∃ W, W = (w1.alloc (.cells #[.slice Ag ng cg, .int .i64 gk] 24)) := ⟨_, rfl⟩
  rw [← hW1] at HB HBB HTB HVG HG ⊢
  clear hW1
  have HB0 : Hid (w.heap.size ≤ w2.heap.size) := HB.out.size
  have hsz2 : w1.heap.size < w2.heap.size := HG.out.lt
  go_wp2_with fail
  refine (Read_len Ab lc m cb _ HLB.out HBB.out (by omega)).mono ?_
  rintro e w3 ⟨gx, rfl, hggx, hrd, hb⟩
  have HRgx := Lib.hid hrd.out
  have hggx := hggx
  have hgx3' : gx < w3.heap.size := hrd.out.lt
  replace HB := Lib.hid (HB.out.trans (hb.out.mono HB.out.size))
  replace HBB := Lib.hid (HBB.out.below hb.out)
  replace HTB := Lib.hid (HTB.out.below hb.out)
  replace HVG := Lib.hid (HVG.out.below hb.out)
  replace HG := Lib.hid (HG.out.below hb.out HG.out.lt)
  clear hb hrd
  go_wp2_with fail
  refine (Read_len Ab lc m cb _ HLB.out HBB.out (by omega)).mono ?_
  rintro e w4 ⟨gy, rfl, hggy, hrd, hb⟩
  have HRgy := Lib.hid hrd.out
  have hggy := hggy
  have hgy4' : gy < w4.heap.size := hrd.out.lt
  replace HB := Lib.hid (HB.out.trans (hb.out.mono HB.out.size))
  replace HBB := Lib.hid (HBB.out.below hb.out)
  replace HTB := Lib.hid (HTB.out.below hb.out)
  replace HVG := Lib.hid (HVG.out.below hb.out)
  replace HG := Lib.hid (HG.out.below hb.out HG.out.lt)
  replace HRgx := Lib.hid (HRgx.out.below hb.out)
  clear hb hrd
  have HZW := Lib.hid (rr_new HLB.out hmc HBB.out)
  have hb : Below w4.heap.size w4 (w4.alloc (.cells #[.slice Ab m cb, .int .i64 0] 33)) := (Below.refl _ _).alloc (Nat.le_refl _) _
  replace HB := Lib.hid (HB.out.trans (hb.mono HB.out.size))
  replace HBB := Lib.hid (HBB.out.below hb)
  replace HTB := Lib.hid (HTB.out.below hb)
  replace HVG := Lib.hid (HVG.out.below hb)
  replace HG := Lib.hid (HG.out.below hb HG.out.lt)
  replace HRgx := Lib.hid (HRgx.out.below hb)
  replace HRgy := Lib.hid (HRgy.out.below hb)
  clear hb
  have HZV := Lib.hid (rr_new HLB.out hmc HBB.out)
  rw [show (w4.alloc (.cells #[.slice Ab m cb, .int .i64 0] 33)).heap.size = w4.heap.size + 1 by simp] at HZV
  have hb : Below (w4.alloc (.cells #[.slice Ab m cb, .int .i64 0] 33)).heap.size (w4.alloc (.cells #[.slice Ab m cb, .int .i64 0] 33)) ((w4.alloc (.cells #[.slice Ab m cb, .int .i64 0] 33)).alloc (.cells #[.slice Ab m cb, .int .i64 0] 33)) := (Below.refl _ _).alloc (Nat.le_refl _) _
  replace HB := Lib.hid (HB.out.trans (hb.mono HB.out.size))
  replace HBB := Lib.hid (HBB.out.below hb)
  replace HTB := Lib.hid (HTB.out.below hb)
  replace HVG := Lib.hid (HVG.out.below hb)
  replace HG := Lib.hid (HG.out.below hb HG.out.lt)
  replace HRgx := Lib.hid (HRgx.out.below hb)
  replace HRgy := Lib.hid (HRgy.out.below hb)
  replace HZW := Lib.hid (HZW.out.below hb)
  clear hb
  obtain ⟨w6, hW6⟩ : ∃ W, W = ((w4.alloc (.cells #[.slice Ab m cb, .int .i64 0] 33)).alloc (.cells #[.slice Ab m cb, .int .i64 0] 33)) := ⟨_, rfl⟩
  rw [← hW6] at HB HBB HTB HVG HG HRgx HRgy HZW HZV
  have HZW2 := Lib.hid (RrD.dd HZW.out)
  have HZV2 := Lib.hid (RrD.dd HZV.out)
  clear HZW HZV HBB
  have hgx3 : gx < w3.heap.size := hgx3'
  have hgy4 : gy < w4.heap.size := hgy4'
  have hsz34 : w3.heap.size ≤ gy := hggy
  have hsx : w2.heap.size ≤ gx := hggx
  have HBD0 := HB0.out
  have zHG_0 : w6.cell? ⟨w1.heap.size, 0, none⟩ = some (.slice Ag ng cg) := HG.out.cell 0
  have zHG_1 : w6.cell? ⟨w1.heap.size, 1, none⟩ = some (.int .i64 gk) := HG.out.cell 1
  rw [hW6] at zHG_0 zHG_1
  go_wp2_with fail
  rw [← hW6]
  rw [← hW6] at zHG_0 zHG_1
  clear hW6
  have HLF := Lib.hid (readF_len G lc 0)
  have HIX := Lib.hid (iread_any gx lc 0 Ag G ng cg gk w6 HRgx.out.dd HRgx.out.lt (Nat.le_refl _) HX2.out (by rw [HLB.out]; omega) HNG.out hl1 (by omega) HVG.out HKD.out HTB.out)
  have HIW := Lib.hid (fun (W : World) (h : RrD W.heap.size W w4.heap.size lc 0) (hA : CRow W Ag G) => rread_any w4.heap.size lc Ag G ng cg W h (Nat.le_refl _) HX2.out (by rw [HLB.out]; omega) HNG.out hl1 (by omega) hA HKD.out)
  generalize readF G lc 0 = RF at *
  rw [HNG.out] at HLF
  refine HIX.out.mono ?_
  rintro e w7 ⟨⟨Ap, np, cp, rfl, hnp, hvp⟩, hrx, hgr⟩
  have HNP : Hid ((RF.1.getD []).length = np) := hnp.out
  have HVP : Hid (VRow w7 Ap (RF.1.getD [])) := hvp.out
  have HRx : Hid (Rdr w7 gx RF.2.1 RF.2.2) := hrx.out.rdr
  have HGR := Lib.hid hgr.out
  clear hnp hvp hrx hgr HIX zHG_0 zHG_1
  obtain ⟨Aq0, cq0, hh0⟩ := HRgx.out.has
  replace HVG := Lib.hid (crow_has HVG.out hh0 HGR.out)
  replace HTB := Lib.hid (tabs_has HTB.out hh0 HGR.out)
  replace HRgy := Lib.hid (rdr_has HRgy.out hh0 HGR.out (by omega))
  replace HZW2 := Lib.hid (rr_has HZW2.out hh0 HGR.out (by omega))
  replace HZV2 := Lib.hid (rr_has HZV2.out hh0 HGR.out (by omega))
  replace HG := Lib.hid (HG.out.grown HGR.out (by omega))
  replace HB := Lib.hid (Below.turn HB.out HGR.out (by omega))
  clear hh0 HGR HRgx
  have zHG_0 : w7.cell? ⟨w1.heap.size, 0, none⟩ = some (.slice Ag ng cg) := HG.out.cell 0
  have zHG_1 : w7.cell? ⟨w1.heap.size, 1, none⟩ = some (.int .i64 gk) := HG.out.cell 1
  go_wp2_with fail
  refine (HIW.out w7 HZW2.out.dd HVG.out).mono ?_
  rintro e w8 ⟨⟨Aq, nq, cq, rfl, hnp, hvp⟩, hrs, hre, hgr⟩
  have HNQ : Hid ((RF.1.getD []).length = nq) := hnp.out
  have HVQ : Hid (VRow w8 Aq (RF.1.getD [])) := hvp.out
  have HRS : Hid (RF.1.isSome = true → RrD w7.heap.size w8 w4.heap.size RF.2.1 0) := hrs.out
  have HGR := Lib.hid hgr.out
  clear hnp hvp hrs hre hgr HIW zHG_0 zHG_1
  obtain ⟨Aq0, cq0, hh0⟩ := HZW2.out.has
  replace HVP := Lib.hid (vrow_has HVP.out hh0 HGR.out)
  replace HVG := Lib.hid (crow_has HVG.out hh0 HGR.out)
  replace HTB := Lib.hid (tabs_has HTB.out hh0 HGR.out)
  replace HRgy := Lib.hid (rdr_has HRgy.out hh0 HGR.out (by omega))
  replace HRx := Lib.hid (rdr_has HRx.out hh0 HGR.out (by omega))
  replace HZV2 := Lib.hid (rr_has HZV2.out hh0 HGR.out (by omega))
  replace HG := Lib.hid (HG.out.grown HGR.out (by omega))
  replace HB := Lib.hid (Below.turn HB.out HGR.out (by omega))
  clear hh0 HGR HZW2
  obtain rfl : np = nq := HNP.out.symm.trans HNQ.out
  have hnp8 : np ≤ 8 := by rw [← HNP.out]; exact Nat.le_trans HLF.out (by omega)
  have zHG_0 : w8.cell? ⟨w1.heap.size, 0, none⟩ = some (.slice Ag ng cg) := HG.out.cell 0
  have zHG_1 : w8.cell? ⟨w1.heap.size, 1, none⟩ = some (.int .i64 gk) := HG.out.cell 1
  go_wp2_with fail
  obtain ⟨on, hon⟩ : ∃ q, RF.1.isSome = q := ⟨_, rfl⟩
  obtain ⟨RL, hRL⟩ : ∃ q, RF.1.getD [] = q := ⟨_, rfl⟩
  obtain ⟨rl, hrl⟩ : ∃ q, RF.2.1 = q := ⟨_, rfl⟩
  obtain ⟨re, hre⟩ : ∃ q, RF.2.2 = q := ⟨_, rfl⟩
  rw [hon, hrl] at HRS
  rw [hRL] at HNP HVP HNQ HVQ
  rw [hrl, hre] at HRx
  rw [hon]
  clear hon hRL hrl hre HLF
  have HSM := Lib.hid (fun (X : World) (hb : Hid (Below w8.heap.size w8 X)) => (vsame_any Ap RL np cp Aq RL np cq X HNP.out HNQ.out (by omega) (by omega) (HVP.out.below hb.out) (HVQ.out.below hb.out)).mono (R' := fun e w' => e = .returned (.bool true) ∧ Hid (Below w8.heap.size w8 w')) fun e w' h => ⟨by rw [h.1, (vsF_iff RL RL).2 rfl], hb.out.trans (h.2.out.mono hb.out.size)⟩)
  have HLX := Lib.hid (fun (X : World) (hb : Hid (Below w8.heap.size w8 X)) => (left_any gx rl re X (HRx.out.below hb.out)).mono (R' := fun e w' => e = .returned (.int .i64 (rl.length : Int)) ∧ Hid (Below w8.heap.size w8 w')) fun e w' h => ⟨h.1, h.2 ▸ hb⟩)
  have hd0 : Hid (Below w8.heap.size w8 w8.drew) := (Below.refl _ w8).drew
  go_cut [68] from 47 (fun s68 W => s68 = Go.Value.bool false ∧ Hid (Below w8.heap.size w8 W))
  case' first =>
    cases on
    · refine wp_region_held_drew (S := fun X => Hid (Below w8.heap.size w8 X)) (by kernel_rfl) hd0 (fun _ => ?_)
      (refine wpAnyH_take (i := 0) (v := ?_) rfl (by kernel_rfl) (by kernel_rfl) (by kernel_rfl) (fun _ _ _ h => h) (Or.inl ⟨by rfl, ?_⟩) (by assumption) ?_; rotate_left; (intro w hSw; (try dsimp only at hSw); go_simp; try with_reducible rfl); ((try simp only [List.getElem_toArray]); (try simp only [List.getElem_cons_succ]); (try simp only [List.getElem_cons_zero]); (try simp only [Act.put]); (try simp only [List.setIfInBounds_toArray]); (try simp only [List.set_cons_succ]); (try simp only [List.set_cons_zero])))
      (refine wpAnyH_take (i := 1) (v := ?_) rfl (by kernel_rfl) (by kernel_rfl) (by kernel_rfl) (fun _ _ _ h => h) (Or.inl ⟨by rfl, ?_⟩) (by assumption) ?_; rotate_left; (intro w hSw; (try dsimp only at hSw); go_simp; try with_reducible rfl); ((try simp only [List.getElem_toArray]); (try simp only [List.getElem_cons_succ]); (try simp only [List.getElem_cons_zero]); (try simp only [Act.put]); (try simp only [List.setIfInBounds_toArray]); (try simp only [List.set_cons_succ]); (try simp only [List.set_cons_zero])))
      refine wpAnyH_ready (rs := [2]) (by kernel_rfl) (by simp) ?_
      refine AllReadyH.cons rfl (fun K2 hK2 => ?_) AllReadyH.nil
      go_simp
      refine (HSM.out _ hd0).mono ?_
      rintro e x1 ⟨rfl, hd⟩
      go_wp2_with fail
      refine hK2.out _ _ (by (try dsimp only); assumption) (fun _ => ?_)
      clear hK2 K2
      (try simp only [List.getElem_toArray]); (try simp only [List.getElem_cons_succ]); (try simp only [List.getElem_cons_zero]); (try simp only [Act.put]); (try simp only [List.setIfInBounds_toArray]); (try simp only [List.set_cons_succ]); (try simp only [List.set_cons_zero])
      (refine wpAnyH_take (i := 3) (v := ?_) rfl (by kernel_rfl) (by kernel_rfl) (by kernel_rfl) (fun _ _ _ h => h) (Or.inl ⟨by rfl, ?_⟩) (by assumption) ?_; rotate_left; (intro w hSw; (try dsimp only at hSw); go_simp; try with_reducible rfl); ((try simp only [List.getElem_toArray]); (try simp only [List.getElem_cons_succ]); (try simp only [List.getElem_cons_zero]); (try simp only [Act.put]); (try simp only [List.setIfInBounds_toArray]); (try simp only [List.set_cons_succ]); (try simp only [List.set_cons_zero])))
      (refine wpAnyH_take (i := 4) (v := ?_) rfl (by kernel_rfl) (by kernel_rfl) (by kernel_rfl) (fun _ _ _ h => h) (Or.inl ⟨by rfl, ?_⟩) (by assumption) ?_; rotate_left; (intro w hSw; (try dsimp only at hSw); go_simp; try with_reducible rfl); ((try simp only [List.getElem_toArray]); (try simp only [List.getElem_cons_succ]); (try simp only [List.getElem_cons_zero]); (try simp only [Act.put]); (try simp only [List.setIfInBounds_toArray]); (try simp only [List.set_cons_succ]); (try simp only [List.set_cons_zero])))
      (refine wpAnyH_take (i := 5) (v := ?_) rfl (by kernel_rfl) (by kernel_rfl) (by kernel_rfl) (fun _ _ _ h => h) (Or.inl ⟨by rfl, ?_⟩) (by assumption) ?_; rotate_left; (intro w hSw; (try dsimp only at hSw); go_simp; try with_reducible rfl); ((try simp only [List.getElem_toArray]); (try simp only [List.getElem_cons_succ]); (try simp only [List.getElem_cons_zero]); (try simp only [Act.put]); (try simp only [List.setIfInBounds_toArray]); (try simp only [List.set_cons_succ]); (try simp only [List.set_cons_zero])))
      (refine wpAnyH_take (i := 6) (v := ?_) rfl (by kernel_rfl) (by kernel_rfl) (by kernel_rfl) (fun _ _ _ h => h) (Or.inl ⟨by rfl, ?_⟩) (by assumption) ?_; rotate_left; (intro w hSw; (try dsimp only at hSw); go_simp; try with_reducible rfl); ((try simp only [List.getElem_toArray]); (try simp only [List.getElem_cons_succ]); (try simp only [List.getElem_cons_zero]); (try simp only [Act.put]); (try simp only [List.setIfInBounds_toArray]); (try simp only [List.set_cons_succ]); (try simp only [List.set_cons_zero])))
      (refine wpAnyH_take (i := 7) (v := ?_) rfl (by kernel_rfl) (by kernel_rfl) (by kernel_rfl) (fun _ _ _ h => h) (Or.inl ⟨by rfl, ?_⟩) (by assumption) ?_; rotate_left; (intro w hSw; (try dsimp only at hSw); go_simp; try with_reducible rfl); ((try simp only [List.getElem_toArray]); (try simp only [List.getElem_cons_succ]); (try simp only [List.getElem_cons_zero]); (try simp only [Act.put]); (try simp only [List.setIfInBounds_toArray]); (try simp only [List.set_cons_succ]); (try simp only [List.set_cons_zero])))
      (refine wpAnyH_take (i := 8) (v := ?_) rfl (by kernel_rfl) (by kernel_rfl) (by kernel_rfl) (fun _ _ _ h => h) (Or.inl ⟨by rfl, ?_⟩) (by assumption) ?_; rotate_left; (intro w hSw; (try dsimp only at hSw); go_simp; try with_reducible rfl); ((try simp only [List.getElem_toArray]); (try simp only [List.getElem_cons_succ]); (try simp only [List.getElem_cons_zero]); (try simp only [Act.put]); (try simp only [List.setIfInBounds_toArray]); (try simp only [List.set_cons_succ]); (try simp only [List.set_cons_zero])))
      (refine wpAnyH_take (i := 9) (v := ?_) rfl (by kernel_rfl) (by kernel_rfl) (by kernel_rfl) (fun _ _ _ h => h) (Or.inl ⟨by rfl, ?_⟩) (by assumption) ?_; rotate_left; (intro w hSw; (try dsimp only at hSw); go_simp; try with_reducible rfl); ((try simp only [List.getElem_toArray]); (try simp only [List.getElem_cons_succ]); (try simp only [List.getElem_cons_zero]); (try simp only [Act.put]); (try simp only [List.setIfInBounds_toArray]); (try simp only [List.set_cons_succ]); (try simp only [List.set_cons_zero])))
      (refine wpAnyH_take (i := 10) (v := ?_) rfl (by kernel_rfl) (by kernel_rfl) (by kernel_rfl) (fun _ _ _ h => h) (Or.inl ⟨by rfl, ?_⟩) (by assumption) ?_; rotate_left; (intro w hSw; (try dsimp only at hSw); go_simp; try with_reducible rfl); ((try simp only [List.getElem_toArray]); (try simp only [List.getElem_cons_succ]); (try simp only [List.getElem_cons_zero]); (try simp only [Act.put]); (try simp only [List.setIfInBounds_toArray]); (try simp only [List.set_cons_succ]); (try simp only [List.set_cons_zero])))
      (refine wpAnyH_take (i := 11) (v := ?_) rfl (by kernel_rfl) (by kernel_rfl) (by kernel_rfl) (fun _ _ _ h => h) (Or.inl ⟨by rfl, ?_⟩) (by assumption) ?_; rotate_left; (intro w hSw; (try dsimp only at hSw); go_simp; try with_reducible rfl); ((try simp only [List.getElem_toArray]); (try simp only [List.getElem_cons_succ]); (try simp only [List.getElem_cons_zero]); (try simp only [Act.put]); (try simp only [List.setIfInBounds_toArray]); (try simp only [List.set_cons_succ]); (try simp only [List.set_cons_zero])))
      (refine wpAnyH_take (i := 12) (v := undef) rfl (by kernel_rfl) (by kernel_rfl) (by kernel_rfl) (fun _ _ _ h => h) (Or.inr ⟨by rfl, rfl⟩) (by assumption) ?_; ((try simp only [List.getElem_toArray]); (try simp only [List.getElem_cons_succ]); (try simp only [List.getElem_cons_zero]); (try simp only [Act.put]); (try simp only [List.setIfInBounds_toArray]); (try simp only [List.set_cons_succ]); (try simp only [List.set_cons_zero])))
      (refine wpAnyH_take (i := 13) (v := undef) rfl (by kernel_rfl) (by kernel_rfl) (by kernel_rfl) (fun _ _ _ h => h) (Or.inr ⟨by rfl, rfl⟩) (by assumption) ?_; ((try simp only [List.getElem_toArray]); (try simp only [List.getElem_cons_succ]); (try simp only [List.getElem_cons_zero]); (try simp only [Act.put]); (try simp only [List.setIfInBounds_toArray]); (try simp only [List.set_cons_succ]); (try simp only [List.set_cons_zero])))
      (refine wpAnyH_take (i := 14) (v := undef) rfl (by kernel_rfl) (by kernel_rfl) (by kernel_rfl) (fun _ _ _ h => h) (Or.inr ⟨by rfl, rfl⟩) (by assumption) ?_; ((try simp only [List.getElem_toArray]); (try simp only [List.getElem_cons_succ]); (try simp only [List.getElem_cons_zero]); (try simp only [Act.put]); (try simp only [List.setIfInBounds_toArray]); (try simp only [List.set_cons_succ]); (try simp only [List.set_cons_zero])))
      (refine wpAnyH_take (i := 15) (v := undef) rfl (by kernel_rfl) (by kernel_rfl) (by kernel_rfl) (fun _ _ _ h => h) (Or.inr ⟨by rfl, rfl⟩) (by assumption) ?_; ((try simp only [List.getElem_toArray]); (try simp only [List.getElem_cons_succ]); (try simp only [List.getElem_cons_zero]); (try simp only [Act.put]); (try simp only [List.setIfInBounds_toArray]); (try simp only [List.set_cons_succ]); (try simp only [List.set_cons_zero])))
      (refine wpAnyH_take (i := 16) (v := undef) rfl (by kernel_rfl) (by kernel_rfl) (by kernel_rfl) (fun _ _ _ h => h) (Or.inr ⟨by rfl, rfl⟩) (by assumption) ?_; ((try simp only [List.getElem_toArray]); (try simp only [List.getElem_cons_succ]); (try simp only [List.getElem_cons_zero]); (try simp only [Act.put]); (try simp only [List.setIfInBounds_toArray]); (try simp only [List.set_cons_succ]); (try simp only [List.set_cons_zero])))
      (refine wpAnyH_take (i := 17) (v := undef) rfl (by kernel_rfl) (by kernel_rfl) (by kernel_rfl) (fun _ _ _ h => h) (Or.inr ⟨by rfl, rfl⟩) (by assumption) ?_; ((try simp only [List.getElem_toArray]); (try simp only [List.getElem_cons_succ]); (try simp only [List.getElem_cons_zero]); (try simp only [Act.put]); (try simp only [List.setIfInBounds_toArray]); (try simp only [List.set_cons_succ]); (try simp only [List.set_cons_zero])))
      (refine wpAnyH_take (i := 18) (v := undef) rfl (by kernel_rfl) (by kernel_rfl) (by kernel_rfl) (fun _ _ _ h => h) (Or.inr ⟨by rfl, rfl⟩) (by assumption) ?_; ((try simp only [List.getElem_toArray]); (try simp only [List.getElem_cons_succ]); (try simp only [List.getElem_cons_zero]); (try simp only [Act.put]); (try simp only [List.setIfInBounds_toArray]); (try simp only [List.set_cons_succ]); (try simp only [List.set_cons_zero])))
      (refine wpAnyH_take (i := 19) (v := undef) rfl (by kernel_rfl) (by kernel_rfl) (by kernel_rfl) (fun _ _ _ h => h) (Or.inr ⟨by rfl, rfl⟩) (by assumption) ?_; ((try simp only [List.getElem_toArray]); (try simp only [List.getElem_cons_succ]); (try simp only [List.getElem_cons_zero]); (try simp only [Act.put]); (try simp only [List.setIfInBounds_toArray]); (try simp only [List.set_cons_succ]); (try simp only [List.set_cons_zero])))
      (refine wpAnyH_take (i := 20) (v := ?_) rfl (by kernel_rfl) (by kernel_rfl) (by kernel_rfl) (fun _ _ _ h => h) (Or.inl ⟨by rfl, ?_⟩) (by assumption) ?_; rotate_left; (intro w hSw; (try dsimp only at hSw); go_simp; try with_reducible rfl); ((try simp only [List.getElem_toArray]); (try simp only [List.getElem_cons_succ]); (try simp only [List.getElem_cons_zero]); (try simp only [Act.put]); (try simp only [List.setIfInBounds_toArray]); (try simp only [List.set_cons_succ]); (try simp only [List.set_cons_zero])))
      (refine wpAnyH_take (i := 21) (v := ?_) rfl (by kernel_rfl) (by kernel_rfl) (by kernel_rfl) (fun _ _ _ h => h) (Or.inl ⟨by rfl, ?_⟩) (by assumption) ?_; rotate_left; (intro w hSw; (try dsimp only at hSw); go_simp; try with_reducible rfl); ((try simp only [List.getElem_toArray]); (try simp only [List.getElem_cons_succ]); (try simp only [List.getElem_cons_zero]); (try simp only [Act.put]); (try simp only [List.setIfInBounds_toArray]); (try simp only [List.set_cons_succ]); (try simp only [List.set_cons_zero])))
      refine wpAnyH_done (by kernel_rfl) ?_ _
      go_wp2_with fail
      go_meet
      exact ⟨rfl, by assumption⟩
    · have HRW := Lib.hid (HRS.out rfl)
      obtain ⟨AR, cR, hhr⟩ := HRW.out.has
      have y0 : w8.cell? ⟨w4.heap.size, 0, none⟩ = some (.slice AR rl.length cR) := hhr.cell 0
      go_region_held3 (fun X => Hid (Below w8.heap.size w8 X) ∧ X.cell? ⟨w4.heap.size, 0, none⟩ = some (.slice AR rl.length cR)) ((first | assumption | (refine ⟨by assumption, ?_⟩; go_keep))) (first
        | (go_at_call 16; (with_reducible refine (HSM.out _ (by first | assumption | exact And.left (by assumption))).mono ?_); rintro e x ⟨rfl, hd⟩; have ky0 := keepC hd.out y0)
        | (go_at_call 17; (with_reducible refine (HLX.out _ (by first | assumption | exact And.left (by assumption))).mono ?_); rintro e x ⟨rfl, hd⟩; have ky0 := keepC hd.out y0))
      all_goals (go_wp2_with fail)
      all_goals go_meet
      all_goals exact ⟨rfl, by assumption⟩
  case rest =>
    obtain ⟨rfl, HBX⟩ := hcut
    clear HSM HLX hd0 HRS HNP HVP HNQ HVQ HRx zHG_0 zHG_1
    replace HB := Lib.hid (HB.out.trans (HBX.out.mono HB.out.size))
    replace HVG := Lib.hid (HVG.out.below HBX.out)
    replace HTB := Lib.hid (HTB.out.below HBX.out)
    replace HG := Lib.hid (HG.out.below HBX.out HG.out.lt)
    replace HRgy := Lib.hid (HRgy.out.below HBX.out)
    replace HZV2 := Lib.hid (RrD.below HZV2.out HBX.out)
    clear HBX
    have zHG_0 : wc.cell? ⟨w1.heap.size, 0, none⟩ = some (.slice Ag ng cg) := HG.out.cell 0
    have zHG_1 : wc.cell? ⟨w1.heap.size, 1, none⟩ = some (.int .i64 gk) := HG.out.cell 1
    have HLK : Hid ((G.take gk).length = gk) := by show _ = _; rw [List.length_take, HNG.out]; omega
    have HLF := Lib.hid (readF_len (G.take gk) lc 0)
    have HIX := Lib.hid (ireadKey_any gy lc 0 Ag G ng cg gk wc HRgy.out.dd HRgy.out.lt (Nat.le_refl _) HX2.out (by rw [HLB.out]; omega) HNG.out hg1 hgn hngc (by omega) HVG.out HKD.out HTB.out)
    have HIW := Lib.hid (fun (W : World) (h : RrD W.heap.size W (w4.heap.size + 1) lc 0) (hA : CRow W Ag G) => rread_any (w4.heap.size + 1) lc Ag (G.take gk) gk cg W h (Nat.le_refl _) HX2.out (by rw [HLB.out]; omega) HLK.out hg1 (by omega) (CRow.take hA gk) (fun x hx => HKD.out x (List.mem_of_mem_take hx)))
    clear HX2 HLB
    generalize readF (G.take gk) lc 0 = RF at *
    rw [HLK.out] at HLF
    go_wp2_with fail
    refine HIX.out.mono ?_
    rintro e w9 ⟨⟨Ap, np, cp, rfl, hnp, hvp⟩, hrx, hgr⟩
    have HNP : Hid ((RF.1.getD []).length = np) := hnp.out
    have HVP : Hid (VRow w9 Ap (RF.1.getD [])) := hvp.out
    have HRx : Hid (Rdr w9 gy RF.2.1 RF.2.2) := hrx.out.rdr
    have HGR := Lib.hid hgr.out
    clear hnp hvp hrx hgr HIX zHG_0 zHG_1
    obtain ⟨Aq0, cq0, hh0⟩ := HRgy.out.has
    replace HVG := Lib.hid (crow_has HVG.out hh0 HGR.out)
    replace HZV2 := Lib.hid (rr_has HZV2.out hh0 HGR.out (by omega))
    replace HG := Lib.hid (HG.out.grown HGR.out (by omega))
    replace HB := Lib.hid (Below.turn HB.out HGR.out (by omega))
    clear hh0 HGR HRgy
    have zHG_0 : w9.cell? ⟨w1.heap.size, 0, none⟩ = some (.slice Ag ng cg) := HG.out.cell 0
    have zHG_1 : w9.cell? ⟨w1.heap.size, 1, none⟩ = some (.int .i64 gk) := HG.out.cell 1
    clear HTB
    have hgkc : (gk : Int) ≤ (cg : Int) := by omega
    go_wp2_with fail
    refine (HIW.out w9 HZV2.out.dd HVG.out).mono ?_
    rintro e w10 ⟨⟨Aq, nq, cq, rfl, hnp, hvp⟩, hrs, hre, hgr⟩
    have HNQ : Hid ((RF.1.getD []).length = nq) := hnp.out
    have HVQ : Hid (VRow w10 Aq (RF.1.getD [])) := hvp.out
    have HRS : Hid (RF.1.isSome = true → RrD w9.heap.size w10 (w4.heap.size + 1) RF.2.1 0) := hrs.out
    have HGR := Lib.hid hgr.out
    clear hnp hvp hrs hre hgr HIW zHG_0 zHG_1
    obtain ⟨Aq0, cq0, hh0⟩ := HZV2.out.has
    replace HVP := Lib.hid (vrow_has HVP.out hh0 HGR.out)
    replace HRx := Lib.hid (rdr_has HRx.out hh0 HGR.out (by omega))
    replace HB := Lib.hid (Below.turn HB.out HGR.out (by omega))
    clear hh0 HGR HZV2
    obtain rfl : np = nq := HNP.out.symm.trans HNQ.out
    have hnp8 : np ≤ 8 := by rw [← HNP.out]; exact Nat.le_trans HLF.out (by omega)
    obtain ⟨on, hon⟩ : ∃ q, RF.1.isSome = q := ⟨_, rfl⟩
    obtain ⟨RL, hRL⟩ : ∃ q, RF.1.getD [] = q := ⟨_, rfl⟩
    obtain ⟨rl, hrl⟩ : ∃ q, RF.2.1 = q := ⟨_, rfl⟩
    obtain ⟨re, hre⟩ : ∃ q, RF.2.2 = q := ⟨_, rfl⟩
    rw [hon, hrl] at HRS
    rw [hRL] at HNP HVP HNQ HVQ
    rw [hrl, hre] at HRx
    rw [hon]
    clear hon hRL hrl hre HLF HVG HG
    have HSM := Lib.hid (fun (X : World) (hb : Hid (Below w10.heap.size w10 X)) => (vsame_any Ap RL np cp Aq RL np cq X HNP.out HNQ.out (by omega) (by omega) (HVP.out.below hb.out) (HVQ.out.below hb.out)).mono (R' := fun e w' => e = .returned (.bool true) ∧ Hid (Below w10.heap.size w10 w')) fun e w' h => ⟨by rw [h.1, (vsF_iff RL RL).2 rfl], hb.out.trans (h.2.out.mono hb.out.size)⟩)
    have HLX := Lib.hid (fun (X : World) (hb : Hid (Below w10.heap.size w10 X)) => (left_any gy rl re X (HRx.out.below hb.out)).mono (R' := fun e w' => e = .returned (.int .i64 (rl.length : Int)) ∧ Hid (Below w10.heap.size w10 w')) fun e w' h => ⟨h.1, h.2 ▸ hb⟩)
    have HLL := Lib.hid (fun (X : World) (hb : Hid (Below w10.heap.size w10 X)) => (lives5_any X).mono (R' := fun e w' => e = .returned (.bool true) ∧ Hid (Below w10.heap.size w10 w')) fun e w' h => ⟨h.1, hb.out.trans (h.2.out.mono hb.out.size)⟩)
    have hd0 : Hid (Below w10.heap.size w10 w10.drew) := (Below.refl _ w10).drew
    go_wp2_with fail
    cases on
    · refine wp_region_held_drew (S := fun X => Hid (Below w10.heap.size w10 X)) (by kernel_rfl) hd0 (fun _ => ?_)
      (refine wpAnyH_take (i := 0) (v := ?_) rfl (by kernel_rfl) (by kernel_rfl) (by kernel_rfl) (fun _ _ _ h => h) (Or.inl ⟨by rfl, ?_⟩) (by assumption) ?_; rotate_left; (intro w hSw; (try dsimp only at hSw); go_simp; try with_reducible rfl); ((try simp only [List.getElem_toArray]); (try simp only [List.getElem_cons_succ]); (try simp only [List.getElem_cons_zero]); (try simp only [Act.put]); (try simp only [List.setIfInBounds_toArray]); (try simp only [List.set_cons_succ]); (try simp only [List.set_cons_zero])))
      (refine wpAnyH_take (i := 1) (v := ?_) rfl (by kernel_rfl) (by kernel_rfl) (by kernel_rfl) (fun _ _ _ h => h) (Or.inl ⟨by rfl, ?_⟩) (by assumption) ?_; rotate_left; (intro w hSw; (try dsimp only at hSw); go_simp; try with_reducible rfl); ((try simp only [List.getElem_toArray]); (try simp only [List.getElem_cons_succ]); (try simp only [List.getElem_cons_zero]); (try simp only [Act.put]); (try simp only [List.setIfInBounds_toArray]); (try simp only [List.set_cons_succ]); (try simp only [List.set_cons_zero])))
      refine wpAnyH_ready (rs := [2]) (by kernel_rfl) (by simp) ?_
      refine AllReadyH.cons rfl (fun K2 hK2 => ?_) AllReadyH.nil
      go_simp
      refine (HSM.out _ hd0).mono ?_
      rintro e x2 ⟨rfl, hd⟩
      go_wp2_with fail
      refine hK2.out _ _ (by (try dsimp only); assumption) (fun _ => ?_)
      clear hK2 K2
      (try simp only [List.getElem_toArray]); (try simp only [List.getElem_cons_succ]); (try simp only [List.getElem_cons_zero]); (try simp only [Act.put]); (try simp only [List.setIfInBounds_toArray]); (try simp only [List.set_cons_succ]); (try simp only [List.set_cons_zero])
      (refine wpAnyH_take (i := 3) (v := ?_) rfl (by kernel_rfl) (by kernel_rfl) (by kernel_rfl) (fun _ _ _ h => h) (Or.inl ⟨by rfl, ?_⟩) (by assumption) ?_; rotate_left; (intro w hSw; (try dsimp only at hSw); go_simp; try with_reducible rfl); ((try simp only [List.getElem_toArray]); (try simp only [List.getElem_cons_succ]); (try simp only [List.getElem_cons_zero]); (try simp only [Act.put]); (try simp only [List.setIfInBounds_toArray]); (try simp only [List.set_cons_succ]); (try simp only [List.set_cons_zero])))
      (refine wpAnyH_take (i := 4) (v := ?_) rfl (by kernel_rfl) (by kernel_rfl) (by kernel_rfl) (fun _ _ _ h => h) (Or.inl ⟨by rfl, ?_⟩) (by assumption) ?_; rotate_left; (intro w hSw; (try dsimp only at hSw); go_simp; try with_reducible rfl); ((try simp only [List.getElem_toArray]); (try simp only [List.getElem_cons_succ]); (try simp only [List.getElem_cons_zero]); (try simp only [Act.put]); (try simp only [List.setIfInBounds_toArray]); (try simp only [List.set_cons_succ]); (try simp only [List.set_cons_zero])))
      (refine wpAnyH_take (i := 5) (v := ?_) rfl (by kernel_rfl) (by kernel_rfl) (by kernel_rfl) (fun _ _ _ h => h) (Or.inl ⟨by rfl, ?_⟩) (by assumption) ?_; rotate_left; (intro w hSw; (try dsimp only at hSw); go_simp; try with_reducible rfl); ((try simp only [List.getElem_toArray]); (try simp only [List.getElem_cons_succ]); (try simp only [List.getElem_cons_zero]); (try simp only [Act.put]); (try simp only [List.setIfInBounds_toArray]); (try simp only [List.set_cons_succ]); (try simp only [List.set_cons_zero])))
      (refine wpAnyH_take (i := 6) (v := ?_) rfl (by kernel_rfl) (by kernel_rfl) (by kernel_rfl) (fun _ _ _ h => h) (Or.inl ⟨by rfl, ?_⟩) (by assumption) ?_; rotate_left; (intro w hSw; (try dsimp only at hSw); go_simp; try with_reducible rfl); ((try simp only [List.getElem_toArray]); (try simp only [List.getElem_cons_succ]); (try simp only [List.getElem_cons_zero]); (try simp only [Act.put]); (try simp only [List.setIfInBounds_toArray]); (try simp only [List.set_cons_succ]); (try simp only [List.set_cons_zero])))
      (refine wpAnyH_take (i := 7) (v := ?_) rfl (by kernel_rfl) (by kernel_rfl) (by kernel_rfl) (fun _ _ _ h => h) (Or.inl ⟨by rfl, ?_⟩) (by assumption) ?_; rotate_left; (intro w hSw; (try dsimp only at hSw); go_simp; try with_reducible rfl); ((try simp only [List.getElem_toArray]); (try simp only [List.getElem_cons_succ]); (try simp only [List.getElem_cons_zero]); (try simp only [Act.put]); (try simp only [List.setIfInBounds_toArray]); (try simp only [List.set_cons_succ]); (try simp only [List.set_cons_zero])))
      (refine wpAnyH_take (i := 8) (v := ?_) rfl (by kernel_rfl) (by kernel_rfl) (by kernel_rfl) (fun _ _ _ h => h) (Or.inl ⟨by rfl, ?_⟩) (by assumption) ?_; rotate_left; (intro w hSw; (try dsimp only at hSw); go_simp; try with_reducible rfl); ((try simp only [List.getElem_toArray]); (try simp only [List.getElem_cons_succ]); (try simp only [List.getElem_cons_zero]); (try simp only [Act.put]); (try simp only [List.setIfInBounds_toArray]); (try simp only [List.set_cons_succ]); (try simp only [List.set_cons_zero])))
      (refine wpAnyH_take (i := 9) (v := ?_) rfl (by kernel_rfl) (by kernel_rfl) (by kernel_rfl) (fun _ _ _ h => h) (Or.inl ⟨by rfl, ?_⟩) (by assumption) ?_; rotate_left; (intro w hSw; (try dsimp only at hSw); go_simp; try with_reducible rfl); ((try simp only [List.getElem_toArray]); (try simp only [List.getElem_cons_succ]); (try simp only [List.getElem_cons_zero]); (try simp only [Act.put]); (try simp only [List.setIfInBounds_toArray]); (try simp only [List.set_cons_succ]); (try simp only [List.set_cons_zero])))
      (refine wpAnyH_take (i := 10) (v := ?_) rfl (by kernel_rfl) (by kernel_rfl) (by kernel_rfl) (fun _ _ _ h => h) (Or.inl ⟨by rfl, ?_⟩) (by assumption) ?_; rotate_left; (intro w hSw; (try dsimp only at hSw); go_simp; try with_reducible rfl); ((try simp only [List.getElem_toArray]); (try simp only [List.getElem_cons_succ]); (try simp only [List.getElem_cons_zero]); (try simp only [Act.put]); (try simp only [List.setIfInBounds_toArray]); (try simp only [List.set_cons_succ]); (try simp only [List.set_cons_zero])))
      (refine wpAnyH_take (i := 11) (v := ?_) rfl (by kernel_rfl) (by kernel_rfl) (by kernel_rfl) (fun _ _ _ h => h) (Or.inl ⟨by rfl, ?_⟩) (by assumption) ?_; rotate_left; (intro w hSw; (try dsimp only at hSw); go_simp; try with_reducible rfl); ((try simp only [List.getElem_toArray]); (try simp only [List.getElem_cons_succ]); (try simp only [List.getElem_cons_zero]); (try simp only [Act.put]); (try simp only [List.setIfInBounds_toArray]); (try simp only [List.set_cons_succ]); (try simp only [List.set_cons_zero])))
      (refine wpAnyH_take (i := 12) (v := undef) rfl (by kernel_rfl) (by kernel_rfl) (by kernel_rfl) (fun _ _ _ h => h) (Or.inr ⟨by rfl, rfl⟩) (by assumption) ?_; ((try simp only [List.getElem_toArray]); (try simp only [List.getElem_cons_succ]); (try simp only [List.getElem_cons_zero]); (try simp only [Act.put]); (try simp only [List.setIfInBounds_toArray]); (try simp only [List.set_cons_succ]); (try simp only [List.set_cons_zero])))
      (refine wpAnyH_take (i := 13) (v := undef) rfl (by kernel_rfl) (by kernel_rfl) (by kernel_rfl) (fun _ _ _ h => h) (Or.inr ⟨by rfl, rfl⟩) (by assumption) ?_; ((try simp only [List.getElem_toArray]); (try simp only [List.getElem_cons_succ]); (try simp only [List.getElem_cons_zero]); (try simp only [Act.put]); (try simp only [List.setIfInBounds_toArray]); (try simp only [List.set_cons_succ]); (try simp only [List.set_cons_zero])))
      (refine wpAnyH_take (i := 14) (v := undef) rfl (by kernel_rfl) (by kernel_rfl) (by kernel_rfl) (fun _ _ _ h => h) (Or.inr ⟨by rfl, rfl⟩) (by assumption) ?_; ((try simp only [List.getElem_toArray]); (try simp only [List.getElem_cons_succ]); (try simp only [List.getElem_cons_zero]); (try simp only [Act.put]); (try simp only [List.setIfInBounds_toArray]); (try simp only [List.set_cons_succ]); (try simp only [List.set_cons_zero])))
      (refine wpAnyH_take (i := 15) (v := undef) rfl (by kernel_rfl) (by kernel_rfl) (by kernel_rfl) (fun _ _ _ h => h) (Or.inr ⟨by rfl, rfl⟩) (by assumption) ?_; ((try simp only [List.getElem_toArray]); (try simp only [List.getElem_cons_succ]); (try simp only [List.getElem_cons_zero]); (try simp only [Act.put]); (try simp only [List.setIfInBounds_toArray]); (try simp only [List.set_cons_succ]); (try simp only [List.set_cons_zero])))
      (refine wpAnyH_take (i := 16) (v := undef) rfl (by kernel_rfl) (by kernel_rfl) (by kernel_rfl) (fun _ _ _ h => h) (Or.inr ⟨by rfl, rfl⟩) (by assumption) ?_; ((try simp only [List.getElem_toArray]); (try simp only [List.getElem_cons_succ]); (try simp only [List.getElem_cons_zero]); (try simp only [Act.put]); (try simp only [List.setIfInBounds_toArray]); (try simp only [List.set_cons_succ]); (try simp only [List.set_cons_zero])))
      (refine wpAnyH_take (i := 17) (v := undef) rfl (by kernel_rfl) (by kernel_rfl) (by kernel_rfl) (fun _ _ _ h => h) (Or.inr ⟨by rfl, rfl⟩) (by assumption) ?_; ((try simp only [List.getElem_toArray]); (try simp only [List.getElem_cons_succ]); (try simp only [List.getElem_cons_zero]); (try simp only [Act.put]); (try simp only [List.setIfInBounds_toArray]); (try simp only [List.set_cons_succ]); (try simp only [List.set_cons_zero])))
      (refine wpAnyH_take (i := 18) (v := undef) rfl (by kernel_rfl) (by kernel_rfl) (by kernel_rfl) (fun _ _ _ h => h) (Or.inr ⟨by rfl, rfl⟩) (by assumption) ?_; ((try simp only [List.getElem_toArray]); (try simp only [List.getElem_cons_succ]); (try simp only [List.getElem_cons_zero]); (try simp only [Act.put]); (try simp only [List.setIfInBounds_toArray]); (try simp only [List.set_cons_succ]); (try simp only [List.set_cons_zero])))
      (refine wpAnyH_take (i := 19) (v := undef) rfl (by kernel_rfl) (by kernel_rfl) (by kernel_rfl) (fun _ _ _ h => h) (Or.inr ⟨by rfl, rfl⟩) (by assumption) ?_; ((try simp only [List.getElem_toArray]); (try simp only [List.getElem_cons_succ]); (try simp only [List.getElem_cons_zero]); (try simp only [Act.put]); (try simp only [List.setIfInBounds_toArray]); (try simp only [List.set_cons_succ]); (try simp only [List.set_cons_zero])))
      (refine wpAnyH_take (i := 20) (v := ?_) rfl (by kernel_rfl) (by kernel_rfl) (by kernel_rfl) (fun _ _ _ h => h) (Or.inl ⟨by rfl, ?_⟩) (by assumption) ?_; rotate_left; (intro w hSw; (try dsimp only at hSw); go_simp; try with_reducible rfl); ((try simp only [List.getElem_toArray]); (try simp only [List.getElem_cons_succ]); (try simp only [List.getElem_cons_zero]); (try simp only [Act.put]); (try simp only [List.setIfInBounds_toArray]); (try simp only [List.set_cons_succ]); (try simp only [List.set_cons_zero])))
      (refine wpAnyH_take (i := 21) (v := ?_) rfl (by kernel_rfl) (by kernel_rfl) (by kernel_rfl) (fun _ _ _ h => h) (Or.inl ⟨by rfl, ?_⟩) (by assumption) ?_; rotate_left; (intro w hSw; (try dsimp only at hSw); go_simp; try with_reducible rfl); ((try simp only [List.getElem_toArray]); (try simp only [List.getElem_cons_succ]); (try simp only [List.getElem_cons_zero]); (try simp only [Act.put]); (try simp only [List.setIfInBounds_toArray]); (try simp only [List.set_cons_succ]); (try simp only [List.set_cons_zero])))
      (refine wpAnyH_take (i := 22) (v := ?_) rfl (by kernel_rfl) (by kernel_rfl) (by kernel_rfl) (fun _ _ _ h => h) (Or.inl ⟨by rfl, ?_⟩) (by assumption) ?_; rotate_left; (intro w hSw; (try dsimp only at hSw); go_simp; try with_reducible rfl); ((try simp only [List.getElem_toArray]); (try simp only [List.getElem_cons_succ]); (try simp only [List.getElem_cons_zero]); (try simp only [Act.put]); (try simp only [List.setIfInBounds_toArray]); (try simp only [List.set_cons_succ]); (try simp only [List.set_cons_zero])))
      refine wpAnyH_ready (rs := [23]) (by kernel_rfl) (by simp) ?_
      refine AllReadyH.cons rfl (fun K2 hK2 => ?_) AllReadyH.nil
      go_simp
      refine (HLL.out _ hd).mono ?_
      rintro e x23 ⟨rfl, hd2⟩
      go_wp2_with fail
      refine hK2.out _ _ (by (try dsimp only); assumption) (fun _ => ?_)
      clear hK2 K2
      (try simp only [List.getElem_toArray]); (try simp only [List.getElem_cons_succ]); (try simp only [List.getElem_cons_zero]); (try simp only [Act.put]); (try simp only [List.setIfInBounds_toArray]); (try simp only [List.set_cons_succ]); (try simp only [List.set_cons_zero])
      (refine wpAnyH_take (i := 24) (v := ?_) rfl (by kernel_rfl) (by kernel_rfl) (by kernel_rfl) (fun _ _ _ h => h) (Or.inl ⟨by rfl, ?_⟩) (by assumption) ?_; rotate_left; (intro w hSw; (try dsimp only at hSw); go_simp; try with_reducible rfl); ((try simp only [List.getElem_toArray]); (try simp only [List.getElem_cons_succ]); (try simp only [List.getElem_cons_zero]); (try simp only [Act.put]); (try simp only [List.setIfInBounds_toArray]); (try simp only [List.set_cons_succ]); (try simp only [List.set_cons_zero])))
      (refine wpAnyH_take (i := 25) (v := ?_) rfl (by kernel_rfl) (by kernel_rfl) (by kernel_rfl) (fun _ _ _ h => h) (Or.inl ⟨by rfl, ?_⟩) (by assumption) ?_; rotate_left; (intro w hSw; (try dsimp only at hSw); go_simp; try with_reducible rfl); ((try simp only [List.getElem_toArray]); (try simp only [List.getElem_cons_succ]); (try simp only [List.getElem_cons_zero]); (try simp only [Act.put]); (try simp only [List.setIfInBounds_toArray]); (try simp only [List.set_cons_succ]); (try simp only [List.set_cons_zero])))
      refine wpAnyH_done (by kernel_rfl) ?_ _
      go_wp2_with fail
      go_ret
      exact ⟨rfl, HB.out.trans (hd2.out.mono HB.out.size)⟩
    · have HRW := Lib.hid (HRS.out rfl)
      obtain ⟨AR, cR, hhr⟩ := HRW.out.has
      have y0 : w10.cell? ⟨w4.heap.size + 1, 0, none⟩ = some (.slice AR rl.length cR) := hhr.cell 0
      go_region_held3 (fun X => Hid (Below w10.heap.size w10 X) ∧ X.cell? ⟨w4.heap.size + 1, 0, none⟩ = some (.slice AR rl.length cR)) ((first | assumption | (refine ⟨by assumption, ?_⟩; go_keep))) (first
        | (go_at_call 16; (with_reducible refine (HSM.out _ (by first | assumption | exact And.left (by assumption))).mono ?_); rintro e x ⟨rfl, hd⟩; have ky0 := keepC hd.out y0)
        | (go_at_call 17; (with_reducible refine (HLX.out _ (by first | assumption | exact And.left (by assumption))).mono ?_); rintro e x ⟨rfl, hd⟩; have ky0 := keepC hd.out y0)
        | (go_at_call 19; (with_reducible refine (HLL.out _ (by first | assumption | exact And.left (by assumption))).mono ?_); rintro e x ⟨rfl, hd⟩; have ky0 := keepC hd.out y0))
      go_wp2_with fail
      go_ret
      exact ⟨rfl, HB.out.trans (hd.out.mono HB.out.size)⟩
end Go.Proofs.YtbbdmajlbofcmaaDoor.imageReads
