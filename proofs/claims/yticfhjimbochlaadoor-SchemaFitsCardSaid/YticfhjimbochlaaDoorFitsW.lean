/-
  The law SchemaFits walked: which rows fit a schema.
-/
import Derived.Test.YticfhjimbochlaaDoorGood4
import Derived.Test.YticfhjimbochlaaDoorLives4
import Derived.Test.YticfhjimbochlaaDoorRow4
import Derived.Test.YticfhjimbochlaaDoorRowM
import Derived.Test.YticfhjimbochlaaDoorPfits
import Derived.Test.YticfhjimbochlaaDoorRkey4
namespace Go.Proofs.YticfhjimbochlaaDoor.schemaFits
open Go.RowKit Dg
set_option maxHeartbeats 16000000 in
set_option maxRecDepth 100000 in
theorem walk (A : Option Addr) (n c : Nat) (L : List Cl) (K : Int) (Ar : Option Addr) (nr cr : Nat) (R : List Vl) (w : World) (hn : L.length = n) (hnc : n ≤ c) (hcm : c ≤ maxLen) (hA : CRow w A L) (hf : ∀ x ∈ L, x.fit) (hk0 : -9223372036854775808 ≤ K) (hk1 : K ≤ 9223372036854775807) (hnr : R.length = nr) (hncr : nr ≤ cr) (hcmr : cr ≤ maxLen) (hR : VRow w Ar R) (hfr : ∀ x ∈ R, x.fits) (hTb : Tabs w) :
    Calls Tryd.prog 3 #[.agg #[.slice A n c, .int .i64 K], .slice Ar nr cr] w fun e w' => e = .returned (.bool true) ∧ Below w.heap.size w w' := by
  have HB := Lib.hid ((Below.refl w.heap.size w).alloc (Nat.le_refl _) (.cells #[.slice A n c, .int .i64 K] 24))
  have HC1 := Lib.hid (rgood_any A L n c K (w.alloc (.cells #[.slice A n c, .int .i64 K] 24)) hn hnc hcm (hA.below HB.out) hf hk0 hk1)
  have HGS := Lib.hid (goodS_is L K)
  have hs0 : (w.alloc (.cells #[.slice A n c, .int .i64 K] 24)).heap.size = w.heap.size + 1 := by simp
  rw [hs0] at HC1
  have HNR := Lib.hid hnr
  have HRR := Lib.hid (hR.below HB.out)
  have HFR := Lib.hid hfr
  clear hnr hR hfr
  have HTB := Lib.hid (hTb.below HB.out)
  clear hs0 hn hnc hcm hA hf hTb
  go_enter Tryd.func3, Tryd.ntmps3
  go_wp2_with fail
  refine HC1.out.mono ?_
  rintro e w1 ⟨v1, rfl, ho1, hb⟩
  generalize gdC L K = G at *
  generalize gdK L K = gk at *
  obtain ⟨Ag, ng, cg, rfl, HNG, hngc, hcgm, HVG, HZG⟩ := ownC_open ho1.out
  have HFIT := Lib.hid (goodS_fit G gk HGS.out)
  have hlen := HGS.out.len
  have hkeys := HGS.out.keys
  rw [HNG.out] at hlen hkeys
  obtain ⟨hl1, hl6⟩ := hlen
  obtain ⟨hg1, hgn, hg3⟩ := hkeys
  replace HB := Lib.hid (HB.out.trans (hb.out.mono (by simp)))
  replace HTB := Lib.hid (HTB.out.below (hb.out.mono (by simp)))
  replace HRR := Lib.hid (HRR.out.below (hb.out.mono (by simp)))
  clear hb ho1 HC1 HZG
  have hb : Below w1.heap.size w1 (w1.alloc (.cells #[.slice Ag ng cg, .int .i64 gk] 24)) := (Below.refl _ _).alloc (Nat.le_refl _) _
  replace HB := Lib.hid (HB.out.trans (hb.mono HB.out.size))
  replace HTB := Lib.hid (HTB.out.below hb)
  replace HRR := Lib.hid (HRR.out.below hb)
  replace HVG := Lib.hid (HVG.out.below hb)
  clear hb
  have HG := Lib.hid (Has.new w1 24 #[.slice Ag ng cg, .int .i64 gk])
  by_cases hz : 20 < nr
  · obtain ⟨m, hm⟩ : ∃ m, m = 20 := ⟨_, rfl⟩
    have hmr : m ≤ cr := by omega
    have hm20 : m ≤ 20 := by omega
    have HNM : Hid ((R.take 20).length = m) := by show _ = _; rw [List.length_take, HNR.out]; omega
    replace HRR := Lib.hid (HRR.out.takeK 20)
    have HFM : Hid (∀ x ∈ R.take 20, x.fits) := fun x hx => HFR.out x (List.mem_of_mem_take hx)
    have hz1 : (20 : Int) < (nr : Int) := by omega
    have hz2 : (20 : Int) ≤ (cr : Int) := by omega
    generalize R.take 20 = Q at *
    have zHG_0 : (w1.alloc (.cells #[.slice Ag ng cg, .int .i64 gk] 24)).cell? ⟨w1.heap.size, 0, none⟩ = some (.slice Ag ng cg) := HG.out.cell 0
    have zHG_1 : (w1.alloc (.cells #[.slice Ag ng cg, .int .i64 gk] 24)).cell? ⟨w1.heap.size, 1, none⟩ = some (.int .i64 gk) := HG.out.cell 1
    go_wp2_with fail
    clear zHG_0 zHG_1
    obtain ⟨W2, hW1⟩ : ∃ W, W = (w1.alloc (.cells #[.slice Ag ng cg, .int .i64 gk] 24)) := ⟨_, rfl⟩
    rw [← hW1] at HB HTB HRR HVG HG ⊢
    clear hW1
    rw [show Value.slice Ar 20 cr = .slice Ar m cr by rw [hm]]
    clear hm hz1
    have hmm : m ≤ cr := hmr
    have zHG_0 : W2.cell? ⟨w1.heap.size, 0, none⟩ = some (.slice Ag ng cg) := HG.out.cell 0
    have zHG_1 : W2.cell? ⟨w1.heap.size, 1, none⟩ = some (.int .i64 gk) := HG.out.cell 1
    refine (row_any Ag G ng cg gk Ar Q m cr W2 HNG.out (by omega) HVG.out (fun x hx => (HFIT.out x hx).2.2.2) HNM.out hmr hcmr HRR.out HFM.out).mono ?_
    rintro e w3 ⟨v3, rfl, ho3, hb⟩
    clear zHG_0 zHG_1
    replace HB := Lib.hid (HB.out.trans (hb.out.mono HB.out.size))
    replace HTB := Lib.hid (HTB.out.below hb.out)
    replace HRR := Lib.hid (HRR.out.below hb.out)
    replace HVG := Lib.hid (HVG.out.below hb.out)
    replace HG := Lib.hid (HG.out.below hb.out HG.out.lt)
    clear hb
    have hlR := rowF_len G Q
    rw [HNG.out] at hlR
    have HRW := Lib.hid (rowF_fits G Q (fun x hx => ⟨(HFIT.out x hx).2.1, (HFIT.out x hx).2.2.1⟩))
    have HFW := Lib.hid (rowF_fit G Q (fun x hx => ⟨(HFIT.out x hx).2.1, (HFIT.out x hx).2.2.1⟩) HFM.out)
    have HLR := Lib.hid hlR
    clear hlR
    generalize rowF G Q = RF at *
    obtain ⟨A3, n3, c3, rfl, HN3, hnc3, hcm3, HV3, _⟩ := ownV_open ho3.out
    obtain rfl : ng = n3 := HLR.out.symm.trans HN3.out
    clear ho3
    have zHG_0 : w3.cell? ⟨w1.heap.size, 0, none⟩ = some (.slice Ag ng cg) := HG.out.cell 0
    have zHG_1 : w3.cell? ⟨w1.heap.size, 1, none⟩ = some (.int .i64 gk) := HG.out.cell 1
    go_wp2_with fail
    have hd0 : Hid (Below w3.heap.size w3 w3.drew) := (Below.refl _ w3).drew
    have HC1 := Lib.hid (fun (X : World) (hb : Hid (Below w3.heap.size w3 X)) => (fits_any Ag G ng cg gk Ar Q m cr X HNG.out (by omega) (HVG.out.below hb.out) HNM.out (HRR.out.below hb.out) (fun x hx => (HFM.out x hx).1) (HTB.out.below hb.out)).mono (R' := fun e w' => e = .returned (.bool (fitsF G Q)) ∧ Hid (Below w3.heap.size w3 w')) fun e w' h => ⟨h.1, hb.out.trans (h.2.out.mono hb.out.size)⟩)
    have HC2 := Lib.hid (fun (X : World) (hb : Hid (Below w3.heap.size w3 X)) => (refFits_any Ag G ng cg gk Ar Q m cr X HNG.out (by omega) (HVG.out.below hb.out) HNM.out (HRR.out.below hb.out) (fun x hx => (HFM.out x hx).1)).mono (R' := fun e w' => e = .returned (.bool (fitsF G Q)) ∧ Hid (Below w3.heap.size w3 w')) fun e w' h => ⟨h.1, hb.out.trans (h.2.out.mono hb.out.size)⟩)
    have HC3 := Lib.hid (fun (X : World) (hb : Hid (Below w3.heap.size w3 X)) => (fits_any Ag G ng cg gk A3 RF ng c3 X HNG.out (by omega) (HVG.out.below hb.out) HLR.out (HV3.out.below hb.out) (fun x hx => (HFW.out x hx).1) (HTB.out.below hb.out)).mono (R' := fun e w' => e = .returned (.bool (fitsF G RF)) ∧ Hid (Below w3.heap.size w3 w')) fun e w' h => ⟨h.1, hb.out.trans (h.2.out.mono hb.out.size)⟩)
    have HC4 := Lib.hid (fun (X : World) (hb : Hid (Below w3.heap.size w3 X)) => (lives4_any X).mono (R' := fun e w' => e = .returned (.bool true) ∧ Hid (Below w3.heap.size w3 w')) fun e w' h => ⟨h.1, hb.out.trans (h.2.out.mono hb.out.size)⟩)
    obtain ⟨qf, hqf⟩ : ∃ q, fitsF G Q = q := ⟨_, rfl⟩
    have HQF := Lib.hid hqf
    clear hqf
    go_region_held3 (fun X => Hid (Below w3.heap.size w3 X) ∧ X.cell? ⟨w1.heap.size, 0, none⟩ = some (.slice Ag ng cg) ∧ X.cell? ⟨w1.heap.size, 1, none⟩ = some (.int .i64 gk)) ((first | assumption | (refine ⟨by assumption, ?_⟩; go_keep))) (first
      | (go_at_call 10; (with_reducible refine (HC1.out _ (by first | assumption | exact And.left (by assumption))).mono ?_); rintro e x ⟨rfl, hd⟩; rw [HQF.out]; have kzHG_0 := keepC hd.out zHG_0; have kzHG_1 := keepC hd.out zHG_1)
      | (go_at_call 11; (with_reducible refine (HC2.out _ (by first | assumption | exact And.left (by assumption))).mono ?_); rintro e x ⟨rfl, hd⟩; rw [HQF.out]; have kzHG_0 := keepC hd.out zHG_0; have kzHG_1 := keepC hd.out zHG_1)
      | (go_at_call 10; (with_reducible refine (HC3.out _ (by first | assumption | exact And.left (by assumption))).mono ?_); rintro e x ⟨rfl, hd⟩; rw [HRW.out]; have kzHG_0 := keepC hd.out zHG_0; have kzHG_1 := keepC hd.out zHG_1)
      | (go_at_call 12; (with_reducible refine (HC4.out _ (by first | assumption | exact And.left (by assumption))).mono ?_); rintro e x ⟨rfl, hd⟩; have kzHG_0 := keepC hd.out zHG_0; have kzHG_1 := keepC hd.out zHG_1))
    all_goals
      go_wp2_with fail
      go_ret
      exact ⟨rfl, HB.out.trans (hd.out.mono HB.out.size)⟩
  · obtain ⟨m, hm⟩ : ∃ m, m = nr := ⟨_, rfl⟩
    have hmr : m ≤ cr := by omega
    have hm20 : m ≤ 20 := by omega
    have HNM : Hid (R.length = m) := by show _ = _; rw [HNR.out, hm]
    have HFM := HFR
    obtain ⟨Q, hQ⟩ : ∃ Q, Q = R := ⟨_, rfl⟩
    subst hQ
    have hz1 : ¬ (20 : Int) < (nr : Int) := by omega
    have zHG_0 : (w1.alloc (.cells #[.slice Ag ng cg, .int .i64 gk] 24)).cell? ⟨w1.heap.size, 0, none⟩ = some (.slice Ag ng cg) := HG.out.cell 0
    have zHG_1 : (w1.alloc (.cells #[.slice Ag ng cg, .int .i64 gk] 24)).cell? ⟨w1.heap.size, 1, none⟩ = some (.int .i64 gk) := HG.out.cell 1
    go_wp2_with fail
    clear zHG_0 zHG_1
    obtain ⟨W2, hW1⟩ : ∃ W, W = (w1.alloc (.cells #[.slice Ag ng cg, .int .i64 gk] 24)) := ⟨_, rfl⟩
    rw [← hW1] at HB HTB HRR HVG HG ⊢
    clear hW1
    rw [show Value.slice Ar nr cr = .slice Ar m cr by rw [hm]]
    clear hm hz1
    have hmm : m ≤ cr := hmr
    have zHG_0 : W2.cell? ⟨w1.heap.size, 0, none⟩ = some (.slice Ag ng cg) := HG.out.cell 0
    have zHG_1 : W2.cell? ⟨w1.heap.size, 1, none⟩ = some (.int .i64 gk) := HG.out.cell 1
    refine (row_any Ag G ng cg gk Ar Q m cr W2 HNG.out (by omega) HVG.out (fun x hx => (HFIT.out x hx).2.2.2) HNM.out hmr hcmr HRR.out HFM.out).mono ?_
    rintro e w3 ⟨v3, rfl, ho3, hb⟩
    clear zHG_0 zHG_1
    replace HB := Lib.hid (HB.out.trans (hb.out.mono HB.out.size))
    replace HTB := Lib.hid (HTB.out.below hb.out)
    replace HRR := Lib.hid (HRR.out.below hb.out)
    replace HVG := Lib.hid (HVG.out.below hb.out)
    replace HG := Lib.hid (HG.out.below hb.out HG.out.lt)
    clear hb
    have hlR := rowF_len G Q
    rw [HNG.out] at hlR
    have HRW := Lib.hid (rowF_fits G Q (fun x hx => ⟨(HFIT.out x hx).2.1, (HFIT.out x hx).2.2.1⟩))
    have HFW := Lib.hid (rowF_fit G Q (fun x hx => ⟨(HFIT.out x hx).2.1, (HFIT.out x hx).2.2.1⟩) HFM.out)
    have HLR := Lib.hid hlR
    clear hlR
    generalize rowF G Q = RF at *
    obtain ⟨A3, n3, c3, rfl, HN3, hnc3, hcm3, HV3, _⟩ := ownV_open ho3.out
    obtain rfl : ng = n3 := HLR.out.symm.trans HN3.out
    clear ho3
    have zHG_0 : w3.cell? ⟨w1.heap.size, 0, none⟩ = some (.slice Ag ng cg) := HG.out.cell 0
    have zHG_1 : w3.cell? ⟨w1.heap.size, 1, none⟩ = some (.int .i64 gk) := HG.out.cell 1
    go_wp2_with fail
    have hd0 : Hid (Below w3.heap.size w3 w3.drew) := (Below.refl _ w3).drew
    have HC1 := Lib.hid (fun (X : World) (hb : Hid (Below w3.heap.size w3 X)) => (fits_any Ag G ng cg gk Ar Q m cr X HNG.out (by omega) (HVG.out.below hb.out) HNM.out (HRR.out.below hb.out) (fun x hx => (HFM.out x hx).1) (HTB.out.below hb.out)).mono (R' := fun e w' => e = .returned (.bool (fitsF G Q)) ∧ Hid (Below w3.heap.size w3 w')) fun e w' h => ⟨h.1, hb.out.trans (h.2.out.mono hb.out.size)⟩)
    have HC2 := Lib.hid (fun (X : World) (hb : Hid (Below w3.heap.size w3 X)) => (refFits_any Ag G ng cg gk Ar Q m cr X HNG.out (by omega) (HVG.out.below hb.out) HNM.out (HRR.out.below hb.out) (fun x hx => (HFM.out x hx).1)).mono (R' := fun e w' => e = .returned (.bool (fitsF G Q)) ∧ Hid (Below w3.heap.size w3 w')) fun e w' h => ⟨h.1, hb.out.trans (h.2.out.mono hb.out.size)⟩)
    have HC3 := Lib.hid (fun (X : World) (hb : Hid (Below w3.heap.size w3 X)) => (fits_any Ag G ng cg gk A3 RF ng c3 X HNG.out (by omega) (HVG.out.below hb.out) HLR.out (HV3.out.below hb.out) (fun x hx => (HFW.out x hx).1) (HTB.out.below hb.out)).mono (R' := fun e w' => e = .returned (.bool (fitsF G RF)) ∧ Hid (Below w3.heap.size w3 w')) fun e w' h => ⟨h.1, hb.out.trans (h.2.out.mono hb.out.size)⟩)
    have HC4 := Lib.hid (fun (X : World) (hb : Hid (Below w3.heap.size w3 X)) => (lives4_any X).mono (R' := fun e w' => e = .returned (.bool true) ∧ Hid (Below w3.heap.size w3 w')) fun e w' h => ⟨h.1, hb.out.trans (h.2.out.mono hb.out.size)⟩)
    obtain ⟨qf, hqf⟩ : ∃ q, fitsF G Q = q := ⟨_, rfl⟩
    have HQF := Lib.hid hqf
    clear hqf
    go_region_held3 (fun X => Hid (Below w3.heap.size w3 X) ∧ X.cell? ⟨w1.heap.size, 0, none⟩ = some (.slice Ag ng cg) ∧ X.cell? ⟨w1.heap.size, 1, none⟩ = some (.int .i64 gk)) ((first | assumption | (refine ⟨by assumption, ?_⟩; go_keep))) (first
      | (go_at_call 10; (with_reducible refine (HC1.out _ (by first | assumption | exact And.left (by assumption))).mono ?_); rintro e x ⟨rfl, hd⟩; rw [HQF.out]; have kzHG_0 := keepC hd.out zHG_0; have kzHG_1 := keepC hd.out zHG_1)
      | (go_at_call 11; (with_reducible refine (HC2.out _ (by first | assumption | exact And.left (by assumption))).mono ?_); rintro e x ⟨rfl, hd⟩; rw [HQF.out]; have kzHG_0 := keepC hd.out zHG_0; have kzHG_1 := keepC hd.out zHG_1)
      | (go_at_call 10; (with_reducible refine (HC3.out _ (by first | assumption | exact And.left (by assumption))).mono ?_); rintro e x ⟨rfl, hd⟩; rw [HRW.out]; have kzHG_0 := keepC hd.out zHG_0; have kzHG_1 := keepC hd.out zHG_1)
      | (go_at_call 12; (with_reducible refine (HC4.out _ (by first | assumption | exact And.left (by assumption))).mono ?_); rintro e x ⟨rfl, hd⟩; have kzHG_0 := keepC hd.out zHG_0; have kzHG_1 := keepC hd.out zHG_1))
    all_goals
      go_wp2_with fail
      go_ret
      exact ⟨rfl, HB.out.trans (hd.out.mono HB.out.size)⟩
end Go.Proofs.YticfhjimbochlaaDoor.schemaFits
