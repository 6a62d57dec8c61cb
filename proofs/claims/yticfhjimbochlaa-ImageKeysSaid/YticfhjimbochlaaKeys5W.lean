/-
  The law ImageKeys walked: keys and their bytes.
-/
import Derived.Test.YticfhjimbochlaaGood4
import Derived.Test.YticfhjimbochlaaRow4
import Derived.Test.YticfhjimbochlaaKeyI
import Derived.Test.YticfhjimbochlaaImgK
import Derived.Deep.RegionWith
namespace Go.Proofs.Yticfhjimbochlaa.imageKeys
open Go.RowKit Dg
set_option maxHeartbeats 16000000 in
set_option maxRecDepth 100000 in
theorem walk (A : Option Addr) (n c : Nat) (L : List Cl) (K : Int) (Ar : Option Addr) (nr cr : Nat) (R : List Vl) (As : Option Addr) (ns cs : Nat) (Q : List Vl) (w : World) (hn : L.length = n) (hnc : n ≤ c) (hcm : c ≤ maxLen) (hA : CRow w A L) (hf : ∀ x ∈ L, x.fit) (hk0 : -9223372036854775808 ≤ K) (hk1 : K ≤ 9223372036854775807) (hnr : R.length = nr) (hncr : nr ≤ cr) (hcmr : cr ≤ maxLen) (hR : VRow w Ar R) (hfr : ∀ x ∈ R, x.fits) (hns : Q.length = ns) (hncs : ns ≤ cs) (hcms : cs ≤ maxLen) (hQ : VRow w As Q) (hfq : ∀ x ∈ Q, x.fits) :
    Calls Try.prog 8 #[.agg #[.slice A n c, .int .i64 K], .slice Ar nr cr, .slice As ns cs] w fun e w' => e = .returned (.bool true) ∧ Below w.heap.size w w' := by
  have HB := Lib.hid ((Below.refl w.heap.size w).alloc (Nat.le_refl _) (.cells #[.slice A n c, .int .i64 K] 24))
  have HC1 := Lib.hid (rgood_any A L n c K (w.alloc (.cells #[.slice A n c, .int .i64 K] 24)) hn hnc hcm (hA.below HB.out) hf hk0 hk1)
  have HGS := Lib.hid (goodS_is L K)
  have hs0 : (w.alloc (.cells #[.slice A n c, .int .i64 K] 24)).heap.size = w.heap.size + 1 := by simp
  rw [hs0] at HC1
  have HNR := Lib.hid hnr
  have HRR := Lib.hid (hR.below HB.out)
  have HFR := Lib.hid hfr
  clear hnr hR hfr
  have HNS := Lib.hid hns
  have HQQ := Lib.hid (hQ.below HB.out)
  have HFQ := Lib.hid hfq
  clear hns hQ hfq
  clear hs0 hn hnc hcm hA hf
  go_enter Try.func8, Try.ntmps8
  go_wp2_with fail
  refine HC1.out.mono ?_
  rintro e w1 ⟨v1, rfl, ho1, hb⟩
  generalize gdC L K = G at *
  generalize gdK L K = gk at *
  obtain ⟨Ag, ng, cg, rfl, HNG, hngc, hcgm, HVG, HZG⟩ := ownC_open ho1.out
  have HFIT := Lib.hid (goodS_fit G gk HGS.out)
  have HKD := Lib.hid (fun (x : Cl) (hx : x ∈ G) => (show 1 ≤ x.k ∧ x.k ≤ 4 from ⟨(HFIT.out x hx).2.1, (HFIT.out x hx).2.2.1⟩))
  have hlen := HGS.out.len
  have hkeys := HGS.out.keys
  rw [HNG.out] at hlen hkeys
  obtain ⟨hl1, hl6⟩ := hlen
  obtain ⟨hg1, hgn, hg3⟩ := hkeys
  replace HB := Lib.hid (HB.out.trans (hb.out.mono (by simp)))
  replace HRR := Lib.hid (HRR.out.below (hb.out.mono (by simp)))
  replace HQQ := Lib.hid (HQQ.out.below (hb.out.mono (by simp)))
  clear hb ho1 HC1 HZG
  have hb : Below w1.heap.size w1 (w1.alloc (.cells #[.slice Ag ng cg, .int .i64 gk] 24)) := (Below.refl _ _).alloc (Nat.le_refl _) _
  replace HB := Lib.hid (HB.out.trans (hb.mono HB.out.size))
  replace HRR := Lib.hid (HRR.out.below hb)
  replace HQQ := Lib.hid (HQQ.out.below hb)
  replace HVG := Lib.hid (HVG.out.below hb)
  clear hb
  have HG := Lib.hid (Has.new w1 24 #[.slice Ag ng cg, .int .i64 gk])
  have zHG_0 : (w1.alloc (.cells #[.slice Ag ng cg, .int .i64 gk] 24)).cell? ⟨w1.heap.size, 0, none⟩ = some (.slice Ag ng cg) := HG.out.cell 0
  have zHG_1 : (w1.alloc (.cells #[.slice Ag ng cg, .int .i64 gk] 24)).cell? ⟨w1.heap.size, 1, none⟩ = some (.int .i64 gk) := HG.out.cell 1
  go_wp2_with fail
  refine (row_any Ag G ng cg gk Ar R nr cr _ HNG.out (by omega) HVG.out (fun x hx => (HFIT.out x hx).2.2.2) HNR.out hncr hcmr HRR.out HFR.out).mono ?_
  rintro e w3 ⟨v3, rfl, ho3, hb⟩
  clear zHG_0 zHG_1
  replace HB := Lib.hid (HB.out.trans (hb.out.mono HB.out.size))
  replace HRR := Lib.hid (HRR.out.below hb.out)
  replace HQQ := Lib.hid (HQQ.out.below hb.out)
  replace HVG := Lib.hid (HVG.out.below hb.out)
  replace HG := Lib.hid (HG.out.below hb.out HG.out.lt)
  clear hb
  have hlR := rowF_len G R
  rw [HNG.out] at hlR
  have HW3 := Lib.hid (rowF_fits G R HKD.out)
  have HM3 := Lib.hid (rowF_may5 G R HKD.out)
  have HF3 := Lib.hid (rowF_fit G R HKD.out HFR.out)
  have HZ3 := Lib.hid (rowF_size5 G R)
  have HL3 := Lib.hid hlR
  clear hlR
  generalize rowF G R = P3 at *
  obtain ⟨A3, n3, c3, rfl, HN3, hnc3, hcm3, HV3, _⟩ := ownV_open ho3.out
  obtain rfl : ng = n3 := HL3.out.symm.trans HN3.out
  clear ho3
  have zHG_0 : w3.cell? ⟨w1.heap.size, 0, none⟩ = some (.slice Ag ng cg) := HG.out.cell 0
  have zHG_1 : w3.cell? ⟨w1.heap.size, 1, none⟩ = some (.int .i64 gk) := HG.out.cell 1
  go_wp2_with fail
  refine (row_any Ag G ng cg gk As Q ns cs _ HNG.out (by omega) HVG.out (fun x hx => (HFIT.out x hx).2.2.2) HNS.out hncs hcms HQQ.out HFQ.out).mono ?_
  rintro e w4 ⟨v4, rfl, ho4, hb⟩
  clear zHG_0 zHG_1
  replace HB := Lib.hid (HB.out.trans (hb.out.mono HB.out.size))
  replace HRR := Lib.hid (HRR.out.below hb.out)
  replace HQQ := Lib.hid (HQQ.out.below hb.out)
  replace HVG := Lib.hid (HVG.out.below hb.out)
  replace HG := Lib.hid (HG.out.below hb.out HG.out.lt)
  replace HV3 := Lib.hid (HV3.out.below hb.out)
  clear hb
  have hlR := rowF_len G Q
  rw [HNG.out] at hlR
  have HW4 := Lib.hid (rowF_fits G Q HKD.out)
  have HM4 := Lib.hid (rowF_may5 G Q HKD.out)
  have HF4 := Lib.hid (rowF_fit G Q HKD.out HFQ.out)
  have HZ4 := Lib.hid (rowF_size5 G Q)
  have HL4 := Lib.hid hlR
  clear hlR
  generalize rowF G Q = P4 at *
  obtain ⟨A4, n4, c4, rfl, HN4, hnc4, hcm4, HV4, _⟩ := ownV_open ho4.out
  obtain rfl : ng = n4 := HL4.out.symm.trans HN4.out
  clear ho4
  have HT3 := Lib.hid (keyOk_of HW3.out gk (by rw [HNG.out]; omega))
  have HT4 := Lib.hid (keyOk_of HW4.out gk (by rw [HNG.out]; omega))
  have zHG_0 : w4.cell? ⟨w1.heap.size, 0, none⟩ = some (.slice Ag ng cg) := HG.out.cell 0
  have zHG_1 : w4.cell? ⟨w1.heap.size, 1, none⟩ = some (.int .i64 gk) := HG.out.cell 1
  go_wp2_with fail
  refine (rkey_any Ag G ng cg gk A3 P3 ng c3 w4 HNG.out (by omega) (by omega) (by omega) hnc3 HVG.out HL3.out HV3.out (fun x hx => (HF3.out x hx).1)).mono ?_
  rintro e w5 ⟨rfl, hb⟩
  clear zHG_0 zHG_1
  replace HB := Lib.hid (HB.out.trans (hb.out.mono HB.out.size))
  replace HRR := Lib.hid (HRR.out.below hb.out)
  replace HQQ := Lib.hid (HQQ.out.below hb.out)
  replace HVG := Lib.hid (HVG.out.below hb.out)
  replace HG := Lib.hid (HG.out.below hb.out HG.out.lt)
  replace HV3 := Lib.hid (HV3.out.below hb.out)
  replace HV4 := Lib.hid (HV4.out.below hb.out)
  unfold keyT
  rw [if_pos HT3.out]
  clear hb
  have zHG_0 : w5.cell? ⟨w1.heap.size, 0, none⟩ = some (.slice Ag ng cg) := HG.out.cell 0
  have zHG_1 : w5.cell? ⟨w1.heap.size, 1, none⟩ = some (.int .i64 gk) := HG.out.cell 1
  go_wp2_with fail
  refine (rkey_any Ag G ng cg gk A4 P4 ng c4 w5 HNG.out (by omega) (by omega) (by omega) hnc4 HVG.out HL4.out HV4.out (fun x hx => (HF4.out x hx).1)).mono ?_
  rintro e w6 ⟨rfl, hb⟩
  clear zHG_0 zHG_1
  replace HB := Lib.hid (HB.out.trans (hb.out.mono HB.out.size))
  replace HRR := Lib.hid (HRR.out.below hb.out)
  replace HQQ := Lib.hid (HQQ.out.below hb.out)
  replace HVG := Lib.hid (HVG.out.below hb.out)
  replace HG := Lib.hid (HG.out.below hb.out HG.out.lt)
  replace HV3 := Lib.hid (HV3.out.below hb.out)
  replace HV4 := Lib.hid (HV4.out.below hb.out)
  unfold keyT
  rw [if_pos HT4.out]
  clear hb
  have hk8 : (P3.take gk).length ≤ 8 := by rw [List.length_take]; omega
  have hk8' : (P4.take gk).length ≤ 8 := by rw [List.length_take]; omega
  have h1k : ∀ x ∈ G.take gk, 1 ≤ x.k := fun x hx => (HKD.out x (List.mem_of_mem_take hx)).1
  have heq1 := img_eqb h1k (fits_take HW3.out gk) (fits_take HW4.out gk) hk8 hk8'
  have heq2 := keys_eqb (L := P3.take gk) (M := P4.take gk) (fun x hx => ⟨HM3.out x (List.mem_of_mem_take hx), (HF3.out x (List.mem_of_mem_take hx)).1⟩) (fun x hx => ⟨HM4.out x (List.mem_of_mem_take hx), (HF4.out x (List.mem_of_mem_take hx)).1⟩)
  obtain ⟨q, hq⟩ : ∃ q, vsF (P3.take gk) (P4.take gk) = q := ⟨_, rfl⟩
  rw [hq] at heq1 heq2
  obtain ⟨sp, hsp⟩ : ∃ s, bs (imgF (P3.take gk)) = s := ⟨_, rfl⟩
  obtain ⟨sq, hsq⟩ : ∃ s, bs (imgF (P4.take gk)) = s := ⟨_, rfl⟩
  rw [hsp, hsq] at heq1
  have HSP := Lib.hid hsp
  have HSQ := Lib.hid hsq
  generalize bs (keys (P3.take gk)) = kp at *
  generalize bs (keys (P4.take gk)) = kq at *
  clear hq hsp hsq h1k
  have hd0 : Hid (Below w6.heap.size w6 w6.drew) := (Below.refl _ w6).drew
  have zHG_0 : w6.cell? ⟨w1.heap.size, 0, none⟩ = some (.slice Ag ng cg) := HG.out.cell 0
  have zHG_1 : w6.cell? ⟨w1.heap.size, 1, none⟩ = some (.int .i64 gk) := HG.out.cell 1
  go_wp2_with fail
  have CP := Lib.hid (fun (X : World) (hb : Hid (Below w6.heap.size w6 X)) => (writeKey_any none [] 0 0 Ag ng cg gk A3 P3 ng c3 X rfl (by omega) (Rd.nil _ _) (fun _ => rfl) (by omega) (by omega) (by omega) (by omega) (by omega) hngc HL3.out hnc3 (by omega) (HV3.out.below hb.out) HM3.out HF3.out HZ3.out).mono (R' := fun e w' => (∃ A n c, e = .returned (.slice A n c) ∧ (imgF (P3.take gk)).length = n ∧ Rd w' A (imgF (P3.take gk))) ∧ Hid (Below w6.heap.size w6 w') ∧ Hid (Below X.heap.size X w')) fun e w' ⟨v, he, ho, hb2⟩ => by
    obtain ⟨A, n, c, hv, hn, _, hr, _⟩ := own_openZ ho.out
    exact ⟨⟨A, n, c, by rw [he, hv], hn.out, hr.out⟩, hb.out.trans (hb2.out.mono hb.out.size), hb2⟩)
  have CQ := Lib.hid (fun (X : World) (hb : Hid (Below w6.heap.size w6 X)) => (writeKey_any none [] 0 0 Ag ng cg gk A4 P4 ng c4 X rfl (by omega) (Rd.nil _ _) (fun _ => rfl) (by omega) (by omega) (by omega) (by omega) (by omega) hngc HL4.out hnc4 (by omega) (HV4.out.below hb.out) HM4.out HF4.out HZ4.out).mono (R' := fun e w' => (∃ A n c, e = .returned (.slice A n c) ∧ (imgF (P4.take gk)).length = n ∧ Rd w' A (imgF (P4.take gk))) ∧ Hid (Below w6.heap.size w6 w') ∧ Hid (Below X.heap.size X w')) fun e w' ⟨v, he, ho, hb2⟩ => by
    obtain ⟨A, n, c, hv, hn, _, hr, _⟩ := own_openZ ho.out
    exact ⟨⟨A, n, c, by rw [he, hv], hn.out, hr.out⟩, hb.out.trans (hb2.out.mono hb.out.size), hb2⟩)
  have CL := Lib.hid (fun (X : World) (hb : Hid (Below w6.heap.size w6 X)) => (lives5_any X).mono (R' := fun e w' => e = .returned (.bool true) ∧ Hid (Below w6.heap.size w6 w')) fun e w' h => ⟨h.1, hb.out.trans (h.2.out.mono hb.out.size)⟩)
  go_region_with (first
    | (go_at_call 33; (with_reducible refine (CP.out _ (by first | assumption | exact And.left (by assumption))).mono ?_); rintro e x ⟨⟨A7, n7, c7, rfl, hl, hr⟩, hd, hx⟩; have HL7 := Lib.hid hl; have HR7 := Lib.hid hr; (first | (replace HR8 := Lib.hid (HR8.out.below hx.out); have cv8' : Sem.run Try.prog (convert 49 9 (.slice A8 n8 c8)) x = .ok (.string sq) x := (by rw [conv_len x A8 _ n8 c8 HL8.out HR8.out, HSQ.out])) | skip); have cv7 : Sem.run Try.prog (convert 49 9 (.slice A7 n7 c7)) x = .ok (.string sp) x := (by rw [conv_len x A7 _ n7 c7 HL7.out HR7.out, HSP.out]); clear hl hr hx; have kzHG_0 := keepC hd.out zHG_0; have kzHG_1 := keepC hd.out zHG_1)
    | (go_at_call 33; (with_reducible refine (CQ.out _ (by first | assumption | exact And.left (by assumption))).mono ?_); rintro e x ⟨⟨A8, n8, c8, rfl, hl, hr⟩, hd, hx⟩; have HL8 := Lib.hid hl; have HR8 := Lib.hid hr; (first | (replace HR7 := Lib.hid (HR7.out.below hx.out); have cv7' : Sem.run Try.prog (convert 49 9 (.slice A7 n7 c7)) x = .ok (.string sp) x := (by rw [conv_len x A7 _ n7 c7 HL7.out HR7.out, HSP.out])) | skip); have cv8 : Sem.run Try.prog (convert 49 9 (.slice A8 n8 c8)) x = .ok (.string sq) x := (by rw [conv_len x A8 _ n8 c8 HL8.out HR8.out, HSQ.out]); clear hl hr hx; have kzHG_0 := keepC hd.out zHG_0; have kzHG_1 := keepC hd.out zHG_1)
    | (go_at_call 34; (with_reducible refine (CL.out _ (by first | assumption | exact And.left (by assumption))).mono ?_); rintro e x ⟨rfl, hd⟩; have kzHG_0 := keepC hd.out zHG_0; have kzHG_1 := keepC hd.out zHG_1))
  all_goals
    go_wp2_with fail
    go_ret
    exact ⟨rfl, HB.out.trans (hd.out.mono HB.out.size)⟩
end Go.Proofs.Yticfhjimbochlaa.imageKeys
