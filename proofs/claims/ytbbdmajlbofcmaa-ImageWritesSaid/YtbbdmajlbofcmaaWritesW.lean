/-
  The law ImageWrites walked.
-/
import Derived.Test.YtbbdmajlbofcmaaGood4
import Derived.Test.YtbbdmajlbofcmaaRow4
import Derived.Test.YtbbdmajlbofcmaaImgB
import Derived.Test.YtbbdmajlbofcmaaImgK
import Derived.Test.YtbbdmajlbofcmaaLives5
import Derived.Test.YtbbdmajlbofcmaaRwrite
import Derived.Deep.RegionWith
import Derived.Deep.Cut
namespace Go.Proofs.Ytbbdmajlbofcmaa.imageWrites
open Go.RowKit Dg
theorem vrow_take {w : World} {A : Option Addr} {R : List Vl} (h : VRow w A R) (k : Nat) : VRow w A (R.take k) := fun hne => by
  obtain ⟨b, off, e, hc⟩ := h (by rintro rfl; simp at hne)
  exact ⟨b, off, e, fun i hi => by rw [List.getElem_take]; exact hc i (by rw [List.length_take] at hi; omega)⟩
theorem few5_any (A : Option Addr) (n c : Nat) (w : World) (hn : n ≤ c) (hc : c ≤ maxLen) :
    Calls Try.prog 6 #[.slice A n c, .int .i64 20] w fun e w' => e = .returned (.slice A (min n 20) c) ∧ w = w' := by
  unfold maxLen at hc
  have hc2 : (c : Int) ≤ 9223372036854775807 := by omega
  by_cases h : n ≤ 20
  · rw [Nat.min_eq_left h]
    have h0 : (n : Int) ≤ 20 := by omega
    go_enter Try.func6, Try.ntmps6
    go_wp2_with fail
    go_ret
    exact ⟨rfl, rfl⟩
  · rw [Nat.min_eq_right (by omega)]
    have h0 : (20 : Int) < (n : Int) := by omega
    have h1 : (20 : Int) ≤ (c : Int) := by omega
    go_enter Try.func6, Try.ntmps6
    go_wp2_with fail
    go_ret
    exact ⟨rfl, rfl⟩
set_option maxHeartbeats 6000000 in
set_option maxRecDepth 100000 in
theorem walk (A : Option Addr) (n c : Nat) (L : List Cl) (K : Int) (Ar : Option Addr) (nr cr : Nat) (R : List Vl) (Ab : Option Addr) (nb cb : Nat) (lb : List Nat) (w : World) (hn : L.length = n) (hnc : n ≤ c) (hcm : c ≤ maxLen) (hA : CRow w A L) (hf : ∀ x ∈ L, x.fit) (hk0 : -9223372036854775808 ≤ K) (hk1 : K ≤ 9223372036854775807) (hnr : R.length = nr) (hncr : nr ≤ cr) (hcmr : cr ≤ maxLen) (hR : VRow w Ar R) (hfr : ∀ x ∈ R, x.fits) (hnb : lb.length = nb) (hncb : nb ≤ cb) (hcmb : cb ≤ maxLen) (hxb : ∀ x ∈ lb, x < 256) (hBb : Rd w Ab lb) (hzb : Ab = none → cb = 0) :
    Calls Try.prog 3 #[.agg #[.slice A n c, .int .i64 K], .slice Ar nr cr, .slice Ab nb cb] w fun e w' => e = .returned (.bool true) ∧ Below w.heap.size w w' := by
  have HB := Lib.hid ((Below.refl w.heap.size w).alloc (Nat.le_refl _) (.cells #[.slice A n c, .int .i64 K] 24))
  have HC1 := Lib.hid (rgood_any A L n c K (w.alloc (.cells #[.slice A n c, .int .i64 K] 24)) hn hnc hcm (hA.below HB.out) hf hk0 hk1)
  have HGS := Lib.hid (goodS_is L K)
  have hs0 : (w.alloc (.cells #[.slice A n c, .int .i64 K] 24)).heap.size = w.heap.size + 1 := by simp
  rw [hs0] at HC1
  have HNR := Lib.hid hnr
  have HRR := Lib.hid (hR.below HB.out)
  have HFR := Lib.hid hfr
  clear hnr hR hfr
  have HBB := Lib.hid (hBb.below HB.out)
  have HXB := Lib.hid hxb
  have HZB := Lib.hid hzb
  have HNB := Lib.hid hnb
  clear hBb hxb hzb hnb
  clear hs0 hn hnc hcm hA hf
  go_enter Try.func3, Try.ntmps3
  go_wp2_with fail
  refine HC1.out.mono ?_
  rintro e w1 ⟨v1, rfl, ho1, hb⟩
  generalize gdC L K = G at *
  generalize gdK L K = gk at *
  obtain ⟨Ag, ng, cg, rfl, HNG, hngc, hcgm, HVG, HZG⟩ := ownC_open ho1.out
  have HFIT := Lib.hid (goodS_fit G gk HGS.out)
  have HKD := Lib.hid (fun (x : Cl) (hx : x ∈ G) => (show 1 ≤ x.k ∧ x.k ≤ 4 from ⟨(HFIT.out x hx).2.1, (HFIT.out x hx).2.2.1⟩))
  have hlen := HGS.out.len
  have hkeys := HGS.out.keys
  rw [HNG.out] at hlen hkeys
  obtain ⟨hl1, hl6⟩ := hlen
  obtain ⟨hg1, hgn, hg3⟩ := hkeys
  replace HB := Lib.hid (HB.out.trans (hb.out.mono (by simp)))
  replace HRR := Lib.hid (HRR.out.below (hb.out.mono (by simp)))
  replace HBB := Lib.hid (HBB.out.below (hb.out.mono (by simp)))
  clear hb ho1 HC1 HZG
  have hb : Below w1.heap.size w1 (w1.alloc (.cells #[.slice Ag ng cg, .int .i64 gk] 24)) := (Below.refl _ _).alloc (Nat.le_refl _) _
  replace HB := Lib.hid (HB.out.trans (hb.mono HB.out.size))
  replace HRR := Lib.hid (HRR.out.below hb)
  replace HVG := Lib.hid (HVG.out.below hb)
  replace HBB := Lib.hid (HBB.out.below hb)
  clear hb
  have HG := Lib.hid (Has.new w1 24 #[.slice Ag ng cg, .int .i64 gk])
  have zHG_0 : (w1.alloc (.cells #[.slice Ag ng cg, .int .i64 gk] 24)).cell? ⟨w1.heap.size, 0, none⟩ = some (.slice Ag ng cg) := HG.out.cell 0
  have zHG_1 : (w1.alloc (.cells #[.slice Ag ng cg, .int .i64 gk] 24)).cell? ⟨w1.heap.size, 1, none⟩ = some (.int .i64 gk) := HG.out.cell 1
  go_wp2_with fail
  refine (row_any Ag G ng cg gk Ar R nr cr _ HNG.out (by omega) HVG.out (fun x hx => (HFIT.out x hx).2.2.2) HNR.out hncr hcmr HRR.out HFR.out).mono ?_
  rintro e w3 ⟨v3, rfl, ho3, hb⟩
  clear zHG_0 zHG_1
  replace HB := Lib.hid (HB.out.trans (hb.out.mono HB.out.size))
  replace HRR := Lib.hid (HRR.out.below hb.out)
  replace HVG := Lib.hid (HVG.out.below hb.out)
  replace HG := Lib.hid (HG.out.below hb.out HG.out.lt)
  replace HBB := Lib.hid (HBB.out.below hb.out)
  clear hb
  have hlR := rowF_len G R
  rw [HNG.out] at hlR
  have HW3 := Lib.hid (rowF_fits G R HKD.out)
  have HM3 := Lib.hid (rowF_may5 G R HKD.out)
  have HF3 := Lib.hid (rowF_fit G R HKD.out HFR.out)
  have HZ3 := Lib.hid (rowF_size5 G R)
  have HL3 := Lib.hid hlR
  clear hlR
  generalize rowF G R = P3 at *
  obtain ⟨A3, n3, c3, rfl, HN3, hnc3, hcm3, HV3, _⟩ := ownV_open ho3.out
  obtain rfl : ng = n3 := HL3.out.symm.trans HN3.out
  clear ho3
  go_wp2_with fail
  refine (few5_any Ab nb cb w3 hncb hcmb).mono ?_
  rintro e wF ⟨rfl, hwf⟩
  subst hwf
  obtain ⟨m, hm⟩ : ∃ m, min nb 20 = m := ⟨_, rfl⟩
  have HLB : Hid ((lb.take 20).length = m) := by show _ = _; rw [List.length_take, HNB.out, ← hm]; omega
  have hmr : (lb.take 20).length = m := HLB.out
  have HX2 := Lib.hid (fun (x : Nat) (hx : x ∈ lb.take 20) => HXB.out x (List.mem_of_mem_take hx))
  replace HBB := Lib.hid (HBB.out.take 20)
  have hm20 : m ≤ 20 := by omega
  have hmc : m ≤ cb := by omega
  rw [hm]
  generalize lb.take 20 = lc at *
  clear HXB HNB hmr hm
  obtain ⟨sq, hsq⟩ : ∃ s, bs (imgF P3) = s := ⟨_, rfl⟩
  obtain ⟨sl, hsl⟩ : ∃ s, bs lc = s := ⟨_, rfl⟩
  have HSP : Hid (bs (lc ++ imgF P3) = sl ++ sq) := by show _ = _; rw [← hsq, ← hsl, bs_append]
  have hsb1 : sl.size ≤ 20 := by rw [← hsl, bs_size, HLB.out]; omega
  have hsb2 : sq.size ≤ 9000 := by rw [← hsq, bs_size]; exact imgF_len P3 (by rw [HL3.out]; omega) HZ3.out HF3.out
  have HSQ := Lib.hid hsq
  have HSL := Lib.hid hsl
  clear hsq hsl
  have hd0 : Hid (Below w3.heap.size w3 w3.drew) := (Below.refl _ w3).drew
  have hcl : Sem.run Try.prog (convert 26 9 (.slice Ab m cb)) w3.drew = .ok (.string sl) w3.drew := by rw [conv_len w3.drew Ab _ m cb HLB.out HBB.out, HSL.out]
  have hcl0 : Sem.run Try.prog (convert 26 9 (.slice Ab m cb)) w3 = .ok (.string sl) w3 := by rw [conv_len w3 Ab _ m cb HLB.out HBB.out, HSL.out]
  have zHG_0 : w3.cell? ⟨w1.heap.size, 0, none⟩ = some (.slice Ag ng cg) := HG.out.cell 0
  have zHG_1 : w3.cell? ⟨w1.heap.size, 1, none⟩ = some (.int .i64 gk) := HG.out.cell 1
  go_wp2_with fail
  have CP := Lib.hid (fun (X : World) (hb : Hid (Below w3.heap.size w3 X)) => (write_any Ab lc m cb Ag ng cg gk A3 P3 ng c3 ng X HLB.out (by omega) (HBB.out.below hb.out) HZB.out (Nat.min_self ng) (by omega) (by omega) (by omega) HL3.out (by omega) (by omega) (HV3.out.below hb.out) HM3.out HF3.out HZ3.out).mono (R' := fun e w' => (∃ A n c, e = .returned (.slice A n c) ∧ (lc ++ imgF P3).length = n ∧ Rd w' A (lc ++ imgF P3)) ∧ Hid (Below w3.heap.size w3 w') ∧ Hid (Below X.heap.size X w')) fun e w' ⟨v, he, ho, hb2⟩ => by
    obtain ⟨A, n, c, hv, hn, _, hr, _⟩ := own_openZ ho.out
    exact ⟨⟨A, n, c, by rw [he, hv], by first | exact hn.out | (rw [List.take_of_length_le (by rw [HL3.out]; omega)] at hn; exact hn.out), by first | exact hr.out | (rw [List.take_of_length_le (by rw [HL3.out]; omega)] at hr; exact hr.out)⟩, hb.out.trans (hb2.out.mono hb.out.size), hb2⟩)
  have CQ := Lib.hid (fun (X : World) (hb : Hid (Below w3.heap.size w3 X)) => (rwrite_any A3 P3 ng c3 X (by omega) (by omega) HL3.out (by omega) (HV3.out.below hb.out) HM3.out HF3.out HZ3.out).mono (R' := fun e w' => (∃ A n c, e = .returned (.slice A n c) ∧ (imgF P3).length = n ∧ Rd w' A (imgF P3)) ∧ Hid (Below w3.heap.size w3 w') ∧ Hid (Below X.heap.size X w')) fun e w' ⟨v, he, ho, hb2⟩ => by
    obtain ⟨A, n, c, hv, hn, _, hr, _⟩ := own_openZ ho.out
    exact ⟨⟨A, n, c, by rw [he, hv], by first | exact hn.out | (rw [List.take_of_length_le (by rw [HL3.out]; omega)] at hn; exact hn.out), by first | exact hr.out | (rw [List.take_of_length_le (by rw [HL3.out]; omega)] at hr; exact hr.out)⟩, hb.out.trans (hb2.out.mono hb.out.size), hb2⟩)
  go_cut [9] from 11 (fun s9 W => s9 = Go.Value.bool true ∧ Hid (Below w3.heap.size w3 W))
  case' first =>
    go_region_with (first
      | (go_at_call 7; (with_reducible refine (CP.out _ (by first | assumption | exact And.left (by assumption))).mono ?_); rintro e x ⟨⟨A7, n7, c7, rfl, hl, hr⟩, hd, hx⟩; have HL7 := Lib.hid hl; have HR7 := Lib.hid hr; (first | (replace HR8 := Lib.hid (HR8.out.below hx.out); have cv8' : Sem.run Try.prog (convert 26 9 (.slice A8 n8 c8)) x = .ok (.string sq) x := (by rw [conv_len x A8 _ n8 c8 HL8.out HR8.out, HSQ.out])) | skip); have cv7 : Sem.run Try.prog (convert 26 9 (.slice A7 n7 c7)) x = .ok (.string (sl ++ sq)) x := (by rw [conv_len x A7 _ n7 c7 HL7.out HR7.out, HSP.out]); have cvl7 : Sem.run Try.prog (convert 26 9 (.slice Ab m cb)) x = .ok (.string sl) x := (by rw [conv_len x Ab _ m cb HLB.out (HBB.out.below hd.out), HSL.out]); clear hl hr hx; have kzHG_0 := keepC hd.out zHG_0; have kzHG_1 := keepC hd.out zHG_1)
      | (go_at_call 8; (with_reducible refine (CQ.out _ (by first | assumption | exact And.left (by assumption))).mono ?_); rintro e x ⟨⟨A8, n8, c8, rfl, hl, hr⟩, hd, hx⟩; have HL8 := Lib.hid hl; have HR8 := Lib.hid hr; (first | (replace HR7 := Lib.hid (HR7.out.below hx.out); have cv7' : Sem.run Try.prog (convert 26 9 (.slice A7 n7 c7)) x = .ok (.string (sl ++ sq)) x := (by rw [conv_len x A7 _ n7 c7 HL7.out HR7.out, HSP.out])) | skip); have cv8 : Sem.run Try.prog (convert 26 9 (.slice A8 n8 c8)) x = .ok (.string sq) x := (by rw [conv_len x A8 _ n8 c8 HL8.out HR8.out, HSQ.out]); have cvl8 : Sem.run Try.prog (convert 26 9 (.slice Ab m cb)) x = .ok (.string sl) x := (by rw [conv_len x Ab _ m cb HLB.out (HBB.out.below hd.out), HSL.out]); clear hl hr hx; have kzHG_0 := keepC hd.out zHG_0; have kzHG_1 := keepC hd.out zHG_1))
    all_goals (go_wp2_with fail)
    all_goals go_meet
    all_goals exact ⟨rfl, by assumption⟩
  case rest =>
    obtain ⟨rfl, HBX⟩ := hcut
    clear hd0 hcl hcl0 HSP HSQ hsb1 hsb2 CP CQ zHG_0 zHG_1
    have HB5 := Lib.hid (HB.out.trans (HBX.out.mono HB.out.size))
    have HG5 := Lib.hid (HG.out.below HBX.out HG.out.lt)
    have HV5 := Lib.hid (vrow_take (HV3.out.below HBX.out) gk)
    have HV6 := Lib.hid (HV3.out.below HBX.out)
    have HL5 : Hid ((P3.take gk).length = gk) := by show _ = _; rw [List.length_take, HL3.out]; omega
    have HBC := Lib.hid (HBB.out.below HBX.out)
    clear HB HG HBX
    have yG_0 : wc.cell? ⟨w1.heap.size, 0, none⟩ = some (.slice Ag ng cg) := HG5.out.cell 0
    have yG_1 : wc.cell? ⟨w1.heap.size, 1, none⟩ = some (.int .i64 gk) := HG5.out.cell 1
    obtain ⟨sk, hsk⟩ : ∃ s, bs (imgF (P3.take gk)) = s := ⟨_, rfl⟩
    have HSP : Hid (bs (lc ++ imgF (P3.take gk)) = sl ++ sk) := by show _ = _; rw [← hsk, ← HSL.out, bs_append]
    have hsb1 : sl.size ≤ 20 := by rw [← HSL.out, bs_size, HLB.out]; omega
    have hsb2 : sk.size ≤ 9000 := by rw [← hsk, bs_size]; exact imgF_len _ (by rw [HL5.out]; omega) (fun x hx => HZ3.out x (List.mem_of_mem_take hx)) (fun x hx => HF3.out x (List.mem_of_mem_take hx))
    have HSK := Lib.hid hsk
    clear hsk
    have hd0 : Hid (Below wc.heap.size wc wc.drew) := (Below.refl _ wc).drew
    have hcl : Sem.run Try.prog (convert 26 9 (.slice Ab m cb)) wc.drew = .ok (.string sl) wc.drew := by rw [conv_len wc.drew Ab _ m cb HLB.out HBC.out, HSL.out]
    have hcl0 : Sem.run Try.prog (convert 26 9 (.slice Ab m cb)) wc = .ok (.string sl) wc := by rw [conv_len wc Ab _ m cb HLB.out HBC.out, HSL.out]
    have hgk : (gk : Int) ≤ (c3 : Int) := by omega
    go_wp2_with fail
    have CP := Lib.hid (fun (X : World) (hb : Hid (Below wc.heap.size wc X)) => (writeKey_any Ab lc m cb Ag ng cg gk A3 P3 ng c3 X HLB.out (by omega) (HBC.out.below hb.out) HZB.out (by omega) (by omega) (by omega) (by omega) (by omega) hngc HL3.out hnc3 (by omega) (HV6.out.below hb.out) HM3.out HF3.out HZ3.out).mono (R' := fun e w' => (∃ A n c, e = .returned (.slice A n c) ∧ (lc ++ imgF (P3.take gk)).length = n ∧ Rd w' A (lc ++ imgF (P3.take gk))) ∧ Hid (Below wc.heap.size wc w') ∧ Hid (Below X.heap.size X w')) fun e w' ⟨v, he, ho, hb2⟩ => by
      obtain ⟨A, n, c, hv, hn, _, hr, _⟩ := own_openZ ho.out
      exact ⟨⟨A, n, c, by rw [he, hv], by first | exact hn.out | (rw [List.take_of_length_le (by rw [HL3.out]; omega)] at hn; exact hn.out), by first | exact hr.out | (rw [List.take_of_length_le (by rw [HL3.out]; omega)] at hr; exact hr.out)⟩, hb.out.trans (hb2.out.mono hb.out.size), hb2⟩)
    have CQ := Lib.hid (fun (X : World) (hb : Hid (Below wc.heap.size wc X)) => (rwrite_any A3 (P3.take gk) gk c3 X (by omega) (by omega) HL5.out (by omega) (HV5.out.below hb.out) (fun x hx => HM3.out x (List.mem_of_mem_take hx)) (fun x hx => HF3.out x (List.mem_of_mem_take hx)) (fun x hx => HZ3.out x (List.mem_of_mem_take hx))).mono (R' := fun e w' => (∃ A n c, e = .returned (.slice A n c) ∧ (imgF (P3.take gk)).length = n ∧ Rd w' A (imgF (P3.take gk))) ∧ Hid (Below wc.heap.size wc w') ∧ Hid (Below X.heap.size X w')) fun e w' ⟨v, he, ho, hb2⟩ => by
      obtain ⟨A, n, c, hv, hn, _, hr, _⟩ := own_openZ ho.out
      exact ⟨⟨A, n, c, by rw [he, hv], by first | exact hn.out | (rw [List.take_of_length_le (by rw [HL3.out]; omega)] at hn; exact hn.out), by first | exact hr.out | (rw [List.take_of_length_le (by rw [HL3.out]; omega)] at hr; exact hr.out)⟩, hb.out.trans (hb2.out.mono hb.out.size), hb2⟩)
    go_cut [10] from 11 (fun s10 W => s10 = Go.Value.bool true ∧ Hid (Below wc.heap.size wc W))
    case' first =>
      go_region_with (first
        | (go_at_call 9; (with_reducible refine (CP.out _ (by first | assumption | exact And.left (by assumption))).mono ?_); rintro e x ⟨⟨A7, n7, c7, rfl, hl, hr⟩, hd, hx⟩; have HL7 := Lib.hid hl; have HR7 := Lib.hid hr; (first | (replace HR8 := Lib.hid (HR8.out.below hx.out); have cv8' : Sem.run Try.prog (convert 26 9 (.slice A8 n8 c8)) x = .ok (.string sk) x := (by rw [conv_len x A8 _ n8 c8 HL8.out HR8.out, HSK.out])) | skip); have cv7 : Sem.run Try.prog (convert 26 9 (.slice A7 n7 c7)) x = .ok (.string (sl ++ sk)) x := (by rw [conv_len x A7 _ n7 c7 HL7.out HR7.out, HSP.out]); have cvl7 : Sem.run Try.prog (convert 26 9 (.slice Ab m cb)) x = .ok (.string sl) x := (by rw [conv_len x Ab _ m cb HLB.out (HBC.out.below hd.out), HSL.out]); clear hl hr hx; have kyG_0 := keepC hd.out yG_0; have kyG_1 := keepC hd.out yG_1)
        | (go_at_call 8; (with_reducible refine (CQ.out _ (by first | assumption | exact And.left (by assumption))).mono ?_); rintro e x ⟨⟨A8, n8, c8, rfl, hl, hr⟩, hd, hx⟩; have HL8 := Lib.hid hl; have HR8 := Lib.hid hr; (first | (replace HR7 := Lib.hid (HR7.out.below hx.out); have cv7' : Sem.run Try.prog (convert 26 9 (.slice A7 n7 c7)) x = .ok (.string (sl ++ sk)) x := (by rw [conv_len x A7 _ n7 c7 HL7.out HR7.out, HSP.out])) | skip); have cv8 : Sem.run Try.prog (convert 26 9 (.slice A8 n8 c8)) x = .ok (.string sk) x := (by rw [conv_len x A8 _ n8 c8 HL8.out HR8.out, HSK.out]); have cvl8 : Sem.run Try.prog (convert 26 9 (.slice Ab m cb)) x = .ok (.string sl) x := (by rw [conv_len x Ab _ m cb HLB.out (HBC.out.below hd.out), HSL.out]); clear hl hr hx; have kyG_0 := keepC hd.out yG_0; have kyG_1 := keepC hd.out yG_1))
      all_goals (go_wp2_with fail)
      all_goals go_meet
      all_goals exact ⟨rfl, by assumption⟩
    case rest =>
      obtain ⟨rfl, HBY⟩ := hcut
      have HB7 := Lib.hid (HB5.out.trans (HBY.out.mono HB5.out.size))
      clear CP CQ hd0 hcl hcl0 yG_0 yG_1 HB5 HBY
      go_wp2_with fail
      refine (lives5_any _).mono ?_
      rintro e wl ⟨rfl, hb⟩
      go_wp2_with fail
      go_ret
      exact ⟨rfl, HB7.out.trans (hb.out.mono HB7.out.size)⟩
end Go.Proofs.Ytbbdmajlbofcmaa.imageWrites
