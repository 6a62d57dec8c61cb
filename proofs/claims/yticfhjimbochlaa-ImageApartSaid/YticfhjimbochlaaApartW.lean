/-
  The law ImageApart walked: rows and their bytes.
-/
import Derived.Test.YticfhjimbochlaaGood4
import Derived.Test.YticfhjimbochlaaRow4
import Derived.Test.YticfhjimbochlaaImgB
namespace Go.Proofs.Yticfhjimbochlaa.imageApart
open Go.RowKit Dg
set_option maxHeartbeats 16000000 in
set_option maxRecDepth 100000 in
theorem walk (A : Option Addr) (n c : Nat) (L : List Cl) (K : Int) (Ar : Option Addr) (nr cr : Nat) (R : List Vl) (As : Option Addr) (ns cs : Nat) (Q : List Vl) (w : World) (hn : L.length = n) (hnc : n ≤ c) (hcm : c ≤ maxLen) (hA : CRow w A L) (hf : ∀ x ∈ L, x.fit) (hk0 : -9223372036854775808 ≤ K) (hk1 : K ≤ 9223372036854775807) (hnr : R.length = nr) (hncr : nr ≤ cr) (hcmr : cr ≤ maxLen) (hR : VRow w Ar R) (hfr : ∀ x ∈ R, x.fits) (hns : Q.length = ns) (hncs : ns ≤ cs) (hcms : cs ≤ maxLen) (hQ : VRow w As Q) (hfq : ∀ x ∈ Q, x.fits) :
    Calls Try.prog 7 #[.agg #[.slice A n c, .int .i64 K], .slice Ar nr cr, .slice As ns cs] w fun e w' => e = .returned (.bool true) ∧ Below w.heap.size w w' := by
  have HB := Lib.hid ((Below.refl w.heap.size w).alloc (Nat.le_refl _) (.cells #[.slice A n c, .int .i64 K] 24))
  have HC1 := Lib.hid (rgood_any A L n c K (w.alloc (.cells #[.slice A n c, .int .i64 K] 24)) hn hnc hcm (hA.below HB.out) hf hk0 hk1)
  have HGS := Lib.hid (goodS_is L K)
  have hs0 : (w.alloc (.cells #[.slice A n c, .int .i64 K] 24)).heap.size = w.heap.size + 1 := by simp
  rw [hs0] at HC1
  have HNR := Lib.hid hnr
  have HRR := Lib.hid (hR.below HB.out)
  have HFR := Lib.hid hfr
  clear hnr hR hfr
  have HNS := Lib.hid hns
  have HQQ := Lib.hid (hQ.below HB.out)
  have HFQ := Lib.hid hfq
  clear hns hQ hfq
  clear hs0 hn hnc hcm hA hf
  go_enter Try.func7, Try.ntmps7
  go_wp2_with fail
  refine HC1.out.mono ?_
  rintro e w1 ⟨v1, rfl, ho1, hb⟩
  generalize gdC L K = G at *
  generalize gdK L K = gk at *
  obtain ⟨Ag, ng, cg, rfl, HNG, hngc, hcgm, HVG, HZG⟩ := ownC_open ho1.out
  have HFIT := Lib.hid (goodS_fit G gk HGS.out)
  have HKD := Lib.hid (fun (x : Cl) (hx : x ∈ G) => (show 1 ≤ x.k ∧ x.k ≤ 4 from ⟨(HFIT.out x hx).2.1, (HFIT.out x hx).2.2.1⟩))
  have hlen := HGS.out.len
  have hkeys := HGS.out.keys
  rw [HNG.out] at hlen hkeys
  obtain ⟨hl1, hl6⟩ := hlen
  obtain ⟨hg1, hgn, hg3⟩ := hkeys
  replace HB := Lib.hid (HB.out.trans (hb.out.mono (by simp)))
  replace HRR := Lib.hid (HRR.out.below (hb.out.mono (by simp)))
  replace HQQ := Lib.hid (HQQ.out.below (hb.out.mono (by simp)))
  clear hb ho1 HC1 HZG
  have hb : Below w1.heap.size w1 (w1.alloc (.cells #[.slice Ag ng cg, .int .i64 gk] 24)) := (Below.refl _ _).alloc (Nat.le_refl _) _
  replace HB := Lib.hid (HB.out.trans (hb.mono HB.out.size))
  replace HRR := Lib.hid (HRR.out.below hb)
  replace HQQ := Lib.hid (HQQ.out.below hb)
  replace HVG := Lib.hid (HVG.out.below hb)
  clear hb
  have HG := Lib.hid (Has.new w1 24 #[.slice Ag ng cg, .int .i64 gk])
  have zHG_0 : (w1.alloc (.cells #[.slice Ag ng cg, .int .i64 gk] 24)).cell? ⟨w1.heap.size, 0, none⟩ = some (.slice Ag ng cg) := HG.out.cell 0
  have zHG_1 : (w1.alloc (.cells #[.slice Ag ng cg, .int .i64 gk] 24)).cell? ⟨w1.heap.size, 1, none⟩ = some (.int .i64 gk) := HG.out.cell 1
  go_wp2_with fail
  refine (row_any Ag G ng cg gk Ar R nr cr _ HNG.out (by omega) HVG.out (fun x hx => (HFIT.out x hx).2.2.2) HNR.out hncr hcmr HRR.out HFR.out).mono ?_
  rintro e w3 ⟨v3, rfl, ho3, hb⟩
  clear zHG_0 zHG_1
  replace HB := Lib.hid (HB.out.trans (hb.out.mono HB.out.size))
  replace HRR := Lib.hid (HRR.out.below hb.out)
  replace HQQ := Lib.hid (HQQ.out.below hb.out)
  replace HVG := Lib.hid (HVG.out.below hb.out)
  replace HG := Lib.hid (HG.out.below hb.out HG.out.lt)
  clear hb
  have hlR := rowF_len G R
  rw [HNG.out] at hlR
  have HW3 := Lib.hid (rowF_fits G R HKD.out)
  have HM3 := Lib.hid (rowF_may5 G R HKD.out)
  have HF3 := Lib.hid (rowF_fit G R HKD.out HFR.out)
  have HZ3 := Lib.hid (rowF_size5 G R)
  have HL3 := Lib.hid hlR
  clear hlR
  generalize rowF G R = P3 at *
  obtain ⟨A3, n3, c3, rfl, HN3, hnc3, hcm3, HV3, _⟩ := ownV_open ho3.out
  obtain rfl : ng = n3 := HL3.out.symm.trans HN3.out
  clear ho3
  have zHG_0 : w3.cell? ⟨w1.heap.size, 0, none⟩ = some (.slice Ag ng cg) := HG.out.cell 0
  have zHG_1 : w3.cell? ⟨w1.heap.size, 1, none⟩ = some (.int .i64 gk) := HG.out.cell 1
  go_wp2_with fail
  refine (row_any Ag G ng cg gk As Q ns cs _ HNG.out (by omega) HVG.out (fun x hx => (HFIT.out x hx).2.2.2) HNS.out hncs hcms HQQ.out HFQ.out).mono ?_
  rintro e w4 ⟨v4, rfl, ho4, hb⟩
  clear zHG_0 zHG_1
  replace HB := Lib.hid (HB.out.trans (hb.out.mono HB.out.size))
  replace HRR := Lib.hid (HRR.out.below hb.out)
  replace HQQ := Lib.hid (HQQ.out.below hb.out)
  replace HVG := Lib.hid (HVG.out.below hb.out)
  replace HG := Lib.hid (HG.out.below hb.out HG.out.lt)
  replace HV3 := Lib.hid (HV3.out.below hb.out)
  clear hb
  have hlR := rowF_len G Q
  rw [HNG.out] at hlR
  have HW4 := Lib.hid (rowF_fits G Q HKD.out)
  have HM4 := Lib.hid (rowF_may5 G Q HKD.out)
  have HF4 := Lib.hid (rowF_fit G Q HKD.out HFQ.out)
  have HZ4 := Lib.hid (rowF_size5 G Q)
  have HL4 := Lib.hid hlR
  clear hlR
  generalize rowF G Q = P4 at *
  obtain ⟨A4, n4, c4, rfl, HN4, hnc4, hcm4, HV4, _⟩ := ownV_open ho4.out
  obtain rfl : ng = n4 := HL4.out.symm.trans HN4.out
  clear ho4
  have zHG_0 : w4.cell? ⟨w1.heap.size, 0, none⟩ = some (.slice Ag ng cg) := HG.out.cell 0
  have zHG_1 : w4.cell? ⟨w1.heap.size, 1, none⟩ = some (.int .i64 gk) := HG.out.cell 1
  go_wp2_with fail
  refine (write_any none [] 0 0 Ag ng cg gk A3 P3 ng c3 ng _ rfl (by omega) (Rd.nil _ _) (fun _ => rfl) (Nat.min_self ng) (by omega) (by omega) (by omega) HL3.out (by omega) (by omega) HV3.out HM3.out HF3.out HZ3.out).mono ?_
  rintro e w5 ⟨v5, rfl, ho5, hb⟩
  clear zHG_0 zHG_1
  replace HB := Lib.hid (HB.out.trans (hb.out.mono HB.out.size))
  replace HRR := Lib.hid (HRR.out.below hb.out)
  replace HQQ := Lib.hid (HQQ.out.below hb.out)
  replace HVG := Lib.hid (HVG.out.below hb.out)
  replace HG := Lib.hid (HG.out.below hb.out HG.out.lt)
  replace HV3 := Lib.hid (HV3.out.below hb.out)
  replace HV4 := Lib.hid (HV4.out.below hb.out)
  clear hb
  rw [List.nil_append, List.take_of_length_le (by rw [HL3.out]; omega)] at ho5
  obtain ⟨A5, n5, c5, rfl, HN5, hnc5, HR5, _⟩ := own_openZ ho5.out
  clear ho5
  have zHG_0 : w5.cell? ⟨w1.heap.size, 0, none⟩ = some (.slice Ag ng cg) := HG.out.cell 0
  have zHG_1 : w5.cell? ⟨w1.heap.size, 1, none⟩ = some (.int .i64 gk) := HG.out.cell 1
  have hl8 : P3.length ≤ 8 := by rw [HL3.out]; omega
  have hl8' : P4.length ≤ 8 := by rw [HL4.out]; omega
  have HI5 := Lib.hid (conv_len w5 A5 (imgF P3) n5 c5 HN5.out HR5.out)
  go_wp2_with fail
  rw [HI5.out]
  clear HI5
  go_wp2_with fail
  refine (write_any none [] 0 0 Ag ng cg gk A4 P4 ng c4 ng _ rfl (by omega) (Rd.nil _ _) (fun _ => rfl) (Nat.min_self ng) (by omega) (by omega) (by omega) HL4.out (by omega) (by omega) HV4.out HM4.out HF4.out HZ4.out).mono ?_
  rintro e w6 ⟨v6, rfl, ho6, hb⟩
  clear zHG_0 zHG_1
  replace HB := Lib.hid (HB.out.trans (hb.out.mono HB.out.size))
  replace HRR := Lib.hid (HRR.out.below hb.out)
  replace HQQ := Lib.hid (HQQ.out.below hb.out)
  replace HVG := Lib.hid (HVG.out.below hb.out)
  replace HG := Lib.hid (HG.out.below hb.out HG.out.lt)
  replace HV3 := Lib.hid (HV3.out.below hb.out)
  replace HV4 := Lib.hid (HV4.out.below hb.out)
  replace HR5 := Lib.hid (HR5.out.below hb.out)
  clear hb
  rw [List.nil_append, List.take_of_length_le (by rw [HL4.out]; omega)] at ho6
  obtain ⟨A6, n6, c6, rfl, HN6, hnc6, HR6, _⟩ := own_openZ ho6.out
  clear ho6
  have HI6 := Lib.hid (conv_len w6 A6 (imgF P4) n6 c6 HN6.out HR6.out)
  go_wp2_with fail
  rw [HI6.out]
  clear HI6
  have heq := img_eqb (fun x hx => (HKD.out x hx).1) HW3.out HW4.out hl8 hl8'
  have hbg := img_begins (fun x hx => (HKD.out x hx).1) HW3.out HW4.out hl8 hl8'
  have hs3 : (bs (imgF P3)).size ≤ 9000 := by rw [bs_size]; exact imgF_len P3 hl8 HZ3.out HF3.out
  have hs4 : (bs (imgF P4)).size ≤ 9000 := by rw [bs_size]; exact imgF_len P4 hl8' HZ4.out HF4.out
  obtain ⟨q, hq⟩ : ∃ q, vsF P3 P4 = q := ⟨_, rfl⟩
  rw [hq] at heq
  have HQ := Lib.hid hq
  clear hq
  generalize bs (imgF P3) = sa at *
  generalize bs (imgF P4) = sb2 at *
  by_cases hlt : sa.size < sb2.size
  · have hb1 := hbg hlt
    have hlz : (sa.size : Int) < (sb2.size : Int) := by omega
    have hl0 : (0 : Int) ≤ (sa.size : Int) := by omega
    have hl2 : (sa.size : Int) ≤ (sb2.size : Int) := by omega
    clear hbg
    go_wp2_with fail
    refine (vsame_any A3 P3 ng c3 A4 P4 ng c4 w6 HL3.out HL4.out (by omega) (by omega) HV3.out HV4.out).mono ?_
    rintro e w7 ⟨rfl, hb⟩
    replace HB := Lib.hid (HB.out.trans (hb.out.mono HB.out.size))
    replace HRR := Lib.hid (HRR.out.below hb.out)
    replace HQQ := Lib.hid (HQQ.out.below hb.out)
    replace HVG := Lib.hid (HVG.out.below hb.out)
    replace HG := Lib.hid (HG.out.below hb.out HG.out.lt)
    replace HV3 := Lib.hid (HV3.out.below hb.out)
    replace HV4 := Lib.hid (HV4.out.below hb.out)
    replace HR5 := Lib.hid (HR5.out.below hb.out)
    replace HR6 := Lib.hid (HR6.out.below hb.out)
    rw [HQ.out]
    clear hb
    go_wp2_with fail
    refine (lives5_any _).mono ?_
    rintro e w8 ⟨rfl, hb⟩
    replace HB := Lib.hid (HB.out.trans (hb.out.mono HB.out.size))
    replace HRR := Lib.hid (HRR.out.below hb.out)
    replace HQQ := Lib.hid (HQQ.out.below hb.out)
    replace HVG := Lib.hid (HVG.out.below hb.out)
    replace HG := Lib.hid (HG.out.below hb.out HG.out.lt)
    replace HV3 := Lib.hid (HV3.out.below hb.out)
    replace HV4 := Lib.hid (HV4.out.below hb.out)
    replace HR5 := Lib.hid (HR5.out.below hb.out)
    replace HR6 := Lib.hid (HR6.out.below hb.out)
    clear hb
    go_wp2_with fail
    go_ret
    exact ⟨rfl, HB.out⟩
  · have hlz : ¬ (sa.size : Int) < (sb2.size : Int) := by omega
    have hlq : decide (sa.size < sb2.size) = false := by simp; omega
    clear hbg
    go_wp2_with fail
    refine (vsame_any A3 P3 ng c3 A4 P4 ng c4 w6 HL3.out HL4.out (by omega) (by omega) HV3.out HV4.out).mono ?_
    rintro e w7 ⟨rfl, hb⟩
    replace HB := Lib.hid (HB.out.trans (hb.out.mono HB.out.size))
    replace HRR := Lib.hid (HRR.out.below hb.out)
    replace HQQ := Lib.hid (HQQ.out.below hb.out)
    replace HVG := Lib.hid (HVG.out.below hb.out)
    replace HG := Lib.hid (HG.out.below hb.out HG.out.lt)
    replace HV3 := Lib.hid (HV3.out.below hb.out)
    replace HV4 := Lib.hid (HV4.out.below hb.out)
    replace HR5 := Lib.hid (HR5.out.below hb.out)
    replace HR6 := Lib.hid (HR6.out.below hb.out)
    rw [HQ.out]
    clear hb
    go_wp2_with fail
    refine (lives5_any _).mono ?_
    rintro e w8 ⟨rfl, hb⟩
    replace HB := Lib.hid (HB.out.trans (hb.out.mono HB.out.size))
    replace HRR := Lib.hid (HRR.out.below hb.out)
    replace HQQ := Lib.hid (HQQ.out.below hb.out)
    replace HVG := Lib.hid (HVG.out.below hb.out)
    replace HG := Lib.hid (HG.out.below hb.out HG.out.lt)
    replace HV3 := Lib.hid (HV3.out.below hb.out)
    replace HV4 := Lib.hid (HV4.out.below hb.out)
    replace HR5 := Lib.hid (HR5.out.below hb.out)
    replace HR6 := Lib.hid (HR6.out.below hb.out)
    clear hb
    go_wp2_with fail
    go_ret
    exact ⟨rfl, HB.out⟩
end Go.Proofs.Yticfhjimbochlaa.imageApart
