/-
  The law SchemaTurns walked: a row behind a change.
-/
import Derived.Test.YticfhjimbochlaaGood4
import Derived.Test.YticfhjimbochlaaTurn
import Derived.Test.YticfhjimbochlaaLives4
import Derived.Test.YticfhjimbochlaaSame
import Derived.Test.YticfhjimbochlaaTurnM
namespace Go.Proofs.Yticfhjimbochlaa.schemaTurns
open Go.RowKit Dg
set_option maxHeartbeats 16000000 in
set_option maxRecDepth 100000 in
theorem walk (A : Option Addr) (n c : Nat) (L : List Cl) (K : Int) (ck : Int) (tn : ByteArray) (A' : Option Addr) (n' c' : Nat) (K' : Int) (cn : ByteArray) (kd : Int) (no : Bool) (Ar : Option Addr) (nr cr : Nat) (R : List Vl) (w : World) (hn : L.length = n) (hnc : n ≤ c) (hcm : c ≤ maxLen) (hA : CRow w A L) (hf : ∀ x ∈ L, x.fit) (hk0 : -9223372036854775808 ≤ K) (hk1 : K ≤ 9223372036854775807) (_hx : cn.size ≤ 140737488355328) (hnr : R.length = nr) (hncr : nr ≤ cr) (hcmr : cr ≤ maxLen) (hR : VRow w Ar R) (hfr : ∀ x ∈ R, x.fits) :
    Calls Try.prog 5 #[.agg #[.slice A n c, .int .i64 K], .agg #[.int .i64 ck, .string tn, .slice A' n' c', .int .i64 K', .string cn, .int .i64 kd, .bool no], .slice Ar nr cr] w fun e w' => e = .returned (.bool true) ∧ Below w.heap.size w w' := by
  have HB := Lib.hid (((Below.refl w.heap.size w).alloc (Nat.le_refl _) (.cells #[.slice A n c, .int .i64 K] 24)).alloc (by simp) (.cells #[.int .i64 ck, .string tn, .slice A' n' c', .int .i64 K', .string cn, .int .i64 kd, .bool no] 35))
  have hq := Has.new (w.alloc (.cells #[.slice A n c, .int .i64 K] 24)) 35 #[.int .i64 ck, .string tn, .slice A' n' c', .int .i64 K', .string cn, .int .i64 kd, .bool no]
  rw [show (w.alloc (.cells #[.slice A n c, .int .i64 K] 24)).heap.size = w.heap.size + 1 by simp] at hq
  have HQ := Lib.hid hq
  have HC1 := Lib.hid (rgood_any A L n c K ((w.alloc (.cells #[.slice A n c, .int .i64 K] 24)).alloc (.cells #[.int .i64 ck, .string tn, .slice A' n' c', .int .i64 K', .string cn, .int .i64 kd, .bool no] 35)) hn hnc hcm (hA.below HB.out) hf hk0 hk1)
  have HGS := Lib.hid (goodS_is L K)
  have hs0 : ((w.alloc (.cells #[.slice A n c, .int .i64 K] 24)).alloc (.cells #[.int .i64 ck, .string tn, .slice A' n' c', .int .i64 K', .string cn, .int .i64 kd, .bool no] 35)).heap.size = w.heap.size + 2 := by simp
  rw [hs0] at HC1
  have HNR := Lib.hid hnr
  have HRR := Lib.hid (hR.below HB.out)
  have HRW := Lib.hid hR
  have HFR := Lib.hid hfr
  have HFM := Lib.hid (forty_size cn)
  clear hs0 hq hn hnc hcm hA hf hnr hR hfr
  go_enter Try.func5, Try.ntmps5
  go_wp2_with fail
  refine HC1.out.mono ?_
  rintro e w1 ⟨v1, rfl, ho1, hb⟩
  generalize gdC L K = G at *
  generalize gdK L K = gk at *
  obtain ⟨Ag, ng, cg, rfl, HNG, hngc, hcgm, HVG, HZG⟩ := ownC_open ho1.out
  have HFIT := Lib.hid (goodS_fit G gk HGS.out)
  have hlen := HGS.out.len
  have hkeys := HGS.out.keys
  rw [HNG.out] at hlen hkeys
  obtain ⟨hl1, hl6⟩ := hlen
  obtain ⟨hg1, hgn, hg3⟩ := hkeys
  have hsz : w.heap.size + 2 ≤ w1.heap.size := by have := hb.out.size; simpa using this
  replace HB := Lib.hid (HB.out.trans (hb.out.mono (by simp)))
  replace HQ := Lib.hid (HQ.out.below hb.out (by simp))
  replace HRR := Lib.hid (HRR.out.below (hb.out.mono (by simp)))
  have HOG := Lib.hid ho1.out
  clear hb ho1 HC1 HZG
  have hb : Below w1.heap.size w1 (w1.alloc (.cells #[.slice Ag ng cg, .int .i64 gk] 24)) := (Below.refl _ _).alloc (Nat.le_refl _) _
  replace HB := Lib.hid (HB.out.trans (hb.mono HB.out.size))
  replace HQ := Lib.hid (HQ.out.below hb HQ.out.lt)
  replace HRR := Lib.hid (HRR.out.below hb)
  replace HOG := Lib.hid (HOG.out.below hb)
  replace HVG := Lib.hid (HVG.out.below hb)
  clear hb
  have HG := Lib.hid (Has.new w1 24 #[.slice Ag ng cg, .int .i64 gk])
  have zHQ_0 : (w1.alloc (.cells #[.slice Ag ng cg, .int .i64 gk] 24)).cell? ⟨w.heap.size + 1, 0, none⟩ = some (.int .i64 ck) := HQ.out.cell 0
  have zHQ_1 : (w1.alloc (.cells #[.slice Ag ng cg, .int .i64 gk] 24)).cell? ⟨w.heap.size + 1, 1, none⟩ = some (.string tn) := HQ.out.cell 1
  have zHQ_2 : (w1.alloc (.cells #[.slice Ag ng cg, .int .i64 gk] 24)).cell? ⟨w.heap.size + 1, 2, none⟩ = some (.slice A' n' c') := HQ.out.cell 2
  have zHQ_3 : (w1.alloc (.cells #[.slice Ag ng cg, .int .i64 gk] 24)).cell? ⟨w.heap.size + 1, 3, none⟩ = some (.int .i64 K') := HQ.out.cell 3
  have zHQ_4 : (w1.alloc (.cells #[.slice Ag ng cg, .int .i64 gk] 24)).cell? ⟨w.heap.size + 1, 4, none⟩ = some (.string cn) := HQ.out.cell 4
  have zHQ_5 : (w1.alloc (.cells #[.slice Ag ng cg, .int .i64 gk] 24)).cell? ⟨w.heap.size + 1, 5, none⟩ = some (.int .i64 kd) := HQ.out.cell 5
  have zHQ_6 : (w1.alloc (.cells #[.slice Ag ng cg, .int .i64 gk] 24)).cell? ⟨w.heap.size + 1, 6, none⟩ = some (.bool no) := HQ.out.cell 6
  have y4 : (w1.alloc (.cells #[.slice Ag ng cg, .int .i64 gk] 24)).frozen? ⟨w.heap.size + 1, 4, none⟩ = false := HQ.out.free 4
  by_cases hz : 40 < cn.size
  · have hfm : cn.extract 0 40 = forty cn := by unfold forty; rw [if_pos hz]
    generalize forty cn = fm at *
    have p : Addr := ⟨w.heap.size + 1, 4, none⟩
    replace HB := Lib.hid (HB.out.setCell (p := ⟨w.heap.size + 1, 4, none⟩) (by show w.heap.size ≤ w.heap.size + 1; omega) (.string fm))
    replace HQ := Lib.hid (HQ.out.put 4 (.string fm))
    replace HG := Lib.hid (HG.out.far (p := ⟨w.heap.size + 1, 4, none⟩) (by show w1.heap.size ≠ w.heap.size + 1; omega) (.string fm))
    have hor := OwnC.row (OwnC.far HOG.out (p := ⟨w.heap.size + 1, 4, none⟩) (by show w.heap.size + 1 < w.heap.size + 2; omega) (.string fm)) rfl
    replace HVG := Lib.hid hor
    replace HRR := Lib.hid (HRW.out.below HB.out)
    clear hor p
    clear HOG
    have zHQ_0 : ((w1.alloc (.cells #[.slice Ag ng cg, .int .i64 gk] 24)).setCell ⟨w.heap.size + 1, 4, none⟩ (.string fm)).cell? ⟨w.heap.size + 1, 0, none⟩ = some (.int .i64 ck) := HQ.out.cell 0
    have zHQ_1 : ((w1.alloc (.cells #[.slice Ag ng cg, .int .i64 gk] 24)).setCell ⟨w.heap.size + 1, 4, none⟩ (.string fm)).cell? ⟨w.heap.size + 1, 1, none⟩ = some (.string tn) := HQ.out.cell 1
    have zHQ_2 : ((w1.alloc (.cells #[.slice Ag ng cg, .int .i64 gk] 24)).setCell ⟨w.heap.size + 1, 4, none⟩ (.string fm)).cell? ⟨w.heap.size + 1, 2, none⟩ = some (.slice A' n' c') := HQ.out.cell 2
    have zHQ_3 : ((w1.alloc (.cells #[.slice Ag ng cg, .int .i64 gk] 24)).setCell ⟨w.heap.size + 1, 4, none⟩ (.string fm)).cell? ⟨w.heap.size + 1, 3, none⟩ = some (.int .i64 K') := HQ.out.cell 3
    have zHQ_4 : ((w1.alloc (.cells #[.slice Ag ng cg, .int .i64 gk] 24)).setCell ⟨w.heap.size + 1, 4, none⟩ (.string fm)).cell? ⟨w.heap.size + 1, 4, none⟩ = some (.string fm) := HQ.out.cell 4
    have zHQ_5 : ((w1.alloc (.cells #[.slice Ag ng cg, .int .i64 gk] 24)).setCell ⟨w.heap.size + 1, 4, none⟩ (.string fm)).cell? ⟨w.heap.size + 1, 5, none⟩ = some (.int .i64 kd) := HQ.out.cell 5
    have zHQ_6 : ((w1.alloc (.cells #[.slice Ag ng cg, .int .i64 gk] 24)).setCell ⟨w.heap.size + 1, 4, none⟩ (.string fm)).cell? ⟨w.heap.size + 1, 6, none⟩ = some (.bool no) := HQ.out.cell 6
    have zHG_0 : ((w1.alloc (.cells #[.slice Ag ng cg, .int .i64 gk] 24)).setCell ⟨w.heap.size + 1, 4, none⟩ (.string fm)).cell? ⟨w1.heap.size, 0, none⟩ = some (.slice Ag ng cg) := HG.out.cell 0
    have zHG_1 : ((w1.alloc (.cells #[.slice Ag ng cg, .int .i64 gk] 24)).setCell ⟨w.heap.size + 1, 4, none⟩ (.string fm)).cell? ⟨w1.heap.size, 1, none⟩ = some (.int .i64 gk) := HG.out.cell 1
    go_wp2_with fail
    clear zHQ_0 zHQ_1 zHQ_2 zHQ_3 zHQ_4 zHQ_5 zHQ_6 zHG_0 zHG_1
    obtain ⟨W3, hW1⟩ : ∃ W, W = ((w1.alloc (.cells #[.slice Ag ng cg, .int .i64 gk] 24)).setCell ⟨w.heap.size + 1, 4, none⟩ (.string fm)) := ⟨_, rfl⟩
    rw [← hW1] at HB HQ HRR HVG HG ⊢
    clear hW1
    clear hfm y4 zHQ_0 zHQ_1 zHQ_2 zHQ_3 zHQ_4 zHQ_5 zHQ_6
    have zHQ_0 : W3.cell? ⟨w.heap.size + 1, 0, none⟩ = some (.int .i64 ck) := HQ.out.cell 0
    have zHQ_1 : W3.cell? ⟨w.heap.size + 1, 1, none⟩ = some (.string tn) := HQ.out.cell 1
    have zHQ_2 : W3.cell? ⟨w.heap.size + 1, 2, none⟩ = some (.slice A' n' c') := HQ.out.cell 2
    have zHQ_3 : W3.cell? ⟨w.heap.size + 1, 3, none⟩ = some (.int .i64 K') := HQ.out.cell 3
    have zHQ_4 : W3.cell? ⟨w.heap.size + 1, 4, none⟩ = some (.string fm) := HQ.out.cell 4
    have zHQ_5 : W3.cell? ⟨w.heap.size + 1, 5, none⟩ = some (.int .i64 kd) := HQ.out.cell 5
    have zHQ_6 : W3.cell? ⟨w.heap.size + 1, 6, none⟩ = some (.bool no) := HQ.out.cell 6
    have zHG_0 : W3.cell? ⟨w1.heap.size, 0, none⟩ = some (.slice Ag ng cg) := HG.out.cell 0
    have zHG_1 : W3.cell? ⟨w1.heap.size, 1, none⟩ = some (.int .i64 gk) := HG.out.cell 1
    have hcnm : fm.size ≤ 140737488355328 := by have := HFM.out; omega
    refine (rapply_any Ag G ng cg gk ck tn A' n' c' K' fm kd no W3 HNG.out (by omega) (by omega) HVG.out).mono ?_
    rintro e w2 ⟨v2, rfl, ho2, hb⟩
    obtain ⟨dn, hdn⟩ : ∃ dn, doesF G gk ck fm kd no = dn := ⟨_, rfl⟩
    rw [hdn] at ho2 ⊢
    have HDN := Lib.hid hdn
    clear hdn
    obtain ⟨A2, n2, c2, rfl, HN2, hnc2, hcm2, HV2, HZ2⟩ := ownC_open ho2.out
    clear zHQ_0 zHQ_1 zHQ_2 zHQ_3 zHQ_4 zHQ_5 zHQ_6 zHG_0 zHG_1
    replace HB := Lib.hid (HB.out.trans (hb.out.mono HB.out.size))
    replace HQ := Lib.hid (HQ.out.below hb.out HQ.out.lt)
    replace HRR := Lib.hid (HRR.out.below hb.out)
    replace HVG := Lib.hid (HVG.out.below hb.out)
    replace HG := Lib.hid (HG.out.below hb.out HG.out.lt)
    clear hb ho2 HZ2
    by_cases he : dn.e = 0
    · have hdz : (doesF G gk ck fm kd no).e = 0 := by rw [HDN.out]; exact he
      have hrf := rowF_fits G R (fun x hx => ⟨(HFIT.out x hx).2.1, (HFIT.out x hx).2.2.1⟩)
      have hTF := turn_fits (by rw [HNG.out]; omega) hrf hdz
      have hRT := rturn_is (R := rowF G R) (by rw [HNG.out]; omega) (rowF_len G R) hdz
      have hKO := keyOk_of hrf gk (by rw [HNG.out]; omega)
      have hFM := rowF_fit G R (fun x hx => ⟨(HFIT.out x hx).2.1, (HFIT.out x hx).2.2.1⟩) HFR.out
      have hdo := doesF_ok G gk ck fm kd no hdz
      have hak : applyK (gk : Int) dn = gk := if_pos he
      rw [HDN.out] at hTF hRT hdo
      rw [HNG.out] at hdo
      obtain ⟨hTF1, hTF2, hTF3, hTF4⟩ := hTF
      have hKO2 := keyOk_of hTF1 gk hTF3
      have hlT := ((fitsF_iff _ _).1 hTF1).1
      have hTM : ∀ x ∈ turnL (rowF G R) dn, x.fit := fun x hx => by
        rcases turnL_mem hx with h | rfl
        · exact (hFM x h).1
        · exact nil_fits.1
      have hlR := rowF_len G R
      rw [HNG.out] at hlR hTF4
      obtain ⟨RF, hRF⟩ : ∃ RF, rowF G R = RF := ⟨_, rfl⟩
      obtain ⟨TF, hTFq⟩ : ∃ TF, turnL RF dn = TF := ⟨_, rfl⟩
      obtain ⟨MF, hMFq⟩ : ∃ MF, applyL G dn fm kd = MF := ⟨_, rfl⟩
      rw [hRF] at hrf hTF1 hTF2 hRT hKO hFM hKO2 hlT hTM hlR
      rw [hTFq] at hTF1 hTF2 hRT hKO2 hlT hTM
      rw [hMFq] at hTF1 hTF3 hTF4 hKO2 hlT HN2 HV2
      rw [hak]
      have hn2 : n2 ≤ 7 := by rw [← HN2.out]; omega
      have hgn2 : gk ≤ n2 := by rw [← HN2.out]; exact hTF3
      rw [HN2.out] at hlT
      have HRF := Lib.hid hRF
      have HTQ := Lib.hid hTFq
      have HRT := Lib.hid hRT
      have HKO := Lib.hid hKO
      have HKO2 := Lib.hid hKO2
      have HTK := Lib.hid hTF2
      have HFI2 := Lib.hid hTF1
      have HLR := Lib.hid hlR
      have HLT := Lib.hid hlT
      have HFM2 := Lib.hid hFM
      have HTM := Lib.hid hTM
      clear hdz hrf hTF1 hTF2 hTF3 hTF4 hRT hKO hFM hKO2 hlT hTM hlR hRF hTFq hMFq hak
      have hez : (dn.e != 0) = false := by rw [he]; rfl
      have hb : Below w2.heap.size w2 (w2.alloc (.cells #[.slice A2 n2 c2, .int .i64 gk] 24)) := (Below.refl _ _).alloc (Nat.le_refl _) _
      replace HB := Lib.hid (HB.out.trans (hb.mono HB.out.size))
      replace HQ := Lib.hid (HQ.out.below hb HQ.out.lt)
      replace HRR := Lib.hid (HRR.out.below hb)
      replace HVG := Lib.hid (HVG.out.below hb)
      replace HG := Lib.hid (HG.out.below hb HG.out.lt)
      replace HV2 := Lib.hid (HV2.out.below hb)
      clear hb
      have HN := Lib.hid (Has.new w2 24 #[.slice A2 n2 c2, .int .i64 gk])
      obtain ⟨de, hde⟩ : ∃ de, dn.e = de := ⟨_, rfl⟩
      rw [hde] at hez ⊢
      clear hde
      have zHQ_0 : (w2.alloc (.cells #[.slice A2 n2 c2, .int .i64 gk] 24)).cell? ⟨w.heap.size + 1, 0, none⟩ = some (.int .i64 ck) := HQ.out.cell 0
      have zHQ_1 : (w2.alloc (.cells #[.slice A2 n2 c2, .int .i64 gk] 24)).cell? ⟨w.heap.size + 1, 1, none⟩ = some (.string tn) := HQ.out.cell 1
      have zHQ_2 : (w2.alloc (.cells #[.slice A2 n2 c2, .int .i64 gk] 24)).cell? ⟨w.heap.size + 1, 2, none⟩ = some (.slice A' n' c') := HQ.out.cell 2
      have zHQ_3 : (w2.alloc (.cells #[.slice A2 n2 c2, .int .i64 gk] 24)).cell? ⟨w.heap.size + 1, 3, none⟩ = some (.int .i64 K') := HQ.out.cell 3
      have zHQ_4 : (w2.alloc (.cells #[.slice A2 n2 c2, .int .i64 gk] 24)).cell? ⟨w.heap.size + 1, 4, none⟩ = some (.string fm) := HQ.out.cell 4
      have zHQ_5 : (w2.alloc (.cells #[.slice A2 n2 c2, .int .i64 gk] 24)).cell? ⟨w.heap.size + 1, 5, none⟩ = some (.int .i64 kd) := HQ.out.cell 5
      have zHQ_6 : (w2.alloc (.cells #[.slice A2 n2 c2, .int .i64 gk] 24)).cell? ⟨w.heap.size + 1, 6, none⟩ = some (.bool no) := HQ.out.cell 6
      have zHG_0 : (w2.alloc (.cells #[.slice A2 n2 c2, .int .i64 gk] 24)).cell? ⟨w1.heap.size, 0, none⟩ = some (.slice Ag ng cg) := HG.out.cell 0
      have zHG_1 : (w2.alloc (.cells #[.slice A2 n2 c2, .int .i64 gk] 24)).cell? ⟨w1.heap.size, 1, none⟩ = some (.int .i64 gk) := HG.out.cell 1
      have zHN_0 : (w2.alloc (.cells #[.slice A2 n2 c2, .int .i64 gk] 24)).cell? ⟨w2.heap.size, 0, none⟩ = some (.slice A2 n2 c2) := HN.out.cell 0
      have zHN_1 : (w2.alloc (.cells #[.slice A2 n2 c2, .int .i64 gk] 24)).cell? ⟨w2.heap.size, 1, none⟩ = some (.int .i64 gk) := HN.out.cell 1
      go_wp2_with fail
      obtain ⟨W4, hW1⟩ : ∃ W, W = (w2.alloc (.cells #[.slice A2 n2 c2, .int .i64 gk] 24)) := ⟨_, rfl⟩
      rw [← hW1] at HB HQ HRR HVG HG HV2 HN ⊢
      clear hW1
      clear zHQ_0 zHQ_1 zHQ_2 zHQ_3 zHQ_4 zHQ_5 zHQ_6 zHG_0 zHG_1 zHN_0 zHN_1
      refine (row_any Ag G ng cg gk Ar R nr cr W4 HNG.out (by omega) HVG.out (fun x hx => (HFIT.out x hx).2.2.2) HNR.out hncr hcmr HRR.out HFR.out).mono ?_
      rintro e w4 ⟨v4, rfl, ho4, hb⟩
      rw [HRF.out] at ho4
      obtain ⟨A4, n4, c4, rfl, HN4, hnc4, hcm4, HV4, HZ4⟩ := ownV_open ho4.out
      obtain rfl : ng = n4 := HLR.out.symm.trans HN4.out
      replace HB := Lib.hid (HB.out.trans (hb.out.mono HB.out.size))
      replace HQ := Lib.hid (HQ.out.below hb.out HQ.out.lt)
      replace HRR := Lib.hid (HRR.out.below hb.out)
      replace HVG := Lib.hid (HVG.out.below hb.out)
      replace HG := Lib.hid (HG.out.below hb.out HG.out.lt)
      replace HV2 := Lib.hid (HV2.out.below hb.out)
      replace HN := Lib.hid (HN.out.below hb.out HN.out.lt)
      clear hb ho4 HZ4
      have zHQ_0 : w4.cell? ⟨w.heap.size + 1, 0, none⟩ = some (.int .i64 ck) := HQ.out.cell 0
      have zHQ_1 : w4.cell? ⟨w.heap.size + 1, 1, none⟩ = some (.string tn) := HQ.out.cell 1
      have zHQ_2 : w4.cell? ⟨w.heap.size + 1, 2, none⟩ = some (.slice A' n' c') := HQ.out.cell 2
      have zHQ_3 : w4.cell? ⟨w.heap.size + 1, 3, none⟩ = some (.int .i64 K') := HQ.out.cell 3
      have zHQ_4 : w4.cell? ⟨w.heap.size + 1, 4, none⟩ = some (.string fm) := HQ.out.cell 4
      have zHQ_5 : w4.cell? ⟨w.heap.size + 1, 5, none⟩ = some (.int .i64 kd) := HQ.out.cell 5
      have zHQ_6 : w4.cell? ⟨w.heap.size + 1, 6, none⟩ = some (.bool no) := HQ.out.cell 6
      have zHG_0 : w4.cell? ⟨w1.heap.size, 0, none⟩ = some (.slice Ag ng cg) := HG.out.cell 0
      have zHG_1 : w4.cell? ⟨w1.heap.size, 1, none⟩ = some (.int .i64 gk) := HG.out.cell 1
      have zHN_0 : w4.cell? ⟨w2.heap.size, 0, none⟩ = some (.slice A2 n2 c2) := HN.out.cell 0
      have zHN_1 : w4.cell? ⟨w2.heap.size, 1, none⟩ = some (.int .i64 gk) := HN.out.cell 1
      go_wp2_with fail
      refine (turn_any Ag G ng cg gk ck tn A' n' c' K' fm kd no A4 RF c4 w4 HNG.out HLR.out (by omega) (by omega) hnc4 hcm4 hcnm HVG.out HV4.out dn HDN.out he hdo).mono ?_
      rintro e w5 ⟨v5, rfl, ho5, hb⟩
      clear zHQ_0 zHQ_1 zHQ_2 zHQ_3 zHQ_4 zHQ_5 zHQ_6 zHG_0 zHG_1 zHN_0 zHN_1
      replace HB := Lib.hid (HB.out.trans (hb.out.mono HB.out.size))
      replace HQ := Lib.hid (HQ.out.below hb.out HQ.out.lt)
      replace HRR := Lib.hid (HRR.out.below hb.out)
      replace HVG := Lib.hid (HVG.out.below hb.out)
      replace HG := Lib.hid (HG.out.below hb.out HG.out.lt)
      replace HV2 := Lib.hid (HV2.out.below hb.out)
      replace HN := Lib.hid (HN.out.below hb.out HN.out.lt)
      replace HV4 := Lib.hid (HV4.out.below hb.out)
      clear hb
      rw [HTQ.out] at ho5
      obtain ⟨A5, n5, c5, rfl, HN5, hnc5, hcm5, HV5, HZ5⟩ := ownV_open ho5.out
      obtain rfl : n2 = n5 := HLT.out.symm.trans HN5.out
      clear ho5 HZ5
      have zHQ_0 : w5.cell? ⟨w.heap.size + 1, 0, none⟩ = some (.int .i64 ck) := HQ.out.cell 0
      have zHQ_1 : w5.cell? ⟨w.heap.size + 1, 1, none⟩ = some (.string tn) := HQ.out.cell 1
      have zHQ_2 : w5.cell? ⟨w.heap.size + 1, 2, none⟩ = some (.slice A' n' c') := HQ.out.cell 2
      have zHQ_3 : w5.cell? ⟨w.heap.size + 1, 3, none⟩ = some (.int .i64 K') := HQ.out.cell 3
      have zHQ_4 : w5.cell? ⟨w.heap.size + 1, 4, none⟩ = some (.string fm) := HQ.out.cell 4
      have zHQ_5 : w5.cell? ⟨w.heap.size + 1, 5, none⟩ = some (.int .i64 kd) := HQ.out.cell 5
      have zHQ_6 : w5.cell? ⟨w.heap.size + 1, 6, none⟩ = some (.bool no) := HQ.out.cell 6
      have zHG_0 : w5.cell? ⟨w1.heap.size, 0, none⟩ = some (.slice Ag ng cg) := HG.out.cell 0
      have zHG_1 : w5.cell? ⟨w1.heap.size, 1, none⟩ = some (.int .i64 gk) := HG.out.cell 1
      have zHN_0 : w5.cell? ⟨w2.heap.size, 0, none⟩ = some (.slice A2 n2 c2) := HN.out.cell 0
      have zHN_1 : w5.cell? ⟨w2.heap.size, 1, none⟩ = some (.int .i64 gk) := HN.out.cell 1
      go_wp2_with fail
      refine (rturn_any Ag G ng cg gk ck tn A' n' c' K' fm kd no A4 RF ng c4 w5 HNG.out (by omega) HLR.out (by omega) HVG.out HV4.out).mono ?_
      rintro e w6 ⟨v6, rfl, ho6, hb⟩
      clear zHQ_0 zHQ_1 zHQ_2 zHQ_3 zHQ_4 zHQ_5 zHQ_6 zHG_0 zHG_1 zHN_0 zHN_1
      replace HB := Lib.hid (HB.out.trans (hb.out.mono HB.out.size))
      replace HQ := Lib.hid (HQ.out.below hb.out HQ.out.lt)
      replace HRR := Lib.hid (HRR.out.below hb.out)
      replace HVG := Lib.hid (HVG.out.below hb.out)
      replace HG := Lib.hid (HG.out.below hb.out HG.out.lt)
      replace HV2 := Lib.hid (HV2.out.below hb.out)
      replace HN := Lib.hid (HN.out.below hb.out HN.out.lt)
      replace HV4 := Lib.hid (HV4.out.below hb.out)
      replace HV5 := Lib.hid (HV5.out.below hb.out)
      clear hb
      rw [HRT.out] at ho6
      obtain ⟨A6, n6, c6, rfl, HN6, hnc6, hcm6, HV6, HZ6⟩ := ownV_open ho6.out
      obtain rfl : n2 = n6 := HLT.out.symm.trans HN6.out
      clear ho6 HZ6
      go_wp2_with fail
      refine (same_any A5 n2 c5 A6 c6 TF w6 HLT.out (by omega) HV5.out HV6.out).mono ?_
      rintro e w7 ⟨rfl, hb⟩
      replace HB := Lib.hid (HB.out.trans (hb.out.mono HB.out.size))
      replace HQ := Lib.hid (HQ.out.below hb.out HQ.out.lt)
      replace HRR := Lib.hid (HRR.out.below hb.out)
      replace HVG := Lib.hid (HVG.out.below hb.out)
      replace HG := Lib.hid (HG.out.below hb.out HG.out.lt)
      replace HV2 := Lib.hid (HV2.out.below hb.out)
      replace HN := Lib.hid (HN.out.below hb.out HN.out.lt)
      replace HV4 := Lib.hid (HV4.out.below hb.out)
      replace HV5 := Lib.hid (HV5.out.below hb.out)
      replace HV6 := Lib.hid (HV6.out.below hb.out)
      clear hb
      have zHG_0 : w7.cell? ⟨w1.heap.size, 0, none⟩ = some (.slice Ag ng cg) := HG.out.cell 0
      have zHG_1 : w7.cell? ⟨w1.heap.size, 1, none⟩ = some (.int .i64 gk) := HG.out.cell 1
      go_wp2_with fail
      refine (row_any Ag G ng cg gk Ar R nr cr w7 HNG.out (by omega) HVG.out (fun x hx => (HFIT.out x hx).2.2.2) HNR.out hncr hcmr HRR.out HFR.out).mono ?_
      rintro e w8 ⟨v8, rfl, ho8, hb⟩
      clear zHG_0 zHG_1
      replace HB := Lib.hid (HB.out.trans (hb.out.mono HB.out.size))
      replace HQ := Lib.hid (HQ.out.below hb.out HQ.out.lt)
      replace HRR := Lib.hid (HRR.out.below hb.out)
      replace HVG := Lib.hid (HVG.out.below hb.out)
      replace HG := Lib.hid (HG.out.below hb.out HG.out.lt)
      replace HV2 := Lib.hid (HV2.out.below hb.out)
      replace HN := Lib.hid (HN.out.below hb.out HN.out.lt)
      replace HV4 := Lib.hid (HV4.out.below hb.out)
      replace HV5 := Lib.hid (HV5.out.below hb.out)
      replace HV6 := Lib.hid (HV6.out.below hb.out)
      clear hb
      rw [HRF.out] at ho8
      obtain ⟨A8, n8, c8, rfl, HN8, hnc8, hcm8, HV8, HZ8⟩ := ownV_open ho8.out
      obtain rfl : ng = n8 := HLR.out.symm.trans HN8.out
      clear ho8 HZ8
      go_wp2_with fail
      refine (same_any A4 ng c4 A8 c8 RF w8 HLR.out (by omega) HV4.out HV8.out).mono ?_
      rintro e w9 ⟨rfl, hb⟩
      replace HB := Lib.hid (HB.out.trans (hb.out.mono HB.out.size))
      replace HQ := Lib.hid (HQ.out.below hb.out HQ.out.lt)
      replace HRR := Lib.hid (HRR.out.below hb.out)
      replace HVG := Lib.hid (HVG.out.below hb.out)
      replace HG := Lib.hid (HG.out.below hb.out HG.out.lt)
      replace HV2 := Lib.hid (HV2.out.below hb.out)
      replace HN := Lib.hid (HN.out.below hb.out HN.out.lt)
      replace HV4 := Lib.hid (HV4.out.below hb.out)
      replace HV5 := Lib.hid (HV5.out.below hb.out)
      replace HV6 := Lib.hid (HV6.out.below hb.out)
      replace HV8 := Lib.hid (HV8.out.below hb.out)
      clear hb
      have zHG_0 : w9.cell? ⟨w1.heap.size, 0, none⟩ = some (.slice Ag ng cg) := HG.out.cell 0
      have zHG_1 : w9.cell? ⟨w1.heap.size, 1, none⟩ = some (.int .i64 gk) := HG.out.cell 1
      go_wp2_with fail
      refine (rkey_any Ag G ng cg gk A4 RF ng c4 w9 HNG.out (by omega) (by omega) (by omega) hnc4 HVG.out HLR.out HV4.out (fun x hx => (HFM2.out x hx).1)).mono ?_
      rintro e wa ⟨rfl, hb⟩
      clear zHG_0 zHG_1
      replace HB := Lib.hid (HB.out.trans (hb.out.mono HB.out.size))
      replace HQ := Lib.hid (HQ.out.below hb.out HQ.out.lt)
      replace HRR := Lib.hid (HRR.out.below hb.out)
      replace HVG := Lib.hid (HVG.out.below hb.out)
      replace HG := Lib.hid (HG.out.below hb.out HG.out.lt)
      replace HV2 := Lib.hid (HV2.out.below hb.out)
      replace HN := Lib.hid (HN.out.below hb.out HN.out.lt)
      replace HV4 := Lib.hid (HV4.out.below hb.out)
      replace HV5 := Lib.hid (HV5.out.below hb.out)
      replace HV6 := Lib.hid (HV6.out.below hb.out)
      replace HV8 := Lib.hid (HV8.out.below hb.out)
      clear hb
      unfold keyT
      rw [if_pos HKO.out]
      have zHN_0 : wa.cell? ⟨w2.heap.size, 0, none⟩ = some (.slice A2 n2 c2) := HN.out.cell 0
      have zHN_1 : wa.cell? ⟨w2.heap.size, 1, none⟩ = some (.int .i64 gk) := HN.out.cell 1
      go_wp2_with fail
      refine (rkey_any A2 MF n2 c2 gk A5 TF n2 c5 wa HN2.out (by omega) (by omega) (by omega) hnc5 HV2.out HLT.out HV5.out HTM.out).mono ?_
      rintro e wb ⟨rfl, hb⟩
      clear zHN_0 zHN_1
      replace HB := Lib.hid (HB.out.trans (hb.out.mono HB.out.size))
      replace HQ := Lib.hid (HQ.out.below hb.out HQ.out.lt)
      replace HRR := Lib.hid (HRR.out.below hb.out)
      replace HVG := Lib.hid (HVG.out.below hb.out)
      replace HG := Lib.hid (HG.out.below hb.out HG.out.lt)
      replace HV2 := Lib.hid (HV2.out.below hb.out)
      replace HN := Lib.hid (HN.out.below hb.out HN.out.lt)
      replace HV4 := Lib.hid (HV4.out.below hb.out)
      replace HV5 := Lib.hid (HV5.out.below hb.out)
      replace HV6 := Lib.hid (HV6.out.below hb.out)
      replace HV8 := Lib.hid (HV8.out.below hb.out)
      clear hb
      unfold keyT
      rw [if_pos HKO2.out, HTK.out]
      generalize bs (keys (RF.take gk)) = kb
      have zHN_0 : wb.cell? ⟨w2.heap.size, 0, none⟩ = some (.slice A2 n2 c2) := HN.out.cell 0
      have zHN_1 : wb.cell? ⟨w2.heap.size, 1, none⟩ = some (.int .i64 gk) := HN.out.cell 1
      go_wp2_with fail
      refine (refFits_any A2 MF n2 c2 gk A5 TF n2 c5 wb HN2.out (by omega) HV2.out HLT.out HV5.out HTM.out).mono ?_
      rintro e wc ⟨rfl, hb⟩
      clear zHN_0 zHN_1
      replace HB := Lib.hid (HB.out.trans (hb.out.mono HB.out.size))
      replace HQ := Lib.hid (HQ.out.below hb.out HQ.out.lt)
      replace HRR := Lib.hid (HRR.out.below hb.out)
      replace HVG := Lib.hid (HVG.out.below hb.out)
      replace HG := Lib.hid (HG.out.below hb.out HG.out.lt)
      replace HV2 := Lib.hid (HV2.out.below hb.out)
      replace HN := Lib.hid (HN.out.below hb.out HN.out.lt)
      replace HV4 := Lib.hid (HV4.out.below hb.out)
      replace HV5 := Lib.hid (HV5.out.below hb.out)
      replace HV6 := Lib.hid (HV6.out.below hb.out)
      replace HV8 := Lib.hid (HV8.out.below hb.out)
      clear hb
      rw [HFI2.out]
      go_wp2_with fail
      refine (lives4_any _).mono ?_
      rintro e wd ⟨rfl, hb⟩
      replace HB := Lib.hid (HB.out.trans (hb.out.mono HB.out.size))
      replace HQ := Lib.hid (HQ.out.below hb.out HQ.out.lt)
      replace HRR := Lib.hid (HRR.out.below hb.out)
      replace HVG := Lib.hid (HVG.out.below hb.out)
      replace HG := Lib.hid (HG.out.below hb.out HG.out.lt)
      replace HV2 := Lib.hid (HV2.out.below hb.out)
      replace HN := Lib.hid (HN.out.below hb.out HN.out.lt)
      replace HV4 := Lib.hid (HV4.out.below hb.out)
      replace HV5 := Lib.hid (HV5.out.below hb.out)
      replace HV6 := Lib.hid (HV6.out.below hb.out)
      replace HV8 := Lib.hid (HV8.out.below hb.out)
      clear hb
      go_wp2_with fail
      go_ret
      exact ⟨rfl, HB.out⟩
    · obtain ⟨df, dt, dm, de⟩ := dn
      simp only at he
      have hq : (de != 0) = true := by simp [he]
      have hb : Below w2.heap.size w2 (w2.alloc (.cells #[.slice A2 n2 c2, .int .i64 (applyK (gk : Int) ⟨df, dt, dm, de⟩)] 24)) := (Below.refl _ _).alloc (Nat.le_refl _) _
      replace HB := Lib.hid (HB.out.trans (hb.mono HB.out.size))
      replace HQ := Lib.hid (HQ.out.below hb HQ.out.lt)
      replace HRR := Lib.hid (HRR.out.below hb)
      replace HVG := Lib.hid (HVG.out.below hb)
      replace HG := Lib.hid (HG.out.below hb HG.out.lt)
      replace HV2 := Lib.hid (HV2.out.below hb)
      clear hb
      generalize applyK (gk : Int) ⟨df, dt, dm, de⟩ = ak at *
      go_wp2_with fail
      refine (lives4_any _).mono ?_
      rintro e w3 ⟨rfl, hb⟩
      replace HB := Lib.hid (HB.out.trans (hb.out.mono HB.out.size))
      clear hb
      go_wp2_with fail
      go_ret
      exact ⟨rfl, HB.out⟩
  · have hfm : forty cn = cn := by unfold forty; rw [if_neg hz]
    rw [hfm] at HFM
    clear hfm HOG y4
    have zHG_0 : (w1.alloc (.cells #[.slice Ag ng cg, .int .i64 gk] 24)).cell? ⟨w1.heap.size, 0, none⟩ = some (.slice Ag ng cg) := HG.out.cell 0
    have zHG_1 : (w1.alloc (.cells #[.slice Ag ng cg, .int .i64 gk] 24)).cell? ⟨w1.heap.size, 1, none⟩ = some (.int .i64 gk) := HG.out.cell 1
    go_wp2_with fail
    clear zHG_0 zHG_1 zHQ_0 zHQ_1 zHQ_2 zHQ_3 zHQ_4 zHQ_5 zHQ_6
    obtain ⟨fm, hfm2⟩ : ∃ fm, fm = cn := ⟨_, rfl⟩
    subst hfm2
    obtain ⟨W3, hW1⟩ : ∃ W, W = (w1.alloc (.cells #[.slice Ag ng cg, .int .i64 gk] 24)) := ⟨_, rfl⟩
    rw [← hW1] at HB HQ HRR HVG HG ⊢
    clear hW1
    have zHQ_0 : W3.cell? ⟨w.heap.size + 1, 0, none⟩ = some (.int .i64 ck) := HQ.out.cell 0
    have zHQ_1 : W3.cell? ⟨w.heap.size + 1, 1, none⟩ = some (.string tn) := HQ.out.cell 1
    have zHQ_2 : W3.cell? ⟨w.heap.size + 1, 2, none⟩ = some (.slice A' n' c') := HQ.out.cell 2
    have zHQ_3 : W3.cell? ⟨w.heap.size + 1, 3, none⟩ = some (.int .i64 K') := HQ.out.cell 3
    have zHQ_4 : W3.cell? ⟨w.heap.size + 1, 4, none⟩ = some (.string fm) := HQ.out.cell 4
    have zHQ_5 : W3.cell? ⟨w.heap.size + 1, 5, none⟩ = some (.int .i64 kd) := HQ.out.cell 5
    have zHQ_6 : W3.cell? ⟨w.heap.size + 1, 6, none⟩ = some (.bool no) := HQ.out.cell 6
    have zHG_0 : W3.cell? ⟨w1.heap.size, 0, none⟩ = some (.slice Ag ng cg) := HG.out.cell 0
    have zHG_1 : W3.cell? ⟨w1.heap.size, 1, none⟩ = some (.int .i64 gk) := HG.out.cell 1
    have hcnm : fm.size ≤ 140737488355328 := by have := HFM.out; omega
    refine (rapply_any Ag G ng cg gk ck tn A' n' c' K' fm kd no W3 HNG.out (by omega) (by omega) HVG.out).mono ?_
    rintro e w2 ⟨v2, rfl, ho2, hb⟩
    obtain ⟨dn, hdn⟩ : ∃ dn, doesF G gk ck fm kd no = dn := ⟨_, rfl⟩
    rw [hdn] at ho2 ⊢
    have HDN := Lib.hid hdn
    clear hdn
    obtain ⟨A2, n2, c2, rfl, HN2, hnc2, hcm2, HV2, HZ2⟩ := ownC_open ho2.out
    clear zHQ_0 zHQ_1 zHQ_2 zHQ_3 zHQ_4 zHQ_5 zHQ_6 zHG_0 zHG_1
    replace HB := Lib.hid (HB.out.trans (hb.out.mono HB.out.size))
    replace HQ := Lib.hid (HQ.out.below hb.out HQ.out.lt)
    replace HRR := Lib.hid (HRR.out.below hb.out)
    replace HVG := Lib.hid (HVG.out.below hb.out)
    replace HG := Lib.hid (HG.out.below hb.out HG.out.lt)
    clear hb ho2 HZ2
    by_cases he : dn.e = 0
    · have hdz : (doesF G gk ck fm kd no).e = 0 := by rw [HDN.out]; exact he
      have hrf := rowF_fits G R (fun x hx => ⟨(HFIT.out x hx).2.1, (HFIT.out x hx).2.2.1⟩)
      have hTF := turn_fits (by rw [HNG.out]; omega) hrf hdz
      have hRT := rturn_is (R := rowF G R) (by rw [HNG.out]; omega) (rowF_len G R) hdz
      have hKO := keyOk_of hrf gk (by rw [HNG.out]; omega)
      have hFM := rowF_fit G R (fun x hx => ⟨(HFIT.out x hx).2.1, (HFIT.out x hx).2.2.1⟩) HFR.out
      have hdo := doesF_ok G gk ck fm kd no hdz
      have hak : applyK (gk : Int) dn = gk := if_pos he
      rw [HDN.out] at hTF hRT hdo
      rw [HNG.out] at hdo
      obtain ⟨hTF1, hTF2, hTF3, hTF4⟩ := hTF
      have hKO2 := keyOk_of hTF1 gk hTF3
      have hlT := ((fitsF_iff _ _).1 hTF1).1
      have hTM : ∀ x ∈ turnL (rowF G R) dn, x.fit := fun x hx => by
        rcases turnL_mem hx with h | rfl
        · exact (hFM x h).1
        · exact nil_fits.1
      have hlR := rowF_len G R
      rw [HNG.out] at hlR hTF4
      obtain ⟨RF, hRF⟩ : ∃ RF, rowF G R = RF := ⟨_, rfl⟩
      obtain ⟨TF, hTFq⟩ : ∃ TF, turnL RF dn = TF := ⟨_, rfl⟩
      obtain ⟨MF, hMFq⟩ : ∃ MF, applyL G dn fm kd = MF := ⟨_, rfl⟩
      rw [hRF] at hrf hTF1 hTF2 hRT hKO hFM hKO2 hlT hTM hlR
      rw [hTFq] at hTF1 hTF2 hRT hKO2 hlT hTM
      rw [hMFq] at hTF1 hTF3 hTF4 hKO2 hlT HN2 HV2
      rw [hak]
      have hn2 : n2 ≤ 7 := by rw [← HN2.out]; omega
      have hgn2 : gk ≤ n2 := by rw [← HN2.out]; exact hTF3
      rw [HN2.out] at hlT
      have HRF := Lib.hid hRF
      have HTQ := Lib.hid hTFq
      have HRT := Lib.hid hRT
      have HKO := Lib.hid hKO
      have HKO2 := Lib.hid hKO2
      have HTK := Lib.hid hTF2
      have HFI2 := Lib.hid hTF1
      have HLR := Lib.hid hlR
      have HLT := Lib.hid hlT
      have HFM2 := Lib.hid hFM
      have HTM := Lib.hid hTM
      clear hdz hrf hTF1 hTF2 hTF3 hTF4 hRT hKO hFM hKO2 hlT hTM hlR hRF hTFq hMFq hak
      have hez : (dn.e != 0) = false := by rw [he]; rfl
      have hb : Below w2.heap.size w2 (w2.alloc (.cells #[.slice A2 n2 c2, .int .i64 gk] 24)) := (Below.refl _ _).alloc (Nat.le_refl _) _
      replace HB := Lib.hid (HB.out.trans (hb.mono HB.out.size))
      replace HQ := Lib.hid (HQ.out.below hb HQ.out.lt)
      replace HRR := Lib.hid (HRR.out.below hb)
      replace HVG := Lib.hid (HVG.out.below hb)
      replace HG := Lib.hid (HG.out.below hb HG.out.lt)
      replace HV2 := Lib.hid (HV2.out.below hb)
      clear hb
      have HN := Lib.hid (Has.new w2 24 #[.slice A2 n2 c2, .int .i64 gk])
      obtain ⟨de, hde⟩ : ∃ de, dn.e = de := ⟨_, rfl⟩
      rw [hde] at hez ⊢
      clear hde
      have zHQ_0 : (w2.alloc (.cells #[.slice A2 n2 c2, .int .i64 gk] 24)).cell? ⟨w.heap.size + 1, 0, none⟩ = some (.int .i64 ck) := HQ.out.cell 0
      have zHQ_1 : (w2.alloc (.cells #[.slice A2 n2 c2, .int .i64 gk] 24)).cell? ⟨w.heap.size + 1, 1, none⟩ = some (.string tn) := HQ.out.cell 1
      have zHQ_2 : (w2.alloc (.cells #[.slice A2 n2 c2, .int .i64 gk] 24)).cell? ⟨w.heap.size + 1, 2, none⟩ = some (.slice A' n' c') := HQ.out.cell 2
      have zHQ_3 : (w2.alloc (.cells #[.slice A2 n2 c2, .int .i64 gk] 24)).cell? ⟨w.heap.size + 1, 3, none⟩ = some (.int .i64 K') := HQ.out.cell 3
      have zHQ_4 : (w2.alloc (.cells #[.slice A2 n2 c2, .int .i64 gk] 24)).cell? ⟨w.heap.size + 1, 4, none⟩ = some (.string fm) := HQ.out.cell 4
      have zHQ_5 : (w2.alloc (.cells #[.slice A2 n2 c2, .int .i64 gk] 24)).cell? ⟨w.heap.size + 1, 5, none⟩ = some (.int .i64 kd) := HQ.out.cell 5
      have zHQ_6 : (w2.alloc (.cells #[.slice A2 n2 c2, .int .i64 gk] 24)).cell? ⟨w.heap.size + 1, 6, none⟩ = some (.bool no) := HQ.out.cell 6
      have zHG_0 : (w2.alloc (.cells #[.slice A2 n2 c2, .int .i64 gk] 24)).cell? ⟨w1.heap.size, 0, none⟩ = some (.slice Ag ng cg) := HG.out.cell 0
      have zHG_1 : (w2.alloc (.cells #[.slice A2 n2 c2, .int .i64 gk] 24)).cell? ⟨w1.heap.size, 1, none⟩ = some (.int .i64 gk) := HG.out.cell 1
      have zHN_0 : (w2.alloc (.cells #[.slice A2 n2 c2, .int .i64 gk] 24)).cell? ⟨w2.heap.size, 0, none⟩ = some (.slice A2 n2 c2) := HN.out.cell 0
      have zHN_1 : (w2.alloc (.cells #[.slice A2 n2 c2, .int .i64 gk] 24)).cell? ⟨w2.heap.size, 1, none⟩ = some (.int .i64 gk) := HN.out.cell 1
      go_wp2_with fail
      obtain ⟨W4, hW1⟩ : ∃ W, W = (w2.alloc (.cells #[.slice A2 n2 c2, .int .i64 gk] 24)) := ⟨_, rfl⟩
      rw [← hW1] at HB HQ HRR HVG HG HV2 HN ⊢
      clear hW1
      clear zHQ_0 zHQ_1 zHQ_2 zHQ_3 zHQ_4 zHQ_5 zHQ_6 zHG_0 zHG_1 zHN_0 zHN_1
      refine (row_any Ag G ng cg gk Ar R nr cr W4 HNG.out (by omega) HVG.out (fun x hx => (HFIT.out x hx).2.2.2) HNR.out hncr hcmr HRR.out HFR.out).mono ?_
      rintro e w4 ⟨v4, rfl, ho4, hb⟩
      rw [HRF.out] at ho4
      obtain ⟨A4, n4, c4, rfl, HN4, hnc4, hcm4, HV4, HZ4⟩ := ownV_open ho4.out
      obtain rfl : ng = n4 := HLR.out.symm.trans HN4.out
      replace HB := Lib.hid (HB.out.trans (hb.out.mono HB.out.size))
      replace HQ := Lib.hid (HQ.out.below hb.out HQ.out.lt)
      replace HRR := Lib.hid (HRR.out.below hb.out)
      replace HVG := Lib.hid (HVG.out.below hb.out)
      replace HG := Lib.hid (HG.out.below hb.out HG.out.lt)
      replace HV2 := Lib.hid (HV2.out.below hb.out)
      replace HN := Lib.hid (HN.out.below hb.out HN.out.lt)
      clear hb ho4 HZ4
      have zHQ_0 : w4.cell? ⟨w.heap.size + 1, 0, none⟩ = some (.int .i64 ck) := HQ.out.cell 0
      have zHQ_1 : w4.cell? ⟨w.heap.size + 1, 1, none⟩ = some (.string tn) := HQ.out.cell 1
      have zHQ_2 : w4.cell? ⟨w.heap.size + 1, 2, none⟩ = some (.slice A' n' c') := HQ.out.cell 2
      have zHQ_3 : w4.cell? ⟨w.heap.size + 1, 3, none⟩ = some (.int .i64 K') := HQ.out.cell 3
      have zHQ_4 : w4.cell? ⟨w.heap.size + 1, 4, none⟩ = some (.string fm) := HQ.out.cell 4
      have zHQ_5 : w4.cell? ⟨w.heap.size + 1, 5, none⟩ = some (.int .i64 kd) := HQ.out.cell 5
      have zHQ_6 : w4.cell? ⟨w.heap.size + 1, 6, none⟩ = some (.bool no) := HQ.out.cell 6
      have zHG_0 : w4.cell? ⟨w1.heap.size, 0, none⟩ = some (.slice Ag ng cg) := HG.out.cell 0
      have zHG_1 : w4.cell? ⟨w1.heap.size, 1, none⟩ = some (.int .i64 gk) := HG.out.cell 1
      have zHN_0 : w4.cell? ⟨w2.heap.size, 0, none⟩ = some (.slice A2 n2 c2) := HN.out.cell 0
      have zHN_1 : w4.cell? ⟨w2.heap.size, 1, none⟩ = some (.int .i64 gk) := HN.out.cell 1
      go_wp2_with fail
      refine (turn_any Ag G ng cg gk ck tn A' n' c' K' fm kd no A4 RF c4 w4 HNG.out HLR.out (by omega) (by omega) hnc4 hcm4 hcnm HVG.out HV4.out dn HDN.out he hdo).mono ?_
      rintro e w5 ⟨v5, rfl, ho5, hb⟩
      clear zHQ_0 zHQ_1 zHQ_2 zHQ_3 zHQ_4 zHQ_5 zHQ_6 zHG_0 zHG_1 zHN_0 zHN_1
      replace HB := Lib.hid (HB.out.trans (hb.out.mono HB.out.size))
      replace HQ := Lib.hid (HQ.out.below hb.out HQ.out.lt)
      replace HRR := Lib.hid (HRR.out.below hb.out)
      replace HVG := Lib.hid (HVG.out.below hb.out)
      replace HG := Lib.hid (HG.out.below hb.out HG.out.lt)
      replace HV2 := Lib.hid (HV2.out.below hb.out)
      replace HN := Lib.hid (HN.out.below hb.out HN.out.lt)
      replace HV4 := Lib.hid (HV4.out.below hb.out)
      clear hb
      rw [HTQ.out] at ho5
      obtain ⟨A5, n5, c5, rfl, HN5, hnc5, hcm5, HV5, HZ5⟩ := ownV_open ho5.out
      obtain rfl : n2 = n5 := HLT.out.symm.trans HN5.out
      clear ho5 HZ5
      have zHQ_0 : w5.cell? ⟨w.heap.size + 1, 0, none⟩ = some (.int .i64 ck) := HQ.out.cell 0
      have zHQ_1 : w5.cell? ⟨w.heap.size + 1, 1, none⟩ = some (.string tn) := HQ.out.cell 1
      have zHQ_2 : w5.cell? ⟨w.heap.size + 1, 2, none⟩ = some (.slice A' n' c') := HQ.out.cell 2
      have zHQ_3 : w5.cell? ⟨w.heap.size + 1, 3, none⟩ = some (.int .i64 K') := HQ.out.cell 3
      have zHQ_4 : w5.cell? ⟨w.heap.size + 1, 4, none⟩ = some (.string fm) := HQ.out.cell 4
      have zHQ_5 : w5.cell? ⟨w.heap.size + 1, 5, none⟩ = some (.int .i64 kd) := HQ.out.cell 5
      have zHQ_6 : w5.cell? ⟨w.heap.size + 1, 6, none⟩ = some (.bool no) := HQ.out.cell 6
      have zHG_0 : w5.cell? ⟨w1.heap.size, 0, none⟩ = some (.slice Ag ng cg) := HG.out.cell 0
      have zHG_1 : w5.cell? ⟨w1.heap.size, 1, none⟩ = some (.int .i64 gk) := HG.out.cell 1
      have zHN_0 : w5.cell? ⟨w2.heap.size, 0, none⟩ = some (.slice A2 n2 c2) := HN.out.cell 0
      have zHN_1 : w5.cell? ⟨w2.heap.size, 1, none⟩ = some (.int .i64 gk) := HN.out.cell 1
      go_wp2_with fail
      refine (rturn_any Ag G ng cg gk ck tn A' n' c' K' fm kd no A4 RF ng c4 w5 HNG.out (by omega) HLR.out (by omega) HVG.out HV4.out).mono ?_
      rintro e w6 ⟨v6, rfl, ho6, hb⟩
      clear zHQ_0 zHQ_1 zHQ_2 zHQ_3 zHQ_4 zHQ_5 zHQ_6 zHG_0 zHG_1 zHN_0 zHN_1
      replace HB := Lib.hid (HB.out.trans (hb.out.mono HB.out.size))
      replace HQ := Lib.hid (HQ.out.below hb.out HQ.out.lt)
      replace HRR := Lib.hid (HRR.out.below hb.out)
      replace HVG := Lib.hid (HVG.out.below hb.out)
      replace HG := Lib.hid (HG.out.below hb.out HG.out.lt)
      replace HV2 := Lib.hid (HV2.out.below hb.out)
      replace HN := Lib.hid (HN.out.below hb.out HN.out.lt)
      replace HV4 := Lib.hid (HV4.out.below hb.out)
      replace HV5 := Lib.hid (HV5.out.below hb.out)
      clear hb
      rw [HRT.out] at ho6
      obtain ⟨A6, n6, c6, rfl, HN6, hnc6, hcm6, HV6, HZ6⟩ := ownV_open ho6.out
      obtain rfl : n2 = n6 := HLT.out.symm.trans HN6.out
      clear ho6 HZ6
      go_wp2_with fail
      refine (same_any A5 n2 c5 A6 c6 TF w6 HLT.out (by omega) HV5.out HV6.out).mono ?_
      rintro e w7 ⟨rfl, hb⟩
      replace HB := Lib.hid (HB.out.trans (hb.out.mono HB.out.size))
      replace HQ := Lib.hid (HQ.out.below hb.out HQ.out.lt)
      replace HRR := Lib.hid (HRR.out.below hb.out)
      replace HVG := Lib.hid (HVG.out.below hb.out)
      replace HG := Lib.hid (HG.out.below hb.out HG.out.lt)
      replace HV2 := Lib.hid (HV2.out.below hb.out)
      replace HN := Lib.hid (HN.out.below hb.out HN.out.lt)
      replace HV4 := Lib.hid (HV4.out.below hb.out)
      replace HV5 := Lib.hid (HV5.out.below hb.out)
      replace HV6 := Lib.hid (HV6.out.below hb.out)
      clear hb
      have zHG_0 : w7.cell? ⟨w1.heap.size, 0, none⟩ = some (.slice Ag ng cg) := HG.out.cell 0
      have zHG_1 : w7.cell? ⟨w1.heap.size, 1, none⟩ = some (.int .i64 gk) := HG.out.cell 1
      go_wp2_with fail
      refine (row_any Ag G ng cg gk Ar R nr cr w7 HNG.out (by omega) HVG.out (fun x hx => (HFIT.out x hx).2.2.2) HNR.out hncr hcmr HRR.out HFR.out).mono ?_
      rintro e w8 ⟨v8, rfl, ho8, hb⟩
      clear zHG_0 zHG_1
      replace HB := Lib.hid (HB.out.trans (hb.out.mono HB.out.size))
      replace HQ := Lib.hid (HQ.out.below hb.out HQ.out.lt)
      replace HRR := Lib.hid (HRR.out.below hb.out)
      replace HVG := Lib.hid (HVG.out.below hb.out)
      replace HG := Lib.hid (HG.out.below hb.out HG.out.lt)
      replace HV2 := Lib.hid (HV2.out.below hb.out)
      replace HN := Lib.hid (HN.out.below hb.out HN.out.lt)
      replace HV4 := Lib.hid (HV4.out.below hb.out)
      replace HV5 := Lib.hid (HV5.out.below hb.out)
      replace HV6 := Lib.hid (HV6.out.below hb.out)
      clear hb
      rw [HRF.out] at ho8
      obtain ⟨A8, n8, c8, rfl, HN8, hnc8, hcm8, HV8, HZ8⟩ := ownV_open ho8.out
      obtain rfl : ng = n8 := HLR.out.symm.trans HN8.out
      clear ho8 HZ8
      go_wp2_with fail
      refine (same_any A4 ng c4 A8 c8 RF w8 HLR.out (by omega) HV4.out HV8.out).mono ?_
      rintro e w9 ⟨rfl, hb⟩
      replace HB := Lib.hid (HB.out.trans (hb.out.mono HB.out.size))
      replace HQ := Lib.hid (HQ.out.below hb.out HQ.out.lt)
      replace HRR := Lib.hid (HRR.out.below hb.out)
      replace HVG := Lib.hid (HVG.out.below hb.out)
      replace HG := Lib.hid (HG.out.below hb.out HG.out.lt)
      replace HV2 := Lib.hid (HV2.out.below hb.out)
      replace HN := Lib.hid (HN.out.below hb.out HN.out.lt)
      replace HV4 := Lib.hid (HV4.out.below hb.out)
      replace HV5 := Lib.hid (HV5.out.below hb.out)
      replace HV6 := Lib.hid (HV6.out.below hb.out)
      replace HV8 := Lib.hid (HV8.out.below hb.out)
      clear hb
      have zHG_0 : w9.cell? ⟨w1.heap.size, 0, none⟩ = some (.slice Ag ng cg) := HG.out.cell 0
      have zHG_1 : w9.cell? ⟨w1.heap.size, 1, none⟩ = some (.int .i64 gk) := HG.out.cell 1
      go_wp2_with fail
      refine (rkey_any Ag G ng cg gk A4 RF ng c4 w9 HNG.out (by omega) (by omega) (by omega) hnc4 HVG.out HLR.out HV4.out (fun x hx => (HFM2.out x hx).1)).mono ?_
      rintro e wa ⟨rfl, hb⟩
      clear zHG_0 zHG_1
      replace HB := Lib.hid (HB.out.trans (hb.out.mono HB.out.size))
      replace HQ := Lib.hid (HQ.out.below hb.out HQ.out.lt)
      replace HRR := Lib.hid (HRR.out.below hb.out)
      replace HVG := Lib.hid (HVG.out.below hb.out)
      replace HG := Lib.hid (HG.out.below hb.out HG.out.lt)
      replace HV2 := Lib.hid (HV2.out.below hb.out)
      replace HN := Lib.hid (HN.out.below hb.out HN.out.lt)
      replace HV4 := Lib.hid (HV4.out.below hb.out)
      replace HV5 := Lib.hid (HV5.out.below hb.out)
      replace HV6 := Lib.hid (HV6.out.below hb.out)
      replace HV8 := Lib.hid (HV8.out.below hb.out)
      clear hb
      unfold keyT
      rw [if_pos HKO.out]
      have zHN_0 : wa.cell? ⟨w2.heap.size, 0, none⟩ = some (.slice A2 n2 c2) := HN.out.cell 0
      have zHN_1 : wa.cell? ⟨w2.heap.size, 1, none⟩ = some (.int .i64 gk) := HN.out.cell 1
      go_wp2_with fail
      refine (rkey_any A2 MF n2 c2 gk A5 TF n2 c5 wa HN2.out (by omega) (by omega) (by omega) hnc5 HV2.out HLT.out HV5.out HTM.out).mono ?_
      rintro e wb ⟨rfl, hb⟩
      clear zHN_0 zHN_1
      replace HB := Lib.hid (HB.out.trans (hb.out.mono HB.out.size))
      replace HQ := Lib.hid (HQ.out.below hb.out HQ.out.lt)
      replace HRR := Lib.hid (HRR.out.below hb.out)
      replace HVG := Lib.hid (HVG.out.below hb.out)
      replace HG := Lib.hid (HG.out.below hb.out HG.out.lt)
      replace HV2 := Lib.hid (HV2.out.below hb.out)
      replace HN := Lib.hid (HN.out.below hb.out HN.out.lt)
      replace HV4 := Lib.hid (HV4.out.below hb.out)
      replace HV5 := Lib.hid (HV5.out.below hb.out)
      replace HV6 := Lib.hid (HV6.out.below hb.out)
      replace HV8 := Lib.hid (HV8.out.below hb.out)
      clear hb
      unfold keyT
      rw [if_pos HKO2.out, HTK.out]
      generalize bs (keys (RF.take gk)) = kb
      have zHN_0 : wb.cell? ⟨w2.heap.size, 0, none⟩ = some (.slice A2 n2 c2) := HN.out.cell 0
      have zHN_1 : wb.cell? ⟨w2.heap.size, 1, none⟩ = some (.int .i64 gk) := HN.out.cell 1
      go_wp2_with fail
      refine (refFits_any A2 MF n2 c2 gk A5 TF n2 c5 wb HN2.out (by omega) HV2.out HLT.out HV5.out HTM.out).mono ?_
      rintro e wc ⟨rfl, hb⟩
      clear zHN_0 zHN_1
      replace HB := Lib.hid (HB.out.trans (hb.out.mono HB.out.size))
      replace HQ := Lib.hid (HQ.out.below hb.out HQ.out.lt)
      replace HRR := Lib.hid (HRR.out.below hb.out)
      replace HVG := Lib.hid (HVG.out.below hb.out)
      replace HG := Lib.hid (HG.out.below hb.out HG.out.lt)
      replace HV2 := Lib.hid (HV2.out.below hb.out)
      replace HN := Lib.hid (HN.out.below hb.out HN.out.lt)
      replace HV4 := Lib.hid (HV4.out.below hb.out)
      replace HV5 := Lib.hid (HV5.out.below hb.out)
      replace HV6 := Lib.hid (HV6.out.below hb.out)
      replace HV8 := Lib.hid (HV8.out.below hb.out)
      clear hb
      rw [HFI2.out]
      go_wp2_with fail
      refine (lives4_any _).mono ?_
      rintro e wd ⟨rfl, hb⟩
      replace HB := Lib.hid (HB.out.trans (hb.out.mono HB.out.size))
      replace HQ := Lib.hid (HQ.out.below hb.out HQ.out.lt)
      replace HRR := Lib.hid (HRR.out.below hb.out)
      replace HVG := Lib.hid (HVG.out.below hb.out)
      replace HG := Lib.hid (HG.out.below hb.out HG.out.lt)
      replace HV2 := Lib.hid (HV2.out.below hb.out)
      replace HN := Lib.hid (HN.out.below hb.out HN.out.lt)
      replace HV4 := Lib.hid (HV4.out.below hb.out)
      replace HV5 := Lib.hid (HV5.out.below hb.out)
      replace HV6 := Lib.hid (HV6.out.below hb.out)
      replace HV8 := Lib.hid (HV8.out.below hb.out)
      clear hb
      go_wp2_with fail
      go_ret
      exact ⟨rfl, HB.out⟩
    · obtain ⟨df, dt, dm, de⟩ := dn
      simp only at he
      have hq : (de != 0) = true := by simp [he]
      have hb : Below w2.heap.size w2 (w2.alloc (.cells #[.slice A2 n2 c2, .int .i64 (applyK (gk : Int) ⟨df, dt, dm, de⟩)] 24)) := (Below.refl _ _).alloc (Nat.le_refl _) _
      replace HB := Lib.hid (HB.out.trans (hb.mono HB.out.size))
      replace HQ := Lib.hid (HQ.out.below hb HQ.out.lt)
      replace HRR := Lib.hid (HRR.out.below hb)
      replace HVG := Lib.hid (HVG.out.below hb)
      replace HG := Lib.hid (HG.out.below hb HG.out.lt)
      replace HV2 := Lib.hid (HV2.out.below hb)
      clear hb
      generalize applyK (gk : Int) ⟨df, dt, dm, de⟩ = ak at *
      go_wp2_with fail
      refine (lives4_any _).mono ?_
      rintro e w3 ⟨rfl, hb⟩
      replace HB := Lib.hid (HB.out.trans (hb.out.mono HB.out.size))
      clear hb
      go_wp2_with fail
      go_ret
      exact ⟨rfl, HB.out⟩
end Go.Proofs.Yticfhjimbochlaa.schemaTurns
