/-
  The law SchemaApplies walked: the schema behind a change.
-/
import Derived.Test.YticfhjimbochlaaGood4
import Derived.Test.YticfhjimbochlaaApply
import Derived.Test.YticfhjimbochlaaLives4
import Derived.Test.YticfhjimbochlaaSsame
import Derived.Test.YticfhjimbochlaaSrmay
import Derived.Test.YticfhjimbochlaaCut
import Derived.Test.YticfhjimbochlaaAppM
import Derived.Deep.RegionWith
namespace Go.Proofs.Yticfhjimbochlaa.schemaApplies
open Go.RowKit Dg
set_option maxHeartbeats 16000000 in
set_option maxRecDepth 100000 in
theorem walk (A : Option Addr) (n c : Nat) (L : List Cl) (K : Int) (ck : Int) (tn : ByteArray) (A' : Option Addr) (n' c' : Nat) (L' : List Cl) (K' : Int) (cn : ByteArray) (kd : Int) (no : Bool) (w : World) (hn : L.length = n) (hnc : n ≤ c) (hcm : c ≤ maxLen) (hA : CRow w A L) (hf : ∀ x ∈ L, x.fit) (hk0 : -9223372036854775808 ≤ K) (hk1 : K ≤ 9223372036854775807) (hn' : L'.length = n') (hnc' : n' ≤ c') (hcm' : c' ≤ maxLen) (hA' : CRow w A' L') (_hx : cn.size ≤ 140737488355328) :
    Calls Try.prog 4 #[.agg #[.slice A n c, .int .i64 K], .agg #[.int .i64 ck, .string tn, .slice A' n' c', .int .i64 K', .string cn, .int .i64 kd, .bool no]] w fun e w' => e = .returned (.bool true) ∧ Below w.heap.size w w' := by
  have HB := Lib.hid (((Below.refl w.heap.size w).alloc (Nat.le_refl _) (.cells #[.slice A n c, .int .i64 K] 24)).alloc (by simp) (.cells #[.int .i64 ck, .string tn, .slice A' n' c', .int .i64 K', .string cn, .int .i64 kd, .bool no] 35))
  have hq := Has.new (w.alloc (.cells #[.slice A n c, .int .i64 K] 24)) 35 #[.int .i64 ck, .string tn, .slice A' n' c', .int .i64 K', .string cn, .int .i64 kd, .bool no]
  rw [show (w.alloc (.cells #[.slice A n c, .int .i64 K] 24)).heap.size = w.heap.size + 1 by simp] at hq
  have HQ := Lib.hid hq
  have HP := Lib.hid ((Has.new w 24 #[.slice A n c, .int .i64 K]).alloc (.cells #[.int .i64 ck, .string tn, .slice A' n' c', .int .i64 K', .string cn, .int .i64 kd, .bool no] 35))
  have HC1 := Lib.hid (rgood_any A L n c K ((w.alloc (.cells #[.slice A n c, .int .i64 K] 24)).alloc (.cells #[.int .i64 ck, .string tn, .slice A' n' c', .int .i64 K', .string cn, .int .i64 kd, .bool no] 35)) hn hnc hcm (hA.below HB.out) hf hk0 hk1)
  have HCG := Lib.hid (fun (X : World) (hb : Below w.heap.size w X) => rgood_any A L n c K X hn hnc hcm (hA.below hb) hf hk0 hk1)
  have HCF := Lib.hid (fun (X : World) (hb : Below w.heap.size w X) => fewC_any A' L' n' c' K' X hn' hnc' hcm' (hA'.below hb))
  have HGS := Lib.hid (goodS_is L K)
  have hs0 : ((w.alloc (.cells #[.slice A n c, .int .i64 K] 24)).alloc (.cells #[.int .i64 ck, .string tn, .slice A' n' c', .int .i64 K', .string cn, .int .i64 kd, .bool no] 35)).heap.size = w.heap.size + 2 := by simp
  rw [hs0] at HC1
  have HFM := Lib.hid (forty_size cn)
  clear hs0 hq hn hnc hcm hA hf hn' hnc' hcm' hA'
  go_enter Try.func4, Try.ntmps4
  go_wp2_with fail
  refine HC1.out.mono ?_
  rintro e w1 ⟨v1, rfl, ho1, hb⟩
  generalize gdC L K = G at *
  generalize gdK L K = gk at *
  obtain ⟨Ag, ng, cg, rfl, HNG, hngc, hcgm, HVG, HZG⟩ := ownC_open ho1.out
  have hlen := HGS.out.len
  have hkeys := HGS.out.keys
  rw [HNG.out] at hlen hkeys
  obtain ⟨hl1, hl6⟩ := hlen
  obtain ⟨hg1, hgn, hg3⟩ := hkeys
  have hsz : w.heap.size + 2 ≤ w1.heap.size := by have := hb.out.size; simpa using this
  replace HB := Lib.hid (HB.out.trans (hb.out.mono (by simp)))
  replace HQ := Lib.hid (HQ.out.below hb.out (by simp))
  replace HP := Lib.hid (HP.out.below hb.out (by simp))
  have HOG := Lib.hid ho1.out
  clear hb ho1 HC1 HZG HVG
  have hb : Below w1.heap.size w1 (w1.alloc (.cells #[.slice Ag ng cg, .int .i64 gk] 24)) := (Below.refl _ _).alloc (Nat.le_refl _) _
  replace HB := Lib.hid (HB.out.trans (hb.mono HB.out.size))
  replace HQ := Lib.hid (HQ.out.below hb HQ.out.lt)
  replace HP := Lib.hid (HP.out.below hb HP.out.lt)
  replace HOG := Lib.hid (HOG.out.below hb)
  clear hb
  have HG := Lib.hid (Has.new w1 24 #[.slice Ag ng cg, .int .i64 gk])
  have zHQ_0 : (w1.alloc (.cells #[.slice Ag ng cg, .int .i64 gk] 24)).cell? ⟨w.heap.size + 1, 0, none⟩ = some (.int .i64 ck) := HQ.out.cell 0
  have zHQ_1 : (w1.alloc (.cells #[.slice Ag ng cg, .int .i64 gk] 24)).cell? ⟨w.heap.size + 1, 1, none⟩ = some (.string tn) := HQ.out.cell 1
  have zHQ_2 : (w1.alloc (.cells #[.slice Ag ng cg, .int .i64 gk] 24)).cell? ⟨w.heap.size + 1, 2, none⟩ = some (.slice A' n' c') := HQ.out.cell 2
  have zHQ_3 : (w1.alloc (.cells #[.slice Ag ng cg, .int .i64 gk] 24)).cell? ⟨w.heap.size + 1, 3, none⟩ = some (.int .i64 K') := HQ.out.cell 3
  have zHQ_4 : (w1.alloc (.cells #[.slice Ag ng cg, .int .i64 gk] 24)).cell? ⟨w.heap.size + 1, 4, none⟩ = some (.string cn) := HQ.out.cell 4
  have zHQ_5 : (w1.alloc (.cells #[.slice Ag ng cg, .int .i64 gk] 24)).cell? ⟨w.heap.size + 1, 5, none⟩ = some (.int .i64 kd) := HQ.out.cell 5
  have zHQ_6 : (w1.alloc (.cells #[.slice Ag ng cg, .int .i64 gk] 24)).cell? ⟨w.heap.size + 1, 6, none⟩ = some (.bool no) := HQ.out.cell 6
  have y4 : (w1.alloc (.cells #[.slice Ag ng cg, .int .i64 gk] 24)).frozen? ⟨w.heap.size + 1, 4, none⟩ = false := HQ.out.free 4
  by_cases hz : 40 < cn.size
  · have hfm : cn.extract 0 40 = forty cn := by unfold forty; rw [if_pos hz]
    generalize forty cn = fm at *
    replace HB := Lib.hid (HB.out.setCell (p := ⟨w.heap.size + 1, 4, none⟩) (by show w.heap.size ≤ w.heap.size + 1; omega) (.string fm))
    replace HQ := Lib.hid (HQ.out.put 4 (.string fm))
    replace HP := Lib.hid (HP.out.far (p := ⟨w.heap.size + 1, 4, none⟩) (by show w.heap.size ≠ w.heap.size + 1; omega) (.string fm))
    replace HG := Lib.hid (HG.out.far (p := ⟨w.heap.size + 1, 4, none⟩) (by show w1.heap.size ≠ w.heap.size + 1; omega) (.string fm))
    replace HOG := Lib.hid (OwnC.far HOG.out (p := ⟨w.heap.size + 1, 4, none⟩) (by show w.heap.size + 1 < w.heap.size + 2; omega) (.string fm))
    have zHQ_0 : ((w1.alloc (.cells #[.slice Ag ng cg, .int .i64 gk] 24)).setCell ⟨w.heap.size + 1, 4, none⟩ (.string fm)).cell? ⟨w.heap.size + 1, 0, none⟩ = some (.int .i64 ck) := HQ.out.cell 0
    have zHQ_1 : ((w1.alloc (.cells #[.slice Ag ng cg, .int .i64 gk] 24)).setCell ⟨w.heap.size + 1, 4, none⟩ (.string fm)).cell? ⟨w.heap.size + 1, 1, none⟩ = some (.string tn) := HQ.out.cell 1
    have zHQ_2 : ((w1.alloc (.cells #[.slice Ag ng cg, .int .i64 gk] 24)).setCell ⟨w.heap.size + 1, 4, none⟩ (.string fm)).cell? ⟨w.heap.size + 1, 2, none⟩ = some (.slice A' n' c') := HQ.out.cell 2
    have zHQ_3 : ((w1.alloc (.cells #[.slice Ag ng cg, .int .i64 gk] 24)).setCell ⟨w.heap.size + 1, 4, none⟩ (.string fm)).cell? ⟨w.heap.size + 1, 3, none⟩ = some (.int .i64 K') := HQ.out.cell 3
    have zHQ_4 : ((w1.alloc (.cells #[.slice Ag ng cg, .int .i64 gk] 24)).setCell ⟨w.heap.size + 1, 4, none⟩ (.string fm)).cell? ⟨w.heap.size + 1, 4, none⟩ = some (.string fm) := HQ.out.cell 4
    have zHQ_5 : ((w1.alloc (.cells #[.slice Ag ng cg, .int .i64 gk] 24)).setCell ⟨w.heap.size + 1, 4, none⟩ (.string fm)).cell? ⟨w.heap.size + 1, 5, none⟩ = some (.int .i64 kd) := HQ.out.cell 5
    have zHQ_6 : ((w1.alloc (.cells #[.slice Ag ng cg, .int .i64 gk] 24)).setCell ⟨w.heap.size + 1, 4, none⟩ (.string fm)).cell? ⟨w.heap.size + 1, 6, none⟩ = some (.bool no) := HQ.out.cell 6
    go_wp2_with fail
    clear zHQ_0 zHQ_1 zHQ_2 zHQ_3 zHQ_4 zHQ_5 zHQ_6
    obtain ⟨W3, hW1⟩ : ∃ W, W = ((w1.alloc (.cells #[.slice Ag ng cg, .int .i64 gk] 24)).setCell ⟨w.heap.size + 1, 4, none⟩ (.string fm)) := ⟨_, rfl⟩
    rw [← hW1] at HB HQ HP HG HOG ⊢
    clear hW1
    clear hfm y4 zHQ_0 zHQ_1 zHQ_2 zHQ_3 zHQ_4 zHQ_5 zHQ_6
    refine (HCF.out W3 HB.out).mono ?_
    rintro e w2 ⟨v2, rfl, ho2, hb⟩
    replace HB := Lib.hid (HB.out.trans (hb.out.mono HB.out.size))
    replace HQ := Lib.hid (HQ.out.below hb.out HQ.out.lt)
    replace HP := Lib.hid (HP.out.below hb.out HP.out.lt)
    replace HOG := Lib.hid (HOG.out.below hb.out)
    replace HG := Lib.hid (HG.out.below hb.out HG.out.lt)
    obtain ⟨Ac, nc, cc, rfl, _, _, _, _, _⟩ := ownC_open ho2.out
    clear hb ho2
    have zHQ_0 : w2.cell? ⟨w.heap.size + 1, 0, none⟩ = some (.int .i64 ck) := HQ.out.cell 0
    have zHQ_1 : w2.cell? ⟨w.heap.size + 1, 1, none⟩ = some (.string tn) := HQ.out.cell 1
    have zHQ_2 : w2.cell? ⟨w.heap.size + 1, 2, none⟩ = some (.slice A' n' c') := HQ.out.cell 2
    have zHQ_3 : w2.cell? ⟨w.heap.size + 1, 3, none⟩ = some (.int .i64 K') := HQ.out.cell 3
    have zHQ_4 : w2.cell? ⟨w.heap.size + 1, 4, none⟩ = some (.string fm) := HQ.out.cell 4
    have zHQ_5 : w2.cell? ⟨w.heap.size + 1, 5, none⟩ = some (.int .i64 kd) := HQ.out.cell 5
    have zHQ_6 : w2.cell? ⟨w.heap.size + 1, 6, none⟩ = some (.bool no) := HQ.out.cell 6
    have y2 : w2.frozen? ⟨w.heap.size + 1, 2, none⟩ = false := HQ.out.free 2
    have y3 : w2.frozen? ⟨w.heap.size + 1, 3, none⟩ = false := HQ.out.free 3
    replace HB := Lib.hid ((HB.out.setCell (p := ⟨w.heap.size + 1, 2, none⟩) (by show w.heap.size ≤ w.heap.size + 1; omega) (.slice Ac nc cc)).setCell (p := ⟨w.heap.size + 1, 3, none⟩) (by show w.heap.size ≤ w.heap.size + 1; omega) (.int .i64 K'))
    replace HQ := Lib.hid ((HQ.out.put 2 (.slice Ac nc cc)).put 3 (.int .i64 K'))
    replace HP := Lib.hid ((HP.out.far (p := ⟨w.heap.size + 1, 2, none⟩) (by show w.heap.size ≠ w.heap.size + 1; omega) (.slice Ac nc cc)).far (p := ⟨w.heap.size + 1, 3, none⟩) (by show w.heap.size ≠ w.heap.size + 1; omega) (.int .i64 K'))
    replace HG := Lib.hid ((HG.out.far (p := ⟨w.heap.size + 1, 2, none⟩) (by show w1.heap.size ≠ w.heap.size + 1; omega) (.slice Ac nc cc)).far (p := ⟨w.heap.size + 1, 3, none⟩) (by show w1.heap.size ≠ w.heap.size + 1; omega) (.int .i64 K'))
    have HVG := Lib.hid (OwnC.row ((HOG.out.far (p := ⟨w.heap.size + 1, 2, none⟩) (by show w.heap.size + 1 < w.heap.size + 2; omega) (.slice Ac nc cc)).far (p := ⟨w.heap.size + 1, 3, none⟩) (by show w.heap.size + 1 < w.heap.size + 2; omega) (.int .i64 K')) rfl)
    clear HOG
    clear zHQ_0 zHQ_1 zHQ_4 zHQ_5 zHQ_6
    have y5 := zHQ_2
    have y6 := zHQ_3
    clear zHQ_2 zHQ_3
    have zHQ_0 : ((w2.setCell ⟨w.heap.size + 1, 2, none⟩ (.slice Ac nc cc)).setCell ⟨w.heap.size + 1, 3, none⟩ (.int .i64 K')).cell? ⟨w.heap.size + 1, 0, none⟩ = some (.int .i64 ck) := HQ.out.cell 0
    have zHQ_1 : ((w2.setCell ⟨w.heap.size + 1, 2, none⟩ (.slice Ac nc cc)).setCell ⟨w.heap.size + 1, 3, none⟩ (.int .i64 K')).cell? ⟨w.heap.size + 1, 1, none⟩ = some (.string tn) := HQ.out.cell 1
    have zHQ_2 : ((w2.setCell ⟨w.heap.size + 1, 2, none⟩ (.slice Ac nc cc)).setCell ⟨w.heap.size + 1, 3, none⟩ (.int .i64 K')).cell? ⟨w.heap.size + 1, 2, none⟩ = some (.slice Ac nc cc) := HQ.out.cell 2
    have zHQ_3 : ((w2.setCell ⟨w.heap.size + 1, 2, none⟩ (.slice Ac nc cc)).setCell ⟨w.heap.size + 1, 3, none⟩ (.int .i64 K')).cell? ⟨w.heap.size + 1, 3, none⟩ = some (.int .i64 K') := HQ.out.cell 3
    have zHQ_4 : ((w2.setCell ⟨w.heap.size + 1, 2, none⟩ (.slice Ac nc cc)).setCell ⟨w.heap.size + 1, 3, none⟩ (.int .i64 K')).cell? ⟨w.heap.size + 1, 4, none⟩ = some (.string fm) := HQ.out.cell 4
    have zHQ_5 : ((w2.setCell ⟨w.heap.size + 1, 2, none⟩ (.slice Ac nc cc)).setCell ⟨w.heap.size + 1, 3, none⟩ (.int .i64 K')).cell? ⟨w.heap.size + 1, 5, none⟩ = some (.int .i64 kd) := HQ.out.cell 5
    have zHQ_6 : ((w2.setCell ⟨w.heap.size + 1, 2, none⟩ (.slice Ac nc cc)).setCell ⟨w.heap.size + 1, 3, none⟩ (.int .i64 K')).cell? ⟨w.heap.size + 1, 6, none⟩ = some (.bool no) := HQ.out.cell 6
    have zHG_0 : ((w2.setCell ⟨w.heap.size + 1, 2, none⟩ (.slice Ac nc cc)).setCell ⟨w.heap.size + 1, 3, none⟩ (.int .i64 K')).cell? ⟨w1.heap.size, 0, none⟩ = some (.slice Ag ng cg) := HG.out.cell 0
    have zHG_1 : ((w2.setCell ⟨w.heap.size + 1, 2, none⟩ (.slice Ac nc cc)).setCell ⟨w.heap.size + 1, 3, none⟩ (.int .i64 K')).cell? ⟨w1.heap.size, 1, none⟩ = some (.int .i64 gk) := HG.out.cell 1
    go_wp2_with fail
    clear y2 y3 y5 y6 zHQ_0 zHQ_1 zHQ_2 zHQ_3 zHQ_4 zHQ_5 zHQ_6 zHG_0 zHG_1
    obtain ⟨W4, hW1⟩ : ∃ W, W = ((w2.setCell ⟨w.heap.size + 1, 2, none⟩ (.slice Ac nc cc)).setCell ⟨w.heap.size + 1, 3, none⟩ (.int .i64 K')) := ⟨_, rfl⟩
    rw [← hW1] at HB HQ HP HG HVG ⊢
    clear hW1
    have hcnm : fm.size ≤ 140737488355328 := by have := HFM.out; omega
    have zHQ_0 : W4.cell? ⟨w.heap.size + 1, 0, none⟩ = some (.int .i64 ck) := HQ.out.cell 0
    have zHQ_1 : W4.cell? ⟨w.heap.size + 1, 1, none⟩ = some (.string tn) := HQ.out.cell 1
    have zHQ_2 : W4.cell? ⟨w.heap.size + 1, 2, none⟩ = some (.slice Ac nc cc) := HQ.out.cell 2
    have zHQ_3 : W4.cell? ⟨w.heap.size + 1, 3, none⟩ = some (.int .i64 K') := HQ.out.cell 3
    have zHQ_4 : W4.cell? ⟨w.heap.size + 1, 4, none⟩ = some (.string fm) := HQ.out.cell 4
    have zHQ_5 : W4.cell? ⟨w.heap.size + 1, 5, none⟩ = some (.int .i64 kd) := HQ.out.cell 5
    have zHQ_6 : W4.cell? ⟨w.heap.size + 1, 6, none⟩ = some (.bool no) := HQ.out.cell 6
    have zHG_0 : W4.cell? ⟨w1.heap.size, 0, none⟩ = some (.slice Ag ng cg) := HG.out.cell 0
    have zHG_1 : W4.cell? ⟨w1.heap.size, 1, none⟩ = some (.int .i64 gk) := HG.out.cell 1
    refine (apply_any Ag G ng cg gk ck tn Ac nc cc K' fm kd no W4 HNG.out (by omega) (by omega) hngc hcgm hcnm HVG.out).mono ?_
    rintro e w5 ⟨v5, rfl, ho5, hb⟩
    obtain ⟨dn, hdn⟩ : ∃ dn, doesF G gk ck fm kd no = dn := ⟨_, rfl⟩
    rw [hdn] at ho5 ⊢
    have HDN := Lib.hid hdn
    clear hdn
    obtain ⟨M, hM⟩ : ∃ M, applyL G dn fm kd = M := ⟨_, rfl⟩
    rw [hM] at ho5
    have HM := Lib.hid hM
    clear hM
    obtain ⟨ak, hak⟩ : ∃ ak, applyK (gk : Int) dn = ak := ⟨_, rfl⟩
    rw [hak]
    have HAK := Lib.hid hak
    clear hak
    obtain ⟨de, hde⟩ : ∃ de, dn.e = de := ⟨_, rfl⟩
    rw [hde]
    have HDE := Lib.hid hde
    clear hde
    clear zHQ_0 zHQ_1 zHQ_2 zHQ_3 zHQ_4 zHQ_5 zHQ_6 zHG_0 zHG_1
    replace HB := Lib.hid (HB.out.trans (hb.out.mono HB.out.size))
    replace HQ := Lib.hid (HQ.out.below hb.out HQ.out.lt)
    replace HP := Lib.hid (HP.out.below hb.out HP.out.lt)
    replace HG := Lib.hid (HG.out.below hb.out HG.out.lt)
    replace HVG := Lib.hid (HVG.out.below hb.out)
    obtain ⟨A5, n5, c5, rfl, HN5, hnc5, hcm5, HV5, _⟩ := ownC_open ho5.out
    clear hb ho5
    have hn5 : n5 ≤ 7 := by
      rw [← HN5.out, ← HM.out]
      by_cases h0 : dn.e = 0
      · have := (turn_fits (R := rowF G []) (by rw [HNG.out]; omega) (rowF_fits G [] (fun x hx => ⟨(goodS_fit G gk HGS.out x hx).2.1, (goodS_fit G gk HGS.out x hx).2.2.1⟩)) (show (doesF G gk ck fm kd no).e = 0 by rw [HDN.out]; exact h0)).2.2.2
        rw [HDN.out, HNG.out] at this
        omega
      · unfold applyL; rw [if_neg h0]; simp
    have hb : Below w5.heap.size w5 (w5.alloc (.cells #[.slice A5 n5 c5, .int .i64 ak] 24)) := (Below.refl _ _).alloc (Nat.le_refl _) _
    replace HB := Lib.hid (HB.out.trans (hb.mono HB.out.size))
    replace HQ := Lib.hid (HQ.out.below hb HQ.out.lt)
    replace HP := Lib.hid (HP.out.below hb HP.out.lt)
    replace HG := Lib.hid (HG.out.below hb HG.out.lt)
    replace HVG := Lib.hid (HVG.out.below hb)
    replace HV5 := Lib.hid (HV5.out.below hb)
    clear hb
    have Ha := Lib.hid (Has.new w5 24 #[.slice A5 n5 c5, .int .i64 ak])
    have zHQ_0 : (w5.alloc (.cells #[.slice A5 n5 c5, .int .i64 ak] 24)).cell? ⟨w.heap.size + 1, 0, none⟩ = some (.int .i64 ck) := HQ.out.cell 0
    have zHQ_1 : (w5.alloc (.cells #[.slice A5 n5 c5, .int .i64 ak] 24)).cell? ⟨w.heap.size + 1, 1, none⟩ = some (.string tn) := HQ.out.cell 1
    have zHQ_2 : (w5.alloc (.cells #[.slice A5 n5 c5, .int .i64 ak] 24)).cell? ⟨w.heap.size + 1, 2, none⟩ = some (.slice Ac nc cc) := HQ.out.cell 2
    have zHQ_3 : (w5.alloc (.cells #[.slice A5 n5 c5, .int .i64 ak] 24)).cell? ⟨w.heap.size + 1, 3, none⟩ = some (.int .i64 K') := HQ.out.cell 3
    have zHQ_4 : (w5.alloc (.cells #[.slice A5 n5 c5, .int .i64 ak] 24)).cell? ⟨w.heap.size + 1, 4, none⟩ = some (.string fm) := HQ.out.cell 4
    have zHQ_5 : (w5.alloc (.cells #[.slice A5 n5 c5, .int .i64 ak] 24)).cell? ⟨w.heap.size + 1, 5, none⟩ = some (.int .i64 kd) := HQ.out.cell 5
    have zHQ_6 : (w5.alloc (.cells #[.slice A5 n5 c5, .int .i64 ak] 24)).cell? ⟨w.heap.size + 1, 6, none⟩ = some (.bool no) := HQ.out.cell 6
    have zHG_0 : (w5.alloc (.cells #[.slice A5 n5 c5, .int .i64 ak] 24)).cell? ⟨w1.heap.size, 0, none⟩ = some (.slice Ag ng cg) := HG.out.cell 0
    have zHG_1 : (w5.alloc (.cells #[.slice A5 n5 c5, .int .i64 ak] 24)).cell? ⟨w1.heap.size, 1, none⟩ = some (.int .i64 gk) := HG.out.cell 1
    go_wp2_with fail
    clear zHQ_0 zHQ_1 zHQ_2 zHQ_3 zHQ_4 zHQ_5 zHQ_6 zHG_0 zHG_1
    obtain ⟨W6, hW2⟩ : ∃ W, W = (w5.alloc (.cells #[.slice A5 n5 c5, .int .i64 ak] 24)) := ⟨_, rfl⟩
    rw [← hW2] at HB HQ HP HG HVG HV5 Ha ⊢
    clear hW2
    refine (rapply_any Ag G ng cg gk ck tn Ac nc cc K' fm kd no W6 HNG.out (by omega) (by omega) HVG.out).mono ?_
    rintro e w7 ⟨v7, rfl, ho7, hb⟩
    rw [HDN.out, HAK.out, HDE.out]
    rw [HDN.out, HM.out] at ho7
    replace HB := Lib.hid (HB.out.trans (hb.out.mono HB.out.size))
    replace HQ := Lib.hid (HQ.out.below hb.out HQ.out.lt)
    replace HP := Lib.hid (HP.out.below hb.out HP.out.lt)
    replace HG := Lib.hid (HG.out.below hb.out HG.out.lt)
    replace HVG := Lib.hid (HVG.out.below hb.out)
    replace HV5 := Lib.hid (HV5.out.below hb.out)
    replace Ha := Lib.hid (Ha.out.below hb.out Ha.out.lt)
    obtain ⟨A7, n7, c7, rfl, HN7, hnc7, hcm7, HV7, _⟩ := ownC_open ho7.out
    clear hb ho7
    obtain rfl : n5 = n7 := HN5.out.symm.trans HN7.out
    have hb : Below w7.heap.size w7 (w7.alloc (.cells #[.slice A7 n5 c7, .int .i64 ak] 24)) := (Below.refl _ _).alloc (Nat.le_refl _) _
    replace HB := Lib.hid (HB.out.trans (hb.mono HB.out.size))
    replace HQ := Lib.hid (HQ.out.below hb HQ.out.lt)
    replace HP := Lib.hid (HP.out.below hb HP.out.lt)
    replace HG := Lib.hid (HG.out.below hb HG.out.lt)
    replace HVG := Lib.hid (HVG.out.below hb)
    replace HV5 := Lib.hid (HV5.out.below hb)
    replace Ha := Lib.hid (Ha.out.below hb Ha.out.lt)
    replace HV7 := Lib.hid (HV7.out.below hb)
    clear hb
    have Hb := Lib.hid (Has.new w7 24 #[.slice A7 n5 c7, .int .i64 ak])
    go_wp2_with fail
    obtain ⟨W8, hW3⟩ : ∃ W, W = (w7.alloc (.cells #[.slice A7 n5 c7, .int .i64 ak] 24)) := ⟨_, rfl⟩
    rw [← hW3] at HB HQ HP HG HVG HV5 Ha HV7 Hb ⊢
    clear hW3
    clear HQ
    have hd0 : Hid (Below W8.heap.size W8 W8.drew) := (Below.refl _ W8).drew
    have HCS := Lib.hid (fun (X : World) (hb : Below W8.heap.size W8 X) => rsame_any A5 M n5 c5 ak A7 M n5 c7 ak X HN5.out HN5.out (by omega) (by omega) (HV5.out.below hb) (HV7.out.below hb))
    have HCR := Lib.hid (fun (X : World) (hb : Below W8.heap.size W8 X) => rmay_any A5 M n5 c5 ak X HN5.out (by omega) (HV5.out.below hb))
    have HCL := Lib.hid (fun (X : World) => lives4_any X)
    have HMY : Hid (de = 0 → smayF M ak = true) := fun h => by
      have h1 : (doesF G gk ck fm kd no).e = 0 := by rw [HDN.out, HDE.out]; exact h
      have h2 := apply_may HGS.out h1
      rw [HDN.out, HM.out] at h2
      have h3 : ak = gk := by rw [← HAK.out]; exact if_pos (by rw [HDE.out]; exact h)
      rw [h3]; exact h2
    have zHa_0 : W8.cell? ⟨w5.heap.size, 0, none⟩ = some (.slice A5 n5 c5) := Ha.out.cell 0
    have zHa_1 : W8.cell? ⟨w5.heap.size, 1, none⟩ = some (.int .i64 ak) := Ha.out.cell 1
    have zHb_0 : W8.cell? ⟨w7.heap.size, 0, none⟩ = some (.slice A7 n5 c7) := Hb.out.cell 0
    have zHb_1 : W8.cell? ⟨w7.heap.size, 1, none⟩ = some (.int .i64 ak) := Hb.out.cell 1
    have zHG_0 : W8.cell? ⟨w1.heap.size, 0, none⟩ = some (.slice Ag ng cg) := HG.out.cell 0
    have zHG_1 : W8.cell? ⟨w1.heap.size, 1, none⟩ = some (.int .i64 gk) := HG.out.cell 1
    have zHP_0 : W8.cell? ⟨w.heap.size, 0, none⟩ = some (.slice A n c) := HP.out.cell 0
    have zHP_1 : W8.cell? ⟨w.heap.size, 1, none⟩ = some (.int .i64 K) := HP.out.cell 1
    by_cases h0 : de = 0
    · subst h0
      have HM1 : Hid (smayF M ak = true) := HMY.out (by rfl)
      go_region_held3 (fun X => X.cell? ⟨w5.heap.size, 0, none⟩ = some (.slice A5 n5 c5) ∧ X.cell? ⟨w5.heap.size, 1, none⟩ = some (.int .i64 ak) ∧ X.cell? ⟨w7.heap.size, 0, none⟩ = some (.slice A7 n5 c7) ∧ X.cell? ⟨w7.heap.size, 1, none⟩ = some (.int .i64 ak) ∧ X.cell? ⟨w1.heap.size, 0, none⟩ = some (.slice Ag ng cg) ∧ X.cell? ⟨w1.heap.size, 1, none⟩ = some (.int .i64 gk) ∧ X.cell? ⟨w.heap.size, 0, none⟩ = some (.slice A n c) ∧ X.cell? ⟨w.heap.size, 1, none⟩ = some (.int .i64 K)) (go_keep) (first
        | (go_at_call 20; (with_reducible refine (HCS.out _ hd0.out).mono ?_); rintro e x1 ⟨rfl, hb⟩; have hd1 := Lib.hid (hd0.out.trans (hb.out.mono hd0.out.size)); rw [ssF_refl]; have kzHa_0 := keepC hd1.out zHa_0; have kzHa_1 := keepC hd1.out zHa_1; have kzHb_0 := keepC hd1.out zHb_0; have kzHb_1 := keepC hd1.out zHb_1; have kzHG_0 := keepC hd1.out zHG_0; have kzHG_1 := keepC hd1.out zHG_1; have kzHP_0 := keepC hd1.out zHP_0; have kzHP_1 := keepC hd1.out zHP_1; clear hb)
        | (go_at_call 18; (with_reducible refine (HCG.out _ (HB.out.trans (hd2.out.mono HB.out.size))).mono ?_); rintro e x3 ⟨v9, rfl, ho9, hb⟩; have hd3 := Lib.hid (hd2.out.trans (hb.out.mono hd2.out.size)); obtain ⟨A9, n9, c9, rfl, HN9, _, _, HV9, _⟩ := ownC_open ho9.out; obtain rfl : ng = n9 := HNG.out.symm.trans HN9.out; clear ho9 HN9; replace kzHa_0 := keepC hd3.out zHa_0; replace kzHa_1 := keepC hd3.out zHa_1; replace kzHb_0 := keepC hd3.out zHb_0; replace kzHb_1 := keepC hd3.out zHb_1; replace kzHG_0 := keepC hd3.out zHG_0; replace kzHG_1 := keepC hd3.out zHG_1; replace kzHP_0 := keepC hd3.out zHP_0; replace kzHP_1 := keepC hd3.out zHP_1; clear hb)
        | (go_at_call 20; (with_reducible refine (rsame_any Ag G ng cg gk A9 G ng c9 gk _ HNG.out HNG.out (by omega) (by omega) (HVG.out.below hd3.out) HV9.out).mono ?_); rintro e x4 ⟨rfl, hb⟩; have hd4 := Lib.hid (hd3.out.trans (hb.out.mono hd3.out.size)); rw [ssF_refl]; replace kzHa_0 := keepC hd4.out zHa_0; replace kzHa_1 := keepC hd4.out zHa_1; replace kzHb_0 := keepC hd4.out zHb_0; replace kzHb_1 := keepC hd4.out zHb_1; replace kzHG_0 := keepC hd4.out zHG_0; replace kzHG_1 := keepC hd4.out zHG_1; replace kzHP_0 := keepC hd4.out zHP_0; replace kzHP_1 := keepC hd4.out zHP_1; clear hb)
        | (go_at_call 21; (with_reducible refine (HCL.out _).mono ?_); rintro e x5 ⟨rfl, hb⟩; have hd5 := Lib.hid (hd4.out.trans (hb.out.mono hd4.out.size)); replace kzHa_0 := keepC hd5.out zHa_0; replace kzHa_1 := keepC hd5.out zHa_1; replace kzHb_0 := keepC hd5.out zHb_0; replace kzHb_1 := keepC hd5.out zHb_1; replace kzHG_0 := keepC hd5.out zHG_0; replace kzHG_1 := keepC hd5.out zHG_1; replace kzHP_0 := keepC hd5.out zHP_0; replace kzHP_1 := keepC hd5.out zHP_1; clear hb)
        | (go_at_call 14; (with_reducible refine (HCR.out _ hd1.out).mono ?_); rintro e x2 ⟨rfl, hb⟩; have hd2 := Lib.hid (hd1.out.trans (hb.out.mono hd1.out.size)); rw [HM1.out]; replace kzHa_0 := keepC hd2.out zHa_0; replace kzHa_1 := keepC hd2.out zHa_1; replace kzHb_0 := keepC hd2.out zHb_0; replace kzHb_1 := keepC hd2.out zHb_1; replace kzHG_0 := keepC hd2.out zHG_0; replace kzHG_1 := keepC hd2.out zHG_1; replace kzHP_0 := keepC hd2.out zHP_0; replace kzHP_1 := keepC hd2.out zHP_1; clear hb))
      all_goals
        go_wp2_with fail
        go_ret
        exact ⟨rfl, HB.out.trans (hd5.out.mono HB.out.size)⟩
    · have h0q : (de != 0) = true := by simp [h0]
      have h0s : (de == de) = true := by simp
      have hS0 : (fun X => X.cell? ⟨w5.heap.size, 0, none⟩ = some (.slice A5 n5 c5) ∧ X.cell? ⟨w5.heap.size, 1, none⟩ = some (.int .i64 ak) ∧ X.cell? ⟨w7.heap.size, 0, none⟩ = some (.slice A7 n5 c7) ∧ X.cell? ⟨w7.heap.size, 1, none⟩ = some (.int .i64 ak) ∧ X.cell? ⟨w1.heap.size, 0, none⟩ = some (.slice Ag ng cg) ∧ X.cell? ⟨w1.heap.size, 1, none⟩ = some (.int .i64 gk) ∧ X.cell? ⟨w.heap.size, 0, none⟩ = some (.slice A n c) ∧ X.cell? ⟨w.heap.size, 1, none⟩ = some (.int .i64 K)) (World.drew W8) := by
        show _ ∧ _
        go_keep
      refine wp_region_held_drew (S := (fun X => X.cell? ⟨w5.heap.size, 0, none⟩ = some (.slice A5 n5 c5) ∧ X.cell? ⟨w5.heap.size, 1, none⟩ = some (.int .i64 ak) ∧ X.cell? ⟨w7.heap.size, 0, none⟩ = some (.slice A7 n5 c7) ∧ X.cell? ⟨w7.heap.size, 1, none⟩ = some (.int .i64 ak) ∧ X.cell? ⟨w1.heap.size, 0, none⟩ = some (.slice Ag ng cg) ∧ X.cell? ⟨w1.heap.size, 1, none⟩ = some (.int .i64 gk) ∧ X.cell? ⟨w.heap.size, 0, none⟩ = some (.slice A n c) ∧ X.cell? ⟨w.heap.size, 1, none⟩ = some (.int .i64 K))) (by kernel_rfl) hS0 (fun _ => ?_)
      (refine wpAnyH_take (i := 0) (v := ?_) rfl (by kernel_rfl) (by kernel_rfl) (by kernel_rfl) (fun _ _ _ h => h) (Or.inl ⟨by rfl, ?_⟩) (by assumption) ?_; rotate_left; (intro w hSw; (try dsimp only at hSw); go_simp; try with_reducible rfl); (try simp only [List.getElem_toArray, List.getElem_cons_succ, List.getElem_cons_zero, Act.put, List.setIfInBounds_toArray, List.set_cons_zero, List.set_cons_succ]))
      (refine wpAnyH_take (i := 1) (v := ?_) rfl (by kernel_rfl) (by kernel_rfl) (by kernel_rfl) (fun _ _ _ h => h) (Or.inl ⟨by rfl, ?_⟩) (by assumption) ?_; rotate_left; (intro w hSw; (try dsimp only at hSw); go_simp; try with_reducible rfl); (try simp only [List.getElem_toArray, List.getElem_cons_succ, List.getElem_cons_zero, Act.put, List.setIfInBounds_toArray, List.set_cons_zero, List.set_cons_succ]))
      refine wpAnyH_ready (rs := [2]) (by kernel_rfl) (by simp) ?_
      refine AllReadyH.cons rfl (fun K2 hK2 => ?_) AllReadyH.nil
      go_simp
      refine (HCS.out _ hd0.out).mono ?_
      rintro e x1 ⟨rfl, hb⟩
      have hd1 := Lib.hid (hd0.out.trans (hb.out.mono hd0.out.size))
      rw [ssF_refl]
      have kzHa_0 := keepC hd1.out zHa_0
      have kzHa_1 := keepC hd1.out zHa_1
      have kzHb_0 := keepC hd1.out zHb_0
      have kzHb_1 := keepC hd1.out zHb_1
      have kzHG_0 := keepC hd1.out zHG_0
      have kzHG_1 := keepC hd1.out zHG_1
      have kzHP_0 := keepC hd1.out zHP_0
      have kzHP_1 := keepC hd1.out zHP_1
      clear hb
      go_wp2_with fail
      refine hK2.out _ _ (by (try dsimp only); go_keep) (fun _ => ?_)
      clear hK2 K2
      try simp only [List.getElem_toArray, List.getElem_cons_succ, List.getElem_cons_zero, Act.put, List.setIfInBounds_toArray, List.set_cons_zero, List.set_cons_succ]
      (refine wpAnyH_take (i := 3) (v := ?_) rfl (by kernel_rfl) (by kernel_rfl) (by kernel_rfl) (fun _ _ _ h => h) (Or.inl ⟨by rfl, ?_⟩) (by assumption) ?_; rotate_left; (intro w hSw; (try dsimp only at hSw); go_simp; try with_reducible rfl); (try simp only [List.getElem_toArray, List.getElem_cons_succ, List.getElem_cons_zero, Act.put, List.setIfInBounds_toArray, List.set_cons_zero, List.set_cons_succ]))
      (refine wpAnyH_take (i := 4) (v := ?_) rfl (by kernel_rfl) (by kernel_rfl) (by kernel_rfl) (fun _ _ _ h => h) (Or.inl ⟨by rfl, ?_⟩) (by assumption) ?_; rotate_left; (intro w hSw; (try dsimp only at hSw); go_simp; try with_reducible rfl); (try simp only [List.getElem_toArray, List.getElem_cons_succ, List.getElem_cons_zero, Act.put, List.setIfInBounds_toArray, List.set_cons_zero, List.set_cons_succ]))
      (refine wpAnyH_take (i := 5) (v := ?_) rfl (by kernel_rfl) (by kernel_rfl) (by kernel_rfl) (fun _ _ _ h => h) (Or.inl ⟨by rfl, ?_⟩) (by assumption) ?_; rotate_left; (intro w hSw; (try dsimp only at hSw); go_simp; try with_reducible rfl); (try simp only [List.getElem_toArray, List.getElem_cons_succ, List.getElem_cons_zero, Act.put, List.setIfInBounds_toArray, List.set_cons_zero, List.set_cons_succ]))
      (refine wpAnyH_take (i := 6) (v := ?_) rfl (by kernel_rfl) (by kernel_rfl) (by kernel_rfl) (fun _ _ _ h => h) (Or.inl ⟨by rfl, ?_⟩) (by assumption) ?_; rotate_left; (intro w hSw; (try dsimp only at hSw); go_simp; try with_reducible rfl); (try simp only [List.getElem_toArray, List.getElem_cons_succ, List.getElem_cons_zero, Act.put, List.setIfInBounds_toArray, List.set_cons_zero, List.set_cons_succ]))
      (refine wpAnyH_take (i := 7) (v := ?_) rfl (by kernel_rfl) (by kernel_rfl) (by kernel_rfl) (fun _ _ _ h => h) (Or.inl ⟨by rfl, ?_⟩) (by assumption) ?_; rotate_left; (intro w hSw; (try dsimp only at hSw); go_simp; try with_reducible rfl); (try simp only [List.getElem_toArray, List.getElem_cons_succ, List.getElem_cons_zero, Act.put, List.setIfInBounds_toArray, List.set_cons_zero, List.set_cons_succ]))
      (refine wpAnyH_take (i := 8) (v := ?_) rfl (by kernel_rfl) (by kernel_rfl) (by kernel_rfl) (fun _ _ _ h => h) (Or.inl ⟨by rfl, ?_⟩) (by assumption) ?_; rotate_left; (intro w hSw; (try dsimp only at hSw); go_simp; try with_reducible rfl); (try simp only [List.getElem_toArray, List.getElem_cons_succ, List.getElem_cons_zero, Act.put, List.setIfInBounds_toArray, List.set_cons_zero, List.set_cons_succ]))
      (refine wpAnyH_take (i := 9) (v := ?_) rfl (by kernel_rfl) (by kernel_rfl) (by kernel_rfl) (fun _ _ _ h => h) (Or.inl ⟨by rfl, ?_⟩) (by assumption) ?_; rotate_left; (intro w hSw; (try dsimp only at hSw); go_simp; try with_reducible rfl); (try simp only [List.getElem_toArray, List.getElem_cons_succ, List.getElem_cons_zero, Act.put, List.setIfInBounds_toArray, List.set_cons_zero, List.set_cons_succ]))
      (refine wpAnyH_take (i := 10) (v := ?_) rfl (by kernel_rfl) (by kernel_rfl) (by kernel_rfl) (fun _ _ _ h => h) (Or.inl ⟨by rfl, ?_⟩) (by assumption) ?_; rotate_left; (intro w hSw; (try dsimp only at hSw); go_simp; try with_reducible rfl); (try simp only [List.getElem_toArray, List.getElem_cons_succ, List.getElem_cons_zero, Act.put, List.setIfInBounds_toArray, List.set_cons_zero, List.set_cons_succ]))
      (refine wpAnyH_take (i := 11) (v := ?_) rfl (by kernel_rfl) (by kernel_rfl) (by kernel_rfl) (fun _ _ _ h => h) (Or.inl ⟨by rfl, ?_⟩) (by assumption) ?_; rotate_left; (intro w hSw; (try dsimp only at hSw); go_simp; try with_reducible rfl); (try simp only [List.getElem_toArray, List.getElem_cons_succ, List.getElem_cons_zero, Act.put, List.setIfInBounds_toArray, List.set_cons_zero, List.set_cons_succ]))
      (refine wpAnyH_take (i := 12) (v := undef) rfl (by kernel_rfl) (by kernel_rfl) (by kernel_rfl) (fun _ _ _ h => h) (Or.inr ⟨by rfl, rfl⟩) (by assumption) ?_; (try simp only [List.getElem_toArray, List.getElem_cons_succ, List.getElem_cons_zero, Act.put, List.setIfInBounds_toArray, List.set_cons_zero, List.set_cons_succ]))
      (refine wpAnyH_take (i := 13) (v := undef) rfl (by kernel_rfl) (by kernel_rfl) (by kernel_rfl) (fun _ _ _ h => h) (Or.inr ⟨by rfl, rfl⟩) (by assumption) ?_; (try simp only [List.getElem_toArray, List.getElem_cons_succ, List.getElem_cons_zero, Act.put, List.setIfInBounds_toArray, List.set_cons_zero, List.set_cons_succ]))
      (refine wpAnyH_take (i := 14) (v := ?_) rfl (by kernel_rfl) (by kernel_rfl) (by kernel_rfl) (fun _ _ _ h => h) (Or.inl ⟨by rfl, ?_⟩) (by assumption) ?_; rotate_left; (intro w hSw; (try dsimp only at hSw); go_simp; try with_reducible rfl); (try simp only [List.getElem_toArray, List.getElem_cons_succ, List.getElem_cons_zero, Act.put, List.setIfInBounds_toArray, List.set_cons_zero, List.set_cons_succ]))
      (refine wpAnyH_take (i := 15) (v := ?_) rfl (by kernel_rfl) (by kernel_rfl) (by kernel_rfl) (fun _ _ _ h => h) (Or.inl ⟨by rfl, ?_⟩) (by assumption) ?_; rotate_left; (intro w hSw; (try dsimp only at hSw); go_simp; try with_reducible rfl); (try simp only [List.getElem_toArray, List.getElem_cons_succ, List.getElem_cons_zero, Act.put, List.setIfInBounds_toArray, List.set_cons_zero, List.set_cons_succ]))
      (refine wpAnyH_take (i := 16) (v := ?_) rfl (by kernel_rfl) (by kernel_rfl) (by kernel_rfl) (fun _ _ _ h => h) (Or.inl ⟨by rfl, ?_⟩) (by assumption) ?_; rotate_left; (intro w hSw; (try dsimp only at hSw); go_simp; try with_reducible rfl); (try simp only [List.getElem_toArray, List.getElem_cons_succ, List.getElem_cons_zero, Act.put, List.setIfInBounds_toArray, List.set_cons_zero, List.set_cons_succ]))
      (refine wpAnyH_take (i := 17) (v := ?_) rfl (by kernel_rfl) (by kernel_rfl) (by kernel_rfl) (fun _ _ _ h => h) (Or.inl ⟨by rfl, ?_⟩) (by assumption) ?_; rotate_left; (intro w hSw; (try dsimp only at hSw); go_simp; try with_reducible rfl); (try simp only [List.getElem_toArray, List.getElem_cons_succ, List.getElem_cons_zero, Act.put, List.setIfInBounds_toArray, List.set_cons_zero, List.set_cons_succ]))
      (refine wpAnyH_take (i := 18) (v := ?_) rfl (by kernel_rfl) (by kernel_rfl) (by kernel_rfl) (fun _ _ _ h => h) (Or.inl ⟨by rfl, ?_⟩) (by assumption) ?_; rotate_left; (intro w hSw; (try dsimp only at hSw); go_simp; try with_reducible rfl); (try simp only [List.getElem_toArray, List.getElem_cons_succ, List.getElem_cons_zero, Act.put, List.setIfInBounds_toArray, List.set_cons_zero, List.set_cons_succ]))
      refine wpAnyH_ready (rs := [19]) (by kernel_rfl) (by simp) ?_
      refine AllReadyH.cons rfl (fun K2 hK2 => ?_) AllReadyH.nil
      go_simp
      refine (HCG.out _ (HB.out.trans (hd1.out.mono HB.out.size))).mono ?_
      rintro e x2 ⟨v9, rfl, ho9, hb⟩
      have hd2 := Lib.hid (hd1.out.trans (hb.out.mono hd1.out.size))
      obtain ⟨A9, n9, c9, rfl, HN9, _, _, HV9, _⟩ := ownC_open ho9.out
      obtain rfl : ng = n9 := HNG.out.symm.trans HN9.out
      clear ho9 HN9
      replace kzHa_0 := keepC hd2.out zHa_0
      replace kzHa_1 := keepC hd2.out zHa_1
      replace kzHb_0 := keepC hd2.out zHb_0
      replace kzHb_1 := keepC hd2.out zHb_1
      replace kzHG_0 := keepC hd2.out zHG_0
      replace kzHG_1 := keepC hd2.out zHG_1
      replace kzHP_0 := keepC hd2.out zHP_0
      replace kzHP_1 := keepC hd2.out zHP_1
      clear hb
      go_wp2_with fail
      refine hK2.out _ _ (by (try dsimp only); go_keep) (fun _ => ?_)
      clear hK2 K2
      try simp only [List.getElem_toArray, List.getElem_cons_succ, List.getElem_cons_zero, Act.put, List.setIfInBounds_toArray, List.set_cons_zero, List.set_cons_succ]
      refine wpAnyH_ready (rs := [20]) (by kernel_rfl) (by simp) ?_
      refine AllReadyH.cons rfl (fun K2 hK2 => ?_) AllReadyH.nil
      go_simp
      refine (rsame_any Ag G ng cg gk A9 G ng c9 gk _ HNG.out HNG.out (by omega) (by omega) (HVG.out.below hd2.out) HV9.out).mono ?_
      rintro e x3 ⟨rfl, hb⟩
      have hd3 := Lib.hid (hd2.out.trans (hb.out.mono hd2.out.size))
      rw [ssF_refl]
      replace kzHa_0 := keepC hd3.out zHa_0
      replace kzHa_1 := keepC hd3.out zHa_1
      replace kzHb_0 := keepC hd3.out zHb_0
      replace kzHb_1 := keepC hd3.out zHb_1
      replace kzHG_0 := keepC hd3.out zHG_0
      replace kzHG_1 := keepC hd3.out zHG_1
      replace kzHP_0 := keepC hd3.out zHP_0
      replace kzHP_1 := keepC hd3.out zHP_1
      clear hb
      go_wp2_with fail
      refine hK2.out _ _ (by (try dsimp only); go_keep) (fun _ => ?_)
      clear hK2 K2
      try simp only [List.getElem_toArray, List.getElem_cons_succ, List.getElem_cons_zero, Act.put, List.setIfInBounds_toArray, List.set_cons_zero, List.set_cons_succ]
      (refine wpAnyH_take (i := 21) (v := ?_) rfl (by kernel_rfl) (by kernel_rfl) (by kernel_rfl) (fun _ _ _ h => h) (Or.inl ⟨by rfl, ?_⟩) (by assumption) ?_; rotate_left; (intro w hSw; (try dsimp only at hSw); go_simp; try with_reducible rfl); (try simp only [List.getElem_toArray, List.getElem_cons_succ, List.getElem_cons_zero, Act.put, List.setIfInBounds_toArray, List.set_cons_zero, List.set_cons_succ]))
      (refine wpAnyH_take (i := 22) (v := ?_) rfl (by kernel_rfl) (by kernel_rfl) (by kernel_rfl) (fun _ _ _ h => h) (Or.inl ⟨by rfl, ?_⟩) (by assumption) ?_; rotate_left; (intro w hSw; (try dsimp only at hSw); go_simp; try with_reducible rfl); (try simp only [List.getElem_toArray, List.getElem_cons_succ, List.getElem_cons_zero, Act.put, List.setIfInBounds_toArray, List.set_cons_zero, List.set_cons_succ]))
      refine wpAnyH_ready (rs := [23]) (by kernel_rfl) (by simp) ?_
      refine AllReadyH.cons rfl (fun K2 hK2 => ?_) AllReadyH.nil
      go_simp
      refine (HCL.out _).mono ?_
      rintro e x4 ⟨rfl, hb⟩
      have hd4 := Lib.hid (hd3.out.trans (hb.out.mono hd3.out.size))
      skip
      replace kzHa_0 := keepC hd4.out zHa_0
      replace kzHa_1 := keepC hd4.out zHa_1
      replace kzHb_0 := keepC hd4.out zHb_0
      replace kzHb_1 := keepC hd4.out zHb_1
      replace kzHG_0 := keepC hd4.out zHG_0
      replace kzHG_1 := keepC hd4.out zHG_1
      replace kzHP_0 := keepC hd4.out zHP_0
      replace kzHP_1 := keepC hd4.out zHP_1
      clear hb
      go_wp2_with fail
      refine hK2.out _ _ (by (try dsimp only); go_keep) (fun _ => ?_)
      clear hK2 K2
      try simp only [List.getElem_toArray, List.getElem_cons_succ, List.getElem_cons_zero, Act.put, List.setIfInBounds_toArray, List.set_cons_zero, List.set_cons_succ]
      (refine wpAnyH_take (i := 24) (v := ?_) rfl (by kernel_rfl) (by kernel_rfl) (by kernel_rfl) (fun _ _ _ h => h) (Or.inl ⟨by rfl, ?_⟩) (by assumption) ?_; rotate_left; (intro w hSw; (try dsimp only at hSw); go_simp; try with_reducible rfl); (try simp only [List.getElem_toArray, List.getElem_cons_succ, List.getElem_cons_zero, Act.put, List.setIfInBounds_toArray, List.set_cons_zero, List.set_cons_succ]))
      (refine wpAnyH_take (i := 25) (v := ?_) rfl (by kernel_rfl) (by kernel_rfl) (by kernel_rfl) (fun _ _ _ h => h) (Or.inl ⟨by rfl, ?_⟩) (by assumption) ?_; rotate_left; (intro w hSw; (try dsimp only at hSw); go_simp; try with_reducible rfl); (try simp only [List.getElem_toArray, List.getElem_cons_succ, List.getElem_cons_zero, Act.put, List.setIfInBounds_toArray, List.set_cons_zero, List.set_cons_succ]))
      refine wpAnyH_done (by kernel_rfl) ?_ _
      go_wp2_with fail
      go_ret
      exact ⟨rfl, HB.out.trans (hd4.out.mono HB.out.size)⟩
  · have hfm : forty cn = cn := by unfold forty; rw [if_neg hz]
    rw [hfm] at HFM
    clear hfm y4
    go_wp2_with fail
    clear zHQ_0 zHQ_1 zHQ_2 zHQ_3 zHQ_4 zHQ_5 zHQ_6
    obtain ⟨fm, hfm2⟩ : ∃ fm, fm = cn := ⟨_, rfl⟩
    subst hfm2
    obtain ⟨W3, hW1⟩ : ∃ W, W = (w1.alloc (.cells #[.slice Ag ng cg, .int .i64 gk] 24)) := ⟨_, rfl⟩
    rw [← hW1] at HB HQ HP HG HOG ⊢
    clear hW1
    refine (HCF.out W3 HB.out).mono ?_
    rintro e w2 ⟨v2, rfl, ho2, hb⟩
    replace HB := Lib.hid (HB.out.trans (hb.out.mono HB.out.size))
    replace HQ := Lib.hid (HQ.out.below hb.out HQ.out.lt)
    replace HP := Lib.hid (HP.out.below hb.out HP.out.lt)
    replace HOG := Lib.hid (HOG.out.below hb.out)
    replace HG := Lib.hid (HG.out.below hb.out HG.out.lt)
    obtain ⟨Ac, nc, cc, rfl, _, _, _, _, _⟩ := ownC_open ho2.out
    clear hb ho2
    have zHQ_0 : w2.cell? ⟨w.heap.size + 1, 0, none⟩ = some (.int .i64 ck) := HQ.out.cell 0
    have zHQ_1 : w2.cell? ⟨w.heap.size + 1, 1, none⟩ = some (.string tn) := HQ.out.cell 1
    have zHQ_2 : w2.cell? ⟨w.heap.size + 1, 2, none⟩ = some (.slice A' n' c') := HQ.out.cell 2
    have zHQ_3 : w2.cell? ⟨w.heap.size + 1, 3, none⟩ = some (.int .i64 K') := HQ.out.cell 3
    have zHQ_4 : w2.cell? ⟨w.heap.size + 1, 4, none⟩ = some (.string fm) := HQ.out.cell 4
    have zHQ_5 : w2.cell? ⟨w.heap.size + 1, 5, none⟩ = some (.int .i64 kd) := HQ.out.cell 5
    have zHQ_6 : w2.cell? ⟨w.heap.size + 1, 6, none⟩ = some (.bool no) := HQ.out.cell 6
    have y2 : w2.frozen? ⟨w.heap.size + 1, 2, none⟩ = false := HQ.out.free 2
    have y3 : w2.frozen? ⟨w.heap.size + 1, 3, none⟩ = false := HQ.out.free 3
    replace HB := Lib.hid ((HB.out.setCell (p := ⟨w.heap.size + 1, 2, none⟩) (by show w.heap.size ≤ w.heap.size + 1; omega) (.slice Ac nc cc)).setCell (p := ⟨w.heap.size + 1, 3, none⟩) (by show w.heap.size ≤ w.heap.size + 1; omega) (.int .i64 K'))
    replace HQ := Lib.hid ((HQ.out.put 2 (.slice Ac nc cc)).put 3 (.int .i64 K'))
    replace HP := Lib.hid ((HP.out.far (p := ⟨w.heap.size + 1, 2, none⟩) (by show w.heap.size ≠ w.heap.size + 1; omega) (.slice Ac nc cc)).far (p := ⟨w.heap.size + 1, 3, none⟩) (by show w.heap.size ≠ w.heap.size + 1; omega) (.int .i64 K'))
    replace HG := Lib.hid ((HG.out.far (p := ⟨w.heap.size + 1, 2, none⟩) (by show w1.heap.size ≠ w.heap.size + 1; omega) (.slice Ac nc cc)).far (p := ⟨w.heap.size + 1, 3, none⟩) (by show w1.heap.size ≠ w.heap.size + 1; omega) (.int .i64 K'))
    have HVG := Lib.hid (OwnC.row ((HOG.out.far (p := ⟨w.heap.size + 1, 2, none⟩) (by show w.heap.size + 1 < w.heap.size + 2; omega) (.slice Ac nc cc)).far (p := ⟨w.heap.size + 1, 3, none⟩) (by show w.heap.size + 1 < w.heap.size + 2; omega) (.int .i64 K')) rfl)
    clear HOG
    clear zHQ_0 zHQ_1 zHQ_4 zHQ_5 zHQ_6
    have y5 := zHQ_2
    have y6 := zHQ_3
    clear zHQ_2 zHQ_3
    have zHQ_0 : ((w2.setCell ⟨w.heap.size + 1, 2, none⟩ (.slice Ac nc cc)).setCell ⟨w.heap.size + 1, 3, none⟩ (.int .i64 K')).cell? ⟨w.heap.size + 1, 0, none⟩ = some (.int .i64 ck) := HQ.out.cell 0
    have zHQ_1 : ((w2.setCell ⟨w.heap.size + 1, 2, none⟩ (.slice Ac nc cc)).setCell ⟨w.heap.size + 1, 3, none⟩ (.int .i64 K')).cell? ⟨w.heap.size + 1, 1, none⟩ = some (.string tn) := HQ.out.cell 1
    have zHQ_2 : ((w2.setCell ⟨w.heap.size + 1, 2, none⟩ (.slice Ac nc cc)).setCell ⟨w.heap.size + 1, 3, none⟩ (.int .i64 K')).cell? ⟨w.heap.size + 1, 2, none⟩ = some (.slice Ac nc cc) := HQ.out.cell 2
    have zHQ_3 : ((w2.setCell ⟨w.heap.size + 1, 2, none⟩ (.slice Ac nc cc)).setCell ⟨w.heap.size + 1, 3, none⟩ (.int .i64 K')).cell? ⟨w.heap.size + 1, 3, none⟩ = some (.int .i64 K') := HQ.out.cell 3
    have zHQ_4 : ((w2.setCell ⟨w.heap.size + 1, 2, none⟩ (.slice Ac nc cc)).setCell ⟨w.heap.size + 1, 3, none⟩ (.int .i64 K')).cell? ⟨w.heap.size + 1, 4, none⟩ = some (.string fm) := HQ.out.cell 4
    have zHQ_5 : ((w2.setCell ⟨w.heap.size + 1, 2, none⟩ (.slice Ac nc cc)).setCell ⟨w.heap.size + 1, 3, none⟩ (.int .i64 K')).cell? ⟨w.heap.size + 1, 5, none⟩ = some (.int .i64 kd) := HQ.out.cell 5
    have zHQ_6 : ((w2.setCell ⟨w.heap.size + 1, 2, none⟩ (.slice Ac nc cc)).setCell ⟨w.heap.size + 1, 3, none⟩ (.int .i64 K')).cell? ⟨w.heap.size + 1, 6, none⟩ = some (.bool no) := HQ.out.cell 6
    have zHG_0 : ((w2.setCell ⟨w.heap.size + 1, 2, none⟩ (.slice Ac nc cc)).setCell ⟨w.heap.size + 1, 3, none⟩ (.int .i64 K')).cell? ⟨w1.heap.size, 0, none⟩ = some (.slice Ag ng cg) := HG.out.cell 0
    have zHG_1 : ((w2.setCell ⟨w.heap.size + 1, 2, none⟩ (.slice Ac nc cc)).setCell ⟨w.heap.size + 1, 3, none⟩ (.int .i64 K')).cell? ⟨w1.heap.size, 1, none⟩ = some (.int .i64 gk) := HG.out.cell 1
    go_wp2_with fail
    clear y2 y3 y5 y6 zHQ_0 zHQ_1 zHQ_2 zHQ_3 zHQ_4 zHQ_5 zHQ_6 zHG_0 zHG_1
    obtain ⟨W4, hW1⟩ : ∃ W, W = ((w2.setCell ⟨w.heap.size + 1, 2, none⟩ (.slice Ac nc cc)).setCell ⟨w.heap.size + 1, 3, none⟩ (.int .i64 K')) := ⟨_, rfl⟩
    rw [← hW1] at HB HQ HP HG HVG ⊢
    clear hW1
    have hcnm : fm.size ≤ 140737488355328 := by have := HFM.out; omega
    have zHQ_0 : W4.cell? ⟨w.heap.size + 1, 0, none⟩ = some (.int .i64 ck) := HQ.out.cell 0
    have zHQ_1 : W4.cell? ⟨w.heap.size + 1, 1, none⟩ = some (.string tn) := HQ.out.cell 1
    have zHQ_2 : W4.cell? ⟨w.heap.size + 1, 2, none⟩ = some (.slice Ac nc cc) := HQ.out.cell 2
    have zHQ_3 : W4.cell? ⟨w.heap.size + 1, 3, none⟩ = some (.int .i64 K') := HQ.out.cell 3
    have zHQ_4 : W4.cell? ⟨w.heap.size + 1, 4, none⟩ = some (.string fm) := HQ.out.cell 4
    have zHQ_5 : W4.cell? ⟨w.heap.size + 1, 5, none⟩ = some (.int .i64 kd) := HQ.out.cell 5
    have zHQ_6 : W4.cell? ⟨w.heap.size + 1, 6, none⟩ = some (.bool no) := HQ.out.cell 6
    have zHG_0 : W4.cell? ⟨w1.heap.size, 0, none⟩ = some (.slice Ag ng cg) := HG.out.cell 0
    have zHG_1 : W4.cell? ⟨w1.heap.size, 1, none⟩ = some (.int .i64 gk) := HG.out.cell 1
    refine (apply_any Ag G ng cg gk ck tn Ac nc cc K' fm kd no W4 HNG.out (by omega) (by omega) hngc hcgm hcnm HVG.out).mono ?_
    rintro e w5 ⟨v5, rfl, ho5, hb⟩
    obtain ⟨dn, hdn⟩ : ∃ dn, doesF G gk ck fm kd no = dn := ⟨_, rfl⟩
    rw [hdn] at ho5 ⊢
    have HDN := Lib.hid hdn
    clear hdn
    obtain ⟨M, hM⟩ : ∃ M, applyL G dn fm kd = M := ⟨_, rfl⟩
    rw [hM] at ho5
    have HM := Lib.hid hM
    clear hM
    obtain ⟨ak, hak⟩ : ∃ ak, applyK (gk : Int) dn = ak := ⟨_, rfl⟩
    rw [hak]
    have HAK := Lib.hid hak
    clear hak
    obtain ⟨de, hde⟩ : ∃ de, dn.e = de := ⟨_, rfl⟩
    rw [hde]
    have HDE := Lib.hid hde
    clear hde
    clear zHQ_0 zHQ_1 zHQ_2 zHQ_3 zHQ_4 zHQ_5 zHQ_6 zHG_0 zHG_1
    replace HB := Lib.hid (HB.out.trans (hb.out.mono HB.out.size))
    replace HQ := Lib.hid (HQ.out.below hb.out HQ.out.lt)
    replace HP := Lib.hid (HP.out.below hb.out HP.out.lt)
    replace HG := Lib.hid (HG.out.below hb.out HG.out.lt)
    replace HVG := Lib.hid (HVG.out.below hb.out)
    obtain ⟨A5, n5, c5, rfl, HN5, hnc5, hcm5, HV5, _⟩ := ownC_open ho5.out
    clear hb ho5
    have hn5 : n5 ≤ 7 := by
      rw [← HN5.out, ← HM.out]
      by_cases h0 : dn.e = 0
      · have := (turn_fits (R := rowF G []) (by rw [HNG.out]; omega) (rowF_fits G [] (fun x hx => ⟨(goodS_fit G gk HGS.out x hx).2.1, (goodS_fit G gk HGS.out x hx).2.2.1⟩)) (show (doesF G gk ck fm kd no).e = 0 by rw [HDN.out]; exact h0)).2.2.2
        rw [HDN.out, HNG.out] at this
        omega
      · unfold applyL; rw [if_neg h0]; simp
    have hb : Below w5.heap.size w5 (w5.alloc (.cells #[.slice A5 n5 c5, .int .i64 ak] 24)) := (Below.refl _ _).alloc (Nat.le_refl _) _
    replace HB := Lib.hid (HB.out.trans (hb.mono HB.out.size))
    replace HQ := Lib.hid (HQ.out.below hb HQ.out.lt)
    replace HP := Lib.hid (HP.out.below hb HP.out.lt)
    replace HG := Lib.hid (HG.out.below hb HG.out.lt)
    replace HVG := Lib.hid (HVG.out.below hb)
    replace HV5 := Lib.hid (HV5.out.below hb)
    clear hb
    have Ha := Lib.hid (Has.new w5 24 #[.slice A5 n5 c5, .int .i64 ak])
    have zHQ_0 : (w5.alloc (.cells #[.slice A5 n5 c5, .int .i64 ak] 24)).cell? ⟨w.heap.size + 1, 0, none⟩ = some (.int .i64 ck) := HQ.out.cell 0
    have zHQ_1 : (w5.alloc (.cells #[.slice A5 n5 c5, .int .i64 ak] 24)).cell? ⟨w.heap.size + 1, 1, none⟩ = some (.string tn) := HQ.out.cell 1
    have zHQ_2 : (w5.alloc (.cells #[.slice A5 n5 c5, .int .i64 ak] 24)).cell? ⟨w.heap.size + 1, 2, none⟩ = some (.slice Ac nc cc) := HQ.out.cell 2
    have zHQ_3 : (w5.alloc (.cells #[.slice A5 n5 c5, .int .i64 ak] 24)).cell? ⟨w.heap.size + 1, 3, none⟩ = some (.int .i64 K') := HQ.out.cell 3
    have zHQ_4 : (w5.alloc (.cells #[.slice A5 n5 c5, .int .i64 ak] 24)).cell? ⟨w.heap.size + 1, 4, none⟩ = some (.string fm) := HQ.out.cell 4
    have zHQ_5 : (w5.alloc (.cells #[.slice A5 n5 c5, .int .i64 ak] 24)).cell? ⟨w.heap.size + 1, 5, none⟩ = some (.int .i64 kd) := HQ.out.cell 5
    have zHQ_6 : (w5.alloc (.cells #[.slice A5 n5 c5, .int .i64 ak] 24)).cell? ⟨w.heap.size + 1, 6, none⟩ = some (.bool no) := HQ.out.cell 6
    have zHG_0 : (w5.alloc (.cells #[.slice A5 n5 c5, .int .i64 ak] 24)).cell? ⟨w1.heap.size, 0, none⟩ = some (.slice Ag ng cg) := HG.out.cell 0
    have zHG_1 : (w5.alloc (.cells #[.slice A5 n5 c5, .int .i64 ak] 24)).cell? ⟨w1.heap.size, 1, none⟩ = some (.int .i64 gk) := HG.out.cell 1
    go_wp2_with fail
    clear zHQ_0 zHQ_1 zHQ_2 zHQ_3 zHQ_4 zHQ_5 zHQ_6 zHG_0 zHG_1
    obtain ⟨W6, hW2⟩ : ∃ W, W = (w5.alloc (.cells #[.slice A5 n5 c5, .int .i64 ak] 24)) := ⟨_, rfl⟩
    rw [← hW2] at HB HQ HP HG HVG HV5 Ha ⊢
    clear hW2
    refine (rapply_any Ag G ng cg gk ck tn Ac nc cc K' fm kd no W6 HNG.out (by omega) (by omega) HVG.out).mono ?_
    rintro e w7 ⟨v7, rfl, ho7, hb⟩
    rw [HDN.out, HAK.out, HDE.out]
    rw [HDN.out, HM.out] at ho7
    replace HB := Lib.hid (HB.out.trans (hb.out.mono HB.out.size))
    replace HQ := Lib.hid (HQ.out.below hb.out HQ.out.lt)
    replace HP := Lib.hid (HP.out.below hb.out HP.out.lt)
    replace HG := Lib.hid (HG.out.below hb.out HG.out.lt)
    replace HVG := Lib.hid (HVG.out.below hb.out)
    replace HV5 := Lib.hid (HV5.out.below hb.out)
    replace Ha := Lib.hid (Ha.out.below hb.out Ha.out.lt)
    obtain ⟨A7, n7, c7, rfl, HN7, hnc7, hcm7, HV7, _⟩ := ownC_open ho7.out
    clear hb ho7
    obtain rfl : n5 = n7 := HN5.out.symm.trans HN7.out
    have hb : Below w7.heap.size w7 (w7.alloc (.cells #[.slice A7 n5 c7, .int .i64 ak] 24)) := (Below.refl _ _).alloc (Nat.le_refl _) _
    replace HB := Lib.hid (HB.out.trans (hb.mono HB.out.size))
    replace HQ := Lib.hid (HQ.out.below hb HQ.out.lt)
    replace HP := Lib.hid (HP.out.below hb HP.out.lt)
    replace HG := Lib.hid (HG.out.below hb HG.out.lt)
    replace HVG := Lib.hid (HVG.out.below hb)
    replace HV5 := Lib.hid (HV5.out.below hb)
    replace Ha := Lib.hid (Ha.out.below hb Ha.out.lt)
    replace HV7 := Lib.hid (HV7.out.below hb)
    clear hb
    have Hb := Lib.hid (Has.new w7 24 #[.slice A7 n5 c7, .int .i64 ak])
    go_wp2_with fail
    obtain ⟨W8, hW3⟩ : ∃ W, W = (w7.alloc (.cells #[.slice A7 n5 c7, .int .i64 ak] 24)) := ⟨_, rfl⟩
    rw [← hW3] at HB HQ HP HG HVG HV5 Ha HV7 Hb ⊢
    clear hW3
    clear HQ
    have hd0 : Hid (Below W8.heap.size W8 W8.drew) := (Below.refl _ W8).drew
    have HCS := Lib.hid (fun (X : World) (hb : Below W8.heap.size W8 X) => rsame_any A5 M n5 c5 ak A7 M n5 c7 ak X HN5.out HN5.out (by omega) (by omega) (HV5.out.below hb) (HV7.out.below hb))
    have HCR := Lib.hid (fun (X : World) (hb : Below W8.heap.size W8 X) => rmay_any A5 M n5 c5 ak X HN5.out (by omega) (HV5.out.below hb))
    have HCL := Lib.hid (fun (X : World) => lives4_any X)
    have HMY : Hid (de = 0 → smayF M ak = true) := fun h => by
      have h1 : (doesF G gk ck fm kd no).e = 0 := by rw [HDN.out, HDE.out]; exact h
      have h2 := apply_may HGS.out h1
      rw [HDN.out, HM.out] at h2
      have h3 : ak = gk := by rw [← HAK.out]; exact if_pos (by rw [HDE.out]; exact h)
      rw [h3]; exact h2
    have zHa_0 : W8.cell? ⟨w5.heap.size, 0, none⟩ = some (.slice A5 n5 c5) := Ha.out.cell 0
    have zHa_1 : W8.cell? ⟨w5.heap.size, 1, none⟩ = some (.int .i64 ak) := Ha.out.cell 1
    have zHb_0 : W8.cell? ⟨w7.heap.size, 0, none⟩ = some (.slice A7 n5 c7) := Hb.out.cell 0
    have zHb_1 : W8.cell? ⟨w7.heap.size, 1, none⟩ = some (.int .i64 ak) := Hb.out.cell 1
    have zHG_0 : W8.cell? ⟨w1.heap.size, 0, none⟩ = some (.slice Ag ng cg) := HG.out.cell 0
    have zHG_1 : W8.cell? ⟨w1.heap.size, 1, none⟩ = some (.int .i64 gk) := HG.out.cell 1
    have zHP_0 : W8.cell? ⟨w.heap.size, 0, none⟩ = some (.slice A n c) := HP.out.cell 0
    have zHP_1 : W8.cell? ⟨w.heap.size, 1, none⟩ = some (.int .i64 K) := HP.out.cell 1
    by_cases h0 : de = 0
    · subst h0
      have HM1 : Hid (smayF M ak = true) := HMY.out (by rfl)
      go_region_held3 (fun X => X.cell? ⟨w5.heap.size, 0, none⟩ = some (.slice A5 n5 c5) ∧ X.cell? ⟨w5.heap.size, 1, none⟩ = some (.int .i64 ak) ∧ X.cell? ⟨w7.heap.size, 0, none⟩ = some (.slice A7 n5 c7) ∧ X.cell? ⟨w7.heap.size, 1, none⟩ = some (.int .i64 ak) ∧ X.cell? ⟨w1.heap.size, 0, none⟩ = some (.slice Ag ng cg) ∧ X.cell? ⟨w1.heap.size, 1, none⟩ = some (.int .i64 gk) ∧ X.cell? ⟨w.heap.size, 0, none⟩ = some (.slice A n c) ∧ X.cell? ⟨w.heap.size, 1, none⟩ = some (.int .i64 K)) (go_keep) (first
        | (go_at_call 20; (with_reducible refine (HCS.out _ hd0.out).mono ?_); rintro e x1 ⟨rfl, hb⟩; have hd1 := Lib.hid (hd0.out.trans (hb.out.mono hd0.out.size)); rw [ssF_refl]; have kzHa_0 := keepC hd1.out zHa_0; have kzHa_1 := keepC hd1.out zHa_1; have kzHb_0 := keepC hd1.out zHb_0; have kzHb_1 := keepC hd1.out zHb_1; have kzHG_0 := keepC hd1.out zHG_0; have kzHG_1 := keepC hd1.out zHG_1; have kzHP_0 := keepC hd1.out zHP_0; have kzHP_1 := keepC hd1.out zHP_1; clear hb)
        | (go_at_call 18; (with_reducible refine (HCG.out _ (HB.out.trans (hd2.out.mono HB.out.size))).mono ?_); rintro e x3 ⟨v9, rfl, ho9, hb⟩; have hd3 := Lib.hid (hd2.out.trans (hb.out.mono hd2.out.size)); obtain ⟨A9, n9, c9, rfl, HN9, _, _, HV9, _⟩ := ownC_open ho9.out; obtain rfl : ng = n9 := HNG.out.symm.trans HN9.out; clear ho9 HN9; replace kzHa_0 := keepC hd3.out zHa_0; replace kzHa_1 := keepC hd3.out zHa_1; replace kzHb_0 := keepC hd3.out zHb_0; replace kzHb_1 := keepC hd3.out zHb_1; replace kzHG_0 := keepC hd3.out zHG_0; replace kzHG_1 := keepC hd3.out zHG_1; replace kzHP_0 := keepC hd3.out zHP_0; replace kzHP_1 := keepC hd3.out zHP_1; clear hb)
        | (go_at_call 20; (with_reducible refine (rsame_any Ag G ng cg gk A9 G ng c9 gk _ HNG.out HNG.out (by omega) (by omega) (HVG.out.below hd3.out) HV9.out).mono ?_); rintro e x4 ⟨rfl, hb⟩; have hd4 := Lib.hid (hd3.out.trans (hb.out.mono hd3.out.size)); rw [ssF_refl]; replace kzHa_0 := keepC hd4.out zHa_0; replace kzHa_1 := keepC hd4.out zHa_1; replace kzHb_0 := keepC hd4.out zHb_0; replace kzHb_1 := keepC hd4.out zHb_1; replace kzHG_0 := keepC hd4.out zHG_0; replace kzHG_1 := keepC hd4.out zHG_1; replace kzHP_0 := keepC hd4.out zHP_0; replace kzHP_1 := keepC hd4.out zHP_1; clear hb)
        | (go_at_call 21; (with_reducible refine (HCL.out _).mono ?_); rintro e x5 ⟨rfl, hb⟩; have hd5 := Lib.hid (hd4.out.trans (hb.out.mono hd4.out.size)); replace kzHa_0 := keepC hd5.out zHa_0; replace kzHa_1 := keepC hd5.out zHa_1; replace kzHb_0 := keepC hd5.out zHb_0; replace kzHb_1 := keepC hd5.out zHb_1; replace kzHG_0 := keepC hd5.out zHG_0; replace kzHG_1 := keepC hd5.out zHG_1; replace kzHP_0 := keepC hd5.out zHP_0; replace kzHP_1 := keepC hd5.out zHP_1; clear hb)
        | (go_at_call 14; (with_reducible refine (HCR.out _ hd1.out).mono ?_); rintro e x2 ⟨rfl, hb⟩; have hd2 := Lib.hid (hd1.out.trans (hb.out.mono hd1.out.size)); rw [HM1.out]; replace kzHa_0 := keepC hd2.out zHa_0; replace kzHa_1 := keepC hd2.out zHa_1; replace kzHb_0 := keepC hd2.out zHb_0; replace kzHb_1 := keepC hd2.out zHb_1; replace kzHG_0 := keepC hd2.out zHG_0; replace kzHG_1 := keepC hd2.out zHG_1; replace kzHP_0 := keepC hd2.out zHP_0; replace kzHP_1 := keepC hd2.out zHP_1; clear hb))
      all_goals
        go_wp2_with fail
        go_ret
        exact ⟨rfl, HB.out.trans (hd5.out.mono HB.out.size)⟩
    · have h0q : (de != 0) = true := by simp [h0]
      have h0s : (de == de) = true := by simp
      have hS0 : (fun X => X.cell? ⟨w5.heap.size, 0, none⟩ = some (.slice A5 n5 c5) ∧ X.cell? ⟨w5.heap.size, 1, none⟩ = some (.int .i64 ak) ∧ X.cell? ⟨w7.heap.size, 0, none⟩ = some (.slice A7 n5 c7) ∧ X.cell? ⟨w7.heap.size, 1, none⟩ = some (.int .i64 ak) ∧ X.cell? ⟨w1.heap.size, 0, none⟩ = some (.slice Ag ng cg) ∧ X.cell? ⟨w1.heap.size, 1, none⟩ = some (.int .i64 gk) ∧ X.cell? ⟨w.heap.size, 0, none⟩ = some (.slice A n c) ∧ X.cell? ⟨w.heap.size, 1, none⟩ = some (.int .i64 K)) (World.drew W8) := by
        show _ ∧ _
        go_keep
      refine wp_region_held_drew (S := (fun X => X.cell? ⟨w5.heap.size, 0, none⟩ = some (.slice A5 n5 c5) ∧ X.cell? ⟨w5.heap.size, 1, none⟩ = some (.int .i64 ak) ∧ X.cell? ⟨w7.heap.size, 0, none⟩ = some (.slice A7 n5 c7) ∧ X.cell? ⟨w7.heap.size, 1, none⟩ = some (.int .i64 ak) ∧ X.cell? ⟨w1.heap.size, 0, none⟩ = some (.slice Ag ng cg) ∧ X.cell? ⟨w1.heap.size, 1, none⟩ = some (.int .i64 gk) ∧ X.cell? ⟨w.heap.size, 0, none⟩ = some (.slice A n c) ∧ X.cell? ⟨w.heap.size, 1, none⟩ = some (.int .i64 K))) (by kernel_rfl) hS0 (fun _ => ?_)
      (refine wpAnyH_take (i := 0) (v := ?_) rfl (by kernel_rfl) (by kernel_rfl) (by kernel_rfl) (fun _ _ _ h => h) (Or.inl ⟨by rfl, ?_⟩) (by assumption) ?_; rotate_left; (intro w hSw; (try dsimp only at hSw); go_simp; try with_reducible rfl); (try simp only [List.getElem_toArray, List.getElem_cons_succ, List.getElem_cons_zero, Act.put, List.setIfInBounds_toArray, List.set_cons_zero, List.set_cons_succ]))
      (refine wpAnyH_take (i := 1) (v := ?_) rfl (by kernel_rfl) (by kernel_rfl) (by kernel_rfl) (fun _ _ _ h => h) (Or.inl ⟨by rfl, ?_⟩) (by assumption) ?_; rotate_left; (intro w hSw; (try dsimp only at hSw); go_simp; try with_reducible rfl); (try simp only [List.getElem_toArray, List.getElem_cons_succ, List.getElem_cons_zero, Act.put, List.setIfInBounds_toArray, List.set_cons_zero, List.set_cons_succ]))
      refine wpAnyH_ready (rs := [2]) (by kernel_rfl) (by simp) ?_
      refine AllReadyH.cons rfl (fun K2 hK2 => ?_) AllReadyH.nil
      go_simp
      refine (HCS.out _ hd0.out).mono ?_
      rintro e x1 ⟨rfl, hb⟩
      have hd1 := Lib.hid (hd0.out.trans (hb.out.mono hd0.out.size))
      rw [ssF_refl]
      have kzHa_0 := keepC hd1.out zHa_0
      have kzHa_1 := keepC hd1.out zHa_1
      have kzHb_0 := keepC hd1.out zHb_0
      have kzHb_1 := keepC hd1.out zHb_1
      have kzHG_0 := keepC hd1.out zHG_0
      have kzHG_1 := keepC hd1.out zHG_1
      have kzHP_0 := keepC hd1.out zHP_0
      have kzHP_1 := keepC hd1.out zHP_1
      clear hb
      go_wp2_with fail
      refine hK2.out _ _ (by (try dsimp only); go_keep) (fun _ => ?_)
      clear hK2 K2
      try simp only [List.getElem_toArray, List.getElem_cons_succ, List.getElem_cons_zero, Act.put, List.setIfInBounds_toArray, List.set_cons_zero, List.set_cons_succ]
      (refine wpAnyH_take (i := 3) (v := ?_) rfl (by kernel_rfl) (by kernel_rfl) (by kernel_rfl) (fun _ _ _ h => h) (Or.inl ⟨by rfl, ?_⟩) (by assumption) ?_; rotate_left; (intro w hSw; (try dsimp only at hSw); go_simp; try with_reducible rfl); (try simp only [List.getElem_toArray, List.getElem_cons_succ, List.getElem_cons_zero, Act.put, List.setIfInBounds_toArray, List.set_cons_zero, List.set_cons_succ]))
      (refine wpAnyH_take (i := 4) (v := ?_) rfl (by kernel_rfl) (by kernel_rfl) (by kernel_rfl) (fun _ _ _ h => h) (Or.inl ⟨by rfl, ?_⟩) (by assumption) ?_; rotate_left; (intro w hSw; (try dsimp only at hSw); go_simp; try with_reducible rfl); (try simp only [List.getElem_toArray, List.getElem_cons_succ, List.getElem_cons_zero, Act.put, List.setIfInBounds_toArray, List.set_cons_zero, List.set_cons_succ]))
      (refine wpAnyH_take (i := 5) (v := ?_) rfl (by kernel_rfl) (by kernel_rfl) (by kernel_rfl) (fun _ _ _ h => h) (Or.inl ⟨by rfl, ?_⟩) (by assumption) ?_; rotate_left; (intro w hSw; (try dsimp only at hSw); go_simp; try with_reducible rfl); (try simp only [List.getElem_toArray, List.getElem_cons_succ, List.getElem_cons_zero, Act.put, List.setIfInBounds_toArray, List.set_cons_zero, List.set_cons_succ]))
      (refine wpAnyH_take (i := 6) (v := ?_) rfl (by kernel_rfl) (by kernel_rfl) (by kernel_rfl) (fun _ _ _ h => h) (Or.inl ⟨by rfl, ?_⟩) (by assumption) ?_; rotate_left; (intro w hSw; (try dsimp only at hSw); go_simp; try with_reducible rfl); (try simp only [List.getElem_toArray, List.getElem_cons_succ, List.getElem_cons_zero, Act.put, List.setIfInBounds_toArray, List.set_cons_zero, List.set_cons_succ]))
      (refine wpAnyH_take (i := 7) (v := ?_) rfl (by kernel_rfl) (by kernel_rfl) (by kernel_rfl) (fun _ _ _ h => h) (Or.inl ⟨by rfl, ?_⟩) (by assumption) ?_; rotate_left; (intro w hSw; (try dsimp only at hSw); go_simp; try with_reducible rfl); (try simp only [List.getElem_toArray, List.getElem_cons_succ, List.getElem_cons_zero, Act.put, List.setIfInBounds_toArray, List.set_cons_zero, List.set_cons_succ]))
      (refine wpAnyH_take (i := 8) (v := ?_) rfl (by kernel_rfl) (by kernel_rfl) (by kernel_rfl) (fun _ _ _ h => h) (Or.inl ⟨by rfl, ?_⟩) (by assumption) ?_; rotate_left; (intro w hSw; (try dsimp only at hSw); go_simp; try with_reducible rfl); (try simp only [List.getElem_toArray, List.getElem_cons_succ, List.getElem_cons_zero, Act.put, List.setIfInBounds_toArray, List.set_cons_zero, List.set_cons_succ]))
      (refine wpAnyH_take (i := 9) (v := ?_) rfl (by kernel_rfl) (by kernel_rfl) (by kernel_rfl) (fun _ _ _ h => h) (Or.inl ⟨by rfl, ?_⟩) (by assumption) ?_; rotate_left; (intro w hSw; (try dsimp only at hSw); go_simp; try with_reducible rfl); (try simp only [List.getElem_toArray, List.getElem_cons_succ, List.getElem_cons_zero, Act.put, List.setIfInBounds_toArray, List.set_cons_zero, List.set_cons_succ]))
      (refine wpAnyH_take (i := 10) (v := ?_) rfl (by kernel_rfl) (by kernel_rfl) (by kernel_rfl) (fun _ _ _ h => h) (Or.inl ⟨by rfl, ?_⟩) (by assumption) ?_; rotate_left; (intro w hSw; (try dsimp only at hSw); go_simp; try with_reducible rfl); (try simp only [List.getElem_toArray, List.getElem_cons_succ, List.getElem_cons_zero, Act.put, List.setIfInBounds_toArray, List.set_cons_zero, List.set_cons_succ]))
      (refine wpAnyH_take (i := 11) (v := ?_) rfl (by kernel_rfl) (by kernel_rfl) (by kernel_rfl) (fun _ _ _ h => h) (Or.inl ⟨by rfl, ?_⟩) (by assumption) ?_; rotate_left; (intro w hSw; (try dsimp only at hSw); go_simp; try with_reducible rfl); (try simp only [List.getElem_toArray, List.getElem_cons_succ, List.getElem_cons_zero, Act.put, List.setIfInBounds_toArray, List.set_cons_zero, List.set_cons_succ]))
      (refine wpAnyH_take (i := 12) (v := undef) rfl (by kernel_rfl) (by kernel_rfl) (by kernel_rfl) (fun _ _ _ h => h) (Or.inr ⟨by rfl, rfl⟩) (by assumption) ?_; (try simp only [List.getElem_toArray, List.getElem_cons_succ, List.getElem_cons_zero, Act.put, List.setIfInBounds_toArray, List.set_cons_zero, List.set_cons_succ]))
      (refine wpAnyH_take (i := 13) (v := undef) rfl (by kernel_rfl) (by kernel_rfl) (by kernel_rfl) (fun _ _ _ h => h) (Or.inr ⟨by rfl, rfl⟩) (by assumption) ?_; (try simp only [List.getElem_toArray, List.getElem_cons_succ, List.getElem_cons_zero, Act.put, List.setIfInBounds_toArray, List.set_cons_zero, List.set_cons_succ]))
      (refine wpAnyH_take (i := 14) (v := ?_) rfl (by kernel_rfl) (by kernel_rfl) (by kernel_rfl) (fun _ _ _ h => h) (Or.inl ⟨by rfl, ?_⟩) (by assumption) ?_; rotate_left; (intro w hSw; (try dsimp only at hSw); go_simp; try with_reducible rfl); (try simp only [List.getElem_toArray, List.getElem_cons_succ, List.getElem_cons_zero, Act.put, List.setIfInBounds_toArray, List.set_cons_zero, List.set_cons_succ]))
      (refine wpAnyH_take (i := 15) (v := ?_) rfl (by kernel_rfl) (by kernel_rfl) (by kernel_rfl) (fun _ _ _ h => h) (Or.inl ⟨by rfl, ?_⟩) (by assumption) ?_; rotate_left; (intro w hSw; (try dsimp only at hSw); go_simp; try with_reducible rfl); (try simp only [List.getElem_toArray, List.getElem_cons_succ, List.getElem_cons_zero, Act.put, List.setIfInBounds_toArray, List.set_cons_zero, List.set_cons_succ]))
      (refine wpAnyH_take (i := 16) (v := ?_) rfl (by kernel_rfl) (by kernel_rfl) (by kernel_rfl) (fun _ _ _ h => h) (Or.inl ⟨by rfl, ?_⟩) (by assumption) ?_; rotate_left; (intro w hSw; (try dsimp only at hSw); go_simp; try with_reducible rfl); (try simp only [List.getElem_toArray, List.getElem_cons_succ, List.getElem_cons_zero, Act.put, List.setIfInBounds_toArray, List.set_cons_zero, List.set_cons_succ]))
      (refine wpAnyH_take (i := 17) (v := ?_) rfl (by kernel_rfl) (by kernel_rfl) (by kernel_rfl) (fun _ _ _ h => h) (Or.inl ⟨by rfl, ?_⟩) (by assumption) ?_; rotate_left; (intro w hSw; (try dsimp only at hSw); go_simp; try with_reducible rfl); (try simp only [List.getElem_toArray, List.getElem_cons_succ, List.getElem_cons_zero, Act.put, List.setIfInBounds_toArray, List.set_cons_zero, List.set_cons_succ]))
      (refine wpAnyH_take (i := 18) (v := ?_) rfl (by kernel_rfl) (by kernel_rfl) (by kernel_rfl) (fun _ _ _ h => h) (Or.inl ⟨by rfl, ?_⟩) (by assumption) ?_; rotate_left; (intro w hSw; (try dsimp only at hSw); go_simp; try with_reducible rfl); (try simp only [List.getElem_toArray, List.getElem_cons_succ, List.getElem_cons_zero, Act.put, List.setIfInBounds_toArray, List.set_cons_zero, List.set_cons_succ]))
      refine wpAnyH_ready (rs := [19]) (by kernel_rfl) (by simp) ?_
      refine AllReadyH.cons rfl (fun K2 hK2 => ?_) AllReadyH.nil
      go_simp
      refine (HCG.out _ (HB.out.trans (hd1.out.mono HB.out.size))).mono ?_
      rintro e x2 ⟨v9, rfl, ho9, hb⟩
      have hd2 := Lib.hid (hd1.out.trans (hb.out.mono hd1.out.size))
      obtain ⟨A9, n9, c9, rfl, HN9, _, _, HV9, _⟩ := ownC_open ho9.out
      obtain rfl : ng = n9 := HNG.out.symm.trans HN9.out
      clear ho9 HN9
      replace kzHa_0 := keepC hd2.out zHa_0
      replace kzHa_1 := keepC hd2.out zHa_1
      replace kzHb_0 := keepC hd2.out zHb_0
      replace kzHb_1 := keepC hd2.out zHb_1
      replace kzHG_0 := keepC hd2.out zHG_0
      replace kzHG_1 := keepC hd2.out zHG_1
      replace kzHP_0 := keepC hd2.out zHP_0
      replace kzHP_1 := keepC hd2.out zHP_1
      clear hb
      go_wp2_with fail
      refine hK2.out _ _ (by (try dsimp only); go_keep) (fun _ => ?_)
      clear hK2 K2
      try simp only [List.getElem_toArray, List.getElem_cons_succ, List.getElem_cons_zero, Act.put, List.setIfInBounds_toArray, List.set_cons_zero, List.set_cons_succ]
      refine wpAnyH_ready (rs := [20]) (by kernel_rfl) (by simp) ?_
      refine AllReadyH.cons rfl (fun K2 hK2 => ?_) AllReadyH.nil
      go_simp
      refine (rsame_any Ag G ng cg gk A9 G ng c9 gk _ HNG.out HNG.out (by omega) (by omega) (HVG.out.below hd2.out) HV9.out).mono ?_
      rintro e x3 ⟨rfl, hb⟩
      have hd3 := Lib.hid (hd2.out.trans (hb.out.mono hd2.out.size))
      rw [ssF_refl]
      replace kzHa_0 := keepC hd3.out zHa_0
      replace kzHa_1 := keepC hd3.out zHa_1
      replace kzHb_0 := keepC hd3.out zHb_0
      replace kzHb_1 := keepC hd3.out zHb_1
      replace kzHG_0 := keepC hd3.out zHG_0
      replace kzHG_1 := keepC hd3.out zHG_1
      replace kzHP_0 := keepC hd3.out zHP_0
      replace kzHP_1 := keepC hd3.out zHP_1
      clear hb
      go_wp2_with fail
      refine hK2.out _ _ (by (try dsimp only); go_keep) (fun _ => ?_)
      clear hK2 K2
      try simp only [List.getElem_toArray, List.getElem_cons_succ, List.getElem_cons_zero, Act.put, List.setIfInBounds_toArray, List.set_cons_zero, List.set_cons_succ]
      (refine wpAnyH_take (i := 21) (v := ?_) rfl (by kernel_rfl) (by kernel_rfl) (by kernel_rfl) (fun _ _ _ h => h) (Or.inl ⟨by rfl, ?_⟩) (by assumption) ?_; rotate_left; (intro w hSw; (try dsimp only at hSw); go_simp; try with_reducible rfl); (try simp only [List.getElem_toArray, List.getElem_cons_succ, List.getElem_cons_zero, Act.put, List.setIfInBounds_toArray, List.set_cons_zero, List.set_cons_succ]))
      (refine wpAnyH_take (i := 22) (v := ?_) rfl (by kernel_rfl) (by kernel_rfl) (by kernel_rfl) (fun _ _ _ h => h) (Or.inl ⟨by rfl, ?_⟩) (by assumption) ?_; rotate_left; (intro w hSw; (try dsimp only at hSw); go_simp; try with_reducible rfl); (try simp only [List.getElem_toArray, List.getElem_cons_succ, List.getElem_cons_zero, Act.put, List.setIfInBounds_toArray, List.set_cons_zero, List.set_cons_succ]))
      refine wpAnyH_ready (rs := [23]) (by kernel_rfl) (by simp) ?_
      refine AllReadyH.cons rfl (fun K2 hK2 => ?_) AllReadyH.nil
      go_simp
      refine (HCL.out _).mono ?_
      rintro e x4 ⟨rfl, hb⟩
      have hd4 := Lib.hid (hd3.out.trans (hb.out.mono hd3.out.size))
      skip
      replace kzHa_0 := keepC hd4.out zHa_0
      replace kzHa_1 := keepC hd4.out zHa_1
      replace kzHb_0 := keepC hd4.out zHb_0
      replace kzHb_1 := keepC hd4.out zHb_1
      replace kzHG_0 := keepC hd4.out zHG_0
      replace kzHG_1 := keepC hd4.out zHG_1
      replace kzHP_0 := keepC hd4.out zHP_0
      replace kzHP_1 := keepC hd4.out zHP_1
      clear hb
      go_wp2_with fail
      refine hK2.out _ _ (by (try dsimp only); go_keep) (fun _ => ?_)
      clear hK2 K2
      try simp only [List.getElem_toArray, List.getElem_cons_succ, List.getElem_cons_zero, Act.put, List.setIfInBounds_toArray, List.set_cons_zero, List.set_cons_succ]
      (refine wpAnyH_take (i := 24) (v := ?_) rfl (by kernel_rfl) (by kernel_rfl) (by kernel_rfl) (fun _ _ _ h => h) (Or.inl ⟨by rfl, ?_⟩) (by assumption) ?_; rotate_left; (intro w hSw; (try dsimp only at hSw); go_simp; try with_reducible rfl); (try simp only [List.getElem_toArray, List.getElem_cons_succ, List.getElem_cons_zero, Act.put, List.setIfInBounds_toArray, List.set_cons_zero, List.set_cons_succ]))
      (refine wpAnyH_take (i := 25) (v := ?_) rfl (by kernel_rfl) (by kernel_rfl) (by kernel_rfl) (fun _ _ _ h => h) (Or.inl ⟨by rfl, ?_⟩) (by assumption) ?_; rotate_left; (intro w hSw; (try dsimp only at hSw); go_simp; try with_reducible rfl); (try simp only [List.getElem_toArray, List.getElem_cons_succ, List.getElem_cons_zero, Act.put, List.setIfInBounds_toArray, List.set_cons_zero, List.set_cons_succ]))
      refine wpAnyH_done (by kernel_rfl) ?_ _
      go_wp2_with fail
      go_ret
      exact ⟨rfl, HB.out.trans (hd4.out.mono HB.out.size)⟩
end Go.Proofs.Yticfhjimbochlaa.schemaApplies
