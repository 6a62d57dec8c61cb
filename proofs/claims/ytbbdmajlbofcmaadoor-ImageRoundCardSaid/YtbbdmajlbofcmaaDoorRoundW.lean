/-
  The law ImageRound walked.
-/
import Derived.Test.YtbbdmajlbofcmaaDoorGood4
import Derived.Test.YtbbdmajlbofcmaaDoorRow4
import Derived.Test.YtbbdmajlbofcmaaDoorImgB
import Derived.Test.YtbbdmajlbofcmaaDoorImgK
import Derived.Test.YtbbdmajlbofcmaaDoorLives5
import Derived.Test.YtbbdmajlbofcmaaDoorImgRb
namespace Go.Proofs.YtbbdmajlbofcmaaDoor.imageRound
open Go.RowKit Dg
theorem vrow_take {w : World} {A : Option Addr} {R : List Vl} (h : VRow w A R) (k : Nat) : VRow w A (R.take k) := fun hne => by
  obtain ⟨b, off, e, hc⟩ := h (by rintro rfl; simp at hne)
  exact ⟨b, off, e, fun i hi => by rw [List.getElem_take]; exact hc i (by rw [List.length_take] at hi; omega)⟩
theorem few5_any (A : Option Addr) (n c : Nat) (w : World) (hn : n ≤ c) (hc : c ≤ maxLen) :
    Calls Tryd.prog 12 #[.slice A n c, .int .i64 20] w fun e w' => e = .returned (.slice A (min n 20) c) ∧ w = w' := by
  unfold maxLen at hc
  have hc2 : (c : Int) ≤ 9223372036854775807 := by omega
  by_cases h : n ≤ 20
  · rw [Nat.min_eq_left h]
    have h0 : (n : Int) ≤ 20 := by omega
    go_enter Tryd.func12, Tryd.ntmps12
    go_wp2_with fail
    go_ret
    exact ⟨rfl, rfl⟩
  · rw [Nat.min_eq_right (by omega)]
    have h0 : (20 : Int) < (n : Int) := by omega
    have h1 : (20 : Int) ≤ (c : Int) := by omega
    go_enter Tryd.func12, Tryd.ntmps12
    go_wp2_with fail
    go_ret
    exact ⟨rfl, rfl⟩
set_option maxHeartbeats 6000000 in
set_option maxRecDepth 100000 in
theorem walk (A : Option Addr) (n c : Nat) (L : List Cl) (K : Int) (Ar : Option Addr) (nr cr : Nat) (R : List Vl) (Ab : Option Addr) (nb cb : Nat) (lb : List Nat) (w : World) (hn : L.length = n) (hnc : n ≤ c) (hcm : c ≤ maxLen) (hA : CRow w A L) (hf : ∀ x ∈ L, x.fit) (hk0 : -9223372036854775808 ≤ K) (hk1 : K ≤ 9223372036854775807) (hnr : R.length = nr) (hncr : nr ≤ cr) (hcmr : cr ≤ maxLen) (hR : VRow w Ar R) (hfr : ∀ x ∈ R, x.fits) (hnb : lb.length = nb) (hncb : nb ≤ cb) (hcmb : cb ≤ maxLen) (hxb : ∀ x ∈ lb, x < 256) (hBb : Rd w Ab lb) (hzb : Ab = none → cb = 0) (hT : Tabs w) :
    Calls Tryd.prog 4 #[.agg #[.slice A n c, .int .i64 K], .slice Ar nr cr, .slice Ab nb cb] w fun e w' => e = .returned (.bool true) ∧ Below w.heap.size w w' := by
  have HB := Lib.hid ((Below.refl w.heap.size w).alloc (Nat.le_refl _) (.cells #[.slice A n c, .int .i64 K] 24))
  have HC1 := Lib.hid (rgood_any A L n c K (w.alloc (.cells #[.slice A n c, .int .i64 K] 24)) hn hnc hcm (hA.below HB.out) hf hk0 hk1)
  have HGS := Lib.hid (goodS_is L K)
  have hs0 : (w.alloc (.cells #[.slice A n c, .int .i64 K] 24)).heap.size = w.heap.size + 1 := by simp
  rw [hs0] at HC1
  have HNR := Lib.hid hnr
  have HRR := Lib.hid (hR.below HB.out)
  have HFR := Lib.hid hfr
  clear hnr hR hfr
  have HBB := Lib.hid (hBb.below HB.out)
  have HXB := Lib.hid hxb
  have HZB := Lib.hid hzb
  have HNB := Lib.hid hnb
  have HTB := Lib.hid (hT.below HB.out)
  clear hBb hxb hzb hnb hT
  clear hs0 hn hnc hcm hA hf
  go_enter Tryd.func4, Tryd.ntmps4
  go_wp2_with fail
  refine HC1.out.mono ?_
  rintro e w1 ⟨v1, rfl, ho1, hb⟩
  generalize gdC L K = G at *
  generalize gdK L K = gk at *
  obtain ⟨Ag, ng, cg, rfl, HNG, hngc, hcgm, HVG, HZG⟩ := ownC_open ho1.out
  have HFIT := Lib.hid (goodS_fit G gk HGS.out)
  have HKD := Lib.hid (fun (x : Cl) (hx : x ∈ G) => (show 1 ≤ x.k ∧ x.k ≤ 4 from ⟨(HFIT.out x hx).2.1, (HFIT.out x hx).2.2.1⟩))
  have hlen := HGS.out.len
  have hkeys := HGS.out.keys
  rw [HNG.out] at hlen hkeys
  obtain ⟨hl1, hl6⟩ := hlen
  obtain ⟨hg1, hgn, hg3⟩ := hkeys
  replace HB := Lib.hid (HB.out.trans (hb.out.mono (by simp)))
  replace HRR := Lib.hid (HRR.out.below (hb.out.mono (by simp)))
  replace HBB := Lib.hid (HBB.out.below (hb.out.mono (by simp)))
  replace HTB := Lib.hid (HTB.out.below (hb.out.mono (by simp)))
  clear hb ho1 HC1 HZG
  have hb : Below w1.heap.size w1 (w1.alloc (.cells #[.slice Ag ng cg, .int .i64 gk] 24)) := (Below.refl _ _).alloc (Nat.le_refl _) _
  replace HB := Lib.hid (HB.out.trans (hb.mono HB.out.size))
  replace HRR := Lib.hid (HRR.out.below hb)
  replace HVG := Lib.hid (HVG.out.below hb)
  replace HBB := Lib.hid (HBB.out.below hb)
  replace HTB := Lib.hid (HTB.out.below hb)
  clear hb
  have HG := Lib.hid (Has.new w1 24 #[.slice Ag ng cg, .int .i64 gk])
  have zHG_0 : (w1.alloc (.cells #[.slice Ag ng cg, .int .i64 gk] 24)).cell? ⟨w1.heap.size, 0, none⟩ = some (.slice Ag ng cg) := HG.out.cell 0
  have zHG_1 : (w1.alloc (.cells #[.slice Ag ng cg, .int .i64 gk] 24)).cell? ⟨w1.heap.size, 1, none⟩ = some (.int .i64 gk) := HG.out.cell 1
  go_wp2_with fail
  refine (row_any Ag G ng cg gk Ar R nr cr _ HNG.out (by omega) HVG.out (fun x hx => (HFIT.out x hx).2.2.2) HNR.out hncr hcmr HRR.out HFR.out).mono ?_
  rintro e w3 ⟨v3, rfl, ho3, hb⟩
  clear zHG_0 zHG_1
  replace HB := Lib.hid (HB.out.trans (hb.out.mono HB.out.size))
  replace HRR := Lib.hid (HRR.out.below hb.out)
  replace HVG := Lib.hid (HVG.out.below hb.out)
  replace HG := Lib.hid (HG.out.below hb.out HG.out.lt)
  replace HBB := Lib.hid (HBB.out.below hb.out)
  replace HTB := Lib.hid (HTB.out.below hb.out)
  clear hb
  have hlR := rowF_len G R
  rw [HNG.out] at hlR
  have HW3 := Lib.hid (rowF_fits G R HKD.out)
  have HM3 := Lib.hid (rowF_may5 G R HKD.out)
  have HF3 := Lib.hid (rowF_fit G R HKD.out HFR.out)
  have HZ3 := Lib.hid (rowF_size5 G R)
  have HL3 := Lib.hid hlR
  clear hlR
  generalize rowF G R = P3 at *
  obtain ⟨A3, n3, c3, rfl, HN3, hnc3, hcm3, HV3, _⟩ := ownV_open ho3.out
  obtain rfl : ng = n3 := HL3.out.symm.trans HN3.out
  clear ho3
  go_wp2_with fail
  refine (few5_any Ab nb cb w3 hncb hcmb).mono ?_
  rintro e wF ⟨rfl, hwf⟩
  subst hwf
  obtain ⟨m, hm⟩ : ∃ m, min nb 20 = m := ⟨_, rfl⟩
  have HLB : Hid ((lb.take 20).length = m) := by show _ = _; rw [List.length_take, HNB.out, ← hm]; omega
  have HX2 := Lib.hid (fun (x : Nat) (hx : x ∈ lb.take 20) => HXB.out x (List.mem_of_mem_take hx))
  replace HBB := Lib.hid (HBB.out.take 20)
  have hm20 : m ≤ 20 := by omega
  have hmc : m ≤ cb := by omega
  rw [hm]
  generalize lb.take 20 = lc at *
  clear HXB HNB hm
  have HB0 : Hid (w.heap.size ≤ w3.heap.size) := HB.out.size
  have hsz3 : w1.heap.size < w3.heap.size := HG.out.lt
  have zHG_0 : w3.cell? ⟨w1.heap.size, 0, none⟩ = some (.slice Ag ng cg) := HG.out.cell 0
  have zHG_1 : w3.cell? ⟨w1.heap.size, 1, none⟩ = some (.int .i64 gk) := HG.out.cell 1
  go_wp2_with fail
  refine (write_any none [] 0 0 Ag ng cg gk A3 P3 ng c3 ng w3 rfl (by omega) (Rd.nil _ _) (fun _ => rfl) (Nat.min_self ng) (by omega) (by omega) (by omega) HL3.out (by omega) (by omega) HV3.out HM3.out HF3.out HZ3.out).mono ?_
  rintro e w4 ⟨v, rfl, ho, hb⟩
  rw [List.nil_append, List.take_of_length_le (by rw [HL3.out]; omega)] at ho
  obtain ⟨A4, n4, c4, rfl, HN4, hnc4, _, _⟩ := own_openZ ho.out
  have hl4 : n4 ≤ 9000 := by rw [← HN4.out]; exact imgF_len P3 (by rw [HL3.out]; omega) HZ3.out HF3.out
  have HAP := Lib.hid (own_app w4 w3.heap.size (.slice A4 n4 c4) (imgF P3) ho.out hb.out.size Ab lc m cb HLB.out ((HBB.out.below hb.out)) (by rw [HN4.out]; omega) HZB.out)
  have HBW := Lib.hid hb.out
  clear ho hb
  clear zHG_0 zHG_1
  go_wp2_with (at_builtin; refine wpList_app rfl _ _ 25 25 rfl (.slice A4 n4 c4) (.slice Ab m cb) rfl rfl ?_; obtain ⟨R4, w5, hrun, hmade⟩ := HAP.out; refine ⟨R4, w5, hrun, ?_⟩; obtain ⟨B4, m4, d4, rfl, HM4n, hmd4, HMR4, _⟩ := own_openZ hmade.1; have HBA := Lib.hid (HBW.out.trans hmade.2); clear hrun hmade HAP HBW)
  have hm4 : m4 ≤ 9100 := by have h := HM4n.out; rw [List.length_append, HN4.out, HLB.out] at h; omega
  refine (Read_len B4 (imgF P3 ++ lc) m4 d4 w5 HM4n.out HMR4.out (by omega)).mono ?_
  rintro e w6 ⟨gx, rfl, hggx, hrd, hb5⟩
  have HRgx := Lib.hid hrd.out
  have hb : Hid (Below w3.heap.size w3 w6) := HBA.out.trans (hb5.out.mono HBA.out.size)
  have hlgx : w3.heap.size ≤ gx := Nat.le_trans HBA.out.size hggx
  have hllgx : (imgF P3 ++ lc).length ≤ 100000 := by rw [HM4n.out]; omega
  clear hrd hb5 HBA HMR4 hggx
  replace HB := Lib.hid (HB.out.trans (hb.out.mono HB.out.size))
  replace HRR := Lib.hid (HRR.out.below hb.out)
  replace HVG := Lib.hid (HVG.out.below hb.out)
  replace HG := Lib.hid (HG.out.below hb.out HG.out.lt)
  replace HBB := Lib.hid (HBB.out.below hb.out)
  replace HTB := Lib.hid (HTB.out.below hb.out)
  replace HV3 := Lib.hid (HV3.out.below hb.out)
  clear hb
  have zHG_0 : w6.cell? ⟨w1.heap.size, 0, none⟩ = some (.slice Ag ng cg) := HG.out.cell 0
  have zHG_1 : w6.cell? ⟨w1.heap.size, 1, none⟩ = some (.int .i64 gk) := HG.out.cell 1
  have hsz6 : w1.heap.size < w6.heap.size := HG.out.lt
  have hgx6 : gx < w6.heap.size := HRgx.out.lt
  have HL5 : Hid ((P3.take gk).length = gk) := by show _ = _; rw [List.length_take, HL3.out]; omega
  go_wp2_with fail
  refine (writeKey_any none [] 0 0 Ag ng cg gk A3 P3 ng c3 w6 rfl (by omega) (Rd.nil _ _) (fun _ => rfl) (by omega) (by omega) (by omega) (by omega) (by omega) hngc HL3.out hnc3 (by omega) HV3.out HM3.out HF3.out HZ3.out).mono ?_
  rintro e w7 ⟨v, rfl, ho, hb⟩
  rw [List.nil_append] at ho
  obtain ⟨A7, n7, c7, rfl, HN7, hnc7, _, _⟩ := own_openZ ho.out
  have hl7 : n7 ≤ 9000 := by rw [← HN7.out]; exact imgF_len _ (by rw [HL5.out]; omega) (fun x hx => HZ3.out x (List.mem_of_mem_take hx)) (fun x hx => HF3.out x (List.mem_of_mem_take hx))
  have HAP := Lib.hid (own_app w7 w6.heap.size (.slice A7 n7 c7) (imgF (P3.take gk)) ho.out hb.out.size Ab lc m cb HLB.out ((HBB.out.below hb.out)) (by rw [HN7.out]; omega) HZB.out)
  have HBW := Lib.hid hb.out
  clear ho hb
  clear zHG_0 zHG_1
  go_wp2_with (at_builtin; refine wpList_app rfl _ _ 25 25 rfl (.slice A7 n7 c7) (.slice Ab m cb) rfl rfl ?_; obtain ⟨R7, w8, hrun, hmade⟩ := HAP.out; refine ⟨R7, w8, hrun, ?_⟩; obtain ⟨B7, m7, d7, rfl, HM7n, hmd7, HMR7, _⟩ := own_openZ hmade.1; have HBA := Lib.hid (HBW.out.trans hmade.2); clear hrun hmade HAP HBW)
  have hm7 : m7 ≤ 9100 := by have h := HM7n.out; rw [List.length_append, HN7.out, HLB.out] at h; omega
  refine (Read_len B7 (imgF (P3.take gk) ++ lc) m7 d7 w8 HM7n.out HMR7.out (by omega)).mono ?_
  rintro e w9 ⟨gy, rfl, hggy, hrd, hb5⟩
  have HRgy := Lib.hid hrd.out
  have hb : Hid (Below w6.heap.size w6 w9) := HBA.out.trans (hb5.out.mono HBA.out.size)
  have hlgy : w6.heap.size ≤ gy := Nat.le_trans HBA.out.size hggy
  have hllgy : (imgF (P3.take gk) ++ lc).length ≤ 100000 := by rw [HM7n.out]; omega
  clear hrd hb5 HBA HMR7 hggy
  replace HB := Lib.hid (HB.out.trans (hb.out.mono HB.out.size))
  replace HRR := Lib.hid (HRR.out.below hb.out)
  replace HVG := Lib.hid (HVG.out.below hb.out)
  replace HG := Lib.hid (HG.out.below hb.out HG.out.lt)
  replace HBB := Lib.hid (HBB.out.below hb.out)
  replace HTB := Lib.hid (HTB.out.below hb.out)
  replace HV3 := Lib.hid (HV3.out.below hb.out)
  replace HRgx := Lib.hid (HRgx.out.below hb.out)
  clear hb
  have zHG_0 : w9.cell? ⟨w1.heap.size, 0, none⟩ = some (.slice Ag ng cg) := HG.out.cell 0
  have zHG_1 : w9.cell? ⟨w1.heap.size, 1, none⟩ = some (.int .i64 gk) := HG.out.cell 1
  have hgx9 : gx < w9.heap.size := HRgx.out.lt
  have hgy9 : gy < w9.heap.size := HRgy.out.lt
  have hne : gx ≠ gy := by have := hlgy; have : gx < w6.heap.size := hgx6; omega
  have hbx : ∀ x ∈ imgF P3 ++ lc, x < 256 := fun x hx => by
    rcases List.mem_append.1 hx with h | h
    · exact imgF_byte P3 (by rw [HL3.out]; omega) x h
    · exact HX2.out x h
  have hby : ∀ x ∈ imgF (P3.take gk) ++ lc, x < 256 := fun x hx => by
    rcases List.mem_append.1 hx with h | h
    · exact imgF_byte (P3.take gk) (by rw [HL5.out]; omega) x h
    · exact HX2.out x h
  have HIX := Lib.hid (iread_any gx (imgF P3 ++ lc) 0 Ag G ng cg gk w9 HRgx.out.dd hgx9 (Nat.le_refl _) hbx hllgx HNG.out hl1 (by omega) HVG.out HKD.out HTB.out)
  rw [read_img G P3 lc HW3.out (by rw [HNG.out]; omega) HF3.out HZ3.out] at HIX
  simp only [Option.isSome_some, Option.getD_some] at HIX
  clear hbx
  go_wp2_with fail
  refine HIX.out.mono ?_
  rintro e w10 ⟨⟨Ap, np, cp, rfl, hnp, hvp⟩, hrx, hgr⟩
  have HNP : Hid (P3.length = np) := hnp.out
  have HVP : Hid (VRow w10 Ap P3) := hvp.out
  have HGR := Lib.hid hgr.out
  have HRy : Hid (Rdr w10 gy (imgF (P3.take gk) ++ lc) 0) := HRgy.out.far HGR.out HRgx.out (by omega)
  have HRx : Hid (Rdr w10 gx lc 0) := hrx.out.rdr
  replace HVG := Lib.hid (HVG.out.grown HRgx.out HGR.out)
  replace HV3 := Lib.hid (HV3.out.grown HRgx.out HGR.out)
  replace HTB := Lib.hid (tabs_grown HTB.out HRgx.out HGR.out)
  replace HG := Lib.hid (HG.out.grown HGR.out (by omega))
  replace HB := Lib.hid (Below.turn HB.out HGR.out (by have := HB0.out; omega))
  clear hnp hvp hrx hgr HIX HRgx HRgy
  clear zHG_0 zHG_1
  obtain rfl : ng = np := HL3.out.symm.trans HNP.out
  have hgy10 : gy < w10.heap.size := HRy.out.lt
  have HIY := Lib.hid (ireadKey_any gy (imgF (P3.take gk) ++ lc) 0 Ag G ng cg gk w10 HRy.out.dd hgy10 (Nat.le_refl _) hby hllgy HNG.out (by omega) (by omega) hngc (by omega) HVG.out HKD.out HTB.out)
  rw [read_img (G.take gk) (P3.take gk) lc (fits_takeD G P3 gk HW3.out (by rw [HNG.out]; omega)) (by rw [List.length_take, HNG.out]; omega) (fun x hx => HF3.out x (List.mem_of_mem_take hx)) (fun x hx => HZ3.out x (List.mem_of_mem_take hx))] at HIY
  simp only [Option.isSome_some, Option.getD_some] at HIY
  clear hby
  have zHG_0 : w10.cell? ⟨w1.heap.size, 0, none⟩ = some (.slice Ag ng cg) := HG.out.cell 0
  have zHG_1 : w10.cell? ⟨w1.heap.size, 1, none⟩ = some (.int .i64 gk) := HG.out.cell 1
  go_wp2_with fail
  refine HIY.out.mono ?_
  rintro e w11 ⟨⟨Aq, nq, cq, rfl, hnp, hvp⟩, hrx, hgr⟩
  have HNQ : Hid ((P3.take gk).length = nq) := hnp.out
  have HVQ : Hid (VRow w11 Aq (P3.take gk)) := hvp.out
  have HGS2 := Lib.hid hgr.out
  have HRx2 : Hid (Rdr w11 gx lc 0) := HRx.out.far HGS2.out HRy.out (by omega)
  have HRy2 : Hid (Rdr w11 gy lc 0) := hrx.out.rdr
  have HV3' := Lib.hid (HV3.out.grown HRy.out HGS2.out)
  have HVP' := Lib.hid (HVP.out.grown HRy.out HGS2.out)
  have HG' := Lib.hid (HG.out.grown HGS2.out (by omega))
  have HB' := Lib.hid (Below.turn HB.out HGS2.out (by have := HB0.out; omega))
  clear hnp hvp hrx hgr HIY HRx HRy HGR HGS2 HVG HV3 HVP HG HB HTB
  clear zHG_0 zHG_1
  obtain rfl : gk = nq := HL5.out.symm.trans HNQ.out
  have zG_0 : w11.cell? ⟨w1.heap.size, 0, none⟩ = some (.slice Ag ng cg) := HG'.out.cell 0
  have zG_1 : w11.cell? ⟨w1.heap.size, 1, none⟩ = some (.int .i64 gk) := HG'.out.cell 1
  have hg3 : (gk : Int) ≤ (c3 : Int) := by omega
  go_wp2_with fail
  refine (vsame_any Ap P3 ng cp A3 P3 ng c3 w11 HNP.out HL3.out (by omega) (by omega) HVP'.out HV3'.out).mono ?_
  rintro e w12 ⟨rfl, hb⟩
  rw [(vsF_iff P3 P3).2 rfl]
  have HB12 := Lib.hid (HB'.out.trans (hb.out.mono HB'.out.size))
  have HV12 := Lib.hid (vrow_take5 (HV3'.out.below hb.out) gk)
  have HVQ12 := Lib.hid (HVQ.out.below hb.out)
  have HRx12 := Lib.hid (HRx2.out.below hb.out)
  have HRy12 := Lib.hid (HRy2.out.below hb.out)
  have HG12 := Lib.hid (HG'.out.below hb.out HG'.out.lt)
  clear hb zG_0 zG_1 HV3' HVP' HVQ HRx2 HRy2 HG' HB'
  have zG_0 : w12.cell? ⟨w1.heap.size, 0, none⟩ = some (.slice Ag ng cg) := HG12.out.cell 0
  have zG_1 : w12.cell? ⟨w1.heap.size, 1, none⟩ = some (.int .i64 gk) := HG12.out.cell 1
  go_wp2_with fail
  refine (vsame_any Aq (P3.take gk) gk cq A3 (P3.take gk) gk c3 w12 HNQ.out HL5.out (by omega) (by omega) HVQ12.out HV12.out).mono ?_
  rintro e w13 ⟨rfl, hb⟩
  rw [(vsF_iff (P3.take gk) (P3.take gk)).2 rfl]
  have HB13 := Lib.hid (HB12.out.trans (hb.out.mono HB12.out.size))
  have HRx13 := Lib.hid (HRx12.out.below hb.out)
  have HRy13 := Lib.hid (HRy12.out.below hb.out)
  clear hb zG_0 zG_1 HV12 HVQ12 HRx12 HRy12 HG12 HB12
  go_wp2_with fail
  refine (left_any gx lc 0 w13 HRx13.out).mono ?_
  rintro e w14 ⟨rfl, rfl⟩
  rw [HLB.out]
  go_wp2_with fail
  refine (left_any gy lc 0 w13 HRy13.out).mono ?_
  rintro e w14 ⟨rfl, rfl⟩
  rw [HLB.out]
  go_wp2_with fail
  refine (lives5_any _).mono ?_
  rintro e wl ⟨rfl, hb⟩
  have HBL := Lib.hid (HB13.out.trans (hb.out.mono HB13.out.size))
  clear hb HRx13 HRy13
  go_wp2_with fail
  go_ret
  exact ⟨rfl, HBL.out⟩
end Go.Proofs.YtbbdmajlbofcmaaDoor.imageRound
