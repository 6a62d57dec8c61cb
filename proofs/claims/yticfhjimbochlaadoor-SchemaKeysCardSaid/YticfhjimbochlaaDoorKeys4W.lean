/-
  The law SchemaKeys walked: a row's key, and its values.
-/
import Derived.Test.YticfhjimbochlaaDoorGood4
import Derived.Test.YticfhjimbochlaaDoorLives4
import Derived.Test.YticfhjimbochlaaDoorRow4
import Derived.Test.YticfhjimbochlaaDoorSame
import Derived.Test.YticfhjimbochlaaDoorKeyM
namespace Go.Proofs.YticfhjimbochlaaDoor.schemaKeys
open Go.RowKit Dg
set_option maxHeartbeats 16000000 in
set_option maxRecDepth 100000 in
theorem walk (A : Option Addr) (n c : Nat) (L : List Cl) (K : Int) (Ar : Option Addr) (nr cr : Nat) (R : List Vl) (w : World) (hn : L.length = n) (hnc : n ≤ c) (hcm : c ≤ maxLen) (hA : CRow w A L) (hf : ∀ x ∈ L, x.fit) (hk0 : -9223372036854775808 ≤ K) (hk1 : K ≤ 9223372036854775807) (hnr : R.length = nr) (hncr : nr ≤ cr) (hcmr : cr ≤ maxLen) (hR : VRow w Ar R) (hfr : ∀ x ∈ R, x.fits) (hTb : Tabs w) :
    Calls Tryd.prog 4 #[.agg #[.slice A n c, .int .i64 K], .slice Ar nr cr] w fun e w' => e = .returned (.bool true) ∧ Below w.heap.size w w' := by
  have HB := Lib.hid ((Below.refl w.heap.size w).alloc (Nat.le_refl _) (.cells #[.slice A n c, .int .i64 K] 24))
  have HC1 := Lib.hid (rgood_any A L n c K (w.alloc (.cells #[.slice A n c, .int .i64 K] 24)) hn hnc hcm (hA.below HB.out) hf hk0 hk1)
  have HGS := Lib.hid (goodS_is L K)
  have hs0 : (w.alloc (.cells #[.slice A n c, .int .i64 K] 24)).heap.size = w.heap.size + 1 := by simp
  rw [hs0] at HC1
  have HNR := Lib.hid hnr
  have HRR := Lib.hid (hR.below HB.out)
  have HFR := Lib.hid hfr
  clear hnr hR hfr
  have HTB := Lib.hid (hTb.below HB.out)
  clear hs0 hn hnc hcm hA hf hTb
  go_enter Tryd.func4, Tryd.ntmps4
  go_wp2_with fail
  refine HC1.out.mono ?_
  rintro e w1 ⟨v1, rfl, ho1, hb⟩
  generalize gdC L K = G at *
  generalize gdK L K = gk at *
  obtain ⟨Ag, ng, cg, rfl, HNG, hngc, hcgm, HVG, HZG⟩ := ownC_open ho1.out
  have HFIT := Lib.hid (goodS_fit G gk HGS.out)
  have hlen := HGS.out.len
  have hkeys := HGS.out.keys
  rw [HNG.out] at hlen hkeys
  obtain ⟨hl1, hl6⟩ := hlen
  obtain ⟨hg1, hgn, hg3⟩ := hkeys
  replace HB := Lib.hid (HB.out.trans (hb.out.mono (by simp)))
  replace HTB := Lib.hid (HTB.out.below (hb.out.mono (by simp)))
  replace HRR := Lib.hid (HRR.out.below (hb.out.mono (by simp)))
  clear hb ho1 HC1 HZG
  have hb : Below w1.heap.size w1 (w1.alloc (.cells #[.slice Ag ng cg, .int .i64 gk] 24)) := (Below.refl _ _).alloc (Nat.le_refl _) _
  replace HB := Lib.hid (HB.out.trans (hb.mono HB.out.size))
  replace HTB := Lib.hid (HTB.out.below hb)
  replace HRR := Lib.hid (HRR.out.below hb)
  replace HVG := Lib.hid (HVG.out.below hb)
  clear hb
  have HG := Lib.hid (Has.new w1 24 #[.slice Ag ng cg, .int .i64 gk])
  by_cases hz : 20 < nr
  · obtain ⟨m, hm⟩ : ∃ m, m = 20 := ⟨_, rfl⟩
    have hmr : m ≤ cr := by omega
    have hm20 : m ≤ 20 := by omega
    have HNM : Hid ((R.take 20).length = m) := by show _ = _; rw [List.length_take, HNR.out]; omega
    replace HRR := Lib.hid (HRR.out.takeK 20)
    have HFM : Hid (∀ x ∈ R.take 20, x.fits) := fun x hx => HFR.out x (List.mem_of_mem_take hx)
    have hz1 : (20 : Int) < (nr : Int) := by omega
    have hz2 : (20 : Int) ≤ (cr : Int) := by omega
    generalize R.take 20 = Q at *
    have zHG_0 : (w1.alloc (.cells #[.slice Ag ng cg, .int .i64 gk] 24)).cell? ⟨w1.heap.size, 0, none⟩ = some (.slice Ag ng cg) := HG.out.cell 0
    have zHG_1 : (w1.alloc (.cells #[.slice Ag ng cg, .int .i64 gk] 24)).cell? ⟨w1.heap.size, 1, none⟩ = some (.int .i64 gk) := HG.out.cell 1
    go_wp2_with fail
    clear zHG_0 zHG_1
    obtain ⟨W2, hW1⟩ : ∃ W, W = (w1.alloc (.cells #[.slice Ag ng cg, .int .i64 gk] 24)) := ⟨_, rfl⟩
    rw [← hW1] at HB HTB HRR HVG HG ⊢
    clear hW1
    rw [show Value.slice Ar 20 cr = .slice Ar m cr by rw [hm]]
    clear hm hz1
    obtain ⟨ks, ke, hke⟩ : ∃ (ks : ByteArray) (ke : Int), keyT G Q gk = .tuple #[.string ks, .int .i64 ke] := by unfold keyT; split <;> exact ⟨_, _, rfl⟩
    have HKE := Lib.hid hke
    clear hke
    have zHG_0 : W2.cell? ⟨w1.heap.size, 0, none⟩ = some (.slice Ag ng cg) := HG.out.cell 0
    have zHG_1 : W2.cell? ⟨w1.heap.size, 1, none⟩ = some (.int .i64 gk) := HG.out.cell 1
    refine (skey_any Ag G ng cg gk Ar Q m cr W2 HNG.out (by omega) (by omega) hngc hmr HVG.out HNM.out HRR.out (fun x hx => (HFM.out x hx).1) HTB.out).mono ?_
    rintro e w3 ⟨rfl, hb⟩
    clear zHG_0 zHG_1
    replace HB := Lib.hid (HB.out.trans (hb.out.mono HB.out.size))
    replace HTB := Lib.hid (HTB.out.below hb.out)
    replace HRR := Lib.hid (HRR.out.below hb.out)
    replace HVG := Lib.hid (HVG.out.below hb.out)
    replace HG := Lib.hid (HG.out.below hb.out HG.out.lt)
    rw [skT_keyT HGS.out, HKE.out]
    clear hb
    have zHG_0 : w3.cell? ⟨w1.heap.size, 0, none⟩ = some (.slice Ag ng cg) := HG.out.cell 0
    have zHG_1 : w3.cell? ⟨w1.heap.size, 1, none⟩ = some (.int .i64 gk) := HG.out.cell 1
    go_wp2_with fail
    refine (rkey_any Ag G ng cg gk Ar Q m cr w3 HNG.out (by omega) (by omega) (by omega) hmr HVG.out HNM.out HRR.out (fun x hx => (HFM.out x hx).1)).mono ?_
    rintro e w4 ⟨rfl, hb⟩
    clear zHG_0 zHG_1
    replace HB := Lib.hid (HB.out.trans (hb.out.mono HB.out.size))
    replace HTB := Lib.hid (HTB.out.below hb.out)
    replace HRR := Lib.hid (HRR.out.below hb.out)
    replace HVG := Lib.hid (HVG.out.below hb.out)
    replace HG := Lib.hid (HG.out.below hb.out HG.out.lt)
    rw [HKE.out]
    clear hb
    have hsq : (ks.toList != ks.toList) = false := by simp
    have heq : (ke != ke) = false := by simp
    have zHG_0 : w4.cell? ⟨w1.heap.size, 0, none⟩ = some (.slice Ag ng cg) := HG.out.cell 0
    have zHG_1 : w4.cell? ⟨w1.heap.size, 1, none⟩ = some (.int .i64 gk) := HG.out.cell 1
    go_wp2_with fail
    refine (row_any Ag G ng cg gk Ar Q m cr w4 HNG.out (by omega) HVG.out (fun x hx => (HFIT.out x hx).2.2.2) HNM.out hmr hcmr HRR.out HFM.out).mono ?_
    rintro e w5 ⟨v5, rfl, ho5, hb⟩
    clear zHG_0 zHG_1
    replace HB := Lib.hid (HB.out.trans (hb.out.mono HB.out.size))
    replace HTB := Lib.hid (HTB.out.below hb.out)
    replace HRR := Lib.hid (HRR.out.below hb.out)
    replace HVG := Lib.hid (HVG.out.below hb.out)
    replace HG := Lib.hid (HG.out.below hb.out HG.out.lt)
    clear hb
    have hlR := rowF_len G Q
    rw [HNG.out] at hlR
    have hrw := rowF_fits G Q (fun x hx => ⟨(HFIT.out x hx).2.1, (HFIT.out x hx).2.2.1⟩)
    have hfw := rowF_fit G Q (fun x hx => ⟨(HFIT.out x hx).2.1, (HFIT.out x hx).2.2.1⟩) HFM.out
    have hsz := rowF_size G Q
    have hg1r := row_good1 hrw hfw gk (by rw [HNG.out]; omega)
    have hbr := (begins_row HGS.out hrw).2 hg1r
    have HFW := Lib.hid hfw
    have HLR := Lib.hid hlR
    have HBR := Lib.hid hbr
    have hkl : (bs (keys ((rowF G Q).take gk))).size ≤ 900 := by
      rw [bs_size]
      have h1 := goods_keys ((rowF G Q).take gk) (fun x hx => hsz x (List.mem_of_mem_take hx))
      rw [List.length_take] at h1
      have h2 : min gk (rowF G Q).length ≤ 3 := by omega
      have h3 := Nat.mul_le_mul_left 89 h2
      omega
    have HKS : Hid (sb (bs (keys ((rowF G Q).take gk))) = keys ((rowF G Q).take gk)) := sb_bs _ (keys_byte _)
    have HKT : Hid (keyT G (rowF G Q) gk = .tuple #[.string (bs (keys ((rowF G Q).take gk))), .int .i64 0]) := by show _ = _; unfold keyT; rw [if_pos hbr.2.1]
    clear hlR hrw hfw hsz hg1r hbr hsq heq
    generalize rowF G Q = RF at *
    generalize bs (keys (RF.take gk)) = kb at *
    obtain ⟨A5, n5, c5, rfl, HN5, hnc5, hcm5, HV5, _⟩ := ownV_open ho5.out
    obtain rfl : ng = n5 := HLR.out.symm.trans HN5.out
    clear ho5
    have zHG_0 : w5.cell? ⟨w1.heap.size, 0, none⟩ = some (.slice Ag ng cg) := HG.out.cell 0
    have zHG_1 : w5.cell? ⟨w1.heap.size, 1, none⟩ = some (.int .i64 gk) := HG.out.cell 1
    go_wp2_with fail
    refine (skey_any Ag G ng cg gk A5 RF ng c5 w5 HNG.out (by omega) (by omega) hngc hnc5 HVG.out HLR.out HV5.out (fun x hx => (HFW.out x hx).1) HTB.out).mono ?_
    rintro e w6 ⟨rfl, hb⟩
    clear zHG_0 zHG_1
    replace HB := Lib.hid (HB.out.trans (hb.out.mono HB.out.size))
    replace HTB := Lib.hid (HTB.out.below hb.out)
    replace HRR := Lib.hid (HRR.out.below hb.out)
    replace HVG := Lib.hid (HVG.out.below hb.out)
    replace HG := Lib.hid (HG.out.below hb.out HG.out.lt)
    replace HV5 := Lib.hid (HV5.out.below hb.out)
    rw [skT_keyT HGS.out, HKT.out]
    clear hb
    have zHG_0 : w6.cell? ⟨w1.heap.size, 0, none⟩ = some (.slice Ag ng cg) := HG.out.cell 0
    have zHG_1 : w6.cell? ⟨w1.heap.size, 1, none⟩ = some (.int .i64 gk) := HG.out.cell 1
    go_wp2_with fail
    refine (part_any Ag G ng cg gk kb w6 HNG.out (by omega) (by omega) hngc HVG.out hkl HTB.out).mono ?_
    rintro e w7 ⟨hp, hb⟩
    clear zHG_0 zHG_1
    replace HB := Lib.hid (HB.out.trans (hb.out.mono HB.out.size))
    replace HTB := Lib.hid (HTB.out.below hb.out)
    replace HRR := Lib.hid (HRR.out.below hb.out)
    replace HVG := Lib.hid (HVG.out.below hb.out)
    replace HG := Lib.hid (HG.out.below hb.out HG.out.lt)
    replace HV5 := Lib.hid (HV5.out.below hb.out)
    clear hb
    rcases hp with ⟨L7, v7, g7, _, l7, k7, _, rfl, ho7⟩ | ⟨hno, _⟩
    rotate_left
    · exact absurd (hno _ HBR.out.2.2 (by rw [List.length_take, HLR.out]; omega) HKS.out.symm) (by rw [HBR.out.1]; simp)
    obtain rfl : L7 = RF.take gk := keys_inj g7 HBR.out.2.2 (k7.trans HKS.out)
    obtain ⟨A7, n7, c7, rfl, HN7, hnc7, hcm7, HV7, _⟩ := ownV_open ho7
    have HL7 := Lib.hid l7
    obtain rfl : gk = n7 := HL7.out.symm.trans HN7.out
    clear g7 l7 k7 ho7
    have hz0 : (0 : Int) ≤ (gk : Int) := by omega
    have hz1 : (gk : Int) ≤ (c5 : Int) := by omega
    have zHG_0 : w7.cell? ⟨w1.heap.size, 0, none⟩ = some (.slice Ag ng cg) := HG.out.cell 0
    have zHG_1 : w7.cell? ⟨w1.heap.size, 1, none⟩ = some (.int .i64 gk) := HG.out.cell 1
    go_wp2_with fail
    refine (same_any A7 gk c7 A5 c5 (RF.take gk) w7 HL7.out (by omega) HV7.out (HV5.out.takeK gk)).mono ?_
    rintro e w8 ⟨rfl, hb⟩
    clear zHG_0 zHG_1
    replace HB := Lib.hid (HB.out.trans (hb.out.mono HB.out.size))
    replace HTB := Lib.hid (HTB.out.below hb.out)
    replace HRR := Lib.hid (HRR.out.below hb.out)
    replace HVG := Lib.hid (HVG.out.below hb.out)
    replace HG := Lib.hid (HG.out.below hb.out HG.out.lt)
    replace HV5 := Lib.hid (HV5.out.below hb.out)
    replace HV7 := Lib.hid (HV7.out.below hb.out)
    clear hb
    go_wp2_with fail
    refine (lives4_any _).mono ?_
    rintro e w9 ⟨rfl, hb⟩
    replace HB := Lib.hid (HB.out.trans (hb.out.mono HB.out.size))
    replace HTB := Lib.hid (HTB.out.below hb.out)
    replace HRR := Lib.hid (HRR.out.below hb.out)
    replace HVG := Lib.hid (HVG.out.below hb.out)
    replace HG := Lib.hid (HG.out.below hb.out HG.out.lt)
    replace HV5 := Lib.hid (HV5.out.below hb.out)
    replace HV7 := Lib.hid (HV7.out.below hb.out)
    clear hb
    go_wp2_with fail
    go_ret
    exact ⟨rfl, HB.out⟩
  · obtain ⟨m, hm⟩ : ∃ m, m = nr := ⟨_, rfl⟩
    have hmr : m ≤ cr := by omega
    have hm20 : m ≤ 20 := by omega
    have HNM : Hid (R.length = m) := by show _ = _; rw [HNR.out, hm]
    have HFM := HFR
    obtain ⟨Q, hQ⟩ : ∃ Q, Q = R := ⟨_, rfl⟩
    subst hQ
    have hz1 : ¬ (20 : Int) < (nr : Int) := by omega
    have zHG_0 : (w1.alloc (.cells #[.slice Ag ng cg, .int .i64 gk] 24)).cell? ⟨w1.heap.size, 0, none⟩ = some (.slice Ag ng cg) := HG.out.cell 0
    have zHG_1 : (w1.alloc (.cells #[.slice Ag ng cg, .int .i64 gk] 24)).cell? ⟨w1.heap.size, 1, none⟩ = some (.int .i64 gk) := HG.out.cell 1
    go_wp2_with fail
    clear zHG_0 zHG_1
    obtain ⟨W2, hW1⟩ : ∃ W, W = (w1.alloc (.cells #[.slice Ag ng cg, .int .i64 gk] 24)) := ⟨_, rfl⟩
    rw [← hW1] at HB HTB HRR HVG HG ⊢
    clear hW1
    rw [show Value.slice Ar nr cr = .slice Ar m cr by rw [hm]]
    clear hm hz1
    obtain ⟨ks, ke, hke⟩ : ∃ (ks : ByteArray) (ke : Int), keyT G Q gk = .tuple #[.string ks, .int .i64 ke] := by unfold keyT; split <;> exact ⟨_, _, rfl⟩
    have HKE := Lib.hid hke
    clear hke
    have zHG_0 : W2.cell? ⟨w1.heap.size, 0, none⟩ = some (.slice Ag ng cg) := HG.out.cell 0
    have zHG_1 : W2.cell? ⟨w1.heap.size, 1, none⟩ = some (.int .i64 gk) := HG.out.cell 1
    refine (skey_any Ag G ng cg gk Ar Q m cr W2 HNG.out (by omega) (by omega) hngc hmr HVG.out HNM.out HRR.out (fun x hx => (HFM.out x hx).1) HTB.out).mono ?_
    rintro e w3 ⟨rfl, hb⟩
    clear zHG_0 zHG_1
    replace HB := Lib.hid (HB.out.trans (hb.out.mono HB.out.size))
    replace HTB := Lib.hid (HTB.out.below hb.out)
    replace HRR := Lib.hid (HRR.out.below hb.out)
    replace HVG := Lib.hid (HVG.out.below hb.out)
    replace HG := Lib.hid (HG.out.below hb.out HG.out.lt)
    rw [skT_keyT HGS.out, HKE.out]
    clear hb
    have zHG_0 : w3.cell? ⟨w1.heap.size, 0, none⟩ = some (.slice Ag ng cg) := HG.out.cell 0
    have zHG_1 : w3.cell? ⟨w1.heap.size, 1, none⟩ = some (.int .i64 gk) := HG.out.cell 1
    go_wp2_with fail
    refine (rkey_any Ag G ng cg gk Ar Q m cr w3 HNG.out (by omega) (by omega) (by omega) hmr HVG.out HNM.out HRR.out (fun x hx => (HFM.out x hx).1)).mono ?_
    rintro e w4 ⟨rfl, hb⟩
    clear zHG_0 zHG_1
    replace HB := Lib.hid (HB.out.trans (hb.out.mono HB.out.size))
    replace HTB := Lib.hid (HTB.out.below hb.out)
    replace HRR := Lib.hid (HRR.out.below hb.out)
    replace HVG := Lib.hid (HVG.out.below hb.out)
    replace HG := Lib.hid (HG.out.below hb.out HG.out.lt)
    rw [HKE.out]
    clear hb
    have hsq : (ks.toList != ks.toList) = false := by simp
    have heq : (ke != ke) = false := by simp
    have zHG_0 : w4.cell? ⟨w1.heap.size, 0, none⟩ = some (.slice Ag ng cg) := HG.out.cell 0
    have zHG_1 : w4.cell? ⟨w1.heap.size, 1, none⟩ = some (.int .i64 gk) := HG.out.cell 1
    go_wp2_with fail
    refine (row_any Ag G ng cg gk Ar Q m cr w4 HNG.out (by omega) HVG.out (fun x hx => (HFIT.out x hx).2.2.2) HNM.out hmr hcmr HRR.out HFM.out).mono ?_
    rintro e w5 ⟨v5, rfl, ho5, hb⟩
    clear zHG_0 zHG_1
    replace HB := Lib.hid (HB.out.trans (hb.out.mono HB.out.size))
    replace HTB := Lib.hid (HTB.out.below hb.out)
    replace HRR := Lib.hid (HRR.out.below hb.out)
    replace HVG := Lib.hid (HVG.out.below hb.out)
    replace HG := Lib.hid (HG.out.below hb.out HG.out.lt)
    clear hb
    have hlR := rowF_len G Q
    rw [HNG.out] at hlR
    have hrw := rowF_fits G Q (fun x hx => ⟨(HFIT.out x hx).2.1, (HFIT.out x hx).2.2.1⟩)
    have hfw := rowF_fit G Q (fun x hx => ⟨(HFIT.out x hx).2.1, (HFIT.out x hx).2.2.1⟩) HFM.out
    have hsz := rowF_size G Q
    have hg1r := row_good1 hrw hfw gk (by rw [HNG.out]; omega)
    have hbr := (begins_row HGS.out hrw).2 hg1r
    have HFW := Lib.hid hfw
    have HLR := Lib.hid hlR
    have HBR := Lib.hid hbr
    have hkl : (bs (keys ((rowF G Q).take gk))).size ≤ 900 := by
      rw [bs_size]
      have h1 := goods_keys ((rowF G Q).take gk) (fun x hx => hsz x (List.mem_of_mem_take hx))
      rw [List.length_take] at h1
      have h2 : min gk (rowF G Q).length ≤ 3 := by omega
      have h3 := Nat.mul_le_mul_left 89 h2
      omega
    have HKS : Hid (sb (bs (keys ((rowF G Q).take gk))) = keys ((rowF G Q).take gk)) := sb_bs _ (keys_byte _)
    have HKT : Hid (keyT G (rowF G Q) gk = .tuple #[.string (bs (keys ((rowF G Q).take gk))), .int .i64 0]) := by show _ = _; unfold keyT; rw [if_pos hbr.2.1]
    clear hlR hrw hfw hsz hg1r hbr hsq heq
    generalize rowF G Q = RF at *
    generalize bs (keys (RF.take gk)) = kb at *
    obtain ⟨A5, n5, c5, rfl, HN5, hnc5, hcm5, HV5, _⟩ := ownV_open ho5.out
    obtain rfl : ng = n5 := HLR.out.symm.trans HN5.out
    clear ho5
    have zHG_0 : w5.cell? ⟨w1.heap.size, 0, none⟩ = some (.slice Ag ng cg) := HG.out.cell 0
    have zHG_1 : w5.cell? ⟨w1.heap.size, 1, none⟩ = some (.int .i64 gk) := HG.out.cell 1
    go_wp2_with fail
    refine (skey_any Ag G ng cg gk A5 RF ng c5 w5 HNG.out (by omega) (by omega) hngc hnc5 HVG.out HLR.out HV5.out (fun x hx => (HFW.out x hx).1) HTB.out).mono ?_
    rintro e w6 ⟨rfl, hb⟩
    clear zHG_0 zHG_1
    replace HB := Lib.hid (HB.out.trans (hb.out.mono HB.out.size))
    replace HTB := Lib.hid (HTB.out.below hb.out)
    replace HRR := Lib.hid (HRR.out.below hb.out)
    replace HVG := Lib.hid (HVG.out.below hb.out)
    replace HG := Lib.hid (HG.out.below hb.out HG.out.lt)
    replace HV5 := Lib.hid (HV5.out.below hb.out)
    rw [skT_keyT HGS.out, HKT.out]
    clear hb
    have zHG_0 : w6.cell? ⟨w1.heap.size, 0, none⟩ = some (.slice Ag ng cg) := HG.out.cell 0
    have zHG_1 : w6.cell? ⟨w1.heap.size, 1, none⟩ = some (.int .i64 gk) := HG.out.cell 1
    go_wp2_with fail
    refine (part_any Ag G ng cg gk kb w6 HNG.out (by omega) (by omega) hngc HVG.out hkl HTB.out).mono ?_
    rintro e w7 ⟨hp, hb⟩
    clear zHG_0 zHG_1
    replace HB := Lib.hid (HB.out.trans (hb.out.mono HB.out.size))
    replace HTB := Lib.hid (HTB.out.below hb.out)
    replace HRR := Lib.hid (HRR.out.below hb.out)
    replace HVG := Lib.hid (HVG.out.below hb.out)
    replace HG := Lib.hid (HG.out.below hb.out HG.out.lt)
    replace HV5 := Lib.hid (HV5.out.below hb.out)
    clear hb
    rcases hp with ⟨L7, v7, g7, _, l7, k7, _, rfl, ho7⟩ | ⟨hno, _⟩
    rotate_left
    · exact absurd (hno _ HBR.out.2.2 (by rw [List.length_take, HLR.out]; omega) HKS.out.symm) (by rw [HBR.out.1]; simp)
    obtain rfl : L7 = RF.take gk := keys_inj g7 HBR.out.2.2 (k7.trans HKS.out)
    obtain ⟨A7, n7, c7, rfl, HN7, hnc7, hcm7, HV7, _⟩ := ownV_open ho7
    have HL7 := Lib.hid l7
    obtain rfl : gk = n7 := HL7.out.symm.trans HN7.out
    clear g7 l7 k7 ho7
    have hz0 : (0 : Int) ≤ (gk : Int) := by omega
    have hz1 : (gk : Int) ≤ (c5 : Int) := by omega
    have zHG_0 : w7.cell? ⟨w1.heap.size, 0, none⟩ = some (.slice Ag ng cg) := HG.out.cell 0
    have zHG_1 : w7.cell? ⟨w1.heap.size, 1, none⟩ = some (.int .i64 gk) := HG.out.cell 1
    go_wp2_with fail
    refine (same_any A7 gk c7 A5 c5 (RF.take gk) w7 HL7.out (by omega) HV7.out (HV5.out.takeK gk)).mono ?_
    rintro e w8 ⟨rfl, hb⟩
    clear zHG_0 zHG_1
    replace HB := Lib.hid (HB.out.trans (hb.out.mono HB.out.size))
    replace HTB := Lib.hid (HTB.out.below hb.out)
    replace HRR := Lib.hid (HRR.out.below hb.out)
    replace HVG := Lib.hid (HVG.out.below hb.out)
    replace HG := Lib.hid (HG.out.below hb.out HG.out.lt)
    replace HV5 := Lib.hid (HV5.out.below hb.out)
    replace HV7 := Lib.hid (HV7.out.below hb.out)
    clear hb
    go_wp2_with fail
    refine (lives4_any _).mono ?_
    rintro e w9 ⟨rfl, hb⟩
    replace HB := Lib.hid (HB.out.trans (hb.out.mono HB.out.size))
    replace HTB := Lib.hid (HTB.out.below hb.out)
    replace HRR := Lib.hid (HRR.out.below hb.out)
    replace HVG := Lib.hid (HVG.out.below hb.out)
    replace HG := Lib.hid (HG.out.below hb.out HG.out.lt)
    replace HV5 := Lib.hid (HV5.out.below hb.out)
    replace HV7 := Lib.hid (HV7.out.below hb.out)
    clear hb
    go_wp2_with fail
    go_ret
    exact ⟨rfl, HB.out⟩
end Go.Proofs.YticfhjimbochlaaDoor.schemaKeys
