/-
  The law SchemaParts walked: the values of a key.
-/
import Derived.Test.YticfhjimbochlaaDoorGood4
import Derived.Test.YticfhjimbochlaaDoorLives4
import Derived.Test.YticfhjimbochlaaDoorGoods
import Derived.Test.YticfhjimbochlaaDoorPartO
namespace Go.Proofs.YticfhjimbochlaaDoor.schemaParts
open Go.RowKit Dg
set_option maxHeartbeats 16000000 in
set_option maxRecDepth 100000 in
theorem walk (A : Option Addr) (n c : Nat) (L : List Cl) (K : Int) (key : ByteArray) (Ar : Option Addr) (nr cr : Nat) (R : List Vl) (w : World) (hn : L.length = n) (hnc : n ≤ c) (hcm : c ≤ maxLen) (hA : CRow w A L) (hf : ∀ x ∈ L, x.fit) (hk0 : -9223372036854775808 ≤ K) (hk1 : K ≤ 9223372036854775807) (_hkey : key.size ≤ 140737488355328) (hnr : R.length = nr) (hncr : nr ≤ cr) (hcmr : cr ≤ maxLen) (hR : VRow w Ar R) (hfr : ∀ x ∈ R, x.fits) (hTb : Tabs w) :
    Calls Tryd.prog 5 #[.agg #[.slice A n c, .int .i64 K], .string key, .slice Ar nr cr] w fun e w' => e = .returned (.bool true) ∧ Below w.heap.size w w' := by
  have HB := Lib.hid ((Below.refl w.heap.size w).alloc (Nat.le_refl _) (.cells #[.slice A n c, .int .i64 K] 24))
  have HC1 := Lib.hid (rgood_any A L n c K (w.alloc (.cells #[.slice A n c, .int .i64 K] 24)) hn hnc hcm (hA.below HB.out) hf hk0 hk1)
  have HGS := Lib.hid (goodS_is L K)
  have hs0 : (w.alloc (.cells #[.slice A n c, .int .i64 K] 24)).heap.size = w.heap.size + 1 := by simp
  rw [hs0] at HC1
  have HNR := Lib.hid hnr
  have HRR := Lib.hid (hR.below HB.out)
  have HFR := Lib.hid hfr
  clear hnr hR hfr
  have HTB := Lib.hid (hTb.below HB.out)
  clear hs0 hn hnc hcm hA hf hTb
  go_enter Tryd.func5, Tryd.ntmps5
  go_wp2_with fail
  refine HC1.out.mono ?_
  rintro e w1 ⟨v1, rfl, ho1, hb⟩
  generalize gdC L K = G at *
  generalize gdK L K = gk at *
  obtain ⟨Ag, ng, cg, rfl, HNG, hngc, hcgm, HVG, HZG⟩ := ownC_open ho1.out
  have HFIT := Lib.hid (goodS_fit G gk HGS.out)
  have hlen := HGS.out.len
  have hkeys := HGS.out.keys
  rw [HNG.out] at hlen hkeys
  obtain ⟨hl1, hl6⟩ := hlen
  obtain ⟨hg1, hgn, hg3⟩ := hkeys
  replace HB := Lib.hid (HB.out.trans (hb.out.mono (by simp)))
  replace HTB := Lib.hid (HTB.out.below (hb.out.mono (by simp)))
  replace HRR := Lib.hid (HRR.out.below (hb.out.mono (by simp)))
  clear hb ho1 HC1 HZG
  have hb : Below w1.heap.size w1 (w1.alloc (.cells #[.slice Ag ng cg, .int .i64 gk] 24)) := (Below.refl _ _).alloc (Nat.le_refl _) _
  replace HB := Lib.hid (HB.out.trans (hb.mono HB.out.size))
  replace HTB := Lib.hid (HTB.out.below hb)
  replace HRR := Lib.hid (HRR.out.below hb)
  replace HVG := Lib.hid (HVG.out.below hb)
  clear hb
  have HG := Lib.hid (Has.new w1 24 #[.slice Ag ng cg, .int .i64 gk])
  by_cases hz : 60 < key.size
  · have hxs : (key.extract 0 60).size ≤ 60 := by rw [ByteArray.size_extract]; omega
    have hz1 : (60 : Int) < (key.size : Int) := by omega
    have zHG_0 : (w1.alloc (.cells #[.slice Ag ng cg, .int .i64 gk] 24)).cell? ⟨w1.heap.size, 0, none⟩ = some (.slice Ag ng cg) := HG.out.cell 0
    have zHG_1 : (w1.alloc (.cells #[.slice Ag ng cg, .int .i64 gk] 24)).cell? ⟨w1.heap.size, 1, none⟩ = some (.int .i64 gk) := HG.out.cell 1
    go_wp2_with fail
    clear zHG_0 zHG_1
    generalize key.extract 0 60 = sx at *
    obtain ⟨W2, hW1⟩ : ∃ W, W = (w1.alloc (.cells #[.slice Ag ng cg, .int .i64 gk] 24)) := ⟨_, rfl⟩
    rw [← hW1] at HB HTB HRR HVG HG ⊢
    clear hW1
    refine (goods_any Ar R nr cr 4 W2 HNR.out (by omega) hncr hcmr HRR.out HFR.out).mono ?_
    rintro e w3 ⟨v3, rfl, ho3, hb⟩
    replace HB := Lib.hid (HB.out.trans (hb.out.mono HB.out.size))
    replace HTB := Lib.hid (HTB.out.below hb.out)
    replace HRR := Lib.hid (HRR.out.below hb.out)
    replace HVG := Lib.hid (HVG.out.below hb.out)
    replace HG := Lib.hid (HG.out.below hb.out HG.out.lt)
    clear hb
    have HVM : Hid (∀ x ∈ goods R 4, x.may = true) := goods_may R 4
    have HVF : Hid (∀ x ∈ goods R 4, x.fits) := goods_fits R 4 HFR.out
    have hv1 : (goods R 4).length ≤ 4 := by rw [goods_len]; omega
    have hv2 : ∀ x ∈ goods R 4, x.s.size ≤ 40 := fun x hx => by
      unfold goods at hx
      obtain ⟨y, _, rfl⟩ := List.mem_map.1 hx
      exact good_size y
    have hv3 : (bs (keys (goods R 4))).size ≤ 900 := by
      rw [bs_size]
      have := goods_keys (goods R 4) hv2
      omega
    have HVK : Hid (keys (goods R 4) = sb (bs (keys (goods R 4)))) := (sb_bs _ (keys_byte _)).symm
    have ho4 : Hid (OwnV W2.heap.size w3 v3 (goods R 4)) := ho3.out
    clear hv2 ho3
    generalize goods R 4 = V at *
    obtain ⟨A3, n3, c3, rfl, HN3, hnc3, hcm3, HV3, _⟩ := ownV_open ho4.out
    rw [HN3.out] at hv1
    obtain ⟨kv, hkv⟩ : ∃ kv, bs (keys V) = kv := ⟨_, rfl⟩
    rw [hkv] at hv3 HVK
    have HKV := Lib.hid hkv
    clear ho4 hkv
    go_wp2_with fail
    refine (refKey_any A3 V n3 c3 w3 HN3.out (by omega) HV3.out (fun x hx => (HVF.out x hx).1) HVM.out).mono ?_
    rintro e w4 ⟨rfl, hb⟩
    replace HB := Lib.hid (HB.out.trans (hb.out.mono HB.out.size))
    replace HTB := Lib.hid (HTB.out.below hb.out)
    replace HRR := Lib.hid (HRR.out.below hb.out)
    replace HVG := Lib.hid (HVG.out.below hb.out)
    replace HG := Lib.hid (HG.out.below hb.out HG.out.lt)
    replace HV3 := Lib.hid (HV3.out.below hb.out)
    rw [HKV.out]
    clear hb
    have hb : Below w4.heap.size w4 (w4.alloc (.cells #[.string sx, .string kv] 9)) := (Below.refl _ _).alloc (Nat.le_refl _) _
    replace HB := Lib.hid (HB.out.trans (hb.mono HB.out.size))
    replace HTB := Lib.hid (HTB.out.below hb)
    replace HRR := Lib.hid (HRR.out.below hb)
    replace HVG := Lib.hid (HVG.out.below hb)
    replace HG := Lib.hid (HG.out.below hb HG.out.lt)
    replace HV3 := Lib.hid (HV3.out.below hb)
    clear hb
    have HKK := Lib.hid (Has.new w4 9 #[.string sx, .string kv])
    go_wp2_with fail
    go_loopw [10] (fun i wr => ∃ k : Nat, k ≤ 2 ∧ i = .int .i64 k ∧ Hid (Below w.heap.size w wr) ∧ Hid (Tabs wr) ∧ Hid (CRow wr Ag G) ∧ Hid (Has wr w1.heap.size 24 #[.slice Ag ng cg, .int .i64 gk]) ∧ Hid (Has wr w4.heap.size 9 #[.string sx, .string kv]) ∧ Hid (VRow wr A3 V)) (fun i _ => 2 - (intOf i).toNat)
    case atStart => exact ⟨0, by omega, rfl, HB, HTB, HVG, HG, HKK, HV3⟩
    case round =>
      clear HB HTB HVG HG HKK HV3
      obtain ⟨k, hk, rfl, HB, HTB, HVG, HG, HKK, HV3⟩ := hrel
      by_cases hlt : k < 2
      · obtain ⟨sk, hsk, hss⟩ : ∃ sk : ByteArray, wr.cell? ⟨w4.heap.size, k, none⟩ = some (.string sk) ∧ sk.size ≤ 900 := by
          have : k = 0 ∨ k = 1 := by omega
          rcases this with rfl | rfl
          · exact ⟨sx, HKK.out.cell 0, by omega⟩
          · exact ⟨kv, HKK.out.cell 1, hv3⟩
        have hkz : (k : Int) < 2 := by omega
        have hk0 : (0 : Int) ≤ (k : Int) := by omega
        have zHG_0 : wr.cell? ⟨w1.heap.size, 0, none⟩ = some (.slice Ag ng cg) := HG.out.cell 0
        have zHG_1 : wr.cell? ⟨w1.heap.size, 1, none⟩ = some (.int .i64 gk) := HG.out.cell 1
        go_wp2_with fail
        have hd0 : Hid (Below wr.heap.size wr wr.drew) := (Below.refl _ wr).drew
        have HCP := Lib.hid (fun (X : World) (hb : Hid (Below wr.heap.size wr X)) => (part_any Ag G ng cg gk sk X HNG.out (by omega) (by omega) hngc (HVG.out.below hb.out) hss (HTB.out.below hb.out)).mono (R' := fun e w' => (∃ A n c pe, e = .returned (.tuple #[.slice A n c, .int .i64 pe]) ∧ PartO G gk sk w' A n c pe) ∧ Hid (Below wr.heap.size wr w')) fun e w' h => ⟨partR_open h.1, hb.out.trans (h.2.out.mono hb.out.size)⟩)
        go_region_held3 (fun X => Hid (Below wr.heap.size wr X) ∧ X.cell? ⟨w1.heap.size, 0, none⟩ = some (.slice Ag ng cg) ∧ X.cell? ⟨w1.heap.size, 1, none⟩ = some (.int .i64 gk) ∧ X.cell? ⟨w4.heap.size, k, none⟩ = some (.string sk)) ((first | assumption | (refine ⟨by assumption, ?_⟩; go_keep))) (first
          | (go_at_call 15; (with_reducible refine (HCP.out _ (by first | assumption | exact And.left (by assumption))).mono ?_); rintro e x ⟨⟨pA, pn, pc, pe, rfl, hpo⟩, hd⟩; have HPO := Lib.hid hpo; clear hpo; have kzHG_0 := keepC hd.out zHG_0; have kzHG_1 := keepC hd.out zHG_1; have khsk := keepC hd.out hsk))
        clear HCP hd0 hsk zHG_0 zHG_1
        replace HB := Lib.hid (HB.out.trans (hd.out.mono HB.out.size))
        replace HTB := Lib.hid (HTB.out.below hd.out)
        replace HVG := Lib.hid (HVG.out.below hd.out)
        replace HG := Lib.hid (HG.out.below hd.out HG.out.lt)
        replace HKK := Lib.hid (HKK.out.below hd.out HKK.out.lt)
        replace HV3 := Lib.hid (HV3.out.below hd.out)
        rcases HPO.out with ⟨rfl, hpn, L7, g7, f7, l7, m7, k7, b7, r7⟩ | ⟨rfl, rfl, hno⟩
        · obtain rfl : gk = pn := hpn.symm
          have H7 := Lib.hid l7
          have G7 := Lib.hid g7
          have R7 := Lib.hid r7
          have KT := Lib.hid (key_of_part HGS.out g7 l7 k7 b7)
          clear l7 g7 r7 f7 k7 b7 HPO
          go_wp2_with fail
          refine (rkey_any Ag G ng cg gk pA L7 gk pc x HNG.out (by omega) (by omega) (by omega) m7 HVG.out H7.out R7.out (fun v hv => (G7.out v hv).2)).mono ?_
          rintro e w6 ⟨rfl, hb⟩
          replace HB := Lib.hid (HB.out.trans (hb.out.mono HB.out.size))
          replace HTB := Lib.hid (HTB.out.below hb.out)
          replace HVG := Lib.hid (HVG.out.below hb.out)
          replace HG := Lib.hid (HG.out.below hb.out HG.out.lt)
          replace HKK := Lib.hid (HKK.out.below hb.out HKK.out.lt)
          replace HV3 := Lib.hid (HV3.out.below hb.out)
          replace R7 := Lib.hid (R7.out.below hb.out)
          rw [KT.out]
          have kk2 := keepC (show Below x.heap.size x w6 from hb.out) khsk
          clear hb
          have zHG_0 : w6.cell? ⟨w1.heap.size, 0, none⟩ = some (.slice Ag ng cg) := HG.out.cell 0
          have zHG_1 : w6.cell? ⟨w1.heap.size, 1, none⟩ = some (.int .i64 gk) := HG.out.cell 1
          have hsq : (sk.toList != sk.toList) = false := by simp
          go_wp2_with fail
          go_roundw
          case rel => exact ⟨k + 1, by omega, by go_num, HB, HTB, HVG, HG, HKK, HV3⟩
          case measure => simp [intOf]; omega
        · clear hno HPO
          go_wp2_with fail
          go_roundw
          case rel => exact ⟨k + 1, by omega, by go_num, HB, HTB, HVG, HG, HKK, HV3⟩
          case measure => simp [intOf]; omega
      · obtain rfl : k = 2 := by omega
        obtain ⟨ks, ke, hke, hk0⟩ : ∃ (ks : ByteArray) (ke : Int), keyT G V gk = .tuple #[.string ks, .int .i64 ke] ∧ ((ke = 0) = (keyOk G V gk = true)) := by
          unfold keyT
          split
          · rename_i h; exact ⟨_, _, rfl, by simp [h]⟩
          · rename_i h; exact ⟨_, _, rfl, by simp [h]⟩
        have HKE := Lib.hid hke
        have HK0 := Lib.hid hk0
        clear hke hk0
        have zHG_0 : wr.cell? ⟨w1.heap.size, 0, none⟩ = some (.slice Ag ng cg) := HG.out.cell 0
        have zHG_1 : wr.cell? ⟨w1.heap.size, 1, none⟩ = some (.int .i64 gk) := HG.out.cell 1
        go_wp2_with fail
        refine (rkey_any Ag G ng cg gk A3 V n3 c3 wr HNG.out (by omega) (by omega) (by omega) hnc3 HVG.out HN3.out HV3.out (fun x hx => (HVF.out x hx).1)).mono ?_
        rintro e w6 ⟨rfl, hb⟩
        clear zHG_0 zHG_1
        replace HB := Lib.hid (HB.out.trans (hb.out.mono HB.out.size))
        replace HTB := Lib.hid (HTB.out.below hb.out)
        replace HVG := Lib.hid (HVG.out.below hb.out)
        replace HG := Lib.hid (HG.out.below hb.out HG.out.lt)
        replace HKK := Lib.hid (HKK.out.below hb.out HKK.out.lt)
        replace HV3 := Lib.hid (HV3.out.below hb.out)
        rw [HKE.out]
        clear hb
        have zHG_0 : w6.cell? ⟨w1.heap.size, 0, none⟩ = some (.slice Ag ng cg) := HG.out.cell 0
        have zHG_1 : w6.cell? ⟨w1.heap.size, 1, none⟩ = some (.int .i64 gk) := HG.out.cell 1
        have hk1 : w6.cell? ⟨w4.heap.size, 1, none⟩ = some (.string kv) := HKK.out.cell 1
        go_wp2_with fail
        have hd0 : Hid (Below w6.heap.size w6 w6.drew) := (Below.refl _ w6).drew
        have HCP := Lib.hid (fun (X : World) (hb : Hid (Below w6.heap.size w6 X)) => (part_any Ag G ng cg gk kv X HNG.out (by omega) (by omega) hngc (HVG.out.below hb.out) hv3 (HTB.out.below hb.out)).mono (R' := fun e w' => (∃ A n c pe, e = .returned (.tuple #[.slice A n c, .int .i64 pe]) ∧ PartO G gk kv w' A n c pe) ∧ Hid (Below w6.heap.size w6 w')) fun e w' h => ⟨partR_open h.1, hb.out.trans (h.2.out.mono hb.out.size)⟩)
        go_region_held3 (fun X => Hid (Below w6.heap.size w6 X) ∧ X.cell? ⟨w1.heap.size, 0, none⟩ = some (.slice Ag ng cg) ∧ X.cell? ⟨w1.heap.size, 1, none⟩ = some (.int .i64 gk) ∧ X.cell? ⟨w4.heap.size, 1, none⟩ = some (.string kv)) ((first | assumption | (refine ⟨by assumption, ?_⟩; go_keep))) (first
          | (go_at_call 15; (with_reducible refine (HCP.out _ (by first | assumption | exact And.left (by assumption))).mono ?_); rintro e x ⟨⟨pA, pn, pc, pe, rfl, hpo⟩, hd⟩; have HPO := Lib.hid hpo; clear hpo; have kzHG_0 := keepC hd.out zHG_0; have kzHG_1 := keepC hd.out zHG_1; have khk1 := keepC hd.out hk1))
        clear HCP hd0 hk1 zHG_0 zHG_1
        replace HB := Lib.hid (HB.out.trans (hd.out.mono HB.out.size))
        replace HTB := Lib.hid (HTB.out.below hd.out)
        replace HVG := Lib.hid (HVG.out.below hd.out)
        replace HG := Lib.hid (HG.out.below hd.out HG.out.lt)
        replace HKK := Lib.hid (HKK.out.below hd.out HKK.out.lt)
        replace HV3 := Lib.hid (HV3.out.below hd.out)
        have hit := part_iff HGS.out (fun v hv => ⟨HVM.out v hv, (HVF.out v hv).1⟩) HVK.out HPO.out
        rw [HN3.out, ← HK0.out] at hit
        have hpe : pe = 0 ∨ pe = 2 := by
          rcases HPO.out with ⟨h, _⟩ | ⟨h, _⟩
          · exact .inl h
          · exact .inr h
        clear HPO
        by_cases hf0 : ke = 0
        · by_cases hl0 : n3 = gk
          · obtain rfl : pe = 0 := hit.mpr ⟨hf0, hl0⟩
            subst hf0
            clear hit hpe
            subst hl0
            go_wp2_with fail
            refine (lives4_any _).mono ?_
            rintro e w9 ⟨rfl, hb⟩
            replace HB := Lib.hid (HB.out.trans (hb.out.mono HB.out.size))
            clear hb
            go_wp2_with fail
            go_ret
            exact ⟨rfl, HB.out⟩
          · have hne : ¬ pe = 0 := fun h => hl0 (hit.mp h).2
            obtain rfl : pe = 2 := by omega
            subst hf0
            clear hit hpe hne
            have hlq : ((n3 : Int) == (gk : Int)) = false := by simp; omega
            go_wp2_with fail
            refine (lives4_any _).mono ?_
            rintro e w9 ⟨rfl, hb⟩
            replace HB := Lib.hid (HB.out.trans (hb.out.mono HB.out.size))
            clear hb
            go_wp2_with fail
            go_ret
            exact ⟨rfl, HB.out⟩
        · have hne : ¬ pe = 0 := fun h => hf0 (hit.mp h).1
          obtain rfl : pe = 2 := by omega
          clear hit hpe hne
          have hkq : (ke == 0) = false := by simp [hf0]
          go_wp2_with fail
          refine (lives4_any _).mono ?_
          rintro e w9 ⟨rfl, hb⟩
          replace HB := Lib.hid (HB.out.trans (hb.out.mono HB.out.size))
          clear hb
          go_wp2_with fail
          go_ret
          exact ⟨rfl, HB.out⟩
  · obtain ⟨sx, hsx⟩ : ∃ sx, sx = key := ⟨_, rfl⟩
    subst hsx
    have hxs : sx.size ≤ 60 := by omega
    have hz1 : ¬ (60 : Int) < (sx.size : Int) := by omega
    have zHG_0 : (w1.alloc (.cells #[.slice Ag ng cg, .int .i64 gk] 24)).cell? ⟨w1.heap.size, 0, none⟩ = some (.slice Ag ng cg) := HG.out.cell 0
    have zHG_1 : (w1.alloc (.cells #[.slice Ag ng cg, .int .i64 gk] 24)).cell? ⟨w1.heap.size, 1, none⟩ = some (.int .i64 gk) := HG.out.cell 1
    go_wp2_with fail
    clear zHG_0 zHG_1
    obtain ⟨W2, hW1⟩ : ∃ W, W = (w1.alloc (.cells #[.slice Ag ng cg, .int .i64 gk] 24)) := ⟨_, rfl⟩
    rw [← hW1] at HB HTB HRR HVG HG ⊢
    clear hW1
    refine (goods_any Ar R nr cr 4 W2 HNR.out (by omega) hncr hcmr HRR.out HFR.out).mono ?_
    rintro e w3 ⟨v3, rfl, ho3, hb⟩
    replace HB := Lib.hid (HB.out.trans (hb.out.mono HB.out.size))
    replace HTB := Lib.hid (HTB.out.below hb.out)
    replace HRR := Lib.hid (HRR.out.below hb.out)
    replace HVG := Lib.hid (HVG.out.below hb.out)
    replace HG := Lib.hid (HG.out.below hb.out HG.out.lt)
    clear hb
    have HVM : Hid (∀ x ∈ goods R 4, x.may = true) := goods_may R 4
    have HVF : Hid (∀ x ∈ goods R 4, x.fits) := goods_fits R 4 HFR.out
    have hv1 : (goods R 4).length ≤ 4 := by rw [goods_len]; omega
    have hv2 : ∀ x ∈ goods R 4, x.s.size ≤ 40 := fun x hx => by
      unfold goods at hx
      obtain ⟨y, _, rfl⟩ := List.mem_map.1 hx
      exact good_size y
    have hv3 : (bs (keys (goods R 4))).size ≤ 900 := by
      rw [bs_size]
      have := goods_keys (goods R 4) hv2
      omega
    have HVK : Hid (keys (goods R 4) = sb (bs (keys (goods R 4)))) := (sb_bs _ (keys_byte _)).symm
    have ho4 : Hid (OwnV W2.heap.size w3 v3 (goods R 4)) := ho3.out
    clear hv2 ho3
    generalize goods R 4 = V at *
    obtain ⟨A3, n3, c3, rfl, HN3, hnc3, hcm3, HV3, _⟩ := ownV_open ho4.out
    rw [HN3.out] at hv1
    obtain ⟨kv, hkv⟩ : ∃ kv, bs (keys V) = kv := ⟨_, rfl⟩
    rw [hkv] at hv3 HVK
    have HKV := Lib.hid hkv
    clear ho4 hkv
    go_wp2_with fail
    refine (refKey_any A3 V n3 c3 w3 HN3.out (by omega) HV3.out (fun x hx => (HVF.out x hx).1) HVM.out).mono ?_
    rintro e w4 ⟨rfl, hb⟩
    replace HB := Lib.hid (HB.out.trans (hb.out.mono HB.out.size))
    replace HTB := Lib.hid (HTB.out.below hb.out)
    replace HRR := Lib.hid (HRR.out.below hb.out)
    replace HVG := Lib.hid (HVG.out.below hb.out)
    replace HG := Lib.hid (HG.out.below hb.out HG.out.lt)
    replace HV3 := Lib.hid (HV3.out.below hb.out)
    rw [HKV.out]
    clear hb
    have hb : Below w4.heap.size w4 (w4.alloc (.cells #[.string sx, .string kv] 9)) := (Below.refl _ _).alloc (Nat.le_refl _) _
    replace HB := Lib.hid (HB.out.trans (hb.mono HB.out.size))
    replace HTB := Lib.hid (HTB.out.below hb)
    replace HRR := Lib.hid (HRR.out.below hb)
    replace HVG := Lib.hid (HVG.out.below hb)
    replace HG := Lib.hid (HG.out.below hb HG.out.lt)
    replace HV3 := Lib.hid (HV3.out.below hb)
    clear hb
    have HKK := Lib.hid (Has.new w4 9 #[.string sx, .string kv])
    go_wp2_with fail
    go_loopw [10] (fun i wr => ∃ k : Nat, k ≤ 2 ∧ i = .int .i64 k ∧ Hid (Below w.heap.size w wr) ∧ Hid (Tabs wr) ∧ Hid (CRow wr Ag G) ∧ Hid (Has wr w1.heap.size 24 #[.slice Ag ng cg, .int .i64 gk]) ∧ Hid (Has wr w4.heap.size 9 #[.string sx, .string kv]) ∧ Hid (VRow wr A3 V)) (fun i _ => 2 - (intOf i).toNat)
    case atStart => exact ⟨0, by omega, rfl, HB, HTB, HVG, HG, HKK, HV3⟩
    case round =>
      clear HB HTB HVG HG HKK HV3
      obtain ⟨k, hk, rfl, HB, HTB, HVG, HG, HKK, HV3⟩ := hrel
      by_cases hlt : k < 2
      · obtain ⟨sk, hsk, hss⟩ : ∃ sk : ByteArray, wr.cell? ⟨w4.heap.size, k, none⟩ = some (.string sk) ∧ sk.size ≤ 900 := by
          have : k = 0 ∨ k = 1 := by omega
          rcases this with rfl | rfl
          · exact ⟨sx, HKK.out.cell 0, by omega⟩
          · exact ⟨kv, HKK.out.cell 1, hv3⟩
        have hkz : (k : Int) < 2 := by omega
        have hk0 : (0 : Int) ≤ (k : Int) := by omega
        have zHG_0 : wr.cell? ⟨w1.heap.size, 0, none⟩ = some (.slice Ag ng cg) := HG.out.cell 0
        have zHG_1 : wr.cell? ⟨w1.heap.size, 1, none⟩ = some (.int .i64 gk) := HG.out.cell 1
        go_wp2_with fail
        have hd0 : Hid (Below wr.heap.size wr wr.drew) := (Below.refl _ wr).drew
        have HCP := Lib.hid (fun (X : World) (hb : Hid (Below wr.heap.size wr X)) => (part_any Ag G ng cg gk sk X HNG.out (by omega) (by omega) hngc (HVG.out.below hb.out) hss (HTB.out.below hb.out)).mono (R' := fun e w' => (∃ A n c pe, e = .returned (.tuple #[.slice A n c, .int .i64 pe]) ∧ PartO G gk sk w' A n c pe) ∧ Hid (Below wr.heap.size wr w')) fun e w' h => ⟨partR_open h.1, hb.out.trans (h.2.out.mono hb.out.size)⟩)
        go_region_held3 (fun X => Hid (Below wr.heap.size wr X) ∧ X.cell? ⟨w1.heap.size, 0, none⟩ = some (.slice Ag ng cg) ∧ X.cell? ⟨w1.heap.size, 1, none⟩ = some (.int .i64 gk) ∧ X.cell? ⟨w4.heap.size, k, none⟩ = some (.string sk)) ((first | assumption | (refine ⟨by assumption, ?_⟩; go_keep))) (first
          | (go_at_call 15; (with_reducible refine (HCP.out _ (by first | assumption | exact And.left (by assumption))).mono ?_); rintro e x ⟨⟨pA, pn, pc, pe, rfl, hpo⟩, hd⟩; have HPO := Lib.hid hpo; clear hpo; have kzHG_0 := keepC hd.out zHG_0; have kzHG_1 := keepC hd.out zHG_1; have khsk := keepC hd.out hsk))
        clear HCP hd0 hsk zHG_0 zHG_1
        replace HB := Lib.hid (HB.out.trans (hd.out.mono HB.out.size))
        replace HTB := Lib.hid (HTB.out.below hd.out)
        replace HVG := Lib.hid (HVG.out.below hd.out)
        replace HG := Lib.hid (HG.out.below hd.out HG.out.lt)
        replace HKK := Lib.hid (HKK.out.below hd.out HKK.out.lt)
        replace HV3 := Lib.hid (HV3.out.below hd.out)
        rcases HPO.out with ⟨rfl, hpn, L7, g7, f7, l7, m7, k7, b7, r7⟩ | ⟨rfl, rfl, hno⟩
        · obtain rfl : gk = pn := hpn.symm
          have H7 := Lib.hid l7
          have G7 := Lib.hid g7
          have R7 := Lib.hid r7
          have KT := Lib.hid (key_of_part HGS.out g7 l7 k7 b7)
          clear l7 g7 r7 f7 k7 b7 HPO
          go_wp2_with fail
          refine (rkey_any Ag G ng cg gk pA L7 gk pc x HNG.out (by omega) (by omega) (by omega) m7 HVG.out H7.out R7.out (fun v hv => (G7.out v hv).2)).mono ?_
          rintro e w6 ⟨rfl, hb⟩
          replace HB := Lib.hid (HB.out.trans (hb.out.mono HB.out.size))
          replace HTB := Lib.hid (HTB.out.below hb.out)
          replace HVG := Lib.hid (HVG.out.below hb.out)
          replace HG := Lib.hid (HG.out.below hb.out HG.out.lt)
          replace HKK := Lib.hid (HKK.out.below hb.out HKK.out.lt)
          replace HV3 := Lib.hid (HV3.out.below hb.out)
          replace R7 := Lib.hid (R7.out.below hb.out)
          rw [KT.out]
          have kk2 := keepC (show Below x.heap.size x w6 from hb.out) khsk
          clear hb
          have zHG_0 : w6.cell? ⟨w1.heap.size, 0, none⟩ = some (.slice Ag ng cg) := HG.out.cell 0
          have zHG_1 : w6.cell? ⟨w1.heap.size, 1, none⟩ = some (.int .i64 gk) := HG.out.cell 1
          have hsq : (sk.toList != sk.toList) = false := by simp
          go_wp2_with fail
          go_roundw
          case rel => exact ⟨k + 1, by omega, by go_num, HB, HTB, HVG, HG, HKK, HV3⟩
          case measure => simp [intOf]; omega
        · clear hno HPO
          go_wp2_with fail
          go_roundw
          case rel => exact ⟨k + 1, by omega, by go_num, HB, HTB, HVG, HG, HKK, HV3⟩
          case measure => simp [intOf]; omega
      · obtain rfl : k = 2 := by omega
        obtain ⟨ks, ke, hke, hk0⟩ : ∃ (ks : ByteArray) (ke : Int), keyT G V gk = .tuple #[.string ks, .int .i64 ke] ∧ ((ke = 0) = (keyOk G V gk = true)) := by
          unfold keyT
          split
          · rename_i h; exact ⟨_, _, rfl, by simp [h]⟩
          · rename_i h; exact ⟨_, _, rfl, by simp [h]⟩
        have HKE := Lib.hid hke
        have HK0 := Lib.hid hk0
        clear hke hk0
        have zHG_0 : wr.cell? ⟨w1.heap.size, 0, none⟩ = some (.slice Ag ng cg) := HG.out.cell 0
        have zHG_1 : wr.cell? ⟨w1.heap.size, 1, none⟩ = some (.int .i64 gk) := HG.out.cell 1
        go_wp2_with fail
        refine (rkey_any Ag G ng cg gk A3 V n3 c3 wr HNG.out (by omega) (by omega) (by omega) hnc3 HVG.out HN3.out HV3.out (fun x hx => (HVF.out x hx).1)).mono ?_
        rintro e w6 ⟨rfl, hb⟩
        clear zHG_0 zHG_1
        replace HB := Lib.hid (HB.out.trans (hb.out.mono HB.out.size))
        replace HTB := Lib.hid (HTB.out.below hb.out)
        replace HVG := Lib.hid (HVG.out.below hb.out)
        replace HG := Lib.hid (HG.out.below hb.out HG.out.lt)
        replace HKK := Lib.hid (HKK.out.below hb.out HKK.out.lt)
        replace HV3 := Lib.hid (HV3.out.below hb.out)
        rw [HKE.out]
        clear hb
        have zHG_0 : w6.cell? ⟨w1.heap.size, 0, none⟩ = some (.slice Ag ng cg) := HG.out.cell 0
        have zHG_1 : w6.cell? ⟨w1.heap.size, 1, none⟩ = some (.int .i64 gk) := HG.out.cell 1
        have hk1 : w6.cell? ⟨w4.heap.size, 1, none⟩ = some (.string kv) := HKK.out.cell 1
        go_wp2_with fail
        have hd0 : Hid (Below w6.heap.size w6 w6.drew) := (Below.refl _ w6).drew
        have HCP := Lib.hid (fun (X : World) (hb : Hid (Below w6.heap.size w6 X)) => (part_any Ag G ng cg gk kv X HNG.out (by omega) (by omega) hngc (HVG.out.below hb.out) hv3 (HTB.out.below hb.out)).mono (R' := fun e w' => (∃ A n c pe, e = .returned (.tuple #[.slice A n c, .int .i64 pe]) ∧ PartO G gk kv w' A n c pe) ∧ Hid (Below w6.heap.size w6 w')) fun e w' h => ⟨partR_open h.1, hb.out.trans (h.2.out.mono hb.out.size)⟩)
        go_region_held3 (fun X => Hid (Below w6.heap.size w6 X) ∧ X.cell? ⟨w1.heap.size, 0, none⟩ = some (.slice Ag ng cg) ∧ X.cell? ⟨w1.heap.size, 1, none⟩ = some (.int .i64 gk) ∧ X.cell? ⟨w4.heap.size, 1, none⟩ = some (.string kv)) ((first | assumption | (refine ⟨by assumption, ?_⟩; go_keep))) (first
          | (go_at_call 15; (with_reducible refine (HCP.out _ (by first | assumption | exact And.left (by assumption))).mono ?_); rintro e x ⟨⟨pA, pn, pc, pe, rfl, hpo⟩, hd⟩; have HPO := Lib.hid hpo; clear hpo; have kzHG_0 := keepC hd.out zHG_0; have kzHG_1 := keepC hd.out zHG_1; have khk1 := keepC hd.out hk1))
        clear HCP hd0 hk1 zHG_0 zHG_1
        replace HB := Lib.hid (HB.out.trans (hd.out.mono HB.out.size))
        replace HTB := Lib.hid (HTB.out.below hd.out)
        replace HVG := Lib.hid (HVG.out.below hd.out)
        replace HG := Lib.hid (HG.out.below hd.out HG.out.lt)
        replace HKK := Lib.hid (HKK.out.below hd.out HKK.out.lt)
        replace HV3 := Lib.hid (HV3.out.below hd.out)
        have hit := part_iff HGS.out (fun v hv => ⟨HVM.out v hv, (HVF.out v hv).1⟩) HVK.out HPO.out
        rw [HN3.out, ← HK0.out] at hit
        have hpe : pe = 0 ∨ pe = 2 := by
          rcases HPO.out with ⟨h, _⟩ | ⟨h, _⟩
          · exact .inl h
          · exact .inr h
        clear HPO
        by_cases hf0 : ke = 0
        · by_cases hl0 : n3 = gk
          · obtain rfl : pe = 0 := hit.mpr ⟨hf0, hl0⟩
            subst hf0
            clear hit hpe
            subst hl0
            go_wp2_with fail
            refine (lives4_any _).mono ?_
            rintro e w9 ⟨rfl, hb⟩
            replace HB := Lib.hid (HB.out.trans (hb.out.mono HB.out.size))
            clear hb
            go_wp2_with fail
            go_ret
            exact ⟨rfl, HB.out⟩
          · have hne : ¬ pe = 0 := fun h => hl0 (hit.mp h).2
            obtain rfl : pe = 2 := by omega
            subst hf0
            clear hit hpe hne
            have hlq : ((n3 : Int) == (gk : Int)) = false := by simp; omega
            go_wp2_with fail
            refine (lives4_any _).mono ?_
            rintro e w9 ⟨rfl, hb⟩
            replace HB := Lib.hid (HB.out.trans (hb.out.mono HB.out.size))
            clear hb
            go_wp2_with fail
            go_ret
            exact ⟨rfl, HB.out⟩
        · have hne : ¬ pe = 0 := fun h => hf0 (hit.mp h).1
          obtain rfl : pe = 2 := by omega
          clear hit hpe hne
          have hkq : (ke == 0) = false := by simp [hf0]
          go_wp2_with fail
          refine (lives4_any _).mono ?_
          rintro e w9 ⟨rfl, hb⟩
          replace HB := Lib.hid (HB.out.trans (hb.out.mono HB.out.size))
          clear hb
          go_wp2_with fail
          go_ret
          exact ⟨rfl, HB.out⟩
end Go.Proofs.YticfhjimbochlaaDoor.schemaParts
