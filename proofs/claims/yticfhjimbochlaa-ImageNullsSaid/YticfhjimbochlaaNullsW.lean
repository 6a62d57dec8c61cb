/-
  The law ImageNulls walked: how many bytes a row has.
-/
import Derived.Test.YticfhjimbochlaaGood4
import Derived.Test.YticfhjimbochlaaRow4
import Derived.Test.YticfhjimbochlaaImgB
import Derived.Test.YticfhjimbochlaaLyRef
namespace Go.Proofs.Yticfhjimbochlaa.imageNulls
open Go.RowKit Dg
theorem plB_zero {v : Vl} (h : v.k = 0) : (plB v).length = 0 := by unfold plB; rw [h]; rfl
theorem plB_one {v : Vl} (h : v.k = 1) : (plB v).length = 1 := by unfold plB; rw [if_pos h]; rfl
theorem plB_two {v : Vl} (h : v.k = 2) : plB v = digs (zig v.n) := by unfold plB; rw [if_neg (by omega), if_pos h]
theorem plB_text {v : Vl} (h : v.k = 3 ∨ v.k = 4) : plB v = txt v.s := by unfold plB; rw [if_neg (by omega), if_neg (by omega), if_pos h]
/-- The bits and the first k values' bytes. -/
def nlen (R : List Vl) (k : Nat) : Nat := 1 + ((R.take k).flatMap plB).length
theorem nlen_succ (R : List Vl) (k : Nat) (h : k < R.length) : nlen R (k + 1) = nlen R k + (plB R[k]).length := by
  unfold nlen; rw [List.take_succ_eq_append_getElem h, List.flatMap_append, List.length_append]; simp; omega
theorem nlen_end (R : List Vl) : nlen R R.length = (imgF R).length := by unfold nlen imgF; rw [List.take_length, List.length_cons]; omega
set_option maxHeartbeats 16000000 in
set_option maxRecDepth 100000 in
theorem walk (A : Option Addr) (n c : Nat) (L : List Cl) (K : Int) (Ar : Option Addr) (nr cr : Nat) (R : List Vl) (w : World) (hn : L.length = n) (hnc : n ≤ c) (hcm : c ≤ maxLen) (hA : CRow w A L) (hf : ∀ x ∈ L, x.fit) (hk0 : -9223372036854775808 ≤ K) (hk1 : K ≤ 9223372036854775807) (hnr : R.length = nr) (hncr : nr ≤ cr) (hcmr : cr ≤ maxLen) (hR : VRow w Ar R) (hfr : ∀ x ∈ R, x.fits) :
    Calls Try.prog 9 #[.agg #[.slice A n c, .int .i64 K], .slice Ar nr cr] w fun e w' => e = .returned (.bool true) ∧ Below w.heap.size w w' := by
  have HB := Lib.hid ((Below.refl w.heap.size w).alloc (Nat.le_refl _) (.cells #[.slice A n c, .int .i64 K] 24))
  have HC1 := Lib.hid (rgood_any A L n c K (w.alloc (.cells #[.slice A n c, .int .i64 K] 24)) hn hnc hcm (hA.below HB.out) hf hk0 hk1)
  have HGS := Lib.hid (goodS_is L K)
  have hs0 : (w.alloc (.cells #[.slice A n c, .int .i64 K] 24)).heap.size = w.heap.size + 1 := by simp
  rw [hs0] at HC1
  have HNR := Lib.hid hnr
  have HRR := Lib.hid (hR.below HB.out)
  have HFR := Lib.hid hfr
  clear hnr hR hfr
  clear hs0 hn hnc hcm hA hf
  go_enter Try.func9, Try.ntmps9
  go_wp2_with fail
  refine HC1.out.mono ?_
  rintro e w1 ⟨v1, rfl, ho1, hb⟩
  generalize gdC L K = G at *
  generalize gdK L K = gk at *
  obtain ⟨Ag, ng, cg, rfl, HNG, hngc, hcgm, HVG, HZG⟩ := ownC_open ho1.out
  have HFIT := Lib.hid (goodS_fit G gk HGS.out)
  have HKD := Lib.hid (fun (x : Cl) (hx : x ∈ G) => (show 1 ≤ x.k ∧ x.k ≤ 4 from ⟨(HFIT.out x hx).2.1, (HFIT.out x hx).2.2.1⟩))
  have hlen := HGS.out.len
  have hkeys := HGS.out.keys
  rw [HNG.out] at hlen hkeys
  obtain ⟨hl1, hl6⟩ := hlen
  obtain ⟨hg1, hgn, hg3⟩ := hkeys
  replace HB := Lib.hid (HB.out.trans (hb.out.mono (by simp)))
  replace HRR := Lib.hid (HRR.out.below (hb.out.mono (by simp)))
  clear hb ho1 HC1 HZG
  have hb : Below w1.heap.size w1 (w1.alloc (.cells #[.slice Ag ng cg, .int .i64 gk] 24)) := (Below.refl _ _).alloc (Nat.le_refl _) _
  replace HB := Lib.hid (HB.out.trans (hb.mono HB.out.size))
  replace HRR := Lib.hid (HRR.out.below hb)
  replace HVG := Lib.hid (HVG.out.below hb)
  clear hb
  have HG := Lib.hid (Has.new w1 24 #[.slice Ag ng cg, .int .i64 gk])
  have zHG_0 : (w1.alloc (.cells #[.slice Ag ng cg, .int .i64 gk] 24)).cell? ⟨w1.heap.size, 0, none⟩ = some (.slice Ag ng cg) := HG.out.cell 0
  have zHG_1 : (w1.alloc (.cells #[.slice Ag ng cg, .int .i64 gk] 24)).cell? ⟨w1.heap.size, 1, none⟩ = some (.int .i64 gk) := HG.out.cell 1
  go_wp2_with fail
  refine (row_any Ag G ng cg gk Ar R nr cr _ HNG.out (by omega) HVG.out (fun x hx => (HFIT.out x hx).2.2.2) HNR.out hncr hcmr HRR.out HFR.out).mono ?_
  rintro e w3 ⟨v3, rfl, ho3, hb⟩
  clear zHG_0 zHG_1
  replace HB := Lib.hid (HB.out.trans (hb.out.mono HB.out.size))
  replace HRR := Lib.hid (HRR.out.below hb.out)
  replace HVG := Lib.hid (HVG.out.below hb.out)
  replace HG := Lib.hid (HG.out.below hb.out HG.out.lt)
  clear hb
  have hlR := rowF_len G R
  rw [HNG.out] at hlR
  have HW3 := Lib.hid (rowF_fits G R HKD.out)
  have HM3 := Lib.hid (rowF_may5 G R HKD.out)
  have HF3 := Lib.hid (rowF_fit G R HKD.out HFR.out)
  have HZ3 := Lib.hid (rowF_size5 G R)
  have HL3 := Lib.hid hlR
  clear hlR
  generalize rowF G R = P3 at *
  obtain ⟨A3, n3, c3, rfl, HN3, hnc3, hcm3, HV3, _⟩ := ownV_open ho3.out
  obtain rfl : ng = n3 := HL3.out.symm.trans HN3.out
  clear ho3
  have h78 : ((ng : Int) + 7) / 8 = 1 := by omega
  have hl8 : P3.length ≤ 8 := by rw [HL3.out]; omega
  have H78 := Lib.hid h78
  clear h78
  go_wp2_with fail
  rw [H78.out]
  go_loopw [7, 8] (fun x i wr => ∃ k : Nat, k ≤ ng ∧ i = .int .i64 k ∧ x = .int .i64 (nlen P3 k : Nat) ∧ Hid (Below w.heap.size w wr) ∧ Hid (VRow wr A3 P3) ∧ Hid (Has wr w1.heap.size 24 #[.slice Ag ng cg, .int .i64 gk]) ∧ Hid (CRow wr Ag G)) (fun _ i _ => ng - (intOf i).toNat)
  case atStart => exact ⟨0, by omega, rfl, by simp [nlen], HB, HV3, HG, HVG⟩
  case round =>
    clear HB HV3 HG HVG H78
    obtain ⟨k, hk, rfl, rfl, HB, HV3, HG, HVG⟩ := hrel
    by_cases hlt : k < ng
    · have hkr : k < P3.length := by rw [HL3.out]; exact hlt
      obtain ⟨b, off, rfl, hc⟩ := HV3.out (by intro e; rw [e] at hkr; simp at hkr)
      obtain ⟨d0, d1, d2⟩ := hc k hkr
      have hmy := HM3.out P3[k] (List.getElem_mem hkr)
      have hft := (HF3.out P3[k] (List.getElem_mem hkr)).1
      have hsz := HZ3.out P3[k] (List.getElem_mem hkr)
      have HS := Lib.hid (nlen_succ P3 k hkr)
      have hnl : nlen P3 k ≤ 9001 := by
        have h1 := plb_len (P3.take k) (fun x hx => plB_len x (HZ3.out x (List.mem_of_mem_take hx)) (HF3.out x (List.mem_of_mem_take hx)).1.1 (HF3.out x (List.mem_of_mem_take hx)).1.2.1)
        unfold nlen
        have h2 : (P3.take k).length ≤ 8 := by rw [List.length_take]; omega
        have h3 := Nat.mul_le_mul_left 1020 h2
        omega
      have hpl := plB_len P3[k] hsz hft.1 hft.2.1
      clear hc
      generalize P3[k] = y at *
      obtain ⟨yk, yn, ys⟩ := y
      simp only at d0 d1 d2
      generalize nlen P3 k = nk at *
      have hkz : (k : Int) < (ng : Int) := by omega
      have hk0 : (0 : Int) ≤ (k : Int) := by omega
      rcases may_kind hmy with rfl | rfl | rfl | rfl | rfl
      · have HS2 : Hid (nlen P3 (k + 1) = nk) := by show _ = _; rw [HS.out, plB_zero rfl, Nat.add_zero]
        go_wp2_with fail
        go_roundw
        case rel => exact ⟨k + 1, by omega, by go_num, by rw [HS2.out], HB, HV3, HG, HVG⟩
        case measure => simp [intOf]; omega
      · have HS2 : Hid (nlen P3 (k + 1) = nk + 1) := by show _ = _; rw [HS.out, plB_one rfl]
        go_wp2_with fail
        go_roundw
        case rel => exact ⟨k + 1, by omega, by go_num, by rw [HS2.out]; go_num, HB, HV3, HG, HVG⟩
        case measure => simp [intOf]; omega
      · have HS2 : Hid (nlen P3 (k + 1) = nk + (digs (zig yn)).length) := by show _ = _; rw [HS.out, plB_two rfl]
        rw [plB_two rfl] at hpl
        go_wp2_with fail
        refine (refSigned_any yn wr hft.1 hft.2.1).mono ?_
        rintro e w5 ⟨v5, rfl, ho5, hb5⟩
        have hb := Lib.hid hb5
        obtain ⟨A5, n5, c5, rfl, HN5, _, _, _⟩ := own_openZ ho5
        clear ho5 hb5
        replace HB := Lib.hid (HB.out.trans (hb.out.mono HB.out.size))
        replace HV3 := Lib.hid (HV3.out.below hb.out)
        replace HG := Lib.hid (HG.out.below hb.out HG.out.lt)
        replace HVG := Lib.hid (HVG.out.below hb.out)
        generalize (digs (zig yn)).length = dl at *
        obtain rfl : dl = n5 := HN5.out
        clear hb
        go_wp2_with fail
        go_roundw
        case rel => exact ⟨k + 1, by omega, by go_num, by rw [HS2.out]; go_num, HB, HV3, HG, HVG⟩
        case measure => simp [intOf]; omega
      · have HS2 : Hid (nlen P3 (k + 1) = nk + (txt ys).length) := by show _ = _; rw [HS.out, plB_text (by first | exact .inl rfl | exact .inr rfl)]
        rw [plB_text (by first | exact .inl rfl | exact .inr rfl)] at hpl
        go_wp2_with fail
        refine (refText_any ys wr hsz).mono ?_
        rintro e w5 ⟨v5, rfl, ho5, hb5⟩
        have hb := Lib.hid hb5
        obtain ⟨A5, n5, c5, rfl, HN5, _, _, _⟩ := own_openZ ho5
        clear ho5 hb5
        replace HB := Lib.hid (HB.out.trans (hb.out.mono HB.out.size))
        replace HV3 := Lib.hid (HV3.out.below hb.out)
        replace HG := Lib.hid (HG.out.below hb.out HG.out.lt)
        replace HVG := Lib.hid (HVG.out.below hb.out)
        generalize (txt ys).length = dl at *
        obtain rfl : dl = n5 := HN5.out
        clear hb
        go_wp2_with fail
        go_roundw
        case rel => exact ⟨k + 1, by omega, by go_num, by rw [HS2.out]; go_num, HB, HV3, HG, HVG⟩
        case measure => simp [intOf]; omega
      · have HS2 : Hid (nlen P3 (k + 1) = nk + (txt ys).length) := by show _ = _; rw [HS.out, plB_text (by first | exact .inl rfl | exact .inr rfl)]
        rw [plB_text (by first | exact .inl rfl | exact .inr rfl)] at hpl
        go_wp2_with fail
        refine (refText_any ys wr hsz).mono ?_
        rintro e w5 ⟨v5, rfl, ho5, hb5⟩
        have hb := Lib.hid hb5
        obtain ⟨A5, n5, c5, rfl, HN5, _, _, _⟩ := own_openZ ho5
        clear ho5 hb5
        replace HB := Lib.hid (HB.out.trans (hb.out.mono HB.out.size))
        replace HV3 := Lib.hid (HV3.out.below hb.out)
        replace HG := Lib.hid (HG.out.below hb.out HG.out.lt)
        replace HVG := Lib.hid (HVG.out.below hb.out)
        generalize (txt ys).length = dl at *
        obtain rfl : dl = n5 := HN5.out
        clear hb
        go_wp2_with fail
        go_roundw
        case rel => exact ⟨k + 1, by omega, by go_num, by rw [HS2.out]; go_num, HB, HV3, HG, HVG⟩
        case measure => simp [intOf]; omega
    · obtain rfl : k = ng := by omega
      have HE : Hid (nlen P3 k = (imgF P3).length) := by show _ = _; have h := nlen_end P3; rw [HL3.out] at h; exact h
      have hil := imgF_len P3 hl8 HZ3.out HF3.out
      have zHG_0 : wr.cell? ⟨w1.heap.size, 0, none⟩ = some (.slice Ag k cg) := HG.out.cell 0
      have zHG_1 : wr.cell? ⟨w1.heap.size, 1, none⟩ = some (.int .i64 gk) := HG.out.cell 1
      go_wp2_with fail
      refine (write_any none [] 0 0 Ag k cg gk A3 P3 k c3 k wr rfl (by omega) (Rd.nil _ _) (fun _ => rfl) (Nat.min_self k) (by omega) (by omega) (by omega) HL3.out (by omega) (by omega) HV3.out HM3.out HF3.out HZ3.out).mono ?_
      rintro e w5 ⟨v5, rfl, ho5, hb⟩
      rw [List.nil_append, List.take_of_length_le (by rw [HL3.out]; omega)] at ho5
      obtain ⟨A5, n5, c5, rfl, HN5, _, _, _⟩ := own_openZ ho5.out
      clear ho5
      rw [HE.out, HN5.out]
      clear zHG_0 zHG_1
      replace HB := Lib.hid (HB.out.trans (hb.out.mono HB.out.size))
      replace HV3 := Lib.hid (HV3.out.below hb.out)
      replace HG := Lib.hid (HG.out.below hb.out HG.out.lt)
      replace HVG := Lib.hid (HVG.out.below hb.out)
      clear hb
      go_wp2_with fail
      refine (lives5_any _).mono ?_
      rintro e w9 ⟨rfl, hb⟩
      replace HB := Lib.hid (HB.out.trans (hb.out.mono HB.out.size))
      clear hb
      go_wp2_with fail
      go_ret
      exact ⟨rfl, HB.out⟩
end Go.Proofs.Yticfhjimbochlaa.imageNulls
