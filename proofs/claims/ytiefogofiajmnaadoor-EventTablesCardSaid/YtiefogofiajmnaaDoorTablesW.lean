/-
  EventTables: the walk.
-/
import Derived.Test.YtiefogofiajmnaaDoorPFind
import Derived.Test.YtiefogofiajmnaaDoorMg8
import Derived.Test.YtiefogofiajmnaaDoorMg3
import Derived.Test.YtiefogofiajmnaaDoorCut6
import Derived.Test.YtiefogofiajmnaaDoorLives6
namespace Go.Proofs.YtiefogofiajmnaaDoor.eventTables
open Go.RowKit Dg
set_option maxRecDepth 100000
set_option maxHeartbeats 6000000 in
theorem walk (A : Option Addr) (n c : Nat) (T : List Tb) (s : ByteArray) (w : World) (hn : T.length = n) (hc : n ≤ c) (hm : c ≤ maxLen) (hA : TRow w A T) (hI : ∀ x ∈ T, TbIn w x) (hs : s.size ≤ 140737488355328) :
    Calls Tryd.prog 3 #[.slice A n c, .string s] w fun e w' => e = .returned (.bool true) ∧ Below w.heap.size w w' := by
  unfold maxLen at hm
  have hTk : ∀ k, TRow w A (T.take k) := fun k hne => by
    obtain ⟨b, off, e, hc⟩ := hA (by rintro rfl; simp at hne)
    exact ⟨b, off, e, fun i hi => by rw [List.length_take] at hi; rw [List.getElem_take]; exact hc i (by omega)⟩
  obtain ⟨m, hm0, hm10⟩ : ∃ m, m = min n 10 ∧ m ≤ 10 := ⟨_, rfl, Nat.min_le_right _ _⟩
  obtain ⟨T', hT'⟩ : ∃ T', T.take m = T' := ⟨_, rfl⟩
  have hn' : T'.length = m := by rw [← hT', List.length_take]; omega
  have hA' : TRow w A T' := hT' ▸ hTk m
  have hI' : ∀ x ∈ T', TbIn w x := fun x hx => hI x (List.mem_of_mem_take (hT' ▸ hx))
  have HGD := Lib.hid (fun (W : World) (hb : Below w.heap.size w W) => rgood6_any A T' m c W hn' (hA'.below hb) (fun x hx => (by obtain ⟨h1, h2⟩ := hI' x hx; exact ⟨⟨h1.1, h1.2.1, h1.2.2.1, h1.2.2.2.below hb⟩, h2⟩)))
  have HRR := Lib.hid (fun (W : World) (hb : Below w.heap.size w W) => rright_any A T' m c W hn' (by omega) (hA'.below hb) (fun x hx => (by obtain ⟨h1, h2⟩ := hI' x hx; exact ⟨h1.1, h1.2.1, h1.2.2.1, h1.2.2.2.below hb⟩)))
  have HPR := Lib.hid (fun (W : World) (hb : Below w.heap.size w W) => pright_any A T' m c W hn' (by omega) (hA'.below hb) (fun x hx => (by obtain ⟨h1, h2⟩ := hI' x hx; exact ⟨h1.1, h1.2.1, h1.2.2.1, h1.2.2.2.below hb⟩)) (fun x hx => ⟨(hI' x hx).2.2.1, (hI' x hx).2.1⟩))
  clear hTk hA hI hn hT' hn' hA' hI'
  by_cases h10 : 10 < n
  · have hm9 : m = 10 := by omega
    clear hm0
    subst hm9
    have h10z : (10 : Int) < (n : Int) := by omega
    have h10c : (10 : Int) ≤ (c : Int) := by omega
    go_enter Tryd.func3, Tryd.ntmps3
    go_wp2_with fail
    refine (HGD.out _ (Below.refl _ _)).mono ?_
    rintro e w1 ⟨v1, G, rfl, HO, HT, HK, HB1⟩
    obtain ⟨A7, n7, c7, rfl, HN7, hnc7, hcm7, HV7, HZ7⟩ := ownT_open HO.out
    go_wp2_with fail
    refine (name6_any s _ hs).mono ?_
    rintro e w2 ⟨rfl, rfl⟩
    generalize forty s = fs at *
    go_wp2_with fail
    have HS1 := Lib.hid (ownS_one w2 fs)
    have HB2 : Hid (Below w2.heap.size w2 (w2.alloc (.cells #[.string fs] 9))) := (Below.refl _ w2).alloc (Nat.le_refl _) _
    have hg3 := (g6_good T' 3)
    rw [← HT.out] at hg3
    have HG := Lib.hid hg3
    have h7 : n7 ≤ 3 := by have h1 := HN7.out; have h2 := hg3.2; rw [tds_len] at h2; omega
    clear hg3
    go_loopw [6, 7] (fun v i wr => ∃ (k : Nat) (Ns : List ByteArray), k ≤ n7 ∧ i = .int .i64 k ∧ Hid (Ns.length = k + 1) ∧ Hid (OwnS w2.heap.size wr v Ns) ∧ Hid (Below w2.heap.size w2 wr)) (fun _ i _ => n7 - (intOf i).toNat)
    case atStart => exact ⟨0, [fs], by omega, rfl, rfl, HS1, HB2⟩
    case round =>
      obtain ⟨k, Ns, hk, rfl, HL, HS, HB⟩ := hrel
      clear HS1 HB2
      obtain ⟨A8, n8, c8, rfl, HN8, hnc8, hcm8, HR8⟩ := ownS_row HS.out
      have h8 : n8 = k + 1 := by rw [← HN8.out]; exact HL.out
      by_cases hlt : k < n7
      · have hkl : k < G.length := by rw [HN7.out]; exact hlt
        obtain ⟨b, off, rfl, hc⟩ := (HV7.out.below HB.out) (by intro e; rw [e] at hkl; simp at hkl)
        obtain ⟨c0, _, _⟩ := hc k hkl
        have hkz : (k : Int) < (n7 : Int) := by omega
        clear hc
        generalize G[k].nm = xs at *
        have HAP := Lib.hid (appS wr wr.heap.size rfl w2.heap.size (.slice A8 n8 c8) Ns xs HS.out HB.out.size (by have := HL.out; omega))
        go_wp2_with (at_builtin; refine wpList_app rfl _ _ 25 25 rfl (.slice A8 n8 c8) (.slice (some ⟨wr.heap.size, 0, none⟩) 1 1) rfl rfl ?_; obtain ⟨R, W', hrun, hmade⟩ := HAP.out; refine ⟨R, W', hrun, ?_⟩; have HM := Lib.hid hmade; clear hrun hmade HAP)
        go_roundw
        case rel => exact ⟨k + 1, Ns ++ [xs], by omega, by go_num, by show _ = _; rw [List.length_append, HL.out]; rfl, HM.out.1, HB.out.trans (HM.out.2.mono (Nat.le_refl _))⟩
        case measure => simp [intOf]; omega
      · obtain rfl : k = n7 := by omega
        have hkz : ¬ (k : Int) < (k : Int) := by omega
        have HBw := Lib.hid (HB1.out.trans (HB.out.mono HB1.out.size))
        have HVw := Lib.hid (HV7.out.below HB.out)
        have HKw := Lib.hid (HK.out.below HB.out)
        clear HS HB HV7 HK HO HGD
        obtain ⟨wo, hwo⟩ : ∃ wo : World, wo = wr := ⟨_, rfl⟩
        rw [← hwo] at HBw HVw HKw HR8 ⊢
        clear hwo
        have hSrt := Lib.hid (goodT_sort HG.out.1)
        have HRG := Lib.hid (goodT_right HG.out.1 (by have := HN7.out; omega))
        have HFT := Lib.hid (goodT_fit HG.out.1)
        go_wp2_with fail
        go_loopw [8] (fun i wr => ∃ j : Nat, j ≤ n8 ∧ i = .int .i64 j ∧ Hid (Below wo.heap.size wo wr)) (fun i _ => n8 - (intOf i).toNat)
        case atStart => exact ⟨0, by omega, rfl, Below.refl _ _⟩
        case round =>
          obtain ⟨j, hj, rfl, HB⟩ := hrel
          have HVr := Lib.hid (HVw.out.below HB.out)
          have HKr := Lib.hid (HKw.out.below HB.out)
          by_cases hlt2 : j < n8
          · obtain ⟨b8, o8, rfl, hc8⟩ := HR8.out j (by rw [HN8.out]; exact hlt2)
            have d8 := keepC HB.out hc8
            have hjz : (j : Int) < (n8 : Int) := by omega
            clear hc8
            generalize Ns[j]'(by rw [HN8.out]; exact hlt2) = sx at *
            have HF1 := Lib.hid (pFind_any A7 G k c7 sx wr HN7.out (by omega) HVr.out HKr.out hSrt.out)
            go_wp2_with fail
            refine HF1.out.mono ?_
            rintro e wa ⟨va, rfl, hoa, hba⟩
            obtain ⟨Aa, na, ca, rfl, HNa, hnca, hcma, HVa, _⟩ := ownC_open hoa.out
            have hal : Below wa.heap.size wa (wa.alloc (.cells #[.slice Aa na ca, .int .i64 (tfK G sx)] 28)) := (Below.refl _ wa).alloc (Nat.le_refl _) _
            have HAA := Lib.hid (Has.new wa 28 #[.slice Aa na ca, .int .i64 (tfK G sx)])
            have hbA := hba.out.trans (hal.mono hba.out.size)
            have HBa := Lib.hid (HB.out.trans (hbA.mono HB.out.size))
            have d9 := keepC hbA d8
            have HF2 := Lib.hid (find6_any A7 G k c7 sx (wa.alloc (.cells #[.slice Aa na ca, .int .i64 (tfK G sx)] 28)) HN7.out (by omega) (HVr.out.below hbA))
            have HKa := Lib.hid (HKr.out.below hbA)
            have HVA := Lib.hid (HVa.out.below hal)
            clear hoa hba HF1 d8 HVr HKr hbA hal HVa
            go_wp2_with fail
            refine HF2.out.mono ?_
            rintro e wb ⟨rfl, hbb⟩
            obtain ⟨Ab, nb, cb, hv, hnb, hnb9, hrb⟩ := tfV_row (s := sx) hSrt.out (HKa.out.below hbb.out)
            rw [hv]
            have hal : Below wb.heap.size wb (wb.alloc (.cells #[.slice Ab nb cb, .int .i64 (tfK G sx)] 28)) := (Below.refl _ wb).alloc (Nat.le_refl _) _
            have hbB := hbb.out.trans (hal.mono hbb.out.size)
            have HSA := Lib.hid (rsame_any Aa (tfL G sx) na ca (tfK G sx) Ab (tfL G sx) nb cb (tfK G sx) (wb.alloc (.cells #[.slice Ab nb cb, .int .i64 (tfK G sx)] 28)) HNa.out hnb (by have h1 := HNa.out; omega) (by omega) (HVA.out.below hbB) (hrb.below hal))
            rw [ssF_refl] at HSA
            have HAB := Lib.hid (HAA.out.below hbB HAA.out.lt)
            have a0 : (wb.alloc (.cells #[.slice Ab nb cb, .int .i64 (tfK G sx)] 28)).cell? ⟨wa.heap.size, 0, none⟩ = some (.slice Aa na ca) := HAB.out.cell 0
            have a1 : (wb.alloc (.cells #[.slice Ab nb cb, .int .i64 (tfK G sx)] 28)).cell? ⟨wa.heap.size, 1, none⟩ = some (.int .i64 (tfK G sx)) := HAB.out.cell 1
            have HBb := Lib.hid (HBa.out.trans (hbB.mono HBa.out.size))
            clear hv hnb hrb hbb HF2 HKa hal hbB HAA HAB HVA d9
            generalize plF G sx = p at *
            generalize tfK G sx = kk at *
            cases p
            all_goals
              go_wp2_with fail
              refine HSA.out.mono ?_
              rintro e wc ⟨rfl, hbc⟩
              have HBc := Lib.hid (HBb.out.trans (hbc.out.mono HBb.out.size))
              clear hbc HSA
              go_wp2_with fail
              go_roundw
              case rel => exact ⟨j + 1, by omega, by go_num, HBc⟩
              case measure => simp [intOf]; omega
          · obtain rfl : j = n8 := by omega
            have hjz : ¬ (j : Int) < (j : Int) := by omega
            have HBz := Lib.hid (HBw.out.trans (HB.out.mono HBw.out.size))
            clear HR8
            go_wp2_with fail
            refine (HPR.out _ HBz.out).mono ?_
            rintro e wc ⟨rfl, hbc⟩
            have HBc := Lib.hid (HBz.out.trans (hbc.out.mono HBz.out.size))
            have HVc := Lib.hid ((HVw.out.below HB.out).below hbc.out)
            have HKc := Lib.hid ((HKw.out.below HB.out).below hbc.out)
            clear hbc HBz
            go_wp2_with fail
            refine (HRR.out _ HBc.out).mono ?_
            rintro e wd ⟨rfl, hbd⟩
            have HBd := Lib.hid (HBc.out.trans (hbd.out.mono HBc.out.size))
            have HPG := Lib.hid (pright_any A7 G k c7 wd HN7.out (by omega) (HVc.out.below hbd.out) ((HKc.out.below hbd.out).tin) (fun x hx => ⟨by have := (HFT.out x hx).1; omega, (HFT.out x hx).2.2⟩))
            rw [HRG.out] at HPG
            clear hbd HBc HVc HKc
            generalize rightF T' = rt at *
            cases rt
            all_goals
              go_wp2_with fail
              refine HPG.out.mono ?_
              rintro e we ⟨rfl, hbe⟩
              have HBe := Lib.hid (HBd.out.trans (hbe.out.mono HBd.out.size))
              clear hbe HPG
              go_wp2_with fail
              refine (lives6_any _).mono ?_
              rintro e wf ⟨rfl, hbf⟩
              have HBf := Lib.hid (HBe.out.trans (hbf.out.mono HBe.out.size))
              clear hbf
              go_wp2_with fail
              go_ret
              exact ⟨rfl, HBf.out⟩
  · have hm9 : m = n := by omega
    clear hm0
    subst hm9
    have h10z : ¬ (10 : Int) < (m : Int) := by omega
    go_enter Tryd.func3, Tryd.ntmps3
    go_wp2_with fail
    refine (HGD.out _ (Below.refl _ _)).mono ?_
    rintro e w1 ⟨v1, G, rfl, HO, HT, HK, HB1⟩
    obtain ⟨A7, n7, c7, rfl, HN7, hnc7, hcm7, HV7, HZ7⟩ := ownT_open HO.out
    go_wp2_with fail
    refine (name6_any s _ hs).mono ?_
    rintro e w2 ⟨rfl, rfl⟩
    generalize forty s = fs at *
    go_wp2_with fail
    have HS1 := Lib.hid (ownS_one w2 fs)
    have HB2 : Hid (Below w2.heap.size w2 (w2.alloc (.cells #[.string fs] 9))) := (Below.refl _ w2).alloc (Nat.le_refl _) _
    have hg3 := (g6_good T' 3)
    rw [← HT.out] at hg3
    have HG := Lib.hid hg3
    have h7 : n7 ≤ 3 := by have h1 := HN7.out; have h2 := hg3.2; rw [tds_len] at h2; omega
    clear hg3
    go_loopw [6, 7] (fun v i wr => ∃ (k : Nat) (Ns : List ByteArray), k ≤ n7 ∧ i = .int .i64 k ∧ Hid (Ns.length = k + 1) ∧ Hid (OwnS w2.heap.size wr v Ns) ∧ Hid (Below w2.heap.size w2 wr)) (fun _ i _ => n7 - (intOf i).toNat)
    case atStart => exact ⟨0, [fs], by omega, rfl, rfl, HS1, HB2⟩
    case round =>
      obtain ⟨k, Ns, hk, rfl, HL, HS, HB⟩ := hrel
      clear HS1 HB2
      obtain ⟨A8, n8, c8, rfl, HN8, hnc8, hcm8, HR8⟩ := ownS_row HS.out
      have h8 : n8 = k + 1 := by rw [← HN8.out]; exact HL.out
      by_cases hlt : k < n7
      · have hkl : k < G.length := by rw [HN7.out]; exact hlt
        obtain ⟨b, off, rfl, hc⟩ := (HV7.out.below HB.out) (by intro e; rw [e] at hkl; simp at hkl)
        obtain ⟨c0, _, _⟩ := hc k hkl
        have hkz : (k : Int) < (n7 : Int) := by omega
        clear hc
        generalize G[k].nm = xs at *
        have HAP := Lib.hid (appS wr wr.heap.size rfl w2.heap.size (.slice A8 n8 c8) Ns xs HS.out HB.out.size (by have := HL.out; omega))
        go_wp2_with (at_builtin; refine wpList_app rfl _ _ 25 25 rfl (.slice A8 n8 c8) (.slice (some ⟨wr.heap.size, 0, none⟩) 1 1) rfl rfl ?_; obtain ⟨R, W', hrun, hmade⟩ := HAP.out; refine ⟨R, W', hrun, ?_⟩; have HM := Lib.hid hmade; clear hrun hmade HAP)
        go_roundw
        case rel => exact ⟨k + 1, Ns ++ [xs], by omega, by go_num, by show _ = _; rw [List.length_append, HL.out]; rfl, HM.out.1, HB.out.trans (HM.out.2.mono (Nat.le_refl _))⟩
        case measure => simp [intOf]; omega
      · obtain rfl : k = n7 := by omega
        have hkz : ¬ (k : Int) < (k : Int) := by omega
        have HBw := Lib.hid (HB1.out.trans (HB.out.mono HB1.out.size))
        have HVw := Lib.hid (HV7.out.below HB.out)
        have HKw := Lib.hid (HK.out.below HB.out)
        clear HS HB HV7 HK HO HGD
        obtain ⟨wo, hwo⟩ : ∃ wo : World, wo = wr := ⟨_, rfl⟩
        rw [← hwo] at HBw HVw HKw HR8 ⊢
        clear hwo
        have hSrt := Lib.hid (goodT_sort HG.out.1)
        have HRG := Lib.hid (goodT_right HG.out.1 (by have := HN7.out; omega))
        have HFT := Lib.hid (goodT_fit HG.out.1)
        go_wp2_with fail
        go_loopw [8] (fun i wr => ∃ j : Nat, j ≤ n8 ∧ i = .int .i64 j ∧ Hid (Below wo.heap.size wo wr)) (fun i _ => n8 - (intOf i).toNat)
        case atStart => exact ⟨0, by omega, rfl, Below.refl _ _⟩
        case round =>
          obtain ⟨j, hj, rfl, HB⟩ := hrel
          have HVr := Lib.hid (HVw.out.below HB.out)
          have HKr := Lib.hid (HKw.out.below HB.out)
          by_cases hlt2 : j < n8
          · obtain ⟨b8, o8, rfl, hc8⟩ := HR8.out j (by rw [HN8.out]; exact hlt2)
            have d8 := keepC HB.out hc8
            have hjz : (j : Int) < (n8 : Int) := by omega
            clear hc8
            generalize Ns[j]'(by rw [HN8.out]; exact hlt2) = sx at *
            have HF1 := Lib.hid (pFind_any A7 G k c7 sx wr HN7.out (by omega) HVr.out HKr.out hSrt.out)
            go_wp2_with fail
            refine HF1.out.mono ?_
            rintro e wa ⟨va, rfl, hoa, hba⟩
            obtain ⟨Aa, na, ca, rfl, HNa, hnca, hcma, HVa, _⟩ := ownC_open hoa.out
            have hal : Below wa.heap.size wa (wa.alloc (.cells #[.slice Aa na ca, .int .i64 (tfK G sx)] 28)) := (Below.refl _ wa).alloc (Nat.le_refl _) _
            have HAA := Lib.hid (Has.new wa 28 #[.slice Aa na ca, .int .i64 (tfK G sx)])
            have hbA := hba.out.trans (hal.mono hba.out.size)
            have HBa := Lib.hid (HB.out.trans (hbA.mono HB.out.size))
            have d9 := keepC hbA d8
            have HF2 := Lib.hid (find6_any A7 G k c7 sx (wa.alloc (.cells #[.slice Aa na ca, .int .i64 (tfK G sx)] 28)) HN7.out (by omega) (HVr.out.below hbA))
            have HKa := Lib.hid (HKr.out.below hbA)
            have HVA := Lib.hid (HVa.out.below hal)
            clear hoa hba HF1 d8 HVr HKr hbA hal HVa
            go_wp2_with fail
            refine HF2.out.mono ?_
            rintro e wb ⟨rfl, hbb⟩
            obtain ⟨Ab, nb, cb, hv, hnb, hnb9, hrb⟩ := tfV_row (s := sx) hSrt.out (HKa.out.below hbb.out)
            rw [hv]
            have hal : Below wb.heap.size wb (wb.alloc (.cells #[.slice Ab nb cb, .int .i64 (tfK G sx)] 28)) := (Below.refl _ wb).alloc (Nat.le_refl _) _
            have hbB := hbb.out.trans (hal.mono hbb.out.size)
            have HSA := Lib.hid (rsame_any Aa (tfL G sx) na ca (tfK G sx) Ab (tfL G sx) nb cb (tfK G sx) (wb.alloc (.cells #[.slice Ab nb cb, .int .i64 (tfK G sx)] 28)) HNa.out hnb (by have h1 := HNa.out; omega) (by omega) (HVA.out.below hbB) (hrb.below hal))
            rw [ssF_refl] at HSA
            have HAB := Lib.hid (HAA.out.below hbB HAA.out.lt)
            have a0 : (wb.alloc (.cells #[.slice Ab nb cb, .int .i64 (tfK G sx)] 28)).cell? ⟨wa.heap.size, 0, none⟩ = some (.slice Aa na ca) := HAB.out.cell 0
            have a1 : (wb.alloc (.cells #[.slice Ab nb cb, .int .i64 (tfK G sx)] 28)).cell? ⟨wa.heap.size, 1, none⟩ = some (.int .i64 (tfK G sx)) := HAB.out.cell 1
            have HBb := Lib.hid (HBa.out.trans (hbB.mono HBa.out.size))
            clear hv hnb hrb hbb HF2 HKa hal hbB HAA HAB HVA d9
            generalize plF G sx = p at *
            generalize tfK G sx = kk at *
            cases p
            all_goals
              go_wp2_with fail
              refine HSA.out.mono ?_
              rintro e wc ⟨rfl, hbc⟩
              have HBc := Lib.hid (HBb.out.trans (hbc.out.mono HBb.out.size))
              clear hbc HSA
              go_wp2_with fail
              go_roundw
              case rel => exact ⟨j + 1, by omega, by go_num, HBc⟩
              case measure => simp [intOf]; omega
          · obtain rfl : j = n8 := by omega
            have hjz : ¬ (j : Int) < (j : Int) := by omega
            have HBz := Lib.hid (HBw.out.trans (HB.out.mono HBw.out.size))
            clear HR8
            go_wp2_with fail
            refine (HPR.out _ HBz.out).mono ?_
            rintro e wc ⟨rfl, hbc⟩
            have HBc := Lib.hid (HBz.out.trans (hbc.out.mono HBz.out.size))
            have HVc := Lib.hid ((HVw.out.below HB.out).below hbc.out)
            have HKc := Lib.hid ((HKw.out.below HB.out).below hbc.out)
            clear hbc HBz
            go_wp2_with fail
            refine (HRR.out _ HBc.out).mono ?_
            rintro e wd ⟨rfl, hbd⟩
            have HBd := Lib.hid (HBc.out.trans (hbd.out.mono HBc.out.size))
            have HPG := Lib.hid (pright_any A7 G k c7 wd HN7.out (by omega) (HVc.out.below hbd.out) ((HKc.out.below hbd.out).tin) (fun x hx => ⟨by have := (HFT.out x hx).1; omega, (HFT.out x hx).2.2⟩))
            rw [HRG.out] at HPG
            clear hbd HBc HVc HKc
            generalize rightF T' = rt at *
            cases rt
            all_goals
              go_wp2_with fail
              refine HPG.out.mono ?_
              rintro e we ⟨rfl, hbe⟩
              have HBe := Lib.hid (HBd.out.trans (hbe.out.mono HBd.out.size))
              clear hbe HPG
              go_wp2_with fail
              refine (lives6_any _).mono ?_
              rintro e wf ⟨rfl, hbf⟩
              have HBf := Lib.hid (HBe.out.trans (hbf.out.mono HBe.out.size))
              clear hbf
              go_wp2_with fail
              go_ret
              exact ⟨rfl, HBf.out⟩
end Go.Proofs.YtiefogofiajmnaaDoor.eventTables
