/-
  What is told, and what is handed in, hangs on no window: the law's walk.
-/
import Derived.Test.YtcdjeibcnkpadaaDoorWxO
import Derived.Test.YtcdjeibcnkpadaaDoorArgsI
namespace Go.Proofs.YtcdjeibcnkpadaaDoor.windowOwns
open Go.RowKit Go.Maps Dg
set_option maxRecDepth 100000
set_option linter.unusedVariables false
def valsI (L : List Int) : List (List Vl) := L.map fun n => [valI n]
theorem schI : Sch [colI] 1 := ⟨⟨by decide, by decide⟩, ⟨by decide, by decide, by decide⟩, fun i hi _ => by
  have : i = 0 := by simp at hi; omega
  subst this; rfl⟩
theorem colsI : ColsOk [colI] := ⟨hcolf, fun c hc => by rw [List.mem_singleton.1 hc]; exact ⟨by decide, by decide⟩⟩
theorem rowsR_ok (L : List (List Vl)) : (∀ r ∈ rowsR [colI] 1 L, fitsF [colI] r = true ∧ r.length = 1) := fun r hr => by
  obtain ⟨v, _, rfl⟩ := rowsR_mem r hr
  have h := rowF_fits [colI] v colsI.kind
  exact ⟨h, by rw [fits_len h]; rfl⟩
theorem rowsR_std (L : List (List Vl)) : stdF [colI] 1 ⟨#[]⟩ (rowsR [colI] 1 L) = true :=
  std_rises (fun r hr => (rowsR_ok L r hr).1) (rowsR_rises _ _ _) (fun r hr => key_pos schI colsI (rowsR_ok L r hr).1)
theorem open_ok (L : List (List Vl)) (hl : L.length ≤ 5) : openE (aShut 9) 0 tT [colI] 1 ⟨#[]⟩ (rowsR [colI] 1 L) = 0 := by
  have h1 := rowsR_len [colI] 1 L
  have h2 : argF (aShut 9) 0 tT [colI] 1 (rowsR [colI] 1 L) = true := by
    unfold argF
    rw [show nameF tT = true by decide +kernel, show smayF [colI] 1 = true by decide +kernel]
    have : decide ((aShut 9).sz < ((rowsR [colI] 1 L).length : Int)) = false := decide_eq_false (by show ¬ ((9 : Int) < _); omega)
    rw [this]
    rfl
  unfold openE
  rw [h2, show (1 : Int).toNat = 1 from rfl, rowsR_std]
  rfl
set_option maxHeartbeats 4000000 in
theorem walk (Al : Option Addr) (nl cl : Nat) (LI : List Int) (w : World) (hnl : LI.length = nl) (hcl : nl ≤ cl) (hIR : IRow w Al LI) (hLI : ∀ x ∈ LI, -9223372036854775808 ≤ x ∧ x ≤ 9223372036854775807) (hT : Tabs w) :
    Calls Tryd.prog 5 #[.slice Al nl cl] w fun e w' => e = .returned (.bool true) ∧ Below w.heap.size w w' := by
  have HT0 := Lib.hid hT
  have HIR := Lib.hid hIR
  have HLI := Lib.hid hLI
  have HNL := Lib.hid hnl
  clear hT hIR hLI
  go_enter Tryd.func5, Tryd.ntmps5
  go_wp2_with fail
  refine (wnew_any 9 w (by decide) (by decide)).mono ?_
  rintro e w1 ⟨b1, t1, rfl, hw1, hb1⟩
  rw [show max (9 : Int) 1 = 9 by decide] at hw1
  have HW1 : Hid (∀ lo, WinA lo b1 t1 w1 (aShut 9)) := fun lo => ⟨_, _, _, _, hw1.out lo⟩
  have HB1 : Hid (Below w.heap.size w w1) := hb1.out.1
  have hge : w.heap.size ≤ b1 ∧ w.heap.size ≤ t1 ∧ b1 ≠ t1 := hb1.out.2
  clear hw1 hb1
  go_wp2_with fail
  refine (lsome_any w1).mono ?_
  rintro e w2 ⟨As, rfl, hs, hb2⟩
  have HCs := Lib.hid hs.out
  have HB2 : Hid (Below w1.heap.size w1 w2) := hb2.out
  have HBw2 : Hid (Below w.heap.size w w2) := HB1.out.trans (HB2.out.mono HB1.out.size)
  have HW2 : Hid (∀ lo, WinA lo b1 t1 w2 (aShut 9)) := fun lo => (HW1.out lo).below HB2.out
  clear hs hb2
  go_wp2_with fail
  obtain ⟨W0, hW0⟩ : ∃ W, w2.alloc (.cells #[.string tT, .slice As 1 1, .int .i64 1] 26) = W := ⟨_, rfl⟩
  have HB0 : Hid (Below w2.heap.size w2 W0) := by rw [← hW0]; exact (Below.refl _ w2).alloc (Nat.le_refl _) _
  have HTb : Hid (Has W0 w2.heap.size 26 #[.string tT, .slice As 1 1, .int .i64 1]) := by rw [← hW0]; exact Has.new _ _ _
  have HBW0 : Hid (Below w.heap.size w W0) := HBw2.out.trans (HB0.out.mono HBw2.out.size)
  have HW0 : Hid (∀ lo, WinA lo b1 t1 W0 (aShut 9)) := fun lo => (HW2.out lo).below HB0.out
  have HC0 := Lib.hid (HCs.out.below HB0.out)
  rw [hW0]
  clear hW0
  go_loopw [5, 6] (fun s i wr => ∃ (j : Nat) (Ao : Option Addr) (no co : Nat), j ≤ nl ∧ j ≤ 5 ∧ s = .slice Ao no co ∧ i = .int .i64 j ∧ (∃ S, Hid (OwnVs W0.heap.size wr (.slice Ao no co) S ∧ RsAt W0.heap.size wr S (valsI (LI.take j)))) ∧ Hid (Below W0.heap.size W0 wr)) (fun s i _ => nl - (intOf i).toNat)
  case atStart => exact ⟨0, none, 0, 0, by omega, by omega, rfl, rfl, ⟨[], ownVs_nil _ _, trivial⟩, Below.refl _ _⟩
  case round =>
    obtain ⟨j, Ao, no, co, hj, hjm, rfl, rfl, ⟨S, HO⟩, HBr⟩ := hrel
    have HBw := Lib.hid (HBW0.out.trans (HBr.out.mono HBW0.out.size))
    by_cases hlt : j < nl
    · have hkl : (j : Int) < (nl : Int) := by omega
      have hk0 : (0 : Int) ≤ (j : Int) := by omega
      by_cases hltm : j < 5
      · have hkm : (j : Int) < 5 := by omega
        have hjl : j < LI.length := by rw [HNL.out]; exact hlt
        obtain ⟨b, off, rfl, hc⟩ := (HIR.out.below HBw.out) (by intro e; rw [e] at hjl; simp at hjl)
        have c0 := hc j hjl
        have hx := HLI.out LI[j] (List.getElem_mem hjl)
        have HNX : Hid (valsI (LI.take (j + 1)) = valsI (LI.take j) ++ [[valI LI[j]]]) := by
          show _ = _
          unfold valsI
          rw [List.take_succ_eq_append_getElem hjl, List.map_append]; rfl
        clear hc
        obtain ⟨x, hxx⟩ : ∃ x, LI[j] = x := ⟨_, rfl⟩
        rw [hxx] at c0 hx HNX
        clear hxx
        have hSl : S.length ≤ 5 := by
          have := HO.out.2.len
          simp [valsI] at this
          omega
        go_wp2_with fail
        refine (lrow_any x wr).mono ?_
        rintro e w3 ⟨A3, rfl, ho3, hb3⟩
        have HO3 : Hid (OwnV wr.heap.size w3 (Sl.val ⟨A3, 1, 1⟩) [valI x]) := ho3.out
        have HB3 : Hid (Below wr.heap.size wr w3) := hb3.out
        have HAP := Lib.hid (appV1 w3 w3.heap.size rfl W0.heap.size (.slice Ao no co) S ⟨A3, 1, 1⟩ (HO.out.1.below HB3.out) (Nat.le_trans HBr.out.size HB3.out.size) (by omega))
        have hXv : Hid (∀ z ∈ (Value.slice Ao no co).ownBlock.toList, ∃ t cs, Has w3 z t cs ∧ t ≠ 68) := fun z hz => by obtain ⟨cs, hc⟩ := (HO.out.1.below HB3.out).has (g := z) (by simpa using hz); exact ⟨_, cs, hc, by decide⟩
        clear ho3 hb3 c0
        go_wp2_with (at_builtin; refine wpList_app rfl _ _ 40 40 rfl (.slice Ao no co) (.slice (some ⟨w3.heap.size, 0, none⟩) 1 1) rfl rfl ?_; obtain ⟨RV, W4, hrun, hown4, htur4, hfre4⟩ := HAP.out; refine ⟨RV, W4, hrun, ?_⟩; obtain ⟨A9, n9, c9, rfl, _⟩ := ownVs_open hown4; have HOX : Hid (OwnVs W0.heap.size W4 (.slice A9 n9 c9) (S ++ [⟨A3, 1, 1⟩]) ∧ RsAt W0.heap.size W4 (S ++ [⟨A3, 1, 1⟩]) (valsI (LI.take j) ++ [[valI x]])) := ⟨hown4, (RsAt.snoc (ownV_dn HO3.out HBr.out.size) (HO.out.2.below HB3.out)).turX htur4 hXv.out⟩; have HBX : Hid (Below W0.heap.size W0 W4) := (HBr.out.trans (HB3.out.mono HBr.out.size)).trans (htur4.below (fun z hz => (World.ownsRow.lt HO.out.1 z (by simpa using hz)).1) (Nat.le_trans HBr.out.size HB3.out.size)); clear HAP hrun hown4 htur4 hfre4 hXv)
        go_wp2_with fail
        go_roundw
        case rel => exact ⟨j + 1, A9, n9, c9, by omega, by omega, rfl, by go_num, ⟨_, HOX.out.1, by rw [HNX.out]; exact HOX.out.2⟩, HBX⟩
        case measure => simp [intOf]; omega
      · obtain rfl : j = 5 := by omega
        have HLt : Hid (valsI (LI.take 5) = (valsI LI).take 5) := by show _ = _; unfold valsI; rw [List.map_take]
        rw [HLt.out] at HO
        have hkm : ¬ ((5 : Nat) : Int) < 5 := by omega
        obtain ⟨LV, hLV⟩ : ∃ LV, (valsI LI).take 5 = LV := ⟨_, rfl⟩
        rw [hLV] at HO
        have HLV : Hid (LV.length ≤ 5 ∧ ∀ l ∈ LV, ∀ x ∈ l, x.fits) := by
          rw [← hLV]
          refine ⟨by rw [List.length_take]; omega, fun l hl x hx => ?_⟩
          obtain ⟨n, hn, rfl⟩ := List.mem_map.1 (List.mem_of_mem_take hl)
          rw [List.mem_singleton.1 hx]
          exact ⟨valI_fit (HLI.out n hn).1 (HLI.out n hn).2, by show (-9223372036854775808 : Int) ≤ 2; decide, by show (2 : Int) ≤ 9223372036854775807; decide⟩
        clear hLV HLt hkm
        obtain ⟨A', n', c', e', HVa⟩ := vsIn_own HO.out.1 HO.out.2 HLV.out.2
        injection e' with q1 q2 q3
        subst q1 q2 q3
        have HV := Lib.hid HVa
        clear HVa
        have HCw := Lib.hid (fun (W : World) (hb : Below W0.heap.size W0 W) => clAt_own (HC0.out.below hb))
        obtain ⟨RR, hRR⟩ : ∃ RR, rowsR [colI] 1 (LV.take 5) = RR := ⟨_, rfl⟩
        have HRR : Hid (RR.length ≤ 5 ∧ (∀ r ∈ RR, fitsF [colI] r = true ∧ r.length = 1) ∧ (∀ r ∈ RR, ∀ x ∈ r, x.fit) ∧ openE (aShut 9) 0 tT [colI] 1 ⟨#[]⟩ RR = 0) := by
          rw [← hRR]
          refine ⟨by have := rowsR_len [colI] 1 (LV.take 5); rw [List.length_take] at this; omega, rowsR_ok _, fun r hr x hx => ?_, open_ok _ (by rw [List.length_take]; omega)⟩
          obtain ⟨v, hv, rfl⟩ := rowsR_mem r hr
          exact (rowF_fit [colI] v colsI.kind (HLV.out.2 v (List.mem_of_mem_take hv)) x hx).1
        have HRW := Lib.hid (fun (W : World) (hb : Below wr.heap.size wr W) => rrows_any As [colI] 1 1 1 Ao no co S LV 5 W schI (HCw.out W (HBr.out.trans (hb.mono HBr.out.size))) colsI (HV.out.below hb) (by decide))
        rw [hRR] at HRW
        clear hRR
        have HTbr := Lib.hid (HTb.out.below HBr.out HTb.out.lt)
        have e0r : wr.cell? ⟨w2.heap.size, 0, none⟩ = some (.string tT) := HTbr.out.cell 0
        have e1r : wr.cell? ⟨w2.heap.size, 1, none⟩ = some (.slice As 1 1) := HTbr.out.cell 1
        have e2r : wr.cell? ⟨w2.heap.size, 2, none⟩ = some (.int .i64 1) := HTbr.out.cell 2
        go_wp2_with fail
        refine (HRW.out _ (Below.refl _ _)).mono ?_
        rintro e w5 ⟨vo, So, rfl, ho, hb⟩
        obtain ⟨Aw, nw, cw, rfl, _, _, _, _⟩ := ownRs_open ho.out.own
        have HOO := Lib.hid ho.out
        have HB5 : Hid (Below wr.heap.size wr w5) := hb.out
        have HB05 := Lib.hid (HBr.out.trans (HB5.out.mono HBr.out.size))
        clear ho hb e0r e1r e2r
        have HTb5 := Lib.hid (HTb.out.below HB05.out HTb.out.lt)
        have e05 : w5.cell? ⟨w2.heap.size, 0, none⟩ = some (.string tT) := HTb5.out.cell 0
        have e15 : w5.cell? ⟨w2.heap.size, 1, none⟩ = some (.slice As 1 1) := HTb5.out.cell 1
        have e25 : w5.cell? ⟨w2.heap.size, 2, none⟩ = some (.int .i64 1) := HTb5.out.cell 2
        go_wp2_with fail
        refine (HRW.out _ HB5.out).mono ?_
        rintro e w6 ⟨vk, Sk, rfl, ho, hb⟩
        obtain ⟨Ak, nk, ck, rfl, _, _, _, _⟩ := ownRs_open ho.out.own
        have HOK := Lib.hid ho.out
        have HB6 : Hid (Below w5.heap.size w5 w6) := hb.out
        have HB06 := Lib.hid (HB05.out.trans (HB6.out.mono HB05.out.size))
        have HOO6 := Lib.hid (HOO.out.below HB6.out)
        clear ho hb e05 e15 e25 HRW
        obtain ⟨A', n', c', e', HRIa⟩ := rsIn_own HOO6.out.own HOO6.out.rows HRR.out.2.2.1
        injection e' with q1 q2 q3
        subst q1 q2 q3
        have HRI := Lib.hid HRIa
        clear HRIa
        have hnw : nw ≤ 5 := by have := HRI.out.many; have := HRR.out.1; omega
        have HBw6 := Lib.hid (HBW0.out.trans (HB06.out.mono HBW0.out.size))
        have HOP := Lib.hid (wopn_any (lo := w6.heap.size) (((HW0.out w6.heap.size).below HB06.out)) (by decide) (by decide) 0 tT As [colI] 1 1 1 ⟨#[]⟩ Aw nw cw So RR (by decide) (HCw.out w6 HB06.out) (by decide) (hcap0 HC0.out) hcolf HRI.out (HT0.out.below HBw6.out) (by omega) (Nat.le_refl _))
        have hOA : openA (aShut 9) 0 tT [colI] 1 ⟨#[]⟩ RR = opA (aShut 9) 0 tT [colI] 1 ⟨#[]⟩ RR := by unfold openA; rw [if_pos HRR.out.2.2.2]
        rw [hOA, HRR.out.2.2.2] at HOP
        clear hOA
        obtain ⟨a1, ha1⟩ : ∃ a1, opA (aShut 9) 0 tT [colI] 1 ⟨#[]⟩ RR = a1 := ⟨_, rfl⟩
        have HA1 : Hid (a1.num = 0 ∧ a1.R.map (·.2) = RR ∧ a1.R.length ≤ 5) := by rw [← ha1]; exact ⟨rfl, keyed_map 1 RR, by show (keyed 1 RR).length ≤ 5; unfold keyed; rw [List.length_map]; exact HRR.out.1⟩
        rw [ha1] at HOP
        clear ha1
        have HTb6 := Lib.hid (HTb.out.below HB06.out HTb.out.lt)
        have e06 : w6.cell? ⟨w2.heap.size, 0, none⟩ = some (.string tT) := HTb6.out.cell 0
        have e16 : w6.cell? ⟨w2.heap.size, 1, none⟩ = some (.slice As 1 1) := HTb6.out.cell 1
        have e26 : w6.cell? ⟨w2.heap.size, 2, none⟩ = some (.int .i64 1) := HTb6.out.cell 2
        go_wp2_with fail
        refine HOP.out.mono ?_
        rintro e w7 ⟨rfl, t7, hw7, hu7, ht7⟩
        have HW7 := Lib.hid hw7.out
        have HU7 := Lib.hid hu7.out
        clear hw7 hu7 ht7 e06 e16 e26 HOP
        have hX7 : ∀ z ∈ [b1], ∃ t cs, Has w6 z t cs ∧ t ≠ 45 ∧ t ≠ 68 := fun z hz => by rw [List.mem_singleton.1 hz]; obtain ⟨⟨cs, hc⟩, _⟩ := ((HW0.out 0).below HB06.out).own; exact ⟨_, cs, hc, by decide, by decide⟩
        have HOO7 := Lib.hid (rsOwn_turX HOO6.out HU7.out hX7)
        have HOK7 := Lib.hid (rsOwn_turX HOK.out HU7.out hX7)
        clear hX7
        have HON7 := Lib.hid (ones_of HOO7.out.rows (fun r hr => (HRR.out.2.1 r hr).2))
        have HBw7 := Lib.hid (HBw6.out.trans (HU7.out.below (by simp; omega) HBw6.out.size))
        have HSo : Hid (∀ z ∈ blks So, w.heap.size ≤ z ∧ z < w5.heap.size) := fun z hz => ⟨by have := (HOO.out.rows.blk z hz).1; have := HBr.out.size; have := HBW0.out.size; omega, (HOO.out.rows.blk z hz).2⟩
        go_wp2_with fail
        go_loopw [9] (fun i wq => ∃ q : Nat, q ≤ nw ∧ i = .int .i64 q ∧ Hid (Tur (blks So) w7 wq) ∧ Hid (Ones wq So)) (fun i _ => nw - (intOf i).toNat)
        case atStart => exact ⟨0, by omega, rfl, Tur.refl _ _, HON7⟩
        case round =>
          obtain ⟨q, hq, rfl, HTq, HOq⟩ := hrel
          by_cases hlq : q < nw
          · have hkq : (q : Int) < (nw : Int) := by omega
            have hkq0 : (0 : Int) ≤ (q : Int) := by omega
            have howq := own_stay HOO7.out.own HTq.out (ones_blk HON7.out)
            obtain ⟨bq, oq, rfl, hsq, cq⟩ := own_cell howq q hlq
            obtain ⟨gq, csq, ea, en, eb, hh, hsz⟩ := HOq.out So[q] (List.getElem_mem hsq)
            have HHq := Lib.hid hh
            have HSTo := Lib.hid (HOq.out.set hh hsz (.int .i64 0))
            have HSTt := Lib.hid (HTq.out.trans (Tur.setCell wr (p := ⟨gq, 0, none⟩) (mem_blks (List.getElem_mem hsq) eb) (.int .i64 0)) (Fre.refl _ _))
            have fq := hh.free 0
            have c0q : wr.cell? ⟨gq, 0, none⟩ = some (csq[0]'(by omega)) := by rw [hh.cell 0]; exact Array.getElem?_eq_getElem _
            obtain ⟨u0, hu0⟩ : ∃ u0, csq[0]'(by omega) = u0 := ⟨_, rfl⟩
            rw [hu0] at c0q
            rw [ea, en] at cq
            clear hu0 hh howq ea en eb HTq HOq
            go_wp2_with fail
            go_roundw
            case rel => exact ⟨q + 1, by omega, by go_num, HSTt, HSTo⟩
            case measure => simp [intOf]; omega
          · obtain rfl : nw = q := by omega
            obtain ⟨w8, hw8⟩ : ∃ W, W = wr := ⟨_, rfl⟩
            subst hw8
            have HT8 : Hid (Tur (blks So) w7 w8) := HTq
            have HO8 : Hid (Ones w8 So) := HOq
            clear HTq HOq
            have HBw8 := Lib.hid (HBw7.out.trans (HT8.out.below (fun z hz => (HSo.out z hz).1) HBw7.out.size))
            have HW8 := Lib.hid (HW7.out.turLo HT8.out (offLo_ty HW7.out (fun z hz => ⟨by have := (HSo.out z hz).2; have := HB6.out.size; omega, ones_blk HON7.out z hz⟩) (by decide) (by decide) (by decide)))
            have HK8 := Lib.hid (rsOwn_turB HOK7.out HT8.out HON7.out (fun g hg hx => by have := (HOK.out.rows.blk g hg).1; have := (HSo.out g hx).2; omega))
            have HC6 := Lib.hid (HC0.out.below HB06.out)
            have HC7 := Lib.hid (HC6.out.turX HU7.out (fun z hz => by rw [List.mem_singleton.1 hz]; obtain ⟨⟨cs, hc⟩, _⟩ := ((HW0.out 0).below HB06.out).own; exact ⟨_, cs, hc, by decide⟩))
            have HC8 := Lib.hid (HC7.out.turX HT8.out (fun z hz => by obtain ⟨cs, hc⟩ := ones_blk HON7.out z hz; exact ⟨_, cs, hc, by decide⟩))
            have HTb7 := Lib.hid (HTb6.out.tur HU7.out (fun hx => by have := List.mem_singleton.1 hx; have := (HW2.out 0).lt.1; omega))
            have HTb8 := Lib.hid (HTb7.out.tur HT8.out (fun hx => by obtain ⟨cs, hc⟩ := ones_blk HON7.out _ hx; exact absurd (HTb7.out.two hc).1 (by decide)))
            obtain ⟨ga, ca, rfl, hgl, hga, hca⟩ := ownC_one HC8.out
            have HGA := Lib.hid hga
            clear hga
            have hg6 : ga < w6.heap.size := by obtain ⟨_, hc⟩ := HC6.out.has (g := ga) rfl; exact hc.lt
            have e18 : w8.cell? ⟨w2.heap.size, 1, none⟩ = some (.slice (some ⟨ga, 0, none⟩) 1 1) := HTb8.out.cell 1
            have fga := HGA.out.free 0
            have cga : w8.cell? ⟨ga, 0, none⟩ = some (ca[0]'(by omega)) := by rw [HGA.out.cell 0]; exact Array.getElem?_eq_getElem _
            obtain ⟨u0, hu0⟩ : ∃ u0, ca[0]'(by omega) = u0 := ⟨_, rfl⟩
            rw [hu0] at cga
            clear hu0
            go_wp2_with fail
            have HT9a : Hid (Tur [ga] w8 (w8.setCell ⟨ga, 0, none⟩ (.string ⟨#[115, 112, 111, 105, 108, 101, 100]⟩))) := Tur.setCell w8 (p := ⟨ga, 0, none⟩) (by simp) _
            obtain ⟨w9, hw9⟩ : ∃ W, w8.setCell ⟨ga, 0, none⟩ (.string ⟨#[115, 112, 111, 105, 108, 101, 100]⟩) = W := ⟨_, rfl⟩
            rw [hw9] at HT9a
            have HT9 : Hid (Tur [ga] w8 w9) := HT9a
            rw [hw9]
            clear hw9 HT9a
            have HW9 := Lib.hid (HW8.out.turLo HT9.out (offLo_ty HW8.out (fun z hz => by rw [List.mem_singleton.1 hz]; exact ⟨hg6, _, HGA.out⟩) (by decide) (by decide) (by decide)))
            have HK9 := Lib.hid (rsOwn_turX HK8.out HT9.out (fun z hz => by rw [List.mem_singleton.1 hz]; exact ⟨_, _, HGA.out, by decide, by decide⟩))
            have HBw9 := Lib.hid (HBw8.out.trans (HT9.out.below (fun z hz => by rw [List.mem_singleton.1 hz]; have := HB1.out.size; omega) HBw8.out.size))
            have HRL : Hid (a1.R.length ≤ 89000 ∧ (∀ r ∈ a1.R, r.2.length ≤ 900) ∧ (∀ r ∈ a1.R, ∀ x ∈ r.2, x.fit)) := by
              have hm : ∀ r ∈ a1.R, r.2 ∈ RR := fun r hr => by rw [← HA1.out.2.1]; exact List.mem_map.2 ⟨r, hr, rfl⟩
              exact ⟨by have := HA1.out.2.2; omega, fun r hr => by have := (HRR.out.2.1 _ (hm r hr)).2; omega, fun r hr => HRR.out.2.2.1 _ (hm r hr)⟩
            clear e18 fga cga
            refine (wrowsA_any HW9.out HRL.out.1 HRL.out.2.1 HRL.out.2.2).mono ?_
            rintro e w10 ⟨At, nt, ct, St, rfl, ho, hr, hb⟩
            rw [HA1.out.2.1] at ho hr
            have HTo : Hid (OwnRs w9.heap.size w10 (.slice At nt ct) St ∧ RsAt w9.heap.size w10 St RR) := ho.out
            have hnt : nt ≤ 5 := by have := hr.out.many; have := HRR.out.1; omega
            have HB10 : Hid (Below w9.heap.size w9 w10) := hb.out
            have HON10 := Lib.hid (ones_of HTo.out.2 (fun r hr => (HRR.out.2.1 r hr).2))
            clear ho hr hb
            go_wp2_with fail
            go_loopw [11] (fun i wq => ∃ q : Nat, q ≤ nt ∧ i = .int .i64 q ∧ Hid (Tur (blks St) w10 wq) ∧ Hid (Ones wq St)) (fun i _ => nt - (intOf i).toNat)
            case atStart => exact ⟨0, by omega, rfl, Tur.refl _ _, HON10⟩
            case round =>
              obtain ⟨q, hq, rfl, HTq, HOq⟩ := hrel
              by_cases hlq : q < nt
              · have hkq : (q : Int) < (nt : Int) := by omega
                have hkq0 : (0 : Int) ≤ (q : Int) := by omega
                have howq := own_stay HTo.out.1 HTq.out (ones_blk HON10.out)
                obtain ⟨bq, oq, rfl, hsq, cq⟩ := own_cell howq q hlq
                obtain ⟨gq, csq, ea, en, eb, hh, hsz⟩ := HOq.out St[q] (List.getElem_mem hsq)
                have HHq := Lib.hid hh
                have HSTo := Lib.hid (HOq.out.set hh hsz (.int .i64 0))
                have HSTt := Lib.hid (HTq.out.trans (Tur.setCell wr (p := ⟨gq, 0, none⟩) (mem_blks (List.getElem_mem hsq) eb) (.int .i64 0)) (Fre.refl _ _))
                have fq := hh.free 0
                have c0q : wr.cell? ⟨gq, 0, none⟩ = some (csq[0]'(by omega)) := by rw [hh.cell 0]; exact Array.getElem?_eq_getElem _
                obtain ⟨u0, hu0⟩ : ∃ u0, csq[0]'(by omega) = u0 := ⟨_, rfl⟩
                rw [hu0] at c0q
                rw [ea, en] at cq
                clear hu0 hh howq ea en eb HTq HOq
                go_wp2_with fail
                go_roundw
                case rel => exact ⟨q + 1, by omega, by go_num, HSTt, HSTo⟩
                case measure => simp [intOf]; omega
              · obtain rfl : nt = q := by omega
                obtain ⟨w11, hw11⟩ : ∃ W, W = wr := ⟨_, rfl⟩
                subst hw11
                have HT11 : Hid (Tur (blks St) w10 w11) := HTq
                clear HTq HOq
                have HB11 : Hid (Below w9.heap.size w9 w11) := HB10.out.trans (HT11.out.below (fun z hz => (HTo.out.2.blk z hz).1) HB10.out.size)
                have HBw11 := Lib.hid (HBw9.out.trans (HB11.out.mono HBw9.out.size))
                have HW11 := Lib.hid (HW9.out.below HB11.out)
                have HK11 := Lib.hid (HK9.out.below HB11.out)
                go_wp2_with fail
                refine (wrowsA_any HW11.out HRL.out.1 HRL.out.2.1 HRL.out.2.2).mono ?_
                rintro e w12 ⟨A2, n2, c2, S2, rfl, ho, hr, hb⟩
                rw [HA1.out.2.1] at ho hr
                have HR2 := Lib.hid hr.out
                have hn2 : n2 ≤ 5 := by have := hr.out.many; have := HRR.out.1; omega
                have HB12 : Hid (Below w11.heap.size w11 w12) := hb.out
                clear ho hr hb
                have HK12 := Lib.hid (HK11.out.below HB12.out)
                obtain ⟨A', n', c', e', HKIa⟩ := rsIn_own HK12.out.own HK12.out.rows HRR.out.2.2.1
                injection e' with q1 q2 q3
                subst q1 q2 q3
                have HKI := Lib.hid HKIa
                clear HKIa
                have HBw12 := Lib.hid (HBw11.out.trans (HB12.out.mono HBw11.out.size))
                go_wp2_with fail
                refine (rsame_any A2 n2 c2 S2 Ak nk ck Sk RR w12 HR2.out HKI.out (by omega) (fun l hl => by have := (HRR.out.2.1 l hl).2; omega)).mono ?_
                rintro e w13 ⟨rfl, hb⟩
                have HB13 : Hid (Below w12.heap.size w12 w13) := hb.out
                clear hb
                have HW13 := Lib.hid ((HW11.out.below HB12.out).below HB13.out)
                have HBw13 := Lib.hid (HBw12.out.trans (HB13.out.mono HBw12.out.size))
                have HNm := Lib.hid (wnumA_any HW13.out)
                rw [HA1.out.1] at HNm
                have HLv := Lib.hid (llives_any w13 (HT0.out.below HBw13.out))
                go_wp2_with fail
                refine HNm.out.mono ?_
                rintro e wz ⟨rfl, rfl⟩
                go_wp2_with fail
                refine HLv.out.mono ?_
                rintro e w14 ⟨rfl, hb⟩
                have HBw14 := Lib.hid (HBw13.out.trans (hb.out.mono HBw13.out.size))
                clear hb
                go_wp2_with fail
                go_ret
                exact ⟨rfl, HBw14.out⟩
    · obtain rfl : j = nl := by omega
      have HLt : Hid (valsI (LI.take j) = (valsI LI).take 5) := by
        show _ = _
        rw [List.take_of_length_le (by rw [HNL.out]; omega), List.take_of_length_le (by unfold valsI; rw [List.length_map, HNL.out]; omega)]
      rw [HLt.out] at HO
      have hkm : ¬ (j : Int) < (j : Int) := by omega
      obtain ⟨LV, hLV⟩ : ∃ LV, (valsI LI).take 5 = LV := ⟨_, rfl⟩
      rw [hLV] at HO
      have HLV : Hid (LV.length ≤ 5 ∧ ∀ l ∈ LV, ∀ x ∈ l, x.fits) := by
        rw [← hLV]
        refine ⟨by rw [List.length_take]; omega, fun l hl x hx => ?_⟩
        obtain ⟨n, hn, rfl⟩ := List.mem_map.1 (List.mem_of_mem_take hl)
        rw [List.mem_singleton.1 hx]
        exact ⟨valI_fit (HLI.out n hn).1 (HLI.out n hn).2, by show (-9223372036854775808 : Int) ≤ 2; decide, by show (2 : Int) ≤ 9223372036854775807; decide⟩
      clear hLV HLt hkm
      obtain ⟨A', n', c', e', HVa⟩ := vsIn_own HO.out.1 HO.out.2 HLV.out.2
      injection e' with q1 q2 q3
      subst q1 q2 q3
      have HV := Lib.hid HVa
      clear HVa
      have HCw := Lib.hid (fun (W : World) (hb : Below W0.heap.size W0 W) => clAt_own (HC0.out.below hb))
      obtain ⟨RR, hRR⟩ : ∃ RR, rowsR [colI] 1 (LV.take 5) = RR := ⟨_, rfl⟩
      have HRR : Hid (RR.length ≤ 5 ∧ (∀ r ∈ RR, fitsF [colI] r = true ∧ r.length = 1) ∧ (∀ r ∈ RR, ∀ x ∈ r, x.fit) ∧ openE (aShut 9) 0 tT [colI] 1 ⟨#[]⟩ RR = 0) := by
        rw [← hRR]
        refine ⟨by have := rowsR_len [colI] 1 (LV.take 5); rw [List.length_take] at this; omega, rowsR_ok _, fun r hr x hx => ?_, open_ok _ (by rw [List.length_take]; omega)⟩
        obtain ⟨v, hv, rfl⟩ := rowsR_mem r hr
        exact (rowF_fit [colI] v colsI.kind (HLV.out.2 v (List.mem_of_mem_take hv)) x hx).1
      have HRW := Lib.hid (fun (W : World) (hb : Below wr.heap.size wr W) => rrows_any As [colI] 1 1 1 Ao no co S LV 5 W schI (HCw.out W (HBr.out.trans (hb.mono HBr.out.size))) colsI (HV.out.below hb) (by decide))
      rw [hRR] at HRW
      clear hRR
      have HTbr := Lib.hid (HTb.out.below HBr.out HTb.out.lt)
      have e0r : wr.cell? ⟨w2.heap.size, 0, none⟩ = some (.string tT) := HTbr.out.cell 0
      have e1r : wr.cell? ⟨w2.heap.size, 1, none⟩ = some (.slice As 1 1) := HTbr.out.cell 1
      have e2r : wr.cell? ⟨w2.heap.size, 2, none⟩ = some (.int .i64 1) := HTbr.out.cell 2
      go_wp2_with fail
      refine (HRW.out _ (Below.refl _ _)).mono ?_
      rintro e w5 ⟨vo, So, rfl, ho, hb⟩
      obtain ⟨Aw, nw, cw, rfl, _, _, _, _⟩ := ownRs_open ho.out.own
      have HOO := Lib.hid ho.out
      have HB5 : Hid (Below wr.heap.size wr w5) := hb.out
      have HB05 := Lib.hid (HBr.out.trans (HB5.out.mono HBr.out.size))
      clear ho hb e0r e1r e2r
      have HTb5 := Lib.hid (HTb.out.below HB05.out HTb.out.lt)
      have e05 : w5.cell? ⟨w2.heap.size, 0, none⟩ = some (.string tT) := HTb5.out.cell 0
      have e15 : w5.cell? ⟨w2.heap.size, 1, none⟩ = some (.slice As 1 1) := HTb5.out.cell 1
      have e25 : w5.cell? ⟨w2.heap.size, 2, none⟩ = some (.int .i64 1) := HTb5.out.cell 2
      go_wp2_with fail
      refine (HRW.out _ HB5.out).mono ?_
      rintro e w6 ⟨vk, Sk, rfl, ho, hb⟩
      obtain ⟨Ak, nk, ck, rfl, _, _, _, _⟩ := ownRs_open ho.out.own
      have HOK := Lib.hid ho.out
      have HB6 : Hid (Below w5.heap.size w5 w6) := hb.out
      have HB06 := Lib.hid (HB05.out.trans (HB6.out.mono HB05.out.size))
      have HOO6 := Lib.hid (HOO.out.below HB6.out)
      clear ho hb e05 e15 e25 HRW
      obtain ⟨A', n', c', e', HRIa⟩ := rsIn_own HOO6.out.own HOO6.out.rows HRR.out.2.2.1
      injection e' with q1 q2 q3
      subst q1 q2 q3
      have HRI := Lib.hid HRIa
      clear HRIa
      have hnw : nw ≤ 5 := by have := HRI.out.many; have := HRR.out.1; omega
      have HBw6 := Lib.hid (HBW0.out.trans (HB06.out.mono HBW0.out.size))
      have HOP := Lib.hid (wopn_any (lo := w6.heap.size) (((HW0.out w6.heap.size).below HB06.out)) (by decide) (by decide) 0 tT As [colI] 1 1 1 ⟨#[]⟩ Aw nw cw So RR (by decide) (HCw.out w6 HB06.out) (by decide) (hcap0 HC0.out) hcolf HRI.out (HT0.out.below HBw6.out) (by omega) (Nat.le_refl _))
      have hOA : openA (aShut 9) 0 tT [colI] 1 ⟨#[]⟩ RR = opA (aShut 9) 0 tT [colI] 1 ⟨#[]⟩ RR := by unfold openA; rw [if_pos HRR.out.2.2.2]
      rw [hOA, HRR.out.2.2.2] at HOP
      clear hOA
      obtain ⟨a1, ha1⟩ : ∃ a1, opA (aShut 9) 0 tT [colI] 1 ⟨#[]⟩ RR = a1 := ⟨_, rfl⟩
      have HA1 : Hid (a1.num = 0 ∧ a1.R.map (·.2) = RR ∧ a1.R.length ≤ 5) := by rw [← ha1]; exact ⟨rfl, keyed_map 1 RR, by show (keyed 1 RR).length ≤ 5; unfold keyed; rw [List.length_map]; exact HRR.out.1⟩
      rw [ha1] at HOP
      clear ha1
      have HTb6 := Lib.hid (HTb.out.below HB06.out HTb.out.lt)
      have e06 : w6.cell? ⟨w2.heap.size, 0, none⟩ = some (.string tT) := HTb6.out.cell 0
      have e16 : w6.cell? ⟨w2.heap.size, 1, none⟩ = some (.slice As 1 1) := HTb6.out.cell 1
      have e26 : w6.cell? ⟨w2.heap.size, 2, none⟩ = some (.int .i64 1) := HTb6.out.cell 2
      go_wp2_with fail
      refine HOP.out.mono ?_
      rintro e w7 ⟨rfl, t7, hw7, hu7, ht7⟩
      have HW7 := Lib.hid hw7.out
      have HU7 := Lib.hid hu7.out
      clear hw7 hu7 ht7 e06 e16 e26 HOP
      have hX7 : ∀ z ∈ [b1], ∃ t cs, Has w6 z t cs ∧ t ≠ 45 ∧ t ≠ 68 := fun z hz => by rw [List.mem_singleton.1 hz]; obtain ⟨⟨cs, hc⟩, _⟩ := ((HW0.out 0).below HB06.out).own; exact ⟨_, cs, hc, by decide, by decide⟩
      have HOO7 := Lib.hid (rsOwn_turX HOO6.out HU7.out hX7)
      have HOK7 := Lib.hid (rsOwn_turX HOK.out HU7.out hX7)
      clear hX7
      have HON7 := Lib.hid (ones_of HOO7.out.rows (fun r hr => (HRR.out.2.1 r hr).2))
      have HBw7 := Lib.hid (HBw6.out.trans (HU7.out.below (by simp; omega) HBw6.out.size))
      have HSo : Hid (∀ z ∈ blks So, w.heap.size ≤ z ∧ z < w5.heap.size) := fun z hz => ⟨by have := (HOO.out.rows.blk z hz).1; have := HBr.out.size; have := HBW0.out.size; omega, (HOO.out.rows.blk z hz).2⟩
      go_wp2_with fail
      go_loopw [9] (fun i wq => ∃ q : Nat, q ≤ nw ∧ i = .int .i64 q ∧ Hid (Tur (blks So) w7 wq) ∧ Hid (Ones wq So)) (fun i _ => nw - (intOf i).toNat)
      case atStart => exact ⟨0, by omega, rfl, Tur.refl _ _, HON7⟩
      case round =>
        obtain ⟨q, hq, rfl, HTq, HOq⟩ := hrel
        by_cases hlq : q < nw
        · have hkq : (q : Int) < (nw : Int) := by omega
          have hkq0 : (0 : Int) ≤ (q : Int) := by omega
          have howq := own_stay HOO7.out.own HTq.out (ones_blk HON7.out)
          obtain ⟨bq, oq, rfl, hsq, cq⟩ := own_cell howq q hlq
          obtain ⟨gq, csq, ea, en, eb, hh, hsz⟩ := HOq.out So[q] (List.getElem_mem hsq)
          have HHq := Lib.hid hh
          have HSTo := Lib.hid (HOq.out.set hh hsz (.int .i64 0))
          have HSTt := Lib.hid (HTq.out.trans (Tur.setCell wr (p := ⟨gq, 0, none⟩) (mem_blks (List.getElem_mem hsq) eb) (.int .i64 0)) (Fre.refl _ _))
          have fq := hh.free 0
          have c0q : wr.cell? ⟨gq, 0, none⟩ = some (csq[0]'(by omega)) := by rw [hh.cell 0]; exact Array.getElem?_eq_getElem _
          obtain ⟨u0, hu0⟩ : ∃ u0, csq[0]'(by omega) = u0 := ⟨_, rfl⟩
          rw [hu0] at c0q
          rw [ea, en] at cq
          clear hu0 hh howq ea en eb HTq HOq
          go_wp2_with fail
          go_roundw
          case rel => exact ⟨q + 1, by omega, by go_num, HSTt, HSTo⟩
          case measure => simp [intOf]; omega
        · obtain rfl : nw = q := by omega
          obtain ⟨w8, hw8⟩ : ∃ W, W = wr := ⟨_, rfl⟩
          subst hw8
          have HT8 : Hid (Tur (blks So) w7 w8) := HTq
          have HO8 : Hid (Ones w8 So) := HOq
          clear HTq HOq
          have HBw8 := Lib.hid (HBw7.out.trans (HT8.out.below (fun z hz => (HSo.out z hz).1) HBw7.out.size))
          have HW8 := Lib.hid (HW7.out.turLo HT8.out (offLo_ty HW7.out (fun z hz => ⟨by have := (HSo.out z hz).2; have := HB6.out.size; omega, ones_blk HON7.out z hz⟩) (by decide) (by decide) (by decide)))
          have HK8 := Lib.hid (rsOwn_turB HOK7.out HT8.out HON7.out (fun g hg hx => by have := (HOK.out.rows.blk g hg).1; have := (HSo.out g hx).2; omega))
          have HC6 := Lib.hid (HC0.out.below HB06.out)
          have HC7 := Lib.hid (HC6.out.turX HU7.out (fun z hz => by rw [List.mem_singleton.1 hz]; obtain ⟨⟨cs, hc⟩, _⟩ := ((HW0.out 0).below HB06.out).own; exact ⟨_, cs, hc, by decide⟩))
          have HC8 := Lib.hid (HC7.out.turX HT8.out (fun z hz => by obtain ⟨cs, hc⟩ := ones_blk HON7.out z hz; exact ⟨_, cs, hc, by decide⟩))
          have HTb7 := Lib.hid (HTb6.out.tur HU7.out (fun hx => by have := List.mem_singleton.1 hx; have := (HW2.out 0).lt.1; omega))
          have HTb8 := Lib.hid (HTb7.out.tur HT8.out (fun hx => by obtain ⟨cs, hc⟩ := ones_blk HON7.out _ hx; exact absurd (HTb7.out.two hc).1 (by decide)))
          obtain ⟨ga, ca, rfl, hgl, hga, hca⟩ := ownC_one HC8.out
          have HGA := Lib.hid hga
          clear hga
          have hg6 : ga < w6.heap.size := by obtain ⟨_, hc⟩ := HC6.out.has (g := ga) rfl; exact hc.lt
          have e18 : w8.cell? ⟨w2.heap.size, 1, none⟩ = some (.slice (some ⟨ga, 0, none⟩) 1 1) := HTb8.out.cell 1
          have fga := HGA.out.free 0
          have cga : w8.cell? ⟨ga, 0, none⟩ = some (ca[0]'(by omega)) := by rw [HGA.out.cell 0]; exact Array.getElem?_eq_getElem _
          obtain ⟨u0, hu0⟩ : ∃ u0, ca[0]'(by omega) = u0 := ⟨_, rfl⟩
          rw [hu0] at cga
          clear hu0
          go_wp2_with fail
          have HT9a : Hid (Tur [ga] w8 (w8.setCell ⟨ga, 0, none⟩ (.string ⟨#[115, 112, 111, 105, 108, 101, 100]⟩))) := Tur.setCell w8 (p := ⟨ga, 0, none⟩) (by simp) _
          obtain ⟨w9, hw9⟩ : ∃ W, w8.setCell ⟨ga, 0, none⟩ (.string ⟨#[115, 112, 111, 105, 108, 101, 100]⟩) = W := ⟨_, rfl⟩
          rw [hw9] at HT9a
          have HT9 : Hid (Tur [ga] w8 w9) := HT9a
          rw [hw9]
          clear hw9 HT9a
          have HW9 := Lib.hid (HW8.out.turLo HT9.out (offLo_ty HW8.out (fun z hz => by rw [List.mem_singleton.1 hz]; exact ⟨hg6, _, HGA.out⟩) (by decide) (by decide) (by decide)))
          have HK9 := Lib.hid (rsOwn_turX HK8.out HT9.out (fun z hz => by rw [List.mem_singleton.1 hz]; exact ⟨_, _, HGA.out, by decide, by decide⟩))
          have HBw9 := Lib.hid (HBw8.out.trans (HT9.out.below (fun z hz => by rw [List.mem_singleton.1 hz]; have := HB1.out.size; omega) HBw8.out.size))
          have HRL : Hid (a1.R.length ≤ 89000 ∧ (∀ r ∈ a1.R, r.2.length ≤ 900) ∧ (∀ r ∈ a1.R, ∀ x ∈ r.2, x.fit)) := by
            have hm : ∀ r ∈ a1.R, r.2 ∈ RR := fun r hr => by rw [← HA1.out.2.1]; exact List.mem_map.2 ⟨r, hr, rfl⟩
            exact ⟨by have := HA1.out.2.2; omega, fun r hr => by have := (HRR.out.2.1 _ (hm r hr)).2; omega, fun r hr => HRR.out.2.2.1 _ (hm r hr)⟩
          clear e18 fga cga
          refine (wrowsA_any HW9.out HRL.out.1 HRL.out.2.1 HRL.out.2.2).mono ?_
          rintro e w10 ⟨At, nt, ct, St, rfl, ho, hr, hb⟩
          rw [HA1.out.2.1] at ho hr
          have HTo : Hid (OwnRs w9.heap.size w10 (.slice At nt ct) St ∧ RsAt w9.heap.size w10 St RR) := ho.out
          have hnt : nt ≤ 5 := by have := hr.out.many; have := HRR.out.1; omega
          have HB10 : Hid (Below w9.heap.size w9 w10) := hb.out
          have HON10 := Lib.hid (ones_of HTo.out.2 (fun r hr => (HRR.out.2.1 r hr).2))
          clear ho hr hb
          go_wp2_with fail
          go_loopw [11] (fun i wq => ∃ q : Nat, q ≤ nt ∧ i = .int .i64 q ∧ Hid (Tur (blks St) w10 wq) ∧ Hid (Ones wq St)) (fun i _ => nt - (intOf i).toNat)
          case atStart => exact ⟨0, by omega, rfl, Tur.refl _ _, HON10⟩
          case round =>
            obtain ⟨q, hq, rfl, HTq, HOq⟩ := hrel
            by_cases hlq : q < nt
            · have hkq : (q : Int) < (nt : Int) := by omega
              have hkq0 : (0 : Int) ≤ (q : Int) := by omega
              have howq := own_stay HTo.out.1 HTq.out (ones_blk HON10.out)
              obtain ⟨bq, oq, rfl, hsq, cq⟩ := own_cell howq q hlq
              obtain ⟨gq, csq, ea, en, eb, hh, hsz⟩ := HOq.out St[q] (List.getElem_mem hsq)
              have HHq := Lib.hid hh
              have HSTo := Lib.hid (HOq.out.set hh hsz (.int .i64 0))
              have HSTt := Lib.hid (HTq.out.trans (Tur.setCell wr (p := ⟨gq, 0, none⟩) (mem_blks (List.getElem_mem hsq) eb) (.int .i64 0)) (Fre.refl _ _))
              have fq := hh.free 0
              have c0q : wr.cell? ⟨gq, 0, none⟩ = some (csq[0]'(by omega)) := by rw [hh.cell 0]; exact Array.getElem?_eq_getElem _
              obtain ⟨u0, hu0⟩ : ∃ u0, csq[0]'(by omega) = u0 := ⟨_, rfl⟩
              rw [hu0] at c0q
              rw [ea, en] at cq
              clear hu0 hh howq ea en eb HTq HOq
              go_wp2_with fail
              go_roundw
              case rel => exact ⟨q + 1, by omega, by go_num, HSTt, HSTo⟩
              case measure => simp [intOf]; omega
            · obtain rfl : nt = q := by omega
              obtain ⟨w11, hw11⟩ : ∃ W, W = wr := ⟨_, rfl⟩
              subst hw11
              have HT11 : Hid (Tur (blks St) w10 w11) := HTq
              clear HTq HOq
              have HB11 : Hid (Below w9.heap.size w9 w11) := HB10.out.trans (HT11.out.below (fun z hz => (HTo.out.2.blk z hz).1) HB10.out.size)
              have HBw11 := Lib.hid (HBw9.out.trans (HB11.out.mono HBw9.out.size))
              have HW11 := Lib.hid (HW9.out.below HB11.out)
              have HK11 := Lib.hid (HK9.out.below HB11.out)
              go_wp2_with fail
              refine (wrowsA_any HW11.out HRL.out.1 HRL.out.2.1 HRL.out.2.2).mono ?_
              rintro e w12 ⟨A2, n2, c2, S2, rfl, ho, hr, hb⟩
              rw [HA1.out.2.1] at ho hr
              have HR2 := Lib.hid hr.out
              have hn2 : n2 ≤ 5 := by have := hr.out.many; have := HRR.out.1; omega
              have HB12 : Hid (Below w11.heap.size w11 w12) := hb.out
              clear ho hr hb
              have HK12 := Lib.hid (HK11.out.below HB12.out)
              obtain ⟨A', n', c', e', HKIa⟩ := rsIn_own HK12.out.own HK12.out.rows HRR.out.2.2.1
              injection e' with q1 q2 q3
              subst q1 q2 q3
              have HKI := Lib.hid HKIa
              clear HKIa
              have HBw12 := Lib.hid (HBw11.out.trans (HB12.out.mono HBw11.out.size))
              go_wp2_with fail
              refine (rsame_any A2 n2 c2 S2 Ak nk ck Sk RR w12 HR2.out HKI.out (by omega) (fun l hl => by have := (HRR.out.2.1 l hl).2; omega)).mono ?_
              rintro e w13 ⟨rfl, hb⟩
              have HB13 : Hid (Below w12.heap.size w12 w13) := hb.out
              clear hb
              have HW13 := Lib.hid ((HW11.out.below HB12.out).below HB13.out)
              have HBw13 := Lib.hid (HBw12.out.trans (HB13.out.mono HBw12.out.size))
              have HNm := Lib.hid (wnumA_any HW13.out)
              rw [HA1.out.1] at HNm
              have HLv := Lib.hid (llives_any w13 (HT0.out.below HBw13.out))
              go_wp2_with fail
              refine HNm.out.mono ?_
              rintro e wz ⟨rfl, rfl⟩
              go_wp2_with fail
              refine HLv.out.mono ?_
              rintro e w14 ⟨rfl, hb⟩
              have HBw14 := Lib.hid (HBw13.out.trans (hb.out.mono HBw13.out.size))
              clear hb
              go_wp2_with fail
              go_ret
              exact ⟨rfl, HBw14.out⟩
end Go.Proofs.YtcdjeibcnkpadaaDoor.windowOwns
