/-
  Put together, as far as it is used: WvG, Qa, Qb, Qc, Qd, Qf, TabP, Qh, Qi.
-/
import Derived.Test.YtlhfdhmmdnkojaaGreatDoorEad
import Derived.Test.YtlhfdhmmdnkojaaGreatDoorEab
import Derived.RegionTactic
import Derived.Deep.QuietTactic
import Derived.BigQuiet
import Derived.Lib.ValidLaws
import Derived.Lib.AppendZerosOnto
import Derived.Laws.AppendOwnNone
import Derived.Deep.RegionHeld3
import Derived.Test.YtlhfdhmmdnkojaaGreatDoorShelf
import Derived.Laws.ResultCell
import Derived.MapKept
namespace Go.Proofs.YtlhfdhmmdnkojaaGreatDoor
open Go.RowKit Dg
set_option maxRecDepth 100000
set_option linter.unusedVariables false
set_option maxHeartbeats 16000000 in
theorem rgood14_any {A : Option Addr} {n c : Nat} {L : List Wk} (w : World) (hn : L.length = n) (hnc : n ≤ c) (hcm : c ≤ maxLen) (hA : WRow w A L) (hsh : ∀ x ∈ L, Wk.fit x) :
    Calls Tryz.prog 79 #[.slice A n c] w fun e w' => ∃ u, e = .returned u ∧ Hid (OwnW w.heap.size w' u (goodW L)) ∧ Hid (Below w.heap.size w w') := by
  have HN := Lib.hid hn
  have HA := Lib.hid hA
  have HSH := Lib.hid hsh
  have HP0 : Hid (GSw w (w.alloc (.cells #[.string ⟨#[116]⟩, .string ⟨#[117]⟩, .string ⟨#[118]⟩, .string ⟨#[119]⟩] 9)) (.slice none 0 0) (gdTo L 0)) := ⟨ownW_nil _ _, (Below.refl _ w).alloc (Nat.le_refl _) _, Has.new w 9 _, by simp⟩
  clear hn hA hsh
  unfold maxLen at hcm
  go_enter Tryz.func79, Tryz.ntmps79
  go_wp2_with fail
  go_loopw [3, 5] (fun g i wr => ∃ (k : Nat) (u : Value), k ≤ n ∧ k ≤ 4 ∧ i = .int .i64 k ∧ u = g ∧ Hid (GSw w wr u (gdTo L k))) (fun _ i _ => 4 - (intOf i).toNat)
  case atStart => exact ⟨0, _, by omega, by omega, rfl, rfl, HP0⟩
  case round =>
    obtain ⟨k, u, hk, hk4, rfl, rfl, HS⟩ := hrel
    clear HP0
    by_cases hlt : k < n
    · by_cases h4 : k < 4
      · have hkl : k < L.length := by rw [HN.out]; exact hlt
        obtain ⟨b, off, rfl, hc⟩ := (HA.out.below HS.out.bel) (by intro e; rw [e] at hkl; simp at hkl)
        obtain ⟨c0, c1, c2⟩ := hc k hkl
        have HC : Hid (∀ W, Below w.heap.size w W → W.cell? ⟨b, off + k * 3, none⟩ = some (.string L[k].t) ∧ W.cell? ⟨b, off + k * 3 + 1, none⟩ = some (.bool L[k].d) ∧ W.cell? ⟨b, off + k * 3 + 2, none⟩ = some (.string L[k].k)) := fun W hW => by
          obtain ⟨b2, off2, e2, hc2⟩ := (HA.out.below hW) (by intro e; rw [e] at hkl; simp at hkl)
          cases e2
          exact hc2 k hkl
        have hsx := HSH.out L[k] (List.getElem_mem hkl)
        unfold Wk.fit at hsx
        have HGS := Lib.hid (gdTo_succ L k hkl)
        obtain ⟨hok1, hok2, _⟩ := gdTo_ok L k
        have HOK1 := Lib.hid hok1
        have hp := ypool_cell HS.out.pool k h4
        have hkz : (k : Int) < (n : Int) := by omega
        have hkz4 : (k : Int) < 4 := by omega
        clear hc hok1
        generalize gdTo L k = T at *
        generalize L[k] = x at *
        obtain ⟨d, hd⟩ : ∃ d, x.d = d := ⟨_, rfl⟩
        simp only [hd] at HC
        have HD := Lib.hid hd
        clear hd
        have HNF := Lib.hid (refName_any x.t wr)
        have HG : Hid (gnm x k = if nameF x.t = true then x.t else poolB k) := rfl
        have hgz := gnm_size x k
        have HGN := Lib.hid (gnm_name x k)
        cases hnf : nameF x.t
        · rw [hnf] at HNF HG
          have hg2 : gnm x k = poolB k := HG.out
          rw [← hg2] at hp
          clear hnf hg2 HG
          go_wp2_with fail
          refine HNF.out.mono ?_
          rintro e w1 ⟨rfl, rfl⟩
          clear HNF c0 c1 c2
          have c0 := (HC.out _ HS.out.bel).1
          have HADD := Lib.hid (radd_any (gnm x k) w1 HS.out.own (by omega) HOK1.out)
          cases hpl : plW T (gnm x k)
          · have hae := add_yes HGN.out hpl
            rw [hae.1, hae.2] at HADD
            have HGS2 : Hid (gdTo L (k + 1) = gput (T) (gnm x k) d (gky x)) := by show _ = _; rw [HGS.out, gstep_new (by exact hpl)]; rw [HD.out]
            have HSO := Lib.hid (gput_sort HOK1.out hpl false ⟨#[]⟩)
            have HPL := Lib.hid (gput_pl HOK1.out hpl false ⟨#[]⟩)
            have HLB := Lib.hid (gput_lb HOK1.out hpl false ⟨#[]⟩)
            have HLN := Lib.hid (gput_len T (gnm x k) false ⟨#[]⟩)
            have hlb := lw_le T (gnm x k)
            clear hae hpl
            go_wp2_with fail
            refine HADD.out.mono ?_
            rintro e w2 ⟨u2, rfl, ho2, hb2⟩
            have HS2 := Lib.hid (HS.out.grown ho2.out hb2.out)
            clear ho2 HADD hp HS
            have HAT := Lib.hid (rat11_any (gnm x k) w2 HS2.out.own (by rw [HLN.out]; omega) HSO.out)
            have hws : watS (gput T (gnm x k) false ⟨#[]⟩) (gnm x k) = (lbW T (gnm x k) : Int) := by unfold watS; rw [HPL.out, HLB.out]; rfl
            rw [hws] at HAT
            clear hws c0
            obtain ⟨A2, n2, z2, rfl, hn2, _, _, _, _⟩ := ownW_open HS2.out.own
            obtain ⟨g, rfl, hgn, hgc⟩ := HS2.out.addr (by rw [HLN.out]; omega)
            have hlz : (lbW T (gnm x k) : Int) < (n2 : Int) := by have := HLN.out; omega
            have hlz0 : (0 : Int) ≤ (lbW T (gnm x k) : Int) := by omega
            obtain ⟨hf1, hs1⟩ := HS2.out.put (lbW T (gnm x k)) (by rw [HLN.out]; omega) 1 (by omega) (.bool d) ⟨gnm x k, d, ⟨#[]⟩⟩ (by rw [gput_at]; rfl)
            rw [gput_set] at hs1
            have HS3 := Lib.hid hs1
            have HL3 := Lib.hid (gput_len T (gnm x k) d ⟨#[]⟩)
            obtain ⟨e0, e1, e2⟩ := HC.out _ HS2.out.bel
            obtain ⟨i0, i1, i2⟩ := HC.out _ HS3.out.bel
            have o1 : w2.cell? ⟨g, lbW T (gnm x k) * 3 + 1, none⟩ = some (.bool false) := by
              obtain ⟨b9, off9, e9, h9⟩ := (HS2.out.own.row rfl) (by intro e; have := HLN.out; rw [e] at this; simp at this)
              have hoff : off9 = 0 := by injection e9 with e9; injection e9 with _ e9; exact e9.symm
              injection e9 with e9; injection e9 with e8 _
              subst e8 hoff
              have h8 := (h9 (lbW T (gnm x k)) (by rw [HLN.out]; omega)).2.1
              rw [gput_at] at h8
              rw [Nat.zero_add] at h8
              exact h8
            have HO2 : Hid (∀ W (_ : GSw w W (.slice (some ⟨g, 0, none⟩) n2 z2) (gput T (gnm x k) d ⟨#[]⟩)), W.cell? ⟨g, lbW T (gnm x k) * 3 + 2, none⟩ = some (.string ⟨#[]⟩)) := fun W hW => by
              obtain ⟨b9, off9, e9, h9⟩ := (hW.own.row rfl) (by intro e; have := HL3.out; rw [e] at this; simp at this)
              have hoff : off9 = 0 := by injection e9 with e9; injection e9 with _ e9; exact e9.symm
              injection e9 with e9; injection e9 with e8 _
              subst e8 hoff
              have h8 := (h9 (lbW T (gnm x k)) (by rw [HL3.out]; omega)).2.2
              rw [gput_at] at h8
              rw [Nat.zero_add] at h8
              exact h8
            clear hs1 hn2
            cases d
            · by_cases hk0 : 0 < x.k.size
              · have hgk := gky_yes HD.out hk0
                rw [hgk] at HGS2
                have hkz0 : (0 : Int) < (x.k.size : Int) := by omega
                have htm : (wrap64 ((x.k[0]'hk0).toNat : Int)).tmod 9 = (gkn x : Int) := by
                  rw [show wrap64 ((x.k[0]'hk0).toNat : Int) = ((x.k[0]'hk0).toNat : Int) by have := (x.k[0]'hk0).toNat_lt; unfold wrap64; omega]
                  exact gkn_tmod x hk0
                have hmz := gkn_lt x
                go_wp2_with fail
                refine HAT.out.mono ?_
                rintro e w3 ⟨rfl, rfl⟩
                go_wp2_with fail
                obtain ⟨W3, hW3⟩ : ∃ W, W = w3.setCell ⟨g, lbW T (gnm x k) * 3 + 1, none⟩ (.bool false) := ⟨_, rfl⟩
                have hz3 : w3.heap.size = W3.heap.size := by rw [hW3, size_set]
                rw [← hW3] at HS3 ⊢
                rw [hz3]
                clear hW3 hz3 hf1 o1 i0 i1 i2 e0 e1 e2 htm
                refine (rkeyLit W3 W3.heap.size rfl (gkn x : Nat) (by omega) (by omega)).mono ?_
                rintro e w5 ⟨rfl, hb5⟩
                have HS4 := Lib.hid (HS3.out.below hb5.out)
                have o2 := HO2.out _ HS4.out
                obtain ⟨hf2, hs2⟩ := HS4.out.put (lbW T (gnm x k)) (by rw [HL3.out]; omega) 2 (by omega) (.string (kI (gkn x : Nat))) ⟨gnm x k, false, kI (gkn x : Nat)⟩ (by rw [gput_at]; rfl)
                rw [gput_set] at hs2
                have HS5 := Lib.hid hs2
                clear hs2 hb5
                go_wp2_with fail
                go_roundw
                case rel => exact ⟨k + 1, _, by omega, by omega, by go_num, rfl, by rw [HGS2.out]; exact HS5.out⟩
                case measure => simp [intOf]; omega
              · have hgk := gky_no (x := x) (by intro h; exact hk0 h.2)
                rw [hgk] at HGS2
                have hkz0 : ¬ ((0 : Int) < (x.k.size : Int)) := by omega
                go_wp2_with fail
                refine HAT.out.mono ?_
                rintro e w3 ⟨rfl, rfl⟩
                go_wp2_with fail
                go_roundw
                case rel => exact ⟨k + 1, _, by omega, by omega, by go_num, rfl, by rw [HGS2.out]; exact HS3.out⟩
                case measure => simp [intOf]; omega
            · have hgk := gky_no (x := x) (by rw [HD.out]; simp)
              rw [hgk] at HGS2
              go_wp2_with fail
              refine HAT.out.mono ?_
              rintro e w3 ⟨rfl, rfl⟩
              go_wp2_with fail
              go_roundw
              case rel => exact ⟨k + 1, _, by omega, by omega, by go_num, rfl, by rw [HGS2.out]; exact HS3.out⟩
              case measure => simp [intOf]; omega
          · have hae := add_dup HGN.out hpl
            rw [hae] at HADD
            have HGS2 : Hid (gdTo L (k + 1) = T) := by show _ = _; rw [HGS.out, gstep_dup (by exact hpl)]
            clear hae hpl
            go_wp2_with fail
            refine HADD.out.mono ?_
            rintro e w2 ⟨u2, rfl, _, hb2⟩
            have HS2 := Lib.hid (HS.out.below hb2.out)
            clear HADD
            go_wp2_with fail
            go_roundw
            case rel => exact ⟨k + 1, _, by omega, by omega, by go_num, rfl, by rw [HGS2.out]; exact HS2.out⟩
            case measure => simp [intOf]; omega
        · rw [hnf] at HNF HG
          have hg2 : gnm x k = x.t := HG.out
          have HGE : Hid (gnm x k = x.t) := hg2
          rw [hg2] at hgz HGN
          clear hnf hg2 HG hp
          go_wp2_with fail
          refine HNF.out.mono ?_
          rintro e w1 ⟨rfl, rfl⟩
          clear HNF c0 c1 c2
          have c0 := (HC.out _ HS.out.bel).1
          have HADD := Lib.hid (radd_any (x.t) w1 HS.out.own (by omega) HOK1.out)
          cases hpl : plW T (x.t)
          · have hae := add_yes HGN.out hpl
            rw [hae.1, hae.2] at HADD
            have HGS2 : Hid (gdTo L (k + 1) = gput (T) (x.t) d (gky x)) := by show _ = _; rw [HGS.out, gstep_new (by rw [HGE.out]; exact hpl)]; rw [HD.out]; rw [HGE.out]
            have HSO := Lib.hid (gput_sort HOK1.out hpl false ⟨#[]⟩)
            have HPL := Lib.hid (gput_pl HOK1.out hpl false ⟨#[]⟩)
            have HLB := Lib.hid (gput_lb HOK1.out hpl false ⟨#[]⟩)
            have HLN := Lib.hid (gput_len T (x.t) false ⟨#[]⟩)
            have hlb := lw_le T (x.t)
            clear hae hpl
            go_wp2_with fail
            refine HADD.out.mono ?_
            rintro e w2 ⟨u2, rfl, ho2, hb2⟩
            have HS2 := Lib.hid (HS.out.grown ho2.out hb2.out)
            clear ho2 HADD HS
            have HAT := Lib.hid (rat11_any (x.t) w2 HS2.out.own (by rw [HLN.out]; omega) HSO.out)
            have hws : watS (gput T (x.t) false ⟨#[]⟩) (x.t) = (lbW T (x.t) : Int) := by unfold watS; rw [HPL.out, HLB.out]; rfl
            rw [hws] at HAT
            clear hws c0
            obtain ⟨A2, n2, z2, rfl, hn2, _, _, _, _⟩ := ownW_open HS2.out.own
            obtain ⟨g, rfl, hgn, hgc⟩ := HS2.out.addr (by rw [HLN.out]; omega)
            have hlz : (lbW T (x.t) : Int) < (n2 : Int) := by have := HLN.out; omega
            have hlz0 : (0 : Int) ≤ (lbW T (x.t) : Int) := by omega
            obtain ⟨hf1, hs1⟩ := HS2.out.put (lbW T (x.t)) (by rw [HLN.out]; omega) 1 (by omega) (.bool d) ⟨x.t, d, ⟨#[]⟩⟩ (by rw [gput_at]; rfl)
            rw [gput_set] at hs1
            have HS3 := Lib.hid hs1
            have HL3 := Lib.hid (gput_len T (x.t) d ⟨#[]⟩)
            obtain ⟨e0, e1, e2⟩ := HC.out _ HS2.out.bel
            obtain ⟨i0, i1, i2⟩ := HC.out _ HS3.out.bel
            have o1 : w2.cell? ⟨g, lbW T (x.t) * 3 + 1, none⟩ = some (.bool false) := by
              obtain ⟨b9, off9, e9, h9⟩ := (HS2.out.own.row rfl) (by intro e; have := HLN.out; rw [e] at this; simp at this)
              have hoff : off9 = 0 := by injection e9 with e9; injection e9 with _ e9; exact e9.symm
              injection e9 with e9; injection e9 with e8 _
              subst e8 hoff
              have h8 := (h9 (lbW T (x.t)) (by rw [HLN.out]; omega)).2.1
              rw [gput_at] at h8
              rw [Nat.zero_add] at h8
              exact h8
            have HO2 : Hid (∀ W (_ : GSw w W (.slice (some ⟨g, 0, none⟩) n2 z2) (gput T (x.t) d ⟨#[]⟩)), W.cell? ⟨g, lbW T (x.t) * 3 + 2, none⟩ = some (.string ⟨#[]⟩)) := fun W hW => by
              obtain ⟨b9, off9, e9, h9⟩ := (hW.own.row rfl) (by intro e; have := HL3.out; rw [e] at this; simp at this)
              have hoff : off9 = 0 := by injection e9 with e9; injection e9 with _ e9; exact e9.symm
              injection e9 with e9; injection e9 with e8 _
              subst e8 hoff
              have h8 := (h9 (lbW T (x.t)) (by rw [HL3.out]; omega)).2.2
              rw [gput_at] at h8
              rw [Nat.zero_add] at h8
              exact h8
            clear hs1 hn2
            cases d
            · by_cases hk0 : 0 < x.k.size
              · have hgk := gky_yes HD.out hk0
                rw [hgk] at HGS2
                have hkz0 : (0 : Int) < (x.k.size : Int) := by omega
                have htm : (wrap64 ((x.k[0]'hk0).toNat : Int)).tmod 9 = (gkn x : Int) := by
                  rw [show wrap64 ((x.k[0]'hk0).toNat : Int) = ((x.k[0]'hk0).toNat : Int) by have := (x.k[0]'hk0).toNat_lt; unfold wrap64; omega]
                  exact gkn_tmod x hk0
                have hmz := gkn_lt x
                go_wp2_with fail
                refine HAT.out.mono ?_
                rintro e w3 ⟨rfl, rfl⟩
                go_wp2_with fail
                obtain ⟨W3, hW3⟩ : ∃ W, W = w3.setCell ⟨g, lbW T (x.t) * 3 + 1, none⟩ (.bool false) := ⟨_, rfl⟩
                have hz3 : w3.heap.size = W3.heap.size := by rw [hW3, size_set]
                rw [← hW3] at HS3 ⊢
                rw [hz3]
                clear hW3 hz3 hf1 o1 i0 i1 i2 e0 e1 e2 htm
                refine (rkeyLit W3 W3.heap.size rfl (gkn x : Nat) (by omega) (by omega)).mono ?_
                rintro e w5 ⟨rfl, hb5⟩
                have HS4 := Lib.hid (HS3.out.below hb5.out)
                have o2 := HO2.out _ HS4.out
                obtain ⟨hf2, hs2⟩ := HS4.out.put (lbW T (x.t)) (by rw [HL3.out]; omega) 2 (by omega) (.string (kI (gkn x : Nat))) ⟨x.t, false, kI (gkn x : Nat)⟩ (by rw [gput_at]; rfl)
                rw [gput_set] at hs2
                have HS5 := Lib.hid hs2
                clear hs2 hb5
                go_wp2_with fail
                go_roundw
                case rel => exact ⟨k + 1, _, by omega, by omega, by go_num, rfl, by rw [HGS2.out]; exact HS5.out⟩
                case measure => simp [intOf]; omega
              · have hgk := gky_no (x := x) (by intro h; exact hk0 h.2)
                rw [hgk] at HGS2
                have hkz0 : ¬ ((0 : Int) < (x.k.size : Int)) := by omega
                go_wp2_with fail
                refine HAT.out.mono ?_
                rintro e w3 ⟨rfl, rfl⟩
                go_wp2_with fail
                go_roundw
                case rel => exact ⟨k + 1, _, by omega, by omega, by go_num, rfl, by rw [HGS2.out]; exact HS3.out⟩
                case measure => simp [intOf]; omega
            · have hgk := gky_no (x := x) (by rw [HD.out]; simp)
              rw [hgk] at HGS2
              go_wp2_with fail
              refine HAT.out.mono ?_
              rintro e w3 ⟨rfl, rfl⟩
              go_wp2_with fail
              go_roundw
              case rel => exact ⟨k + 1, _, by omega, by omega, by go_num, rfl, by rw [HGS2.out]; exact HS3.out⟩
              case measure => simp [intOf]; omega
          · have hae := add_dup HGN.out hpl
            rw [hae] at HADD
            have HGS2 : Hid (gdTo L (k + 1) = T) := by show _ = _; rw [HGS.out, gstep_dup (by rw [HGE.out]; exact hpl)]
            clear hae hpl
            go_wp2_with fail
            refine HADD.out.mono ?_
            rintro e w2 ⟨u2, rfl, _, hb2⟩
            have HS2 := Lib.hid (HS.out.below hb2.out)
            clear HADD
            go_wp2_with fail
            go_roundw
            case rel => exact ⟨k + 1, _, by omega, by omega, by go_num, rfl, by rw [HGS2.out]; exact HS2.out⟩
            case measure => simp [intOf]; omega
      · obtain rfl : k = 4 := by omega
        have hkz : (4 : Int) < (n : Int) := by omega
        have HE : Hid (goodW L = gdTo L 4) := by show _ = _; unfold goodW; rw [HN.out, Nat.min_eq_right (by omega)]
        go_wp2_with fail
        go_ret
        exact ⟨_, rfl, by rw [HE.out]; exact ownW_down HS.out.own (by omega), HS.out.bel⟩
    · obtain rfl : k = n := by omega
      have HE : Hid (goodW L = gdTo L k) := by show _ = _; unfold goodW; rw [HN.out, Nat.min_eq_left (by omega)]
      go_wp2_with fail
      go_ret
      exact ⟨_, rfl, by rw [HE.out]; exact ownW_down HS.out.own (by omega), HS.out.bel⟩
set_option maxHeartbeats 16000000 in
theorem rpoint14_any {A : Option Addr} {n c : Nat} {L : List Wk} (x y z : Int) (w : World) (hn : L.length = n) (hnc : n ≤ c) (hcm : c ≤ maxLen) (hA : WRow w A L) (hsh : ∀ x ∈ L, Wk.fit x) (hx : -9223372036854775808 ≤ x ∧ x ≤ 9223372036854775807) (hy : -9223372036854775808 ≤ y ∧ y ≤ 9223372036854775807) (hz : -9223372036854775808 ≤ z ∧ z ≤ 9223372036854775807) :
    Calls Tryz.prog 34 #[.agg #[.int .i64 x, .int .i64 y, .int .i64 z, .slice A n c]] w fun e w' => ∃ v, e = .returned (.agg #[.int .i64 (absP x), .int .i64 (absP y), .int .i64 (absP z), v]) ∧ Hid (OwnW w.heap.size w' v (goodW L)) ∧ Hid (Below w.heap.size w w') := by
  have HG := Lib.hid (fun W (hb : Below w.heap.size w W) => rgood14_any W hn hnc hcm (hA.below hb) hsh)
  have HXb := Lib.hid ((Has.new w 67 #[.int .i64 x, .int .i64 y, .int .i64 z, .slice A n c]).alloc (.cells #[.int .i64 0, .int .i64 0, .int .i64 0, .slice none 0 0] 67))
  have hrs := Has.new (w.alloc (.cells #[.int .i64 x, .int .i64 y, .int .i64 z, .slice A n c] 67)) 67 #[.int .i64 0, .int .i64 0, .int .i64 0, .slice none 0 0]
  rw [show (w.alloc (.cells #[.int .i64 x, .int .i64 y, .int .i64 z, .slice A n c] 67)).heap.size = w.heap.size + 1 by simp] at hrs
  have HRS := Lib.hid hrs
  have HB := Lib.hid (((Below.refl w.heap.size w).alloc (Nat.le_refl _) (.cells #[.int .i64 x, .int .i64 y, .int .i64 z, .slice A n c] 67)).alloc (by simp) (.cells #[.int .i64 0, .int .i64 0, .int .i64 0, .slice none 0 0] 67))
  have hwx : x < 0 → IntKind.i64.wrap (x + 1) = x + 1 ∧ wrap64 (-(x + 1)) = -(x + 1) ∧ IntKind.i64.wrap (-(x + 1)) = -(x + 1) := fun h => by rw [IntKind.wrap_i64, IntKind.wrap_i64]; unfold wrap64; omega
  have hwy : y < 0 → IntKind.i64.wrap (y + 1) = y + 1 ∧ wrap64 (-(y + 1)) = -(y + 1) ∧ IntKind.i64.wrap (-(y + 1)) = -(y + 1) := fun h => by rw [IntKind.wrap_i64, IntKind.wrap_i64]; unfold wrap64; omega
  have hwz : z < 0 → IntKind.i64.wrap (z + 1) = z + 1 ∧ wrap64 (-(z + 1)) = -(z + 1) ∧ IntKind.i64.wrap (-(z + 1)) = -(z + 1) := fun h => by rw [IntKind.wrap_i64, IntKind.wrap_i64]; unfold wrap64; omega
  have HWX := Lib.hid hwx
  have HWY := Lib.hid hwy
  have HWZ := Lib.hid hwz
  clear hA hsh hrs hwx hwy hwz
  generalize goodW L = G at *
  go_enter Tryz.func34, Tryz.ntmps34
  go_wp2_with fail
  obtain ⟨W1, hW1⟩ : ∃ W, W = (w.alloc (.cells #[.int .i64 x, .int .i64 y, .int .i64 z, .slice A n c] 67)).alloc (.cells #[.int .i64 0, .int .i64 0, .int .i64 0, .slice none 0 0] 67) := ⟨_, rfl⟩
  rw [← hW1] at HXb HRS HB ⊢
  have hs1 : W1.heap.size = w.heap.size + 2 := by rw [hW1]; simp
  clear hW1
  have x0 : W1.cell? ⟨w.heap.size, 0, none⟩ = some (.int .i64 x) := HXb.out.cell 0
  have x1 : W1.cell? ⟨w.heap.size, 1, none⟩ = some (.int .i64 y) := HXb.out.cell 1
  have x2 : W1.cell? ⟨w.heap.size, 2, none⟩ = some (.int .i64 z) := HXb.out.cell 2
  have x3 : W1.cell? ⟨w.heap.size, 3, none⟩ = some (.slice A n c) := HXb.out.cell 3
  have hS0 : (fun X : World => X.cell? ⟨w.heap.size, 0, none⟩ = some (.int .i64 x) ∧ X.cell? ⟨w.heap.size, 1, none⟩ = some (.int .i64 y) ∧ X.cell? ⟨w.heap.size, 2, none⟩ = some (.int .i64 z) ∧ X.cell? ⟨w.heap.size, 3, none⟩ = some (.slice A n c)) W1.drew := ⟨x0, x1, x2, x3⟩
  refine wp_region_held_drew (S := (fun X : World => X.cell? ⟨w.heap.size, 0, none⟩ = some (.int .i64 x) ∧ X.cell? ⟨w.heap.size, 1, none⟩ = some (.int .i64 y) ∧ X.cell? ⟨w.heap.size, 2, none⟩ = some (.int .i64 z) ∧ X.cell? ⟨w.heap.size, 3, none⟩ = some (.slice A n c))) (by kernel_rfl) hS0 (fun _ => ?_)
  (refine wpAnyH_take (i := 0) (v := ?_) rfl (by kernel_rfl) (by kernel_rfl) (by kernel_rfl) (fun _ _ _ h => h) (Or.inl ⟨by rfl, ?_⟩) (by assumption) ?_; rotate_left; (intro w hSw; (try dsimp only at hSw); go_simp; try with_reducible rfl); ((try simp only [List.getElem_toArray]); (try simp only [List.getElem_cons_succ]); (try simp only [List.getElem_cons_zero]); (try simp only [Act.put]); (try simp only [List.setIfInBounds_toArray]); (try simp only [List.set_cons_succ]); (try simp only [List.set_cons_zero])))
  (refine wpAnyH_take (i := 1) (v := ?_) rfl (by kernel_rfl) (by kernel_rfl) (by kernel_rfl) (fun _ _ _ h => h) (Or.inl ⟨by rfl, ?_⟩) (by assumption) ?_; rotate_left; (intro w hSw; (try dsimp only at hSw); go_simp; try with_reducible rfl); ((try simp only [List.getElem_toArray]); (try simp only [List.getElem_cons_succ]); (try simp only [List.getElem_cons_zero]); (try simp only [Act.put]); (try simp only [List.setIfInBounds_toArray]); (try simp only [List.set_cons_succ]); (try simp only [List.set_cons_zero])))
  (refine wpAnyH_take (i := 2) (v := ?_) rfl (by kernel_rfl) (by kernel_rfl) (by kernel_rfl) (fun _ _ _ h => h) (Or.inl ⟨by rfl, ?_⟩) (by assumption) ?_; rotate_left; (intro w hSw; (try dsimp only at hSw); go_simp; try with_reducible rfl); ((try simp only [List.getElem_toArray]); (try simp only [List.getElem_cons_succ]); (try simp only [List.getElem_cons_zero]); (try simp only [Act.put]); (try simp only [List.setIfInBounds_toArray]); (try simp only [List.set_cons_succ]); (try simp only [List.set_cons_zero])))
  (refine wpAnyH_take (i := 3) (v := ?_) rfl (by kernel_rfl) (by kernel_rfl) (by kernel_rfl) (fun _ _ _ h => h) (Or.inl ⟨by rfl, ?_⟩) (by assumption) ?_; rotate_left; (intro w hSw; (try dsimp only at hSw); go_simp; try with_reducible rfl); ((try simp only [List.getElem_toArray]); (try simp only [List.getElem_cons_succ]); (try simp only [List.getElem_cons_zero]); (try simp only [Act.put]); (try simp only [List.setIfInBounds_toArray]); (try simp only [List.set_cons_succ]); (try simp only [List.set_cons_zero])))
  (refine wpAnyH_take (i := 4) (v := ?_) rfl (by kernel_rfl) (by kernel_rfl) (by kernel_rfl) (fun _ _ _ h => h) (Or.inl ⟨by rfl, ?_⟩) (by assumption) ?_; rotate_left; (intro w hSw; (try dsimp only at hSw); go_simp; try with_reducible rfl); ((try simp only [List.getElem_toArray]); (try simp only [List.getElem_cons_succ]); (try simp only [List.getElem_cons_zero]); (try simp only [Act.put]); (try simp only [List.setIfInBounds_toArray]); (try simp only [List.set_cons_succ]); (try simp only [List.set_cons_zero])))
  (refine wpAnyH_take (i := 5) (v := ?_) rfl (by kernel_rfl) (by kernel_rfl) (by kernel_rfl) (fun _ _ _ h => h) (Or.inl ⟨by rfl, ?_⟩) (by assumption) ?_; rotate_left; (intro w hSw; (try dsimp only at hSw); go_simp; try with_reducible rfl); ((try simp only [List.getElem_toArray]); (try simp only [List.getElem_cons_succ]); (try simp only [List.getElem_cons_zero]); (try simp only [Act.put]); (try simp only [List.setIfInBounds_toArray]); (try simp only [List.set_cons_succ]); (try simp only [List.set_cons_zero])))
  (refine wpAnyH_take (i := 6) (v := ?_) rfl (by kernel_rfl) (by kernel_rfl) (by kernel_rfl) (fun _ _ _ h => h) (Or.inl ⟨by rfl, ?_⟩) (by assumption) ?_; rotate_left; (intro w hSw; (try dsimp only at hSw); go_simp; try with_reducible rfl); ((try simp only [List.getElem_toArray]); (try simp only [List.getElem_cons_succ]); (try simp only [List.getElem_cons_zero]); (try simp only [Act.put]); (try simp only [List.setIfInBounds_toArray]); (try simp only [List.set_cons_succ]); (try simp only [List.set_cons_zero])))
  (refine wpAnyH_take (i := 7) (v := ?_) rfl (by kernel_rfl) (by kernel_rfl) (by kernel_rfl) (fun _ _ _ h => h) (Or.inl ⟨by rfl, ?_⟩) (by assumption) ?_; rotate_left; (intro w hSw; (try dsimp only at hSw); go_simp; try with_reducible rfl); ((try simp only [List.getElem_toArray]); (try simp only [List.getElem_cons_succ]); (try simp only [List.getElem_cons_zero]); (try simp only [Act.put]); (try simp only [List.setIfInBounds_toArray]); (try simp only [List.set_cons_succ]); (try simp only [List.set_cons_zero])))
  refine wpAnyH_ready (rs := [8, 10]) (by kernel_rfl) (by simp) ?_
  refine AllReadyH.cons rfl (fun K2 hK2 => ?_) (AllReadyH.cons rfl (fun K2 hK2 => ?_) AllReadyH.nil)
  · go_simp
    refine (HG.out W1.drew HB.out.drew).mono ?_
    rintro e w2 ⟨v, rfl, ho2, hb2⟩
    have HB2 := Lib.hid (HB.out.drew.trans (hb2.out.mono HB.out.size))
    have HX2 := Lib.hid (HXb.out.drew.below hb2.out HXb.out.drew.lt)
    have HR2 := Lib.hid (HRS.out.drew.below hb2.out HRS.out.drew.lt)
    have HO2 := Lib.hid (ownW_down ho2.out HB.out.size)
    obtain ⟨Av, nv, cv, rfl, _, _, _, _, _⟩ := ownW_open ho2.out
    have hs2 : w.heap.size + 2 ≤ w2.heap.size := by rw [← hs1]; exact hb2.out.size
    clear ho2 hb2 HG
    have hS2 : (fun X : World => X.cell? ⟨w.heap.size, 0, none⟩ = some (.int .i64 x) ∧ X.cell? ⟨w.heap.size, 1, none⟩ = some (.int .i64 y) ∧ X.cell? ⟨w.heap.size, 2, none⟩ = some (.int .i64 z) ∧ X.cell? ⟨w.heap.size, 3, none⟩ = some (.slice A n c)) w2 := ⟨HX2.out.cell 0, HX2.out.cell 1, HX2.out.cell 2, HX2.out.cell 3⟩
    go_wp2_with fail
    refine hK2.out _ _ (by (try dsimp only); exact hS2) (fun _ => ?_)
    clear hK2 K2
    (try simp only [List.getElem_toArray]); (try simp only [List.getElem_cons_succ]); (try simp only [List.getElem_cons_zero]); (try simp only [Act.put]); (try simp only [List.setIfInBounds_toArray]); (try simp only [List.set_cons_succ]); (try simp only [List.set_cons_zero])
    (refine wpAnyH_take (i := 9) (v := ?_) rfl (by kernel_rfl) (by kernel_rfl) (by kernel_rfl) (fun _ _ _ h => h) (Or.inl ⟨by rfl, ?_⟩) (by assumption) ?_; rotate_left; (intro w hSw; (try dsimp only at hSw); go_simp; try with_reducible rfl); ((try simp only [List.getElem_toArray]); (try simp only [List.getElem_cons_succ]); (try simp only [List.getElem_cons_zero]); (try simp only [Act.put]); (try simp only [List.setIfInBounds_toArray]); (try simp only [List.set_cons_succ]); (try simp only [List.set_cons_zero])))
    have HX3 := Lib.hid (HX2.out.alloc (.cells #[.int .i64 0, .int .i64 0, .int .i64 0, .slice none 0 0] 67))
    have HR3 := Lib.hid (HR2.out.alloc (.cells #[.int .i64 0, .int .i64 0, .int .i64 0, .slice none 0 0] 67))
    have HN3 := Lib.hid (Has.new w2 67 #[.int .i64 0, .int .i64 0, .int .i64 0, .slice none 0 0])
    have HB3 := Lib.hid (HB2.out.alloc HB2.out.size (.cells #[.int .i64 0, .int .i64 0, .int .i64 0, .slice none 0 0] 67))
    have HO3 : Hid (OwnW w.heap.size (w2.alloc (.cells #[.int .i64 0, .int .i64 0, .int .i64 0, .slice none 0 0] 67)) (.slice Av nv cv) G) := HO2.out.alloc _
    have hS3 : (fun X : World => X.cell? ⟨w.heap.size, 0, none⟩ = some (.int .i64 x) ∧ X.cell? ⟨w.heap.size, 1, none⟩ = some (.int .i64 y) ∧ X.cell? ⟨w.heap.size, 2, none⟩ = some (.int .i64 z) ∧ X.cell? ⟨w.heap.size, 3, none⟩ = some (.slice A n c)) (w2.alloc (.cells #[.int .i64 0, .int .i64 0, .int .i64 0, .slice none 0 0] 67)) := ⟨HX3.out.cell 0, HX3.out.cell 1, HX3.out.cell 2, HX3.out.cell 3⟩
    refine wpAnyH_ready (rs := [10]) (by kernel_rfl) (by simp) ?_
    refine AllReadyH.cons rfl (fun K2 hK2 => ?_) AllReadyH.nil
    go_simp
    refine hK2.out _ _ (by (try dsimp only); exact hS3) (fun _ => ?_)
    clear hK2 K2
    (try simp only [List.getElem_toArray]); (try simp only [List.getElem_cons_succ]); (try simp only [List.getElem_cons_zero]); (try simp only [Act.put]); (try simp only [List.setIfInBounds_toArray]); (try simp only [List.set_cons_succ]); (try simp only [List.set_cons_zero])
    obtain ⟨W2, hW2⟩ : ∃ W, W = w2.alloc (.cells #[.int .i64 0, .int .i64 0, .int .i64 0, .slice none 0 0] 67) := ⟨_, rfl⟩
    rw [← hW2] at HX3 HR3 HN3 HB3 HO3 ⊢
    clear hW2 hS3 hS2 HX2 HR2 HB2 HO2
    obtain ⟨q, hq⟩ : ∃ q, w2.heap.size = q := ⟨_, rfl⟩
    rw [hq] at HN3 hs2 ⊢
    clear hq
    have HS := Lib.hid (PtS.mk (x := x) (y := y) (z := z) (v := .slice Av nv cv) (w := w) (q := q) (G := G) (W := (((W2.setCell ⟨q, 0, none⟩ (.int .i64 x)).setCell ⟨q, 1, none⟩ (.int .i64 y)).setCell ⟨q, 2, none⟩ (.int .i64 z)).setCell ⟨q, 3, none⟩ (.slice Av nv cv)) (by
      have h0 := HN3.out.put 0 (.int .i64 x)
      have h1 := h0.put 1 (.int .i64 y)
      have h2 := h1.put 2 (.int .i64 z)
      exact ownW_apart (ownW_apart (ownW_apart (ownW_apart HO3.out HN3.out (by decide) _ rfl _) h0 (by decide) _ rfl _) h1 (by decide) _ rfl _) h2 (by decide) _ rfl _) ((((HB3.out.setCell (p := ⟨q, 0, none⟩) (by show w.heap.size ≤ q; omega) _).setCell (p := ⟨q, 1, none⟩) (by show w.heap.size ≤ q; omega) _).setCell (p := ⟨q, 2, none⟩) (by show w.heap.size ≤ q; omega) _).setCell (p := ⟨q, 3, none⟩) (by show w.heap.size ≤ q; omega) _) (put4 HN3.out _ _ _ _) ((((HR3.out.far (p := ⟨q, 0, none⟩) (by show w.heap.size + 1 ≠ q; omega) _).far (p := ⟨q, 1, none⟩) (by show w.heap.size + 1 ≠ q; omega) _).far (p := ⟨q, 2, none⟩) (by show w.heap.size + 1 ≠ q; omega) _).far (p := ⟨q, 3, none⟩) (by show w.heap.size + 1 ≠ q; omega) _) (by omega) (by omega))
    have hS4 : (fun X : World => X.cell? ⟨w.heap.size, 0, none⟩ = some (.int .i64 x) ∧ X.cell? ⟨w.heap.size, 1, none⟩ = some (.int .i64 y) ∧ X.cell? ⟨w.heap.size, 2, none⟩ = some (.int .i64 z) ∧ X.cell? ⟨w.heap.size, 3, none⟩ = some (.slice A n c)) ((((W2.setCell ⟨q, 0, none⟩ (.int .i64 x)).setCell ⟨q, 1, none⟩ (.int .i64 y)).setCell ⟨q, 2, none⟩ (.int .i64 z)).setCell ⟨q, 3, none⟩ (.slice Av nv cv)) := by
      have hh := (((HX3.out.far (p := ⟨q, 0, none⟩) (by show w.heap.size ≠ q; omega) (.int .i64 x)).far (p := ⟨q, 1, none⟩) (by show w.heap.size ≠ q; omega) (.int .i64 y)).far (p := ⟨q, 2, none⟩) (by show w.heap.size ≠ q; omega) (.int .i64 z)).far (p := ⟨q, 3, none⟩) (by show w.heap.size ≠ q; omega) (.slice Av nv cv)
      exact ⟨hh.cell 0, hh.cell 1, hh.cell 2, hh.cell 3⟩
    have n0 : W2.cell? ⟨q, 0, none⟩ = some (.int .i64 0) := HN3.out.cell 0
    have n1 : W2.cell? ⟨q, 1, none⟩ = some (.int .i64 0) := HN3.out.cell 1
    have n2 : W2.cell? ⟨q, 2, none⟩ = some (.int .i64 0) := HN3.out.cell 2
    have n3 : W2.cell? ⟨q, 3, none⟩ = some (.slice none 0 0) := HN3.out.cell 3
    have m0 : W2.frozen? ⟨q, 0, none⟩ = false := HN3.out.free 0
    have m1 : W2.frozen? ⟨q, 1, none⟩ = false := HN3.out.free 1
    have m2 : W2.frozen? ⟨q, 2, none⟩ = false := HN3.out.free 2
    have m3 : W2.frozen? ⟨q, 3, none⟩ = false := HN3.out.free 3
    refine wpAnyH_ready (rs := [11]) (by kernel_rfl) (by simp) ?_
    refine AllReadyH.cons rfl (fun K2 hK2 => ?_) AllReadyH.nil
    go_simp
    refine hK2.out _ _ (by (try dsimp only); exact hS4) (fun _ => ?_)
    clear hK2 K2
    (try simp only [List.getElem_toArray]); (try simp only [List.getElem_cons_succ]); (try simp only [List.getElem_cons_zero]); (try simp only [Act.put]); (try simp only [List.setIfInBounds_toArray]); (try simp only [List.set_cons_succ]); (try simp only [List.set_cons_zero])
    refine wpAnyH_done (by kernel_rfl) ?_ _
    obtain ⟨W3, hW3⟩ : ∃ W, W = (((W2.setCell ⟨q, 0, none⟩ (.int .i64 x)).setCell ⟨q, 1, none⟩ (.int .i64 y)).setCell ⟨q, 2, none⟩ (.int .i64 z)).setCell ⟨q, 3, none⟩ (.slice Av nv cv) := ⟨_, rfl⟩
    rw [← hW3] at HS ⊢
    clear hW3 hS4 n0 n1 n2 n3 m0 m1 m2 m3 HX3 HR3 HN3 HB3 HO3 x0 x1 x2 x3 HXb HRS HB
    by_cases hx0 : x < 0
    · by_cases hy0 : y < 0
      · by_cases hz0 : z < 0
        · have b00 : (W3).cell? ⟨q, 0, none⟩ = some (.int .i64 (x)) := HS.out.box.cell 0
          have b01 : (W3).cell? ⟨q, 1, none⟩ = some (.int .i64 (y)) := HS.out.box.cell 1
          have b02 : (W3).cell? ⟨q, 2, none⟩ = some (.int .i64 (z)) := HS.out.box.cell 2
          have b03 : (W3).cell? ⟨q, 3, none⟩ = some (.slice Av nv cv) := HS.out.box.cell 3
          have g00 : (W3).frozen? ⟨q, 0, none⟩ = false := HS.out.box.free 0
          have g01 : (W3).frozen? ⟨q, 1, none⟩ = false := HS.out.box.free 1
          have g02 : (W3).frozen? ⟨q, 2, none⟩ = false := HS.out.box.free 2
          obtain ⟨wa1, wb1, wc1⟩ := HWX.out hx0
          have HS1 := Lib.hid (HS.out.put0 (-(x + 1)))
          have b10 : ((W3.setCell ⟨q, 0, none⟩ (.int .i64 (-(x + 1))))).cell? ⟨q, 0, none⟩ = some (.int .i64 (-(x + 1))) := HS1.out.box.cell 0
          have b11 : ((W3.setCell ⟨q, 0, none⟩ (.int .i64 (-(x + 1))))).cell? ⟨q, 1, none⟩ = some (.int .i64 (y)) := HS1.out.box.cell 1
          have b12 : ((W3.setCell ⟨q, 0, none⟩ (.int .i64 (-(x + 1))))).cell? ⟨q, 2, none⟩ = some (.int .i64 (z)) := HS1.out.box.cell 2
          have b13 : ((W3.setCell ⟨q, 0, none⟩ (.int .i64 (-(x + 1))))).cell? ⟨q, 3, none⟩ = some (.slice Av nv cv) := HS1.out.box.cell 3
          have g10 : ((W3.setCell ⟨q, 0, none⟩ (.int .i64 (-(x + 1))))).frozen? ⟨q, 0, none⟩ = false := HS1.out.box.free 0
          have g11 : ((W3.setCell ⟨q, 0, none⟩ (.int .i64 (-(x + 1))))).frozen? ⟨q, 1, none⟩ = false := HS1.out.box.free 1
          have g12 : ((W3.setCell ⟨q, 0, none⟩ (.int .i64 (-(x + 1))))).frozen? ⟨q, 2, none⟩ = false := HS1.out.box.free 2
          obtain ⟨wa2, wb2, wc2⟩ := HWY.out hy0
          have HS2 := Lib.hid (HS1.out.put1 (-(y + 1)))
          have b20 : (((W3.setCell ⟨q, 0, none⟩ (.int .i64 (-(x + 1)))).setCell ⟨q, 1, none⟩ (.int .i64 (-(y + 1))))).cell? ⟨q, 0, none⟩ = some (.int .i64 (-(x + 1))) := HS2.out.box.cell 0
          have b21 : (((W3.setCell ⟨q, 0, none⟩ (.int .i64 (-(x + 1)))).setCell ⟨q, 1, none⟩ (.int .i64 (-(y + 1))))).cell? ⟨q, 1, none⟩ = some (.int .i64 (-(y + 1))) := HS2.out.box.cell 1
          have b22 : (((W3.setCell ⟨q, 0, none⟩ (.int .i64 (-(x + 1)))).setCell ⟨q, 1, none⟩ (.int .i64 (-(y + 1))))).cell? ⟨q, 2, none⟩ = some (.int .i64 (z)) := HS2.out.box.cell 2
          have b23 : (((W3.setCell ⟨q, 0, none⟩ (.int .i64 (-(x + 1)))).setCell ⟨q, 1, none⟩ (.int .i64 (-(y + 1))))).cell? ⟨q, 3, none⟩ = some (.slice Av nv cv) := HS2.out.box.cell 3
          have g20 : (((W3.setCell ⟨q, 0, none⟩ (.int .i64 (-(x + 1)))).setCell ⟨q, 1, none⟩ (.int .i64 (-(y + 1))))).frozen? ⟨q, 0, none⟩ = false := HS2.out.box.free 0
          have g21 : (((W3.setCell ⟨q, 0, none⟩ (.int .i64 (-(x + 1)))).setCell ⟨q, 1, none⟩ (.int .i64 (-(y + 1))))).frozen? ⟨q, 1, none⟩ = false := HS2.out.box.free 1
          have g22 : (((W3.setCell ⟨q, 0, none⟩ (.int .i64 (-(x + 1)))).setCell ⟨q, 1, none⟩ (.int .i64 (-(y + 1))))).frozen? ⟨q, 2, none⟩ = false := HS2.out.box.free 2
          obtain ⟨wa3, wb3, wc3⟩ := HWZ.out hz0
          have HS3 := Lib.hid (HS2.out.put2 (-(z + 1)))
          have b30 : ((((W3.setCell ⟨q, 0, none⟩ (.int .i64 (-(x + 1)))).setCell ⟨q, 1, none⟩ (.int .i64 (-(y + 1)))).setCell ⟨q, 2, none⟩ (.int .i64 (-(z + 1))))).cell? ⟨q, 0, none⟩ = some (.int .i64 (-(x + 1))) := HS3.out.box.cell 0
          have b31 : ((((W3.setCell ⟨q, 0, none⟩ (.int .i64 (-(x + 1)))).setCell ⟨q, 1, none⟩ (.int .i64 (-(y + 1)))).setCell ⟨q, 2, none⟩ (.int .i64 (-(z + 1))))).cell? ⟨q, 1, none⟩ = some (.int .i64 (-(y + 1))) := HS3.out.box.cell 1
          have b32 : ((((W3.setCell ⟨q, 0, none⟩ (.int .i64 (-(x + 1)))).setCell ⟨q, 1, none⟩ (.int .i64 (-(y + 1)))).setCell ⟨q, 2, none⟩ (.int .i64 (-(z + 1))))).cell? ⟨q, 2, none⟩ = some (.int .i64 (-(z + 1))) := HS3.out.box.cell 2
          have b33 : ((((W3.setCell ⟨q, 0, none⟩ (.int .i64 (-(x + 1)))).setCell ⟨q, 1, none⟩ (.int .i64 (-(y + 1)))).setCell ⟨q, 2, none⟩ (.int .i64 (-(z + 1))))).cell? ⟨q, 3, none⟩ = some (.slice Av nv cv) := HS3.out.box.cell 3
          have g30 : ((((W3.setCell ⟨q, 0, none⟩ (.int .i64 (-(x + 1)))).setCell ⟨q, 1, none⟩ (.int .i64 (-(y + 1)))).setCell ⟨q, 2, none⟩ (.int .i64 (-(z + 1))))).frozen? ⟨q, 0, none⟩ = false := HS3.out.box.free 0
          have g31 : ((((W3.setCell ⟨q, 0, none⟩ (.int .i64 (-(x + 1)))).setCell ⟨q, 1, none⟩ (.int .i64 (-(y + 1)))).setCell ⟨q, 2, none⟩ (.int .i64 (-(z + 1))))).frozen? ⟨q, 1, none⟩ = false := HS3.out.box.free 1
          have g32 : ((((W3.setCell ⟨q, 0, none⟩ (.int .i64 (-(x + 1)))).setCell ⟨q, 1, none⟩ (.int .i64 (-(y + 1)))).setCell ⟨q, 2, none⟩ (.int .i64 (-(z + 1))))).frozen? ⟨q, 2, none⟩ = false := HS3.out.box.free 2
          have r0 : ((((W3.setCell ⟨q, 0, none⟩ (.int .i64 (-(x + 1)))).setCell ⟨q, 1, none⟩ (.int .i64 (-(y + 1)))).setCell ⟨q, 2, none⟩ (.int .i64 (-(z + 1))))).cell? ⟨w.heap.size + 1, 0, none⟩ = some (.int .i64 0) := HS3.out.res.cell 0
          have r1 : ((((W3.setCell ⟨q, 0, none⟩ (.int .i64 (-(x + 1)))).setCell ⟨q, 1, none⟩ (.int .i64 (-(y + 1)))).setCell ⟨q, 2, none⟩ (.int .i64 (-(z + 1))))).cell? ⟨w.heap.size + 1, 1, none⟩ = some (.int .i64 0) := HS3.out.res.cell 1
          have r2 : ((((W3.setCell ⟨q, 0, none⟩ (.int .i64 (-(x + 1)))).setCell ⟨q, 1, none⟩ (.int .i64 (-(y + 1)))).setCell ⟨q, 2, none⟩ (.int .i64 (-(z + 1))))).cell? ⟨w.heap.size + 1, 2, none⟩ = some (.int .i64 0) := HS3.out.res.cell 2
          have r3 : ((((W3.setCell ⟨q, 0, none⟩ (.int .i64 (-(x + 1)))).setCell ⟨q, 1, none⟩ (.int .i64 (-(y + 1)))).setCell ⟨q, 2, none⟩ (.int .i64 (-(z + 1))))).cell? ⟨w.heap.size + 1, 3, none⟩ = some (.slice none 0 0) := HS3.out.res.cell 3
          have t0 : ((((W3.setCell ⟨q, 0, none⟩ (.int .i64 (-(x + 1)))).setCell ⟨q, 1, none⟩ (.int .i64 (-(y + 1)))).setCell ⟨q, 2, none⟩ (.int .i64 (-(z + 1))))).frozen? ⟨w.heap.size + 1, 0, none⟩ = false := HS3.out.res.free 0
          have t1 : ((((W3.setCell ⟨q, 0, none⟩ (.int .i64 (-(x + 1)))).setCell ⟨q, 1, none⟩ (.int .i64 (-(y + 1)))).setCell ⟨q, 2, none⟩ (.int .i64 (-(z + 1))))).frozen? ⟨w.heap.size + 1, 1, none⟩ = false := HS3.out.res.free 1
          have t2 : ((((W3.setCell ⟨q, 0, none⟩ (.int .i64 (-(x + 1)))).setCell ⟨q, 1, none⟩ (.int .i64 (-(y + 1)))).setCell ⟨q, 2, none⟩ (.int .i64 (-(z + 1))))).frozen? ⟨w.heap.size + 1, 2, none⟩ = false := HS3.out.res.free 2
          have t3 : ((((W3.setCell ⟨q, 0, none⟩ (.int .i64 (-(x + 1)))).setCell ⟨q, 1, none⟩ (.int .i64 (-(y + 1)))).setCell ⟨q, 2, none⟩ (.int .i64 (-(z + 1))))).frozen? ⟨w.heap.size + 1, 3, none⟩ = false := HS3.out.res.free 3
          obtain ⟨f1, f2, f3⟩ := HS3.out.fin
          have F1 := Lib.hid f1
          have F2 := Lib.hid f2
          have F3 := Lib.hid f3
          clear f1 f2 f3
          go_wp2_with fail
          exact bodyPost_ret (ptEnd _ (w.heap.size + 1) _ _ _ _ _ rfl F1.out) rfl ⟨_, (by rw [absP_neg (x := x) (by omega), absP_neg (x := y) (by omega), absP_neg (x := z) (by omega)]; try rfl), F2, F3⟩
        · have b00 : (W3).cell? ⟨q, 0, none⟩ = some (.int .i64 (x)) := HS.out.box.cell 0
          have b01 : (W3).cell? ⟨q, 1, none⟩ = some (.int .i64 (y)) := HS.out.box.cell 1
          have b02 : (W3).cell? ⟨q, 2, none⟩ = some (.int .i64 (z)) := HS.out.box.cell 2
          have b03 : (W3).cell? ⟨q, 3, none⟩ = some (.slice Av nv cv) := HS.out.box.cell 3
          have g00 : (W3).frozen? ⟨q, 0, none⟩ = false := HS.out.box.free 0
          have g01 : (W3).frozen? ⟨q, 1, none⟩ = false := HS.out.box.free 1
          have g02 : (W3).frozen? ⟨q, 2, none⟩ = false := HS.out.box.free 2
          obtain ⟨wa1, wb1, wc1⟩ := HWX.out hx0
          have HS1 := Lib.hid (HS.out.put0 (-(x + 1)))
          have b10 : ((W3.setCell ⟨q, 0, none⟩ (.int .i64 (-(x + 1))))).cell? ⟨q, 0, none⟩ = some (.int .i64 (-(x + 1))) := HS1.out.box.cell 0
          have b11 : ((W3.setCell ⟨q, 0, none⟩ (.int .i64 (-(x + 1))))).cell? ⟨q, 1, none⟩ = some (.int .i64 (y)) := HS1.out.box.cell 1
          have b12 : ((W3.setCell ⟨q, 0, none⟩ (.int .i64 (-(x + 1))))).cell? ⟨q, 2, none⟩ = some (.int .i64 (z)) := HS1.out.box.cell 2
          have b13 : ((W3.setCell ⟨q, 0, none⟩ (.int .i64 (-(x + 1))))).cell? ⟨q, 3, none⟩ = some (.slice Av nv cv) := HS1.out.box.cell 3
          have g10 : ((W3.setCell ⟨q, 0, none⟩ (.int .i64 (-(x + 1))))).frozen? ⟨q, 0, none⟩ = false := HS1.out.box.free 0
          have g11 : ((W3.setCell ⟨q, 0, none⟩ (.int .i64 (-(x + 1))))).frozen? ⟨q, 1, none⟩ = false := HS1.out.box.free 1
          have g12 : ((W3.setCell ⟨q, 0, none⟩ (.int .i64 (-(x + 1))))).frozen? ⟨q, 2, none⟩ = false := HS1.out.box.free 2
          obtain ⟨wa2, wb2, wc2⟩ := HWY.out hy0
          have HS2 := Lib.hid (HS1.out.put1 (-(y + 1)))
          have b20 : (((W3.setCell ⟨q, 0, none⟩ (.int .i64 (-(x + 1)))).setCell ⟨q, 1, none⟩ (.int .i64 (-(y + 1))))).cell? ⟨q, 0, none⟩ = some (.int .i64 (-(x + 1))) := HS2.out.box.cell 0
          have b21 : (((W3.setCell ⟨q, 0, none⟩ (.int .i64 (-(x + 1)))).setCell ⟨q, 1, none⟩ (.int .i64 (-(y + 1))))).cell? ⟨q, 1, none⟩ = some (.int .i64 (-(y + 1))) := HS2.out.box.cell 1
          have b22 : (((W3.setCell ⟨q, 0, none⟩ (.int .i64 (-(x + 1)))).setCell ⟨q, 1, none⟩ (.int .i64 (-(y + 1))))).cell? ⟨q, 2, none⟩ = some (.int .i64 (z)) := HS2.out.box.cell 2
          have b23 : (((W3.setCell ⟨q, 0, none⟩ (.int .i64 (-(x + 1)))).setCell ⟨q, 1, none⟩ (.int .i64 (-(y + 1))))).cell? ⟨q, 3, none⟩ = some (.slice Av nv cv) := HS2.out.box.cell 3
          have g20 : (((W3.setCell ⟨q, 0, none⟩ (.int .i64 (-(x + 1)))).setCell ⟨q, 1, none⟩ (.int .i64 (-(y + 1))))).frozen? ⟨q, 0, none⟩ = false := HS2.out.box.free 0
          have g21 : (((W3.setCell ⟨q, 0, none⟩ (.int .i64 (-(x + 1)))).setCell ⟨q, 1, none⟩ (.int .i64 (-(y + 1))))).frozen? ⟨q, 1, none⟩ = false := HS2.out.box.free 1
          have g22 : (((W3.setCell ⟨q, 0, none⟩ (.int .i64 (-(x + 1)))).setCell ⟨q, 1, none⟩ (.int .i64 (-(y + 1))))).frozen? ⟨q, 2, none⟩ = false := HS2.out.box.free 2
          have r0 : (((W3.setCell ⟨q, 0, none⟩ (.int .i64 (-(x + 1)))).setCell ⟨q, 1, none⟩ (.int .i64 (-(y + 1))))).cell? ⟨w.heap.size + 1, 0, none⟩ = some (.int .i64 0) := HS2.out.res.cell 0
          have r1 : (((W3.setCell ⟨q, 0, none⟩ (.int .i64 (-(x + 1)))).setCell ⟨q, 1, none⟩ (.int .i64 (-(y + 1))))).cell? ⟨w.heap.size + 1, 1, none⟩ = some (.int .i64 0) := HS2.out.res.cell 1
          have r2 : (((W3.setCell ⟨q, 0, none⟩ (.int .i64 (-(x + 1)))).setCell ⟨q, 1, none⟩ (.int .i64 (-(y + 1))))).cell? ⟨w.heap.size + 1, 2, none⟩ = some (.int .i64 0) := HS2.out.res.cell 2
          have r3 : (((W3.setCell ⟨q, 0, none⟩ (.int .i64 (-(x + 1)))).setCell ⟨q, 1, none⟩ (.int .i64 (-(y + 1))))).cell? ⟨w.heap.size + 1, 3, none⟩ = some (.slice none 0 0) := HS2.out.res.cell 3
          have t0 : (((W3.setCell ⟨q, 0, none⟩ (.int .i64 (-(x + 1)))).setCell ⟨q, 1, none⟩ (.int .i64 (-(y + 1))))).frozen? ⟨w.heap.size + 1, 0, none⟩ = false := HS2.out.res.free 0
          have t1 : (((W3.setCell ⟨q, 0, none⟩ (.int .i64 (-(x + 1)))).setCell ⟨q, 1, none⟩ (.int .i64 (-(y + 1))))).frozen? ⟨w.heap.size + 1, 1, none⟩ = false := HS2.out.res.free 1
          have t2 : (((W3.setCell ⟨q, 0, none⟩ (.int .i64 (-(x + 1)))).setCell ⟨q, 1, none⟩ (.int .i64 (-(y + 1))))).frozen? ⟨w.heap.size + 1, 2, none⟩ = false := HS2.out.res.free 2
          have t3 : (((W3.setCell ⟨q, 0, none⟩ (.int .i64 (-(x + 1)))).setCell ⟨q, 1, none⟩ (.int .i64 (-(y + 1))))).frozen? ⟨w.heap.size + 1, 3, none⟩ = false := HS2.out.res.free 3
          obtain ⟨f1, f2, f3⟩ := HS2.out.fin
          have F1 := Lib.hid f1
          have F2 := Lib.hid f2
          have F3 := Lib.hid f3
          clear f1 f2 f3
          go_wp2_with fail
          exact bodyPost_ret (ptEnd _ (w.heap.size + 1) _ _ _ _ _ rfl F1.out) rfl ⟨_, (by rw [absP_neg (x := x) (by omega), absP_neg (x := y) (by omega), absP_pos (x := z) (by omega)]; try rfl), F2, F3⟩
      · by_cases hz0 : z < 0
        · have b00 : (W3).cell? ⟨q, 0, none⟩ = some (.int .i64 (x)) := HS.out.box.cell 0
          have b01 : (W3).cell? ⟨q, 1, none⟩ = some (.int .i64 (y)) := HS.out.box.cell 1
          have b02 : (W3).cell? ⟨q, 2, none⟩ = some (.int .i64 (z)) := HS.out.box.cell 2
          have b03 : (W3).cell? ⟨q, 3, none⟩ = some (.slice Av nv cv) := HS.out.box.cell 3
          have g00 : (W3).frozen? ⟨q, 0, none⟩ = false := HS.out.box.free 0
          have g01 : (W3).frozen? ⟨q, 1, none⟩ = false := HS.out.box.free 1
          have g02 : (W3).frozen? ⟨q, 2, none⟩ = false := HS.out.box.free 2
          obtain ⟨wa1, wb1, wc1⟩ := HWX.out hx0
          have HS1 := Lib.hid (HS.out.put0 (-(x + 1)))
          have b10 : ((W3.setCell ⟨q, 0, none⟩ (.int .i64 (-(x + 1))))).cell? ⟨q, 0, none⟩ = some (.int .i64 (-(x + 1))) := HS1.out.box.cell 0
          have b11 : ((W3.setCell ⟨q, 0, none⟩ (.int .i64 (-(x + 1))))).cell? ⟨q, 1, none⟩ = some (.int .i64 (y)) := HS1.out.box.cell 1
          have b12 : ((W3.setCell ⟨q, 0, none⟩ (.int .i64 (-(x + 1))))).cell? ⟨q, 2, none⟩ = some (.int .i64 (z)) := HS1.out.box.cell 2
          have b13 : ((W3.setCell ⟨q, 0, none⟩ (.int .i64 (-(x + 1))))).cell? ⟨q, 3, none⟩ = some (.slice Av nv cv) := HS1.out.box.cell 3
          have g10 : ((W3.setCell ⟨q, 0, none⟩ (.int .i64 (-(x + 1))))).frozen? ⟨q, 0, none⟩ = false := HS1.out.box.free 0
          have g11 : ((W3.setCell ⟨q, 0, none⟩ (.int .i64 (-(x + 1))))).frozen? ⟨q, 1, none⟩ = false := HS1.out.box.free 1
          have g12 : ((W3.setCell ⟨q, 0, none⟩ (.int .i64 (-(x + 1))))).frozen? ⟨q, 2, none⟩ = false := HS1.out.box.free 2
          obtain ⟨wa2, wb2, wc2⟩ := HWZ.out hz0
          have HS2 := Lib.hid (HS1.out.put2 (-(z + 1)))
          have b20 : (((W3.setCell ⟨q, 0, none⟩ (.int .i64 (-(x + 1)))).setCell ⟨q, 2, none⟩ (.int .i64 (-(z + 1))))).cell? ⟨q, 0, none⟩ = some (.int .i64 (-(x + 1))) := HS2.out.box.cell 0
          have b21 : (((W3.setCell ⟨q, 0, none⟩ (.int .i64 (-(x + 1)))).setCell ⟨q, 2, none⟩ (.int .i64 (-(z + 1))))).cell? ⟨q, 1, none⟩ = some (.int .i64 (y)) := HS2.out.box.cell 1
          have b22 : (((W3.setCell ⟨q, 0, none⟩ (.int .i64 (-(x + 1)))).setCell ⟨q, 2, none⟩ (.int .i64 (-(z + 1))))).cell? ⟨q, 2, none⟩ = some (.int .i64 (-(z + 1))) := HS2.out.box.cell 2
          have b23 : (((W3.setCell ⟨q, 0, none⟩ (.int .i64 (-(x + 1)))).setCell ⟨q, 2, none⟩ (.int .i64 (-(z + 1))))).cell? ⟨q, 3, none⟩ = some (.slice Av nv cv) := HS2.out.box.cell 3
          have g20 : (((W3.setCell ⟨q, 0, none⟩ (.int .i64 (-(x + 1)))).setCell ⟨q, 2, none⟩ (.int .i64 (-(z + 1))))).frozen? ⟨q, 0, none⟩ = false := HS2.out.box.free 0
          have g21 : (((W3.setCell ⟨q, 0, none⟩ (.int .i64 (-(x + 1)))).setCell ⟨q, 2, none⟩ (.int .i64 (-(z + 1))))).frozen? ⟨q, 1, none⟩ = false := HS2.out.box.free 1
          have g22 : (((W3.setCell ⟨q, 0, none⟩ (.int .i64 (-(x + 1)))).setCell ⟨q, 2, none⟩ (.int .i64 (-(z + 1))))).frozen? ⟨q, 2, none⟩ = false := HS2.out.box.free 2
          have r0 : (((W3.setCell ⟨q, 0, none⟩ (.int .i64 (-(x + 1)))).setCell ⟨q, 2, none⟩ (.int .i64 (-(z + 1))))).cell? ⟨w.heap.size + 1, 0, none⟩ = some (.int .i64 0) := HS2.out.res.cell 0
          have r1 : (((W3.setCell ⟨q, 0, none⟩ (.int .i64 (-(x + 1)))).setCell ⟨q, 2, none⟩ (.int .i64 (-(z + 1))))).cell? ⟨w.heap.size + 1, 1, none⟩ = some (.int .i64 0) := HS2.out.res.cell 1
          have r2 : (((W3.setCell ⟨q, 0, none⟩ (.int .i64 (-(x + 1)))).setCell ⟨q, 2, none⟩ (.int .i64 (-(z + 1))))).cell? ⟨w.heap.size + 1, 2, none⟩ = some (.int .i64 0) := HS2.out.res.cell 2
          have r3 : (((W3.setCell ⟨q, 0, none⟩ (.int .i64 (-(x + 1)))).setCell ⟨q, 2, none⟩ (.int .i64 (-(z + 1))))).cell? ⟨w.heap.size + 1, 3, none⟩ = some (.slice none 0 0) := HS2.out.res.cell 3
          have t0 : (((W3.setCell ⟨q, 0, none⟩ (.int .i64 (-(x + 1)))).setCell ⟨q, 2, none⟩ (.int .i64 (-(z + 1))))).frozen? ⟨w.heap.size + 1, 0, none⟩ = false := HS2.out.res.free 0
          have t1 : (((W3.setCell ⟨q, 0, none⟩ (.int .i64 (-(x + 1)))).setCell ⟨q, 2, none⟩ (.int .i64 (-(z + 1))))).frozen? ⟨w.heap.size + 1, 1, none⟩ = false := HS2.out.res.free 1
          have t2 : (((W3.setCell ⟨q, 0, none⟩ (.int .i64 (-(x + 1)))).setCell ⟨q, 2, none⟩ (.int .i64 (-(z + 1))))).frozen? ⟨w.heap.size + 1, 2, none⟩ = false := HS2.out.res.free 2
          have t3 : (((W3.setCell ⟨q, 0, none⟩ (.int .i64 (-(x + 1)))).setCell ⟨q, 2, none⟩ (.int .i64 (-(z + 1))))).frozen? ⟨w.heap.size + 1, 3, none⟩ = false := HS2.out.res.free 3
          obtain ⟨f1, f2, f3⟩ := HS2.out.fin
          have F1 := Lib.hid f1
          have F2 := Lib.hid f2
          have F3 := Lib.hid f3
          clear f1 f2 f3
          go_wp2_with fail
          exact bodyPost_ret (ptEnd _ (w.heap.size + 1) _ _ _ _ _ rfl F1.out) rfl ⟨_, (by rw [absP_neg (x := x) (by omega), absP_pos (x := y) (by omega), absP_neg (x := z) (by omega)]; try rfl), F2, F3⟩
        · have b00 : (W3).cell? ⟨q, 0, none⟩ = some (.int .i64 (x)) := HS.out.box.cell 0
          have b01 : (W3).cell? ⟨q, 1, none⟩ = some (.int .i64 (y)) := HS.out.box.cell 1
          have b02 : (W3).cell? ⟨q, 2, none⟩ = some (.int .i64 (z)) := HS.out.box.cell 2
          have b03 : (W3).cell? ⟨q, 3, none⟩ = some (.slice Av nv cv) := HS.out.box.cell 3
          have g00 : (W3).frozen? ⟨q, 0, none⟩ = false := HS.out.box.free 0
          have g01 : (W3).frozen? ⟨q, 1, none⟩ = false := HS.out.box.free 1
          have g02 : (W3).frozen? ⟨q, 2, none⟩ = false := HS.out.box.free 2
          obtain ⟨wa1, wb1, wc1⟩ := HWX.out hx0
          have HS1 := Lib.hid (HS.out.put0 (-(x + 1)))
          have b10 : ((W3.setCell ⟨q, 0, none⟩ (.int .i64 (-(x + 1))))).cell? ⟨q, 0, none⟩ = some (.int .i64 (-(x + 1))) := HS1.out.box.cell 0
          have b11 : ((W3.setCell ⟨q, 0, none⟩ (.int .i64 (-(x + 1))))).cell? ⟨q, 1, none⟩ = some (.int .i64 (y)) := HS1.out.box.cell 1
          have b12 : ((W3.setCell ⟨q, 0, none⟩ (.int .i64 (-(x + 1))))).cell? ⟨q, 2, none⟩ = some (.int .i64 (z)) := HS1.out.box.cell 2
          have b13 : ((W3.setCell ⟨q, 0, none⟩ (.int .i64 (-(x + 1))))).cell? ⟨q, 3, none⟩ = some (.slice Av nv cv) := HS1.out.box.cell 3
          have g10 : ((W3.setCell ⟨q, 0, none⟩ (.int .i64 (-(x + 1))))).frozen? ⟨q, 0, none⟩ = false := HS1.out.box.free 0
          have g11 : ((W3.setCell ⟨q, 0, none⟩ (.int .i64 (-(x + 1))))).frozen? ⟨q, 1, none⟩ = false := HS1.out.box.free 1
          have g12 : ((W3.setCell ⟨q, 0, none⟩ (.int .i64 (-(x + 1))))).frozen? ⟨q, 2, none⟩ = false := HS1.out.box.free 2
          have r0 : ((W3.setCell ⟨q, 0, none⟩ (.int .i64 (-(x + 1))))).cell? ⟨w.heap.size + 1, 0, none⟩ = some (.int .i64 0) := HS1.out.res.cell 0
          have r1 : ((W3.setCell ⟨q, 0, none⟩ (.int .i64 (-(x + 1))))).cell? ⟨w.heap.size + 1, 1, none⟩ = some (.int .i64 0) := HS1.out.res.cell 1
          have r2 : ((W3.setCell ⟨q, 0, none⟩ (.int .i64 (-(x + 1))))).cell? ⟨w.heap.size + 1, 2, none⟩ = some (.int .i64 0) := HS1.out.res.cell 2
          have r3 : ((W3.setCell ⟨q, 0, none⟩ (.int .i64 (-(x + 1))))).cell? ⟨w.heap.size + 1, 3, none⟩ = some (.slice none 0 0) := HS1.out.res.cell 3
          have t0 : ((W3.setCell ⟨q, 0, none⟩ (.int .i64 (-(x + 1))))).frozen? ⟨w.heap.size + 1, 0, none⟩ = false := HS1.out.res.free 0
          have t1 : ((W3.setCell ⟨q, 0, none⟩ (.int .i64 (-(x + 1))))).frozen? ⟨w.heap.size + 1, 1, none⟩ = false := HS1.out.res.free 1
          have t2 : ((W3.setCell ⟨q, 0, none⟩ (.int .i64 (-(x + 1))))).frozen? ⟨w.heap.size + 1, 2, none⟩ = false := HS1.out.res.free 2
          have t3 : ((W3.setCell ⟨q, 0, none⟩ (.int .i64 (-(x + 1))))).frozen? ⟨w.heap.size + 1, 3, none⟩ = false := HS1.out.res.free 3
          obtain ⟨f1, f2, f3⟩ := HS1.out.fin
          have F1 := Lib.hid f1
          have F2 := Lib.hid f2
          have F3 := Lib.hid f3
          clear f1 f2 f3
          go_wp2_with fail
          exact bodyPost_ret (ptEnd _ (w.heap.size + 1) _ _ _ _ _ rfl F1.out) rfl ⟨_, (by rw [absP_neg (x := x) (by omega), absP_pos (x := y) (by omega), absP_pos (x := z) (by omega)]; try rfl), F2, F3⟩
    · by_cases hy0 : y < 0
      · by_cases hz0 : z < 0
        · have b00 : (W3).cell? ⟨q, 0, none⟩ = some (.int .i64 (x)) := HS.out.box.cell 0
          have b01 : (W3).cell? ⟨q, 1, none⟩ = some (.int .i64 (y)) := HS.out.box.cell 1
          have b02 : (W3).cell? ⟨q, 2, none⟩ = some (.int .i64 (z)) := HS.out.box.cell 2
          have b03 : (W3).cell? ⟨q, 3, none⟩ = some (.slice Av nv cv) := HS.out.box.cell 3
          have g00 : (W3).frozen? ⟨q, 0, none⟩ = false := HS.out.box.free 0
          have g01 : (W3).frozen? ⟨q, 1, none⟩ = false := HS.out.box.free 1
          have g02 : (W3).frozen? ⟨q, 2, none⟩ = false := HS.out.box.free 2
          obtain ⟨wa1, wb1, wc1⟩ := HWY.out hy0
          have HS1 := Lib.hid (HS.out.put1 (-(y + 1)))
          have b10 : ((W3.setCell ⟨q, 1, none⟩ (.int .i64 (-(y + 1))))).cell? ⟨q, 0, none⟩ = some (.int .i64 (x)) := HS1.out.box.cell 0
          have b11 : ((W3.setCell ⟨q, 1, none⟩ (.int .i64 (-(y + 1))))).cell? ⟨q, 1, none⟩ = some (.int .i64 (-(y + 1))) := HS1.out.box.cell 1
          have b12 : ((W3.setCell ⟨q, 1, none⟩ (.int .i64 (-(y + 1))))).cell? ⟨q, 2, none⟩ = some (.int .i64 (z)) := HS1.out.box.cell 2
          have b13 : ((W3.setCell ⟨q, 1, none⟩ (.int .i64 (-(y + 1))))).cell? ⟨q, 3, none⟩ = some (.slice Av nv cv) := HS1.out.box.cell 3
          have g10 : ((W3.setCell ⟨q, 1, none⟩ (.int .i64 (-(y + 1))))).frozen? ⟨q, 0, none⟩ = false := HS1.out.box.free 0
          have g11 : ((W3.setCell ⟨q, 1, none⟩ (.int .i64 (-(y + 1))))).frozen? ⟨q, 1, none⟩ = false := HS1.out.box.free 1
          have g12 : ((W3.setCell ⟨q, 1, none⟩ (.int .i64 (-(y + 1))))).frozen? ⟨q, 2, none⟩ = false := HS1.out.box.free 2
          obtain ⟨wa2, wb2, wc2⟩ := HWZ.out hz0
          have HS2 := Lib.hid (HS1.out.put2 (-(z + 1)))
          have b20 : (((W3.setCell ⟨q, 1, none⟩ (.int .i64 (-(y + 1)))).setCell ⟨q, 2, none⟩ (.int .i64 (-(z + 1))))).cell? ⟨q, 0, none⟩ = some (.int .i64 (x)) := HS2.out.box.cell 0
          have b21 : (((W3.setCell ⟨q, 1, none⟩ (.int .i64 (-(y + 1)))).setCell ⟨q, 2, none⟩ (.int .i64 (-(z + 1))))).cell? ⟨q, 1, none⟩ = some (.int .i64 (-(y + 1))) := HS2.out.box.cell 1
          have b22 : (((W3.setCell ⟨q, 1, none⟩ (.int .i64 (-(y + 1)))).setCell ⟨q, 2, none⟩ (.int .i64 (-(z + 1))))).cell? ⟨q, 2, none⟩ = some (.int .i64 (-(z + 1))) := HS2.out.box.cell 2
          have b23 : (((W3.setCell ⟨q, 1, none⟩ (.int .i64 (-(y + 1)))).setCell ⟨q, 2, none⟩ (.int .i64 (-(z + 1))))).cell? ⟨q, 3, none⟩ = some (.slice Av nv cv) := HS2.out.box.cell 3
          have g20 : (((W3.setCell ⟨q, 1, none⟩ (.int .i64 (-(y + 1)))).setCell ⟨q, 2, none⟩ (.int .i64 (-(z + 1))))).frozen? ⟨q, 0, none⟩ = false := HS2.out.box.free 0
          have g21 : (((W3.setCell ⟨q, 1, none⟩ (.int .i64 (-(y + 1)))).setCell ⟨q, 2, none⟩ (.int .i64 (-(z + 1))))).frozen? ⟨q, 1, none⟩ = false := HS2.out.box.free 1
          have g22 : (((W3.setCell ⟨q, 1, none⟩ (.int .i64 (-(y + 1)))).setCell ⟨q, 2, none⟩ (.int .i64 (-(z + 1))))).frozen? ⟨q, 2, none⟩ = false := HS2.out.box.free 2
          have r0 : (((W3.setCell ⟨q, 1, none⟩ (.int .i64 (-(y + 1)))).setCell ⟨q, 2, none⟩ (.int .i64 (-(z + 1))))).cell? ⟨w.heap.size + 1, 0, none⟩ = some (.int .i64 0) := HS2.out.res.cell 0
          have r1 : (((W3.setCell ⟨q, 1, none⟩ (.int .i64 (-(y + 1)))).setCell ⟨q, 2, none⟩ (.int .i64 (-(z + 1))))).cell? ⟨w.heap.size + 1, 1, none⟩ = some (.int .i64 0) := HS2.out.res.cell 1
          have r2 : (((W3.setCell ⟨q, 1, none⟩ (.int .i64 (-(y + 1)))).setCell ⟨q, 2, none⟩ (.int .i64 (-(z + 1))))).cell? ⟨w.heap.size + 1, 2, none⟩ = some (.int .i64 0) := HS2.out.res.cell 2
          have r3 : (((W3.setCell ⟨q, 1, none⟩ (.int .i64 (-(y + 1)))).setCell ⟨q, 2, none⟩ (.int .i64 (-(z + 1))))).cell? ⟨w.heap.size + 1, 3, none⟩ = some (.slice none 0 0) := HS2.out.res.cell 3
          have t0 : (((W3.setCell ⟨q, 1, none⟩ (.int .i64 (-(y + 1)))).setCell ⟨q, 2, none⟩ (.int .i64 (-(z + 1))))).frozen? ⟨w.heap.size + 1, 0, none⟩ = false := HS2.out.res.free 0
          have t1 : (((W3.setCell ⟨q, 1, none⟩ (.int .i64 (-(y + 1)))).setCell ⟨q, 2, none⟩ (.int .i64 (-(z + 1))))).frozen? ⟨w.heap.size + 1, 1, none⟩ = false := HS2.out.res.free 1
          have t2 : (((W3.setCell ⟨q, 1, none⟩ (.int .i64 (-(y + 1)))).setCell ⟨q, 2, none⟩ (.int .i64 (-(z + 1))))).frozen? ⟨w.heap.size + 1, 2, none⟩ = false := HS2.out.res.free 2
          have t3 : (((W3.setCell ⟨q, 1, none⟩ (.int .i64 (-(y + 1)))).setCell ⟨q, 2, none⟩ (.int .i64 (-(z + 1))))).frozen? ⟨w.heap.size + 1, 3, none⟩ = false := HS2.out.res.free 3
          obtain ⟨f1, f2, f3⟩ := HS2.out.fin
          have F1 := Lib.hid f1
          have F2 := Lib.hid f2
          have F3 := Lib.hid f3
          clear f1 f2 f3
          go_wp2_with fail
          exact bodyPost_ret (ptEnd _ (w.heap.size + 1) _ _ _ _ _ rfl F1.out) rfl ⟨_, (by rw [absP_pos (x := x) (by omega), absP_neg (x := y) (by omega), absP_neg (x := z) (by omega)]; try rfl), F2, F3⟩
        · have b00 : (W3).cell? ⟨q, 0, none⟩ = some (.int .i64 (x)) := HS.out.box.cell 0
          have b01 : (W3).cell? ⟨q, 1, none⟩ = some (.int .i64 (y)) := HS.out.box.cell 1
          have b02 : (W3).cell? ⟨q, 2, none⟩ = some (.int .i64 (z)) := HS.out.box.cell 2
          have b03 : (W3).cell? ⟨q, 3, none⟩ = some (.slice Av nv cv) := HS.out.box.cell 3
          have g00 : (W3).frozen? ⟨q, 0, none⟩ = false := HS.out.box.free 0
          have g01 : (W3).frozen? ⟨q, 1, none⟩ = false := HS.out.box.free 1
          have g02 : (W3).frozen? ⟨q, 2, none⟩ = false := HS.out.box.free 2
          obtain ⟨wa1, wb1, wc1⟩ := HWY.out hy0
          have HS1 := Lib.hid (HS.out.put1 (-(y + 1)))
          have b10 : ((W3.setCell ⟨q, 1, none⟩ (.int .i64 (-(y + 1))))).cell? ⟨q, 0, none⟩ = some (.int .i64 (x)) := HS1.out.box.cell 0
          have b11 : ((W3.setCell ⟨q, 1, none⟩ (.int .i64 (-(y + 1))))).cell? ⟨q, 1, none⟩ = some (.int .i64 (-(y + 1))) := HS1.out.box.cell 1
          have b12 : ((W3.setCell ⟨q, 1, none⟩ (.int .i64 (-(y + 1))))).cell? ⟨q, 2, none⟩ = some (.int .i64 (z)) := HS1.out.box.cell 2
          have b13 : ((W3.setCell ⟨q, 1, none⟩ (.int .i64 (-(y + 1))))).cell? ⟨q, 3, none⟩ = some (.slice Av nv cv) := HS1.out.box.cell 3
          have g10 : ((W3.setCell ⟨q, 1, none⟩ (.int .i64 (-(y + 1))))).frozen? ⟨q, 0, none⟩ = false := HS1.out.box.free 0
          have g11 : ((W3.setCell ⟨q, 1, none⟩ (.int .i64 (-(y + 1))))).frozen? ⟨q, 1, none⟩ = false := HS1.out.box.free 1
          have g12 : ((W3.setCell ⟨q, 1, none⟩ (.int .i64 (-(y + 1))))).frozen? ⟨q, 2, none⟩ = false := HS1.out.box.free 2
          have r0 : ((W3.setCell ⟨q, 1, none⟩ (.int .i64 (-(y + 1))))).cell? ⟨w.heap.size + 1, 0, none⟩ = some (.int .i64 0) := HS1.out.res.cell 0
          have r1 : ((W3.setCell ⟨q, 1, none⟩ (.int .i64 (-(y + 1))))).cell? ⟨w.heap.size + 1, 1, none⟩ = some (.int .i64 0) := HS1.out.res.cell 1
          have r2 : ((W3.setCell ⟨q, 1, none⟩ (.int .i64 (-(y + 1))))).cell? ⟨w.heap.size + 1, 2, none⟩ = some (.int .i64 0) := HS1.out.res.cell 2
          have r3 : ((W3.setCell ⟨q, 1, none⟩ (.int .i64 (-(y + 1))))).cell? ⟨w.heap.size + 1, 3, none⟩ = some (.slice none 0 0) := HS1.out.res.cell 3
          have t0 : ((W3.setCell ⟨q, 1, none⟩ (.int .i64 (-(y + 1))))).frozen? ⟨w.heap.size + 1, 0, none⟩ = false := HS1.out.res.free 0
          have t1 : ((W3.setCell ⟨q, 1, none⟩ (.int .i64 (-(y + 1))))).frozen? ⟨w.heap.size + 1, 1, none⟩ = false := HS1.out.res.free 1
          have t2 : ((W3.setCell ⟨q, 1, none⟩ (.int .i64 (-(y + 1))))).frozen? ⟨w.heap.size + 1, 2, none⟩ = false := HS1.out.res.free 2
          have t3 : ((W3.setCell ⟨q, 1, none⟩ (.int .i64 (-(y + 1))))).frozen? ⟨w.heap.size + 1, 3, none⟩ = false := HS1.out.res.free 3
          obtain ⟨f1, f2, f3⟩ := HS1.out.fin
          have F1 := Lib.hid f1
          have F2 := Lib.hid f2
          have F3 := Lib.hid f3
          clear f1 f2 f3
          go_wp2_with fail
          exact bodyPost_ret (ptEnd _ (w.heap.size + 1) _ _ _ _ _ rfl F1.out) rfl ⟨_, (by rw [absP_pos (x := x) (by omega), absP_neg (x := y) (by omega), absP_pos (x := z) (by omega)]; try rfl), F2, F3⟩
      · by_cases hz0 : z < 0
        · have b00 : (W3).cell? ⟨q, 0, none⟩ = some (.int .i64 (x)) := HS.out.box.cell 0
          have b01 : (W3).cell? ⟨q, 1, none⟩ = some (.int .i64 (y)) := HS.out.box.cell 1
          have b02 : (W3).cell? ⟨q, 2, none⟩ = some (.int .i64 (z)) := HS.out.box.cell 2
          have b03 : (W3).cell? ⟨q, 3, none⟩ = some (.slice Av nv cv) := HS.out.box.cell 3
          have g00 : (W3).frozen? ⟨q, 0, none⟩ = false := HS.out.box.free 0
          have g01 : (W3).frozen? ⟨q, 1, none⟩ = false := HS.out.box.free 1
          have g02 : (W3).frozen? ⟨q, 2, none⟩ = false := HS.out.box.free 2
          obtain ⟨wa1, wb1, wc1⟩ := HWZ.out hz0
          have HS1 := Lib.hid (HS.out.put2 (-(z + 1)))
          have b10 : ((W3.setCell ⟨q, 2, none⟩ (.int .i64 (-(z + 1))))).cell? ⟨q, 0, none⟩ = some (.int .i64 (x)) := HS1.out.box.cell 0
          have b11 : ((W3.setCell ⟨q, 2, none⟩ (.int .i64 (-(z + 1))))).cell? ⟨q, 1, none⟩ = some (.int .i64 (y)) := HS1.out.box.cell 1
          have b12 : ((W3.setCell ⟨q, 2, none⟩ (.int .i64 (-(z + 1))))).cell? ⟨q, 2, none⟩ = some (.int .i64 (-(z + 1))) := HS1.out.box.cell 2
          have b13 : ((W3.setCell ⟨q, 2, none⟩ (.int .i64 (-(z + 1))))).cell? ⟨q, 3, none⟩ = some (.slice Av nv cv) := HS1.out.box.cell 3
          have g10 : ((W3.setCell ⟨q, 2, none⟩ (.int .i64 (-(z + 1))))).frozen? ⟨q, 0, none⟩ = false := HS1.out.box.free 0
          have g11 : ((W3.setCell ⟨q, 2, none⟩ (.int .i64 (-(z + 1))))).frozen? ⟨q, 1, none⟩ = false := HS1.out.box.free 1
          have g12 : ((W3.setCell ⟨q, 2, none⟩ (.int .i64 (-(z + 1))))).frozen? ⟨q, 2, none⟩ = false := HS1.out.box.free 2
          have r0 : ((W3.setCell ⟨q, 2, none⟩ (.int .i64 (-(z + 1))))).cell? ⟨w.heap.size + 1, 0, none⟩ = some (.int .i64 0) := HS1.out.res.cell 0
          have r1 : ((W3.setCell ⟨q, 2, none⟩ (.int .i64 (-(z + 1))))).cell? ⟨w.heap.size + 1, 1, none⟩ = some (.int .i64 0) := HS1.out.res.cell 1
          have r2 : ((W3.setCell ⟨q, 2, none⟩ (.int .i64 (-(z + 1))))).cell? ⟨w.heap.size + 1, 2, none⟩ = some (.int .i64 0) := HS1.out.res.cell 2
          have r3 : ((W3.setCell ⟨q, 2, none⟩ (.int .i64 (-(z + 1))))).cell? ⟨w.heap.size + 1, 3, none⟩ = some (.slice none 0 0) := HS1.out.res.cell 3
          have t0 : ((W3.setCell ⟨q, 2, none⟩ (.int .i64 (-(z + 1))))).frozen? ⟨w.heap.size + 1, 0, none⟩ = false := HS1.out.res.free 0
          have t1 : ((W3.setCell ⟨q, 2, none⟩ (.int .i64 (-(z + 1))))).frozen? ⟨w.heap.size + 1, 1, none⟩ = false := HS1.out.res.free 1
          have t2 : ((W3.setCell ⟨q, 2, none⟩ (.int .i64 (-(z + 1))))).frozen? ⟨w.heap.size + 1, 2, none⟩ = false := HS1.out.res.free 2
          have t3 : ((W3.setCell ⟨q, 2, none⟩ (.int .i64 (-(z + 1))))).frozen? ⟨w.heap.size + 1, 3, none⟩ = false := HS1.out.res.free 3
          obtain ⟨f1, f2, f3⟩ := HS1.out.fin
          have F1 := Lib.hid f1
          have F2 := Lib.hid f2
          have F3 := Lib.hid f3
          clear f1 f2 f3
          go_wp2_with fail
          exact bodyPost_ret (ptEnd _ (w.heap.size + 1) _ _ _ _ _ rfl F1.out) rfl ⟨_, (by rw [absP_pos (x := x) (by omega), absP_pos (x := y) (by omega), absP_neg (x := z) (by omega)]; try rfl), F2, F3⟩
        · have b00 : (W3).cell? ⟨q, 0, none⟩ = some (.int .i64 (x)) := HS.out.box.cell 0
          have b01 : (W3).cell? ⟨q, 1, none⟩ = some (.int .i64 (y)) := HS.out.box.cell 1
          have b02 : (W3).cell? ⟨q, 2, none⟩ = some (.int .i64 (z)) := HS.out.box.cell 2
          have b03 : (W3).cell? ⟨q, 3, none⟩ = some (.slice Av nv cv) := HS.out.box.cell 3
          have g00 : (W3).frozen? ⟨q, 0, none⟩ = false := HS.out.box.free 0
          have g01 : (W3).frozen? ⟨q, 1, none⟩ = false := HS.out.box.free 1
          have g02 : (W3).frozen? ⟨q, 2, none⟩ = false := HS.out.box.free 2
          have r0 : (W3).cell? ⟨w.heap.size + 1, 0, none⟩ = some (.int .i64 0) := HS.out.res.cell 0
          have r1 : (W3).cell? ⟨w.heap.size + 1, 1, none⟩ = some (.int .i64 0) := HS.out.res.cell 1
          have r2 : (W3).cell? ⟨w.heap.size + 1, 2, none⟩ = some (.int .i64 0) := HS.out.res.cell 2
          have r3 : (W3).cell? ⟨w.heap.size + 1, 3, none⟩ = some (.slice none 0 0) := HS.out.res.cell 3
          have t0 : (W3).frozen? ⟨w.heap.size + 1, 0, none⟩ = false := HS.out.res.free 0
          have t1 : (W3).frozen? ⟨w.heap.size + 1, 1, none⟩ = false := HS.out.res.free 1
          have t2 : (W3).frozen? ⟨w.heap.size + 1, 2, none⟩ = false := HS.out.res.free 2
          have t3 : (W3).frozen? ⟨w.heap.size + 1, 3, none⟩ = false := HS.out.res.free 3
          obtain ⟨f1, f2, f3⟩ := HS.out.fin
          have F1 := Lib.hid f1
          have F2 := Lib.hid f2
          have F3 := Lib.hid f3
          clear f1 f2 f3
          go_wp2_with fail
          exact bodyPost_ret (ptEnd _ (w.heap.size + 1) _ _ _ _ _ rfl F1.out) rfl ⟨_, (by rw [absP_pos (x := x) (by omega), absP_pos (x := y) (by omega), absP_pos (x := z) (by omega)]; try rfl), F2, F3⟩
  · have HN0 := Lib.hid ((Has.new W1 67 #[.int .i64 0, .int .i64 0, .int .i64 0, .slice none 0 0]).drew)
    have hb0 : Below W1.heap.size W1 ((W1.alloc (.cells #[.int .i64 0, .int .i64 0, .int .i64 0, .slice none 0 0] 67)).drew) := ((Below.refl _ W1).alloc (Nat.le_refl _) _).drew
    have HX0 := Lib.hid (HXb.out.below hb0 HXb.out.lt)
    have HR0 := Lib.hid (HRS.out.below hb0 HRS.out.lt)
    have HB0 := Lib.hid (HB.out.trans (hb0.mono HB.out.size))
    have hS2 : (fun X : World => X.cell? ⟨w.heap.size, 0, none⟩ = some (.int .i64 x) ∧ X.cell? ⟨w.heap.size, 1, none⟩ = some (.int .i64 y) ∧ X.cell? ⟨w.heap.size, 2, none⟩ = some (.int .i64 z) ∧ X.cell? ⟨w.heap.size, 3, none⟩ = some (.slice A n c)) ((W1.alloc (.cells #[.int .i64 0, .int .i64 0, .int .i64 0, .slice none 0 0] 67)).drew) := ⟨HX0.out.cell 0, HX0.out.cell 1, HX0.out.cell 2, HX0.out.cell 3⟩
    go_simp
    refine hK2.out _ _ (by (try dsimp only); exact hS2) (fun _ => ?_)
    clear hK2 K2
    (try simp only [List.getElem_toArray]); (try simp only [List.getElem_cons_succ]); (try simp only [List.getElem_cons_zero]); (try simp only [Act.put]); (try simp only [List.setIfInBounds_toArray]); (try simp only [List.set_cons_succ]); (try simp only [List.set_cons_zero])
    obtain ⟨Wz, hWz⟩ : ∃ W, W = (W1.alloc (.cells #[.int .i64 0, .int .i64 0, .int .i64 0, .slice none 0 0] 67)).drew := ⟨_, rfl⟩
    rw [← hWz] at HN0 HX0 HR0 HB0 ⊢
    have hsz : Wz.heap.size = w.heap.size + 3 := by rw [hWz]; simp [hs1]
    clear hWz hS2 hb0
    obtain ⟨q, hq⟩ : ∃ q, w.heap.size + 2 = q := ⟨_, rfl⟩
    have hs2 : w.heap.size + 2 ≤ q := Nat.le_of_eq hq
    rw [hs1, hq] at HN0
    first | rw [hq] | rw [hs1, hq] | rw [show W1.drew.heap.size = q from hs1.trans hq]
    clear hq
    refine wpAnyH_ready (rs := [8]) (by kernel_rfl) (by simp) ?_
    refine AllReadyH.cons rfl (fun K2 hK2 => ?_) AllReadyH.nil
    go_simp
    refine (HG.out Wz HB0.out).mono ?_
    rintro e W2 ⟨v, rfl, ho2, hb2⟩
    have HB3 := Lib.hid (HB0.out.trans (hb2.out.mono HB0.out.size))
    have HX3 := Lib.hid (HX0.out.below hb2.out HX0.out.lt)
    have HR3 := Lib.hid (HR0.out.below hb2.out HR0.out.lt)
    have HN3 := Lib.hid (HN0.out.below hb2.out HN0.out.lt)
    have HO3 := Lib.hid (ownW_down ho2.out HB0.out.size)
    obtain ⟨Av, nv, cv, rfl, _, _, _, _, _⟩ := ownW_open ho2.out
    clear ho2 hb2 HG HX0 HR0 HN0 HB0
    have hS2 : (fun X : World => X.cell? ⟨w.heap.size, 0, none⟩ = some (.int .i64 x) ∧ X.cell? ⟨w.heap.size, 1, none⟩ = some (.int .i64 y) ∧ X.cell? ⟨w.heap.size, 2, none⟩ = some (.int .i64 z) ∧ X.cell? ⟨w.heap.size, 3, none⟩ = some (.slice A n c)) W2 := ⟨HX3.out.cell 0, HX3.out.cell 1, HX3.out.cell 2, HX3.out.cell 3⟩
    go_wp2_with fail
    refine hK2.out _ _ (by (try dsimp only); exact hS2) (fun _ => ?_)
    clear hK2 K2 hS2
    (try simp only [List.getElem_toArray]); (try simp only [List.getElem_cons_succ]); (try simp only [List.getElem_cons_zero]); (try simp only [Act.put]); (try simp only [List.setIfInBounds_toArray]); (try simp only [List.set_cons_succ]); (try simp only [List.set_cons_zero])
    (refine wpAnyH_take (i := 9) (v := ?_) rfl (by kernel_rfl) (by kernel_rfl) (by kernel_rfl) (fun _ _ _ h => h) (Or.inl ⟨by rfl, ?_⟩) (by assumption) ?_; rotate_left; (intro w hSw; (try dsimp only at hSw); go_simp; try with_reducible rfl); ((try simp only [List.getElem_toArray]); (try simp only [List.getElem_cons_succ]); (try simp only [List.getElem_cons_zero]); (try simp only [Act.put]); (try simp only [List.setIfInBounds_toArray]); (try simp only [List.set_cons_succ]); (try simp only [List.set_cons_zero])))
    have HS := Lib.hid (PtS.mk (x := x) (y := y) (z := z) (v := .slice Av nv cv) (w := w) (q := q) (G := G) (W := (((W2.setCell ⟨q, 0, none⟩ (.int .i64 x)).setCell ⟨q, 1, none⟩ (.int .i64 y)).setCell ⟨q, 2, none⟩ (.int .i64 z)).setCell ⟨q, 3, none⟩ (.slice Av nv cv)) (by
      have h0 := HN3.out.put 0 (.int .i64 x)
      have h1 := h0.put 1 (.int .i64 y)
      have h2 := h1.put 2 (.int .i64 z)
      exact ownW_apart (ownW_apart (ownW_apart (ownW_apart HO3.out HN3.out (by decide) _ rfl _) h0 (by decide) _ rfl _) h1 (by decide) _ rfl _) h2 (by decide) _ rfl _) ((((HB3.out.setCell (p := ⟨q, 0, none⟩) (by show w.heap.size ≤ q; omega) _).setCell (p := ⟨q, 1, none⟩) (by show w.heap.size ≤ q; omega) _).setCell (p := ⟨q, 2, none⟩) (by show w.heap.size ≤ q; omega) _).setCell (p := ⟨q, 3, none⟩) (by show w.heap.size ≤ q; omega) _) (put4 HN3.out _ _ _ _) ((((HR3.out.far (p := ⟨q, 0, none⟩) (by show w.heap.size + 1 ≠ q; omega) _).far (p := ⟨q, 1, none⟩) (by show w.heap.size + 1 ≠ q; omega) _).far (p := ⟨q, 2, none⟩) (by show w.heap.size + 1 ≠ q; omega) _).far (p := ⟨q, 3, none⟩) (by show w.heap.size + 1 ≠ q; omega) _) (by omega) (by omega))
    have hS4 : (fun X : World => X.cell? ⟨w.heap.size, 0, none⟩ = some (.int .i64 x) ∧ X.cell? ⟨w.heap.size, 1, none⟩ = some (.int .i64 y) ∧ X.cell? ⟨w.heap.size, 2, none⟩ = some (.int .i64 z) ∧ X.cell? ⟨w.heap.size, 3, none⟩ = some (.slice A n c)) ((((W2.setCell ⟨q, 0, none⟩ (.int .i64 x)).setCell ⟨q, 1, none⟩ (.int .i64 y)).setCell ⟨q, 2, none⟩ (.int .i64 z)).setCell ⟨q, 3, none⟩ (.slice Av nv cv)) := by
      have hh := (((HX3.out.far (p := ⟨q, 0, none⟩) (by show w.heap.size ≠ q; omega) (.int .i64 x)).far (p := ⟨q, 1, none⟩) (by show w.heap.size ≠ q; omega) (.int .i64 y)).far (p := ⟨q, 2, none⟩) (by show w.heap.size ≠ q; omega) (.int .i64 z)).far (p := ⟨q, 3, none⟩) (by show w.heap.size ≠ q; omega) (.slice Av nv cv)
      exact ⟨hh.cell 0, hh.cell 1, hh.cell 2, hh.cell 3⟩
    have n0 : W2.cell? ⟨q, 0, none⟩ = some (.int .i64 0) := HN3.out.cell 0
    have n1 : W2.cell? ⟨q, 1, none⟩ = some (.int .i64 0) := HN3.out.cell 1
    have n2 : W2.cell? ⟨q, 2, none⟩ = some (.int .i64 0) := HN3.out.cell 2
    have n3 : W2.cell? ⟨q, 3, none⟩ = some (.slice none 0 0) := HN3.out.cell 3
    have m0 : W2.frozen? ⟨q, 0, none⟩ = false := HN3.out.free 0
    have m1 : W2.frozen? ⟨q, 1, none⟩ = false := HN3.out.free 1
    have m2 : W2.frozen? ⟨q, 2, none⟩ = false := HN3.out.free 2
    have m3 : W2.frozen? ⟨q, 3, none⟩ = false := HN3.out.free 3
    refine wpAnyH_ready (rs := [11]) (by kernel_rfl) (by simp) ?_
    refine AllReadyH.cons rfl (fun K2 hK2 => ?_) AllReadyH.nil
    go_simp
    refine hK2.out _ _ (by (try dsimp only); exact hS4) (fun _ => ?_)
    clear hK2 K2
    (try simp only [List.getElem_toArray]); (try simp only [List.getElem_cons_succ]); (try simp only [List.getElem_cons_zero]); (try simp only [Act.put]); (try simp only [List.setIfInBounds_toArray]); (try simp only [List.set_cons_succ]); (try simp only [List.set_cons_zero])
    refine wpAnyH_done (by kernel_rfl) ?_ _
    obtain ⟨W3, hW3⟩ : ∃ W, W = (((W2.setCell ⟨q, 0, none⟩ (.int .i64 x)).setCell ⟨q, 1, none⟩ (.int .i64 y)).setCell ⟨q, 2, none⟩ (.int .i64 z)).setCell ⟨q, 3, none⟩ (.slice Av nv cv) := ⟨_, rfl⟩
    rw [← hW3] at HS ⊢
    clear hW3 hS4 n0 n1 n2 n3 m0 m1 m2 m3 HX3 HR3 HN3 HB3 HO3 x0 x1 x2 x3 HXb HRS HB
    by_cases hx0 : x < 0
    · by_cases hy0 : y < 0
      · by_cases hz0 : z < 0
        · have b00 : (W3).cell? ⟨q, 0, none⟩ = some (.int .i64 (x)) := HS.out.box.cell 0
          have b01 : (W3).cell? ⟨q, 1, none⟩ = some (.int .i64 (y)) := HS.out.box.cell 1
          have b02 : (W3).cell? ⟨q, 2, none⟩ = some (.int .i64 (z)) := HS.out.box.cell 2
          have b03 : (W3).cell? ⟨q, 3, none⟩ = some (.slice Av nv cv) := HS.out.box.cell 3
          have g00 : (W3).frozen? ⟨q, 0, none⟩ = false := HS.out.box.free 0
          have g01 : (W3).frozen? ⟨q, 1, none⟩ = false := HS.out.box.free 1
          have g02 : (W3).frozen? ⟨q, 2, none⟩ = false := HS.out.box.free 2
          obtain ⟨wa1, wb1, wc1⟩ := HWX.out hx0
          have HS1 := Lib.hid (HS.out.put0 (-(x + 1)))
          have b10 : ((W3.setCell ⟨q, 0, none⟩ (.int .i64 (-(x + 1))))).cell? ⟨q, 0, none⟩ = some (.int .i64 (-(x + 1))) := HS1.out.box.cell 0
          have b11 : ((W3.setCell ⟨q, 0, none⟩ (.int .i64 (-(x + 1))))).cell? ⟨q, 1, none⟩ = some (.int .i64 (y)) := HS1.out.box.cell 1
          have b12 : ((W3.setCell ⟨q, 0, none⟩ (.int .i64 (-(x + 1))))).cell? ⟨q, 2, none⟩ = some (.int .i64 (z)) := HS1.out.box.cell 2
          have b13 : ((W3.setCell ⟨q, 0, none⟩ (.int .i64 (-(x + 1))))).cell? ⟨q, 3, none⟩ = some (.slice Av nv cv) := HS1.out.box.cell 3
          have g10 : ((W3.setCell ⟨q, 0, none⟩ (.int .i64 (-(x + 1))))).frozen? ⟨q, 0, none⟩ = false := HS1.out.box.free 0
          have g11 : ((W3.setCell ⟨q, 0, none⟩ (.int .i64 (-(x + 1))))).frozen? ⟨q, 1, none⟩ = false := HS1.out.box.free 1
          have g12 : ((W3.setCell ⟨q, 0, none⟩ (.int .i64 (-(x + 1))))).frozen? ⟨q, 2, none⟩ = false := HS1.out.box.free 2
          obtain ⟨wa2, wb2, wc2⟩ := HWY.out hy0
          have HS2 := Lib.hid (HS1.out.put1 (-(y + 1)))
          have b20 : (((W3.setCell ⟨q, 0, none⟩ (.int .i64 (-(x + 1)))).setCell ⟨q, 1, none⟩ (.int .i64 (-(y + 1))))).cell? ⟨q, 0, none⟩ = some (.int .i64 (-(x + 1))) := HS2.out.box.cell 0
          have b21 : (((W3.setCell ⟨q, 0, none⟩ (.int .i64 (-(x + 1)))).setCell ⟨q, 1, none⟩ (.int .i64 (-(y + 1))))).cell? ⟨q, 1, none⟩ = some (.int .i64 (-(y + 1))) := HS2.out.box.cell 1
          have b22 : (((W3.setCell ⟨q, 0, none⟩ (.int .i64 (-(x + 1)))).setCell ⟨q, 1, none⟩ (.int .i64 (-(y + 1))))).cell? ⟨q, 2, none⟩ = some (.int .i64 (z)) := HS2.out.box.cell 2
          have b23 : (((W3.setCell ⟨q, 0, none⟩ (.int .i64 (-(x + 1)))).setCell ⟨q, 1, none⟩ (.int .i64 (-(y + 1))))).cell? ⟨q, 3, none⟩ = some (.slice Av nv cv) := HS2.out.box.cell 3
          have g20 : (((W3.setCell ⟨q, 0, none⟩ (.int .i64 (-(x + 1)))).setCell ⟨q, 1, none⟩ (.int .i64 (-(y + 1))))).frozen? ⟨q, 0, none⟩ = false := HS2.out.box.free 0
          have g21 : (((W3.setCell ⟨q, 0, none⟩ (.int .i64 (-(x + 1)))).setCell ⟨q, 1, none⟩ (.int .i64 (-(y + 1))))).frozen? ⟨q, 1, none⟩ = false := HS2.out.box.free 1
          have g22 : (((W3.setCell ⟨q, 0, none⟩ (.int .i64 (-(x + 1)))).setCell ⟨q, 1, none⟩ (.int .i64 (-(y + 1))))).frozen? ⟨q, 2, none⟩ = false := HS2.out.box.free 2
          obtain ⟨wa3, wb3, wc3⟩ := HWZ.out hz0
          have HS3 := Lib.hid (HS2.out.put2 (-(z + 1)))
          have b30 : ((((W3.setCell ⟨q, 0, none⟩ (.int .i64 (-(x + 1)))).setCell ⟨q, 1, none⟩ (.int .i64 (-(y + 1)))).setCell ⟨q, 2, none⟩ (.int .i64 (-(z + 1))))).cell? ⟨q, 0, none⟩ = some (.int .i64 (-(x + 1))) := HS3.out.box.cell 0
          have b31 : ((((W3.setCell ⟨q, 0, none⟩ (.int .i64 (-(x + 1)))).setCell ⟨q, 1, none⟩ (.int .i64 (-(y + 1)))).setCell ⟨q, 2, none⟩ (.int .i64 (-(z + 1))))).cell? ⟨q, 1, none⟩ = some (.int .i64 (-(y + 1))) := HS3.out.box.cell 1
          have b32 : ((((W3.setCell ⟨q, 0, none⟩ (.int .i64 (-(x + 1)))).setCell ⟨q, 1, none⟩ (.int .i64 (-(y + 1)))).setCell ⟨q, 2, none⟩ (.int .i64 (-(z + 1))))).cell? ⟨q, 2, none⟩ = some (.int .i64 (-(z + 1))) := HS3.out.box.cell 2
          have b33 : ((((W3.setCell ⟨q, 0, none⟩ (.int .i64 (-(x + 1)))).setCell ⟨q, 1, none⟩ (.int .i64 (-(y + 1)))).setCell ⟨q, 2, none⟩ (.int .i64 (-(z + 1))))).cell? ⟨q, 3, none⟩ = some (.slice Av nv cv) := HS3.out.box.cell 3
          have g30 : ((((W3.setCell ⟨q, 0, none⟩ (.int .i64 (-(x + 1)))).setCell ⟨q, 1, none⟩ (.int .i64 (-(y + 1)))).setCell ⟨q, 2, none⟩ (.int .i64 (-(z + 1))))).frozen? ⟨q, 0, none⟩ = false := HS3.out.box.free 0
          have g31 : ((((W3.setCell ⟨q, 0, none⟩ (.int .i64 (-(x + 1)))).setCell ⟨q, 1, none⟩ (.int .i64 (-(y + 1)))).setCell ⟨q, 2, none⟩ (.int .i64 (-(z + 1))))).frozen? ⟨q, 1, none⟩ = false := HS3.out.box.free 1
          have g32 : ((((W3.setCell ⟨q, 0, none⟩ (.int .i64 (-(x + 1)))).setCell ⟨q, 1, none⟩ (.int .i64 (-(y + 1)))).setCell ⟨q, 2, none⟩ (.int .i64 (-(z + 1))))).frozen? ⟨q, 2, none⟩ = false := HS3.out.box.free 2
          have r0 : ((((W3.setCell ⟨q, 0, none⟩ (.int .i64 (-(x + 1)))).setCell ⟨q, 1, none⟩ (.int .i64 (-(y + 1)))).setCell ⟨q, 2, none⟩ (.int .i64 (-(z + 1))))).cell? ⟨w.heap.size + 1, 0, none⟩ = some (.int .i64 0) := HS3.out.res.cell 0
          have r1 : ((((W3.setCell ⟨q, 0, none⟩ (.int .i64 (-(x + 1)))).setCell ⟨q, 1, none⟩ (.int .i64 (-(y + 1)))).setCell ⟨q, 2, none⟩ (.int .i64 (-(z + 1))))).cell? ⟨w.heap.size + 1, 1, none⟩ = some (.int .i64 0) := HS3.out.res.cell 1
          have r2 : ((((W3.setCell ⟨q, 0, none⟩ (.int .i64 (-(x + 1)))).setCell ⟨q, 1, none⟩ (.int .i64 (-(y + 1)))).setCell ⟨q, 2, none⟩ (.int .i64 (-(z + 1))))).cell? ⟨w.heap.size + 1, 2, none⟩ = some (.int .i64 0) := HS3.out.res.cell 2
          have r3 : ((((W3.setCell ⟨q, 0, none⟩ (.int .i64 (-(x + 1)))).setCell ⟨q, 1, none⟩ (.int .i64 (-(y + 1)))).setCell ⟨q, 2, none⟩ (.int .i64 (-(z + 1))))).cell? ⟨w.heap.size + 1, 3, none⟩ = some (.slice none 0 0) := HS3.out.res.cell 3
          have t0 : ((((W3.setCell ⟨q, 0, none⟩ (.int .i64 (-(x + 1)))).setCell ⟨q, 1, none⟩ (.int .i64 (-(y + 1)))).setCell ⟨q, 2, none⟩ (.int .i64 (-(z + 1))))).frozen? ⟨w.heap.size + 1, 0, none⟩ = false := HS3.out.res.free 0
          have t1 : ((((W3.setCell ⟨q, 0, none⟩ (.int .i64 (-(x + 1)))).setCell ⟨q, 1, none⟩ (.int .i64 (-(y + 1)))).setCell ⟨q, 2, none⟩ (.int .i64 (-(z + 1))))).frozen? ⟨w.heap.size + 1, 1, none⟩ = false := HS3.out.res.free 1
          have t2 : ((((W3.setCell ⟨q, 0, none⟩ (.int .i64 (-(x + 1)))).setCell ⟨q, 1, none⟩ (.int .i64 (-(y + 1)))).setCell ⟨q, 2, none⟩ (.int .i64 (-(z + 1))))).frozen? ⟨w.heap.size + 1, 2, none⟩ = false := HS3.out.res.free 2
          have t3 : ((((W3.setCell ⟨q, 0, none⟩ (.int .i64 (-(x + 1)))).setCell ⟨q, 1, none⟩ (.int .i64 (-(y + 1)))).setCell ⟨q, 2, none⟩ (.int .i64 (-(z + 1))))).frozen? ⟨w.heap.size + 1, 3, none⟩ = false := HS3.out.res.free 3
          obtain ⟨f1, f2, f3⟩ := HS3.out.fin
          have F1 := Lib.hid f1
          have F2 := Lib.hid f2
          have F3 := Lib.hid f3
          clear f1 f2 f3
          go_wp2_with fail
          exact bodyPost_ret (ptEnd _ (w.heap.size + 1) _ _ _ _ _ rfl F1.out) rfl ⟨_, (by rw [absP_neg (x := x) (by omega), absP_neg (x := y) (by omega), absP_neg (x := z) (by omega)]; try rfl), F2, F3⟩
        · have b00 : (W3).cell? ⟨q, 0, none⟩ = some (.int .i64 (x)) := HS.out.box.cell 0
          have b01 : (W3).cell? ⟨q, 1, none⟩ = some (.int .i64 (y)) := HS.out.box.cell 1
          have b02 : (W3).cell? ⟨q, 2, none⟩ = some (.int .i64 (z)) := HS.out.box.cell 2
          have b03 : (W3).cell? ⟨q, 3, none⟩ = some (.slice Av nv cv) := HS.out.box.cell 3
          have g00 : (W3).frozen? ⟨q, 0, none⟩ = false := HS.out.box.free 0
          have g01 : (W3).frozen? ⟨q, 1, none⟩ = false := HS.out.box.free 1
          have g02 : (W3).frozen? ⟨q, 2, none⟩ = false := HS.out.box.free 2
          obtain ⟨wa1, wb1, wc1⟩ := HWX.out hx0
          have HS1 := Lib.hid (HS.out.put0 (-(x + 1)))
          have b10 : ((W3.setCell ⟨q, 0, none⟩ (.int .i64 (-(x + 1))))).cell? ⟨q, 0, none⟩ = some (.int .i64 (-(x + 1))) := HS1.out.box.cell 0
          have b11 : ((W3.setCell ⟨q, 0, none⟩ (.int .i64 (-(x + 1))))).cell? ⟨q, 1, none⟩ = some (.int .i64 (y)) := HS1.out.box.cell 1
          have b12 : ((W3.setCell ⟨q, 0, none⟩ (.int .i64 (-(x + 1))))).cell? ⟨q, 2, none⟩ = some (.int .i64 (z)) := HS1.out.box.cell 2
          have b13 : ((W3.setCell ⟨q, 0, none⟩ (.int .i64 (-(x + 1))))).cell? ⟨q, 3, none⟩ = some (.slice Av nv cv) := HS1.out.box.cell 3
          have g10 : ((W3.setCell ⟨q, 0, none⟩ (.int .i64 (-(x + 1))))).frozen? ⟨q, 0, none⟩ = false := HS1.out.box.free 0
          have g11 : ((W3.setCell ⟨q, 0, none⟩ (.int .i64 (-(x + 1))))).frozen? ⟨q, 1, none⟩ = false := HS1.out.box.free 1
          have g12 : ((W3.setCell ⟨q, 0, none⟩ (.int .i64 (-(x + 1))))).frozen? ⟨q, 2, none⟩ = false := HS1.out.box.free 2
          obtain ⟨wa2, wb2, wc2⟩ := HWY.out hy0
          have HS2 := Lib.hid (HS1.out.put1 (-(y + 1)))
          have b20 : (((W3.setCell ⟨q, 0, none⟩ (.int .i64 (-(x + 1)))).setCell ⟨q, 1, none⟩ (.int .i64 (-(y + 1))))).cell? ⟨q, 0, none⟩ = some (.int .i64 (-(x + 1))) := HS2.out.box.cell 0
          have b21 : (((W3.setCell ⟨q, 0, none⟩ (.int .i64 (-(x + 1)))).setCell ⟨q, 1, none⟩ (.int .i64 (-(y + 1))))).cell? ⟨q, 1, none⟩ = some (.int .i64 (-(y + 1))) := HS2.out.box.cell 1
          have b22 : (((W3.setCell ⟨q, 0, none⟩ (.int .i64 (-(x + 1)))).setCell ⟨q, 1, none⟩ (.int .i64 (-(y + 1))))).cell? ⟨q, 2, none⟩ = some (.int .i64 (z)) := HS2.out.box.cell 2
          have b23 : (((W3.setCell ⟨q, 0, none⟩ (.int .i64 (-(x + 1)))).setCell ⟨q, 1, none⟩ (.int .i64 (-(y + 1))))).cell? ⟨q, 3, none⟩ = some (.slice Av nv cv) := HS2.out.box.cell 3
          have g20 : (((W3.setCell ⟨q, 0, none⟩ (.int .i64 (-(x + 1)))).setCell ⟨q, 1, none⟩ (.int .i64 (-(y + 1))))).frozen? ⟨q, 0, none⟩ = false := HS2.out.box.free 0
          have g21 : (((W3.setCell ⟨q, 0, none⟩ (.int .i64 (-(x + 1)))).setCell ⟨q, 1, none⟩ (.int .i64 (-(y + 1))))).frozen? ⟨q, 1, none⟩ = false := HS2.out.box.free 1
          have g22 : (((W3.setCell ⟨q, 0, none⟩ (.int .i64 (-(x + 1)))).setCell ⟨q, 1, none⟩ (.int .i64 (-(y + 1))))).frozen? ⟨q, 2, none⟩ = false := HS2.out.box.free 2
          have r0 : (((W3.setCell ⟨q, 0, none⟩ (.int .i64 (-(x + 1)))).setCell ⟨q, 1, none⟩ (.int .i64 (-(y + 1))))).cell? ⟨w.heap.size + 1, 0, none⟩ = some (.int .i64 0) := HS2.out.res.cell 0
          have r1 : (((W3.setCell ⟨q, 0, none⟩ (.int .i64 (-(x + 1)))).setCell ⟨q, 1, none⟩ (.int .i64 (-(y + 1))))).cell? ⟨w.heap.size + 1, 1, none⟩ = some (.int .i64 0) := HS2.out.res.cell 1
          have r2 : (((W3.setCell ⟨q, 0, none⟩ (.int .i64 (-(x + 1)))).setCell ⟨q, 1, none⟩ (.int .i64 (-(y + 1))))).cell? ⟨w.heap.size + 1, 2, none⟩ = some (.int .i64 0) := HS2.out.res.cell 2
          have r3 : (((W3.setCell ⟨q, 0, none⟩ (.int .i64 (-(x + 1)))).setCell ⟨q, 1, none⟩ (.int .i64 (-(y + 1))))).cell? ⟨w.heap.size + 1, 3, none⟩ = some (.slice none 0 0) := HS2.out.res.cell 3
          have t0 : (((W3.setCell ⟨q, 0, none⟩ (.int .i64 (-(x + 1)))).setCell ⟨q, 1, none⟩ (.int .i64 (-(y + 1))))).frozen? ⟨w.heap.size + 1, 0, none⟩ = false := HS2.out.res.free 0
          have t1 : (((W3.setCell ⟨q, 0, none⟩ (.int .i64 (-(x + 1)))).setCell ⟨q, 1, none⟩ (.int .i64 (-(y + 1))))).frozen? ⟨w.heap.size + 1, 1, none⟩ = false := HS2.out.res.free 1
          have t2 : (((W3.setCell ⟨q, 0, none⟩ (.int .i64 (-(x + 1)))).setCell ⟨q, 1, none⟩ (.int .i64 (-(y + 1))))).frozen? ⟨w.heap.size + 1, 2, none⟩ = false := HS2.out.res.free 2
          have t3 : (((W3.setCell ⟨q, 0, none⟩ (.int .i64 (-(x + 1)))).setCell ⟨q, 1, none⟩ (.int .i64 (-(y + 1))))).frozen? ⟨w.heap.size + 1, 3, none⟩ = false := HS2.out.res.free 3
          obtain ⟨f1, f2, f3⟩ := HS2.out.fin
          have F1 := Lib.hid f1
          have F2 := Lib.hid f2
          have F3 := Lib.hid f3
          clear f1 f2 f3
          go_wp2_with fail
          exact bodyPost_ret (ptEnd _ (w.heap.size + 1) _ _ _ _ _ rfl F1.out) rfl ⟨_, (by rw [absP_neg (x := x) (by omega), absP_neg (x := y) (by omega), absP_pos (x := z) (by omega)]; try rfl), F2, F3⟩
      · by_cases hz0 : z < 0
        · have b00 : (W3).cell? ⟨q, 0, none⟩ = some (.int .i64 (x)) := HS.out.box.cell 0
          have b01 : (W3).cell? ⟨q, 1, none⟩ = some (.int .i64 (y)) := HS.out.box.cell 1
          have b02 : (W3).cell? ⟨q, 2, none⟩ = some (.int .i64 (z)) := HS.out.box.cell 2
          have b03 : (W3).cell? ⟨q, 3, none⟩ = some (.slice Av nv cv) := HS.out.box.cell 3
          have g00 : (W3).frozen? ⟨q, 0, none⟩ = false := HS.out.box.free 0
          have g01 : (W3).frozen? ⟨q, 1, none⟩ = false := HS.out.box.free 1
          have g02 : (W3).frozen? ⟨q, 2, none⟩ = false := HS.out.box.free 2
          obtain ⟨wa1, wb1, wc1⟩ := HWX.out hx0
          have HS1 := Lib.hid (HS.out.put0 (-(x + 1)))
          have b10 : ((W3.setCell ⟨q, 0, none⟩ (.int .i64 (-(x + 1))))).cell? ⟨q, 0, none⟩ = some (.int .i64 (-(x + 1))) := HS1.out.box.cell 0
          have b11 : ((W3.setCell ⟨q, 0, none⟩ (.int .i64 (-(x + 1))))).cell? ⟨q, 1, none⟩ = some (.int .i64 (y)) := HS1.out.box.cell 1
          have b12 : ((W3.setCell ⟨q, 0, none⟩ (.int .i64 (-(x + 1))))).cell? ⟨q, 2, none⟩ = some (.int .i64 (z)) := HS1.out.box.cell 2
          have b13 : ((W3.setCell ⟨q, 0, none⟩ (.int .i64 (-(x + 1))))).cell? ⟨q, 3, none⟩ = some (.slice Av nv cv) := HS1.out.box.cell 3
          have g10 : ((W3.setCell ⟨q, 0, none⟩ (.int .i64 (-(x + 1))))).frozen? ⟨q, 0, none⟩ = false := HS1.out.box.free 0
          have g11 : ((W3.setCell ⟨q, 0, none⟩ (.int .i64 (-(x + 1))))).frozen? ⟨q, 1, none⟩ = false := HS1.out.box.free 1
          have g12 : ((W3.setCell ⟨q, 0, none⟩ (.int .i64 (-(x + 1))))).frozen? ⟨q, 2, none⟩ = false := HS1.out.box.free 2
          obtain ⟨wa2, wb2, wc2⟩ := HWZ.out hz0
          have HS2 := Lib.hid (HS1.out.put2 (-(z + 1)))
          have b20 : (((W3.setCell ⟨q, 0, none⟩ (.int .i64 (-(x + 1)))).setCell ⟨q, 2, none⟩ (.int .i64 (-(z + 1))))).cell? ⟨q, 0, none⟩ = some (.int .i64 (-(x + 1))) := HS2.out.box.cell 0
          have b21 : (((W3.setCell ⟨q, 0, none⟩ (.int .i64 (-(x + 1)))).setCell ⟨q, 2, none⟩ (.int .i64 (-(z + 1))))).cell? ⟨q, 1, none⟩ = some (.int .i64 (y)) := HS2.out.box.cell 1
          have b22 : (((W3.setCell ⟨q, 0, none⟩ (.int .i64 (-(x + 1)))).setCell ⟨q, 2, none⟩ (.int .i64 (-(z + 1))))).cell? ⟨q, 2, none⟩ = some (.int .i64 (-(z + 1))) := HS2.out.box.cell 2
          have b23 : (((W3.setCell ⟨q, 0, none⟩ (.int .i64 (-(x + 1)))).setCell ⟨q, 2, none⟩ (.int .i64 (-(z + 1))))).cell? ⟨q, 3, none⟩ = some (.slice Av nv cv) := HS2.out.box.cell 3
          have g20 : (((W3.setCell ⟨q, 0, none⟩ (.int .i64 (-(x + 1)))).setCell ⟨q, 2, none⟩ (.int .i64 (-(z + 1))))).frozen? ⟨q, 0, none⟩ = false := HS2.out.box.free 0
          have g21 : (((W3.setCell ⟨q, 0, none⟩ (.int .i64 (-(x + 1)))).setCell ⟨q, 2, none⟩ (.int .i64 (-(z + 1))))).frozen? ⟨q, 1, none⟩ = false := HS2.out.box.free 1
          have g22 : (((W3.setCell ⟨q, 0, none⟩ (.int .i64 (-(x + 1)))).setCell ⟨q, 2, none⟩ (.int .i64 (-(z + 1))))).frozen? ⟨q, 2, none⟩ = false := HS2.out.box.free 2
          have r0 : (((W3.setCell ⟨q, 0, none⟩ (.int .i64 (-(x + 1)))).setCell ⟨q, 2, none⟩ (.int .i64 (-(z + 1))))).cell? ⟨w.heap.size + 1, 0, none⟩ = some (.int .i64 0) := HS2.out.res.cell 0
          have r1 : (((W3.setCell ⟨q, 0, none⟩ (.int .i64 (-(x + 1)))).setCell ⟨q, 2, none⟩ (.int .i64 (-(z + 1))))).cell? ⟨w.heap.size + 1, 1, none⟩ = some (.int .i64 0) := HS2.out.res.cell 1
          have r2 : (((W3.setCell ⟨q, 0, none⟩ (.int .i64 (-(x + 1)))).setCell ⟨q, 2, none⟩ (.int .i64 (-(z + 1))))).cell? ⟨w.heap.size + 1, 2, none⟩ = some (.int .i64 0) := HS2.out.res.cell 2
          have r3 : (((W3.setCell ⟨q, 0, none⟩ (.int .i64 (-(x + 1)))).setCell ⟨q, 2, none⟩ (.int .i64 (-(z + 1))))).cell? ⟨w.heap.size + 1, 3, none⟩ = some (.slice none 0 0) := HS2.out.res.cell 3
          have t0 : (((W3.setCell ⟨q, 0, none⟩ (.int .i64 (-(x + 1)))).setCell ⟨q, 2, none⟩ (.int .i64 (-(z + 1))))).frozen? ⟨w.heap.size + 1, 0, none⟩ = false := HS2.out.res.free 0
          have t1 : (((W3.setCell ⟨q, 0, none⟩ (.int .i64 (-(x + 1)))).setCell ⟨q, 2, none⟩ (.int .i64 (-(z + 1))))).frozen? ⟨w.heap.size + 1, 1, none⟩ = false := HS2.out.res.free 1
          have t2 : (((W3.setCell ⟨q, 0, none⟩ (.int .i64 (-(x + 1)))).setCell ⟨q, 2, none⟩ (.int .i64 (-(z + 1))))).frozen? ⟨w.heap.size + 1, 2, none⟩ = false := HS2.out.res.free 2
          have t3 : (((W3.setCell ⟨q, 0, none⟩ (.int .i64 (-(x + 1)))).setCell ⟨q, 2, none⟩ (.int .i64 (-(z + 1))))).frozen? ⟨w.heap.size + 1, 3, none⟩ = false := HS2.out.res.free 3
          obtain ⟨f1, f2, f3⟩ := HS2.out.fin
          have F1 := Lib.hid f1
          have F2 := Lib.hid f2
          have F3 := Lib.hid f3
          clear f1 f2 f3
          go_wp2_with fail
          exact bodyPost_ret (ptEnd _ (w.heap.size + 1) _ _ _ _ _ rfl F1.out) rfl ⟨_, (by rw [absP_neg (x := x) (by omega), absP_pos (x := y) (by omega), absP_neg (x := z) (by omega)]; try rfl), F2, F3⟩
        · have b00 : (W3).cell? ⟨q, 0, none⟩ = some (.int .i64 (x)) := HS.out.box.cell 0
          have b01 : (W3).cell? ⟨q, 1, none⟩ = some (.int .i64 (y)) := HS.out.box.cell 1
          have b02 : (W3).cell? ⟨q, 2, none⟩ = some (.int .i64 (z)) := HS.out.box.cell 2
          have b03 : (W3).cell? ⟨q, 3, none⟩ = some (.slice Av nv cv) := HS.out.box.cell 3
          have g00 : (W3).frozen? ⟨q, 0, none⟩ = false := HS.out.box.free 0
          have g01 : (W3).frozen? ⟨q, 1, none⟩ = false := HS.out.box.free 1
          have g02 : (W3).frozen? ⟨q, 2, none⟩ = false := HS.out.box.free 2
          obtain ⟨wa1, wb1, wc1⟩ := HWX.out hx0
          have HS1 := Lib.hid (HS.out.put0 (-(x + 1)))
          have b10 : ((W3.setCell ⟨q, 0, none⟩ (.int .i64 (-(x + 1))))).cell? ⟨q, 0, none⟩ = some (.int .i64 (-(x + 1))) := HS1.out.box.cell 0
          have b11 : ((W3.setCell ⟨q, 0, none⟩ (.int .i64 (-(x + 1))))).cell? ⟨q, 1, none⟩ = some (.int .i64 (y)) := HS1.out.box.cell 1
          have b12 : ((W3.setCell ⟨q, 0, none⟩ (.int .i64 (-(x + 1))))).cell? ⟨q, 2, none⟩ = some (.int .i64 (z)) := HS1.out.box.cell 2
          have b13 : ((W3.setCell ⟨q, 0, none⟩ (.int .i64 (-(x + 1))))).cell? ⟨q, 3, none⟩ = some (.slice Av nv cv) := HS1.out.box.cell 3
          have g10 : ((W3.setCell ⟨q, 0, none⟩ (.int .i64 (-(x + 1))))).frozen? ⟨q, 0, none⟩ = false := HS1.out.box.free 0
          have g11 : ((W3.setCell ⟨q, 0, none⟩ (.int .i64 (-(x + 1))))).frozen? ⟨q, 1, none⟩ = false := HS1.out.box.free 1
          have g12 : ((W3.setCell ⟨q, 0, none⟩ (.int .i64 (-(x + 1))))).frozen? ⟨q, 2, none⟩ = false := HS1.out.box.free 2
          have r0 : ((W3.setCell ⟨q, 0, none⟩ (.int .i64 (-(x + 1))))).cell? ⟨w.heap.size + 1, 0, none⟩ = some (.int .i64 0) := HS1.out.res.cell 0
          have r1 : ((W3.setCell ⟨q, 0, none⟩ (.int .i64 (-(x + 1))))).cell? ⟨w.heap.size + 1, 1, none⟩ = some (.int .i64 0) := HS1.out.res.cell 1
          have r2 : ((W3.setCell ⟨q, 0, none⟩ (.int .i64 (-(x + 1))))).cell? ⟨w.heap.size + 1, 2, none⟩ = some (.int .i64 0) := HS1.out.res.cell 2
          have r3 : ((W3.setCell ⟨q, 0, none⟩ (.int .i64 (-(x + 1))))).cell? ⟨w.heap.size + 1, 3, none⟩ = some (.slice none 0 0) := HS1.out.res.cell 3
          have t0 : ((W3.setCell ⟨q, 0, none⟩ (.int .i64 (-(x + 1))))).frozen? ⟨w.heap.size + 1, 0, none⟩ = false := HS1.out.res.free 0
          have t1 : ((W3.setCell ⟨q, 0, none⟩ (.int .i64 (-(x + 1))))).frozen? ⟨w.heap.size + 1, 1, none⟩ = false := HS1.out.res.free 1
          have t2 : ((W3.setCell ⟨q, 0, none⟩ (.int .i64 (-(x + 1))))).frozen? ⟨w.heap.size + 1, 2, none⟩ = false := HS1.out.res.free 2
          have t3 : ((W3.setCell ⟨q, 0, none⟩ (.int .i64 (-(x + 1))))).frozen? ⟨w.heap.size + 1, 3, none⟩ = false := HS1.out.res.free 3
          obtain ⟨f1, f2, f3⟩ := HS1.out.fin
          have F1 := Lib.hid f1
          have F2 := Lib.hid f2
          have F3 := Lib.hid f3
          clear f1 f2 f3
          go_wp2_with fail
          exact bodyPost_ret (ptEnd _ (w.heap.size + 1) _ _ _ _ _ rfl F1.out) rfl ⟨_, (by rw [absP_neg (x := x) (by omega), absP_pos (x := y) (by omega), absP_pos (x := z) (by omega)]; try rfl), F2, F3⟩
    · by_cases hy0 : y < 0
      · by_cases hz0 : z < 0
        · have b00 : (W3).cell? ⟨q, 0, none⟩ = some (.int .i64 (x)) := HS.out.box.cell 0
          have b01 : (W3).cell? ⟨q, 1, none⟩ = some (.int .i64 (y)) := HS.out.box.cell 1
          have b02 : (W3).cell? ⟨q, 2, none⟩ = some (.int .i64 (z)) := HS.out.box.cell 2
          have b03 : (W3).cell? ⟨q, 3, none⟩ = some (.slice Av nv cv) := HS.out.box.cell 3
          have g00 : (W3).frozen? ⟨q, 0, none⟩ = false := HS.out.box.free 0
          have g01 : (W3).frozen? ⟨q, 1, none⟩ = false := HS.out.box.free 1
          have g02 : (W3).frozen? ⟨q, 2, none⟩ = false := HS.out.box.free 2
          obtain ⟨wa1, wb1, wc1⟩ := HWY.out hy0
          have HS1 := Lib.hid (HS.out.put1 (-(y + 1)))
          have b10 : ((W3.setCell ⟨q, 1, none⟩ (.int .i64 (-(y + 1))))).cell? ⟨q, 0, none⟩ = some (.int .i64 (x)) := HS1.out.box.cell 0
          have b11 : ((W3.setCell ⟨q, 1, none⟩ (.int .i64 (-(y + 1))))).cell? ⟨q, 1, none⟩ = some (.int .i64 (-(y + 1))) := HS1.out.box.cell 1
          have b12 : ((W3.setCell ⟨q, 1, none⟩ (.int .i64 (-(y + 1))))).cell? ⟨q, 2, none⟩ = some (.int .i64 (z)) := HS1.out.box.cell 2
          have b13 : ((W3.setCell ⟨q, 1, none⟩ (.int .i64 (-(y + 1))))).cell? ⟨q, 3, none⟩ = some (.slice Av nv cv) := HS1.out.box.cell 3
          have g10 : ((W3.setCell ⟨q, 1, none⟩ (.int .i64 (-(y + 1))))).frozen? ⟨q, 0, none⟩ = false := HS1.out.box.free 0
          have g11 : ((W3.setCell ⟨q, 1, none⟩ (.int .i64 (-(y + 1))))).frozen? ⟨q, 1, none⟩ = false := HS1.out.box.free 1
          have g12 : ((W3.setCell ⟨q, 1, none⟩ (.int .i64 (-(y + 1))))).frozen? ⟨q, 2, none⟩ = false := HS1.out.box.free 2
          obtain ⟨wa2, wb2, wc2⟩ := HWZ.out hz0
          have HS2 := Lib.hid (HS1.out.put2 (-(z + 1)))
          have b20 : (((W3.setCell ⟨q, 1, none⟩ (.int .i64 (-(y + 1)))).setCell ⟨q, 2, none⟩ (.int .i64 (-(z + 1))))).cell? ⟨q, 0, none⟩ = some (.int .i64 (x)) := HS2.out.box.cell 0
          have b21 : (((W3.setCell ⟨q, 1, none⟩ (.int .i64 (-(y + 1)))).setCell ⟨q, 2, none⟩ (.int .i64 (-(z + 1))))).cell? ⟨q, 1, none⟩ = some (.int .i64 (-(y + 1))) := HS2.out.box.cell 1
          have b22 : (((W3.setCell ⟨q, 1, none⟩ (.int .i64 (-(y + 1)))).setCell ⟨q, 2, none⟩ (.int .i64 (-(z + 1))))).cell? ⟨q, 2, none⟩ = some (.int .i64 (-(z + 1))) := HS2.out.box.cell 2
          have b23 : (((W3.setCell ⟨q, 1, none⟩ (.int .i64 (-(y + 1)))).setCell ⟨q, 2, none⟩ (.int .i64 (-(z + 1))))).cell? ⟨q, 3, none⟩ = some (.slice Av nv cv) := HS2.out.box.cell 3
          have g20 : (((W3.setCell ⟨q, 1, none⟩ (.int .i64 (-(y + 1)))).setCell ⟨q, 2, none⟩ (.int .i64 (-(z + 1))))).frozen? ⟨q, 0, none⟩ = false := HS2.out.box.free 0
          have g21 : (((W3.setCell ⟨q, 1, none⟩ (.int .i64 (-(y + 1)))).setCell ⟨q, 2, none⟩ (.int .i64 (-(z + 1))))).frozen? ⟨q, 1, none⟩ = false := HS2.out.box.free 1
          have g22 : (((W3.setCell ⟨q, 1, none⟩ (.int .i64 (-(y + 1)))).setCell ⟨q, 2, none⟩ (.int .i64 (-(z + 1))))).frozen? ⟨q, 2, none⟩ = false := HS2.out.box.free 2
          have r0 : (((W3.setCell ⟨q, 1, none⟩ (.int .i64 (-(y + 1)))).setCell ⟨q, 2, none⟩ (.int .i64 (-(z + 1))))).cell? ⟨w.heap.size + 1, 0, none⟩ = some (.int .i64 0) := HS2.out.res.cell 0
          have r1 : (((W3.setCell ⟨q, 1, none⟩ (.int .i64 (-(y + 1)))).setCell ⟨q, 2, none⟩ (.int .i64 (-(z + 1))))).cell? ⟨w.heap.size + 1, 1, none⟩ = some (.int .i64 0) := HS2.out.res.cell 1
          have r2 : (((W3.setCell ⟨q, 1, none⟩ (.int .i64 (-(y + 1)))).setCell ⟨q, 2, none⟩ (.int .i64 (-(z + 1))))).cell? ⟨w.heap.size + 1, 2, none⟩ = some (.int .i64 0) := HS2.out.res.cell 2
          have r3 : (((W3.setCell ⟨q, 1, none⟩ (.int .i64 (-(y + 1)))).setCell ⟨q, 2, none⟩ (.int .i64 (-(z + 1))))).cell? ⟨w.heap.size + 1, 3, none⟩ = some (.slice none 0 0) := HS2.out.res.cell 3
          have t0 : (((W3.setCell ⟨q, 1, none⟩ (.int .i64 (-(y + 1)))).setCell ⟨q, 2, none⟩ (.int .i64 (-(z + 1))))).frozen? ⟨w.heap.size + 1, 0, none⟩ = false := HS2.out.res.free 0
          have t1 : (((W3.setCell ⟨q, 1, none⟩ (.int .i64 (-(y + 1)))).setCell ⟨q, 2, none⟩ (.int .i64 (-(z + 1))))).frozen? ⟨w.heap.size + 1, 1, none⟩ = false := HS2.out.res.free 1
          have t2 : (((W3.setCell ⟨q, 1, none⟩ (.int .i64 (-(y + 1)))).setCell ⟨q, 2, none⟩ (.int .i64 (-(z + 1))))).frozen? ⟨w.heap.size + 1, 2, none⟩ = false := HS2.out.res.free 2
          have t3 : (((W3.setCell ⟨q, 1, none⟩ (.int .i64 (-(y + 1)))).setCell ⟨q, 2, none⟩ (.int .i64 (-(z + 1))))).frozen? ⟨w.heap.size + 1, 3, none⟩ = false := HS2.out.res.free 3
          obtain ⟨f1, f2, f3⟩ := HS2.out.fin
          have F1 := Lib.hid f1
          have F2 := Lib.hid f2
          have F3 := Lib.hid f3
          clear f1 f2 f3
          go_wp2_with fail
          exact bodyPost_ret (ptEnd _ (w.heap.size + 1) _ _ _ _ _ rfl F1.out) rfl ⟨_, (by rw [absP_pos (x := x) (by omega), absP_neg (x := y) (by omega), absP_neg (x := z) (by omega)]; try rfl), F2, F3⟩
        · have b00 : (W3).cell? ⟨q, 0, none⟩ = some (.int .i64 (x)) := HS.out.box.cell 0
          have b01 : (W3).cell? ⟨q, 1, none⟩ = some (.int .i64 (y)) := HS.out.box.cell 1
          have b02 : (W3).cell? ⟨q, 2, none⟩ = some (.int .i64 (z)) := HS.out.box.cell 2
          have b03 : (W3).cell? ⟨q, 3, none⟩ = some (.slice Av nv cv) := HS.out.box.cell 3
          have g00 : (W3).frozen? ⟨q, 0, none⟩ = false := HS.out.box.free 0
          have g01 : (W3).frozen? ⟨q, 1, none⟩ = false := HS.out.box.free 1
          have g02 : (W3).frozen? ⟨q, 2, none⟩ = false := HS.out.box.free 2
          obtain ⟨wa1, wb1, wc1⟩ := HWY.out hy0
          have HS1 := Lib.hid (HS.out.put1 (-(y + 1)))
          have b10 : ((W3.setCell ⟨q, 1, none⟩ (.int .i64 (-(y + 1))))).cell? ⟨q, 0, none⟩ = some (.int .i64 (x)) := HS1.out.box.cell 0
          have b11 : ((W3.setCell ⟨q, 1, none⟩ (.int .i64 (-(y + 1))))).cell? ⟨q, 1, none⟩ = some (.int .i64 (-(y + 1))) := HS1.out.box.cell 1
          have b12 : ((W3.setCell ⟨q, 1, none⟩ (.int .i64 (-(y + 1))))).cell? ⟨q, 2, none⟩ = some (.int .i64 (z)) := HS1.out.box.cell 2
          have b13 : ((W3.setCell ⟨q, 1, none⟩ (.int .i64 (-(y + 1))))).cell? ⟨q, 3, none⟩ = some (.slice Av nv cv) := HS1.out.box.cell 3
          have g10 : ((W3.setCell ⟨q, 1, none⟩ (.int .i64 (-(y + 1))))).frozen? ⟨q, 0, none⟩ = false := HS1.out.box.free 0
          have g11 : ((W3.setCell ⟨q, 1, none⟩ (.int .i64 (-(y + 1))))).frozen? ⟨q, 1, none⟩ = false := HS1.out.box.free 1
          have g12 : ((W3.setCell ⟨q, 1, none⟩ (.int .i64 (-(y + 1))))).frozen? ⟨q, 2, none⟩ = false := HS1.out.box.free 2
          have r0 : ((W3.setCell ⟨q, 1, none⟩ (.int .i64 (-(y + 1))))).cell? ⟨w.heap.size + 1, 0, none⟩ = some (.int .i64 0) := HS1.out.res.cell 0
          have r1 : ((W3.setCell ⟨q, 1, none⟩ (.int .i64 (-(y + 1))))).cell? ⟨w.heap.size + 1, 1, none⟩ = some (.int .i64 0) := HS1.out.res.cell 1
          have r2 : ((W3.setCell ⟨q, 1, none⟩ (.int .i64 (-(y + 1))))).cell? ⟨w.heap.size + 1, 2, none⟩ = some (.int .i64 0) := HS1.out.res.cell 2
          have r3 : ((W3.setCell ⟨q, 1, none⟩ (.int .i64 (-(y + 1))))).cell? ⟨w.heap.size + 1, 3, none⟩ = some (.slice none 0 0) := HS1.out.res.cell 3
          have t0 : ((W3.setCell ⟨q, 1, none⟩ (.int .i64 (-(y + 1))))).frozen? ⟨w.heap.size + 1, 0, none⟩ = false := HS1.out.res.free 0
          have t1 : ((W3.setCell ⟨q, 1, none⟩ (.int .i64 (-(y + 1))))).frozen? ⟨w.heap.size + 1, 1, none⟩ = false := HS1.out.res.free 1
          have t2 : ((W3.setCell ⟨q, 1, none⟩ (.int .i64 (-(y + 1))))).frozen? ⟨w.heap.size + 1, 2, none⟩ = false := HS1.out.res.free 2
          have t3 : ((W3.setCell ⟨q, 1, none⟩ (.int .i64 (-(y + 1))))).frozen? ⟨w.heap.size + 1, 3, none⟩ = false := HS1.out.res.free 3
          obtain ⟨f1, f2, f3⟩ := HS1.out.fin
          have F1 := Lib.hid f1
          have F2 := Lib.hid f2
          have F3 := Lib.hid f3
          clear f1 f2 f3
          go_wp2_with fail
          exact bodyPost_ret (ptEnd _ (w.heap.size + 1) _ _ _ _ _ rfl F1.out) rfl ⟨_, (by rw [absP_pos (x := x) (by omega), absP_neg (x := y) (by omega), absP_pos (x := z) (by omega)]; try rfl), F2, F3⟩
      · by_cases hz0 : z < 0
        · have b00 : (W3).cell? ⟨q, 0, none⟩ = some (.int .i64 (x)) := HS.out.box.cell 0
          have b01 : (W3).cell? ⟨q, 1, none⟩ = some (.int .i64 (y)) := HS.out.box.cell 1
          have b02 : (W3).cell? ⟨q, 2, none⟩ = some (.int .i64 (z)) := HS.out.box.cell 2
          have b03 : (W3).cell? ⟨q, 3, none⟩ = some (.slice Av nv cv) := HS.out.box.cell 3
          have g00 : (W3).frozen? ⟨q, 0, none⟩ = false := HS.out.box.free 0
          have g01 : (W3).frozen? ⟨q, 1, none⟩ = false := HS.out.box.free 1
          have g02 : (W3).frozen? ⟨q, 2, none⟩ = false := HS.out.box.free 2
          obtain ⟨wa1, wb1, wc1⟩ := HWZ.out hz0
          have HS1 := Lib.hid (HS.out.put2 (-(z + 1)))
          have b10 : ((W3.setCell ⟨q, 2, none⟩ (.int .i64 (-(z + 1))))).cell? ⟨q, 0, none⟩ = some (.int .i64 (x)) := HS1.out.box.cell 0
          have b11 : ((W3.setCell ⟨q, 2, none⟩ (.int .i64 (-(z + 1))))).cell? ⟨q, 1, none⟩ = some (.int .i64 (y)) := HS1.out.box.cell 1
          have b12 : ((W3.setCell ⟨q, 2, none⟩ (.int .i64 (-(z + 1))))).cell? ⟨q, 2, none⟩ = some (.int .i64 (-(z + 1))) := HS1.out.box.cell 2
          have b13 : ((W3.setCell ⟨q, 2, none⟩ (.int .i64 (-(z + 1))))).cell? ⟨q, 3, none⟩ = some (.slice Av nv cv) := HS1.out.box.cell 3
          have g10 : ((W3.setCell ⟨q, 2, none⟩ (.int .i64 (-(z + 1))))).frozen? ⟨q, 0, none⟩ = false := HS1.out.box.free 0
          have g11 : ((W3.setCell ⟨q, 2, none⟩ (.int .i64 (-(z + 1))))).frozen? ⟨q, 1, none⟩ = false := HS1.out.box.free 1
          have g12 : ((W3.setCell ⟨q, 2, none⟩ (.int .i64 (-(z + 1))))).frozen? ⟨q, 2, none⟩ = false := HS1.out.box.free 2
          have r0 : ((W3.setCell ⟨q, 2, none⟩ (.int .i64 (-(z + 1))))).cell? ⟨w.heap.size + 1, 0, none⟩ = some (.int .i64 0) := HS1.out.res.cell 0
          have r1 : ((W3.setCell ⟨q, 2, none⟩ (.int .i64 (-(z + 1))))).cell? ⟨w.heap.size + 1, 1, none⟩ = some (.int .i64 0) := HS1.out.res.cell 1
          have r2 : ((W3.setCell ⟨q, 2, none⟩ (.int .i64 (-(z + 1))))).cell? ⟨w.heap.size + 1, 2, none⟩ = some (.int .i64 0) := HS1.out.res.cell 2
          have r3 : ((W3.setCell ⟨q, 2, none⟩ (.int .i64 (-(z + 1))))).cell? ⟨w.heap.size + 1, 3, none⟩ = some (.slice none 0 0) := HS1.out.res.cell 3
          have t0 : ((W3.setCell ⟨q, 2, none⟩ (.int .i64 (-(z + 1))))).frozen? ⟨w.heap.size + 1, 0, none⟩ = false := HS1.out.res.free 0
          have t1 : ((W3.setCell ⟨q, 2, none⟩ (.int .i64 (-(z + 1))))).frozen? ⟨w.heap.size + 1, 1, none⟩ = false := HS1.out.res.free 1
          have t2 : ((W3.setCell ⟨q, 2, none⟩ (.int .i64 (-(z + 1))))).frozen? ⟨w.heap.size + 1, 2, none⟩ = false := HS1.out.res.free 2
          have t3 : ((W3.setCell ⟨q, 2, none⟩ (.int .i64 (-(z + 1))))).frozen? ⟨w.heap.size + 1, 3, none⟩ = false := HS1.out.res.free 3
          obtain ⟨f1, f2, f3⟩ := HS1.out.fin
          have F1 := Lib.hid f1
          have F2 := Lib.hid f2
          have F3 := Lib.hid f3
          clear f1 f2 f3
          go_wp2_with fail
          exact bodyPost_ret (ptEnd _ (w.heap.size + 1) _ _ _ _ _ rfl F1.out) rfl ⟨_, (by rw [absP_pos (x := x) (by omega), absP_pos (x := y) (by omega), absP_neg (x := z) (by omega)]; try rfl), F2, F3⟩
        · have b00 : (W3).cell? ⟨q, 0, none⟩ = some (.int .i64 (x)) := HS.out.box.cell 0
          have b01 : (W3).cell? ⟨q, 1, none⟩ = some (.int .i64 (y)) := HS.out.box.cell 1
          have b02 : (W3).cell? ⟨q, 2, none⟩ = some (.int .i64 (z)) := HS.out.box.cell 2
          have b03 : (W3).cell? ⟨q, 3, none⟩ = some (.slice Av nv cv) := HS.out.box.cell 3
          have g00 : (W3).frozen? ⟨q, 0, none⟩ = false := HS.out.box.free 0
          have g01 : (W3).frozen? ⟨q, 1, none⟩ = false := HS.out.box.free 1
          have g02 : (W3).frozen? ⟨q, 2, none⟩ = false := HS.out.box.free 2
          have r0 : (W3).cell? ⟨w.heap.size + 1, 0, none⟩ = some (.int .i64 0) := HS.out.res.cell 0
          have r1 : (W3).cell? ⟨w.heap.size + 1, 1, none⟩ = some (.int .i64 0) := HS.out.res.cell 1
          have r2 : (W3).cell? ⟨w.heap.size + 1, 2, none⟩ = some (.int .i64 0) := HS.out.res.cell 2
          have r3 : (W3).cell? ⟨w.heap.size + 1, 3, none⟩ = some (.slice none 0 0) := HS.out.res.cell 3
          have t0 : (W3).frozen? ⟨w.heap.size + 1, 0, none⟩ = false := HS.out.res.free 0
          have t1 : (W3).frozen? ⟨w.heap.size + 1, 1, none⟩ = false := HS.out.res.free 1
          have t2 : (W3).frozen? ⟨w.heap.size + 1, 2, none⟩ = false := HS.out.res.free 2
          have t3 : (W3).frozen? ⟨w.heap.size + 1, 3, none⟩ = false := HS.out.res.free 3
          obtain ⟨f1, f2, f3⟩ := HS.out.fin
          have F1 := Lib.hid f1
          have F2 := Lib.hid f2
          have F3 := Lib.hid f3
          clear f1 f2 f3
          go_wp2_with fail
          exact bodyPost_ret (ptEnd _ (w.heap.size + 1) _ _ _ _ _ rfl F1.out) rfl ⟨_, (by rw [absP_pos (x := x) (by omega), absP_pos (x := y) (by omega), absP_pos (x := z) (by omega)]; try rfl), F2, F3⟩
end Go.Proofs.YtlhfdhmmdnkojaaGreatDoor
namespace Go.Proofs.YtlhfdhmmdnkojaaGreatDoor
open Go.RowKit Dg
/-- The first column of that name; as many as there are, if there is none. -/
def findN (L : List Cl) (s : ByteArray) : Nat := L.findIdx fun c => c.nm.toList == s.toList
def findI (L : List Cl) (s : ByteArray) : Int := if findN L s < L.length then (findN L s : Int) else -1
theorem findN_at {L : List Cl} {s : ByteArray} {k : Nat} (h : k < L.length) (he : (L[k].nm.toList == s.toList) = true) (hb : ∀ j (hj : j < k), (L[j].nm.toList == s.toList) = false) : findN L s = k := by
  unfold findN
  rw [List.findIdx_eq h]
  exact ⟨he, fun j hj => hb j hj⟩
theorem findI_at {L : List Cl} {s : ByteArray} {k : Nat} (h : k < L.length) (he : (L[k].nm.toList == s.toList) = true) (hb : ∀ j (hj : j < k), (L[j].nm.toList == s.toList) = false) : findI L s = k := by
  unfold findI; rw [findN_at h he hb, if_pos h]
theorem findI_none {L : List Cl} {s : ByteArray} (hb : ∀ j (hj : j < L.length), (L[j].nm.toList == s.toList) = false) : findI L s = -1 := by
  unfold findI
  rw [if_neg]
  unfold findN
  have : L.findIdx (fun c => c.nm.toList == s.toList) = L.length := List.findIdx_eq_length.2 fun x hx => by
    obtain ⟨j, hj, rfl⟩ := List.getElem_of_mem hx
    exact hb j hj
  omega
/-- Is a kind one of a column? -/
def kindF (k : Int) : Bool := decide (1 ≤ k) && decide (k ≤ 4)
set_option maxHeartbeats 2000000 in
set_option maxRecDepth 100000 in
theorem refFind_any (A : Option Addr) (L : List Cl) (n c : Nat) (K : Int) (s : ByteArray) (w : World) (hn : L.length = n) (hl : n ≤ 1000) (hA : CRow w A L) :
    Calls Tryz.prog 97 #[.agg #[.slice A n c, .int .i64 K], .string s] w fun e w' => e = .returned (.int .i64 (findI L s)) ∧ Hid (Below w.heap.size w w') := by
  have HN := Lib.hid hn
  have HA := Lib.hid hA
  have HB := Lib.hid ((Below.refl w.heap.size w).alloc (Nat.le_refl _) (.cells #[.slice A n c, .int .i64 K] 27))
  clear hn hA
  go_enter Tryz.func97, Tryz.ntmps97
  go_wp2_with fail
  go_loopw [5] (fun i wr => ∃ k : Nat, k ≤ n ∧ i = .int .i64 k ∧ Hid (∀ j (hj : j < k) (hj2 : j < L.length), (L[j].nm.toList == s.toList) = false) ∧ wr = w.alloc (.cells #[.slice A n c, .int .i64 K] 27)) (fun i _ => n - (intOf i).toNat)
  case atStart => exact ⟨0, by omega, rfl, (fun j hj => absurd hj (by omega)), rfl⟩
  case round =>
    obtain ⟨k, hk, rfl, HF, rfl⟩ := hrel
    by_cases hlt : k < n
    · have hkl : k < L.length := by rw [HN.out]; exact hlt
      obtain ⟨b, off, rfl, hc⟩ := (HA.out.below HB.out) (by intro e; rw [e] at hkl; simp at hkl)
      obtain ⟨c0, c1, c2⟩ := hc k hkl
      have HAT := Lib.hid (fun he => findI_at (s := s) hkl he (fun j hj => HF.out j hj (by omega)))
      have HNX : Hid ((L[k].nm.toList == s.toList) = false → ∀ j (hj : j < k + 1) (hj2 : j < L.length), (L[j].nm.toList == s.toList) = false) := fun he j hj hj2 => by
        by_cases e : j = k
        · subst e; exact he
        · exact HF.out j (by omega) hj2
      clear hc c1 c2
      generalize L[k].nm = xa at *
      cases q : (xa.toList == s.toList)
      · go_wp2_with fail
        go_roundw
        case rel => exact ⟨k + 1, by omega, by go_num, HNX.out q, by trivial⟩
        case measure => simp [intOf]; omega
      · go_wp2_with fail
        go_ret
        exact ⟨by rw [HAT.out q]; rfl, HB⟩
    · obtain rfl : k = n := by omega
      have HF2 := Lib.hid (findI_none (L := L) (s := s) (fun j hj => HF.out j (by rw [← HN.out]; exact hj) hj))
      go_wp2_with fail
      go_ret
      exact ⟨by rw [HF2.out]; rfl, HB⟩
end Go.Proofs.YtlhfdhmmdnkojaaGreatDoor
namespace Go.Proofs.YtlhfdhmmdnkojaaGreatDoor
open Go.RowKit Dg
/-- May the column at place i of a schema be? -/
def colOk (L : List Cl) (K : Int) (i : Nat) : Bool := match L[i]? with
  | some c => nameF c.nm && (findI L c.nm == (i : Int)) && kindF c.k && !(c.no && decide ((i : Int) < K))
  | none => true
def colsTo (L : List Cl) (K : Int) (k : Nat) : Bool := (List.range k).all fun i => colOk L K i
theorem colsTo_succ (L : List Cl) (K : Int) (k : Nat) : colsTo L K (k + 1) = (colsTo L K k && colOk L K k) := by
  unfold colsTo; rw [List.range_succ, List.all_append]; simp
theorem colsTo_false (L : List Cl) (K : Int) (k n : Nat) (hk : k < n) (h : colOk L K k = false) : colsTo L K n = false := by
  unfold colsTo; rw [List.all_eq_false]
  exact ⟨k, List.mem_range.2 hk, by simp [h]⟩
theorem colOk_at (L : List Cl) (K : Int) (k : Nat) (h : k < L.length) : colOk L K k = (nameF L[k].nm && (findI L L[k].nm == (k : Int)) && kindF L[k].k && !(L[k].no && decide ((k : Int) < K))) := by
  unfold colOk; rw [List.getElem?_eq_getElem h]
def smayF (L : List Cl) (K : Int) : Bool := decide (1 ≤ L.length) && decide (L.length ≤ 16) && decide (1 ≤ K) && decide (K ≤ 4) && decide (K ≤ L.length) && colsTo L K L.length
theorem smayF_yes {L : List Cl} {K : Int} (h0 : 1 ≤ L.length) (h1 : L.length ≤ 16) (h2 : 1 ≤ K) (h3 : K ≤ 4) (h4 : K ≤ L.length) : smayF L K = colsTo L K L.length := by
  unfold smayF; simp [h0, h1, h2, h3, h4]
theorem smayF_no {L : List Cl} {K : Int} (h : ¬ (1 ≤ L.length ∧ L.length ≤ 16 ∧ 1 ≤ K ∧ K ≤ 4 ∧ K ≤ L.length)) : smayF L K = false := by
  cases e : smayF L K
  · rfl
  · unfold smayF at e; simp at e; omega
theorem findI_early {L : List Cl} {s : ByteArray} {j k : Nat} (hjk : j < k) (hk : k < L.length) (he : (L[j].nm.toList == s.toList) = true) : (findI L s == (k : Int)) = false := by
  have h : findN L s ≤ j := by
    by_cases hh : findN L s ≤ j
    · exact hh
    · have := List.not_of_lt_findIdx (p := fun c : Cl => c.nm.toList == s.toList) (xs := L) (i := j) (by unfold findN at hh; omega)
      rw [he] at this; cases this
  unfold findI
  split
  · simp; omega
  · simp
end Go.Proofs.YtlhfdhmmdnkojaaGreatDoor
namespace Go.Proofs.YtlhfdhmmdnkojaaGreatDoor
open Go.RowKit Dg
theorem cflat_set (L : List Cl) (i j : Nat) (u : Value) (x : Cl) (hi : i < L.length) (hj : j < 3) (hx : x.cells = L[i].cells.set j u) : (L.flatMap Cl.cells).set (i * 3 + j) u = (L.set i x).flatMap Cl.cells := by
  induction L generalizing i with
  | nil => simp at hi
  | cons y L ih =>
    rcases i with _ | i
    · simp only [List.getElem_cons_zero] at hx
      rw [List.flatMap_cons, List.set_cons_zero, List.flatMap_cons, hx, Nat.zero_mul, Nat.zero_add]
      rw [List.set_append_left _ _ (by simp [Cl.cells]; omega)]
    · simp only [List.getElem_cons_succ] at hx
      rw [List.flatMap_cons, List.set_cons_succ, List.flatMap_cons, ← ih i (by simpa using hi) hx]
      rw [List.set_append_right _ _ (by simp [Cl.cells]; omega)]
      have e : (i + 1) * 3 + j - y.cells.length = i * 3 + j := by simp [Cl.cells]; omega
      rw [e]
theorem ownC_put {B : Nat} {w : World} {v : Value} {L : List Cl} (h : OwnC B w v L) (i : Nat) (hi : i < L.length) (j : Nat) (hj : j < 3) (u : Value) (x : Cl) (hx : x.cells = L[i].cells.set j u) :
    ∃ g c, v = .slice (some ⟨g, 0, none⟩) L.length c ∧ B ≤ g ∧ L.length ≤ c ∧ w.frozen? ⟨g, i * 3 + j, none⟩ = false ∧ w.cell? ⟨g, i * 3 + j, none⟩ = L[i].cells[j]? ∧ OwnC B (w.setCell ⟨g, i * 3 + j, none⟩ u) v (L.set i x) := by
  rcases h.2 with ⟨hv, hn⟩ | ⟨g, cap, cur, hv, hg, hh, hc, hcm, hsz, ht⟩
  · omega
  · refine ⟨g, cap, hv, hg, hc, Has.free (t := 29) (cs := cur) hh _, ?_, ?_⟩
    · rw [Has.cell (t := 29) (cs := cur) hh, ← cflat_get L i j hi hj, ← ht, List.getElem?_take, if_pos (by omega)]
      simp
    · refine ⟨by rw [cflat_len], .inr ⟨g, cap, cur.setIfInBounds (i * 3 + j) u, by rw [List.length_set]; exact hv, hg, Has.put (t := 29) (cs := cur) hh (i * 3 + j) u, by rw [List.length_set]; exact hc, hcm, by simpa using hsz, ?_⟩⟩
      rw [List.length_set, ← cflat_set L i j u x hi hj hx, ← ht, Array.toList_setIfInBounds, List.take_set]
theorem findI_lt0 (L : List Cl) (s : ByteArray) : findI L s < L.length := by
  unfold findI; split <;> omega
/-! ### what Good comes to -/
def pool (i : Nat) : ByteArray := if i = 0 then ⟨#[105, 100]⟩ else if i = 1 then ⟨#[110, 97, 109, 101]⟩ else if i = 2 then ⟨#[110]⟩ else if i = 3 then ⟨#[102, 108, 97, 103]⟩ else if i = 4 then ⟨#[114, 97, 119]⟩ else ⟨#[120]⟩
theorem pool_name (i : Nat) : nameF (pool i) = true := by
  unfold pool
  split
  · decide +kernel
  split
  · decide +kernel
  split
  · decide +kernel
  split
  · decide +kernel
  split
  · decide +kernel
  · decide +kernel
def kind4 (k : Int) : Int := (if k < 0 then -(k + 1) else k) % 4
theorem kind4_range (k : Int) : 0 ≤ kind4 k ∧ kind4 k ≤ 3 := by unfold kind4; split <;> omega
theorem kind4_neg {k : Int} (h : k < 0) : -((k + 1).tmod 4) = kind4 k := by
  unfold kind4
  rw [if_pos h, ← Int.neg_tmod, Int.tmod_eq_emod_of_nonneg (by omega)]
theorem kind4_pos {k : Int} (h : ¬ k < 0) : k.tmod 4 = kind4 k := by
  unfold kind4
  rw [if_neg h, Int.tmod_eq_emod_of_nonneg (by omega)]
def gName (out : List Cl) (c : Cl) (i : Nat) : ByteArray := if nameF c.nm = true ∧ findI out c.nm < 0 then c.nm else pool i
def gStep (out : List Cl) (c : Cl) (i : Nat) : List Cl := if findI out (gName out c i) < 0 then out ++ [⟨gName out c i, 1 + kind4 c.k, c.no⟩] else out
def gTo (L : List Cl) : Nat → List Cl
  | 0 => []
  | k + 1 => match L[k]? with
    | some c => gStep (gTo L k) c k
    | none => gTo L k
theorem gTo_succ (L : List Cl) (k : Nat) (h : k < L.length) : gTo L (k + 1) = gStep (gTo L k) L[k] k := by
  have e : gTo L (k + 1) = match L[k]? with | some c => gStep (gTo L k) c k | none => gTo L k := rfl
  rw [e, List.getElem?_eq_getElem h]
def gOne : List Cl := [⟨⟨#[105, 100]⟩, 2, false⟩]
def gCols (L : List Cl) : List Cl := if (gTo L (min L.length 6)).length = 0 then gOne else gTo L (min L.length 6)
def absK (K : Int) : Int := if K < 0 then -(K + 1) else K
def gKeys (m : Nat) (K : Int) : Nat := (1 + absK K % (min m 3 : Nat)).toNat
def clr (M : List Cl) (k : Nat) : List Cl := (M.take k).map (fun c => ⟨c.nm, c.k, false⟩) ++ M.drop k
def gdC (L : List Cl) (K : Int) : List Cl := clr (gCols L) (gKeys (gCols L).length K)
def gdK (L : List Cl) (K : Int) : Nat := gKeys (gCols L).length K
theorem clr_zero (M : List Cl) : clr M 0 = M := by simp [clr]
theorem clr_len (M : List Cl) (k : Nat) : (clr M k).length = M.length := by simp [clr]; omega
theorem clr_get (M : List Cl) (k i : Nat) (h : i < M.length) : (clr M k)[i]'(by rw [clr_len]; exact h) = if i < k then ⟨M[i].nm, M[i].k, false⟩ else M[i] := by
  unfold clr
  by_cases hk : i < k
  · rw [if_pos hk, List.getElem_append_left (by simp; omega)]
    simp
  · rw [if_neg hk, List.getElem_append_right (by simp; omega)]
    simp only [List.getElem_drop, List.length_map, List.length_take]
    congr 1
    omega
theorem clr_set (M : List Cl) (k : Nat) (h : k < M.length) : (clr M k).set k ⟨M[k].nm, M[k].k, false⟩ = clr M (k + 1) := by
  apply List.ext_getElem
  · rw [List.length_set, clr_len, clr_len]
  · intro i h1 h2
    rw [List.length_set, clr_len] at h1
    rw [List.getElem_set, clr_get M (k + 1) i h1]
    by_cases e : k = i
    · subst e; rw [if_pos rfl, if_pos (by omega)]
    · rw [if_neg e, clr_get M k i h1]
      by_cases hk : i < k
      · rw [if_pos hk, if_pos (by omega)]
      · rw [if_neg hk, if_neg (by omega)]
theorem findI_neg {L : List Cl} {s : ByteArray} (h : findI L s < 0) (j : Nat) (hj : j < L.length) : (L[j].nm.toList == s.toList) = false := by
  unfold findI at h
  split at h
  · omega
  · rename_i hn
    have e : L.findIdx (fun c => c.nm.toList == s.toList) = L.length := by
      have := List.findIdx_le_length (p := fun c : Cl => c.nm.toList == s.toList) (xs := L)
      unfold findN at hn; omega
    exact List.findIdx_eq_length.1 e L[j] (List.getElem_mem hj)
theorem findI_first {L : List Cl} {i : Nat} (hi : i < L.length) (h : findI L L[i].nm = i) (j : Nat) (hj : j < i) : (L[j].nm.toList == L[i].nm.toList) = false := by
  cases hh : (L[j].nm.toList == L[i].nm.toList)
  · rfl
  · have := findI_early hj hi hh
    rw [h] at this; simp at this
/-- All columns' names are names, unlike one another, and their kinds kinds. -/
def Cols (M : List Cl) : Prop := ∀ i (h : i < M.length), nameF M[i].nm = true ∧ findI M M[i].nm = i ∧ kindF M[i].k = true
theorem cols_snoc {M : List Cl} {x : Cl} (h : Cols M) (hn : nameF x.nm = true) (hf : findI M x.nm < 0) (hk : kindF x.k = true) : Cols (M ++ [x]) := by
  intro i hi
  by_cases hl : i < M.length
  · rw [List.getElem_append_left hl]
    obtain ⟨h1, h2, h3⟩ := h i hl
    refine ⟨h1, ?_, h3⟩
    have e : (M ++ [x])[i].nm = M[i].nm := by rw [List.getElem_append_left hl]
    refine findI_at (by simp; omega) (by rw [e]; simp) fun j hj => ?_
    rw [List.getElem_append_left (by omega)]
    exact findI_first hl h2 j hj
  · have e : i = M.length := by simp at hi; omega
    subst e
    rw [List.getElem_append_right (by omega)]
    simp only [Nat.sub_self, List.getElem_cons_zero]
    refine ⟨hn, ?_, hk⟩
    refine findI_at (by simp) (by rw [List.getElem_append_right (by omega)]; simp) fun j hj => ?_
    rw [List.getElem_append_left hj]
    exact findI_neg hf j hj
theorem kind_ok (k : Int) : kindF (1 + kind4 k) = true := by
  have := kind4_range k
  simp [kindF]; omega
theorem gTo_cols (L : List Cl) : ∀ k, Cols (gTo L k) ∧ (gTo L k).length ≤ k
  | 0 => ⟨fun i h => absurd h (by simp [gTo]), by simp [gTo]⟩
  | k + 1 => by
    obtain ⟨h1, h2⟩ := gTo_cols L k
    unfold gTo
    cases L[k]? with
    | none => exact ⟨h1, by simp only; omega⟩
    | some c =>
      simp only
      unfold gStep
      split
      · rename_i hf
        refine ⟨cols_snoc h1 ?_ hf (kind_ok _), by simp; omega⟩
        simp only
        unfold gName
        split
        · rename_i hh; exact hh.1
        · exact pool_name k
      · exact ⟨h1, by omega⟩
theorem gOne_cols : Cols gOne := fun i h => by
  obtain rfl : i = 0 := by simp [gOne] at h; omega
  show nameF (⟨#[105, 100]⟩ : ByteArray) = true ∧ findI gOne ⟨#[105, 100]⟩ = (0 : Nat) ∧ kindF 2 = true
  exact ⟨by decide +kernel, by decide +kernel, by decide +kernel⟩
theorem gCols_cols (L : List Cl) : Cols (gCols L) ∧ 1 ≤ (gCols L).length ∧ (gCols L).length ≤ 6 := by
  have h := gTo_cols L (min L.length 6)
  unfold gCols
  split
  · exact ⟨gOne_cols, by simp [gOne], by simp [gOne]⟩
  · exact ⟨h.1, by omega, by omega⟩
theorem gKeys_range (m : Nat) (K : Int) (h : 1 ≤ m) : 1 ≤ gKeys m K ∧ gKeys m K ≤ m ∧ gKeys m K ≤ 3 := by
  unfold gKeys
  have h1 := Int.emod_nonneg (absK K) (b := ((min m 3 : Nat) : Int)) (by omega)
  have h2 := Int.emod_lt_of_pos (absK K) (b := ((min m 3 : Nat) : Int)) (by omega)
  omega
theorem findI_congr {L M : List Cl} (hl : L.length = M.length) (h : ∀ i (h1 : i < L.length) (h2 : i < M.length), L[i].nm = M[i].nm) (s : ByteArray) : findI L s = findI M s := by
  by_cases hh : findI M s < 0
  · rw [findI_none (L := L) (s := s) fun j hj => by rw [h j hj (by omega)]; exact findI_neg hh j (by omega)]
    have := findI_neg hh
    rw [findI_none fun j hj => this j hj]
  · have hlt := findI_lt0 M s
    obtain ⟨k, hk⟩ : ∃ k : Nat, findI M s = k := ⟨(findI M s).toNat, by omega⟩
    have hkl : k < M.length := by omega
    rw [hk]
    refine findI_at (by omega) ?_ fun j hj => ?_
    · rw [h k (by omega) hkl]
      have : findN M s = k := by
        unfold findI at hk; split at hk <;> omega
      unfold findN at this
      have h3 := List.findIdx_getElem (p := fun c : Cl => c.nm.toList == s.toList) (xs := M) (w := by omega)
      simp only [this] at h3
      exact h3
    · rw [h j (by omega) (by omega)]
      have : findN M s = k := by
        unfold findI at hk; split at hk <;> omega
      exact List.not_of_lt_findIdx (p := fun c : Cl => c.nm.toList == s.toList) (xs := M) (by unfold findN at this; omega)
theorem gd_get (L : List Cl) (K : Int) (i : Nat) (h : i < (gdC L K).length) (h' : i < (gCols L).length) : (gdC L K)[i] = if i < gdK L K then ⟨(gCols L)[i].nm, (gCols L)[i].k, false⟩ else (gCols L)[i] := clr_get _ _ _ h'
/-- A schema that may be, with few columns. -/
structure GoodS (M : List Cl) (k : Nat) : Prop where
  cols : Cols M
  len : 1 ≤ M.length ∧ M.length ≤ 6
  keys : 1 ≤ k ∧ k ≤ M.length ∧ k ≤ 3
  none : ∀ i (h : i < M.length), i < k → M[i].no = false
theorem goodS_is (L : List Cl) (K : Int) : GoodS (gdC L K) (gdK L K) := by
  obtain ⟨h1, h2, h3⟩ := gCols_cols L
  have hk := gKeys_range (gCols L).length K h2
  have hn : ∀ i (h1 : i < (gdC L K).length) (h2 : i < (gCols L).length), (gdC L K)[i].nm = (gCols L)[i].nm := fun i h h' => by
    rw [gd_get L K i h h']; split <;> rfl
  have hl : (gdC L K).length = (gCols L).length := clr_len _ _
  refine ⟨fun i h => ?_, by rw [hl]; exact ⟨h2, h3⟩, by rw [hl]; exact hk, fun i h hik => ?_⟩
  · have h' : i < (gCols L).length := by omega
    obtain ⟨q1, q2, q3⟩ := h1 i h'
    rw [findI_congr hl hn, hn i h h']
    refine ⟨q1, q2, ?_⟩
    have e : (gdC L K)[i].k = (gCols L)[i].k := by rw [gd_get L K i h h']; split <;> rfl
    rw [e]; exact q3
  · have h' : i < (gCols L).length := by omega
    rw [gd_get L K i h h', if_pos hik]
theorem goodS_may (M : List Cl) (k : Nat) (h : GoodS M k) : smayF M k = true := by
  have h1 := h.len
  have h2 := h.keys
  rw [smayF_yes h1.1 (by omega) (by omega) (by omega) (by omega)]
  unfold colsTo
  rw [List.all_eq_true]
  intro i hi
  have hi' : i < M.length := List.mem_range.1 hi
  obtain ⟨q1, q2, q3⟩ := h.cols i hi'
  rw [colOk_at M k i hi', q1, q2, q3]
  by_cases hk : i < k
  · rw [h.none i hi' hk]; simp
  · simp; omega
end Go.Proofs.YtlhfdhmmdnkojaaGreatDoor
namespace Go.Proofs.YtlhfdhmmdnkojaaGreatDoor
open Go.RowKit Dg
/-- The first forty bytes. -/
def forty (s : ByteArray) : ByteArray := if 40 < s.size then s.extract 0 40 else s
/-- A value that may be, made of any. -/
def kind5 (k : Int) : Int := (if k < 0 then -(k + 1) else k) % 5
def Vl.good (x : Vl) : Vl :=
  if kind5 x.k = 0 then ⟨0, 0, ⟨#[]⟩⟩ else if kind5 x.k = 1 then ⟨1, if x.n % 2 = 0 then 0 else 1, ⟨#[]⟩⟩ else if kind5 x.k = 2 then ⟨2, x.n, ⟨#[]⟩⟩
  else if kind5 x.k = 3 then ⟨3, 0, if Lib.validD (forty x.s).data.toList then forty x.s else ⟨#[]⟩⟩ else ⟨4, 0, forty x.s⟩
end Go.Proofs.YtlhfdhmmdnkojaaGreatDoor
namespace Go.Proofs.YtlhfdhmmdnkojaaGreatDoor
open Go.RowKit Dg
/-! ### what is made of any may be -/
end Go.Proofs.YtlhfdhmmdnkojaaGreatDoor
namespace Go.Proofs.YtlhfdhmmdnkojaaGreatDoor
open Go.RowKit Dg
end Go.Proofs.YtlhfdhmmdnkojaaGreatDoor
namespace Go.Proofs.YtlhfdhmmdnkojaaGreatDoor
open Go.RowKit Dg
set_option maxRecDepth 100000
theorem ownC_down {B B' : Nat} {w : World} {v : Value} {l : List Cl} (h : OwnC B w v l) (hb : B' ≤ B) : OwnC B' w v l := by
  obtain ⟨h1, h2⟩ := h
  refine ⟨h1, ?_⟩
  rcases h2 with h2 | ⟨g, cap, cur, e, hg, r⟩
  · exact .inl h2
  · exact .inr ⟨g, cap, cur, e, Nat.le_trans hb hg, r⟩
theorem OwnC.far {B : Nat} {w : World} {v : Value} {L : List Cl} (h : OwnC B w v L) {p : Addr} (hp : p.block < B) (u : Value) : OwnC B (w.setCell p u) v L := by
  rcases h.2 with ⟨hv, hn⟩ | ⟨g, cap, cur, hv, hg, hh, hc, hcm, hsz, ht⟩
  · exact ⟨h.1, .inl ⟨hv, hn⟩⟩
  · exact ⟨h.1, .inr ⟨g, cap, cur, hv, hg, Has.far (t := 29) (cs := cur) hh (by omega) u, hc, hcm, hsz, ht⟩⟩
end Go.Proofs.YtlhfdhmmdnkojaaGreatDoor
namespace Go.Proofs.YtlhfdhmmdnkojaaGreatDoor
open Go.RowKit Dg
theorem CRow.drop {w : World} {b off : Nat} {L : List Cl} (h : CRow w (some ⟨b, off, none⟩) L) (k : Nat) : CRow w (some ⟨b, off + k * 3, none⟩) (L.drop k) := fun hl => by
  obtain ⟨b', off', e, hc⟩ := h (by rintro rfl; simp at hl)
  injection e with e
  injection e with e1 e2
  subst e1 e2
  refine ⟨b, off + k * 3, rfl, fun i hi => ?_⟩
  rw [List.length_drop] at hi
  obtain ⟨h0, h1, h2⟩ := hc (k + i) (by omega)
  rw [List.getElem_drop]
  have e : off + (k + i) * 3 = off + k * 3 + i * 3 := by omega
  rw [e] at h0 h1 h2
  exact ⟨h0, h1, h2⟩
theorem CRow.take {w : World} {A : Option Addr} {L : List Cl} (h : CRow w A L) (k : Nat) : CRow w A (L.take k) := fun hl => by
  obtain ⟨b, off, e, hc⟩ := h (by rintro rfl; simp at hl)
  refine ⟨b, off, e, fun i hi => ?_⟩
  rw [List.length_take] at hi
  rw [List.getElem_take]
  exact hc i (by omega)
theorem CRow.one (w : World) (x : Cl) : CRow (w.alloc (.cells #[.string x.nm, .int .i64 x.k, .bool x.no] 29)) (some ⟨w.heap.size, 0, none⟩) [x] := fun _ => ⟨w.heap.size, 0, rfl, fun i hi => by
  have hh := Has.new w 29 #[.string x.nm, .int .i64 x.k, .bool x.no]
  obtain rfl : i = 0 := by simpa using hi
  exact ⟨hh.cell 0, hh.cell 1, hh.cell 2⟩⟩
end Go.Proofs.YtlhfdhmmdnkojaaGreatDoor
namespace Go.Proofs.YtlhfdhmmdnkojaaGreatDoor
open Go.RowKit Dg
end Go.Proofs.YtlhfdhmmdnkojaaGreatDoor
namespace Go.Proofs.YtlhfdhmmdnkojaaGreatDoor
open Go.RowKit Dg
end Go.Proofs.YtlhfdhmmdnkojaaGreatDoor
namespace Go.Proofs.YtlhfdhmmdnkojaaGreatDoor
open Go.RowKit Dg
set_option maxRecDepth 100000
def big : Nat := 18446744073709551616
/-- What 'digits' leaves: a new block, the last one, with the digits. -/
def Digs (n : Nat) (w : World) (e : Ending) (w' : World) : Prop :=
  e = .returned (.slice (some ⟨w.heap.size, 0, none⟩) (digs n).length (digs n).length) ∧ Has w' w.heap.size 5 ((digs n).map bv).toArray ∧ w'.heap.size = w.heap.size + 1 ∧ Below w.heap.size w w'

theorem Digs.made {n : Nat} {w : World} {e : Ending} {w' : World} (h : Digs n w e w') : ∃ v, e = .returned v ∧ Made w (digs n) v w' := by
  obtain ⟨he, hh, _, hb⟩ := h
  refine ⟨_, he, _, _, rfl, Nat.le_refl _, Rd.of_has hh fun i hi => ?_, hb⟩
  simp [hi]

theorem Digs.out {n : Nat} {w : World} {e : Ending} {w' : World} (h : Digs n w e w') : ∃ A c, e = .returned (.slice A (digs n).length c) ∧ Rd w' A (digs n) ∧ Below w.heap.size w w' := by
  obtain ⟨v, he, A, c, rfl, _, hr, hb⟩ := h.made
  exact ⟨A, c, he, hr, hb⟩
end Go.Proofs.YtlhfdhmmdnkojaaGreatDoor
namespace Go.Proofs.YtlhfdhmmdnkojaaGreatDoor
open Go.RowKit Dg
end Go.Proofs.YtlhfdhmmdnkojaaGreatDoor
namespace Go.Proofs.YtlhfdhmmdnkojaaGreatDoor
open Go.RowKit Dg

end Go.Proofs.YtlhfdhmmdnkojaaGreatDoor
namespace Go.Proofs.YtlhfdhmmdnkojaaGreatDoor
open Go.RowKit Dg
def Vl.eqb (x y : Vl) : Bool := x.k == y.k && x.n == y.n && x.s.toList == y.s.toList
end Go.Proofs.YtlhfdhmmdnkojaaGreatDoor
namespace Go.Proofs.YtlhfdhmmdnkojaaGreatDoor
open Go.RowKit Dg
/-- Are two columns the same? -/
def Cl.eqb (x y : Cl) : Bool := x.nm.toList == y.nm.toList && x.k == y.k && x.no == y.no
end Go.Proofs.YtlhfdhmmdnkojaaGreatDoor
namespace Go.Proofs.YtlhfdhmmdnkojaaGreatDoor
open Go.RowKit Dg
set_option maxHeartbeats 4000000 in
set_option maxRecDepth 100000 in
theorem rmay_any (A : Option Addr) (L : List Cl) (n c : Nat) (K : Int) (w : World) (hn : L.length = n) (hl : n ≤ 1000) (hA : CRow w A L) :
    Calls Tryz.prog 95 #[.agg #[.slice A n c, .int .i64 K]] w fun e w' => e = .returned (.bool (smayF L K)) ∧ Hid (Below w.heap.size w w') := by
  have HN := Lib.hid hn
  have HA := Lib.hid hA
  have HB0 := Lib.hid ((Below.refl w.heap.size w).alloc (Nat.le_refl _) (.cells #[.slice A n c, .int .i64 K] 27))
  have HH0 := Lib.hid (Has.new w 27 #[.slice A n c, .int .i64 K])
  have HY := Lib.hid (@smayF_yes L K)
  have HNO := Lib.hid (@smayF_no L K)
  rw [hn] at HY HNO
  clear hn hA
  by_cases h1 : 1 ≤ n
  · by_cases h2 : n ≤ 16
    · by_cases h3 : 1 ≤ K
      · by_cases h4 : K ≤ 4
        · by_cases h5 : K ≤ n
          · have HY2 := Lib.hid (HY.out h1 h2 h3 h4 h5)
            clear HY HNO
            go_enter Tryz.func95, Tryz.ntmps95
            go_wp2_with fail
            go_loopw [4] (fun i wr => ∃ k : Nat, k ≤ n ∧ i = .int .i64 k ∧ Hid (colsTo L K k = true) ∧ Hid (Below w.heap.size w wr) ∧ Hid (Has wr w.heap.size 27 #[.slice A n c, .int .i64 K])) (fun i _ => n - (intOf i).toNat)
            case atStart => exact ⟨0, by omega, rfl, rfl, HB0.out, HH0.out⟩
            case round =>
              obtain ⟨k, hk, rfl, HT, HB, HH⟩ := hrel
              by_cases hlt : k < n
              · have hkl : k < L.length := by rw [HN.out]; exact hlt
                have HR := Lib.hid (HA.out.below HB.out)
                obtain ⟨b, off, rfl, hc⟩ := HR.out (by intro e; rw [e] at hkl; simp at hkl)
                obtain ⟨c0, c1, c2⟩ := hc k hkl
                have HFA := Lib.hid (colsTo_false L K k n hlt)
                have HT2 : Hid (colsTo L K (k + 1) = colOk L K k) := by show _ = _; rw [colsTo_succ, HT.out, Bool.true_and]
                have HOK := Lib.hid (colOk_at L K k hkl)
                have HFE : Hid (∀ j (hj : j < k), (L[j].nm.toList == L[k].nm.toList) = true → (findI L L[k].nm == (k : Int)) = false) := fun j hj he => findI_early hj hkl he
                have HFI : Hid ((∀ j (hj : j < k), (L[j].nm.toList == L[k].nm.toList) = false) → findI L L[k].nm = (k : Int)) := fun h => findI_at hkl (by simp) h
                generalize hxa : L[k].nm = xa at *
                generalize L[k].k = xb at *
                generalize L[k].no = xc at *
                generalize colOk L K k = ok at *
                have HW : Hid (Below w.heap.size w (wr.alloc (.cells #[.string xa, .int .i64 xb, .bool xc] 29))) := HB.out.alloc HB.out.size _
                have HR1 : Hid (CRow (wr.alloc (.cells #[.string xa, .int .i64 xb, .bool xc] 29)) (some ⟨b, off, none⟩) L) := HR.out.below ((Below.refl _ wr).alloc (Nat.le_refl _) _)
                have HX : Hid (Has (wr.alloc (.cells #[.string xa, .int .i64 xb, .bool xc] 29)) wr.heap.size 29 #[.string xa, .int .i64 xb, .bool xc]) := Has.new _ _ _
                have HH1 : Hid (Has (wr.alloc (.cells #[.string xa, .int .i64 xb, .bool xc] 29)) w.heap.size 27 #[.slice (some ⟨b, off, none⟩) n c, .int .i64 K]) := HH.out.alloc _
                have a0 := HH.out.cell 0
                have a1 := HH.out.cell 1
                simp at a0 a1
                clear hc HR hxa
                go_wp2_with fail
                refine (refName_any xa _).mono ?_
                rintro e w1 ⟨rfl, rfl⟩
                clear c0 c1 c2 a0 a1
                obtain ⟨w1, hw1⟩ : ∃ w1, w1 = wr.alloc (.cells #[.string xa, .int .i64 xb, .bool xc] 29) := ⟨_, rfl⟩
                rw [← hw1] at HW HR1 HX HH1 ⊢
                have hzz : wr.heap.size < w1.heap.size := by rw [hw1]; simp
                clear hw1
                have a0 := HH1.out.cell 0
                have a1 := HH1.out.cell 1
                have c0 := HX.out.cell 0
                have c1 := HX.out.cell 1
                have c2 := HX.out.cell 2
                simp at a0 a1 c0 c1 c2
                generalize nameF xa = q1 at *
                cases q1
                · have HO : Hid (ok = false) := by show _ = _; rw [HOK.out]; simp
                  go_wp2_with fail
                  go_ret
                  exact ⟨by rw [HY2.out, HFA.out HO.out]; rfl, HW⟩
                · by_cases hb1 : 1 ≤ xb
                  · by_cases hb2 : xb ≤ 4
                    · have hkd : kindF xb = true := by simp [kindF, hb1, hb2]
                      rw [hkd] at HOK
                      clear hkd
                      by_cases hno : xc = true ∧ (k : Int) < K
                      · obtain ⟨rfl, hkk⟩ := hno
                        have HO : Hid (ok = false) := by show _ = _; rw [HOK.out]; simp; omega
                        go_wp2_with fail
                        go_ret
                        exact ⟨by rw [HY2.out, HFA.out HO.out]; rfl, HW⟩
                      · have HNOB : Hid ((xc && decide ((k : Int) < K)) = false) := by
                          show _ = _
                          cases xc
                          · rfl
                          · simp at hno ⊢; omega
                        have hkk : (xc = false ∧ (k : Int) < K) ∨ ¬ (k : Int) < K := by
                          by_cases hh : (k : Int) < K
                          · left
                            cases xc
                            · exact ⟨rfl, hh⟩
                            · exact absurd ⟨rfl, hh⟩ hno
                          · exact .inr hh
                        clear hno
                        rcases hkk with ⟨rfl, hkk⟩ | hkk
                        all_goals
                          go_wp2_with fail
                          go_loopw [7] (fun i wq => ∃ j : Nat, j ≤ k ∧ i = .int .i64 j ∧ Hid (∀ j' (hj' : j' < j) (hl' : j' < L.length), (L[j'].nm.toList == xa.toList) = false) ∧ Hid (Below w1.heap.size w1 wq)) (fun i _ => k - (intOf i).toNat)
                          case atStart => exact ⟨0, by omega, rfl, (fun j hj => absurd hj (by omega)), Below.refl _ _⟩
                          case round =>
                            obtain ⟨j, hj, rfl, HNE, HBQ⟩ := hrel
                            have HBW := Lib.hid (HW.out.trans (HBQ.out.mono HW.out.size))
                            by_cases hjk : j < k
                            · have hjl : j < L.length := by omega
                              obtain ⟨b', off', hbe, hc⟩ := (HR1.out.below HBQ.out) (by intro e; rw [e] at hkl; simp at hkl)
                              injection hbe with hbe
                              injection hbe with hb1' hb2'
                              subst hb1' hb2'
                              obtain ⟨d0, d1, d2⟩ := hc j hjl
                              have e0 := (HH1.out.below HBQ.out HH1.out.lt).cell 0
                              have f0 := (HX.out.below HBQ.out HX.out.lt).cell 0
                              simp at e0 f0
                              have HEJ := Lib.hid (HFE.out j hjk)
                              have HNX : Hid ((L[j].nm.toList == xa.toList) = false → ∀ j' (hj' : j' < j + 1) (hl' : j' < L.length), (L[j'].nm.toList == xa.toList) = false) := fun he j' hj' hl' => by
                                by_cases e : j' = j
                                · subst e; exact he
                                · exact HNE.out j' (by omega) hl'
                              generalize L[j].nm = ya at *
                              clear hc d1 d2 a0 a1 c0 c1 c2
                              have hjz : (j : Int) < (n : Int) := by omega
                              have hj0 : (0 : Int) ≤ (j : Int) := by omega
                              cases hq : (ya.toList == xa.toList)
                              · go_wp2_with fail
                                go_region
                                all_goals
                                  go_wp2_with fail
                                  go_roundw
                                  case rel => exact ⟨j + 1, by omega, by go_num, HNX.out hq, HBQ.out.drew⟩
                                  case measure => simp [intOf]; omega
                              · have HO : Hid (ok = false) := by show _ = _; rw [HOK.out, HEJ.out hq]; simp
                                go_wp2_with fail
                                go_region
                                all_goals
                                  go_wp2_with fail
                                  go_ret
                                  exact ⟨by rw [HY2.out, HFA.out HO.out]; rfl, HBW.out.drew⟩
                            · obtain rfl : j = k := by omega
                              have HO : Hid (ok = true) := by show _ = _; rw [HOK.out, HFI.out (fun j' hj' => HNE.out j' hj' (by omega)), HNOB.out]; simp
                              go_wp2_with fail
                              go_roundw
                              case rel => exact ⟨j + 1, by omega, by go_num, by rw [HT2.out]; exact HO, HBW, HH1.out.below HBQ.out HH1.out.lt⟩
                              case measure => simp [intOf]; omega
                    · have HO : Hid (ok = false) := by show _ = _; rw [HOK.out, show kindF xb = false by simp [kindF]; omega]; simp
                      have hb2' : 4 < xb := by omega
                      go_wp2_with fail
                      go_ret
                      exact ⟨by rw [HY2.out, HFA.out HO.out]; rfl, HW⟩
                  · have HO : Hid (ok = false) := by show _ = _; rw [HOK.out, show kindF xb = false by simp [kindF]; omega]; simp
                    have hb1' : xb < 1 := by omega
                    go_wp2_with fail
                    go_ret
                    exact ⟨by rw [HY2.out, HFA.out HO.out]; rfl, HW⟩
              · obtain rfl : k = n := by omega
                have a0 := HH.out.cell 0
                have a1 := HH.out.cell 1
                simp at a0 a1
                go_wp2_with fail
                go_ret
                exact ⟨by rw [HY2.out, HT.out]; rfl, HB⟩
          · have HO := Lib.hid (HNO.out (by omega))
            clear HY HNO
            have h5' : (n : Int) < K := by omega
            go_enter Tryz.func95, Tryz.ntmps95
            go_wp2_with fail
            go_ret
            exact ⟨by rw [HO.out]; rfl, HB0⟩
        · have HO := Lib.hid (HNO.out (by omega))
          clear HY HNO
          have h4' : 4 < K := by omega
          go_enter Tryz.func95, Tryz.ntmps95
          go_wp2_with fail
          go_ret
          exact ⟨by rw [HO.out]; rfl, HB0⟩
      · have HO := Lib.hid (HNO.out (by omega))
        clear HY HNO
        have h3' : K < 1 := by omega
        go_enter Tryz.func95, Tryz.ntmps95
        go_wp2_with fail
        go_ret
        exact ⟨by rw [HO.out]; rfl, HB0⟩
    · have HO := Lib.hid (HNO.out (by omega))
      clear HY HNO
      have h2' : 16 < (n : Int) := by omega
      go_enter Tryz.func95, Tryz.ntmps95
      go_wp2_with fail
      go_ret
      exact ⟨by rw [HO.out]; rfl, HB0⟩
  · have HO := Lib.hid (HNO.out (by omega))
    clear HY HNO
    have h1' : (n : Int) < 1 := by omega
    go_enter Tryz.func95, Tryz.ntmps95
    go_wp2_with fail
    go_ret
    exact ⟨by rw [HO.out]; rfl, HB0⟩
end Go.Proofs.YtlhfdhmmdnkojaaGreatDoor
namespace Go.Proofs.YtlhfdhmmdnkojaaGreatDoor
open Go.RowKit Dg
set_option maxRecDepth 100000
/-- A table: its name, where its columns lie, they, and its keys. -/
structure Tb where
  nm : ByteArray
  A : Option Addr
  n : Nat
  c : Nat
  L : List Cl
  K : Int
/-- The cells at A read as the tables T. -/
def TRow (w : World) (A : Option Addr) (T : List Tb) : Prop :=
  T ≠ [] → ∃ b off, A = some ⟨b, off, none⟩ ∧ ∀ i (h : i < T.length), w.cell? ⟨b, off + i * 3, none⟩ = some (.string T[i].nm) ∧ w.cell? ⟨b, off + i * 3 + 1, none⟩ = some (.slice T[i].A T[i].n T[i].c) ∧ w.cell? ⟨b, off + i * 3 + 2, none⟩ = some (.int .i64 T[i].K)
/-- The tables' columns lie where they should. -/
def TIn (w : World) (T : List Tb) : Prop := ∀ x ∈ T, x.L.length = x.n ∧ x.n ≤ x.c ∧ x.c ≤ maxLen ∧ CRow w x.A x.L
theorem TRow.below {w w' : World} {A : Option Addr} {T : List Tb} (h : TRow w A T) (hb : Below w.heap.size w w') : TRow w' A T := fun hne => by
  obtain ⟨b, off, e, hc⟩ := h hne
  have k := fun (a : Addr) (v : Value) (h : w.cell? a = some v) => (hb.cell (World.block_lt_of_cell? _ _ h)).trans h
  exact ⟨b, off, e, fun i hi => ⟨k _ _ (hc i hi).1, k _ _ (hc i hi).2.1, k _ _ (hc i hi).2.2⟩⟩
theorem TIn.below {w w' : World} {T : List Tb} (h : TIn w T) (hb : Below w.heap.size w w') : TIn w' T := fun x hx =>
  ⟨(h x hx).1, (h x hx).2.1, (h x hx).2.2.1, (h x hx).2.2.2.below hb⟩
/-- The place of the first table of that name; -1, if there is none. -/
def tatN (T : List Tb) (s : ByteArray) : Nat := T.findIdx fun x => x.nm.toList == s.toList
def tatI (T : List Tb) (s : ByteArray) : Int := if tatN T s < T.length then (tatN T s : Int) else -1
theorem tatN_at {T : List Tb} {s : ByteArray} {k : Nat} (h : k < T.length) (he : (T[k].nm.toList == s.toList) = true) (hb : ∀ j (hj : j < k), (T[j].nm.toList == s.toList) = false) : tatN T s = k := by
  unfold tatN
  rw [List.findIdx_eq h]
  exact ⟨he, fun j hj => hb j hj⟩
theorem tatI_at {T : List Tb} {s : ByteArray} {k : Nat} (h : k < T.length) (he : (T[k].nm.toList == s.toList) = true) (hb : ∀ j (hj : j < k), (T[j].nm.toList == s.toList) = false) : tatI T s = k := by
  unfold tatI; rw [tatN_at h he hb, if_pos h]
theorem tatI_none {T : List Tb} {s : ByteArray} (hb : ∀ j (hj : j < T.length), (T[j].nm.toList == s.toList) = false) : tatI T s = -1 := by
  unfold tatI
  rw [if_neg]
  unfold tatN
  have : T.findIdx (fun x => x.nm.toList == s.toList) = T.length := List.findIdx_eq_length.2 fun x hx => by
    obtain ⟨j, hj, rfl⟩ := List.getElem_of_mem hx
    exact hb j hj
  omega
set_option maxHeartbeats 2000000 in
theorem at_any (A : Option Addr) (T : List Tb) (n c : Nat) (s : ByteArray) (w : World) (hn : T.length = n) (hl : n ≤ 1000) (hA : TRow w A T) :
    Calls Tryz.prog 94 #[.slice A n c, .string s] w fun e w' => e = .returned (.int .i64 (tatI T s)) ∧ w' = w := by
  have HN := Lib.hid hn
  have HA := Lib.hid hA
  clear hn hA
  go_enter Tryz.func94, Tryz.ntmps94
  go_wp2_with fail
  go_loopw [5] (fun i wr => ∃ k : Nat, k ≤ n ∧ i = .int .i64 k ∧ Hid (∀ j (hj : j < k) (hj2 : j < T.length), (T[j].nm.toList == s.toList) = false) ∧ wr = w) (fun i _ => n - (intOf i).toNat)
  case atStart => exact ⟨0, by omega, rfl, (fun j hj => absurd hj (by omega)), rfl⟩
  case round =>
    obtain ⟨k, hk, rfl, HF, rfl⟩ := hrel
    by_cases hlt : k < n
    · have hkl : k < T.length := by rw [HN.out]; exact hlt
      obtain ⟨b, off, rfl, hc⟩ := HA.out (by intro e; rw [e] at hkl; simp at hkl)
      obtain ⟨c0, c1, c2⟩ := hc k hkl
      have HAT := Lib.hid (fun he => tatI_at (s := s) hkl he (fun j hj => HF.out j hj (by omega)))
      have HNX : Hid ((T[k].nm.toList == s.toList) = false → ∀ j (hj : j < k + 1) (hj2 : j < T.length), (T[j].nm.toList == s.toList) = false) := fun he j hj hj2 => by
        by_cases e : j = k
        · subst e; exact he
        · exact HF.out j (by omega) hj2
      clear hc c1 c2
      generalize T[k].nm = xa at *
      have hkz : (k : Int) < (n : Int) := by omega
      cases q : (xa.toList == s.toList)
      · go_wp2_with fail
        go_roundw
        case rel => exact ⟨k + 1, by omega, by go_num, HNX.out q, by trivial⟩
        case measure => simp [intOf]; omega
      · go_wp2_with fail
        go_ret
        exact ⟨by rw [HAT.out q]; rfl, by trivial⟩
    · obtain rfl : k = n := by omega
      have HF2 := Lib.hid (tatI_none (T := T) (s := s) (fun j hj => HF.out j (by rw [← HN.out]; exact hj) hj))
      go_wp2_with fail
      go_ret
      exact ⟨by rw [HF2.out]; rfl, by trivial⟩
end Go.Proofs.YtlhfdhmmdnkojaaGreatDoor
namespace Go.Proofs.YtlhfdhmmdnkojaaGreatDoor
open Go.RowKit Dg
set_option maxRecDepth 100000
set_option maxHeartbeats 1000000 in
/-- The document's May of a schema, of however many columns. -/
theorem rmay_all (A : Option Addr) (L : List Cl) (n c : Nat) (K : Int) (w : World) (hn : L.length = n) (hA : CRow w A L) :
    Calls Tryz.prog 95 #[.agg #[.slice A n c, .int .i64 K]] w fun e w' => e = .returned (.bool (smayF L K)) ∧ Hid (Below w.heap.size w w') := by
  by_cases hl : n ≤ 1000
  · exact rmay_any A L n c K w hn hl hA
  · have HB0 := Lib.hid ((Below.refl w.heap.size w).alloc (Nat.le_refl _) (.cells #[.slice A n c, .int .i64 K] 27))
    have HNO := Lib.hid (@smayF_no L K (by omega))
    have h1 : ¬ ((n : Int) < 1) := by omega
    have h2 : 16 < (n : Int) := by omega
    clear hn hA hl
    go_enter Tryz.func95, Tryz.ntmps95
    go_wp2_with fail
    go_ret
    exact ⟨by rw [HNO.out]; rfl, HB0⟩
end Go.Proofs.YtlhfdhmmdnkojaaGreatDoor
namespace Go.Proofs.YtlhfdhmmdnkojaaGreatDoor
open Go.RowKit Dg
set_option maxRecDepth 100000
theorem less_irrefl : ∀ x : List UInt8, Op.bytesLess x x = false
  | [] => rfl
  | a :: x => by simp [Op.bytesLess, less_irrefl x]
theorem less_asymm : ∀ x y : List UInt8, Op.bytesLess x y = true → Op.bytesLess y x = false
  | [], [], h => by simp [Op.bytesLess] at h
  | [], _ :: _, _ => rfl
  | _ :: _, [], h => by simp [Op.bytesLess] at h
  | a :: x, b :: y, h => by
    simp only [Op.bytesLess, Bool.or_eq_true, decide_eq_true_eq, Bool.and_eq_true, beq_iff_eq] at h
    simp only [Op.bytesLess, Bool.or_eq_false_iff, decide_eq_false_iff_not, Bool.and_eq_false_iff, beq_eq_false_iff_ne]
    rcases h with h | ⟨h, h'⟩
    · exact ⟨by rw [UInt8.lt_iff_toNat_lt] at h ⊢; omega, .inl (by intro e; subst e; rw [UInt8.lt_iff_toNat_lt] at h; omega)⟩
    · subst h
      exact ⟨by rw [UInt8.lt_iff_toNat_lt]; omega, .inr (less_asymm x y h')⟩
theorem less_total : ∀ x y : List UInt8, Op.bytesLess x y = false → Op.bytesLess y x = false → x = y
  | [], [], _, _ => rfl
  | [], _ :: _, h, _ => by simp [Op.bytesLess] at h
  | _ :: _, [], _, h => by simp [Op.bytesLess] at h
  | a :: x, b :: y, h, h' => by
    simp only [Op.bytesLess, Bool.or_eq_false_iff, decide_eq_false_iff_not, Bool.and_eq_false_iff, beq_eq_false_iff_ne, UInt8.lt_iff_toNat_lt] at h h'
    have e : a = b := by
      apply UInt8.toNat_inj.1; omega
    subst e
    rw [less_total x y (h.2.resolve_left (by simp)) (h'.2.resolve_left (by simp))]
end Go.Proofs.YtlhfdhmmdnkojaaGreatDoor
namespace Go.Proofs.YtlhfdhmmdnkojaaGreatDoor
open Go.RowKit Dg
set_option maxRecDepth 100000
theorem less_trans : ∀ x y z : List UInt8, Op.bytesLess x y = true → Op.bytesLess y z = true → Op.bytesLess x z = true
  | [], [], _, h, _ => by simp [Op.bytesLess] at h
  | [], _ :: _, [], _, h => by simp [Op.bytesLess] at h
  | [], _ :: _, _ :: _, _, _ => rfl
  | _ :: _, [], _, h, _ => by simp [Op.bytesLess] at h
  | _ :: _, _ :: _, [], _, h => by simp [Op.bytesLess] at h
  | a :: x, b :: y, c :: z, h, h' => by
    simp only [Op.bytesLess, Bool.or_eq_true, decide_eq_true_eq, Bool.and_eq_true, beq_iff_eq, UInt8.lt_iff_toNat_lt] at h h' ⊢
    rcases h with h | ⟨h, h1⟩
    · rcases h' with h' | ⟨h', h2⟩
      · exact .inl (by omega)
      · subst h'; exact .inl h
    · subst h
      rcases h' with h' | ⟨h', h2⟩
      · exact .inl h'
      · exact .inr ⟨h', less_trans x y z h1 h2⟩
/-- Tables in order. -/
def SortT (T : List Tb) : Prop := ∀ i j (hij : i < j) (hj : j < T.length), Op.bytesLess T[i].nm.toList T[j].nm.toList = true
/-- Where a table of that name would stand. -/
def lbN (T : List Tb) (s : ByteArray) : Nat := T.findIdx fun x => !Op.bytesLess x.nm.toList s.toList
/-- Does one of that name stand there? -/
def plF (T : List Tb) (s : ByteArray) : Bool := match T[lbN T s]? with | some x => x.nm.toList == s.toList | none => false
theorem lb_le (T : List Tb) (s : ByteArray) : lbN T s ≤ T.length := List.findIdx_le_length
theorem lb_lo {T : List Tb} {s : ByteArray} {t : Nat} (h : t < lbN T s) (ht : t < T.length) : Op.bytesLess T[t].nm.toList s.toList = true := by
  have := List.not_of_lt_findIdx h
  simpa using this
theorem lb_hi {T : List Tb} {s : ByteArray} (hS : SortT T) {t : Nat} (h : lbN T s ≤ t) (ht : t < T.length) : Op.bytesLess T[t].nm.toList s.toList = false := by
  have hk : lbN T s < T.length := by omega
  have h0 : (!Op.bytesLess (T[lbN T s]'hk).nm.toList s.toList) = true := List.findIdx_getElem (w := hk)
  rw [Bool.not_eq_true'] at h0
  rcases Nat.lt_or_eq_of_le h with h1 | h1
  · cases h2 : Op.bytesLess T[t].nm.toList s.toList
    · rfl
    · have := less_trans _ _ _ (hS _ _ h1 ht) h2
      rw [h0] at this; cases this
  · subst h1; exact h0
theorem lb_is {T : List Tb} {s : ByteArray} {k : Nat} (hk : k ≤ T.length) (h1 : ∀ t (ht : t < k), Op.bytesLess (T[t]'(by omega)).nm.toList s.toList = true) (h2 : ∀ t (_ : k ≤ t) (ht : t < T.length), Op.bytesLess T[t].nm.toList s.toList = false) : lbN T s = k := by
  rcases Nat.lt_trichotomy (lbN T s) k with h | h | h
  · have hl : lbN T s < T.length := by omega
    have h0 : (!Op.bytesLess (T[lbN T s]'hl).nm.toList s.toList) = true := List.findIdx_getElem (w := hl)
    rw [h1 _ h] at h0; cases h0
  · exact h
  · have hl := lb_le T s
    have := lb_lo h (by omega)
    rw [h2 k (Nat.le_refl _) (by omega)] at this; cases this
theorem plF_at {T : List Tb} {s : ByteArray} (h : lbN T s < T.length) : plF T s = ((T[lbN T s]'h).nm.toList == s.toList) := by
  unfold plF; rw [List.getElem?_eq_getElem h]
theorem plF_out {T : List Tb} {s : ByteArray} (h : ¬ lbN T s < T.length) : plF T s = false := by
  unfold plF; rw [List.getElem?_eq_none (by omega)]
theorem plF_tat {T : List Tb} {s : ByteArray} (h : plF T s = true) : lbN T s < T.length ∧ tatN T s = lbN T s := by
  by_cases hl : lbN T s < T.length
  · rw [plF_at hl] at h
    refine ⟨hl, tatN_at hl h fun j hj => ?_⟩
    rw [beq_eq_false_iff_ne]
    intro e
    have h1 := lb_lo hj (by omega)
    rw [e, less_irrefl] at h1; cases h1
  · rw [plF_out hl] at h; cases h
theorem plF_tat' {T : List Tb} {s : ByteArray} (hS : SortT T) (h : plF T s = false) : ¬ tatN T s < T.length := by
  intro hl
  have he : (T[tatN T s].nm.toList == s.toList) = true := List.findIdx_getElem (w := hl)
  have hn : lbN T s = tatN T s := lb_is (Nat.le_of_lt hl) (fun t ht => by rw [← eq_of_beq he]; exact hS _ _ ht hl) (fun t h1 ht => by
    rw [← eq_of_beq he]
    rcases Nat.lt_or_eq_of_le h1 with h2 | h2
    · exact less_asymm _ _ (hS _ _ h2 ht)
    · subst h2; exact less_irrefl _)
  rw [plF_at (by rw [hn]; exact hl)] at h
  simp only [hn] at h
  rw [he] at h; cases h
end Go.Proofs.YtlhfdhmmdnkojaaGreatDoor
namespace Go.Proofs.YtlhfdhmmdnkojaaGreatDoor
open Go.RowKit Dg
/-- A table: its name, its columns, its keys. -/
structure Td where
  nm : ByteArray
  L : List Cl
  K : Int
def Tb.td (x : Tb) : Td := ⟨x.nm, x.L, x.K⟩
def tds (T : List Tb) : List Td := T.map Tb.td
/-- Where a table of that name would stand. -/
def lbD (D : List Td) (s : ByteArray) : Nat := D.findIdx fun x => !Op.bytesLess x.nm.toList s.toList
def plD (D : List Td) (s : ByteArray) : Bool := match D[lbD D s]? with | some x => x.nm.toList == s.toList | none => false
theorem lbN_d (T : List Tb) (s : ByteArray) : lbN T s = lbD (tds T) s := by
  unfold lbN lbD tds
  rw [List.findIdx_map]
  rfl
theorem plF_d (T : List Tb) (s : ByteArray) : plF T s = plD (tds T) s := by
  unfold plF plD
  rw [lbN_d]
  unfold tds
  rw [List.getElem?_map]
  cases T[lbD (T.map Tb.td) s]? <;> rfl
theorem tds_len (T : List Tb) : (tds T).length = T.length := List.length_map _
theorem tds_get (T : List Tb) (i : Nat) (h : i < T.length) : (tds T)[i]'(by rw [tds_len]; exact h) = T[i].td := List.getElem_map _
theorem tds_ins (T : List Tb) (x : Tb) (i j : Nat) : tds (T.take i ++ [x] ++ T.drop j) = (tds T).take i ++ [x.td] ++ (tds T).drop j := by
  unfold tds; simp [List.map_append, List.map_take, List.map_drop]
/-- Tables in order. -/
def SortD (D : List Td) : Prop := D.Pairwise fun x y => Op.bytesLess x.nm.toList y.nm.toList = true
theorem sort_d (T : List Tb) : SortT T ↔ SortD (tds T) := by
  unfold SortT SortD
  rw [List.pairwise_iff_getElem]
  constructor
  · intro h i j hi hj hij
    rw [tds_len] at hi hj
    rw [tds_get T i hi, tds_get T j hj]
    exact h i j hij hj
  · intro h i j hij hj
    have := h i j (by rw [tds_len]; omega) (by rw [tds_len]; exact hj) hij
    rw [tds_get T i (by omega), tds_get T j hj] at this
    exact this
theorem sortD_ins {D : List Td} {x : Td} (h : SortD D) (hp : plD D x.nm = false) : SortD (D.take (lbD D x.nm) ++ [x] ++ D.drop (lbD D x.nm)) := by
  have hlo : ∀ y ∈ D.take (lbD D x.nm), Op.bytesLess y.nm.toList x.nm.toList = true := fun y hy => by
    obtain ⟨i, hi, rfl⟩ := List.getElem_of_mem hy
    rw [List.length_take] at hi
    rw [List.getElem_take]
    have := List.not_of_lt_findIdx (xs := D) (p := fun y => !Op.bytesLess y.nm.toList x.nm.toList) (show i < lbD D x.nm by omega)
    simpa using this
  have hhi : ∀ y ∈ D.drop (lbD D x.nm), Op.bytesLess x.nm.toList y.nm.toList = true := fun y hy => by
    obtain ⟨i, hi, rfl⟩ := List.getElem_of_mem hy
    rw [List.length_drop] at hi
    rw [List.getElem_drop]
    have hk : lbD D x.nm < D.length := by omega
    have h0 : (!Op.bytesLess (D[lbD D x.nm]'hk).nm.toList x.nm.toList) = true := List.findIdx_getElem (w := hk)
    rw [Bool.not_eq_true'] at h0
    have h1 : ((D[lbD D x.nm]'hk).nm.toList == x.nm.toList) = false := by
      unfold plD at hp; rw [List.getElem?_eq_getElem hk] at hp; exact hp
    have h2 : Op.bytesLess x.nm.toList (D[lbD D x.nm]'hk).nm.toList = true := by
      cases h3 : Op.bytesLess x.nm.toList (D[lbD D x.nm]'hk).nm.toList
      · have := less_total _ _ h0 h3
        rw [this] at h1; simp at h1
      · rfl
    rcases Nat.eq_zero_or_pos i with rfl | hi0
    · simpa using h2
    · exact less_trans _ _ _ h2 ((List.pairwise_iff_getElem.1 h) _ _ hk (by omega) (by omega))
  unfold SortD at *
  rw [List.append_assoc, List.pairwise_append]
  refine ⟨h.sublist (List.take_sublist _ _), ?_, ?_⟩
  · rw [List.singleton_append, List.pairwise_cons]
    exact ⟨hhi, h.sublist (List.drop_sublist _ _)⟩
  · intro a ha b hb
    rw [List.singleton_append, List.mem_cons] at hb
    rcases hb with rfl | hb
    · exact hlo a ha
    · exact less_trans _ _ _ (hlo a ha) (hhi b hb)
end Go.Proofs.YtlhfdhmmdnkojaaGreatDoor
namespace Go.Proofs.YtlhfdhmmdnkojaaGreatDoor
open Go.RowKit Dg
/-- What a change does: the places that go, how many are new, and the error. -/
structure Dn where
  f : Nat
  t : Nat
  m : Nat
  e : Int
def Dn.val (d : Dn) : Value := .tuple #[.agg #[.int .i64 d.f, .int .i64 d.t, .int .i64 d.m], .int .i64 d.e]
def Dn.bad (e : Int) : Dn := ⟨0, 0, 0, e⟩
end Go.Proofs.YtlhfdhmmdnkojaaGreatDoor
namespace Go.Proofs.YtlhfdhmmdnkojaaGreatDoor
open Go.RowKit Dg
set_option maxRecDepth 100000
def kinds : Array MapEntry := #[⟨.int .i64 3, .func (.func 193) #[] #[], 0⟩, ⟨.int .i64 4, .func (.func 194) #[] #[], 1⟩, ⟨.int .i64 5, .func (.func 195) #[] #[], 2⟩]
end Go.Proofs.YtlhfdhmmdnkojaaGreatDoor
namespace Go.Proofs.YtlhfdhmmdnkojaaGreatDoor
open Go.RowKit Dg
def Dn.ok (d : Dn) (n : Nat) : Prop := d.e = 0 → d.f ≤ d.t ∧ d.t ≤ n ∧ d.m ≤ 1
end Go.Proofs.YtlhfdhmmdnkojaaGreatDoor
namespace Go.Proofs.YtlhfdhmmdnkojaaGreatDoor
open Go.RowKit Dg
/-- The error of a table that is made. -/
def fcE (T : List Tb) (tn : ByteArray) (L' : List Cl) (K' : Int) : Int :=
  if nameF tn = false then 6 else if plF T tn = true then 8 else if smayF L' K' = false then 1 else if 64 ≤ T.length then 13 else 0
section
variable {T : List Tb} {tn : ByteArray} {L' : List Cl} {K' : Int} {cn : ByteArray} {kd : Int} {no : Bool} {ck : Int}
theorem fcE_name (h : nameF tn = false) : fcE T tn L' K' = 6 := by unfold fcE; rw [if_pos h]
theorem fcE_there (h : nameF tn = true) (hp : plF T tn = true) : fcE T tn L' K' = 8 := by unfold fcE; rw [if_neg (by rw [h]; simp), if_pos hp]
theorem fcE_may (h : nameF tn = true) (hp : plF T tn = false) (hm : smayF L' K' = false) : fcE T tn L' K' = 1 := by unfold fcE; rw [if_neg (by rw [h]; simp), if_neg (by rw [hp]; simp), if_pos hm]
theorem fcE_many (h : nameF tn = true) (hp : plF T tn = false) (hm : smayF L' K' = true) (h6 : 64 ≤ T.length) : fcE T tn L' K' = 13 := by unfold fcE; rw [if_neg (by rw [h]; simp), if_neg (by rw [hp]; simp), if_neg (by rw [hm]; simp), if_pos h6]
theorem fcE_ok (h : nameF tn = true) (hp : plF T tn = false) (hm : smayF L' K' = true) (h6 : T.length < 64) : fcE T tn L' K' = 0 := by unfold fcE; rw [if_neg (by rw [h]; simp), if_neg (by rw [hp]; simp), if_neg (by rw [hm]; simp), if_neg (by omega)]
end
end Go.Proofs.YtlhfdhmmdnkojaaGreatDoor
