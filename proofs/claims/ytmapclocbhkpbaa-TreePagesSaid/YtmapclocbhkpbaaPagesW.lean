/-
  TreePages, walked.
-/
import Derived.Test.YtmapclocbhkpbaaRTi
import Derived.Deep.DeepCutAuto
namespace Go.Proofs.Ytmapclocbhkpbaa.treePages
open Go.RowKit Go.Maps Dg
set_option linter.unusedVariables false
theorem strs_at {w wr : World} {A : Option Addr} {L : List ByteArray} (hr : Strs w A L) (hI : Below w.heap.size w wr) {i : Nat} (hi : i < L.length) :
    ∃ b off, A = some ⟨b, off, none⟩ ∧ wr.cell? ⟨b, off + i, none⟩ = some (.string L[i]) := by
  obtain ⟨b, off, e, hc⟩ := hr (by intro e; rw [e] at hi; simp at hi)
  exact ⟨b, off, e, (hI.cell (p := ⟨b, off + i, none⟩) (World.block_lt_of_cell? w _ (hc i hi))).trans (hc i hi)⟩
abbrev mark : ByteArray := ⟨#[33]⟩
theorem marked_ne (s : ByteArray) : s ++ mark ≠ ⟨#[]⟩ := fun h => by
  have : (s ++ mark).size = (⟨#[]⟩ : ByteArray).size := by rw [h]
  rw [ByteArray.size_append] at this
  have h1 : mark.size = 1 := rfl
  have h2 : (⟨#[]⟩ : ByteArray).size = 0 := rfl
  omega
theorem marked_size (s : ByteArray) : (fewS s ++ mark).size ≤ 9 := by
  rw [ByteArray.size_append]
  have h1 : mark.size = 1 := rfl
  have := fewS_size s
  omega
set_option maxHeartbeats 8000000 in
set_option maxRecDepth 100000 in
theorem walk (A : Option Addr) (n c : Nat) (L0 : List ByteArray) (most : Int) (w : World) (hl0 : L0.length = n) (hnc : n ≤ c) (hcm : c ≤ maxLen) (hr0 : Strs w A L0) (hmo : -9223372036854775808 ≤ most ∧ most ≤ 9223372036854775807) :
    Calls Try.prog 6 #[.slice A n c, .int .i64 most] w fun e w' => e = .returned (.bool true) ∧ Below w.heap.size w w' := by
  have hcI : (c : Int) ≤ 9223372036854775807 := by unfold maxLen at hcm; omega
  obtain ⟨p, ep⟩ : ∃ p : Nat, Hid ((if most < 0 then -(most + 1) else most) = (p : Int)) := ⟨(if most < 0 then -(most + 1) else most).toNat, by show _ = _; split <;> omega⟩
  have hp : (p : Int) ≤ 9223372036854775807 := by have := ep.out; split at this <;> omega
  obtain ⟨q, hq⟩ : ∃ q : Nat, q = p % 5 := ⟨_, rfl⟩
  have hq5 : q < 5 := by omega
  have HQ : Hid ((p : Int) % 5 = (q : Int)) := by show _ = _; rw [hq]; rfl
  clear hq
  have HL := Lib.hid hl0
  have HR := Lib.hid hr0
  clear hl0 hr0
  go_enter Try.func6, Try.ntmps6
  go_wp2_with fail
  refine (tnew_any w).mono ?_
  rintro e w1 ⟨rfl, h1, b1⟩
  have H1 := Lib.hid h1
  have HB1 := Lib.hid b1
  clear h1 b1
  go_wp2_with fail
  go_loopw [6] (fun u wr => ∃ (i : Nat) (T : Tr), i ≤ 40 ∧ i ≤ n ∧ u = .int .i64 i ∧ Hid (TrAt w.heap.size wr T) ∧ Hid (T.con.length ≤ i) ∧ Hid (∀ x ∈ T.con, x.1 ≠ ⟨#[]⟩) ∧ Hid (Below w.heap.size w wr)) (fun u _ => 40 - (intOf u).toNat)
  case atStart => exact ⟨0, .nil, by omega, by omega, rfl, H1, Nat.le_refl 0, fun x hx => (by cases hx), HB1⟩
  case round =>
    obtain ⟨i, T, hi, hin, rfl, HT, HLen, HNE, HI⟩ := hrel
    by_cases hlt : i < n
    · have hiI : (i : Int) < (n : Int) := by omega
      by_cases hl4 : i < 40
      · have hi4 : (i : Int) < 40 := by omega
        have hil : i < L0.length := by rw [HL.out]; exact hlt
        obtain ⟨b, off, rfl, c0⟩ := strs_at HR.out HI.out hil
        generalize L0[i] = s at *
        have hs1 : (fewS s).size ≤ 8 := fewS_size s
        have hs2 : ¬ 9223372036854775807 < (fewS s).size + 1 := by omega
        go_wp2_with fail
        refine (few_any _ s).mono ?_
        rintro e w2 ⟨rfl, rfl⟩
        go_wp2_with fail
        refine (tput_any HT.out (by have := HLen.out; omega) (fewS s ++ mark) (by have := marked_size s; omega) i).mono ?_
        rintro e w3 ⟨rfl, T', h3, c3, t3⟩
        have H3 := Lib.hid h3
        have HB3 := Lib.hid (HI.out.trans (t3.below (by simp) HI.out.size))
        have HLen3 : Hid (T'.con.length ≤ i + 1) := by
          show T'.con.length ≤ i + 1
          rw [c3]
          have := putL_len (k := fewS s ++ mark) (v := (i : Int)) T.con
          have := HLen.out
          omega
        have HN3 : Hid (∀ x ∈ T'.con, x.1 ≠ ⟨#[]⟩) := by
          show ∀ x ∈ T'.con, x.1 ≠ ⟨#[]⟩
          rw [c3]
          intro x hx
          rcases putL_mem2 hx with e | hx
          · rw [e]; exact marked_ne _
          · exact HNE.out x hx
        clear h3 t3 c3 HT HLen HNE HI
        go_wp2_with fail
        go_roundw
        case rel => exact ⟨i + 1, T', by omega, by omega, by go_num, H3, HLen3, HN3, HB3⟩
        case measure => simp [intOf]; omega
      · have hi4 : ¬ (i : Int) < 40 := by omega
        have HLn : Hid (T.con.length ≤ 40) := by
          show T.con.length ≤ 40
          have := HLen.out
          omega
        clear HLen
        go_upto_if 34 with (fail)
        go_cut [1] (fun s1 wx => s1 = .int .i64 p ∧ wr = wx)
        case first =>
          by_cases gn : most < 0
          · have E2 : Hid (-(most + 1) = (p : Int)) := by show _ = _; rw [← ep.out, if_pos gn]
            have hq : decide (most < 0) = true := decide_eq_true gn
            go_wp2_with fail
            go_meet
            exact ⟨by rw [← E2.out], rfl⟩
          · have E2 : Hid (most = (p : Int)) := by show _ = _; rw [← ep.out, if_neg gn]
            have hq : decide (most < 0) = false := decide_eq_false gn
            go_wp2_with fail
            go_meet
            exact ⟨by rw [← E2.out], rfl⟩
        case rest =>
          obtain ⟨rfl, rfl⟩ := hcut
          go_wp2_with fail
          rw [HQ.out]
          have hT40 : T.con.length ≤ 40 := HLn.out
          have hq0 : (0 : Int) ≤ (q : Int) := Int.natCast_nonneg _
          go_loopw [7, 8, 9] (fun u7 u8 u9 wz => ∃ (m i : Nat), m ≤ T.con.length ∧ i ≤ m ∧ u9 = .int .i64 i ∧ u8 = .string (lastK T.con m) ∧ Hid (OwnS w.heap.size wz u7 ((T.con.map (fun x : ByteArray × Int => x.1)).take m)) ∧ Hid (TrAt w.heap.size wz T) ∧ Hid (Below w.heap.size w wz)) (fun _ _ u9 _ => 45 - (intOf u9).toNat)
          case atStart => exact ⟨0, 0, by omega, by omega, rfl, rfl, ownS_nil _ _, HT, HI⟩
          case round =>
            obtain ⟨m, i, hm, him, rfl, rfl, HO, HT2, HI2⟩ := hrel
            have hi45 : (i : Int) < 45 := by omega
            have hmost : ¬ (1 + (q : Int)) < 1 := by omega
            have HK := Lib.hid (keys_any _ w.heap.size T HT2.out.tr HT2.out.top (by rw [← con_len]; omega) (lastK T.con m) (1 + (q : Int)))
            rw [keysF_con HT2.out.ris, keysL_page HT2.out.ris HNE.out hm hmost] at HK
            obtain ⟨pp, hpp⟩ : ∃ pp : Nat, pp = (1 + (q : Int)).toNat := ⟨_, rfl⟩
            have hpp1 : 1 ≤ pp := by omega
            rw [← hpp] at HK
            clear hpp
            generalize lastK T.con m = lk at *
            go_wp2_with fail
            refine HK.out.mono ?_
            rintro e w3 ⟨v, rfl, ho, b3⟩
            obtain ⟨A3, n3, c3, rfl, hn3, hnc3, hcm3, hcs, hz3⟩ := ownS_row ho
            have HO3 := Lib.hid (HO.out.below b3)
            have HT3 := Lib.hid (HT2.out.below b3)
            have HI3 := Lib.hid (HI2.out.trans (b3.mono HI2.out.size))
            have hn40 : n3 ≤ 40 := by
              rw [← hn3, List.length_take, List.length_drop, List.length_map]
              omega
            have hap := appSS w3 w.heap.size _ _ A3 n3 c3 _ HO3.out HI3.out.size hn3 hcs (fun e => ⟨by have := hz3 e; omega, hz3 e⟩) (by rw [List.length_take, List.length_map]; omega)
            rw [page_more, hn3] at hap
            have HA := Lib.hid hap
            have hfar : ∀ a, A3 = some a → ∀ g, Value.ownBlock _ = some g → a.block ≠ g := fun a ha g hg e => by
              have h1 := (HO.out.lt hg).2
              have h2 := (ho.lt (g := a.block) (by rw [ha]; rfl)).1
              omega
            have HF := Lib.hid hfar
            have HCS := Lib.hid (show RdS w3 A3 _ from hcs)
            have HN3 := Lib.hid hn3
            clear ho hcs hap hfar HK hz3 b3
            rcases n3 with _ | k
            · have hmK : m = T.con.length := by
                rw [List.length_take, List.length_drop, List.length_map] at hn3
                omega
              rw [show (T.con.map (fun x : ByteArray × Int => x.1)).take (m + 0) = T.con.map (fun x : ByteArray × Int => x.1) by rw [hmK, List.take_of_length_le (by rw [List.length_map]; omega)]] at HA
              clear hn3 HN3 HCS HF hmK hm him hnc3
              go_wp2_with (at_builtin; refine wpList_app rfl _ _ 26 26 rfl _ (.slice A3 0 c3) rfl rfl ?_; obtain ⟨R, w4, hrun, ho4, t4, -⟩ := HA.out; refine ⟨R, w4, hrun, ?_⟩; have HO4 := Lib.hid ho4; have HT4 := Lib.hid (HT3.out.turS HO3.out t4); obtain ⟨Aa, na, ca, rfl, hna, hnca, hcma, hcsa, hza⟩ := ownS_row ho4; have HI4 := Lib.hid (HI3.out.trans (t4.below (by intro g hg; exact (HO3.out.lt (by simpa using hg)).1) HI3.out.size)); clear hrun ho4 t4 HA)
              rw [List.length_map] at hna
              have HNA := Lib.hid hna
              have HCA : Hid (RdS w4 Aa (T.con.map (fun x : ByteArray × Int => x.1))) := hcsa
              have hna40 : na ≤ 40 := by omega
              have HKY := Lib.hid (keys_any w4 w.heap.size T HT4.out.tr HT4.out.top (by rw [← con_len]; omega) ⟨#[]⟩ 100)
              rw [keysF_con HT4.out.ris, keysL_all (by decide) (by omega)] at HKY
              clear hcsa hza hna HO4 HO3
              refine HKY.out.mono ?_
              rintro e w5 ⟨v5, rfl, ho5, b5⟩
              obtain ⟨A5, n5, c5, rfl, hn5, hnc5, hcm5, hcs5, -⟩ := ownS_row ho5
              rw [List.length_map, HNA.out] at hn5
              subst hn5
              have HSM := Lib.hid (same_any (T.con.map (fun x : ByteArray × Int => x.1)) w5 Aa A5 na ca c5 (by rw [List.length_map]; exact HNA.out) (HCA.out.below b5) (show RdS w5 A5 (T.con.map (fun x : ByteArray × Int => x.1)) from hcs5) (by omega))
              have HT5 := Lib.hid (HT4.out.below b5)
              have HI5 := Lib.hid (HI4.out.trans (b5.mono HI4.out.size))
              clear ho5 b5 hcs5 HKY HT4 HCA
              go_wp2_with fail
              refine HSM.out.mono ?_
              rintro e w6 ⟨rfl, k6, rfl⟩
              have hb6 : Below w5.heap.size w5 (w5.drewN k6) := Below.drewN (Below.refl _ w5) k6
              have HN6 := Lib.hid (len_any (HT5.out.below hb6))
              rw [HNA.out] at HN6
              have HI6 : Hid (Below w.heap.size w (w5.drewN k6)) := Below.drewN HI5.out k6
              clear hb6 HSM HT5 HT3 HT2
              generalize w5.drewN k6 = w6 at *
              go_wp2_with fail
              refine HN6.out.mono ?_
              rintro e w7 ⟨rfl, rfl⟩
              go_wp2_with fail
              refine (lives_any w7).mono ?_
              rintro e w8 ⟨rfl, b8⟩
              have HI8 := Lib.hid (HI6.out.trans (b8.mono HI6.out.size))
              clear b8
              go_wp2_with fail
              go_ret
              exact ⟨rfl, HI8.out⟩
            · have hkM : k < ((T.con.map (fun x : ByteArray × Int => x.1)).drop m |>.take pp).length := by rw [hn3]; omega
              have hmk : m + (k + 1) ≤ T.con.length := by
                rw [List.length_take, List.length_drop, List.length_map] at hn3
                omega
              obtain ⟨b, off, rfl, c0⟩ := HCS.out k hkM
              have hlast : ((T.con.map (fun x : ByteArray × Int => x.1)).drop m |>.take pp)[k] = lastK T.con (m + (k + 1)) := by
                rw [List.getElem_take, List.getElem_drop, List.getElem_map, ← Nat.add_assoc, lastK_succ (by omega)]
              rw [hlast] at c0
              have hbg : ∀ g, u7.ownBlock = some g → b ≠ g := HF.out ⟨b, off, none⟩ rfl
              have HBG := Lib.hid hbg
              have hlt3 : b < w3.heap.size := World.block_lt_of_cell? w3 _ c0
              have hk1 : ((k + 1 : Nat) : Int) - 1 = (k : Int) := by omega
              have hkn : (k : Int) < ((k + 1 : Nat) : Int) := by omega
              obtain ⟨lk2, HLK⟩ : ∃ lk2, Hid (lk2 = lastK T.con (m + (k + 1))) := ⟨_, Lib.hid rfl⟩
              rw [← HLK.out] at c0
              clear hn3 HN3 HCS HF hlast hkM hbg
              go_wp2_with (at_builtin; refine wpList_app rfl _ _ 26 26 rfl _ (.slice (some ⟨b, off, none⟩) (k + 1) c3) rfl rfl ?_; obtain ⟨R, w4, hrun, ho4, t4, -⟩ := HA.out; refine ⟨R, w4, hrun, ?_⟩; have HO4 := Lib.hid ho4; have HT4 := Lib.hid (HT3.out.turS HO3.out t4); have c4 := (cell_same (off := off + k) (t4.block b hlt3 (fun hx => HBG.out b (by simpa using hx) rfl))).trans c0; have HI4 := Lib.hid (HI3.out.trans (t4.below (by intro g hg; exact (HO3.out.lt (by simpa using hg)).1) HI3.out.size)); clear hrun ho4 t4 HA)
              go_roundw
              case rel => exact ⟨m + (k + 1), i + 1, hmk, by omega, by go_num, by rw [HLK.out], HO4, HT4, HI4⟩
              case measure => simp [intOf] <;> omega
    · have hiI : ¬ (i : Int) < (n : Int) := by omega
      have HLn : Hid (T.con.length ≤ 40) := by
        show T.con.length ≤ 40
        have := HLen.out
        omega
      clear HLen
      go_upto_if 34 with (fail)
      go_cut [1] (fun s1 wx => s1 = .int .i64 p ∧ wr = wx)
      case first =>
        by_cases gn : most < 0
        · have E2 : Hid (-(most + 1) = (p : Int)) := by show _ = _; rw [← ep.out, if_pos gn]
          have hq : decide (most < 0) = true := decide_eq_true gn
          go_wp2_with fail
          go_meet
          exact ⟨by rw [← E2.out], rfl⟩
        · have E2 : Hid (most = (p : Int)) := by show _ = _; rw [← ep.out, if_neg gn]
          have hq : decide (most < 0) = false := decide_eq_false gn
          go_wp2_with fail
          go_meet
          exact ⟨by rw [← E2.out], rfl⟩
      case rest =>
        obtain ⟨rfl, rfl⟩ := hcut
        go_wp2_with fail
        rw [HQ.out]
        have hT40 : T.con.length ≤ 40 := HLn.out
        have hq0 : (0 : Int) ≤ (q : Int) := Int.natCast_nonneg _
        go_loopw [7, 8, 9] (fun u7 u8 u9 wz => ∃ (m i : Nat), m ≤ T.con.length ∧ i ≤ m ∧ u9 = .int .i64 i ∧ u8 = .string (lastK T.con m) ∧ Hid (OwnS w.heap.size wz u7 ((T.con.map (fun x : ByteArray × Int => x.1)).take m)) ∧ Hid (TrAt w.heap.size wz T) ∧ Hid (Below w.heap.size w wz)) (fun _ _ u9 _ => 45 - (intOf u9).toNat)
        case atStart => exact ⟨0, 0, by omega, by omega, rfl, rfl, ownS_nil _ _, HT, HI⟩
        case round =>
          obtain ⟨m, i, hm, him, rfl, rfl, HO, HT2, HI2⟩ := hrel
          have hi45 : (i : Int) < 45 := by omega
          have hmost : ¬ (1 + (q : Int)) < 1 := by omega
          have HK := Lib.hid (keys_any _ w.heap.size T HT2.out.tr HT2.out.top (by rw [← con_len]; omega) (lastK T.con m) (1 + (q : Int)))
          rw [keysF_con HT2.out.ris, keysL_page HT2.out.ris HNE.out hm hmost] at HK
          obtain ⟨pp, hpp⟩ : ∃ pp : Nat, pp = (1 + (q : Int)).toNat := ⟨_, rfl⟩
          have hpp1 : 1 ≤ pp := by omega
          rw [← hpp] at HK
          clear hpp
          generalize lastK T.con m = lk at *
          go_wp2_with fail
          refine HK.out.mono ?_
          rintro e w3 ⟨v, rfl, ho, b3⟩
          obtain ⟨A3, n3, c3, rfl, hn3, hnc3, hcm3, hcs, hz3⟩ := ownS_row ho
          have HO3 := Lib.hid (HO.out.below b3)
          have HT3 := Lib.hid (HT2.out.below b3)
          have HI3 := Lib.hid (HI2.out.trans (b3.mono HI2.out.size))
          have hn40 : n3 ≤ 40 := by
            rw [← hn3, List.length_take, List.length_drop, List.length_map]
            omega
          have hap := appSS w3 w.heap.size _ _ A3 n3 c3 _ HO3.out HI3.out.size hn3 hcs (fun e => ⟨by have := hz3 e; omega, hz3 e⟩) (by rw [List.length_take, List.length_map]; omega)
          rw [page_more, hn3] at hap
          have HA := Lib.hid hap
          have hfar : ∀ a, A3 = some a → ∀ g, Value.ownBlock _ = some g → a.block ≠ g := fun a ha g hg e => by
            have h1 := (HO.out.lt hg).2
            have h2 := (ho.lt (g := a.block) (by rw [ha]; rfl)).1
            omega
          have HF := Lib.hid hfar
          have HCS := Lib.hid (show RdS w3 A3 _ from hcs)
          have HN3 := Lib.hid hn3
          clear ho hcs hap hfar HK hz3 b3
          rcases n3 with _ | k
          · have hmK : m = T.con.length := by
              rw [List.length_take, List.length_drop, List.length_map] at hn3
              omega
            rw [show (T.con.map (fun x : ByteArray × Int => x.1)).take (m + 0) = T.con.map (fun x : ByteArray × Int => x.1) by rw [hmK, List.take_of_length_le (by rw [List.length_map]; omega)]] at HA
            clear hn3 HN3 HCS HF hmK hm him hnc3
            go_wp2_with (at_builtin; refine wpList_app rfl _ _ 26 26 rfl _ (.slice A3 0 c3) rfl rfl ?_; obtain ⟨R, w4, hrun, ho4, t4, -⟩ := HA.out; refine ⟨R, w4, hrun, ?_⟩; have HO4 := Lib.hid ho4; have HT4 := Lib.hid (HT3.out.turS HO3.out t4); obtain ⟨Aa, na, ca, rfl, hna, hnca, hcma, hcsa, hza⟩ := ownS_row ho4; have HI4 := Lib.hid (HI3.out.trans (t4.below (by intro g hg; exact (HO3.out.lt (by simpa using hg)).1) HI3.out.size)); clear hrun ho4 t4 HA)
            rw [List.length_map] at hna
            have HNA := Lib.hid hna
            have HCA : Hid (RdS w4 Aa (T.con.map (fun x : ByteArray × Int => x.1))) := hcsa
            have hna40 : na ≤ 40 := by omega
            have HKY := Lib.hid (keys_any w4 w.heap.size T HT4.out.tr HT4.out.top (by rw [← con_len]; omega) ⟨#[]⟩ 100)
            rw [keysF_con HT4.out.ris, keysL_all (by decide) (by omega)] at HKY
            clear hcsa hza hna HO4 HO3
            refine HKY.out.mono ?_
            rintro e w5 ⟨v5, rfl, ho5, b5⟩
            obtain ⟨A5, n5, c5, rfl, hn5, hnc5, hcm5, hcs5, -⟩ := ownS_row ho5
            rw [List.length_map, HNA.out] at hn5
            subst hn5
            have HSM := Lib.hid (same_any (T.con.map (fun x : ByteArray × Int => x.1)) w5 Aa A5 na ca c5 (by rw [List.length_map]; exact HNA.out) (HCA.out.below b5) (show RdS w5 A5 (T.con.map (fun x : ByteArray × Int => x.1)) from hcs5) (by omega))
            have HT5 := Lib.hid (HT4.out.below b5)
            have HI5 := Lib.hid (HI4.out.trans (b5.mono HI4.out.size))
            clear ho5 b5 hcs5 HKY HT4 HCA
            go_wp2_with fail
            refine HSM.out.mono ?_
            rintro e w6 ⟨rfl, k6, rfl⟩
            have hb6 : Below w5.heap.size w5 (w5.drewN k6) := Below.drewN (Below.refl _ w5) k6
            have HN6 := Lib.hid (len_any (HT5.out.below hb6))
            rw [HNA.out] at HN6
            have HI6 : Hid (Below w.heap.size w (w5.drewN k6)) := Below.drewN HI5.out k6
            clear hb6 HSM HT5 HT3 HT2
            generalize w5.drewN k6 = w6 at *
            go_wp2_with fail
            refine HN6.out.mono ?_
            rintro e w7 ⟨rfl, rfl⟩
            go_wp2_with fail
            refine (lives_any w7).mono ?_
            rintro e w8 ⟨rfl, b8⟩
            have HI8 := Lib.hid (HI6.out.trans (b8.mono HI6.out.size))
            clear b8
            go_wp2_with fail
            go_ret
            exact ⟨rfl, HI8.out⟩
          · have hkM : k < ((T.con.map (fun x : ByteArray × Int => x.1)).drop m |>.take pp).length := by rw [hn3]; omega
            have hmk : m + (k + 1) ≤ T.con.length := by
              rw [List.length_take, List.length_drop, List.length_map] at hn3
              omega
            obtain ⟨b, off, rfl, c0⟩ := HCS.out k hkM
            have hlast : ((T.con.map (fun x : ByteArray × Int => x.1)).drop m |>.take pp)[k] = lastK T.con (m + (k + 1)) := by
              rw [List.getElem_take, List.getElem_drop, List.getElem_map, ← Nat.add_assoc, lastK_succ (by omega)]
            rw [hlast] at c0
            have hbg : ∀ g, u7.ownBlock = some g → b ≠ g := HF.out ⟨b, off, none⟩ rfl
            have HBG := Lib.hid hbg
            have hlt3 : b < w3.heap.size := World.block_lt_of_cell? w3 _ c0
            have hk1 : ((k + 1 : Nat) : Int) - 1 = (k : Int) := by omega
            have hkn : (k : Int) < ((k + 1 : Nat) : Int) := by omega
            obtain ⟨lk2, HLK⟩ : ∃ lk2, Hid (lk2 = lastK T.con (m + (k + 1))) := ⟨_, Lib.hid rfl⟩
            rw [← HLK.out] at c0
            clear hn3 HN3 HCS HF hlast hkM hbg
            go_wp2_with (at_builtin; refine wpList_app rfl _ _ 26 26 rfl _ (.slice (some ⟨b, off, none⟩) (k + 1) c3) rfl rfl ?_; obtain ⟨R, w4, hrun, ho4, t4, -⟩ := HA.out; refine ⟨R, w4, hrun, ?_⟩; have HO4 := Lib.hid ho4; have HT4 := Lib.hid (HT3.out.turS HO3.out t4); have c4 := (cell_same (off := off + k) (t4.block b hlt3 (fun hx => HBG.out b (by simpa using hx) rfl))).trans c0; have HI4 := Lib.hid (HI3.out.trans (t4.below (by intro g hg; exact (HO3.out.lt (by simpa using hg)).1) HI3.out.size)); clear hrun ho4 t4 HA)
            go_roundw
            case rel => exact ⟨m + (k + 1), i + 1, hmk, by omega, by go_num, by rw [HLK.out], HO4, HT4, HI4⟩
            case measure => simp [intOf] <;> omega
end Go.Proofs.Ytmapclocbhkpbaa.treePages
