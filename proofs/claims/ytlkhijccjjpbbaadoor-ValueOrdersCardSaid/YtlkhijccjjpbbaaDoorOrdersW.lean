/-
  The law ValueOrders walked: keys of as many values stand in the order of those.
-/
import Derived.Test.YtlkhijccjjpbbaaDoorKeysW
import Derived.Test.YtlkhijccjjpbbaaDoorOrd
import Derived.Deep.RegionHeld3
namespace Go.Proofs.YtlkhijccjjpbbaaDoor.valueOrders
open Go.RowKit Dg
theorem hid_trans {B : Nat} {a b c : World} (h : Hid (Below B a b)) (k : Hid (Below b.heap.size b c)) (hB : B ≤ b.heap.size := by first | exact Nat.le_refl _ | exact Below.size (Hid.out (by assumption))) : Hid (Below B a c) := h.out.trans (k.out.mono hB)
theorem neq_of_less {x y : List UInt8} (h : Op.bytesLess x y = true) : (x == y) = false := by
  rw [beq_eq_false_iff_ne]
  rintro rfl
  rw [less_irrefl] at h
  cases h
theorem tailF (G G' : List Vl) (hl : G.length = G'.length) (hg : Good1 G) (hg' : Good1 G') :
    (cmpL G G' = -1 ∧ Op.bytesLess (bs (keys G)).toList (bs (keys G')).toList = true ∧ Op.bytesLess (bs (keys G')).toList (bs (keys G)).toList = false ∧ ((bs (keys G)).toList == (bs (keys G')).toList) = false) ∨
    (cmpL G G' = 0 ∧ bs (keys G) = bs (keys G')) ∨
    (cmpL G G' = 1 ∧ Op.bytesLess (bs (keys G)).toList (bs (keys G')).toList = false ∧ Op.bytesLess (bs (keys G')).toList (bs (keys G)).toList = true ∧ ((bs (keys G)).toList == (bs (keys G')).toList) = false) := by
  have b1 := valueKeys.keys_byte G
  have b2 := valueKeys.keys_byte G'
  rcases cmpL_range G G' with h | h | h
  · have hlt : Op.bytesLess (bs (keys G)).toList (bs (keys G')).toList = true := by rw [less_bs _ _ b1 b2]; exact keys_lt G G' hg hg' h
    exact .inl ⟨h, hlt, less_asymm _ _ hlt, neq_of_less hlt⟩
  · exact .inr (.inl ⟨h, by rw [cmpL_zero G G' hl h]⟩)
  · have h' : cmpL G' G = -1 := by rw [cmpL_turn G G', h]
    have hlt : Op.bytesLess (bs (keys G')).toList (bs (keys G)).toList = true := by rw [less_bs _ _ b2 b1]; exact keys_lt G' G hg' hg h'
    exact .inr (.inr ⟨h, less_asymm _ _ hlt, hlt, by
      have := neq_of_less hlt
      rw [beq_eq_false_iff_ne] at this ⊢
      exact fun e => this e.symm⟩)
theorem sb_take (s : ByteArray) (k : Nat) : sb (s.extract 0 k) = (sb s).take k := by
  simp [sb, List.map_take]
theorem preF (G G' : List Vl) (hl : G.length = G'.length) (hg : Good1 G) (hg' : Good1 G') : (bs (keys G)).size < (bs (keys G')).size → (((bs (keys G')).extract 0 (bs (keys G)).size).toList == (bs (keys G)).toList) = false := by
  intro hlt
  rw [beq_eq_false_iff_ne]
  intro e
  have e2 := congrArg sb (toList_inj e)
  rw [sb_take, sb_bs _ (valueKeys.keys_byte G'), sb_bs _ (valueKeys.keys_byte G), bs_size] at e2
  rw [bs_size, bs_size] at hlt
  have e3 : keys G' = keys G ++ (keys G').drop (keys G).length := by
    conv => lhs; rw [← List.take_append_drop (keys G).length (keys G'), e2]
  obtain ⟨M, h1, h2⟩ := keys_split G G' _ hg hg' e3
  have hM : M = [] := by
    have := congrArg List.length h1
    rw [List.length_append] at this
    exact List.eq_nil_of_length_eq_zero (by omega)
  rw [h1, hM, List.append_nil] at hlt
  omega
set_option maxHeartbeats 8000000 in
set_option maxRecDepth 100000 in
theorem walk (A : Option Addr) (n c : Nat) (L : List Vl) (A' : Option Addr) (n' c' : Nat) (L' : List Vl) (w : World) (hn : L.length = n) (hnc : n ≤ c) (hcm : c ≤ maxLen) (hA : VRow w A L) (hf : ∀ x ∈ L, x.fits) (hn' : L'.length = n') (hnc' : n' ≤ c') (hcm' : c' ≤ maxLen) (hA' : VRow w A' L') (hf' : ∀ x ∈ L', x.fits) (hT : Tabs w) :
    Calls Tryd.prog 5 #[.slice A n c, .slice A' n' c'] w fun e w' => e = .returned (.bool true) ∧ Below w.heap.size w w' := by
  have HT := Lib.hid hT
  clear hT
  have hc63 : (c : Int) ≤ 9223372036854775807 := by unfold maxLen at hcm; omega
  have hc63' : (c' : Int) ≤ 9223372036854775807 := by unfold maxLen at hcm'; omega
  obtain ⟨m, hm4, hmn, hmn', hmin⟩ : ∃ m : Nat, m ≤ 4 ∧ m ≤ n ∧ m ≤ n' ∧ ∀ ts t W, Sem.run Tryd.prog (Builtin.min_ ts t #[.int .i64 n, .int .i64 n', .int .i64 4]) W = .ok (.int .i64 (m : Nat)) W := by
    refine ⟨min (min n n') 4, by omega, by omega, by omega, fun ts t W => ?_⟩
    rw [run_min_int3]
    congr 2
    repeat' split
    all_goals omega
  have hmc : (m : Int) ≤ (c : Int) := by omega
  have hmc' : (m : Int) ≤ (c' : Int) := by omega
  have C1 := Lib.hid (goods_any A (L.take m) m c m w (by rw [List.length_take]; omega) (by omega) (by omega) hcm (valueKeys.row_take hA m) (fun x hx => hf x (List.mem_of_mem_take hx)))
  have C2 := Lib.hid (fun W (hb : Below w.heap.size w W) => goods_any A' (L'.take m) m c' m W (by rw [List.length_take]; omega) (by omega) (by omega) hcm' ((valueKeys.row_take hA' m).below hb) (fun x hx => hf' x (List.mem_of_mem_take hx)))
  have HG := Lib.hid (goods_fits (L.take m) m (fun x hx => hf x (List.mem_of_mem_take hx)))
  have HG' := Lib.hid (goods_fits (L'.take m) m (fun x hx => hf' x (List.mem_of_mem_take hx)))
  have HM := Lib.hid (goods_may (L.take m) m)
  have HM' := Lib.hid (goods_may (L'.take m) m)
  have HL : Hid ((goods (L.take m) m).length = m) := by show _ = _; rw [goods_len, List.length_take]; omega
  have HL' : Hid ((goods (L'.take m) m).length = m) := by show _ = _; rw [goods_len, List.length_take]; omega
  clear hn hnc hcm hA hf hn' hnc' hcm' hA' hf'
  unfold goods at *
  generalize ((L.take m).take m).map Vl.good = G at *
  generalize ((L'.take m).take m).map Vl.good = G' at *
  have hg1 : Good1 G := fun x hx => ⟨HM.out x hx, (HG.out x hx).1⟩
  have hg2 : Good1 G' := fun x hx => ⟨HM'.out x hx, (HG'.out x hx).1⟩
  have HTAIL := Lib.hid (tailF G G' (by rw [HL.out, HL'.out]) hg1 hg2)
  have HPRE := Lib.hid (preF G G' (by rw [HL.out, HL'.out]) hg1 hg2)
  clear hg1 hg2
  go_enter Tryd.func5, Tryd.ntmps5
  go_wp2_with fail
  refine C1.out.mono ?_
  rintro e w1 ⟨v1, rfl, HO1, HB1⟩
  go_wp2_with fail
  refine (C2.out _ HB1.out).mono ?_
  rintro e w2 ⟨v2, rfl, HO2, HB2'⟩
  have HB2 := Lib.hid (HB1.out.trans (HB2'.out.mono HB1.out.size))
  obtain ⟨A1, n1, c1, rfl, HN1, hnc1, hcm1, HV1, HZ1⟩ := ownV_open (HO1.out.below HB2'.out)
  obtain ⟨A2, n2, c2, rfl, HN2, hnc2, hcm2, HV2, HZ2⟩ := ownV_open HO2.out
  obtain rfl : n1 = m := by have h1 := HL.out; rw [HN1.out] at h1; exact h1
  obtain rfl : n2 = n1 := by have h1 := HL'.out; rw [HN2.out] at h1; exact h1
  clear HO1 HO2 HB2' HB1 C1 C2 hmin
  have K1 := Lib.hid (key_any A1 G n2 c1 w2 HN1.out (by omega) HV1.out (fun x hx => (HG.out x hx).1) (HT.out.below HB2.out) 0 _ (.inl ⟨HM.out, rfl, rfl⟩))
  have K2 := Lib.hid (fun W (hb : Below w2.heap.size w2 W) => key_any A2 G' n2 c2 W HN2.out (by omega) (HV2.out.below hb) (fun x hx => (HG'.out x hx).1) ((HT.out.below HB2.out).below hb) 0 _ (.inl ⟨HM'.out, rfl, rfl⟩))
  go_wp2_with fail
  refine K1.out.mono ?_
  rintro e w3 ⟨rfl, hb3⟩
  go_wp2_with fail
  refine (K2.out _ hb3.out).mono ?_
  rintro e w4 ⟨rfl, hb4⟩
  have HB4' := Lib.hid (hb3.out.trans (hb4.out.mono hb3.out.size))
  have HB4 := Lib.hid (HB2.out.trans (HB4'.out.mono HB2.out.size))
  have HV3 := Lib.hid (HV1.out.below HB4'.out)
  have HV4 := Lib.hid (HV2.out.below HB4'.out)
  clear hb3 hb4 HB4' K1 K2 HV1 HV2
  go_wp2_with fail
  go_loopw [12, 13] (fun x i wr => ∃ k : Nat, k ≤ n2 ∧ i = .int .i64 k ∧ x = .int .i64 (cmpL (G.take k) (G'.take k)) ∧ Hid (Below w4.heap.size w4 wr)) (fun _ i _ => n2 - (intOf i).toNat)
  case atStart => exact ⟨0, by omega, rfl, rfl, Below.refl _ _⟩
  case round =>
    obtain ⟨k, hk, rfl, rfl, HB⟩ := hrel
    by_cases hlt : k < n2
    · by_cases hz : cmpL (G.take k) (G'.take k) = 0
      · have hkl : k < G.length := by rw [HN1.out]; exact hlt
        have hkl' : k < G'.length := by rw [HN2.out]; exact hlt
        obtain ⟨b, off, rfl, hcc⟩ := (HV3.out.below HB.out) (by intro e; rw [e] at hkl; simp at hkl)
        obtain ⟨b', off', rfl, hcc'⟩ := (HV4.out.below HB.out) (by intro e; rw [e] at hkl'; simp at hkl')
        obtain ⟨p0, p1, p2⟩ := hcc k hkl
        obtain ⟨q0, q1, q2⟩ := hcc' k hkl'
        have HS : Hid (cmpL (G.take (k + 1)) (G'.take (k + 1)) = cmpF G[k].k G[k].n G[k].s G'[k].k G'[k].n G'[k].s) := by
          show _ = _
          rw [cmpL_succ G G' k hkl hkl', hz]; rfl
        clear hcc hcc'
        generalize G[k] = x at *
        generalize G'[k] = y at *
        obtain ⟨xk, xn, xs⟩ := x
        obtain ⟨yk, yn, ys⟩ := y
        simp only at p0 p1 p2 q0 q1 q2 HS
        rw [hz]
        have CQ := Lib.hid (refCompare_any xk xn yk yn xs ys)
        have hkc : (k : Int) < (n2 : Int) := by omega
        have hk0 : (0 : Int) ≤ (k : Int) := by omega
        have HBd := hidB_drew HB
        go_wp2_with fail
        go_region_held3 (fun W => Hid (Below w4.heap.size w4 W) ∧ W.cell? ⟨b, off + k * 3, none⟩ = some (.int .i64 xk) ∧ W.cell? ⟨b, off + k * 3 + 1, none⟩ = some (.int .i64 xn) ∧ W.cell? ⟨b, off + k * 3 + 2, none⟩ = some (.string xs) ∧ W.cell? ⟨b', off' + k * 3, none⟩ = some (.int .i64 yk) ∧ W.cell? ⟨b', off' + k * 3 + 1, none⟩ = some (.int .i64 yn) ∧ W.cell? ⟨b', off' + k * 3 + 2, none⟩ = some (.string ys)) ((first | assumption | (refine ⟨(by first | assumption | exact hidB_drew (by assumption)), ?_⟩; go_keep)))
          (first | (go_at_call 13; refine (CQ.out _).mono ?_; rintro e x1 ⟨rfl, hb1⟩; have HB9 : Hid (Below w4.heap.size w4 x1) := hid_trans (by assumption) hb1; have i0 : x1.cell? ⟨b, off + k * 3, none⟩ = some (.int .i64 xk) := (hb1.out.cell (World.block_lt_of_cell? _ _ (by assumption))).trans (by assumption); have i1 : x1.cell? ⟨b, off + k * 3 + 1, none⟩ = some (.int .i64 xn) := (hb1.out.cell (World.block_lt_of_cell? _ _ (by assumption))).trans (by assumption); have i2 : x1.cell? ⟨b, off + k * 3 + 2, none⟩ = some (.string xs) := (hb1.out.cell (World.block_lt_of_cell? _ _ (by assumption))).trans (by assumption); have i3 : x1.cell? ⟨b', off' + k * 3, none⟩ = some (.int .i64 yk) := (hb1.out.cell (World.block_lt_of_cell? _ _ (by assumption))).trans (by assumption); have i4 : x1.cell? ⟨b', off' + k * 3 + 1, none⟩ = some (.int .i64 yn) := (hb1.out.cell (World.block_lt_of_cell? _ _ (by assumption))).trans (by assumption); have i5 : x1.cell? ⟨b', off' + k * 3 + 2, none⟩ = some (.string ys) := (hb1.out.cell (World.block_lt_of_cell? _ _ (by assumption))).trans (by assumption); clear hb1))
        all_goals
          go_wp2_with fail
          go_roundw
          case rel => exact ⟨k + 1, by omega, by go_num, by rw [HS.out], by assumption⟩
          case measure => simp [intOf]; omega
      · have hzz : (cmpL (G.take k) (G'.take k) == 0) = false := by simp [hz]
        have HV : Hid (cmpL (G.take k) (G'.take k) = cmpL G G') := (cmpL_stop G G' k hz).symm
        rw [HV.out] at hzz ⊢
        clear hz
        clear HV3 HV4
        have HB5 := Lib.hid (HB4.out.trans (HB.out.mono HB4.out.size))
        generalize cmpL G G' = V at *
        generalize bs (keys G) = S1 at *
        generalize bs (keys G') = S2 at *
        have HLV := Lib.hid (lives_any wr (HT.out.below HB5.out))
        have hpre := HPRE.out
        rcases HTAIL.out with ⟨rfl, l12, l21, leq⟩ | ⟨rfl, rfl⟩ | ⟨rfl, l12, l21, leq⟩
        · by_cases hsz : S1.size < S2.size
          · have hp := hpre hsz
            clear hpre
            go_wp2_with fail
            refine HLV.out.mono ?_
            rintro e w8 ⟨rfl, hb8⟩
            have HB8 := Lib.hid (HB5.out.trans (hb8.mono HB5.out.size))
            clear hb8
            go_wp2_with fail
            go_ret
            exact ⟨rfl, HB8.out⟩
          · clear hpre
            go_wp2_with fail
            refine HLV.out.mono ?_
            rintro e w8 ⟨rfl, hb8⟩
            have HB8 := Lib.hid (HB5.out.trans (hb8.mono HB5.out.size))
            clear hb8
            go_wp2_with fail
            go_ret
            exact ⟨rfl, HB8.out⟩
        · exact absurd hzz (by simp)
        · by_cases hsz : S1.size < S2.size
          · have hp := hpre hsz
            clear hpre
            go_wp2_with fail
            refine HLV.out.mono ?_
            rintro e w8 ⟨rfl, hb8⟩
            have HB8 := Lib.hid (HB5.out.trans (hb8.mono HB5.out.size))
            clear hb8
            go_wp2_with fail
            go_ret
            exact ⟨rfl, HB8.out⟩
          · clear hpre
            go_wp2_with fail
            refine HLV.out.mono ?_
            rintro e w8 ⟨rfl, hb8⟩
            have HB8 := Lib.hid (HB5.out.trans (hb8.mono HB5.out.size))
            clear hb8
            go_wp2_with fail
            go_ret
            exact ⟨rfl, HB8.out⟩
    · have hke : k = n2 := by omega
      have HV : Hid (cmpL (G.take k) (G'.take k) = cmpL G G') := by show _ = _; rw [List.take_of_length_le (by rw [HN1.out]; omega), List.take_of_length_le (by rw [HN2.out]; omega)]
      rw [HV.out]
      clear HV3 HV4
      have HB5 := Lib.hid (HB4.out.trans (HB.out.mono HB4.out.size))
      generalize cmpL G G' = V at *
      generalize bs (keys G) = S1 at *
      generalize bs (keys G') = S2 at *
      have HLV := Lib.hid (lives_any wr (HT.out.below HB5.out))
      have hpre := HPRE.out
      rcases HTAIL.out with ⟨rfl, l12, l21, leq⟩ | ⟨rfl, rfl⟩ | ⟨rfl, l12, l21, leq⟩
      · by_cases hsz : S1.size < S2.size
        · have hp := hpre hsz
          clear hpre
          go_wp2_with fail
          refine HLV.out.mono ?_
          rintro e w8 ⟨rfl, hb8⟩
          have HB8 := Lib.hid (HB5.out.trans (hb8.mono HB5.out.size))
          clear hb8
          go_wp2_with fail
          go_ret
          exact ⟨rfl, HB8.out⟩
        · clear hpre
          go_wp2_with fail
          refine HLV.out.mono ?_
          rintro e w8 ⟨rfl, hb8⟩
          have HB8 := Lib.hid (HB5.out.trans (hb8.mono HB5.out.size))
          clear hb8
          go_wp2_with fail
          go_ret
          exact ⟨rfl, HB8.out⟩
      · have l11 := less_irrefl S1.toList
        clear hpre
        go_wp2_with fail
        refine HLV.out.mono ?_
        rintro e w8 ⟨rfl, hb8⟩
        have HB8 := Lib.hid (HB5.out.trans (hb8.mono HB5.out.size))
        clear hb8
        go_wp2_with fail
        go_ret
        exact ⟨rfl, HB8.out⟩
      · by_cases hsz : S1.size < S2.size
        · have hp := hpre hsz
          clear hpre
          go_wp2_with fail
          refine HLV.out.mono ?_
          rintro e w8 ⟨rfl, hb8⟩
          have HB8 := Lib.hid (HB5.out.trans (hb8.mono HB5.out.size))
          clear hb8
          go_wp2_with fail
          go_ret
          exact ⟨rfl, HB8.out⟩
        · clear hpre
          go_wp2_with fail
          refine HLV.out.mono ?_
          rintro e w8 ⟨rfl, hb8⟩
          have HB8 := Lib.hid (HB5.out.trans (hb8.mono HB5.out.size))
          clear hb8
          go_wp2_with fail
          go_ret
          exact ⟨rfl, HB8.out⟩
end Go.Proofs.YtlkhijccjjpbbaaDoor.valueOrders
