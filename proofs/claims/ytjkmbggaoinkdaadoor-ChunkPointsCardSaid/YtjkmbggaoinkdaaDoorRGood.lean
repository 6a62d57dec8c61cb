/-
  Good works made of any: the document's Good.
-/
import Derived.Test.YtjkmbggaoinkdaaDoorGdM
namespace Go.Proofs.YtjkmbggaoinkdaaDoor
open Go.RowKit Dg
set_option maxRecDepth 100000
/-- What stands while Good goes on. -/
structure GSw (w wr : World) (u : Value) (T : List Wk) : Prop where
  own : OwnW (w.heap.size + 1) wr u T
  bel : Below w.heap.size w wr
  pool : Has wr w.heap.size 9 #[.string ⟨#[116]⟩, .string ⟨#[117]⟩, .string ⟨#[118]⟩, .string ⟨#[119]⟩]
  big : w.heap.size + 1 ≤ wr.heap.size
theorem GSw.grown {w wr w' : World} {u u' : Value} {T T' : List Wk} (h : GSw w wr u T) (ho : OwnW wr.heap.size w' u' T') (hb : Below wr.heap.size wr w') : GSw w w' u' T' :=
  ⟨ownW_down ho h.big, h.bel.trans (hb.mono h.bel.size), h.pool.below hb h.pool.lt, Nat.le_trans h.big hb.size⟩
theorem GSw.below {w wr w' : World} {u : Value} {T : List Wk} (h : GSw w wr u T) (hb : Below wr.heap.size wr w') : GSw w w' u T :=
  ⟨h.own.below hb, h.bel.trans (hb.mono h.bel.size), h.pool.below hb h.pool.lt, Nat.le_trans h.big hb.size⟩
theorem GSw.put {w wr : World} {g n c : Nat} {T : List Wk} (h : GSw w wr (.slice (some ⟨g, 0, none⟩) n c) T) (i : Nat) (hi : i < T.length) (j : Nat) (hj : j < 3) (v : Value) (x : Wk) (hx : x.row = T[i].row.set j v) :
    wr.frozen? ⟨g, i * 3 + j, none⟩ = false ∧ GSw w (wr.setCell ⟨g, i * 3 + j, none⟩ v) (.slice (some ⟨g, 0, none⟩) n c) (T.set i x) := by
  obtain ⟨h1, h2, h3⟩ := ownW_put2 h.own i hi j hj v x hx
  refine ⟨h2, h3, h.bel.setCell (by show w.heap.size ≤ g; omega) _, h.pool.far (by show w.heap.size ≠ g; omega) _, by rw [size_set]; exact h.big⟩
theorem GSw.addr {w wr : World} {A : Option Addr} {n c : Nat} {T : List Wk} (h : GSw w wr (.slice A n c) T) (h0 : 0 < T.length) : ∃ g, A = some ⟨g, 0, none⟩ ∧ T.length = n ∧ n ≤ c := by
  rcases h.own.2 with ⟨hv, hn⟩ | ⟨g, cap, cur, hv, hg, hh, hc, hcm, hsz, ht⟩
  · omega
  · obtain ⟨rfl, rfl, rfl⟩ := slice_inj hv
    exact ⟨g, rfl, rfl, hc⟩
theorem pool_cell {wr : World} {q : Nat} (h : Has wr q 9 #[.string ⟨#[116]⟩, .string ⟨#[117]⟩, .string ⟨#[118]⟩, .string ⟨#[119]⟩]) (k : Nat) (hk : k < 4) : wr.cell? ⟨q, k, none⟩ = some (.string (poolB k)) := by
  rw [h.cell]
  have : k = 0 ∨ k = 1 ∨ k = 2 ∨ k = 3 := by omega
  rcases this with rfl | rfl | rfl | rfl <;> rfl
theorem gstep_dup {T : List Wk} {x : Wk} {i : Nat} (h : plW T (gnm x i) = true) : gstep T x i = T := by unfold gstep; rw [if_pos h]
theorem gstep_new {T : List Wk} {x : Wk} {i : Nat} (h : plW T (gnm x i) = false) : gstep T x i = gput T (gnm x i) x.d (gky x) := by unfold gstep; rw [if_neg (by rw [h]; simp)]
theorem gky_no {x : Wk} (h : ¬ (x.d = false ∧ 0 < x.k.size)) : gky x = ⟨#[]⟩ := by unfold gky; rw [if_neg h]
theorem gky_yes {x : Wk} (h : x.d = false) (h0 : 0 < x.k.size) : gky x = kI (gkn x : Nat) := by unfold gky; rw [if_pos ⟨h, h0⟩]
theorem gkn_lt (x : Wk) : gkn x < 9 := Nat.mod_lt _ (by omega)
theorem gkn_tmod (x : Wk) (h : 0 < x.k.size) : ((x.k[0]'h).toNat : Int).tmod 9 = (gkn x : Int) := by
  unfold gkn
  rw [byteAt_eq _ _ h]
  rfl
set_option maxHeartbeats 2000000 in
theorem rkeyLit (W : World) (q : Nat) (hq : q = W.heap.size) (m : Int) (h0 : -9223372036854775808 ≤ m) (h1 : m ≤ 9223372036854775807) :
    Calls Tryd.prog 72 #[.slice (some ⟨q, 0, none⟩) 1 1] (W.alloc (.cells #[.int .i64 2, .int .i64 m, .string ⟨#[]⟩] 101)) fun e w' => e = .returned (.string (kI m)) ∧ Hid (Below W.heap.size W w') := by
  subst hq
  have HB := Lib.hid ((Below.refl W.heap.size W).alloc (Nat.le_refl _) (.cells #[.int .i64 2, .int .i64 m, .string ⟨#[]⟩] 101))
  have HV : Hid (VRow (W.alloc (.cells #[.int .i64 2, .int .i64 m, .string ⟨#[]⟩] 101)) (some ⟨W.heap.size, 0, none⟩) [⟨2, m, ⟨#[]⟩⟩]) := fun _ => ⟨W.heap.size, 0, rfl, fun i hi => by
    have hh := Has.new W 101 #[.int .i64 2, .int .i64 m, .string ⟨#[]⟩]
    obtain rfl : i = 0 := by simpa using hi
    exact ⟨hh.cell 0, hh.cell 1, hh.cell 2⟩⟩
  refine (refKey_any (some ⟨W.heap.size, 0, none⟩) [⟨2, m, ⟨#[]⟩⟩] 1 1 _ rfl (by omega) HV.out (fun x hx => by rw [List.mem_singleton.1 hx]; exact ⟨h0, h1, by simp [ByteArray.size]⟩) (fun x hx => by rw [List.mem_singleton.1 hx]; simp [Vl.may, mayF])).mono ?_
  rintro e w1 ⟨rfl, hb⟩
  exact ⟨rfl, HB.out.trans (hb.out.mono HB.out.size)⟩
set_option maxHeartbeats 16000000 in
theorem rgood11_any {B : Nat} {v : Value} {L : List Wk} (w : World) (h : OwnW B w v L) (hsh : Short L) :
    Calls Tryd.prog 43 #[v] w fun e w' => ∃ u, e = .returned u ∧ Hid (OwnW w.heap.size w' u (goodW L)) ∧ Hid (Below w.heap.size w w') := by
  obtain ⟨A, n, c, rfl, HN, hnc, hcm, HA, _⟩ := ownW_open h
  have HSH := Lib.hid hsh
  have HP0 : Hid (GSw w (w.alloc (.cells #[.string ⟨#[116]⟩, .string ⟨#[117]⟩, .string ⟨#[118]⟩, .string ⟨#[119]⟩] 9)) (.slice none 0 0) (gdTo L 0)) := ⟨ownW_nil _ _, (Below.refl _ w).alloc (Nat.le_refl _) _, Has.new w 9 _, by simp⟩
  clear h hsh
  unfold maxLen at hcm
  go_enter Tryd.func43, Tryd.ntmps43
  go_wp2_with fail
  go_loopw [3, 5] (fun g i wr => ∃ (k : Nat) (u : Value), k ≤ n ∧ k ≤ 4 ∧ i = .int .i64 k ∧ u = g ∧ Hid (GSw w wr u (gdTo L k))) (fun _ i _ => 4 - (intOf i).toNat)
  case atStart => exact ⟨0, _, by omega, by omega, rfl, rfl, HP0⟩
  case round =>
    obtain ⟨k, u, hk, hk4, rfl, rfl, HS⟩ := hrel
    clear HP0
    by_cases hlt : k < n
    · by_cases h4 : k < 4
      · have hkl : k < L.length := by rw [HN.out]; exact hlt
        obtain ⟨b, off, rfl, hc⟩ := (HA.out.below HS.out.bel) (by intro e; rw [e] at hkl; simp at hkl)
        obtain ⟨c0, c1, c2⟩ := hc k hkl
        have HC : Hid (∀ W, Below w.heap.size w W → W.cell? ⟨b, off + k * 3, none⟩ = some (.string L[k].t) ∧ W.cell? ⟨b, off + k * 3 + 1, none⟩ = some (.bool L[k].d) ∧ W.cell? ⟨b, off + k * 3 + 2, none⟩ = some (.string L[k].k)) := fun W hW => by
          obtain ⟨b2, off2, e2, hc2⟩ := (HA.out.below hW) (by intro e; rw [e] at hkl; simp at hkl)
          cases e2
          exact hc2 k hkl
        have hsx := HSH.out L[k] (List.getElem_mem hkl)
        have HGS := Lib.hid (gdTo_succ L k hkl)
        obtain ⟨hok1, hok2, _⟩ := gdTo_ok L k
        have HOK1 := Lib.hid hok1
        have hp := pool_cell HS.out.pool k h4
        have hkz : (k : Int) < (n : Int) := by omega
        have hkz4 : (k : Int) < 4 := by omega
        clear hc hok1
        generalize gdTo L k = T at *
        generalize L[k] = x at *
        obtain ⟨d, hd⟩ : ∃ d, x.d = d := ⟨_, rfl⟩
        simp only [hd] at HC
        have HD := Lib.hid hd
        clear hd
        have HNF := Lib.hid (refName_any x.t wr)
        have HG : Hid (gnm x k = if nameF x.t = true then x.t else poolB k) := rfl
        have hgz := gnm_size x k
        have HGN := Lib.hid (gnm_name x k)
        cases hnf : nameF x.t
        · rw [hnf] at HNF HG
          have hg2 : gnm x k = poolB k := HG.out
          rw [← hg2] at hp
          clear hnf hg2 HG
          go_wp2_with fail
          refine HNF.out.mono ?_
          rintro e w1 ⟨rfl, rfl⟩
          clear HNF c0 c1 c2
          have c0 := (HC.out _ HS.out.bel).1
          have HADD := Lib.hid (radd_any (gnm x k) w1 HS.out.own (by omega) HOK1.out)
          cases hpl : plW T (gnm x k)
          · have hae := add_yes HGN.out hpl
            rw [hae.1, hae.2] at HADD
            have HGS2 : Hid (gdTo L (k + 1) = gput (T) (gnm x k) d (gky x)) := by show _ = _; rw [HGS.out, gstep_new (by exact hpl)]; rw [HD.out]
            have HSO := Lib.hid (gput_sort HOK1.out hpl false ⟨#[]⟩)
            have HPL := Lib.hid (gput_pl HOK1.out hpl false ⟨#[]⟩)
            have HLB := Lib.hid (gput_lb HOK1.out hpl false ⟨#[]⟩)
            have HLN := Lib.hid (gput_len T (gnm x k) false ⟨#[]⟩)
            have hlb := lw_le T (gnm x k)
            clear hae hpl
            go_wp2_with fail
            refine HADD.out.mono ?_
            rintro e w2 ⟨u2, rfl, ho2, hb2⟩
            have HS2 := Lib.hid (HS.out.grown ho2.out hb2.out)
            clear ho2 HADD hp HS
            have HAT := Lib.hid (rat11_any (gnm x k) w2 HS2.out.own (by rw [HLN.out]; omega) HSO.out)
            have hws : watS (gput T (gnm x k) false ⟨#[]⟩) (gnm x k) = (lbW T (gnm x k) : Int) := by unfold watS; rw [HPL.out, HLB.out]; rfl
            rw [hws] at HAT
            clear hws c0
            obtain ⟨A2, n2, z2, rfl, hn2, _, _, _, _⟩ := ownW_open HS2.out.own
            obtain ⟨g, rfl, hgn, hgc⟩ := HS2.out.addr (by rw [HLN.out]; omega)
            have hlz : (lbW T (gnm x k) : Int) < (n2 : Int) := by have := HLN.out; omega
            have hlz0 : (0 : Int) ≤ (lbW T (gnm x k) : Int) := by omega
            obtain ⟨hf1, hs1⟩ := HS2.out.put (lbW T (gnm x k)) (by rw [HLN.out]; omega) 1 (by omega) (.bool d) ⟨gnm x k, d, ⟨#[]⟩⟩ (by rw [gput_at]; rfl)
            rw [gput_set] at hs1
            have HS3 := Lib.hid hs1
            have HL3 := Lib.hid (gput_len T (gnm x k) d ⟨#[]⟩)
            obtain ⟨e0, e1, e2⟩ := HC.out _ HS2.out.bel
            obtain ⟨i0, i1, i2⟩ := HC.out _ HS3.out.bel
            have o1 : w2.cell? ⟨g, lbW T (gnm x k) * 3 + 1, none⟩ = some (.bool false) := by
              obtain ⟨b9, off9, e9, h9⟩ := (HS2.out.own.row rfl) (by intro e; have := HLN.out; rw [e] at this; simp at this)
              have hoff : off9 = 0 := by injection e9 with e9; injection e9 with _ e9; exact e9.symm
              injection e9 with e9; injection e9 with e8 _
              subst e8 hoff
              have h8 := (h9 (lbW T (gnm x k)) (by rw [HLN.out]; omega)).2.1
              rw [gput_at] at h8
              rw [Nat.zero_add] at h8
              exact h8
            have HO2 : Hid (∀ W (_ : GSw w W (.slice (some ⟨g, 0, none⟩) n2 z2) (gput T (gnm x k) d ⟨#[]⟩)), W.cell? ⟨g, lbW T (gnm x k) * 3 + 2, none⟩ = some (.string ⟨#[]⟩)) := fun W hW => by
              obtain ⟨b9, off9, e9, h9⟩ := (hW.own.row rfl) (by intro e; have := HL3.out; rw [e] at this; simp at this)
              have hoff : off9 = 0 := by injection e9 with e9; injection e9 with _ e9; exact e9.symm
              injection e9 with e9; injection e9 with e8 _
              subst e8 hoff
              have h8 := (h9 (lbW T (gnm x k)) (by rw [HL3.out]; omega)).2.2
              rw [gput_at] at h8
              rw [Nat.zero_add] at h8
              exact h8
            clear hs1 hn2
            cases d
            · by_cases hk0 : 0 < x.k.size
              · have hgk := gky_yes HD.out hk0
                rw [hgk] at HGS2
                have hkz0 : (0 : Int) < (x.k.size : Int) := by omega
                have htm : (wrap64 ((x.k[0]'hk0).toNat : Int)).tmod 9 = (gkn x : Int) := by
                  rw [show wrap64 ((x.k[0]'hk0).toNat : Int) = ((x.k[0]'hk0).toNat : Int) by have := (x.k[0]'hk0).toNat_lt; unfold wrap64; omega]
                  exact gkn_tmod x hk0
                have hmz := gkn_lt x
                go_wp2_with fail
                refine HAT.out.mono ?_
                rintro e w3 ⟨rfl, rfl⟩
                go_wp2_with fail
                obtain ⟨W3, hW3⟩ : ∃ W, W = w3.setCell ⟨g, lbW T (gnm x k) * 3 + 1, none⟩ (.bool false) := ⟨_, rfl⟩
                have hz3 : w3.heap.size = W3.heap.size := by rw [hW3, size_set]
                rw [← hW3] at HS3 ⊢
                rw [hz3]
                clear hW3 hz3 hf1 o1 i0 i1 i2 e0 e1 e2 htm
                refine (rkeyLit W3 W3.heap.size rfl (gkn x : Nat) (by omega) (by omega)).mono ?_
                rintro e w5 ⟨rfl, hb5⟩
                have HS4 := Lib.hid (HS3.out.below hb5.out)
                have o2 := HO2.out _ HS4.out
                obtain ⟨hf2, hs2⟩ := HS4.out.put (lbW T (gnm x k)) (by rw [HL3.out]; omega) 2 (by omega) (.string (kI (gkn x : Nat))) ⟨gnm x k, false, kI (gkn x : Nat)⟩ (by rw [gput_at]; rfl)
                rw [gput_set] at hs2
                have HS5 := Lib.hid hs2
                clear hs2 hb5
                go_wp2_with fail
                go_roundw
                case rel => exact ⟨k + 1, _, by omega, by omega, by go_num, rfl, by rw [HGS2.out]; exact HS5.out⟩
                case measure => simp [intOf]; omega
              · have hgk := gky_no (x := x) (by intro h; exact hk0 h.2)
                rw [hgk] at HGS2
                have hkz0 : ¬ ((0 : Int) < (x.k.size : Int)) := by omega
                go_wp2_with fail
                refine HAT.out.mono ?_
                rintro e w3 ⟨rfl, rfl⟩
                go_wp2_with fail
                go_roundw
                case rel => exact ⟨k + 1, _, by omega, by omega, by go_num, rfl, by rw [HGS2.out]; exact HS3.out⟩
                case measure => simp [intOf]; omega
            · have hgk := gky_no (x := x) (by rw [HD.out]; simp)
              rw [hgk] at HGS2
              go_wp2_with fail
              refine HAT.out.mono ?_
              rintro e w3 ⟨rfl, rfl⟩
              go_wp2_with fail
              go_roundw
              case rel => exact ⟨k + 1, _, by omega, by omega, by go_num, rfl, by rw [HGS2.out]; exact HS3.out⟩
              case measure => simp [intOf]; omega
          · have hae := add_dup HGN.out hpl
            rw [hae] at HADD
            have HGS2 : Hid (gdTo L (k + 1) = T) := by show _ = _; rw [HGS.out, gstep_dup (by exact hpl)]
            clear hae hpl
            go_wp2_with fail
            refine HADD.out.mono ?_
            rintro e w2 ⟨u2, rfl, _, hb2⟩
            have HS2 := Lib.hid (HS.out.below hb2.out)
            clear HADD
            go_wp2_with fail
            go_roundw
            case rel => exact ⟨k + 1, _, by omega, by omega, by go_num, rfl, by rw [HGS2.out]; exact HS2.out⟩
            case measure => simp [intOf]; omega
        · rw [hnf] at HNF HG
          have hg2 : gnm x k = x.t := HG.out
          have HGE : Hid (gnm x k = x.t) := hg2
          rw [hg2] at hgz HGN
          clear hnf hg2 HG hp
          go_wp2_with fail
          refine HNF.out.mono ?_
          rintro e w1 ⟨rfl, rfl⟩
          clear HNF c0 c1 c2
          have c0 := (HC.out _ HS.out.bel).1
          have HADD := Lib.hid (radd_any (x.t) w1 HS.out.own (by omega) HOK1.out)
          cases hpl : plW T (x.t)
          · have hae := add_yes HGN.out hpl
            rw [hae.1, hae.2] at HADD
            have HGS2 : Hid (gdTo L (k + 1) = gput (T) (x.t) d (gky x)) := by show _ = _; rw [HGS.out, gstep_new (by rw [HGE.out]; exact hpl)]; rw [HD.out]; rw [HGE.out]
            have HSO := Lib.hid (gput_sort HOK1.out hpl false ⟨#[]⟩)
            have HPL := Lib.hid (gput_pl HOK1.out hpl false ⟨#[]⟩)
            have HLB := Lib.hid (gput_lb HOK1.out hpl false ⟨#[]⟩)
            have HLN := Lib.hid (gput_len T (x.t) false ⟨#[]⟩)
            have hlb := lw_le T (x.t)
            clear hae hpl
            go_wp2_with fail
            refine HADD.out.mono ?_
            rintro e w2 ⟨u2, rfl, ho2, hb2⟩
            have HS2 := Lib.hid (HS.out.grown ho2.out hb2.out)
            clear ho2 HADD HS
            have HAT := Lib.hid (rat11_any (x.t) w2 HS2.out.own (by rw [HLN.out]; omega) HSO.out)
            have hws : watS (gput T (x.t) false ⟨#[]⟩) (x.t) = (lbW T (x.t) : Int) := by unfold watS; rw [HPL.out, HLB.out]; rfl
            rw [hws] at HAT
            clear hws c0
            obtain ⟨A2, n2, z2, rfl, hn2, _, _, _, _⟩ := ownW_open HS2.out.own
            obtain ⟨g, rfl, hgn, hgc⟩ := HS2.out.addr (by rw [HLN.out]; omega)
            have hlz : (lbW T (x.t) : Int) < (n2 : Int) := by have := HLN.out; omega
            have hlz0 : (0 : Int) ≤ (lbW T (x.t) : Int) := by omega
            obtain ⟨hf1, hs1⟩ := HS2.out.put (lbW T (x.t)) (by rw [HLN.out]; omega) 1 (by omega) (.bool d) ⟨x.t, d, ⟨#[]⟩⟩ (by rw [gput_at]; rfl)
            rw [gput_set] at hs1
            have HS3 := Lib.hid hs1
            have HL3 := Lib.hid (gput_len T (x.t) d ⟨#[]⟩)
            obtain ⟨e0, e1, e2⟩ := HC.out _ HS2.out.bel
            obtain ⟨i0, i1, i2⟩ := HC.out _ HS3.out.bel
            have o1 : w2.cell? ⟨g, lbW T (x.t) * 3 + 1, none⟩ = some (.bool false) := by
              obtain ⟨b9, off9, e9, h9⟩ := (HS2.out.own.row rfl) (by intro e; have := HLN.out; rw [e] at this; simp at this)
              have hoff : off9 = 0 := by injection e9 with e9; injection e9 with _ e9; exact e9.symm
              injection e9 with e9; injection e9 with e8 _
              subst e8 hoff
              have h8 := (h9 (lbW T (x.t)) (by rw [HLN.out]; omega)).2.1
              rw [gput_at] at h8
              rw [Nat.zero_add] at h8
              exact h8
            have HO2 : Hid (∀ W (_ : GSw w W (.slice (some ⟨g, 0, none⟩) n2 z2) (gput T (x.t) d ⟨#[]⟩)), W.cell? ⟨g, lbW T (x.t) * 3 + 2, none⟩ = some (.string ⟨#[]⟩)) := fun W hW => by
              obtain ⟨b9, off9, e9, h9⟩ := (hW.own.row rfl) (by intro e; have := HL3.out; rw [e] at this; simp at this)
              have hoff : off9 = 0 := by injection e9 with e9; injection e9 with _ e9; exact e9.symm
              injection e9 with e9; injection e9 with e8 _
              subst e8 hoff
              have h8 := (h9 (lbW T (x.t)) (by rw [HL3.out]; omega)).2.2
              rw [gput_at] at h8
              rw [Nat.zero_add] at h8
              exact h8
            clear hs1 hn2
            cases d
            · by_cases hk0 : 0 < x.k.size
              · have hgk := gky_yes HD.out hk0
                rw [hgk] at HGS2
                have hkz0 : (0 : Int) < (x.k.size : Int) := by omega
                have htm : (wrap64 ((x.k[0]'hk0).toNat : Int)).tmod 9 = (gkn x : Int) := by
                  rw [show wrap64 ((x.k[0]'hk0).toNat : Int) = ((x.k[0]'hk0).toNat : Int) by have := (x.k[0]'hk0).toNat_lt; unfold wrap64; omega]
                  exact gkn_tmod x hk0
                have hmz := gkn_lt x
                go_wp2_with fail
                refine HAT.out.mono ?_
                rintro e w3 ⟨rfl, rfl⟩
                go_wp2_with fail
                obtain ⟨W3, hW3⟩ : ∃ W, W = w3.setCell ⟨g, lbW T (x.t) * 3 + 1, none⟩ (.bool false) := ⟨_, rfl⟩
                have hz3 : w3.heap.size = W3.heap.size := by rw [hW3, size_set]
                rw [← hW3] at HS3 ⊢
                rw [hz3]
                clear hW3 hz3 hf1 o1 i0 i1 i2 e0 e1 e2 htm
                refine (rkeyLit W3 W3.heap.size rfl (gkn x : Nat) (by omega) (by omega)).mono ?_
                rintro e w5 ⟨rfl, hb5⟩
                have HS4 := Lib.hid (HS3.out.below hb5.out)
                have o2 := HO2.out _ HS4.out
                obtain ⟨hf2, hs2⟩ := HS4.out.put (lbW T (x.t)) (by rw [HL3.out]; omega) 2 (by omega) (.string (kI (gkn x : Nat))) ⟨x.t, false, kI (gkn x : Nat)⟩ (by rw [gput_at]; rfl)
                rw [gput_set] at hs2
                have HS5 := Lib.hid hs2
                clear hs2 hb5
                go_wp2_with fail
                go_roundw
                case rel => exact ⟨k + 1, _, by omega, by omega, by go_num, rfl, by rw [HGS2.out]; exact HS5.out⟩
                case measure => simp [intOf]; omega
              · have hgk := gky_no (x := x) (by intro h; exact hk0 h.2)
                rw [hgk] at HGS2
                have hkz0 : ¬ ((0 : Int) < (x.k.size : Int)) := by omega
                go_wp2_with fail
                refine HAT.out.mono ?_
                rintro e w3 ⟨rfl, rfl⟩
                go_wp2_with fail
                go_roundw
                case rel => exact ⟨k + 1, _, by omega, by omega, by go_num, rfl, by rw [HGS2.out]; exact HS3.out⟩
                case measure => simp [intOf]; omega
            · have hgk := gky_no (x := x) (by rw [HD.out]; simp)
              rw [hgk] at HGS2
              go_wp2_with fail
              refine HAT.out.mono ?_
              rintro e w3 ⟨rfl, rfl⟩
              go_wp2_with fail
              go_roundw
              case rel => exact ⟨k + 1, _, by omega, by omega, by go_num, rfl, by rw [HGS2.out]; exact HS3.out⟩
              case measure => simp [intOf]; omega
          · have hae := add_dup HGN.out hpl
            rw [hae] at HADD
            have HGS2 : Hid (gdTo L (k + 1) = T) := by show _ = _; rw [HGS.out, gstep_dup (by rw [HGE.out]; exact hpl)]
            clear hae hpl
            go_wp2_with fail
            refine HADD.out.mono ?_
            rintro e w2 ⟨u2, rfl, _, hb2⟩
            have HS2 := Lib.hid (HS.out.below hb2.out)
            clear HADD
            go_wp2_with fail
            go_roundw
            case rel => exact ⟨k + 1, _, by omega, by omega, by go_num, rfl, by rw [HGS2.out]; exact HS2.out⟩
            case measure => simp [intOf]; omega
      · obtain rfl : k = 4 := by omega
        have hkz : (4 : Int) < (n : Int) := by omega
        have HE : Hid (goodW L = gdTo L 4) := by show _ = _; unfold goodW; rw [HN.out, Nat.min_eq_right (by omega)]
        go_wp2_with fail
        go_ret
        exact ⟨_, rfl, by rw [HE.out]; exact ownW_down HS.out.own (by omega), HS.out.bel⟩
    · obtain rfl : k = n := by omega
      have HE : Hid (goodW L = gdTo L k) := by show _ = _; unfold goodW; rw [HN.out, Nat.min_eq_left (by omega)]
      go_wp2_with fail
      go_ret
      exact ⟨_, rfl, by rw [HE.out]; exact ownW_down HS.out.own (by omega), HS.out.bel⟩
end Go.Proofs.YtjkmbggaoinkdaaDoor
