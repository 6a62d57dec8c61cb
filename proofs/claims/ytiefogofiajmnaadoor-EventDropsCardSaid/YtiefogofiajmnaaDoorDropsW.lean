/-
  EventDrops: the walk.
-/
import Derived.Test.YtiefogofiajmnaaDoorFw
import Derived.Test.YtiefogofiajmnaaDoorFx
import Derived.Test.YtiefogofiajmnaaDoorMg8
import Derived.Test.YtiefogofiajmnaaDoorCut6
import Derived.Test.YtiefogofiajmnaaDoorLives6
namespace Go.Proofs.YtiefogofiajmnaaDoor.eventDrops
open Go.RowKit Dg
set_option maxRecDepth 100000
theorem drop_cases {G : List Tb} {fs : ByteArray} {GL : List Cl} {GK : Nat} (hG : GoodS GL GK) (h6 : G.length < 64) : ((fcE G fs GL GK = 6 ∨ fcE G fs GL GK = 8) ∧ foD G 1 fs GL GK ⟨#[]⟩ 0 false = []) ∨ (fcE G fs GL GK = 0 ∧ nameF fs = true ∧ plF G fs = false) := by
  rcases hn : nameF fs with _ | _
  · have h := fcE_name (T := G) (L' := GL) (K' := (GK : Int)) hn
    exact .inl ⟨.inl h, foD_bad (by rw [foE_c, h]; omega)⟩
  · rcases hp : plF G fs with _ | _
    · have h := fcE_good hn hG h6
      rw [hp] at h
      exact .inr ⟨by simpa using h, rfl, rfl⟩
    · have h := fcE_there (L' := GL) (K' := (GK : Int)) hn hp
      exact .inl ⟨.inr h, foD_bad (by rw [foE_c, h]; omega)⟩
theorem drop_good {G T3 : List Tb} {fs : ByteArray} {GL : List Cl} {GK : Nat} (hG : GoodS GL GK) (hD : GoodD (tds G)) (hn : nameF fs = true) (hp : plF G fs = false) (hE : fcE G fs GL GK = 0) (h3 : tds T3 = foD G 1 fs GL GK ⟨#[]⟩ 0 false) :
    GoodD (tds T3) ∧ T3.length = G.length + 1 ∧ plF T3 fs = true ∧ foE T3 2 fs [] 0 ⟨#[]⟩ 0 false = 0 ∧ foD T3 2 fs [] 0 ⟨#[]⟩ 0 false = tds G ∧ tfL T3 fs = GL ∧ tfK T3 fs = GK := by
  rw [foD_c hE, lbN_d] at h3
  have hle : lbD (tds G) fs ≤ (tds G).length := List.findIdx_le_length
  have hg := goodD_put hD (x := ⟨fs, GL, GK⟩) (by rw [← plF_d]; exact hp) ⟨hn, GK, rfl, hG⟩
  obtain ⟨hi1, hi2⟩ := ins_get (tds G) ⟨fs, GL, GK⟩ (lbD (tds G) fs) hle
  obtain ⟨hl1, hl2⟩ := ins_lb (tds G) ⟨fs, GL, GK⟩
  have hp3 : plF T3 fs = true := by rw [plF_d, h3]; exact hl2
  have hk3 : lbN T3 fs = lbD (tds G) fs := by rw [lbN_d, h3]; exact hl1
  have hlen : T3.length = G.length + 1 := by rw [← tds_len, h3, hi1, tds_len]
  have hlt := plF_lt hp3
  obtain ⟨ht1, ht2⟩ := tfL_yes hp3 hlt
  have htd : T3[lbN T3 fs].td = ⟨fs, GL, GK⟩ := by
    rw [← tds_get T3 _ hlt]
    have : ∀ (j : Nat) (hj : j < (tds T3).length), j = lbD (tds G) fs → (tds T3)[j] = ⟨fs, GL, GK⟩ := by
      rw [h3]
      intro j hj e
      subst e
      exact hi2 hj
    exact this _ _ hk3
  refine ⟨by rw [h3]; exact hg, hlen, hp3, foE_drop hp3, ?_, ?_, ?_⟩
  · rw [foD_drop hp3, hk3, h3]
    exact ins_del _ _ _ hle
  · rw [ht1]; exact congrArg Td.L htd
  · rw [ht2]; exact congrArg Td.K htd
set_option maxHeartbeats 2000000 in
theorem walk (A : Option Addr) (n c : Nat) (T : List Tb) (s : ByteArray) (A4 : Option Addr) (n4 c4 : Nat) (L4 : List Cl) (K4 : Int) (w : World) (hn : T.length = n) (_hc : n ≤ c) (_hm : c ≤ maxLen) (hA : TRow w A T) (hI : ∀ x ∈ T, TbIn w x) (hs : s.size ≤ 140737488355328)
    (hn4 : L4.length = n4) (hc4 : n4 ≤ c4) (hm4 : c4 ≤ maxLen) (hA4 : CRow w A4 L4) (hf4 : ∀ y ∈ L4, y.fit) (hk0 : -9223372036854775808 ≤ K4) (hk1 : K4 ≤ 9223372036854775807) :
    Calls Tryd.prog 6 #[.slice A n c, .string s, .agg #[.slice A4 n4 c4, .int .i64 K4]] w fun e w' => e = .returned (.bool true) ∧ Below w.heap.size w w' := by
  have HGD := Lib.hid (fun (W : World) (hb : Below w.heap.size w W) => rgood6_any A T n c W hn (hA.below hb) (fun x hx => (by obtain ⟨h1, h2⟩ := hI x hx; exact ⟨⟨h1.1, h1.2.1, h1.2.2.1, h1.2.2.2.below hb⟩, h2⟩)))
  have HG4 := Lib.hid (fun (W : World) (hb : Below w.heap.size w W) => rgood_any A4 L4 n4 c4 K4 W hn4 hc4 hm4 (hA4.below hb) hf4 hk0 hk1)
  have HGS := Lib.hid (goodS_is L4 K4)
  have hB0 : Below w.heap.size w (w.alloc (.cells #[.slice A4 n4 c4, .int .i64 K4] 28)) := (Below.refl _ w).alloc (Nat.le_refl _) _
  have HB0 := Lib.hid hB0
  have HX0 := Lib.hid (Has.new w 28 #[.slice A4 n4 c4, .int .i64 K4])
  clear hA hI hn hn4 hA4 hf4 hB0
  go_enter Tryd.func6, Tryd.ntmps6
  go_wp2_with fail
  refine (HGD.out _ HB0.out).mono ?_
  rintro e w1 ⟨v1, G, rfl, ho1, HT, hk1', hb1⟩
  obtain ⟨A7, n7, c7, rfl, HN7, hnc7, hcm7, HV7, HZ7⟩ := ownT_open ho1.out
  have HB1 := Lib.hid (HB0.out.trans (hb1.out.mono HB0.out.size))
  have HX1 := Lib.hid (HX0.out.below hb1.out HX0.out.lt)
  have x0 : w1.cell? ⟨w.heap.size, 0, none⟩ = some (.slice A4 n4 c4) := HX1.out.cell 0
  have x1 : w1.cell? ⟨w.heap.size, 1, none⟩ = some (.int .i64 K4) := HX1.out.cell 1
  have hg3 := (g6_good T 3)
  rw [← HT.out] at hg3
  have HG := Lib.hid hg3
  have h7 : n7 ≤ 3 := by have h1 := HN7.out; have h2 := hg3.2; rw [tds_len] at h2; omega
  have HK1 := hk1'
  clear hg3 HGD ho1 hb1 HX0 HB0 hk1'
  have hSrt := goodT_sort HG.out.1
  have hfit := goodT_fit HG.out.1
  have hb0 : Hid (Below w1.heap.size w1 w1.drew) := (Below.refl _ w1).drew
  have d0 : w1.drew.cell? ⟨w.heap.size, 0, none⟩ = some (.slice A4 n4 c4) := x0
  have d1 : w1.drew.cell? ⟨w.heap.size, 1, none⟩ = some (.int .i64 K4) := x1
  have HG5 := Lib.hid (HG4.out w1.drew (HB1.out.trans (hb0.out.mono HB1.out.size)))
  have hgl : ∀ x ∈ G, 0 < x.L.length ∧ x.L.length ≤ 800 := fun x hx => by
    obtain ⟨_, k, _, h2⟩ := goodT_ok HG.out.1 x hx
    have := h2.len
    omega
  have HFO : Hid (∀ (X : World) (A8 : Option Addr) (n8 c8 : Nat), Hid (OwnC w1.drew.heap.size X (.slice A8 n8 c8) (gdC L4 K4)) → Hid (Below w1.heap.size w1 X) → Calls Tryd.prog 18 #[.slice A7 n7 c7, .agg #[.int .i64 1, .string (forty s), .slice A8 n8 c8, .int .i64 (gdK L4 K4), .string ⟨#[]⟩, .int .i64 0, .bool false]] X fun e w' => ∃ v T', e = .returned (.tuple #[v, .int .i64 (foE G 1 (forty s) (gdC L4 K4) (gdK L4 K4) ⟨#[]⟩ 0 false)]) ∧ Hid (OwnTs X.heap.size w' v T') ∧ Hid (tds T' = foD G 1 (forty s) (gdC L4 K4) (gdK L4 K4) ⟨#[]⟩ 0 false) ∧ Hid (Below X.heap.size X w')) := fun X A8 n8 c8 ho hb => by
    obtain ⟨A', c', e, h1, h2, h3, h4⟩ := ownC_row ho.out
    injection e with q1 q2 q3
    subst q1 q3
    have h6 := HGS.out.len
    exact pfollow_any A7 G n7 c7 1 (forty s) A8 n8 c8 _ _ _ _ _ X HN7.out hnc7 hcm7 (by omega) (HV7.out.below hb.out) HZ7.out (HK1.out.below hb.out) hSrt hgl q2.symm (by omega) h2 h3 h4 (by have := forty_size s; omega) (by simp [ByteArray.size]) (fun y hy => (goodS_fit _ _ HGS.out y hy).2.2.2)
  clear hSrt hfit hgl
  go_wp2_with fail
  clear x0 x1
  go_region_held3 (fun X => Hid (Below w1.heap.size w1 X) ∧ X.cell? ⟨w.heap.size, 0, none⟩ = some (.slice A4 n4 c4) ∧ X.cell? ⟨w.heap.size, 1, none⟩ = some (.int .i64 K4)) ((refine ⟨by assumption, ?_⟩; go_keep))
    (first
      | (go_at_call 9; refine (name6_any s _ hs).mono ?_; rintro e y1 ⟨rfl, rfl⟩)
      | (go_at_call 17; refine HG5.out.mono ?_; rintro e w2 ⟨v8, rfl, ho8, hb8⟩; obtain ⟨A8, n8, c8, rfl, _, _, _, _, _⟩ := ownC_open ho8.out; have HO8 := Lib.hid ho8.out; have hbw : Hid (Below w1.heap.size w1 w2) := hb0.out.trans (hb8.out.mono hb0.out.size); have i0 := keepC hb8.out d0; have i1 := keepC hb8.out d1; clear ho8 hb8)
      | (go_at_call 18; refine (HFO.out w2 A8 n8 c8 HO8 hbw).mono ?_; rintro e w3 ⟨v3, T3, rfl, ho3, ht3, hb3⟩; obtain ⟨A9, n9, c9, rfl, HN9, hnc9, hcm9, HV9, HZ9⟩ := ownT_open ho3.out.own; have hbz : Hid (Below w1.heap.size w1 w3) := hbw.out.trans (hb3.out.mono hbw.out.size); have j0 := keepC hb3.out i0; have j1 := keepC hb3.out i1; have HO3 := Lib.hid ho3.out; have HT3 := Lib.hid ht3.out; rw [foE_c]; generalize hE : fcE G (forty s) (gdC L4 K4) (gdK L4 K4) = E; have HE := Lib.hid hE; clear hE ho3 hb3 ht3))
  all_goals
    have HBz := Lib.hid (HB1.out.trans (hbz.out.mono HB1.out.size))
    rcases drop_cases (fs := forty s) HGS.out (show G.length < 64 by have := HN7.out; omega) with ⟨hE6, hD0⟩ | ⟨hE0, hqn, hqp⟩
    · rw [HE.out] at hE6
      have hT0 : T3 = [] := by
        have := HT3.out
        rw [hD0] at this
        exact List.map_eq_nil_iff.1 this
      obtain rfl : n9 = 0 := by rw [← HN9.out, hT0]; rfl
      clear hD0 hT0
      rcases hE6 with rfl | rfl
      all_goals
        go_wp2_with fail
        refine (lives6_any _).mono ?_
        rintro e wf ⟨rfl, hbf⟩
        have HBf := Lib.hid (HBz.out.trans (hbf.out.mono HBz.out.size))
        clear hbf
        go_wp2_with fail
        go_ret
        exact ⟨rfl, HBf.out⟩
    · obtain rfl : E = 0 := by rw [← HE.out]; exact hE0
      obtain ⟨hD3, hl3, hp3, hE3, hd3, htl, htk⟩ := drop_good HGS.out HG.out.1 hqn hqp hE0 HT3.out
      clear hE0 hqn hqp
      have HD3 := Lib.hid hD3
      have HP3 := Lib.hid hp3
      have HE3 := Lib.hid hE3
      have Hd3 := Lib.hid hd3
      have HTL := Lib.hid htl
      have HTK := Lib.hid htk
      have h9 : n9 ≤ 4 := by have h1 := HN9.out; have h2 := HN7.out; omega
      clear hD3 hp3 hE3 hd3 htl htk hl3
      have hg3l : ∀ x ∈ T3, 0 < x.L.length ∧ x.L.length ≤ 800 := fun x hx => by
        obtain ⟨_, k, _, h2⟩ := goodT_ok HD3.out x hx
        have := h2.len
        omega
      have HK3 := Lib.hid (HO3.out.oks (fun x hx => by have := (hg3l x hx).2; omega))
      have HF2 := Lib.hid (pfollow_any A9 T3 n9 c9 2 (forty s) none 0 0 [] 0 ⟨#[]⟩ 0 false w3 HN9.out hnc9 hcm9 (by omega) HV9.out HZ9.out HK3.out (goodT_sort HD3.out) hg3l rfl (Nat.le_refl _) (Nat.zero_le _) (fun h => absurd rfl h) (fun _ => rfl) (by have := forty_size s; omega) (by simp [ByteArray.size]) (fun y hy => by cases hy))
      rw [HE3.out, Hd3.out] at HF2
      clear hg3l
      go_wp2_with fail
      refine (name6_any s _ hs).mono ?_
      rintro e y3 ⟨rfl, rfl⟩
      go_wp2_with fail
      refine HF2.out.mono ?_
      rintro e w4 ⟨v4, T4, rfl, ho4, ht4, hb4⟩
      obtain ⟨A10, n10, c10, rfl, HN10, hnc10, hcm10, HV10, HZ10⟩ := ownT_open ho4.out.own
      have HB4 := Lib.hid (HBz.out.trans (hb4.out.mono HBz.out.size))
      have hbz4 := hbz.out.trans (hb4.out.mono hbz.out.size)
      have HFI := Lib.hid (pFind_any A9 T3 n9 c9 (forty s) w4 HN9.out (by omega) (HV9.out.below hb4.out) (HK3.out.below hb4.out) (goodT_sort HD3.out))
      rw [HP3.out, HTL.out, HTK.out] at HFI
      have H10 : Hid (n10 = n7) := by show _ = _; rw [← HN10.out, ← HN7.out, ← tds_len, ← tds_len, ht4.out]
      have HK4 := Lib.hid (ho4.out.oks (fun x hx => by
        have hx' : x.td ∈ tds G := by rw [← ht4.out]; exact List.mem_map_of_mem hx
        obtain ⟨_, k, _, h2⟩ := HG.out.1.ok _ hx'
        have := h2.len.2
        show x.td.L.length ≤ 900
        omega))
      have HTD4 := Lib.hid ht4.out
      have HK7 := Lib.hid (HK1.out.below hbz4)
      have HV7' := Lib.hid (HV7.out.below hbz4)
      have HX4 := Lib.hid (HX1.out.below hbz4 HX1.out.lt)
      clear HF2 ho4 ht4 hb4 HFO HG5 HV7 HK1
      go_wp2_with fail
      refine (name6_any s _ hs).mono ?_
      rintro e y4 ⟨rfl, rfl⟩
      go_wp2_with fail
      refine HFI.out.mono ?_
      rintro e w5 ⟨v5, rfl, ho5, hb5⟩
      obtain ⟨A5, n5, c5, rfl, HN5, hnc5, hcm5, HV5, _⟩ := ownC_open ho5.out
      have hal : Below w5.heap.size w5 (w5.alloc (.cells #[.slice A5 n5 c5, .int .i64 (gdK L4 K4)] 28)) := (Below.refl _ w5).alloc (Nat.le_refl _) _
      have HXA := Lib.hid (Has.new w5 28 #[.slice A5 n5 c5, .int .i64 (gdK L4 K4)])
      have hb5a := hb5.out.trans (hal.mono hb5.out.size)
      have HV5a := Lib.hid (HV5.out.below hal)
      have HB5 := Lib.hid (HB4.out.trans (hb5a.mono HB4.out.size))
      have HK7a := Lib.hid (HK7.out.below hb5a)
      have HV7a := Lib.hid (HV7'.out.below hb5a)
      have HK4a := Lib.hid (HK4.out.below hb5a)
      have HV4a := Lib.hid (HV10.out.below hb5a)
      have HX5 := Lib.hid (HX4.out.below hb5a HX4.out.lt)
      obtain ⟨W5, hW5⟩ : ∃ W5, (w5.alloc (.cells #[.slice A5 n5 c5, .int .i64 (gdK L4 K4)] 28)) = W5 := ⟨_, rfl⟩
      rw [hW5] at HXA HV5a HB5 HK7a HV7a HK4a HV4a HX5
      have HLT : Hid (w5.heap.size < W5.heap.size) := HXA.out.lt
      clear hb5 ho5 HV5 hal hb5a HK7 HV7' HK4 HV10 HX4 HB4
      go_wp2_with fail
      try rw [hW5]
      clear hW5
      have o0 : W5.drew.cell? ⟨w5.heap.size, 0, none⟩ = some (.slice A5 n5 c5) := HXA.out.drew.cell 0
      have o1 : W5.drew.cell? ⟨w5.heap.size, 1, none⟩ = some (.int .i64 (gdK L4 K4)) := HXA.out.drew.cell 1
      have o2 : W5.drew.cell? ⟨w.heap.size, 0, none⟩ = some (.slice A4 n4 c4) := HX5.out.drew.cell 0
      have o3 : W5.drew.cell? ⟨w.heap.size, 1, none⟩ = some (.int .i64 K4) := HX5.out.drew.cell 1
      have hbd : Below W5.heap.size W5 W5.drew := (Below.refl _ W5).drew
      have HSTB := Lib.hid (rst_any A10 T4 n10 c10 A7 G n7 c7 W5.drew HN10.out HN7.out (by have := H10.out; omega) (HV4a.out.below hbd) (HV7a.out.below hbd) (HK4a.out.below hbd) (HK7a.out.below hbd) HTD4.out)
      have hbx : Hid (Below w.heap.size w W5.drew) := HB5.out.drew
      have HG9 := Lib.hid (fun (W : World) (hb : Below w.heap.size w W) => HG4.out W hb)
      have HSM := Lib.hid (fun (X : World) (A6 : Option Addr) (n6 c6 : Nat) (hb : Below W5.drew.heap.size W5.drew X) (ho : OwnC w.heap.size X (.slice A6 n6 c6) (gdC L4 K4)) (h6 : (gdC L4 K4).length = n6) => rsame_any A5 (gdC L4 K4) n5 c5 (gdK L4 K4) A6 (gdC L4 K4) n6 c6 (gdK L4 K4) X HN5.out h6 (by have := HN5.out; have := HGS.out.len; omega) (by have := HGS.out.len; omega) ((HV5a.out.below hbd).below hb) (ho.row rfl))
      clear HK7a HV7a HK4a HV4a HX5 HXA HV5a
      go_region_held3 (fun X => Hid (Below w.heap.size w X) ∧ X.cell? ⟨w5.heap.size, 0, none⟩ = some (.slice A5 n5 c5) ∧ X.cell? ⟨w5.heap.size, 1, none⟩ = some (.int .i64 (gdK L4 K4)) ∧ X.cell? ⟨w.heap.size, 0, none⟩ = some (.slice A4 n4 c4) ∧ X.cell? ⟨w.heap.size, 1, none⟩ = some (.int .i64 K4)) ((refine ⟨by assumption, ?_⟩; go_keep))
        (first
          | (go_at_call 20; refine HSTB.out.mono ?_; rintro e y1 ⟨rfl, hy1⟩; have hb1w : Hid (Below w.heap.size w y1) := hbx.out.trans (hy1.out.mono hbx.out.size); have p0 := keepC hy1.out o0; have p1 := keepC hy1.out o1; have p2 := keepC hy1.out o2; have p3 := keepC hy1.out o3)
          | (go_at_call 17; refine (HG9.out y1 hb1w.out).mono ?_; rintro e y2 ⟨v6, rfl, ho6, hy2⟩; obtain ⟨A6, n6, c6, rfl, HN6, _, _, _, _⟩ := ownC_open ho6.out; have hb2w : Hid (Below w.heap.size w y2) := hb1w.out.trans (hy2.out.mono hb1w.out.size); have hb2x : Hid (Below W5.drew.heap.size W5.drew y2) := hy1.out.trans (hy2.out.mono hy1.out.size); have HO6 : Hid (OwnC w.heap.size y2 (.slice A6 n6 c6) (gdC L4 K4)) := ownC_down ho6.out hb1w.out.size; have q0 := keepC hy2.out p0; have q1 := keepC hy2.out p1; have q2 := keepC hy2.out p2; have q3 := keepC hy2.out p3; clear ho6 hy2)
          | (go_at_call 12; refine (HSM.out y2 A6 n6 c6 hb2x.out HO6.out HN6.out).mono ?_; rintro e y3 ⟨rfl, hy3⟩; rw [ssF_refl]; have hb3w : Hid (Below w.heap.size w y3) := hb2w.out.trans (hy3.out.mono hb2w.out.size); have r0 := keepC hy3.out q0; have r1 := keepC hy3.out q1; have r2 := keepC hy3.out q2; have r3 := keepC hy3.out q3; clear hy3)
          | (go_at_call 15; refine (lives6_any y3).mono ?_; rintro e y4 ⟨rfl, hy4⟩; have hb4w : Hid (Below w.heap.size w y4) := hb3w.out.trans (hy4.out.mono hb3w.out.size); have t0 := keepC hy4.out r0; have t1 := keepC hy4.out r1; have t2 := keepC hy4.out r2; have t3 := keepC hy4.out r3; clear hy4))
      all_goals
        go_wp2_with fail
        go_ret
        exact ⟨rfl, hb4w.out⟩
end Go.Proofs.YtiefogofiajmnaaDoor.eventDrops
