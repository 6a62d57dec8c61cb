/-
  EventMay: the walk.
-/
import Derived.Test.YtjkmbggaoinkdaaDoorREvt
import Derived.Test.YtjkmbggaoinkdaaDoorMayM
import Derived.Test.YtjkmbggaoinkdaaDoorQr
namespace Go.Proofs.YtjkmbggaoinkdaaDoor.eventMay
open Go.RowKit Dg
set_option linter.unusedVariables false
set_option linter.unusedSimpArgs false
set_option maxRecDepth 100000
theorem CRow.tur {X : List Nat} {w w' : World} {A : Option Addr} {L : List Cl} (h : CRow w A L) (ht : Tur X w w') (ho : ∀ a, A = some a → a.block ∉ X) : CRow w' A L := fun hne => by
  obtain ⟨b, off, e, hc⟩ := h hne
  have hb := ho _ e
  have k : ∀ (i : Nat) (v : Value), w.cell? ⟨b, i, none⟩ = some v → w'.cell? ⟨b, i, none⟩ = some v := fun i v h => (World.cell?_of_block (ht.block b (World.block_lt_of_cell? w _ h) hb)).trans h
  exact ⟨b, off, e, fun i hi => ⟨k _ _ (hc i hi).1, k _ _ (hc i hi).2.1, k _ _ (hc i hi).2.2⟩⟩
theorem TRow.tur {X : List Nat} {w w' : World} {A : Option Addr} {L : List Tb} (h : TRow w A L) (ht : Tur X w w') (ho : ∀ a, A = some a → a.block ∉ X) : TRow w' A L := fun hne => by
  obtain ⟨b, off, e, hc⟩ := h hne
  have hb := ho _ e
  have k : ∀ (i : Nat) (v : Value), w.cell? ⟨b, i, none⟩ = some v → w'.cell? ⟨b, i, none⟩ = some v := fun i v h => (World.cell?_of_block (ht.block b (World.block_lt_of_cell? w _ h) hb)).trans h
  exact ⟨b, off, e, fun i hi => ⟨k _ _ (hc i hi).1, k _ _ (hc i hi).2.1, k _ _ (hc i hi).2.2⟩⟩
theorem ownC_blk {B : Nat} {w : World} {A : Option Addr} {n c : Nat} {L : List Cl} (h : OwnC B w (.slice A n c) L) : ∀ a, A = some a → B ≤ a.block := by
  rcases h.2 with ⟨hv, hn⟩ | ⟨g, cap, cur, hv, hg, hh, hc, hcm, hsz, ht⟩
  · injection hv with e1; subst e1; exact fun a e => by cases e
  · injection hv with e1; subst e1; exact fun a e => by injection e with e; subst e; exact hg
theorem ownT_blk {B : Nat} {w : World} {A : Option Addr} {n c : Nat} {L : List Tb} (h : OwnT B w (.slice A n c) L) : ∀ a, A = some a → B ≤ a.block := by
  rcases h.2 with ⟨hv, hn⟩ | ⟨g, cap, cur, hv, hg, hh, hc, hcm, hsz, ht⟩
  · injection hv with e1; subst e1; exact fun a e => by cases e
  · injection hv with e1; subst e1; exact fun a e => by injection e with e; subst e; exact hg
theorem tur7 (W : World) (g : Nat) (u5 u6 u7 u8 u9 u10 u11 : Value) : Tur [g] W (((((((W.setCell ⟨g, 5, none⟩ u5).setCell ⟨g, 6, none⟩ u6).setCell ⟨g, 7, none⟩ u7).setCell ⟨g, 8, none⟩ u8).setCell ⟨g, 9, none⟩ u9).setCell ⟨g, 10, none⟩ u10).setCell ⟨g, 11, none⟩ u11) :=
  ((((((Tur.setCell W (p := ⟨g, 5, none⟩) (by simp) u5).trans (Tur.setCell _ (p := ⟨g, 6, none⟩) (by simp) u6) (Fre.refl _ _)).trans (Tur.setCell _ (p := ⟨g, 7, none⟩) (by simp) u7) (Fre.refl _ _)).trans (Tur.setCell _ (p := ⟨g, 8, none⟩) (by simp) u8) (Fre.refl _ _)).trans (Tur.setCell _ (p := ⟨g, 9, none⟩) (by simp) u9) (Fre.refl _ _)).trans (Tur.setCell _ (p := ⟨g, 10, none⟩) (by simp) u10) (Fre.refl _ _)).trans (Tur.setCell _ (p := ⟨g, 11, none⟩) (by simp) u11) (Fre.refl _ _)
theorem found_good {T : List Tb} (h : GoodD (tds T)) (s : ByteArray) : plF T s = true → ∃ k : Nat, tfK T s = (k : Int) ∧ GoodS (tfL T s) k := fun hp => by
  have hl := plF_lt hp
  obtain ⟨h1, h2⟩ := tfL_yes hp hl
  obtain ⟨_, k, hk, hg⟩ := goodT_ok h (T[lbN T s]'hl) (List.getElem_mem hl)
  exact ⟨k, by rw [h2]; exact hk, by rw [h1]; exact hg⟩
set_option maxHeartbeats 8000000 in
theorem walk (A : Option Addr) (n c : Nat) (T : List Tb) (ek en : Int) (et : ByteArray) (Ab : Option Addr) (nb zb : Nat) (Lb : List Vl) (Aa : Option Addr) (na za : Nat) (La : List Vl) (ck : Int) (tn : ByteArray) (A4 : Option Addr) (n4 c4 : Nat) (L4 : List Cl) (K4 : Int) (cn : ByteArray) (cq : Int) (cb : Bool) (w : World) (hn : T.length = n) (_hc : n ≤ c) (_hm : c ≤ maxLen) (hA : TRow w A T) (hI : ∀ x ∈ T, TbIn w x)
    (hek : -9223372036854775808 ≤ ek ∧ ek ≤ 9223372036854775807) (hen : -9223372036854775808 ≤ en ∧ en ≤ 9223372036854775807) (hRb : RowIn w Ab nb zb Lb) (hRa : RowIn w Aa na za La) (hL : L4.length = n4 ∧ n4 ≤ c4 ∧ c4 ≤ maxLen ∧ CRow w A4 L4 ∧ ∀ v ∈ L4, v.fit) (hcl : (Cl.mk cn cq cb).fit ∧ tn.size ≤ 140737488355328) (het : et.size ≤ 140737488355328) (hTb : Tabs w) :
    Calls Tryd.prog 3 #[.slice A n c, .agg #[.int .i64 ek, .int .i64 en, .string et, .slice Ab nb zb, .slice Aa na za, .int .i64 ck, .string tn, .slice A4 n4 c4, .int .i64 K4, .string cn, .int .i64 cq, .bool cb]] w fun e w' => e = .returned (.bool true) ∧ Below w.heap.size w w' := by
  have HGD := Lib.hid (fun (W : World) (hb : Below w.heap.size w W) => rgood6_own A T n c W hn (hA.below hb) (fun x hx => (by obtain ⟨h1, h2⟩ := hI x hx; exact ⟨⟨h1.1, h1.2.1, h1.2.2.1, h1.2.2.2.below hb⟩, h2⟩)))
  have HRb := Lib.hid hRb
  have HRa := Lib.hid hRa
  have HTB := Lib.hid hTb
  have HCT := Lib.hid (fun (W : World) (hb : Below w.heap.size w W) => cut6_any ck tn A4 L4 n4 c4 K4 cn cq cb W hL.1 hL.2.1 hL.2.2.1 (hL.2.2.2.1.below hb) hL.2.2.2.2 hcl.2 hcl.1.1)
  have HCF := Lib.hid (cutL_fit L4 hL.2.2.2.2)
  have hcq := hcl.1.2
  have HB0 := Lib.hid (show Below w.heap.size w (w.alloc (.cells #[.int .i64 ek, .int .i64 en, .string et, .slice Ab nb zb, .slice Aa na za, .int .i64 ck, .string tn, .slice A4 n4 c4, .int .i64 K4, .string cn, .int .i64 cq, .bool cb] 33)) from (Below.refl _ w).alloc (Nat.le_refl _) _)
  have HX0 := Lib.hid (Has.new w 33 #[.int .i64 ek, .int .i64 en, .string et, .slice Ab nb zb, .slice Aa na za, .int .i64 ck, .string tn, .slice A4 n4 c4, .int .i64 K4, .string cn, .int .i64 cq, .bool cb])
  clear hA hI hn hL hRb hRa hTb hcl
  go_enter Tryd.func3, Tryd.ntmps3
  go_wp2_with fail
  refine (HGD.out _ HB0.out).mono ?_
  rintro e w1 ⟨v1, G, rfl, ho1, HT, hk1, hco1, hb1⟩
  obtain ⟨A7, n7, c7, rfl, HN7, hnc7, hcm7, HV7, HZ7⟩ := ownT_open ho1.out
  have HB1 := Lib.hid (HB0.out.trans (hb1.out.mono HB0.out.size))
  have HX1 := Lib.hid (HX0.out.below hb1.out HX0.out.lt)
  have hg3 := (g6_good T 3)
  rw [← HT.out] at hg3
  have HG := Lib.hid hg3.1
  have h7 : n7 ≤ 3 := by have h1 := HN7.out; have h2 := hg3.2; rw [tds_len] at h2; omega
  have HTW : Hid (TbW w1 A7 n7 c7 G) := ⟨HN7.out, by omega, HV7.out, hk1.out, goodT_sort HG.out, fun y hy => by obtain ⟨_, k, h1, h2⟩ := goodT_ok HG.out y hy; exact ⟨k, h1, h2.keys.2.1, by have := h2.keys.2.2; omega⟩⟩
  have HAB := Lib.hid (ownT_blk ho1.out)
  have HCB := Lib.hid (fun x (hx : x ∈ G) => ownC_blk (hco1.out x hx))
  clear hg3 HGD ho1 hb1 HX0 HB0 hk1 hco1
  have x5 := HX1.out.cell 5
  have x6 := HX1.out.cell 6
  have x7 := HX1.out.cell 7
  have x8 := HX1.out.cell 8
  have x9 := HX1.out.cell 9
  have x10 := HX1.out.cell 10
  have x11 := HX1.out.cell 11
  have xf5 := HX1.out.free 5
  have xf6 := HX1.out.free 6
  have xf7 := HX1.out.free 7
  have xf8 := HX1.out.free 8
  have xf9 := HX1.out.free 9
  have xf10 := HX1.out.free 10
  have xf11 := HX1.out.free 11
  simp only [List.getElem?_toArray, List.getElem?_cons_zero, List.getElem?_cons_succ] at x5 x6 x7 x8 x9 x10 x11
  go_wp2_with fail
  refine (HCT.out w1 HB1.out).mono ?_
  rintro e w2 ⟨v2, rfl, ho2, hb2⟩
  obtain ⟨A5, n5, c5, rfl, HN5, _, _, HV5, _⟩ := ownC_open ho2.out
  have HX2 := Lib.hid (HX1.out.below hb2.out HX1.out.lt)
  have HB2 := Lib.hid (HB1.out.trans (hb2.out.mono HB1.out.size))
  have HTW2 := Lib.hid (HTW.out.below hb2.out)
  have hls : w.heap.size < w1.heap.size := HX1.out.lt
  obtain ⟨W3, hW3⟩ : ∃ W, W = (((((((w2.setCell ⟨w.heap.size, 5, none⟩ (.int .i64 ck)).setCell ⟨w.heap.size, 6, none⟩ (.string (forty tn))).setCell ⟨w.heap.size, 7, none⟩ (.slice A5 n5 c5)).setCell ⟨w.heap.size, 8, none⟩ (.int .i64 K4)).setCell ⟨w.heap.size, 9, none⟩ (.string (forty cn))).setCell ⟨w.heap.size, 10, none⟩ (.int .i64 cq)).setCell ⟨w.heap.size, 11, none⟩ (.bool cb)) := ⟨_, rfl⟩
  have HX3 : Hid (Has W3 w.heap.size 33 #[.int .i64 ek, .int .i64 en, .string et, .slice Ab nb zb, .slice Aa na za, .int .i64 ck, .string (forty tn), .slice A5 n5 c5, .int .i64 K4, .string (forty cn), .int .i64 cq, .bool cb]) := by rw [hW3]; exact (((((((HX2.out.put 5 _).put 6 _).put 7 _).put 8 _).put 9 _).put 10 _).put 11 _)
  have HB3 : Hid (Below w.heap.size w W3) := by rw [hW3]; exact (((((((HB2.out.setCell (p := ⟨w.heap.size, 5, none⟩) (Nat.le_refl _) _).setCell (p := ⟨w.heap.size, 6, none⟩) (Nat.le_refl _) _).setCell (p := ⟨w.heap.size, 7, none⟩) (Nat.le_refl _) _).setCell (p := ⟨w.heap.size, 8, none⟩) (Nat.le_refl _) _).setCell (p := ⟨w.heap.size, 9, none⟩) (Nat.le_refl _) _).setCell (p := ⟨w.heap.size, 10, none⟩) (Nat.le_refl _) _).setCell (p := ⟨w.heap.size, 11, none⟩) (Nat.le_refl _) _)
  have hT3 : Tur [w.heap.size] w2 W3 := by rw [hW3]; exact tur7 _ _ _ _ _ _ _ _ _
  replace hW3 := hW3.symm
  have HC3 : Hid (CRow W3 A5 (cutL L4)) := CRow.tur HV5.out hT3 (fun a e => by have := ownC_blk ho2.out a e; simp; omega)
  have HTW3 : Hid (TbW W3 A7 n7 c7 G) := ⟨HTW2.out.len, HTW2.out.few, TRow.tur HTW2.out.row hT3 (fun a e => by have := HAB.out a e; simp at this ⊢; omega), fun x hx => by obtain ⟨k1, k2, k3, k4, k5, k6⟩ := HTW2.out.ok x hx; exact ⟨k1, k2, k3, CRow.tur k4 hT3 (fun a e => by have := HCB.out x hx a e; simp at this ⊢; omega), k5, k6⟩, HTW2.out.sort, HTW2.out.good⟩
  clear ho2 hb2 HTW HTW2 HAB HCB hT3 HCT x5 xf5 x6 xf6 x7 xf7 x8 xf8 x9 xf9 x10 xf10 x11 xf11
  have x5 := HX2.out.cell 5
  have x6 := HX2.out.cell 6
  have x7 := HX2.out.cell 7
  have x8 := HX2.out.cell 8
  have x9 := HX2.out.cell 9
  have x10 := HX2.out.cell 10
  have x11 := HX2.out.cell 11
  have xf5 := HX2.out.free 5
  have xf6 := HX2.out.free 6
  have xf7 := HX2.out.free 7
  have xf8 := HX2.out.free 8
  have xf9 := HX2.out.free 9
  have xf10 := HX2.out.free 10
  have xf11 := HX2.out.free 11
  simp only [List.getElem?_toArray, List.getElem?_cons_zero, List.getElem?_cons_succ] at x5 x6 x7 x8 x9 x10 x11
  have y0 := HX3.out.cell 0
  have y1 := HX3.out.cell 1
  have y2 := HX3.out.cell 2
  have y3 := HX3.out.cell 3
  have y4 := HX3.out.cell 4
  have y5 := HX3.out.cell 5
  have y6 := HX3.out.cell 6
  have y7 := HX3.out.cell 7
  have y8 := HX3.out.cell 8
  have y9 := HX3.out.cell 9
  have y10 := HX3.out.cell 10
  have y11 := HX3.out.cell 11
  have yf0 := HX3.out.free 0
  have yf1 := HX3.out.free 1
  have yf2 := HX3.out.free 2
  have yf3 := HX3.out.free 3
  have yf4 := HX3.out.free 4
  have yf5 := HX3.out.free 5
  have yf6 := HX3.out.free 6
  have yf7 := HX3.out.free 7
  have yf8 := HX3.out.free 8
  have yf9 := HX3.out.free 9
  have yf10 := HX3.out.free 10
  have yf11 := HX3.out.free 11
  simp only [List.getElem?_toArray, List.getElem?_cons_zero, List.getElem?_cons_succ] at y0 y1 y2 y3 y4 y5 y6 y7 y8 y9 y10 y11
  have HE3 : Hid (EvW W3 ⟨ek, en, et, Lb, La, ck, forty tn, cutL L4, K4, ⟨forty cn, cq, cb⟩⟩ Ab nb zb Aa na za A5 n5 c5) := by
    have h5 : (cutL L4).length ≤ 20 := cutTo_len L4 20
    have h6 := HN5.out
    have hb := HRb.out
    have ha := HRa.out
    have m1 := hb.2.1; have m2 := hb.2.2.1; have m3 := ha.2.1; have m4 := ha.2.2.1; unfold maxLen at m2 m4
    have hC : CRow W3 A5 (cutL L4) := HC3.out
    exact ⟨⟨_, _, _, _, _, _, _, _, _, rfl, ⟨hb.1, by omega, hb.2.2.2.1.below HB3.out⟩, ⟨ha.1, by omega, ha.2.2.2.1.below HB3.out⟩, HN5.out, by omega, hC⟩, ⟨hb.1, hb.2.1, hb.2.2.2.1.below HB3.out, fun y hy => (hb.2.2.2.2 y hy).1⟩, ⟨ha.1, ha.2.1, ha.2.2.2.1.below HB3.out, fun y hy => (ha.2.2.2.2 y hy).1⟩, by omega, by omega, ⟨HN5.out, by omega, hC, HCF.out⟩, by show (forty tn).size ≤ _; have := forty_size tn; omega, ⟨by show (forty cn).size ≤ _; have := forty_size cn; omega, hcq⟩⟩
  have HREV := Lib.hid (revent_any _ _ _ _ _ _ _ _ _ _ A7 n7 c7 G W3 HE3.out HRb.out.2.2.2.2 HRa.out.2.2.2.2 HRb.out.2.2.1 HRa.out.2.2.1 HTW3.out (fun y hy => (goodT_ok HG.out y hy).2) hen)
  go_wp2_with fail
  refine HREV.out.mono ?_
  rintro e w4 ⟨f, Ab', nb', zb', Aa', na', za', A', n', c', rfl, hf4, hb4⟩
  have HX4 := Lib.hid (HX3.out.below hb4.out HX3.out.lt)
  have HB4 := Lib.hid (HB3.out.trans (hb4.out.mono HB3.out.size))
  have HTW4 := Lib.hid (HTW3.out.below hb4.out)
  have HE4 := Lib.hid (HE3.out.below hb4.out)
  clear HREV x5 xf5 x6 xf6 x7 xf7 x8 xf8 x9 xf9 x10 xf10 x11 xf11 y0 yf0 y1 yf1 y2 yf2 y3 yf3 y4 yf4 y5 yf5 y6 yf6 y7 yf7 y8 yf8 y9 yf9 y10 yf10 y11 yf11
  obtain ⟨W5z, hW5z⟩ : ∃ W, W = w4.alloc (.cells #[.int .i64 0, .int .i64 0, .string ⟨#[]⟩, .slice none 0 0, .slice none 0 0, .int .i64 0, .string ⟨#[]⟩, .slice none 0 0, .int .i64 0, .string ⟨#[]⟩, .int .i64 0, .bool false] 33) := ⟨_, rfl⟩
  have hz := Has.new w4 33 #[.int .i64 0, .int .i64 0, .string ⟨#[]⟩, .slice none 0 0, .slice none 0 0, .int .i64 0, .string ⟨#[]⟩, .slice none 0 0, .int .i64 0, .string ⟨#[]⟩, .int .i64 0, .bool false]
  have hbz := (Below.refl w4.heap.size w4).alloc (Nat.le_refl _) (.cells #[.int .i64 0, .int .i64 0, .string ⟨#[]⟩, .slice none 0 0, .slice none 0 0, .int .i64 0, .string ⟨#[]⟩, .slice none 0 0, .int .i64 0, .string ⟨#[]⟩, .int .i64 0, .bool false] 33)
  rw [← hW5z] at hz hbz
  have hX5z := HX4.out.below hbz HX4.out.lt
  replace hW5z := hW5z.symm
  obtain ⟨q, hq⟩ : ∃ q, w4.heap.size = q := ⟨_, rfl⟩
  have hwq : w.heap.size < q := hq ▸ HX4.out.lt
  have hbz2 : Below w4.heap.size w4 W5z := hbz
  rw [hq] at hz
  have nz0 := hz.cell 0
  have nz1 := hz.cell 1
  have nz2 := hz.cell 2
  have nz3 := hz.cell 3
  have nz4 := hz.cell 4
  have nz5 := hz.cell 5
  have nz6 := hz.cell 6
  have nz7 := hz.cell 7
  have nz8 := hz.cell 8
  have nz9 := hz.cell 9
  have nz10 := hz.cell 10
  have nz11 := hz.cell 11
  have nzf0 := hz.free 0
  have nzf1 := hz.free 1
  have nzf2 := hz.free 2
  have nzf3 := hz.free 3
  have nzf4 := hz.free 4
  have nzf5 := hz.free 5
  have nzf6 := hz.free 6
  have nzf7 := hz.free 7
  have nzf8 := hz.free 8
  have nzf9 := hz.free 9
  have nzf10 := hz.free 10
  have nzf11 := hz.free 11
  simp only [List.getElem?_toArray, List.getElem?_cons_zero, List.getElem?_cons_succ] at nz0 nz1 nz2 nz3 nz4 nz5 nz6 nz7 nz8 nz9 nz10 nz11
  obtain ⟨W5, hW5⟩ : ∃ W, put12 W5z q (.int .i64 f.k) (.int .i64 f.n) (.string f.t) (.slice Ab' nb' zb') (.slice Aa' na' za') (.int .i64 f.ck) (.string f.ct) (.slice A' n' c') (.int .i64 f.K) (.string f.cl.nm) (.int .i64 f.cl.k) (.bool f.cl.no) = W := ⟨_, rfl⟩
  have ht5 := put12_tur W5z q (.int .i64 f.k) (.int .i64 f.n) (.string f.t) (.slice Ab' nb' zb') (.slice Aa' na' za') (.int .i64 f.ck) (.string f.ct) (.slice A' n' c') (.int .i64 f.K) (.string f.cl.nm) (.int .i64 f.cl.k) (.bool f.cl.no)
  have hh5 := put12_has hz (.int .i64 f.k) (.int .i64 f.n) (.string f.t) (.slice Ab' nb' zb') (.slice Aa' na' za') (.int .i64 f.ck) (.string f.ct) (.slice A' n' c') (.int .i64 f.K) (.string f.cl.nm) (.int .i64 f.cl.k) (.bool f.cl.no)
  rw [hW5] at ht5 hh5
  have HF5 : Hid (Has W5 q 33 #[.int .i64 f.k, .int .i64 f.n, .string f.t, .slice Ab' nb' zb', .slice Aa' na' za', .int .i64 f.ck, .string f.ct, .slice A' n' c', .int .i64 f.K, .string f.cl.nm, .int .i64 f.cl.k, .bool f.cl.no]) := hh5
  have HX5 : Hid (Has W5 w.heap.size 33 #[.int .i64 ek, .int .i64 en, .string et, .slice Ab nb zb, .slice Aa na za, .int .i64 ck, .string (forty tn), .slice A5 n5 c5, .int .i64 K4, .string (forty cn), .int .i64 cq, .bool cb]) := hX5z.tur ht5 (by simp; omega)
  have hb45 : Below w4.heap.size w4 W5 := (Tur.of_below (X := [q]) hbz2).trans ht5 (Fre.refl _ _) |>.below (B := w4.heap.size) (fun k hk => by simp at hk; omega) (Nat.le_refl _)
  have HB5 := Lib.hid (HB4.out.trans (hb45.mono HB4.out.size))
  have HE5 := Lib.hid (HE4.out.below hb45)
  have HF5e := Lib.hid (hf4.out.below hb45)
  have HTW5 := Lib.hid (HTW4.out.below hb45)
  have hW5' : ((((((((((((W5z.setCell ⟨q, 0, none⟩ (.int .i64 f.k)).setCell ⟨q, 1, none⟩ (.int .i64 f.n)).setCell ⟨q, 2, none⟩ (.string f.t)).setCell ⟨q, 3, none⟩ (.slice Ab' nb' zb')).setCell ⟨q, 4, none⟩ (.slice Aa' na' za')).setCell ⟨q, 5, none⟩ (.int .i64 f.ck)).setCell ⟨q, 6, none⟩ (.string f.ct)).setCell ⟨q, 7, none⟩ (.slice A' n' c')).setCell ⟨q, 8, none⟩ (.int .i64 f.K)).setCell ⟨q, 9, none⟩ (.string f.cl.nm)).setCell ⟨q, 10, none⟩ (.int .i64 f.cl.k)).setCell ⟨q, 11, none⟩ (.bool f.cl.no)) = W5 := hW5
  clear hW5 ht5 hh5 hX5z hbz hbz2 hb45
  have y0 := HX4.out.cell 0
  have yf0 := HX4.out.free 0
  simp only [List.getElem?_toArray, List.getElem?_cons_zero, List.getElem?_cons_succ] at y0
  clear y0 yf0
  skip
  have HTB5 := Lib.hid (HTB.out.below HB5.out)
  have hdr : Below W5.heap.size W5 W5.drew := (Below.refl _ _).drew
  have HE5d := Lib.hid (HE5.out.below hdr)
  have HF5d := Lib.hid (HF5e.out.below hdr)
  have HTW5d := Lib.hid (HTW5.out.below hdr)
  have HTB5d := Lib.hid (HTB5.out.below hdr)
  have HX5d := Lib.hid (HX5.out.below hdr HX5.out.lt)
  have HF5c := Lib.hid (HF5.out.below hdr HF5.out.lt)
  have hb0 : Hid (Below W5.drew.heap.size W5.drew W5.drew) := Below.refl _ _
  obtain ⟨m1, hm1⟩ : ∃ m, mayR ⟨ek, en, et, Lb, La, ck, forty tn, cutL L4, K4, ⟨forty cn, cq, cb⟩⟩ G = m := ⟨_, rfl⟩
  obtain ⟨m2, hm2⟩ : ∃ m, mayR f G = m := ⟨_, rfl⟩
  have HM1 := Lib.hid (fun (X : World) (hb : Below W5.drew.heap.size W5.drew X) => emay_any _ _ _ _ _ _ _ _ _ _ _ _ _ _ X ((HE5d.out).below hb) (HTW5d.out.below hb) (HTB5d.out.below hb))
  have HM2 := Lib.hid (fun (X : World) (hb : Below W5.drew.heap.size W5.drew X) => rmay6_any _ _ _ _ _ _ _ _ _ _ _ _ _ _ X ((HE5d.out).below hb) (HTW5d.out.below hb))
  have HM3 := Lib.hid (fun (X : World) (hb : Below W5.drew.heap.size W5.drew X) => emay_any _ _ _ _ _ _ _ _ _ _ _ _ _ _ X ((HF5d.out).below hb) (HTW5d.out.below hb) (HTB5d.out.below hb))
  have HM4 := Lib.hid (fun (X : World) (hb : Below W5.drew.heap.size W5.drew X) => rmay6_any _ _ _ _ _ _ _ _ _ _ _ _ _ _ X ((HF5d.out).below hb) (HTW5d.out.below hb))
  rw [may_one _ G (found_good HG.out _), hm1] at HM1
  rw [hm1] at HM2
  rw [may_one _ G (found_good HG.out _), hm2] at HM3
  rw [hm2] at HM4
  go_wp2_with fail
  refine wp_region_held_drew (S := (fun X : World => (X.cell? ⟨w.heap.size, 0, none⟩ = some (.int .i64 ek) ∧ X.cell? ⟨w.heap.size, 1, none⟩ = some (.int .i64 en) ∧ X.cell? ⟨w.heap.size, 2, none⟩ = some (.string et) ∧ X.cell? ⟨w.heap.size, 3, none⟩ = some (.slice Ab nb zb) ∧ X.cell? ⟨w.heap.size, 4, none⟩ = some (.slice Aa na za) ∧ X.cell? ⟨w.heap.size, 5, none⟩ = some (.int .i64 ck) ∧ X.cell? ⟨w.heap.size, 6, none⟩ = some (.string (forty tn)) ∧ X.cell? ⟨w.heap.size, 7, none⟩ = some (.slice A5 n5 c5) ∧ X.cell? ⟨w.heap.size, 8, none⟩ = some (.int .i64 K4) ∧ X.cell? ⟨w.heap.size, 9, none⟩ = some (.string (forty cn)) ∧ X.cell? ⟨w.heap.size, 10, none⟩ = some (.int .i64 cq) ∧ X.cell? ⟨w.heap.size, 11, none⟩ = some (.bool cb)) ∧ (X.cell? ⟨q, 0, none⟩ = some (.int .i64 f.k) ∧ X.cell? ⟨q, 1, none⟩ = some (.int .i64 f.n) ∧ X.cell? ⟨q, 2, none⟩ = some (.string f.t) ∧ X.cell? ⟨q, 3, none⟩ = some (.slice Ab' nb' zb') ∧ X.cell? ⟨q, 4, none⟩ = some (.slice Aa' na' za') ∧ X.cell? ⟨q, 5, none⟩ = some (.int .i64 f.ck) ∧ X.cell? ⟨q, 6, none⟩ = some (.string f.ct) ∧ X.cell? ⟨q, 7, none⟩ = some (.slice A' n' c') ∧ X.cell? ⟨q, 8, none⟩ = some (.int .i64 f.K) ∧ X.cell? ⟨q, 9, none⟩ = some (.string f.cl.nm) ∧ X.cell? ⟨q, 10, none⟩ = some (.int .i64 f.cl.k) ∧ X.cell? ⟨q, 11, none⟩ = some (.bool f.cl.no)))) (by kernel_rfl) ⟨⟨HX5.out.cell 0, HX5.out.cell 1, HX5.out.cell 2, HX5.out.cell 3, HX5.out.cell 4, HX5.out.cell 5, HX5.out.cell 6, HX5.out.cell 7, HX5.out.cell 8, HX5.out.cell 9, HX5.out.cell 10, HX5.out.cell 11⟩, ⟨HF5.out.cell 0, HF5.out.cell 1, HF5.out.cell 2, HF5.out.cell 3, HF5.out.cell 4, HF5.out.cell 5, HF5.out.cell 6, HF5.out.cell 7, HF5.out.cell 8, HF5.out.cell 9, HF5.out.cell 10, HF5.out.cell 11⟩⟩ (fun _ => ?_)
  (refine wpAnyH_take (i := 0) (v := ?_) rfl (by kernel_rfl) (by kernel_rfl) (by kernel_rfl) (fun _ _ _ h => h) (Or.inl ⟨by rfl, ?_⟩) (by assumption) ?_; rotate_left; (intro w hSw; (try dsimp only at hSw); go_simp; try with_reducible rfl); ((try simp only [List.getElem_toArray]); (try simp only [List.getElem_cons_succ]); (try simp only [List.getElem_cons_zero]); (try simp only [Act.put]); (try simp only [List.setIfInBounds_toArray]); (try simp only [List.set_cons_succ]); (try simp only [List.set_cons_zero])))
  (refine wpAnyH_take (i := 1) (v := ?_) rfl (by kernel_rfl) (by kernel_rfl) (by kernel_rfl) (fun _ _ _ h => h) (Or.inl ⟨by rfl, ?_⟩) (by assumption) ?_; rotate_left; (intro w hSw; (try dsimp only at hSw); go_simp; try with_reducible rfl); ((try simp only [List.getElem_toArray]); (try simp only [List.getElem_cons_succ]); (try simp only [List.getElem_cons_zero]); (try simp only [Act.put]); (try simp only [List.setIfInBounds_toArray]); (try simp only [List.set_cons_succ]); (try simp only [List.set_cons_zero])))
  (refine wpAnyH_take (i := 3) (v := ?_) rfl (by kernel_rfl) (by kernel_rfl) (by kernel_rfl) (fun _ _ _ h => h) (Or.inl ⟨by rfl, ?_⟩) (by assumption) ?_; rotate_left; (intro w hSw; (try dsimp only at hSw); go_simp; try with_reducible rfl); ((try simp only [List.getElem_toArray]); (try simp only [List.getElem_cons_succ]); (try simp only [List.getElem_cons_zero]); (try simp only [Act.put]); (try simp only [List.setIfInBounds_toArray]); (try simp only [List.set_cons_succ]); (try simp only [List.set_cons_zero])))
  (refine wpAnyH_take (i := 4) (v := ?_) rfl (by kernel_rfl) (by kernel_rfl) (by kernel_rfl) (fun _ _ _ h => h) (Or.inl ⟨by rfl, ?_⟩) (by assumption) ?_; rotate_left; (intro w hSw; (try dsimp only at hSw); go_simp; try with_reducible rfl); ((try simp only [List.getElem_toArray]); (try simp only [List.getElem_cons_succ]); (try simp only [List.getElem_cons_zero]); (try simp only [Act.put]); (try simp only [List.setIfInBounds_toArray]); (try simp only [List.set_cons_succ]); (try simp only [List.set_cons_zero])))
  refine wpAnyH_ready (rs := [2]) (by kernel_rfl) (by simp) ?_
  refine AllReadyH.cons rfl (fun K2 hK2 => ?_) AllReadyH.nil
  go_simp
  refine (HM1.out _ hb0.out).mono ?_
  rintro e z1 ⟨rfl, hz1⟩
  have hbz1 : Hid (Below W5.drew.heap.size W5.drew z1) := hb0.out.trans (hz1.out.mono hb0.out.size)
  go_wp2_with fail
  refine hK2.out _ _ (by (try dsimp only); exact ⟨⟨(HX5d.out.below hbz1.out HX5d.out.lt).cell 0, (HX5d.out.below hbz1.out HX5d.out.lt).cell 1, (HX5d.out.below hbz1.out HX5d.out.lt).cell 2, (HX5d.out.below hbz1.out HX5d.out.lt).cell 3, (HX5d.out.below hbz1.out HX5d.out.lt).cell 4, (HX5d.out.below hbz1.out HX5d.out.lt).cell 5, (HX5d.out.below hbz1.out HX5d.out.lt).cell 6, (HX5d.out.below hbz1.out HX5d.out.lt).cell 7, (HX5d.out.below hbz1.out HX5d.out.lt).cell 8, (HX5d.out.below hbz1.out HX5d.out.lt).cell 9, (HX5d.out.below hbz1.out HX5d.out.lt).cell 10, (HX5d.out.below hbz1.out HX5d.out.lt).cell 11⟩, ⟨(HF5c.out.below hbz1.out HF5c.out.lt).cell 0, (HF5c.out.below hbz1.out HF5c.out.lt).cell 1, (HF5c.out.below hbz1.out HF5c.out.lt).cell 2, (HF5c.out.below hbz1.out HF5c.out.lt).cell 3, (HF5c.out.below hbz1.out HF5c.out.lt).cell 4, (HF5c.out.below hbz1.out HF5c.out.lt).cell 5, (HF5c.out.below hbz1.out HF5c.out.lt).cell 6, (HF5c.out.below hbz1.out HF5c.out.lt).cell 7, (HF5c.out.below hbz1.out HF5c.out.lt).cell 8, (HF5c.out.below hbz1.out HF5c.out.lt).cell 9, (HF5c.out.below hbz1.out HF5c.out.lt).cell 10, (HF5c.out.below hbz1.out HF5c.out.lt).cell 11⟩⟩) (fun _ => ?_)
  clear hK2 K2
  (try simp only [List.getElem_toArray]); (try simp only [List.getElem_cons_succ]); (try simp only [List.getElem_cons_zero]); (try simp only [Act.put]); (try simp only [List.setIfInBounds_toArray]); (try simp only [List.set_cons_succ]); (try simp only [List.set_cons_zero])
  refine wpAnyH_ready (rs := [5]) (by kernel_rfl) (by simp) ?_
  refine AllReadyH.cons rfl (fun K2 hK2 => ?_) AllReadyH.nil
  go_simp
  refine (HM2.out _ hbz1.out).mono ?_
  rintro e z2 ⟨rfl, hz2⟩
  have hbz2 : Hid (Below W5.drew.heap.size W5.drew z2) := hbz1.out.trans (hz2.out.mono hbz1.out.size)
  go_wp2_with fail
  refine hK2.out _ _ (by (try dsimp only); exact ⟨⟨(HX5d.out.below hbz2.out HX5d.out.lt).cell 0, (HX5d.out.below hbz2.out HX5d.out.lt).cell 1, (HX5d.out.below hbz2.out HX5d.out.lt).cell 2, (HX5d.out.below hbz2.out HX5d.out.lt).cell 3, (HX5d.out.below hbz2.out HX5d.out.lt).cell 4, (HX5d.out.below hbz2.out HX5d.out.lt).cell 5, (HX5d.out.below hbz2.out HX5d.out.lt).cell 6, (HX5d.out.below hbz2.out HX5d.out.lt).cell 7, (HX5d.out.below hbz2.out HX5d.out.lt).cell 8, (HX5d.out.below hbz2.out HX5d.out.lt).cell 9, (HX5d.out.below hbz2.out HX5d.out.lt).cell 10, (HX5d.out.below hbz2.out HX5d.out.lt).cell 11⟩, ⟨(HF5c.out.below hbz2.out HF5c.out.lt).cell 0, (HF5c.out.below hbz2.out HF5c.out.lt).cell 1, (HF5c.out.below hbz2.out HF5c.out.lt).cell 2, (HF5c.out.below hbz2.out HF5c.out.lt).cell 3, (HF5c.out.below hbz2.out HF5c.out.lt).cell 4, (HF5c.out.below hbz2.out HF5c.out.lt).cell 5, (HF5c.out.below hbz2.out HF5c.out.lt).cell 6, (HF5c.out.below hbz2.out HF5c.out.lt).cell 7, (HF5c.out.below hbz2.out HF5c.out.lt).cell 8, (HF5c.out.below hbz2.out HF5c.out.lt).cell 9, (HF5c.out.below hbz2.out HF5c.out.lt).cell 10, (HF5c.out.below hbz2.out HF5c.out.lt).cell 11⟩⟩) (fun _ => ?_)
  clear hK2 K2
  (try simp only [List.getElem_toArray]); (try simp only [List.getElem_cons_succ]); (try simp only [List.getElem_cons_zero]); (try simp only [Act.put]); (try simp only [List.setIfInBounds_toArray]); (try simp only [List.set_cons_succ]); (try simp only [List.set_cons_zero])
  (refine wpAnyH_take (i := 6) (v := ?_) rfl (by kernel_rfl) (by kernel_rfl) (by kernel_rfl) (fun _ _ _ h => h) (Or.inl ⟨by rfl, ?_⟩) (by assumption) ?_; rotate_left; (intro w hSw; (try dsimp only at hSw); go_simp; try with_reducible rfl); ((try simp only [List.getElem_toArray]); (try simp only [List.getElem_cons_succ]); (try simp only [List.getElem_cons_zero]); (try simp only [Act.put]); (try simp only [List.setIfInBounds_toArray]); (try simp only [List.set_cons_succ]); (try simp only [List.set_cons_zero])))
  (refine wpAnyH_take (i := 7) (v := ?_) rfl (by kernel_rfl) (by kernel_rfl) (by kernel_rfl) (fun _ _ _ h => h) (Or.inl ⟨by rfl, ?_⟩) (by assumption) ?_; rotate_left; (intro w hSw; (try dsimp only at hSw); go_simp; try with_reducible rfl); ((try simp only [List.getElem_toArray]); (try simp only [List.getElem_cons_succ]); (try simp only [List.getElem_cons_zero]); (try simp only [Act.put]); (try simp only [List.setIfInBounds_toArray]); (try simp only [List.set_cons_succ]); (try simp only [List.set_cons_zero])))
  (refine wpAnyH_take (i := 8) (v := ?_) rfl (by kernel_rfl) (by kernel_rfl) (by kernel_rfl) (fun _ _ _ h => h) (Or.inl ⟨by rfl, ?_⟩) (by assumption) ?_; rotate_left; (intro w hSw; (try dsimp only at hSw); go_simp; try with_reducible rfl); ((try simp only [List.getElem_toArray]); (try simp only [List.getElem_cons_succ]); (try simp only [List.getElem_cons_zero]); (try simp only [Act.put]); (try simp only [List.setIfInBounds_toArray]); (try simp only [List.set_cons_succ]); (try simp only [List.set_cons_zero])))
  (refine wpAnyH_take (i := 9) (v := ?_) rfl (by kernel_rfl) (by kernel_rfl) (by kernel_rfl) (fun _ _ _ h => h) (Or.inl ⟨by rfl, ?_⟩) (by assumption) ?_; rotate_left; (intro w hSw; (try dsimp only at hSw); go_simp; try with_reducible rfl); ((try simp only [List.getElem_toArray]); (try simp only [List.getElem_cons_succ]); (try simp only [List.getElem_cons_zero]); (try simp only [Act.put]); (try simp only [List.setIfInBounds_toArray]); (try simp only [List.set_cons_succ]); (try simp only [List.set_cons_zero])))
  (refine wpAnyH_take (i := 11) (v := ?_) rfl (by kernel_rfl) (by kernel_rfl) (by kernel_rfl) (fun _ _ _ h => h) (Or.inl ⟨by rfl, ?_⟩) (by assumption) ?_; rotate_left; (intro w hSw; (try dsimp only at hSw); go_simp; try with_reducible rfl); ((try simp only [List.getElem_toArray]); (try simp only [List.getElem_cons_succ]); (try simp only [List.getElem_cons_zero]); (try simp only [Act.put]); (try simp only [List.setIfInBounds_toArray]); (try simp only [List.set_cons_succ]); (try simp only [List.set_cons_zero])))
  (refine wpAnyH_take (i := 12) (v := ?_) rfl (by kernel_rfl) (by kernel_rfl) (by kernel_rfl) (fun _ _ _ h => h) (Or.inl ⟨by rfl, ?_⟩) (by assumption) ?_; rotate_left; (intro w hSw; (try dsimp only at hSw); go_simp; try with_reducible rfl); ((try simp only [List.getElem_toArray]); (try simp only [List.getElem_cons_succ]); (try simp only [List.getElem_cons_zero]); (try simp only [Act.put]); (try simp only [List.setIfInBounds_toArray]); (try simp only [List.set_cons_succ]); (try simp only [List.set_cons_zero])))
  refine wpAnyH_ready (rs := [10]) (by kernel_rfl) (by simp) ?_
  refine AllReadyH.cons rfl (fun K2 hK2 => ?_) AllReadyH.nil
  go_simp
  refine (HM3.out _ hbz2.out).mono ?_
  rintro e z3 ⟨rfl, hz3⟩
  have hbz3 : Hid (Below W5.drew.heap.size W5.drew z3) := hbz2.out.trans (hz3.out.mono hbz2.out.size)
  go_wp2_with fail
  refine hK2.out _ _ (by (try dsimp only); exact ⟨⟨(HX5d.out.below hbz3.out HX5d.out.lt).cell 0, (HX5d.out.below hbz3.out HX5d.out.lt).cell 1, (HX5d.out.below hbz3.out HX5d.out.lt).cell 2, (HX5d.out.below hbz3.out HX5d.out.lt).cell 3, (HX5d.out.below hbz3.out HX5d.out.lt).cell 4, (HX5d.out.below hbz3.out HX5d.out.lt).cell 5, (HX5d.out.below hbz3.out HX5d.out.lt).cell 6, (HX5d.out.below hbz3.out HX5d.out.lt).cell 7, (HX5d.out.below hbz3.out HX5d.out.lt).cell 8, (HX5d.out.below hbz3.out HX5d.out.lt).cell 9, (HX5d.out.below hbz3.out HX5d.out.lt).cell 10, (HX5d.out.below hbz3.out HX5d.out.lt).cell 11⟩, ⟨(HF5c.out.below hbz3.out HF5c.out.lt).cell 0, (HF5c.out.below hbz3.out HF5c.out.lt).cell 1, (HF5c.out.below hbz3.out HF5c.out.lt).cell 2, (HF5c.out.below hbz3.out HF5c.out.lt).cell 3, (HF5c.out.below hbz3.out HF5c.out.lt).cell 4, (HF5c.out.below hbz3.out HF5c.out.lt).cell 5, (HF5c.out.below hbz3.out HF5c.out.lt).cell 6, (HF5c.out.below hbz3.out HF5c.out.lt).cell 7, (HF5c.out.below hbz3.out HF5c.out.lt).cell 8, (HF5c.out.below hbz3.out HF5c.out.lt).cell 9, (HF5c.out.below hbz3.out HF5c.out.lt).cell 10, (HF5c.out.below hbz3.out HF5c.out.lt).cell 11⟩⟩) (fun _ => ?_)
  clear hK2 K2
  (try simp only [List.getElem_toArray]); (try simp only [List.getElem_cons_succ]); (try simp only [List.getElem_cons_zero]); (try simp only [Act.put]); (try simp only [List.setIfInBounds_toArray]); (try simp only [List.set_cons_succ]); (try simp only [List.set_cons_zero])
  refine wpAnyH_ready (rs := [13]) (by kernel_rfl) (by simp) ?_
  refine AllReadyH.cons rfl (fun K2 hK2 => ?_) AllReadyH.nil
  go_simp
  refine (HM4.out _ hbz3.out).mono ?_
  rintro e z4 ⟨rfl, hz4⟩
  have hbz4 : Hid (Below W5.drew.heap.size W5.drew z4) := hbz3.out.trans (hz4.out.mono hbz3.out.size)
  go_wp2_with fail
  refine hK2.out _ _ (by (try dsimp only); exact ⟨⟨(HX5d.out.below hbz4.out HX5d.out.lt).cell 0, (HX5d.out.below hbz4.out HX5d.out.lt).cell 1, (HX5d.out.below hbz4.out HX5d.out.lt).cell 2, (HX5d.out.below hbz4.out HX5d.out.lt).cell 3, (HX5d.out.below hbz4.out HX5d.out.lt).cell 4, (HX5d.out.below hbz4.out HX5d.out.lt).cell 5, (HX5d.out.below hbz4.out HX5d.out.lt).cell 6, (HX5d.out.below hbz4.out HX5d.out.lt).cell 7, (HX5d.out.below hbz4.out HX5d.out.lt).cell 8, (HX5d.out.below hbz4.out HX5d.out.lt).cell 9, (HX5d.out.below hbz4.out HX5d.out.lt).cell 10, (HX5d.out.below hbz4.out HX5d.out.lt).cell 11⟩, ⟨(HF5c.out.below hbz4.out HF5c.out.lt).cell 0, (HF5c.out.below hbz4.out HF5c.out.lt).cell 1, (HF5c.out.below hbz4.out HF5c.out.lt).cell 2, (HF5c.out.below hbz4.out HF5c.out.lt).cell 3, (HF5c.out.below hbz4.out HF5c.out.lt).cell 4, (HF5c.out.below hbz4.out HF5c.out.lt).cell 5, (HF5c.out.below hbz4.out HF5c.out.lt).cell 6, (HF5c.out.below hbz4.out HF5c.out.lt).cell 7, (HF5c.out.below hbz4.out HF5c.out.lt).cell 8, (HF5c.out.below hbz4.out HF5c.out.lt).cell 9, (HF5c.out.below hbz4.out HF5c.out.lt).cell 10, (HF5c.out.below hbz4.out HF5c.out.lt).cell 11⟩⟩) (fun _ => ?_)
  clear hK2 K2
  (try simp only [List.getElem_toArray]); (try simp only [List.getElem_cons_succ]); (try simp only [List.getElem_cons_zero]); (try simp only [Act.put]); (try simp only [List.setIfInBounds_toArray]); (try simp only [List.set_cons_succ]); (try simp only [List.set_cons_zero])
  (refine wpAnyH_take (i := 14) (v := ?_) rfl (by kernel_rfl) (by kernel_rfl) (by kernel_rfl) (fun _ _ _ h => h) (Or.inl ⟨by rfl, ?_⟩) (by assumption) ?_; rotate_left; (intro w hSw; (try dsimp only at hSw); go_simp; try with_reducible rfl); ((try simp only [List.getElem_toArray]); (try simp only [List.getElem_cons_succ]); (try simp only [List.getElem_cons_zero]); (try simp only [Act.put]); (try simp only [List.setIfInBounds_toArray]); (try simp only [List.set_cons_succ]); (try simp only [List.set_cons_zero])))
  (refine wpAnyH_take (i := 15) (v := ?_) rfl (by kernel_rfl) (by kernel_rfl) (by kernel_rfl) (fun _ _ _ h => h) (Or.inl ⟨by rfl, ?_⟩) (by assumption) ?_; rotate_left; (intro w hSw; (try dsimp only at hSw); go_simp; try with_reducible rfl); ((try simp only [List.getElem_toArray]); (try simp only [List.getElem_cons_succ]); (try simp only [List.getElem_cons_zero]); (try simp only [Act.put]); (try simp only [List.setIfInBounds_toArray]); (try simp only [List.set_cons_succ]); (try simp only [List.set_cons_zero])))
  (refine wpAnyH_take (i := 16) (v := ?_) rfl (by kernel_rfl) (by kernel_rfl) (by kernel_rfl) (fun _ _ _ h => h) (Or.inl ⟨by rfl, ?_⟩) (by assumption) ?_; rotate_left; (intro w hSw; (try dsimp only at hSw); go_simp; try with_reducible rfl); ((try simp only [List.getElem_toArray]); (try simp only [List.getElem_cons_succ]); (try simp only [List.getElem_cons_zero]); (try simp only [Act.put]); (try simp only [List.setIfInBounds_toArray]); (try simp only [List.set_cons_succ]); (try simp only [List.set_cons_zero])))
  refine wpAnyH_ready (rs := [17]) (by kernel_rfl) (by simp) ?_
  refine AllReadyH.cons rfl (fun K2 hK2 => ?_) AllReadyH.nil
  go_simp
  refine (lives6_any _).mono ?_
  rintro e z5 ⟨rfl, hz5⟩
  have hbz5 : Hid (Below W5.drew.heap.size W5.drew z5) := hbz4.out.trans (hz5.out.mono hbz4.out.size)
  go_wp2_with fail
  refine hK2.out _ _ (by (try dsimp only); exact ⟨⟨(HX5d.out.below hbz5.out HX5d.out.lt).cell 0, (HX5d.out.below hbz5.out HX5d.out.lt).cell 1, (HX5d.out.below hbz5.out HX5d.out.lt).cell 2, (HX5d.out.below hbz5.out HX5d.out.lt).cell 3, (HX5d.out.below hbz5.out HX5d.out.lt).cell 4, (HX5d.out.below hbz5.out HX5d.out.lt).cell 5, (HX5d.out.below hbz5.out HX5d.out.lt).cell 6, (HX5d.out.below hbz5.out HX5d.out.lt).cell 7, (HX5d.out.below hbz5.out HX5d.out.lt).cell 8, (HX5d.out.below hbz5.out HX5d.out.lt).cell 9, (HX5d.out.below hbz5.out HX5d.out.lt).cell 10, (HX5d.out.below hbz5.out HX5d.out.lt).cell 11⟩, ⟨(HF5c.out.below hbz5.out HF5c.out.lt).cell 0, (HF5c.out.below hbz5.out HF5c.out.lt).cell 1, (HF5c.out.below hbz5.out HF5c.out.lt).cell 2, (HF5c.out.below hbz5.out HF5c.out.lt).cell 3, (HF5c.out.below hbz5.out HF5c.out.lt).cell 4, (HF5c.out.below hbz5.out HF5c.out.lt).cell 5, (HF5c.out.below hbz5.out HF5c.out.lt).cell 6, (HF5c.out.below hbz5.out HF5c.out.lt).cell 7, (HF5c.out.below hbz5.out HF5c.out.lt).cell 8, (HF5c.out.below hbz5.out HF5c.out.lt).cell 9, (HF5c.out.below hbz5.out HF5c.out.lt).cell 10, (HF5c.out.below hbz5.out HF5c.out.lt).cell 11⟩⟩) (fun _ => ?_)
  clear hK2 K2
  (try simp only [List.getElem_toArray]); (try simp only [List.getElem_cons_succ]); (try simp only [List.getElem_cons_zero]); (try simp only [Act.put]); (try simp only [List.setIfInBounds_toArray]); (try simp only [List.set_cons_succ]); (try simp only [List.set_cons_zero])
  (refine wpAnyH_take (i := 18) (v := ?_) rfl (by kernel_rfl) (by kernel_rfl) (by kernel_rfl) (fun _ _ _ h => h) (Or.inl ⟨by rfl, ?_⟩) (by assumption) ?_; rotate_left; (intro w hSw; (try dsimp only at hSw); go_simp; try with_reducible rfl); ((try simp only [List.getElem_toArray]); (try simp only [List.getElem_cons_succ]); (try simp only [List.getElem_cons_zero]); (try simp only [Act.put]); (try simp only [List.setIfInBounds_toArray]); (try simp only [List.set_cons_succ]); (try simp only [List.set_cons_zero])))
  (refine wpAnyH_take (i := 19) (v := ?_) rfl (by kernel_rfl) (by kernel_rfl) (by kernel_rfl) (fun _ _ _ h => h) (Or.inl ⟨by rfl, ?_⟩) (by assumption) ?_; rotate_left; (intro w hSw; (try dsimp only at hSw); go_simp; try with_reducible rfl); ((try simp only [List.getElem_toArray]); (try simp only [List.getElem_cons_succ]); (try simp only [List.getElem_cons_zero]); (try simp only [Act.put]); (try simp only [List.setIfInBounds_toArray]); (try simp only [List.set_cons_succ]); (try simp only [List.set_cons_zero])))
  refine wpAnyH_done (by kernel_rfl) ?_ _
  go_wp2_with fail
  go_ret
  exact ⟨rfl, HB5.out.trans ((hdr.trans (hbz5.out.mono hdr.size)).mono HB5.out.size)⟩
end Go.Proofs.YtjkmbggaoinkdaaDoor.eventMay
