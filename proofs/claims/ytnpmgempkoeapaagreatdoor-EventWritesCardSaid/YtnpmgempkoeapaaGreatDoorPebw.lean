/-
  Put together, as far as it is used: EwLaw.
-/
import Derived.Test.YtnpmgempkoeapaaGreatDoorPebs
import Derived.Test.YtnpmgempkoeapaaGreatDoorPebt
import Derived.Test.YtnpmgempkoeapaaGreatDoorPebu
import Derived.Test.YtnpmgempkoeapaaGreatDoorPebi
import Derived.Test.YtnpmgempkoeapaaGreatDoorPebv
set_option linter.unusedVariables false
set_option linter.unusedSimpArgs false
set_option linter.defProp false
namespace Go.Proofs.YtnpmgempkoeapaaGreatDoor.eventWrites
open Go.RowKit Dg
set_option maxRecDepth 100000
theorem mkS {P : Prop} {X : World} {q q9 : Nat} {t : TypeId} {a0 a1 a2 a3 a4 a5 a6 a7 a8 a9 a10 a11 b0 b1 b2 b3 b4 b5 b6 b7 b8 b9 b10 b11 : Value} (h : Has X q t #[a0, a1, a2, a3, a4, a5, a6, a7, a8, a9, a10, a11]) (k : Has X q9 t #[b0, b1, b2, b3, b4, b5, b6, b7, b8, b9, b10, b11]) (hc : P) : X.cell? ⟨q, 0, none⟩ = some a0 ∧ X.cell? ⟨q, 1, none⟩ = some a1 ∧ X.cell? ⟨q, 2, none⟩ = some a2 ∧ X.cell? ⟨q, 3, none⟩ = some a3 ∧ X.cell? ⟨q, 4, none⟩ = some a4 ∧ X.cell? ⟨q, 5, none⟩ = some a5 ∧ X.cell? ⟨q, 6, none⟩ = some a6 ∧ X.cell? ⟨q, 7, none⟩ = some a7 ∧ X.cell? ⟨q, 8, none⟩ = some a8 ∧ X.cell? ⟨q, 9, none⟩ = some a9 ∧ X.cell? ⟨q, 10, none⟩ = some a10 ∧ X.cell? ⟨q, 11, none⟩ = some a11 ∧ X.cell? ⟨q9, 0, none⟩ = some b0 ∧ X.cell? ⟨q9, 1, none⟩ = some b1 ∧ X.cell? ⟨q9, 2, none⟩ = some b2 ∧ X.cell? ⟨q9, 3, none⟩ = some b3 ∧ X.cell? ⟨q9, 4, none⟩ = some b4 ∧ X.cell? ⟨q9, 5, none⟩ = some b5 ∧ X.cell? ⟨q9, 6, none⟩ = some b6 ∧ X.cell? ⟨q9, 7, none⟩ = some b7 ∧ X.cell? ⟨q9, 8, none⟩ = some b8 ∧ X.cell? ⟨q9, 9, none⟩ = some b9 ∧ X.cell? ⟨q9, 10, none⟩ = some b10 ∧ X.cell? ⟨q9, 11, none⟩ = some b11 ∧ P :=
 ⟨h.cell 0, h.cell 1, h.cell 2, h.cell 3, h.cell 4, h.cell 5, h.cell 6, h.cell 7, h.cell 8, h.cell 9, h.cell 10, h.cell 11, k.cell 0, k.cell 1, k.cell 2, k.cell 3, k.cell 4, k.cell 5, k.cell 6, k.cell 7, k.cell 8, k.cell 9, k.cell 10, k.cell 11, hc⟩
theorem CRow.tur {X : List Nat} {w w' : World} {A : Option Addr} {L : List Cl} (h : CRow w A L) (ht : Tur X w w') (ho : ∀ a, A = some a → a.block ∉ X) : CRow w' A L := fun hne => by
 obtain ⟨b, off, e, hc⟩ := h hne
 have hb := ho _ e
 have k : ∀ (i : Nat) (v : Value), w.cell? ⟨b, i, none⟩ = some v → w'.cell? ⟨b, i, none⟩ = some v := fun i v h => (World.cell?_of_block (ht.block b (World.block_lt_of_cell? w _ h) hb)).trans h
 exact ⟨b, off, e, fun i hi => ⟨k _ _ (hc i hi).1, k _ _ (hc i hi).2.1, k _ _ (hc i hi).2.2⟩⟩
theorem TRow.tur {X : List Nat} {w w' : World} {A : Option Addr} {L : List Tb} (h : TRow w A L) (ht : Tur X w w') (ho : ∀ a, A = some a → a.block ∉ X) : TRow w' A L := fun hne => by
 obtain ⟨b, off, e, hc⟩ := h hne
 have hb := ho _ e
 have k : ∀ (i : Nat) (v : Value), w.cell? ⟨b, i, none⟩ = some v → w'.cell? ⟨b, i, none⟩ = some v := fun i v h => (World.cell?_of_block (ht.block b (World.block_lt_of_cell? w _ h) hb)).trans h
 exact ⟨b, off, e, fun i hi => ⟨k _ _ (hc i hi).1, k _ _ (hc i hi).2.1, k _ _ (hc i hi).2.2⟩⟩
theorem ownC_blk {B : Nat} {w : World} {A : Option Addr} {n c : Nat} {L : List Cl} (h : OwnC B w (.slice A n c) L) : ∀ a, A = some a → B ≤ a.block := by
 rcases h.2 with ⟨hv, hn⟩ | ⟨g, cap, cur, hv, hg, hh, hc, hcm, hsz, ht⟩
 ·injection hv with e1; subst e1; exact fun a e => by cases e
 ·injection hv with e1; subst e1; exact fun a e => by injection e with e; subst e; exact hg
theorem ownT_blk {B : Nat} {w : World} {A : Option Addr} {n c : Nat} {L : List Tb} (h : OwnT B w (.slice A n c) L) : ∀ a, A = some a → B ≤ a.block := by
 rcases h.2 with ⟨hv, hn⟩ | ⟨g, cap, cur, hv, hg, hh, hc, hcm, hsz, ht⟩
 ·injection hv with e1; subst e1; exact fun a e => by cases e
 ·injection hv with e1; subst e1; exact fun a e => by injection e with e; subst e; exact hg
theorem tur7 (W : World) (g : Nat) (u5 u6 u7 u8 u9 u10 u11 : Value) : Tur [g] W (((((((W.setCell ⟨g, 5, none⟩ u5).setCell ⟨g, 6, none⟩ u6).setCell ⟨g, 7, none⟩ u7).setCell ⟨g, 8, none⟩ u8).setCell ⟨g, 9, none⟩ u9).setCell ⟨g, 10, none⟩ u10).setCell ⟨g, 11, none⟩ u11) :=
 ((((((Tur.setCell W (p := ⟨g, 5, none⟩) (by simp) u5).trans (Tur.setCell _ (p := ⟨g, 6, none⟩) (by simp) u6) (Fre.refl _ _)).trans (Tur.setCell _ (p := ⟨g, 7, none⟩) (by simp) u7) (Fre.refl _ _)).trans (Tur.setCell _ (p := ⟨g, 8, none⟩) (by simp) u8) (Fre.refl _ _)).trans (Tur.setCell _ (p := ⟨g, 9, none⟩) (by simp) u9) (Fre.refl _ _)).trans (Tur.setCell _ (p := ⟨g, 10, none⟩) (by simp) u10) (Fre.refl _ _)).trans (Tur.setCell _ (p := ⟨g, 11, none⟩) (by simp) u11) (Fre.refl _ _)
theorem found_good {T : List Tb} (h : GoodD (tds T)) (s : ByteArray) : plF T s = true → ∃ k : Nat, tfK T s = (k : Int) ∧ GoodS (tfL T s) k := fun hp => by
 have hl := plF_lt hp
 obtain ⟨h1, h2⟩ := tfL_yes hp hl
 obtain ⟨_, k, hk, hg⟩ := goodT_ok h (T[lbN T s]'hl) (List.getElem_mem hl)
 exact ⟨k, by rw [h2]; exact hk, by rw [h1]; exact hg⟩
set_option maxHeartbeats 8000000 in
theorem walk (A : Option Addr) (n c : Nat) (T : List Tb) (ek en : Int) (et : ByteArray) (Ab : Option Addr) (nb zb : Nat) (Lb : List Vl) (Aa : Option Addr) (na za : Nat) (La : List Vl) (ck : Int) (tn : ByteArray) (A4 : Option Addr) (n4 c4 : Nat) (L4 : List Cl) (K4 : Int) (cn : ByteArray) (cq : Int) (cb : Bool) (w : World) (hn : T.length = n) (_hc : n ≤ c) (_hm : c ≤ maxLen) (hA : TRow w A T) (hI : ∀ x ∈ T, TbIn w x)
 (hek : -9223372036854775808 ≤ ek ∧ ek ≤ 9223372036854775807) (hen : -9223372036854775808 ≤ en ∧ en ≤ 9223372036854775807) (hRb : RowIn w Ab nb zb Lb) (hRa : RowIn w Aa na za La) (hL : L4.length = n4 ∧ n4 ≤ c4 ∧ c4 ≤ maxLen ∧ CRow w A4 L4 ∧ ∀ v ∈ L4, v.fit) (hcl : (Cl.mk cn cq cb).fit ∧ tn.size ≤ 140737488355328) (het : et.size ≤ 140737488355328) (hTb : Tabs w) :
 Calls Tryz.prog 3 #[.slice A n c, .agg #[.int .i64 ek, .int .i64 en, .string et, .slice Ab nb zb, .slice Aa na za, .int .i64 ck, .string tn, .slice A4 n4 c4, .int .i64 K4, .string cn, .int .i64 cq, .bool cb]] w fun e w' => e = .returned (.bool true) ∧ Below w.heap.size w w' := by
 have HGD := Lib.hid (fun (W : World) (hb : Below w.heap.size w W) => rgood6_own A T n c W hn (hA.below hb) (fun x hx => (by obtain ⟨h1, h2⟩ := hI x hx; exact ⟨⟨h1.1, h1.2.1, h1.2.2.1, h1.2.2.2.below hb⟩, h2⟩)))
 have HRb := Lib.hid hRb
 have HRa := Lib.hid hRa
 have HTB := Lib.hid hTb
 have HCT := Lib.hid (fun (W : World) (hb : Below w.heap.size w W) => cut6_any ck tn A4 L4 n4 c4 K4 cn cq cb W hL.1 hL.2.1 hL.2.2.1 (hL.2.2.2.1.below hb) hL.2.2.2.2 hcl.2 hcl.1.1)
 have HCF := Lib.hid (cutL_fit L4 hL.2.2.2.2)
 have hcq := hcl.1.2
 have HB0 := Lib.hid (show Below w.heap.size w (w.alloc (.cells #[.int .i64 ek, .int .i64 en, .string et, .slice Ab nb zb, .slice Aa na za, .int .i64 ck, .string tn, .slice A4 n4 c4, .int .i64 K4, .string cn, .int .i64 cq, .bool cb] 33)) from (Below.refl _ w).alloc (Nat.le_refl _) _)
 have HX0 := Lib.hid (Has.new w 33 #[.int .i64 ek, .int .i64 en, .string et, .slice Ab nb zb, .slice Aa na za, .int .i64 ck, .string tn, .slice A4 n4 c4, .int .i64 K4, .string cn, .int .i64 cq, .bool cb])
 clear hA hI hn hL hRb hRa hTb hcl
 go_enter Tryz.func3, Tryz.ntmps3
 go_wp2_with fail
 refine (HGD.out _ HB0.out).mono ?_
 rintro e w1 ⟨v1, G, rfl, ho1, HT, hk1, hco1, hb1⟩
 obtain ⟨A7, n7, c7, rfl, HN7, hnc7, hcm7, HV7, HZ7⟩ := ownT_open ho1.out
 have HB1 := Lib.hid (HB0.out.trans (hb1.out.mono HB0.out.size))
 have HX1 := Lib.hid (HX0.out.below hb1.out HX0.out.lt)
 have hg3 := (g6_good T 3)
 rw [← HT.out] at hg3
 have HG := Lib.hid hg3.1
 have h7 : n7 ≤ 3 := by have h1 := HN7.out; have h2 := hg3.2; rw [tds_len] at h2; omega
 have HTW : Hid (TbW w1 A7 n7 c7 G) := ⟨HN7.out, by omega, HV7.out, hk1.out, goodT_sort HG.out, fun y hy => by obtain ⟨_, k, h1, h2⟩ := goodT_ok HG.out y hy; exact ⟨k, h1, h2.keys.2.1, by have := h2.keys.2.2; omega⟩⟩
 have HAB := Lib.hid (ownT_blk ho1.out)
 have HCB := Lib.hid (fun x (hx : x ∈ G) => ownC_blk (hco1.out x hx))
 clear hg3 HGD ho1 hb1 HX0 HB0 hk1 hco1
 have x5 := HX1.out.cell 5
 have x6 := HX1.out.cell 6
 have x7 := HX1.out.cell 7
 have x8 := HX1.out.cell 8
 have x9 := HX1.out.cell 9
 have x10 := HX1.out.cell 10
 have x11 := HX1.out.cell 11
 have xf5 := HX1.out.free 5
 have xf6 := HX1.out.free 6
 have xf7 := HX1.out.free 7
 have xf8 := HX1.out.free 8
 have xf9 := HX1.out.free 9
 have xf10 := HX1.out.free 10
 have xf11 := HX1.out.free 11
 simp only [zG, zH, zI] at x5 x6 x7 x8 x9 x10 x11
 go_wp2_with fail
 refine (HCT.out w1 HB1.out).mono ?_
 rintro e w2 ⟨v2, rfl, ho2, hb2⟩
 obtain ⟨A5, n5, c5, rfl, HN5, _, _, HV5, _⟩ := ownC_open ho2.out
 have HX2 := Lib.hid (HX1.out.below hb2.out HX1.out.lt)
 have HB2 := Lib.hid (HB1.out.trans (hb2.out.mono HB1.out.size))
 have HTW2 := Lib.hid (HTW.out.below hb2.out)
 have hls : w.heap.size < w1.heap.size := HX1.out.lt
 obtain ⟨W3, hW3⟩ : ∃ W, W = (((((((w2.setCell ⟨w.heap.size, 5, none⟩ (.int .i64 ck)).setCell ⟨w.heap.size, 6, none⟩ (.string (forty tn))).setCell ⟨w.heap.size, 7, none⟩ (.slice A5 n5 c5)).setCell ⟨w.heap.size, 8, none⟩ (.int .i64 K4)).setCell ⟨w.heap.size, 9, none⟩ (.string (forty cn))).setCell ⟨w.heap.size, 10, none⟩ (.int .i64 cq)).setCell ⟨w.heap.size, 11, none⟩ (.bool cb)) := ⟨_, rfl⟩
 have HX3 : Hid (Has W3 w.heap.size 33 #[.int .i64 ek, .int .i64 en, .string et, .slice Ab nb zb, .slice Aa na za, .int .i64 ck, .string (forty tn), .slice A5 n5 c5, .int .i64 K4, .string (forty cn), .int .i64 cq, .bool cb]) := by rw [hW3]; exact (((((((HX2.out.put 5 _).put 6 _).put 7 _).put 8 _).put 9 _).put 10 _).put 11 _)
 have HB3 : Hid (Below w.heap.size w W3) := by rw [hW3]; exact (((((((HB2.out.setCell (p := ⟨w.heap.size, 5, none⟩) (Nat.le_refl _) _).setCell (p := ⟨w.heap.size, 6, none⟩) (Nat.le_refl _) _).setCell (p := ⟨w.heap.size, 7, none⟩) (Nat.le_refl _) _).setCell (p := ⟨w.heap.size, 8, none⟩) (Nat.le_refl _) _).setCell (p := ⟨w.heap.size, 9, none⟩) (Nat.le_refl _) _).setCell (p := ⟨w.heap.size, 10, none⟩) (Nat.le_refl _) _).setCell (p := ⟨w.heap.size, 11, none⟩) (Nat.le_refl _) _)
 have hT3 : Tur [w.heap.size] w2 W3 := by rw [hW3]; exact tur7 _ _ _ _ _ _ _ _ _
 replace hW3 := hW3.symm
 have HC3 : Hid (CRow W3 A5 (cutL L4)) := CRow.tur HV5.out hT3 (fun a e => by have := ownC_blk ho2.out a e; simp; omega)
 have HTW3 : Hid (TbW W3 A7 n7 c7 G) := ⟨HTW2.out.len, HTW2.out.few, TRow.tur HTW2.out.row hT3 (fun a e => by have := HAB.out a e; simp at this ⊢; omega), fun x hx => by obtain ⟨k1, k2, k3, k4, k5, k6⟩ := HTW2.out.ok x hx; exact ⟨k1, k2, k3, CRow.tur k4 hT3 (fun a e => by have := HCB.out x hx a e; simp at this ⊢; omega), k5, k6⟩, HTW2.out.sort, HTW2.out.good⟩
 clear ho2 hb2 HTW HTW2 HAB HCB hT3 HCT x5 xf5 x6 xf6 x7 xf7 x8 xf8 x9 xf9 x10 xf10 x11 xf11
 have x5 := HX2.out.cell 5
 have x6 := HX2.out.cell 6
 have x7 := HX2.out.cell 7
 have x8 := HX2.out.cell 8
 have x9 := HX2.out.cell 9
 have x10 := HX2.out.cell 10
 have x11 := HX2.out.cell 11
 have xf5 := HX2.out.free 5
 have xf6 := HX2.out.free 6
 have xf7 := HX2.out.free 7
 have xf8 := HX2.out.free 8
 have xf9 := HX2.out.free 9
 have xf10 := HX2.out.free 10
 have xf11 := HX2.out.free 11
 simp only [zG, zH, zI] at x5 x6 x7 x8 x9 x10 x11
 obtain ⟨y0, y1, y2, y3, y4, y5, y6, y7, y8, y9, y10, y11, yf0, yf1, yf2, yf3, yf4, yf5, yf6, yf7, yf8, yf9, yf10, yf11⟩ := all12 HX3.out
 have HE3 : Hid (EvW W3 ⟨ek, en, et, Lb, La, ck, forty tn, cutL L4, K4, ⟨forty cn, cq, cb⟩⟩ Ab nb zb Aa na za A5 n5 c5) := by
  have h5 : (cutL L4).length ≤ 20 := cutTo_len L4 20
  have h6 := HN5.out
  have hb := HRb.out
  have ha := HRa.out
  have m1 := hb.2.1; have m2 := hb.2.2.1; have m3 := ha.2.1; have m4 := ha.2.2.1; unfold maxLen at m2 m4
  have hC : CRow W3 A5 (cutL L4) := HC3.out
  exact ⟨⟨_, _, _, _, _, _, _, _, _, rfl, ⟨hb.1, by omega, hb.2.2.2.1.below HB3.out⟩, ⟨ha.1, by omega, ha.2.2.2.1.below HB3.out⟩, HN5.out, by omega, hC⟩, ⟨hb.1, hb.2.1, hb.2.2.2.1.below HB3.out, fun y hy => (hb.2.2.2.2 y hy).1⟩, ⟨ha.1, ha.2.1, ha.2.2.2.1.below HB3.out, fun y hy => (ha.2.2.2.2 y hy).1⟩, by omega, by omega, ⟨HN5.out, by omega, hC, HCF.out⟩, by show (forty tn).size ≤ _; have := forty_size tn; omega, ⟨by show (forty cn).size ≤ _; have := forty_size cn; omega, hcq⟩⟩
 have HREV := Lib.hid (revent_any _ _ _ _ _ _ _ _ _ _ A7 n7 c7 G W3 HE3.out HRb.out.2.2.2.2 HRa.out.2.2.2.2 HRb.out.2.2.1 HRa.out.2.2.1 HTW3.out (fun y hy => (goodT_ok HG.out y hy).2) hen)
 go_wp2_with fail
 refine HREV.out.mono ?_
 rintro e w4 ⟨f, Ab', nb', zb', Aa', na', za', A', n', c', rfl, hf4, hb4, hsm4⟩
 have HX4 := Lib.hid (HX3.out.below hb4.out HX3.out.lt)
 have HB4 := Lib.hid (HB3.out.trans (hb4.out.mono HB3.out.size))
 have HTW4 := Lib.hid (HTW3.out.below hb4.out)
 have HE4 := Lib.hid (HE3.out.below hb4.out)
 clear HREV x5 xf5 x6 xf6 x7 xf7 x8 xf8 x9 xf9 x10 xf10 x11 xf11 y0 yf0 y1 yf1 y2 yf2 y3 yf3 y4 yf4 y5 yf5 y6 yf6 y7 yf7 y8 yf8 y9 yf9 y10 yf10 y11 yf11
 obtain ⟨W5z, hW5z⟩ : ∃ W, W = w4.alloc (.cells #[.int .i64 0, .int .i64 0, .string ⟨#[]⟩, .slice none 0 0, .slice none 0 0, .int .i64 0, .string ⟨#[]⟩, .slice none 0 0, .int .i64 0, .string ⟨#[]⟩, .int .i64 0, .bool false] 33) := ⟨_, rfl⟩
 have hz := Has.new w4 33 #[.int .i64 0, .int .i64 0, .string ⟨#[]⟩, .slice none 0 0, .slice none 0 0, .int .i64 0, .string ⟨#[]⟩, .slice none 0 0, .int .i64 0, .string ⟨#[]⟩, .int .i64 0, .bool false]
 have hbz := (Below.refl w4.heap.size w4).alloc (Nat.le_refl _) (.cells #[.int .i64 0, .int .i64 0, .string ⟨#[]⟩, .slice none 0 0, .slice none 0 0, .int .i64 0, .string ⟨#[]⟩, .slice none 0 0, .int .i64 0, .string ⟨#[]⟩, .int .i64 0, .bool false] 33)
 rw [← hW5z] at hz hbz
 have hX5z := HX4.out.below hbz HX4.out.lt
 replace hW5z := hW5z.symm
 obtain ⟨q, hq⟩ : ∃ q, w4.heap.size = q := ⟨_, rfl⟩
 have hwq : w.heap.size < q := hq ▸ HX4.out.lt
 have hbz2 : Below w4.heap.size w4 W5z := hbz
 rw [hq] at hz
 obtain ⟨nz0, nz1, nz2, nz3, nz4, nz5, nz6, nz7, nz8, nz9, nz10, nz11, nzf0, nzf1, nzf2, nzf3, nzf4, nzf5, nzf6, nzf7, nzf8, nzf9, nzf10, nzf11⟩ := all12 hz
 obtain ⟨W5, hW5⟩ : ∃ W, put12 W5z q (.int .i64 f.k) (.int .i64 f.n) (.string f.t) (.slice Ab' nb' zb') (.slice Aa' na' za') (.int .i64 f.ck) (.string f.ct) (.slice A' n' c') (.int .i64 f.K) (.string f.cl.nm) (.int .i64 f.cl.k) (.bool f.cl.no) = W := ⟨_, rfl⟩
 have ht5 := put12_tur W5z q (.int .i64 f.k) (.int .i64 f.n) (.string f.t) (.slice Ab' nb' zb') (.slice Aa' na' za') (.int .i64 f.ck) (.string f.ct) (.slice A' n' c') (.int .i64 f.K) (.string f.cl.nm) (.int .i64 f.cl.k) (.bool f.cl.no)
 have hh5 := put12_has hz (.int .i64 f.k) (.int .i64 f.n) (.string f.t) (.slice Ab' nb' zb') (.slice Aa' na' za') (.int .i64 f.ck) (.string f.ct) (.slice A' n' c') (.int .i64 f.K) (.string f.cl.nm) (.int .i64 f.cl.k) (.bool f.cl.no)
 rw [hW5] at ht5 hh5
 have HF5 : Hid (Has W5 q 33 #[.int .i64 f.k, .int .i64 f.n, .string f.t, .slice Ab' nb' zb', .slice Aa' na' za', .int .i64 f.ck, .string f.ct, .slice A' n' c', .int .i64 f.K, .string f.cl.nm, .int .i64 f.cl.k, .bool f.cl.no]) := hh5
 have HX5 : Hid (Has W5 w.heap.size 33 #[.int .i64 ek, .int .i64 en, .string et, .slice Ab nb zb, .slice Aa na za, .int .i64 ck, .string (forty tn), .slice A5 n5 c5, .int .i64 K4, .string (forty cn), .int .i64 cq, .bool cb]) := hX5z.tur ht5 (by simp; omega)
 have hb45 : Below w4.heap.size w4 W5 := (Tur.of_below (X := [q]) hbz2).trans ht5 (Fre.refl _ _) |>.below (B := w4.heap.size) (fun k hk => by simp at hk; omega) (Nat.le_refl _)
 have HB5 := Lib.hid (HB4.out.trans (hb45.mono HB4.out.size))
 have HE5 := Lib.hid (HE4.out.below hb45)
 have HF5e := Lib.hid (hf4.out.below hb45)
 have HTW5 := Lib.hid (HTW4.out.below hb45)
 have hW5' : ((((((((((((W5z.setCell ⟨q, 0, none⟩ (.int .i64 f.k)).setCell ⟨q, 1, none⟩ (.int .i64 f.n)).setCell ⟨q, 2, none⟩ (.string f.t)).setCell ⟨q, 3, none⟩ (.slice Ab' nb' zb')).setCell ⟨q, 4, none⟩ (.slice Aa' na' za')).setCell ⟨q, 5, none⟩ (.int .i64 f.ck)).setCell ⟨q, 6, none⟩ (.string f.ct)).setCell ⟨q, 7, none⟩ (.slice A' n' c')).setCell ⟨q, 8, none⟩ (.int .i64 f.K)).setCell ⟨q, 9, none⟩ (.string f.cl.nm)).setCell ⟨q, 10, none⟩ (.int .i64 f.cl.k)).setCell ⟨q, 11, none⟩ (.bool f.cl.no)) = W5 := hW5
 clear hW5 ht5 hh5 hX5z hbz hbz2 hb45
 have y0 := HX4.out.cell 0
 have yf0 := HX4.out.free 0
 simp only [zG, zH, zI] at y0
 clear y0 yf0
 skip
 have HTB5 := Lib.hid (HTB.out.below HB5.out)
 have HSM := Lib.hid hsm4.out
 have hone := may_one f G (found_good HG.out _)
 obtain ⟨E, hE⟩ : ∃ m, mayR f G = m := ⟨_, rfl⟩
 have h0 : mayP f G = E := hone.trans hE
 clear hone hsm4
 have HRM := Lib.hid (fun (X : World) (hb : Below W5.heap.size W5 X) => rmay6_any f Ab' nb' zb' Aa' na' za' A' n' c' A7 n7 c7 G X (HF5e.out.below hb) (HTW5.out.below hb))
 rw [hE] at HRM
 obtain ⟨z0, z1, z2, z3, z4, z5, z6, z7, z8, z9, z10, z11, _⟩ := allE HF5.out
 by_cases hE0 : E = 0
 ·subst hE0
  have HWR := Lib.hid (ewrite_ev f Ab' nb' zb' Aa' na' za' A' n' c' A7 n7 c7 G W5 HF5e.out HTW5.out HTB5.out HG.out HSM.out h0 hE)
  have H0 := Lib.hid h0
  have HE0' := Lib.hid hE
  clear h0 hE
  go_wp2_with fail
  refine HWR.out.mono ?_
  rintro e w6 ⟨v6, rfl, ho6, hb6⟩
  obtain ⟨Ax, nx, cx, rfl, hlx, hcx, hrx⟩ := own_openN ho6.out
  clear z0 z1 z2 z3 z4 z5 z6 z7 z8 z9 z10 z11
  have HF6 := Lib.hid (HF5.out.below hb6.out HF5.out.lt)
  obtain ⟨z0, z1, z2, z3, z4, z5, z6, z7, z8, z9, z10, z11, _⟩ := allE HF6.out
  go_wp2_with fail
  refine (HRM.out w6 hb6.out).mono ?_
  rintro e w7 ⟨rfl, hb7⟩
  clear z0 z1 z2 z3 z4 z5 z6 z7 z8 z9 z10 z11
  have hb57 := Lib.hid (hb6.out.trans (hb7.out.mono hb6.out.size))
  have HRx := Lib.hid (hrx.out.below hb7.out)
  have HRE := Lib.hid (eread_ev f Ax nx cx A7 n7 c7 G w7 HRx.out hlx.out (HTW5.out.below hb57.out) (HTB5.out.below hb57.out) HG.out HSM.out H0.out HE0'.out)
  go_wp2_with fail
  refine HRE.out.mono ?_
  rintro e w8 ⟨⟨Ab2, nb2, zb2, Aa2, na2, za2, A2, n2, c2, rfl, hev8⟩, hb8⟩
  have hb58 := Lib.hid (hb57.out.trans (hb8.out.mono hb57.out.size))
  obtain ⟨W9, hW9⟩ : ∃ X, X = w8.alloc (.cells #[.int .i64 f.k, .int .i64 f.n, .string f.t, .slice Ab2 nb2 zb2, .slice Aa2 na2 za2, .int .i64 f.ck, .string f.ct, .slice A2 n2 c2, .int .i64 f.K, .string f.cl.nm, .int .i64 f.cl.k, .bool f.cl.no] 33) := ⟨_, rfl⟩
  have hb9 : Below w8.heap.size w8 W9 := by rw [hW9]; exact (Below.refl _ w8).alloc (Nat.le_refl _) _
  have hQ9 : Has W9 w8.heap.size 33 #[.int .i64 f.k, .int .i64 f.n, .string f.t, .slice Ab2 nb2 zb2, .slice Aa2 na2 za2, .int .i64 f.ck, .string f.ct, .slice A2 n2 c2, .int .i64 f.K, .string f.cl.nm, .int .i64 f.cl.k, .bool f.cl.no] := by rw [hW9]; exact Has.new _ _ _
  have hb59 := hb58.out.trans (hb9.mono hb58.out.size)
  have HQ9 := Lib.hid hQ9
  have HY9 := Lib.hid (HF5.out.below hb59 HF5.out.lt)
  have HR9 := Lib.hid ((HRx.out.below hb8.out).below hb9)
  have HV9 := Lib.hid (hev8.out.below hb9)
  have HU9 := Lib.hid (HF5e.out.below hb59)
  have HT9 := Lib.hid (HTW5.out.below hb59)
  have HB9 := Lib.hid (HB5.out.trans (hb59.mono HB5.out.size))
  clear hb9 hQ9 hb59
  go_wp2_with fail
  (try rw [← hW9])
  clear hW9
  generalize w8.heap.size = q9 at *
  obtain ⟨s7, hs7⟩ : ∃ s, bs (wrE f) = s := ⟨_, rfl⟩
  have HS7 := Lib.hid hs7
  clear hs7
  obtain ⟨w10, hw10⟩ : ∃ W, W = W9.drew := ⟨_, rfl⟩
  have hb10 : Below W9.heap.size W9 w10 := by rw [hw10]; exact (Below.refl _ W9).drew
  have HY10 := Lib.hid (HY9.out.below hb10 HY9.out.lt)
  have HQ10 := Lib.hid (HQ9.out.below hb10 HQ9.out.lt)
  have HR10 := Lib.hid (HR9.out.below hb10)
  have HV10 := Lib.hid (HV9.out.below hb10)
  have HU10 := Lib.hid (HU9.out.below hb10)
  have HT10 := Lib.hid (HT9.out.below hb10)
  have HB10 := Lib.hid (HB9.out.trans (hb10.mono HB9.out.size))
  have hS10 := mkS HY10.out HQ10.out (show Sem.run Tryz.prog (convert 37 9 (.slice Ax nx cx)) w10 = .ok (.string s7) w10 from by rw [conv_len _ Ax _ nx cx hlx.out HR10.out, HS7.out])
  have hS10' : (fun X : World => X.cell? ⟨q, 0, none⟩ = some (.int .i64 f.k) ∧ X.cell? ⟨q, 1, none⟩ = some (.int .i64 f.n) ∧ X.cell? ⟨q, 2, none⟩ = some (.string f.t) ∧ X.cell? ⟨q, 3, none⟩ = some (.slice Ab' nb' zb') ∧ X.cell? ⟨q, 4, none⟩ = some (.slice Aa' na' za') ∧ X.cell? ⟨q, 5, none⟩ = some (.int .i64 f.ck) ∧ X.cell? ⟨q, 6, none⟩ = some (.string f.ct) ∧ X.cell? ⟨q, 7, none⟩ = some (.slice A' n' c') ∧ X.cell? ⟨q, 8, none⟩ = some (.int .i64 f.K) ∧ X.cell? ⟨q, 9, none⟩ = some (.string f.cl.nm) ∧ X.cell? ⟨q, 10, none⟩ = some (.int .i64 f.cl.k) ∧ X.cell? ⟨q, 11, none⟩ = some (.bool f.cl.no) ∧ X.cell? ⟨q9, 0, none⟩ = some (.int .i64 f.k) ∧ X.cell? ⟨q9, 1, none⟩ = some (.int .i64 f.n) ∧ X.cell? ⟨q9, 2, none⟩ = some (.string f.t) ∧ X.cell? ⟨q9, 3, none⟩ = some (.slice Ab2 nb2 zb2) ∧ X.cell? ⟨q9, 4, none⟩ = some (.slice Aa2 na2 za2) ∧ X.cell? ⟨q9, 5, none⟩ = some (.int .i64 f.ck) ∧ X.cell? ⟨q9, 6, none⟩ = some (.string f.ct) ∧ X.cell? ⟨q9, 7, none⟩ = some (.slice A2 n2 c2) ∧ X.cell? ⟨q9, 8, none⟩ = some (.int .i64 f.K) ∧ X.cell? ⟨q9, 9, none⟩ = some (.string f.cl.nm) ∧ X.cell? ⟨q9, 10, none⟩ = some (.int .i64 f.cl.k) ∧ X.cell? ⟨q9, 11, none⟩ = some (.bool f.cl.no) ∧ Sem.run Tryz.prog (convert 37 9 (.slice Ax nx cx)) X = .ok (.string s7) X) W9.drew := hw10 ▸ hS10
  refine wp_region_held_drew (S := (fun X : World => X.cell? ⟨q, 0, none⟩ = some (.int .i64 f.k) ∧ X.cell? ⟨q, 1, none⟩ = some (.int .i64 f.n) ∧ X.cell? ⟨q, 2, none⟩ = some (.string f.t) ∧ X.cell? ⟨q, 3, none⟩ = some (.slice Ab' nb' zb') ∧ X.cell? ⟨q, 4, none⟩ = some (.slice Aa' na' za') ∧ X.cell? ⟨q, 5, none⟩ = some (.int .i64 f.ck) ∧ X.cell? ⟨q, 6, none⟩ = some (.string f.ct) ∧ X.cell? ⟨q, 7, none⟩ = some (.slice A' n' c') ∧ X.cell? ⟨q, 8, none⟩ = some (.int .i64 f.K) ∧ X.cell? ⟨q, 9, none⟩ = some (.string f.cl.nm) ∧ X.cell? ⟨q, 10, none⟩ = some (.int .i64 f.cl.k) ∧ X.cell? ⟨q, 11, none⟩ = some (.bool f.cl.no) ∧ X.cell? ⟨q9, 0, none⟩ = some (.int .i64 f.k) ∧ X.cell? ⟨q9, 1, none⟩ = some (.int .i64 f.n) ∧ X.cell? ⟨q9, 2, none⟩ = some (.string f.t) ∧ X.cell? ⟨q9, 3, none⟩ = some (.slice Ab2 nb2 zb2) ∧ X.cell? ⟨q9, 4, none⟩ = some (.slice Aa2 na2 za2) ∧ X.cell? ⟨q9, 5, none⟩ = some (.int .i64 f.ck) ∧ X.cell? ⟨q9, 6, none⟩ = some (.string f.ct) ∧ X.cell? ⟨q9, 7, none⟩ = some (.slice A2 n2 c2) ∧ X.cell? ⟨q9, 8, none⟩ = some (.int .i64 f.K) ∧ X.cell? ⟨q9, 9, none⟩ = some (.string f.cl.nm) ∧ X.cell? ⟨q9, 10, none⟩ = some (.int .i64 f.cl.k) ∧ X.cell? ⟨q9, 11, none⟩ = some (.bool f.cl.no) ∧ Sem.run Tryz.prog (convert 37 9 (.slice Ax nx cx)) X = .ok (.string s7) X)) (by kernel_rfl) hS10' (fun _ => ?_)
  rw [← hw10]
  clear hw10 hS10'
  (refine wpAnyH_take (i := 0) (v := ?_) rfl (by kernel_rfl) (by kernel_rfl) (by kernel_rfl) (fun _ _ _ h => h) (Or.inl ⟨by rfl, ?_⟩) (by assumption) ?_; rotate_left; (intro w hSw; (try dsimp only at hSw); go_simp; try with_reducible rfl); ((try simp only [zA, zB, zC, Act.put, zD, zE, zF])))
  (refine wpAnyH_take (i := 1) (v := ?_) rfl (by kernel_rfl) (by kernel_rfl) (by kernel_rfl) (fun _ _ _ h => h) (Or.inl ⟨by rfl, ?_⟩) (by assumption) ?_; rotate_left; (intro w hSw; (try dsimp only at hSw); go_simp; try with_reducible rfl); ((try simp only [zA, zB, zC, Act.put, zD, zE, zF])))
  (refine wpAnyH_take (i := 2) (v := ?_) rfl (by kernel_rfl) (by kernel_rfl) (by kernel_rfl) (fun _ _ _ h => h) (Or.inl ⟨by rfl, ?_⟩) (by assumption) ?_; rotate_left; (intro w hSw; (try dsimp only at hSw); go_simp; try with_reducible rfl); ((try simp only [zA, zB, zC, Act.put, zD, zE, zF])))
  (refine wpAnyH_take (i := 3) (v := ?_) rfl (by kernel_rfl) (by kernel_rfl) (by kernel_rfl) (fun _ _ _ h => h) (Or.inl ⟨by rfl, ?_⟩) (by assumption) ?_; rotate_left; (intro w hSw; (try dsimp only at hSw); go_simp; try with_reducible rfl); ((try simp only [zA, zB, zC, Act.put, zD, zE, zF])))
  refine wpAnyH_ready (rs := [4]) (by kernel_rfl) (by simp) ?_
  refine AllReadyH.cons rfl (fun K2 hK2 => ?_) AllReadyH.nil
  go_simp
  refine (rwrite_ev f Ab' nb' zb' Aa' na' za' A' n' c' A7 n7 c7 G w10 HU10.out HT10.out HG.out HSM.out HE0'.out).mono ?_
  rintro e w11 ⟨v11, rfl, ho11, hb11⟩
  obtain ⟨A11, n11, c11, rfl, hl11, hc11, hr11⟩ := own_openN ho11.out
  have HY11 := Lib.hid (HY10.out.below hb11.out HY10.out.lt)
  have HQ11 := Lib.hid (HQ10.out.below hb11.out HQ10.out.lt)
  have HR11 := Lib.hid (HR10.out.below hb11.out)
  have HV11 := Lib.hid (HV10.out.below hb11.out)
  have HU11 := Lib.hid (HU10.out.below hb11.out)
  have HT11 := Lib.hid (HT10.out.below hb11.out)
  have HB11 := Lib.hid (HB10.out.trans (hb11.out.mono HB10.out.size))
  have hS11 := mkS HY11.out HQ11.out (show Sem.run Tryz.prog (convert 37 9 (.slice Ax nx cx)) w11 = .ok (.string s7) w11 from by rw [conv_len _ Ax _ nx cx hlx.out HR11.out, HS7.out])
  have hcv : Sem.run Tryz.prog (convert 37 9 (.slice A11 n11 c11)) w11 = .ok (.string s7) w11 := by rw [conv_len _ A11 _ n11 c11 hl11.out hr11.out, HS7.out]
  go_wp2_with fail
  refine hK2.out _ _ (by (try dsimp only); exact hS11) (fun _ => ?_)
  clear hK2 K2
  (try simp only [zA, zB, zC, Act.put, zD, zE, zF])
  refine wpAnyH_ready (rs := [5]) (by kernel_rfl) (by simp) ?_
  refine AllReadyH.cons rfl (fun K2 hK2 => ?_) (AllReadyH.nil)
  go_simp
  refine hK2.out _ _ (by (try dsimp only); exact hS11) (fun _ => ?_)
  clear hK2 K2 hcv ho11 hb11
  (try simp only [zA, zB, zC, Act.put, zD, zE, zF])
  (refine wpAnyH_take (i := 6) (v := ?_) rfl (by kernel_rfl) (by kernel_rfl) (by kernel_rfl) (fun _ _ _ h => h) (Or.inl ⟨by rfl, ?_⟩) (by assumption) ?_; rotate_left; (intro w hSw; (try dsimp only at hSw); go_simp; try with_reducible rfl); ((try simp only [zA, zB, zC, Act.put, zD, zE, zF])))
  (refine wpAnyH_take (i := 7) (v := ?_) rfl (by kernel_rfl) (by kernel_rfl) (by kernel_rfl) (fun _ _ _ h => h) (Or.inl ⟨by rfl, ?_⟩) (by assumption) ?_; rotate_left; (intro w hSw; (try dsimp only at hSw); go_simp; try with_reducible rfl); ((try simp only [zA, zB, zC, Act.put, zD, zE, zF])))
  (refine wpAnyH_take (i := 8) (v := ?_) rfl (by kernel_rfl) (by kernel_rfl) (by kernel_rfl) (fun _ _ _ h => h) (Or.inl ⟨by rfl, ?_⟩) (by assumption) ?_; rotate_left; (intro w hSw; (try dsimp only at hSw); go_simp; try with_reducible rfl); ((try simp only [zA, zB, zC, Act.put, zD, zE, zF])))
  (refine wpAnyH_take (i := 9) (v := ?_) rfl (by kernel_rfl) (by kernel_rfl) (by kernel_rfl) (fun _ _ _ h => h) (Or.inl ⟨by rfl, ?_⟩) (by assumption) ?_; rotate_left; (intro w hSw; (try dsimp only at hSw); go_simp; try with_reducible rfl); ((try simp only [zA, zB, zC, Act.put, zD, zE, zF])))
  refine wpAnyH_ready (rs := [10]) (by kernel_rfl) (by simp) ?_
  refine AllReadyH.cons rfl (fun K2 hK2 => ?_) AllReadyH.nil
  go_simp
  refine (resame_any _ _ f f w11 HV11.out.at_ HU11.out.at_).mono ?_
  rintro e w12 ⟨rfl, hb12⟩
  rw [evF_refl]
  have HY12 := Lib.hid (HY11.out.below hb12.out HY11.out.lt)
  have HQ12 := Lib.hid (HQ11.out.below hb12.out HQ11.out.lt)
  have HR12 := Lib.hid (HR11.out.below hb12.out)
  have HV12 := Lib.hid (HV11.out.below hb12.out)
  have HU12 := Lib.hid (HU11.out.below hb12.out)
  have HT12 := Lib.hid (HT11.out.below hb12.out)
  have HB12 := Lib.hid (HB11.out.trans (hb12.out.mono HB11.out.size))
  have hS12 := mkS HY12.out HQ12.out (show Sem.run Tryz.prog (convert 37 9 (.slice Ax nx cx)) w12 = .ok (.string s7) w12 from by rw [conv_len _ Ax _ nx cx hlx.out HR12.out, HS7.out])
  go_wp2_with fail
  refine hK2.out _ _ (by (try dsimp only); exact hS12) (fun _ => ?_)
  clear hK2 K2
  (try simp only [zA, zB, zC, Act.put, zD, zE, zF])
  (refine wpAnyH_take (i := 11) (v := ?_) rfl (by kernel_rfl) (by kernel_rfl) (by kernel_rfl) (fun _ _ _ h => h) (Or.inl ⟨by rfl, ?_⟩) (by assumption) ?_; rotate_left; (intro w hSw; (try dsimp only at hSw); go_simp; try with_reducible rfl); ((try simp only [zA, zB, zC, Act.put, zD, zE, zF])))
  (refine wpAnyH_take (i := 12) (v := ?_) rfl (by kernel_rfl) (by kernel_rfl) (by kernel_rfl) (fun _ _ _ h => h) (Or.inl ⟨by rfl, ?_⟩) (by assumption) ?_; rotate_left; (intro w hSw; (try dsimp only at hSw); go_simp; try with_reducible rfl); ((try simp only [zA, zB, zC, Act.put, zD, zE, zF])))
  (refine wpAnyH_take (i := 13) (v := ?_) rfl (by kernel_rfl) (by kernel_rfl) (by kernel_rfl) (fun _ _ _ h => h) (Or.inl ⟨by rfl, ?_⟩) (by assumption) ?_; rotate_left; (intro w hSw; (try dsimp only at hSw); go_simp; try with_reducible rfl); ((try simp only [zA, zB, zC, Act.put, zD, zE, zF])))
  (refine wpAnyH_take (i := 14) (v := ?_) rfl (by kernel_rfl) (by kernel_rfl) (by kernel_rfl) (fun _ _ _ h => h) (Or.inl ⟨by rfl, ?_⟩) (by assumption) ?_; rotate_left; (intro w hSw; (try dsimp only at hSw); go_simp; try with_reducible rfl); ((try simp only [zA, zB, zC, Act.put, zD, zE, zF])))
  refine wpAnyH_ready (rs := [15]) (by kernel_rfl) (by simp) ?_
  refine AllReadyH.cons rfl (fun K2 hK2 => ?_) AllReadyH.nil
  go_simp
  refine (esame_any _ _ f f w12 HV12.out.at_ HU12.out.at_).mono ?_
  rintro e w13 ⟨rfl, hb13⟩
  rw [evF_refl]
  have HY13 := Lib.hid (HY12.out.below hb13.out HY12.out.lt)
  have HQ13 := Lib.hid (HQ12.out.below hb13.out HQ12.out.lt)
  have HR13 := Lib.hid (HR12.out.below hb13.out)
  have HV13 := Lib.hid (HV12.out.below hb13.out)
  have HU13 := Lib.hid (HU12.out.below hb13.out)
  have HT13 := Lib.hid (HT12.out.below hb13.out)
  have HB13 := Lib.hid (HB12.out.trans (hb13.out.mono HB12.out.size))
  have hS13 := mkS HY13.out HQ13.out (show Sem.run Tryz.prog (convert 37 9 (.slice Ax nx cx)) w13 = .ok (.string s7) w13 from by rw [conv_len _ Ax _ nx cx hlx.out HR13.out, HS7.out])
  go_wp2_with fail
  refine hK2.out _ _ (by (try dsimp only); exact hS13) (fun _ => ?_)
  clear hK2 K2
  (try simp only [zA, zB, zC, Act.put, zD, zE, zF])
  (refine wpAnyH_take (i := 16) (v := ?_) rfl (by kernel_rfl) (by kernel_rfl) (by kernel_rfl) (fun _ _ _ h => h) (Or.inl ⟨by rfl, ?_⟩) (by assumption) ?_; rotate_left; (intro w hSw; (try dsimp only at hSw); go_simp; try with_reducible rfl); ((try simp only [zA, zB, zC, Act.put, zD, zE, zF])))
  (refine wpAnyH_take (i := 17) (v := ?_) rfl (by kernel_rfl) (by kernel_rfl) (by kernel_rfl) (fun _ _ _ h => h) (Or.inl ⟨by rfl, ?_⟩) (by assumption) ?_; rotate_left; (intro w hSw; (try dsimp only at hSw); go_simp; try with_reducible rfl); ((try simp only [zA, zB, zC, Act.put, zD, zE, zF])))
  (refine wpAnyH_take (i := 18) (v := ?_) rfl (by kernel_rfl) (by kernel_rfl) (by kernel_rfl) (fun _ _ _ h => h) (Or.inl ⟨by rfl, ?_⟩) (by assumption) ?_; rotate_left; (intro w hSw; (try dsimp only at hSw); go_simp; try with_reducible rfl); ((try simp only [zA, zB, zC, Act.put, zD, zE, zF])))
  (refine wpAnyH_take (i := 19) (v := ?_) rfl (by kernel_rfl) (by kernel_rfl) (by kernel_rfl) (fun _ _ _ h => h) (Or.inl ⟨by rfl, ?_⟩) (by assumption) ?_; rotate_left; (intro w hSw; (try dsimp only at hSw); go_simp; try with_reducible rfl); ((try simp only [zA, zB, zC, Act.put, zD, zE, zF])))
  (refine wpAnyH_take (i := 20) (v := ?_) rfl (by kernel_rfl) (by kernel_rfl) (by kernel_rfl) (fun _ _ _ h => h) (Or.inl ⟨by rfl, ?_⟩) (by assumption) ?_; rotate_left; (intro w hSw; (try dsimp only at hSw); go_simp; try with_reducible rfl); ((try simp only [zA, zB, zC, Act.put, zD, zE, zF])))
  (refine wpAnyH_take (i := 21) (v := ?_) rfl (by kernel_rfl) (by kernel_rfl) (by kernel_rfl) (fun _ _ _ h => h) (Or.inl ⟨by rfl, ?_⟩) (by assumption) ?_; rotate_left; (intro w hSw; (try dsimp only at hSw); go_simp; try with_reducible rfl); ((try simp only [zA, zB, zC, Act.put, zD, zE, zF])))
  refine wpAnyH_ready (rs := [22]) (by kernel_rfl) (by simp) ?_
  refine AllReadyH.cons rfl (fun K2 hK2 => ?_) AllReadyH.nil
  go_simp
  refine (lives6_any w13).mono ?_
  rintro e w14 ⟨rfl, hb14⟩
  have HY14 := Lib.hid (HY13.out.below hb14.out HY13.out.lt)
  have HQ14 := Lib.hid (HQ13.out.below hb14.out HQ13.out.lt)
  have HR14 := Lib.hid (HR13.out.below hb14.out)
  have HV14 := Lib.hid (HV13.out.below hb14.out)
  have HU14 := Lib.hid (HU13.out.below hb14.out)
  have HT14 := Lib.hid (HT13.out.below hb14.out)
  have HB14 := Lib.hid (HB13.out.trans (hb14.out.mono HB13.out.size))
  have hS14 := mkS HY14.out HQ14.out (show Sem.run Tryz.prog (convert 37 9 (.slice Ax nx cx)) w14 = .ok (.string s7) w14 from by rw [conv_len _ Ax _ nx cx hlx.out HR14.out, HS7.out])
  go_wp2_with fail
  refine hK2.out _ _ (by (try dsimp only); exact hS14) (fun _ => ?_)
  clear hK2 K2
  (try simp only [zA, zB, zC, Act.put, zD, zE, zF])
  (refine wpAnyH_take (i := 23) (v := ?_) rfl (by kernel_rfl) (by kernel_rfl) (by kernel_rfl) (fun _ _ _ h => h) (Or.inl ⟨by rfl, ?_⟩) (by assumption) ?_; rotate_left; (intro w hSw; (try dsimp only at hSw); go_simp; try with_reducible rfl); ((try simp only [zA, zB, zC, Act.put, zD, zE, zF])))
  (refine wpAnyH_take (i := 24) (v := ?_) rfl (by kernel_rfl) (by kernel_rfl) (by kernel_rfl) (fun _ _ _ h => h) (Or.inl ⟨by rfl, ?_⟩) (by assumption) ?_; rotate_left; (intro w hSw; (try dsimp only at hSw); go_simp; try with_reducible rfl); ((try simp only [zA, zB, zC, Act.put, zD, zE, zF])))
  refine wpAnyH_done (by kernel_rfl) ?_ _
  go_wp2_with fail
  go_ret
  exact ⟨rfl, HB14.out⟩
 ·have HWN := Lib.hid (ewrite_ev_no f Ab' nb' zb' Aa' na' za' A' n' c' A7 n7 c7 G W5 HF5e.out HTW5.out HTB5.out E h0 hE0)
  have hee : (E != E) = false := by simp
  have he0 : (E != 0) = true := by simpa using hE0
  have h0' := Lib.hid h0
  have hE' := Lib.hid hE
  clear h0 hE hE0
  go_wp2_with fail
  refine HWN.out.mono ?_
  rintro e w6 ⟨rfl, hb6⟩
  clear z0 z1 z2 z3 z4 z5 z6 z7 z8 z9 z10 z11
  have HF6 := Lib.hid (HF5.out.below hb6.out HF5.out.lt)
  obtain ⟨z0, z1, z2, z3, z4, z5, z6, z7, z8, z9, z10, z11, _⟩ := allE HF6.out
  go_wp2_with fail
  refine (HRM.out w6 hb6.out).mono ?_
  rintro e w7 ⟨rfl, hb7⟩
  clear z0 z1 z2 z3 z4 z5 z6 z7 z8 z9 z10 z11
  go_wp2_with fail
  refine (lives6_any w7).mono ?_
  rintro e w8 ⟨rfl, hb8⟩
  go_wp2_with fail
  go_ret
  exact ⟨rfl, HB5.out.trans (((hb6.out.trans (hb7.out.mono hb6.out.size)).trans (hb8.out.mono (Nat.le_trans hb6.out.size hb7.out.size))).mono HB5.out.size)⟩
end Go.Proofs.YtnpmgempkoeapaaGreatDoor.eventWrites
