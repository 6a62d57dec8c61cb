/-
  Put together, as far as it is used: EwR7.
-/
import Derived.Test.YtnpmgempkoeapaaGreatDoorPebq
import Derived.Test.YtnpmgempkoeapaaGreatDoorPebi
import Derived.Test.YtnpmgempkoeapaaGreatDoorPebb
set_option linter.unusedVariables false
set_option linter.unusedSimpArgs false
set_option linter.defProp false
namespace Go.Proofs.YtnpmgempkoeapaaGreatDoor
open Go.RowKit Go.Maps Dg
set_option maxRecDepth 100000
theorem CRow.turR {X : List Nat} {w w' : World} {A : Option Addr} {L : List Cl} (h : CRow w A L) (ht : Tur X w w') (ho : ∀ a, A = some a → a.block ∉ X) : CRow w' A L := fun hne => by
 obtain ⟨b, off, e, hc⟩ := h hne
 have hb := ho _ e
 have k : ∀ (i : Nat) (v : Value), w.cell? ⟨b, i, none⟩ = some v → w'.cell? ⟨b, i, none⟩ = some v := fun i v h => (World.cell?_of_block (ht.block b (World.block_lt_of_cell? w _ h) hb)).trans h
 exact ⟨b, off, e, fun i hi => ⟨k _ _ (hc i hi).1, k _ _ (hc i hi).2.1, k _ _ (hc i hi).2.2⟩⟩
theorem EvW.turR {X : List Nat} {w w' : World} {x : Ev} {Ab : Option Addr} {nb zb : Nat} {Aa : Option Addr} {na za : Nat} {A : Option Addr} {n c : Nat} (h : EvW w x Ab nb zb Aa na za A n c) (ht : Tur X w w') (o1 : ∀ a, Ab = some a → a.block ∉ X) (o2 : ∀ a, Aa = some a → a.block ∉ X) (o3 : ∀ a, A = some a → a.block ∉ X) : EvW w' x Ab nb zb Aa na za A n c :=
 ⟨⟨_, _, _, _, _, _, _, _, _, rfl, ⟨h.b.1, h.nb63, h.b.2.2.1.tur ht o1⟩, ⟨h.a.1, h.na63, h.a.2.2.1.tur ht o2⟩, h.l.1, h.l.2.1, h.l.2.2.1.turR ht o3⟩, ⟨h.b.1, h.b.2.1, h.b.2.2.1.tur ht o1, h.b.2.2.2⟩, ⟨h.a.1, h.a.2.1, h.a.2.2.1.tur ht o2, h.a.2.2.2⟩, h.nb63, h.na63, ⟨h.l.1, h.l.2.1, h.l.2.2.1.turR ht o3, h.l.2.2.2⟩, h.ct, h.cl⟩
theorem nilC' (P : World) : ([] : List Cl).length = 0 ∧ 0 ≤ 4398046511104 ∧ CRow P none [] ∧ ∀ y ∈ ([] : List Cl), y.fit := ⟨rfl, by omega, fun h => absurd rfl h, fun y hy => by cases hy⟩
theorem find_num {k : Int} (hk : k = 1 ∨ k = 2 ∨ k = 7 ∨ k = 8 ∨ k = 9 ∨ k = 10) : ∃ i, Instr.findNow (.int .i64) (.int .i64 k) partsG.toList 0 = some (some (i, .func (.func 71) #[] #[])) := by
 rcases hk with rfl | rfl | rfl | rfl | rfl | rfl <;> exact ⟨_, rfl⟩
theorem find_aft {k : Int} (hk : k = 3 ∨ k = 4) : ∃ i, Instr.findNow (.int .i64) (.int .i64 k) partsG.toList 0 = some (some (i, .func (.func 72) #[] #[])) := by
 rcases hk with rfl | rfl <;> exact ⟨_, rfl⟩
theorem find_bef : ∃ i, Instr.findNow (.int .i64) (.int .i64 5) partsG.toList 0 = some (some (i, .func (.func 73) #[] #[])) := ⟨_, rfl⟩
theorem find_alt : ∃ i, Instr.findNow (.int .i64) (.int .i64 6) partsG.toList 0 = some (some (i, .func (.func 74) #[] #[])) := ⟨_, rfl⟩
def PartE (D g : Nat) (W : World) (x : Ev) (e : Ending) (w' : World) : Prop :=
 (∃ Ab nb zb Aa na za A n c, e = .returned (.tuple #[.agg #[.int .i64 0, .int .i64 x.n, .string x.t, .slice Ab nb zb, .slice Aa na za, .int .i64 x.ck, .string x.ct, .slice A n c, .int .i64 x.K, .string x.cl.nm, .int .i64 x.cl.k, .bool x.cl.no], .int .i64 0]) ∧ Hid (EvW w' x Ab nb zb Aa na za A n c) ∧ (∀ a, Ab = some a → W.heap.size ≤ a.block) ∧ (∀ a, Aa = some a → W.heap.size ≤ a.block) ∧ (∀ a, A = some a → W.heap.size ≤ a.block)) ∧ Hid (RdrD D w' g [] 0) ∧ Hid (W.grownBy w' (some g))
set_option maxHeartbeats 16000000 in
theorem eread_gen_number (A0 : Option Addr) (n0 c0 : Nat) (At : Option Addr) (nt ctt : Nat) (T : List Tb) (k ix : Nat) (tl : List Nat) (xn : Int) (xt : ByteArray) (xB xA : List Vl) (xc : Int) (xct : ByteArray) (xL : List Cl) (xK : Int) (cn : ByteArray) (cq : Int) (cb : Bool) (w0 : World) (hb0 : Rd w0 A0 (k :: tl)) (hn0 : (k :: tl).length = n0) (hl : ∀ x ∈ k :: tl, x < 256) (hlen : n0 ≤ 90000) (hT : TbW w0 At nt ctt T) (hTb : Tabs w0) (hm : mayP (⟨(k : Int), xn, xt, xB, xA, xc, xct, xL, xK, ⟨cn, cq, cb⟩⟩ : Ev) T = 0)
 (hfind : Instr.findNow (.int .i64) (.int .i64 (k : Int)) partsG.toList 0 = some (some (ix, .func (.func 71) #[] #[])))
 (hP : ∀ (g D : Nat) (W : World), RdrD D W g tl 0 → g < D → D ≤ W.heap.size → (∀ W2, W.grownBy W2 (some g) → Below w0.heap.size w0 W2) → Calls Tryz.prog 71 #[.agg #[.pointer (some ⟨g, 0, none⟩), .slice At nt ctt]] W (PartE D g W (⟨(k : Int), xn, xt, xB, xA, xc, xct, xL, xK, ⟨cn, cq, cb⟩⟩ : Ev))) :
 Calls Tryz.prog 11 #[.slice A0 n0 c0, .slice At nt ctt] w0 fun e w' => (∃ Ab nb zb Aa na za A n c, e = .returned (.tuple #[.agg #[.int .i64 (k : Int), .int .i64 xn, .string xt, .slice Ab nb zb, .slice Aa na za, .int .i64 xc, .string xct, .slice A n c, .int .i64 xK, .string cn, .int .i64 cq, .bool cb], .int .i64 0]) ∧ Hid (EvW w' (⟨(k : Int), xn, xt, xB, xA, xc, xct, xL, xK, ⟨cn, cq, cb⟩⟩ : Ev) Ab nb zb Aa na za A n c)) ∧ Hid (Below w0.heap.size w0 w') := by
 obtain ⟨q, hq⟩ : ∃ q, w0.heap.size = q := ⟨_, rfl⟩
 obtain ⟨W1, hW1⟩ : ∃ W, w0.alloc (.cells #[.int .i64 0, .int .i64 0, .string ⟨#[]⟩, .slice none 0 0, .slice none 0 0, .int .i64 0, .string ⟨#[]⟩, .slice none 0 0, .int .i64 0, .string ⟨#[]⟩, .int .i64 0, .bool false] 33) = W := ⟨_, rfl⟩
 have HB1 : Hid (Below w0.heap.size w0 W1) := by rw [← hW1]; exact (Below.refl _ w0).alloc (Nat.le_refl _) _
 have HQ1 : Hid (Has W1 q 33 #[.int .i64 0, .int .i64 0, .string ⟨#[]⟩, .slice none 0 0, .slice none 0 0, .int .i64 0, .string ⟨#[]⟩, .slice none 0 0, .int .i64 0, .string ⟨#[]⟩, .int .i64 0, .bool false]) := by rw [← hW1, ← hq]; exact Has.new _ _ _
 have HRD := Lib.hid (Read_len A0 _ n0 c0 W1 hn0 (hb0.below HB1.out) (by omega))
 have hlb : (k :: tl).length ≤ 90000 := by omega
 have HK := Lib.hid (fun D g W (hr : RdrD D W g (k :: tl) 0) => byteD_put g k tl W hr hl (by omega))
 have HTB := Lib.hid hTb
 have HTT := Lib.hid hT
 have HMM := Lib.hid hm
 have HFD := Lib.hid hfind
 have HPP := Lib.hid hP
 have hq1 : q < W1.heap.size := HQ1.out.lt
 clear hb0 hn0 hl hlb hT hTb hm hfind hP
 go_enter Tryz.func11, Tryz.ntmps11
 go_wp2_with fail
 clear hW1
 refine HRD.out.mono ?_
 rintro e w ⟨g, rfl, hgl, hr, hbw⟩
 have HQw := Lib.hid (HQ1.out.below hbw.out HQ1.out.lt)
 have HBw := Lib.hid (HB1.out.trans (hbw.out.mono HB1.out.size))
 obtain ⟨D, hDe⟩ : ∃ D, w.heap.size = D := ⟨_, rfl⟩
 have hrd := hr.out.dd
 rw [hDe] at hrd
 have hg : g < D := by rw [← hDe]; exact hr.out.lt
 have hD : D ≤ w.heap.size := by omega
 have HRw := Lib.hid hrd
 have HGw := Lib.hid (grown_refl w g)
 have hqg : q < g := by omega
 have hzq : q < w.heap.size := by omega
 have hB0 := HBw.out
 have HBT : Hid (∀ W, w.grownBy W (some g) → Below w0.heap.size w0 W) := fun W hG => Below.turn hB0 hG (by omega)
 clear HB1 HQ1 HRD hr hbw hrd hDe hB0 HBw
 obtain ⟨W3, hW3⟩ : ∃ W, W = w.alloc (.cells #[.pointer (some ⟨g, 0, none⟩), .slice At nt ctt] 73) := ⟨_, rfl⟩
 have hbl : Below w.heap.size w W3 := by rw [hW3]; exact (Below.refl _ _).alloc (Nat.le_refl _) _
 have hnew : Has W3 w.heap.size 73 #[.pointer (some ⟨g, 0, none⟩), .slice At nt ctt] := by rw [hW3]; exact Has.new _ _ _
 have HQw1 := Lib.hid (HQw.out.below hbl HQw.out.lt)
 have HG1 := Lib.hid (grn_below HGw.out hbl)
 have HR1 := Lib.hid (HRw.out.keep hg (hbl.mono (by omega)))
 have hzq_1 : q < W3.heap.size := Nat.lt_of_lt_of_le hzq hbl.size
 have hlt_q_q1 : q < w.heap.size := hzq
 have HX1 := Lib.hid hnew
 have hzq1_1 : w.heap.size < W3.heap.size := hnew.lt
 clear HQw HGw HRw hzq hbl hnew
 go_wp2_with fail
 (try rw [← hW3])
 clear hW3
 generalize w.heap.size = q1 at *
 refine (HK.out D g _ HR1.out).mono ?_
 rintro e w4 ⟨rfl, hr, hg4⟩
 have HQw2 := Lib.hid (HQw1.out.grn hg4.out (by omega))
 have HX2 := Lib.hid (HX1.out.grn hg4.out (by omega))
 have HG2 := Lib.hid (grown_trans HG1.out hg4.out)
 have HR2 := hr
 have hzq_2 : q < w4.heap.size := Nat.lt_of_lt_of_le hzq_1 hg4.out.size
 have hzq1_2 : q1 < w4.heap.size := Nat.lt_of_lt_of_le hzq1_1 hg4.out.size
 clear HQw1 HX1 HG1 HR1 hzq_1 hzq1_1 hr hg4
 have HR4k := Lib.hid HR2.out
 clear HK HR2
 go_wp2_with fail
 refine (parts_any w4).mono ?_
 rintro e w5 ⟨rfl, hmap, hb5⟩
 have hlk := lookR w5 _ partsG 10 hmap.out _ ix _ HFD.out
 have HQw3 := Lib.hid (HQw2.out.below hb5.out HQw2.out.lt)
 have HX3 := Lib.hid (HX2.out.below hb5.out HX2.out.lt)
 have HG3 := Lib.hid (grn_below HG2.out hb5.out)
 have HR3 := Lib.hid (HR4k.out.keep hg (hb5.out.mono (by omega)))
 have hzq_3 : q < w5.heap.size := Nat.lt_of_lt_of_le hzq_2 hb5.out.size
 have hzq1_3 : q1 < w5.heap.size := Nat.lt_of_lt_of_le hzq1_2 hb5.out.size
 clear HQw2 HX2 HG2 HR4k hzq_2 hzq1_2 hb5
 have x0w5 : w5.cell? ⟨q1, 0, none⟩ = some (.pointer (some ⟨g, 0, none⟩)) := HX3.out.cell 0
 have x1w5 : w5.cell? ⟨q1, 1, none⟩ = some (.slice At nt ctt) := HX3.out.cell 1
 have HCON := Lib.hid (HPP.out g D w5 HR3.out hg (by omega) (fun W2 h2 => HBT.out W2 (grown_trans HG3.out h2)))
 go_wp2_with fail
 clear x0w5 x1w5 hlk hmap
 refine HCON.out.mono ?_
 rintro e w6 ⟨⟨Ab, nb, zb, Aa, na, za, A, n, c, rfl, hev6, o1, o2, o3⟩, hr, hg6⟩
 dsimp only
 clear HCON
 have hq5 : q < w5.heap.size := by omega
 have HQw4 := Lib.hid (HQw3.out.grn hg6.out (by omega))
 have HX4 := Lib.hid (HX3.out.grn hg6.out (by omega))
 have HG4 := Lib.hid (grown_trans HG3.out hg6.out)
 have HR4 := hr
 have hzq_4 : q < w6.heap.size := Nat.lt_of_lt_of_le hzq_3 hg6.out.size
 have hzq1_4 : q1 < w6.heap.size := Nat.lt_of_lt_of_le hzq1_3 hg6.out.size
 clear HQw3 HX3 HG3 HR3 hzq_3 hzq1_3 hr hg6
 obtain ⟨W7, hW7⟩ : ∃ W, W = w6.alloc (.cells #[.int .i64 (k : Int), .int .i64 xn, .string xt, .slice Ab nb zb, .slice Aa na za, .int .i64 xc, .string xct, .slice A n c, .int .i64 xK, .string cn, .int .i64 cq, .bool cb] 33) := ⟨_, rfl⟩
 have hbl : Below w6.heap.size w6 W7 := by rw [hW7]; exact (Below.refl _ _).alloc (Nat.le_refl _) _
 have hnew : Has W7 w6.heap.size 33 #[.int .i64 (k : Int), .int .i64 xn, .string xt, .slice Ab nb zb, .slice Aa na za, .int .i64 xc, .string xct, .slice A n c, .int .i64 xK, .string cn, .int .i64 cq, .bool cb] := by rw [hW7]; exact Has.new _ _ _
 have HQw5 := Lib.hid (HQw4.out.below hbl HQw4.out.lt)
 have HX5 := Lib.hid (HX4.out.below hbl HX4.out.lt)
 have HG5 := Lib.hid (grn_below HG4.out hbl)
 have HR5 := Lib.hid (HR4.out.keep hg (hbl.mono (by omega)))
 have hzq_5 : q < W7.heap.size := Nat.lt_of_lt_of_le hzq_4 hbl.size
 have hlt_q_q3 : q < w6.heap.size := hzq_4
 have hzq1_5 : q1 < W7.heap.size := Nat.lt_of_lt_of_le hzq1_4 hbl.size
 have hlt_q1_q3 : q1 < w6.heap.size := hzq1_4
 have HE5 := Lib.hid hnew
 have hzq3_5 : w6.heap.size < W7.heap.size := hnew.lt
 have HEV7 := Lib.hid (hev6.out.below hbl)
 clear HQw4 HX4 HG4 HR4 hzq_4 hzq1_4 hbl hnew
 have x0l : (w6.alloc (.cells #[.int .i64 (k : Int), .int .i64 xn, .string xt, .slice Ab nb zb, .slice Aa na za, .int .i64 xc, .string xct, .slice A n c, .int .i64 xK, .string cn, .int .i64 cq, .bool cb] 33)).cell? ⟨q1, 0, none⟩ = some (.pointer (some ⟨g, 0, none⟩)) := by rw [← hW7]; exact HX5.out.cell 0
 go_wp2_with fail
 clear x0l
 (try rw [← hW7])
 clear hW7
 generalize w6.heap.size = q3 at *
 refine (End_get g [] 0 W7 HR5.out.rdr (by simp)).mono ?_
 rintro e wx ⟨rfl, hwx⟩
 obtain rfl : W7 = wx := hwx
 rw [endF_nil]
 have hb07 := HBT.out W7 HG5.out
 have HMAY := Lib.hid (emay_any (⟨(k : Int), xn, xt, xB, xA, xc, xct, xL, xK, ⟨cn, cq, cb⟩⟩ : Ev) Ab nb zb Aa na za A n c At nt ctt T W7 HEV7.out (HTT.out.below hb07) (HTB.out.below hb07))
 rw [HMM.out] at HMAY
 clear hb07
 obtain ⟨c0W7, c1W7, c2W7, c3W7, c4W7, c5W7, c6W7, c7W7, c8W7, c9W7, c10W7, c11W7, _⟩ := allE HE5.out
 go_wp2_with fail
 refine HMAY.out.mono ?_
 rintro e w8 ⟨rfl, hb8⟩
 have hb8k := Lib.hid hb8.out
 clear HMAY c0W7 c1W7 c2W7 c3W7 c4W7 c5W7 c6W7 c7W7 c8W7 c9W7 c10W7 c11W7
 have HQw6 := Lib.hid (HQw5.out.below hb8.out HQw5.out.lt)
 have HX6 := Lib.hid (HX5.out.below hb8.out HX5.out.lt)
 have HE6 := Lib.hid (HE5.out.below hb8.out HE5.out.lt)
 have HG6 := Lib.hid (grn_below HG5.out hb8.out)
 have HR6 := Lib.hid (HR5.out.keep hg (hb8.out.mono (by omega)))
 have hzq_6 : q < w8.heap.size := Nat.lt_of_lt_of_le hzq_5 hb8.out.size
 have hzq1_6 : q1 < w8.heap.size := Nat.lt_of_lt_of_le hzq1_5 hb8.out.size
 have hzq3_6 : q3 < w8.heap.size := Nat.lt_of_lt_of_le hzq3_5 hb8.out.size
 clear HQw5 HX5 HE5 HG5 HR5 hzq_5 hzq1_5 hzq3_5 hb8
 obtain ⟨d0w8, d1w8, d2w8, d3w8, d4w8, d5w8, d6w8, d7w8, d8w8, d9w8, d10w8, d11w8, _⟩ := allE HE6.out
 have HP : Hid (Has (put12 w8 (q) (.int .i64 (k : Int)) (.int .i64 xn) (.string xt) (.slice Ab nb zb) (.slice Aa na za) (.int .i64 xc) (.string xct) (.slice A n c) (.int .i64 xK) (.string cn) (.int .i64 cq) (.bool cb)) (q) 33 #[.int .i64 (k : Int), .int .i64 xn, .string xt, .slice Ab nb zb, .slice Aa na za, .int .i64 xc, .string xct, .slice A n c, .int .i64 xK, .string cn, .int .i64 cq, .bool cb]) := put12_has HQw6.out (.int .i64 (k : Int)) (.int .i64 xn) (.string xt) (.slice Ab nb zb) (.slice Aa na za) (.int .i64 xc) (.string xct) (.slice A n c) (.int .i64 xK) (.string cn) (.int .i64 cq) (.bool cb)
 have HTU := Lib.hid (put12_tur w8 (q) (.int .i64 (k : Int)) (.int .i64 xn) (.string xt) (.slice Ab nb zb) (.slice Aa na za) (.int .i64 xc) (.string xct) (.slice A n c) (.int .i64 xK) (.string cn) (.int .i64 cq) (.bool cb))
 obtain ⟨c0w8, c1w8, c2w8, c3w8, c4w8, c5w8, c6w8, c7w8, c8w8, c9w8, c10w8, c11w8, f0w8, f1w8, f2w8, f3w8, f4w8, f5w8, f6w8, f7w8, f8w8, f9w8, f10w8, f11w8⟩ := allE HQw6.out
 go_wp2_with fail
 have hb08 := HBT.out w8 HG6.out
 have hbP : Below w0.heap.size w0 (put12 w8 (q) (.int .i64 (k : Int)) (.int .i64 xn) (.string xt) (.slice Ab nb zb) (.slice Aa na za) (.int .i64 xc) (.string xct) (.slice A n c) (.int .i64 xK) (.string cn) (.int .i64 cq) (.bool cb)) := HTU.out.below (fun k hk => by simp at hk; omega) hb08.size |> fun h => hb08.trans h
 have HEP := (HEV7.out.below hb8k.out).turR HTU.out (fun a ea hh => by have := o1 a ea; simp only [List.mem_singleton] at hh; omega) (fun a ea hh => by have := o2 a ea; simp only [List.mem_singleton] at hh; omega) (fun a ea hh => by have := o3 a ea; simp only [List.mem_singleton] at hh; omega)
 refine bodyPost_ret (evEndR rfl (put12 w8 (q) (.int .i64 (k : Int)) (.int .i64 xn) (.string xt) (.slice Ab nb zb) (.slice Aa na za) (.int .i64 xc) (.string xct) (.slice A n c) (.int .i64 xK) (.string cn) (.int .i64 cq) (.bool cb)) q (.int .i64 (k : Int)) (.int .i64 xn) (.string xt) (.slice Ab nb zb) (.slice Aa na za) (.int .i64 xc) (.string xct) (.slice A n c) (.int .i64 xK) (.string cn) (.int .i64 cq) (.bool cb) _ rfl HP.out) rfl ?_
 exact ⟨⟨Ab, nb, zb, Aa, na, za, A, n, c, rfl, HEP⟩, hbP⟩
set_option maxHeartbeats 16000000 in
theorem eread_gen_after (A0 : Option Addr) (n0 c0 : Nat) (At : Option Addr) (nt ctt : Nat) (T : List Tb) (k ix : Nat) (tl : List Nat) (xn : Int) (xt : ByteArray) (xB xA : List Vl) (xc : Int) (xct : ByteArray) (xL : List Cl) (xK : Int) (cn : ByteArray) (cq : Int) (cb : Bool) (w0 : World) (hb0 : Rd w0 A0 (k :: tl)) (hn0 : (k :: tl).length = n0) (hl : ∀ x ∈ k :: tl, x < 256) (hlen : n0 ≤ 90000) (hT : TbW w0 At nt ctt T) (hTb : Tabs w0) (hm : mayP (⟨(k : Int), xn, xt, xB, xA, xc, xct, xL, xK, ⟨cn, cq, cb⟩⟩ : Ev) T = 0)
 (hfind : Instr.findNow (.int .i64) (.int .i64 (k : Int)) partsG.toList 0 = some (some (ix, .func (.func 72) #[] #[])))
 (hP : ∀ (g D : Nat) (W : World), RdrD D W g tl 0 → g < D → D ≤ W.heap.size → (∀ W2, W.grownBy W2 (some g) → Below w0.heap.size w0 W2) → Calls Tryz.prog 72 #[.agg #[.pointer (some ⟨g, 0, none⟩), .slice At nt ctt]] W (PartE D g W (⟨(k : Int), xn, xt, xB, xA, xc, xct, xL, xK, ⟨cn, cq, cb⟩⟩ : Ev))) :
 Calls Tryz.prog 11 #[.slice A0 n0 c0, .slice At nt ctt] w0 fun e w' => (∃ Ab nb zb Aa na za A n c, e = .returned (.tuple #[.agg #[.int .i64 (k : Int), .int .i64 xn, .string xt, .slice Ab nb zb, .slice Aa na za, .int .i64 xc, .string xct, .slice A n c, .int .i64 xK, .string cn, .int .i64 cq, .bool cb], .int .i64 0]) ∧ Hid (EvW w' (⟨(k : Int), xn, xt, xB, xA, xc, xct, xL, xK, ⟨cn, cq, cb⟩⟩ : Ev) Ab nb zb Aa na za A n c)) ∧ Hid (Below w0.heap.size w0 w') := by
 obtain ⟨q, hq⟩ : ∃ q, w0.heap.size = q := ⟨_, rfl⟩
 obtain ⟨W1, hW1⟩ : ∃ W, w0.alloc (.cells #[.int .i64 0, .int .i64 0, .string ⟨#[]⟩, .slice none 0 0, .slice none 0 0, .int .i64 0, .string ⟨#[]⟩, .slice none 0 0, .int .i64 0, .string ⟨#[]⟩, .int .i64 0, .bool false] 33) = W := ⟨_, rfl⟩
 have HB1 : Hid (Below w0.heap.size w0 W1) := by rw [← hW1]; exact (Below.refl _ w0).alloc (Nat.le_refl _) _
 have HQ1 : Hid (Has W1 q 33 #[.int .i64 0, .int .i64 0, .string ⟨#[]⟩, .slice none 0 0, .slice none 0 0, .int .i64 0, .string ⟨#[]⟩, .slice none 0 0, .int .i64 0, .string ⟨#[]⟩, .int .i64 0, .bool false]) := by rw [← hW1, ← hq]; exact Has.new _ _ _
 have HRD := Lib.hid (Read_len A0 _ n0 c0 W1 hn0 (hb0.below HB1.out) (by omega))
 have hlb : (k :: tl).length ≤ 90000 := by omega
 have HK := Lib.hid (fun D g W (hr : RdrD D W g (k :: tl) 0) => byteD_put g k tl W hr hl (by omega))
 have HTB := Lib.hid hTb
 have HTT := Lib.hid hT
 have HMM := Lib.hid hm
 have HFD := Lib.hid hfind
 have HPP := Lib.hid hP
 have hq1 : q < W1.heap.size := HQ1.out.lt
 clear hb0 hn0 hl hlb hT hTb hm hfind hP
 go_enter Tryz.func11, Tryz.ntmps11
 go_wp2_with fail
 clear hW1
 refine HRD.out.mono ?_
 rintro e w ⟨g, rfl, hgl, hr, hbw⟩
 have HQw := Lib.hid (HQ1.out.below hbw.out HQ1.out.lt)
 have HBw := Lib.hid (HB1.out.trans (hbw.out.mono HB1.out.size))
 obtain ⟨D, hDe⟩ : ∃ D, w.heap.size = D := ⟨_, rfl⟩
 have hrd := hr.out.dd
 rw [hDe] at hrd
 have hg : g < D := by rw [← hDe]; exact hr.out.lt
 have hD : D ≤ w.heap.size := by omega
 have HRw := Lib.hid hrd
 have HGw := Lib.hid (grown_refl w g)
 have hqg : q < g := by omega
 have hzq : q < w.heap.size := by omega
 have hB0 := HBw.out
 have HBT : Hid (∀ W, w.grownBy W (some g) → Below w0.heap.size w0 W) := fun W hG => Below.turn hB0 hG (by omega)
 clear HB1 HQ1 HRD hr hbw hrd hDe hB0 HBw
 obtain ⟨W3, hW3⟩ : ∃ W, W = w.alloc (.cells #[.pointer (some ⟨g, 0, none⟩), .slice At nt ctt] 73) := ⟨_, rfl⟩
 have hbl : Below w.heap.size w W3 := by rw [hW3]; exact (Below.refl _ _).alloc (Nat.le_refl _) _
 have hnew : Has W3 w.heap.size 73 #[.pointer (some ⟨g, 0, none⟩), .slice At nt ctt] := by rw [hW3]; exact Has.new _ _ _
 have HQw1 := Lib.hid (HQw.out.below hbl HQw.out.lt)
 have HG1 := Lib.hid (grn_below HGw.out hbl)
 have HR1 := Lib.hid (HRw.out.keep hg (hbl.mono (by omega)))
 have hzq_1 : q < W3.heap.size := Nat.lt_of_lt_of_le hzq hbl.size
 have hlt_q_q1 : q < w.heap.size := hzq
 have HX1 := Lib.hid hnew
 have hzq1_1 : w.heap.size < W3.heap.size := hnew.lt
 clear HQw HGw HRw hzq hbl hnew
 go_wp2_with fail
 (try rw [← hW3])
 clear hW3
 generalize w.heap.size = q1 at *
 refine (HK.out D g _ HR1.out).mono ?_
 rintro e w4 ⟨rfl, hr, hg4⟩
 have HQw2 := Lib.hid (HQw1.out.grn hg4.out (by omega))
 have HX2 := Lib.hid (HX1.out.grn hg4.out (by omega))
 have HG2 := Lib.hid (grown_trans HG1.out hg4.out)
 have HR2 := hr
 have hzq_2 : q < w4.heap.size := Nat.lt_of_lt_of_le hzq_1 hg4.out.size
 have hzq1_2 : q1 < w4.heap.size := Nat.lt_of_lt_of_le hzq1_1 hg4.out.size
 clear HQw1 HX1 HG1 HR1 hzq_1 hzq1_1 hr hg4
 have HR4k := Lib.hid HR2.out
 clear HK HR2
 go_wp2_with fail
 refine (parts_any w4).mono ?_
 rintro e w5 ⟨rfl, hmap, hb5⟩
 have hlk := lookR w5 _ partsG 10 hmap.out _ ix _ HFD.out
 have HQw3 := Lib.hid (HQw2.out.below hb5.out HQw2.out.lt)
 have HX3 := Lib.hid (HX2.out.below hb5.out HX2.out.lt)
 have HG3 := Lib.hid (grn_below HG2.out hb5.out)
 have HR3 := Lib.hid (HR4k.out.keep hg (hb5.out.mono (by omega)))
 have hzq_3 : q < w5.heap.size := Nat.lt_of_lt_of_le hzq_2 hb5.out.size
 have hzq1_3 : q1 < w5.heap.size := Nat.lt_of_lt_of_le hzq1_2 hb5.out.size
 clear HQw2 HX2 HG2 HR4k hzq_2 hzq1_2 hb5
 have x0w5 : w5.cell? ⟨q1, 0, none⟩ = some (.pointer (some ⟨g, 0, none⟩)) := HX3.out.cell 0
 have x1w5 : w5.cell? ⟨q1, 1, none⟩ = some (.slice At nt ctt) := HX3.out.cell 1
 have HCON := Lib.hid (HPP.out g D w5 HR3.out hg (by omega) (fun W2 h2 => HBT.out W2 (grown_trans HG3.out h2)))
 go_wp2_with fail
 clear x0w5 x1w5 hlk hmap
 refine HCON.out.mono ?_
 rintro e w6 ⟨⟨Ab, nb, zb, Aa, na, za, A, n, c, rfl, hev6, o1, o2, o3⟩, hr, hg6⟩
 dsimp only
 clear HCON
 have hq5 : q < w5.heap.size := by omega
 have HQw4 := Lib.hid (HQw3.out.grn hg6.out (by omega))
 have HX4 := Lib.hid (HX3.out.grn hg6.out (by omega))
 have HG4 := Lib.hid (grown_trans HG3.out hg6.out)
 have HR4 := hr
 have hzq_4 : q < w6.heap.size := Nat.lt_of_lt_of_le hzq_3 hg6.out.size
 have hzq1_4 : q1 < w6.heap.size := Nat.lt_of_lt_of_le hzq1_3 hg6.out.size
 clear HQw3 HX3 HG3 HR3 hzq_3 hzq1_3 hr hg6
 obtain ⟨W7, hW7⟩ : ∃ W, W = w6.alloc (.cells #[.int .i64 (k : Int), .int .i64 xn, .string xt, .slice Ab nb zb, .slice Aa na za, .int .i64 xc, .string xct, .slice A n c, .int .i64 xK, .string cn, .int .i64 cq, .bool cb] 33) := ⟨_, rfl⟩
 have hbl : Below w6.heap.size w6 W7 := by rw [hW7]; exact (Below.refl _ _).alloc (Nat.le_refl _) _
 have hnew : Has W7 w6.heap.size 33 #[.int .i64 (k : Int), .int .i64 xn, .string xt, .slice Ab nb zb, .slice Aa na za, .int .i64 xc, .string xct, .slice A n c, .int .i64 xK, .string cn, .int .i64 cq, .bool cb] := by rw [hW7]; exact Has.new _ _ _
 have HQw5 := Lib.hid (HQw4.out.below hbl HQw4.out.lt)
 have HX5 := Lib.hid (HX4.out.below hbl HX4.out.lt)
 have HG5 := Lib.hid (grn_below HG4.out hbl)
 have HR5 := Lib.hid (HR4.out.keep hg (hbl.mono (by omega)))
 have hzq_5 : q < W7.heap.size := Nat.lt_of_lt_of_le hzq_4 hbl.size
 have hlt_q_q3 : q < w6.heap.size := hzq_4
 have hzq1_5 : q1 < W7.heap.size := Nat.lt_of_lt_of_le hzq1_4 hbl.size
 have hlt_q1_q3 : q1 < w6.heap.size := hzq1_4
 have HE5 := Lib.hid hnew
 have hzq3_5 : w6.heap.size < W7.heap.size := hnew.lt
 have HEV7 := Lib.hid (hev6.out.below hbl)
 clear HQw4 HX4 HG4 HR4 hzq_4 hzq1_4 hbl hnew
 have x0l : (w6.alloc (.cells #[.int .i64 (k : Int), .int .i64 xn, .string xt, .slice Ab nb zb, .slice Aa na za, .int .i64 xc, .string xct, .slice A n c, .int .i64 xK, .string cn, .int .i64 cq, .bool cb] 33)).cell? ⟨q1, 0, none⟩ = some (.pointer (some ⟨g, 0, none⟩)) := by rw [← hW7]; exact HX5.out.cell 0
 go_wp2_with fail
 clear x0l
 (try rw [← hW7])
 clear hW7
 generalize w6.heap.size = q3 at *
 refine (End_get g [] 0 W7 HR5.out.rdr (by simp)).mono ?_
 rintro e wx ⟨rfl, hwx⟩
 obtain rfl : W7 = wx := hwx
 rw [endF_nil]
 have hb07 := HBT.out W7 HG5.out
 have HMAY := Lib.hid (emay_any (⟨(k : Int), xn, xt, xB, xA, xc, xct, xL, xK, ⟨cn, cq, cb⟩⟩ : Ev) Ab nb zb Aa na za A n c At nt ctt T W7 HEV7.out (HTT.out.below hb07) (HTB.out.below hb07))
 rw [HMM.out] at HMAY
 clear hb07
 obtain ⟨c0W7, c1W7, c2W7, c3W7, c4W7, c5W7, c6W7, c7W7, c8W7, c9W7, c10W7, c11W7, _⟩ := allE HE5.out
 go_wp2_with fail
 refine HMAY.out.mono ?_
 rintro e w8 ⟨rfl, hb8⟩
 have hb8k := Lib.hid hb8.out
 clear HMAY c0W7 c1W7 c2W7 c3W7 c4W7 c5W7 c6W7 c7W7 c8W7 c9W7 c10W7 c11W7
 have HQw6 := Lib.hid (HQw5.out.below hb8.out HQw5.out.lt)
 have HX6 := Lib.hid (HX5.out.below hb8.out HX5.out.lt)
 have HE6 := Lib.hid (HE5.out.below hb8.out HE5.out.lt)
 have HG6 := Lib.hid (grn_below HG5.out hb8.out)
 have HR6 := Lib.hid (HR5.out.keep hg (hb8.out.mono (by omega)))
 have hzq_6 : q < w8.heap.size := Nat.lt_of_lt_of_le hzq_5 hb8.out.size
 have hzq1_6 : q1 < w8.heap.size := Nat.lt_of_lt_of_le hzq1_5 hb8.out.size
 have hzq3_6 : q3 < w8.heap.size := Nat.lt_of_lt_of_le hzq3_5 hb8.out.size
 clear HQw5 HX5 HE5 HG5 HR5 hzq_5 hzq1_5 hzq3_5 hb8
 obtain ⟨d0w8, d1w8, d2w8, d3w8, d4w8, d5w8, d6w8, d7w8, d8w8, d9w8, d10w8, d11w8, _⟩ := allE HE6.out
 have HP : Hid (Has (put12 w8 (q) (.int .i64 (k : Int)) (.int .i64 xn) (.string xt) (.slice Ab nb zb) (.slice Aa na za) (.int .i64 xc) (.string xct) (.slice A n c) (.int .i64 xK) (.string cn) (.int .i64 cq) (.bool cb)) (q) 33 #[.int .i64 (k : Int), .int .i64 xn, .string xt, .slice Ab nb zb, .slice Aa na za, .int .i64 xc, .string xct, .slice A n c, .int .i64 xK, .string cn, .int .i64 cq, .bool cb]) := put12_has HQw6.out (.int .i64 (k : Int)) (.int .i64 xn) (.string xt) (.slice Ab nb zb) (.slice Aa na za) (.int .i64 xc) (.string xct) (.slice A n c) (.int .i64 xK) (.string cn) (.int .i64 cq) (.bool cb)
 have HTU := Lib.hid (put12_tur w8 (q) (.int .i64 (k : Int)) (.int .i64 xn) (.string xt) (.slice Ab nb zb) (.slice Aa na za) (.int .i64 xc) (.string xct) (.slice A n c) (.int .i64 xK) (.string cn) (.int .i64 cq) (.bool cb))
 obtain ⟨c0w8, c1w8, c2w8, c3w8, c4w8, c5w8, c6w8, c7w8, c8w8, c9w8, c10w8, c11w8, f0w8, f1w8, f2w8, f3w8, f4w8, f5w8, f6w8, f7w8, f8w8, f9w8, f10w8, f11w8⟩ := allE HQw6.out
 go_wp2_with fail
 have hb08 := HBT.out w8 HG6.out
 have hbP : Below w0.heap.size w0 (put12 w8 (q) (.int .i64 (k : Int)) (.int .i64 xn) (.string xt) (.slice Ab nb zb) (.slice Aa na za) (.int .i64 xc) (.string xct) (.slice A n c) (.int .i64 xK) (.string cn) (.int .i64 cq) (.bool cb)) := HTU.out.below (fun k hk => by simp at hk; omega) hb08.size |> fun h => hb08.trans h
 have HEP := (HEV7.out.below hb8k.out).turR HTU.out (fun a ea hh => by have := o1 a ea; simp only [List.mem_singleton] at hh; omega) (fun a ea hh => by have := o2 a ea; simp only [List.mem_singleton] at hh; omega) (fun a ea hh => by have := o3 a ea; simp only [List.mem_singleton] at hh; omega)
 refine bodyPost_ret (evEndR rfl (put12 w8 (q) (.int .i64 (k : Int)) (.int .i64 xn) (.string xt) (.slice Ab nb zb) (.slice Aa na za) (.int .i64 xc) (.string xct) (.slice A n c) (.int .i64 xK) (.string cn) (.int .i64 cq) (.bool cb)) q (.int .i64 (k : Int)) (.int .i64 xn) (.string xt) (.slice Ab nb zb) (.slice Aa na za) (.int .i64 xc) (.string xct) (.slice A n c) (.int .i64 xK) (.string cn) (.int .i64 cq) (.bool cb) _ rfl HP.out) rfl ?_
 exact ⟨⟨Ab, nb, zb, Aa, na, za, A, n, c, rfl, HEP⟩, hbP⟩
set_option maxHeartbeats 16000000 in
theorem eread_gen_before (A0 : Option Addr) (n0 c0 : Nat) (At : Option Addr) (nt ctt : Nat) (T : List Tb) (k ix : Nat) (tl : List Nat) (xn : Int) (xt : ByteArray) (xB xA : List Vl) (xc : Int) (xct : ByteArray) (xL : List Cl) (xK : Int) (cn : ByteArray) (cq : Int) (cb : Bool) (w0 : World) (hb0 : Rd w0 A0 (k :: tl)) (hn0 : (k :: tl).length = n0) (hl : ∀ x ∈ k :: tl, x < 256) (hlen : n0 ≤ 90000) (hT : TbW w0 At nt ctt T) (hTb : Tabs w0) (hm : mayP (⟨(k : Int), xn, xt, xB, xA, xc, xct, xL, xK, ⟨cn, cq, cb⟩⟩ : Ev) T = 0)
 (hfind : Instr.findNow (.int .i64) (.int .i64 (k : Int)) partsG.toList 0 = some (some (ix, .func (.func 73) #[] #[])))
 (hP : ∀ (g D : Nat) (W : World), RdrD D W g tl 0 → g < D → D ≤ W.heap.size → (∀ W2, W.grownBy W2 (some g) → Below w0.heap.size w0 W2) → Calls Tryz.prog 73 #[.agg #[.pointer (some ⟨g, 0, none⟩), .slice At nt ctt]] W (PartE D g W (⟨(k : Int), xn, xt, xB, xA, xc, xct, xL, xK, ⟨cn, cq, cb⟩⟩ : Ev))) :
 Calls Tryz.prog 11 #[.slice A0 n0 c0, .slice At nt ctt] w0 fun e w' => (∃ Ab nb zb Aa na za A n c, e = .returned (.tuple #[.agg #[.int .i64 (k : Int), .int .i64 xn, .string xt, .slice Ab nb zb, .slice Aa na za, .int .i64 xc, .string xct, .slice A n c, .int .i64 xK, .string cn, .int .i64 cq, .bool cb], .int .i64 0]) ∧ Hid (EvW w' (⟨(k : Int), xn, xt, xB, xA, xc, xct, xL, xK, ⟨cn, cq, cb⟩⟩ : Ev) Ab nb zb Aa na za A n c)) ∧ Hid (Below w0.heap.size w0 w') := by
 obtain ⟨q, hq⟩ : ∃ q, w0.heap.size = q := ⟨_, rfl⟩
 obtain ⟨W1, hW1⟩ : ∃ W, w0.alloc (.cells #[.int .i64 0, .int .i64 0, .string ⟨#[]⟩, .slice none 0 0, .slice none 0 0, .int .i64 0, .string ⟨#[]⟩, .slice none 0 0, .int .i64 0, .string ⟨#[]⟩, .int .i64 0, .bool false] 33) = W := ⟨_, rfl⟩
 have HB1 : Hid (Below w0.heap.size w0 W1) := by rw [← hW1]; exact (Below.refl _ w0).alloc (Nat.le_refl _) _
 have HQ1 : Hid (Has W1 q 33 #[.int .i64 0, .int .i64 0, .string ⟨#[]⟩, .slice none 0 0, .slice none 0 0, .int .i64 0, .string ⟨#[]⟩, .slice none 0 0, .int .i64 0, .string ⟨#[]⟩, .int .i64 0, .bool false]) := by rw [← hW1, ← hq]; exact Has.new _ _ _
 have HRD := Lib.hid (Read_len A0 _ n0 c0 W1 hn0 (hb0.below HB1.out) (by omega))
 have hlb : (k :: tl).length ≤ 90000 := by omega
 have HK := Lib.hid (fun D g W (hr : RdrD D W g (k :: tl) 0) => byteD_put g k tl W hr hl (by omega))
 have HTB := Lib.hid hTb
 have HTT := Lib.hid hT
 have HMM := Lib.hid hm
 have HFD := Lib.hid hfind
 have HPP := Lib.hid hP
 have hq1 : q < W1.heap.size := HQ1.out.lt
 clear hb0 hn0 hl hlb hT hTb hm hfind hP
 go_enter Tryz.func11, Tryz.ntmps11
 go_wp2_with fail
 clear hW1
 refine HRD.out.mono ?_
 rintro e w ⟨g, rfl, hgl, hr, hbw⟩
 have HQw := Lib.hid (HQ1.out.below hbw.out HQ1.out.lt)
 have HBw := Lib.hid (HB1.out.trans (hbw.out.mono HB1.out.size))
 obtain ⟨D, hDe⟩ : ∃ D, w.heap.size = D := ⟨_, rfl⟩
 have hrd := hr.out.dd
 rw [hDe] at hrd
 have hg : g < D := by rw [← hDe]; exact hr.out.lt
 have hD : D ≤ w.heap.size := by omega
 have HRw := Lib.hid hrd
 have HGw := Lib.hid (grown_refl w g)
 have hqg : q < g := by omega
 have hzq : q < w.heap.size := by omega
 have hB0 := HBw.out
 have HBT : Hid (∀ W, w.grownBy W (some g) → Below w0.heap.size w0 W) := fun W hG => Below.turn hB0 hG (by omega)
 clear HB1 HQ1 HRD hr hbw hrd hDe hB0 HBw
 obtain ⟨W3, hW3⟩ : ∃ W, W = w.alloc (.cells #[.pointer (some ⟨g, 0, none⟩), .slice At nt ctt] 73) := ⟨_, rfl⟩
 have hbl : Below w.heap.size w W3 := by rw [hW3]; exact (Below.refl _ _).alloc (Nat.le_refl _) _
 have hnew : Has W3 w.heap.size 73 #[.pointer (some ⟨g, 0, none⟩), .slice At nt ctt] := by rw [hW3]; exact Has.new _ _ _
 have HQw1 := Lib.hid (HQw.out.below hbl HQw.out.lt)
 have HG1 := Lib.hid (grn_below HGw.out hbl)
 have HR1 := Lib.hid (HRw.out.keep hg (hbl.mono (by omega)))
 have hzq_1 : q < W3.heap.size := Nat.lt_of_lt_of_le hzq hbl.size
 have hlt_q_q1 : q < w.heap.size := hzq
 have HX1 := Lib.hid hnew
 have hzq1_1 : w.heap.size < W3.heap.size := hnew.lt
 clear HQw HGw HRw hzq hbl hnew
 go_wp2_with fail
 (try rw [← hW3])
 clear hW3
 generalize w.heap.size = q1 at *
 refine (HK.out D g _ HR1.out).mono ?_
 rintro e w4 ⟨rfl, hr, hg4⟩
 have HQw2 := Lib.hid (HQw1.out.grn hg4.out (by omega))
 have HX2 := Lib.hid (HX1.out.grn hg4.out (by omega))
 have HG2 := Lib.hid (grown_trans HG1.out hg4.out)
 have HR2 := hr
 have hzq_2 : q < w4.heap.size := Nat.lt_of_lt_of_le hzq_1 hg4.out.size
 have hzq1_2 : q1 < w4.heap.size := Nat.lt_of_lt_of_le hzq1_1 hg4.out.size
 clear HQw1 HX1 HG1 HR1 hzq_1 hzq1_1 hr hg4
 have HR4k := Lib.hid HR2.out
 clear HK HR2
 go_wp2_with fail
 refine (parts_any w4).mono ?_
 rintro e w5 ⟨rfl, hmap, hb5⟩
 have hlk := lookR w5 _ partsG 10 hmap.out _ ix _ HFD.out
 have HQw3 := Lib.hid (HQw2.out.below hb5.out HQw2.out.lt)
 have HX3 := Lib.hid (HX2.out.below hb5.out HX2.out.lt)
 have HG3 := Lib.hid (grn_below HG2.out hb5.out)
 have HR3 := Lib.hid (HR4k.out.keep hg (hb5.out.mono (by omega)))
 have hzq_3 : q < w5.heap.size := Nat.lt_of_lt_of_le hzq_2 hb5.out.size
 have hzq1_3 : q1 < w5.heap.size := Nat.lt_of_lt_of_le hzq1_2 hb5.out.size
 clear HQw2 HX2 HG2 HR4k hzq_2 hzq1_2 hb5
 have x0w5 : w5.cell? ⟨q1, 0, none⟩ = some (.pointer (some ⟨g, 0, none⟩)) := HX3.out.cell 0
 have x1w5 : w5.cell? ⟨q1, 1, none⟩ = some (.slice At nt ctt) := HX3.out.cell 1
 have HCON := Lib.hid (HPP.out g D w5 HR3.out hg (by omega) (fun W2 h2 => HBT.out W2 (grown_trans HG3.out h2)))
 go_wp2_with fail
 clear x0w5 x1w5 hlk hmap
 refine HCON.out.mono ?_
 rintro e w6 ⟨⟨Ab, nb, zb, Aa, na, za, A, n, c, rfl, hev6, o1, o2, o3⟩, hr, hg6⟩
 dsimp only
 clear HCON
 have hq5 : q < w5.heap.size := by omega
 have HQw4 := Lib.hid (HQw3.out.grn hg6.out (by omega))
 have HX4 := Lib.hid (HX3.out.grn hg6.out (by omega))
 have HG4 := Lib.hid (grown_trans HG3.out hg6.out)
 have HR4 := hr
 have hzq_4 : q < w6.heap.size := Nat.lt_of_lt_of_le hzq_3 hg6.out.size
 have hzq1_4 : q1 < w6.heap.size := Nat.lt_of_lt_of_le hzq1_3 hg6.out.size
 clear HQw3 HX3 HG3 HR3 hzq_3 hzq1_3 hr hg6
 obtain ⟨W7, hW7⟩ : ∃ W, W = w6.alloc (.cells #[.int .i64 (k : Int), .int .i64 xn, .string xt, .slice Ab nb zb, .slice Aa na za, .int .i64 xc, .string xct, .slice A n c, .int .i64 xK, .string cn, .int .i64 cq, .bool cb] 33) := ⟨_, rfl⟩
 have hbl : Below w6.heap.size w6 W7 := by rw [hW7]; exact (Below.refl _ _).alloc (Nat.le_refl _) _
 have hnew : Has W7 w6.heap.size 33 #[.int .i64 (k : Int), .int .i64 xn, .string xt, .slice Ab nb zb, .slice Aa na za, .int .i64 xc, .string xct, .slice A n c, .int .i64 xK, .string cn, .int .i64 cq, .bool cb] := by rw [hW7]; exact Has.new _ _ _
 have HQw5 := Lib.hid (HQw4.out.below hbl HQw4.out.lt)
 have HX5 := Lib.hid (HX4.out.below hbl HX4.out.lt)
 have HG5 := Lib.hid (grn_below HG4.out hbl)
 have HR5 := Lib.hid (HR4.out.keep hg (hbl.mono (by omega)))
 have hzq_5 : q < W7.heap.size := Nat.lt_of_lt_of_le hzq_4 hbl.size
 have hlt_q_q3 : q < w6.heap.size := hzq_4
 have hzq1_5 : q1 < W7.heap.size := Nat.lt_of_lt_of_le hzq1_4 hbl.size
 have hlt_q1_q3 : q1 < w6.heap.size := hzq1_4
 have HE5 := Lib.hid hnew
 have hzq3_5 : w6.heap.size < W7.heap.size := hnew.lt
 have HEV7 := Lib.hid (hev6.out.below hbl)
 clear HQw4 HX4 HG4 HR4 hzq_4 hzq1_4 hbl hnew
 have x0l : (w6.alloc (.cells #[.int .i64 (k : Int), .int .i64 xn, .string xt, .slice Ab nb zb, .slice Aa na za, .int .i64 xc, .string xct, .slice A n c, .int .i64 xK, .string cn, .int .i64 cq, .bool cb] 33)).cell? ⟨q1, 0, none⟩ = some (.pointer (some ⟨g, 0, none⟩)) := by rw [← hW7]; exact HX5.out.cell 0
 go_wp2_with fail
 clear x0l
 (try rw [← hW7])
 clear hW7
 generalize w6.heap.size = q3 at *
 refine (End_get g [] 0 W7 HR5.out.rdr (by simp)).mono ?_
 rintro e wx ⟨rfl, hwx⟩
 obtain rfl : W7 = wx := hwx
 rw [endF_nil]
 have hb07 := HBT.out W7 HG5.out
 have HMAY := Lib.hid (emay_any (⟨(k : Int), xn, xt, xB, xA, xc, xct, xL, xK, ⟨cn, cq, cb⟩⟩ : Ev) Ab nb zb Aa na za A n c At nt ctt T W7 HEV7.out (HTT.out.below hb07) (HTB.out.below hb07))
 rw [HMM.out] at HMAY
 clear hb07
 obtain ⟨c0W7, c1W7, c2W7, c3W7, c4W7, c5W7, c6W7, c7W7, c8W7, c9W7, c10W7, c11W7, _⟩ := allE HE5.out
 go_wp2_with fail
 refine HMAY.out.mono ?_
 rintro e w8 ⟨rfl, hb8⟩
 have hb8k := Lib.hid hb8.out
 clear HMAY c0W7 c1W7 c2W7 c3W7 c4W7 c5W7 c6W7 c7W7 c8W7 c9W7 c10W7 c11W7
 have HQw6 := Lib.hid (HQw5.out.below hb8.out HQw5.out.lt)
 have HX6 := Lib.hid (HX5.out.below hb8.out HX5.out.lt)
 have HE6 := Lib.hid (HE5.out.below hb8.out HE5.out.lt)
 have HG6 := Lib.hid (grn_below HG5.out hb8.out)
 have HR6 := Lib.hid (HR5.out.keep hg (hb8.out.mono (by omega)))
 have hzq_6 : q < w8.heap.size := Nat.lt_of_lt_of_le hzq_5 hb8.out.size
 have hzq1_6 : q1 < w8.heap.size := Nat.lt_of_lt_of_le hzq1_5 hb8.out.size
 have hzq3_6 : q3 < w8.heap.size := Nat.lt_of_lt_of_le hzq3_5 hb8.out.size
 clear HQw5 HX5 HE5 HG5 HR5 hzq_5 hzq1_5 hzq3_5 hb8
 obtain ⟨d0w8, d1w8, d2w8, d3w8, d4w8, d5w8, d6w8, d7w8, d8w8, d9w8, d10w8, d11w8, _⟩ := allE HE6.out
 have HP : Hid (Has (put12 w8 (q) (.int .i64 (k : Int)) (.int .i64 xn) (.string xt) (.slice Ab nb zb) (.slice Aa na za) (.int .i64 xc) (.string xct) (.slice A n c) (.int .i64 xK) (.string cn) (.int .i64 cq) (.bool cb)) (q) 33 #[.int .i64 (k : Int), .int .i64 xn, .string xt, .slice Ab nb zb, .slice Aa na za, .int .i64 xc, .string xct, .slice A n c, .int .i64 xK, .string cn, .int .i64 cq, .bool cb]) := put12_has HQw6.out (.int .i64 (k : Int)) (.int .i64 xn) (.string xt) (.slice Ab nb zb) (.slice Aa na za) (.int .i64 xc) (.string xct) (.slice A n c) (.int .i64 xK) (.string cn) (.int .i64 cq) (.bool cb)
 have HTU := Lib.hid (put12_tur w8 (q) (.int .i64 (k : Int)) (.int .i64 xn) (.string xt) (.slice Ab nb zb) (.slice Aa na za) (.int .i64 xc) (.string xct) (.slice A n c) (.int .i64 xK) (.string cn) (.int .i64 cq) (.bool cb))
 obtain ⟨c0w8, c1w8, c2w8, c3w8, c4w8, c5w8, c6w8, c7w8, c8w8, c9w8, c10w8, c11w8, f0w8, f1w8, f2w8, f3w8, f4w8, f5w8, f6w8, f7w8, f8w8, f9w8, f10w8, f11w8⟩ := allE HQw6.out
 go_wp2_with fail
 have hb08 := HBT.out w8 HG6.out
 have hbP : Below w0.heap.size w0 (put12 w8 (q) (.int .i64 (k : Int)) (.int .i64 xn) (.string xt) (.slice Ab nb zb) (.slice Aa na za) (.int .i64 xc) (.string xct) (.slice A n c) (.int .i64 xK) (.string cn) (.int .i64 cq) (.bool cb)) := HTU.out.below (fun k hk => by simp at hk; omega) hb08.size |> fun h => hb08.trans h
 have HEP := (HEV7.out.below hb8k.out).turR HTU.out (fun a ea hh => by have := o1 a ea; simp only [List.mem_singleton] at hh; omega) (fun a ea hh => by have := o2 a ea; simp only [List.mem_singleton] at hh; omega) (fun a ea hh => by have := o3 a ea; simp only [List.mem_singleton] at hh; omega)
 refine bodyPost_ret (evEndR rfl (put12 w8 (q) (.int .i64 (k : Int)) (.int .i64 xn) (.string xt) (.slice Ab nb zb) (.slice Aa na za) (.int .i64 xc) (.string xct) (.slice A n c) (.int .i64 xK) (.string cn) (.int .i64 cq) (.bool cb)) q (.int .i64 (k : Int)) (.int .i64 xn) (.string xt) (.slice Ab nb zb) (.slice Aa na za) (.int .i64 xc) (.string xct) (.slice A n c) (.int .i64 xK) (.string cn) (.int .i64 cq) (.bool cb) _ rfl HP.out) rfl ?_
 exact ⟨⟨Ab, nb, zb, Aa, na, za, A, n, c, rfl, HEP⟩, hbP⟩
set_option maxHeartbeats 16000000 in
theorem eread_gen_alter (A0 : Option Addr) (n0 c0 : Nat) (At : Option Addr) (nt ctt : Nat) (T : List Tb) (k ix : Nat) (tl : List Nat) (xn : Int) (xt : ByteArray) (xB xA : List Vl) (xc : Int) (xct : ByteArray) (xL : List Cl) (xK : Int) (cn : ByteArray) (cq : Int) (cb : Bool) (w0 : World) (hb0 : Rd w0 A0 (k :: tl)) (hn0 : (k :: tl).length = n0) (hl : ∀ x ∈ k :: tl, x < 256) (hlen : n0 ≤ 90000) (hT : TbW w0 At nt ctt T) (hTb : Tabs w0) (hm : mayP (⟨(k : Int), xn, xt, xB, xA, xc, xct, xL, xK, ⟨cn, cq, cb⟩⟩ : Ev) T = 0)
 (hfind : Instr.findNow (.int .i64) (.int .i64 (k : Int)) partsG.toList 0 = some (some (ix, .func (.func 74) #[] #[])))
 (hP : ∀ (g D : Nat) (W : World), RdrD D W g tl 0 → g < D → D ≤ W.heap.size → (∀ W2, W.grownBy W2 (some g) → Below w0.heap.size w0 W2) → Calls Tryz.prog 74 #[.agg #[.pointer (some ⟨g, 0, none⟩), .slice At nt ctt]] W (PartE D g W (⟨(k : Int), xn, xt, xB, xA, xc, xct, xL, xK, ⟨cn, cq, cb⟩⟩ : Ev))) :
 Calls Tryz.prog 11 #[.slice A0 n0 c0, .slice At nt ctt] w0 fun e w' => (∃ Ab nb zb Aa na za A n c, e = .returned (.tuple #[.agg #[.int .i64 (k : Int), .int .i64 xn, .string xt, .slice Ab nb zb, .slice Aa na za, .int .i64 xc, .string xct, .slice A n c, .int .i64 xK, .string cn, .int .i64 cq, .bool cb], .int .i64 0]) ∧ Hid (EvW w' (⟨(k : Int), xn, xt, xB, xA, xc, xct, xL, xK, ⟨cn, cq, cb⟩⟩ : Ev) Ab nb zb Aa na za A n c)) ∧ Hid (Below w0.heap.size w0 w') := by
 obtain ⟨q, hq⟩ : ∃ q, w0.heap.size = q := ⟨_, rfl⟩
 obtain ⟨W1, hW1⟩ : ∃ W, w0.alloc (.cells #[.int .i64 0, .int .i64 0, .string ⟨#[]⟩, .slice none 0 0, .slice none 0 0, .int .i64 0, .string ⟨#[]⟩, .slice none 0 0, .int .i64 0, .string ⟨#[]⟩, .int .i64 0, .bool false] 33) = W := ⟨_, rfl⟩
 have HB1 : Hid (Below w0.heap.size w0 W1) := by rw [← hW1]; exact (Below.refl _ w0).alloc (Nat.le_refl _) _
 have HQ1 : Hid (Has W1 q 33 #[.int .i64 0, .int .i64 0, .string ⟨#[]⟩, .slice none 0 0, .slice none 0 0, .int .i64 0, .string ⟨#[]⟩, .slice none 0 0, .int .i64 0, .string ⟨#[]⟩, .int .i64 0, .bool false]) := by rw [← hW1, ← hq]; exact Has.new _ _ _
 have HRD := Lib.hid (Read_len A0 _ n0 c0 W1 hn0 (hb0.below HB1.out) (by omega))
 have hlb : (k :: tl).length ≤ 90000 := by omega
 have HK := Lib.hid (fun D g W (hr : RdrD D W g (k :: tl) 0) => byteD_put g k tl W hr hl (by omega))
 have HTB := Lib.hid hTb
 have HTT := Lib.hid hT
 have HMM := Lib.hid hm
 have HFD := Lib.hid hfind
 have HPP := Lib.hid hP
 have hq1 : q < W1.heap.size := HQ1.out.lt
 clear hb0 hn0 hl hlb hT hTb hm hfind hP
 go_enter Tryz.func11, Tryz.ntmps11
 go_wp2_with fail
 clear hW1
 refine HRD.out.mono ?_
 rintro e w ⟨g, rfl, hgl, hr, hbw⟩
 have HQw := Lib.hid (HQ1.out.below hbw.out HQ1.out.lt)
 have HBw := Lib.hid (HB1.out.trans (hbw.out.mono HB1.out.size))
 obtain ⟨D, hDe⟩ : ∃ D, w.heap.size = D := ⟨_, rfl⟩
 have hrd := hr.out.dd
 rw [hDe] at hrd
 have hg : g < D := by rw [← hDe]; exact hr.out.lt
 have hD : D ≤ w.heap.size := by omega
 have HRw := Lib.hid hrd
 have HGw := Lib.hid (grown_refl w g)
 have hqg : q < g := by omega
 have hzq : q < w.heap.size := by omega
 have hB0 := HBw.out
 have HBT : Hid (∀ W, w.grownBy W (some g) → Below w0.heap.size w0 W) := fun W hG => Below.turn hB0 hG (by omega)
 clear HB1 HQ1 HRD hr hbw hrd hDe hB0 HBw
 obtain ⟨W3, hW3⟩ : ∃ W, W = w.alloc (.cells #[.pointer (some ⟨g, 0, none⟩), .slice At nt ctt] 73) := ⟨_, rfl⟩
 have hbl : Below w.heap.size w W3 := by rw [hW3]; exact (Below.refl _ _).alloc (Nat.le_refl _) _
 have hnew : Has W3 w.heap.size 73 #[.pointer (some ⟨g, 0, none⟩), .slice At nt ctt] := by rw [hW3]; exact Has.new _ _ _
 have HQw1 := Lib.hid (HQw.out.below hbl HQw.out.lt)
 have HG1 := Lib.hid (grn_below HGw.out hbl)
 have HR1 := Lib.hid (HRw.out.keep hg (hbl.mono (by omega)))
 have hzq_1 : q < W3.heap.size := Nat.lt_of_lt_of_le hzq hbl.size
 have hlt_q_q1 : q < w.heap.size := hzq
 have HX1 := Lib.hid hnew
 have hzq1_1 : w.heap.size < W3.heap.size := hnew.lt
 clear HQw HGw HRw hzq hbl hnew
 go_wp2_with fail
 (try rw [← hW3])
 clear hW3
 generalize w.heap.size = q1 at *
 refine (HK.out D g _ HR1.out).mono ?_
 rintro e w4 ⟨rfl, hr, hg4⟩
 have HQw2 := Lib.hid (HQw1.out.grn hg4.out (by omega))
 have HX2 := Lib.hid (HX1.out.grn hg4.out (by omega))
 have HG2 := Lib.hid (grown_trans HG1.out hg4.out)
 have HR2 := hr
 have hzq_2 : q < w4.heap.size := Nat.lt_of_lt_of_le hzq_1 hg4.out.size
 have hzq1_2 : q1 < w4.heap.size := Nat.lt_of_lt_of_le hzq1_1 hg4.out.size
 clear HQw1 HX1 HG1 HR1 hzq_1 hzq1_1 hr hg4
 have HR4k := Lib.hid HR2.out
 clear HK HR2
 go_wp2_with fail
 refine (parts_any w4).mono ?_
 rintro e w5 ⟨rfl, hmap, hb5⟩
 have hlk := lookR w5 _ partsG 10 hmap.out _ ix _ HFD.out
 have HQw3 := Lib.hid (HQw2.out.below hb5.out HQw2.out.lt)
 have HX3 := Lib.hid (HX2.out.below hb5.out HX2.out.lt)
 have HG3 := Lib.hid (grn_below HG2.out hb5.out)
 have HR3 := Lib.hid (HR4k.out.keep hg (hb5.out.mono (by omega)))
 have hzq_3 : q < w5.heap.size := Nat.lt_of_lt_of_le hzq_2 hb5.out.size
 have hzq1_3 : q1 < w5.heap.size := Nat.lt_of_lt_of_le hzq1_2 hb5.out.size
 clear HQw2 HX2 HG2 HR4k hzq_2 hzq1_2 hb5
 have x0w5 : w5.cell? ⟨q1, 0, none⟩ = some (.pointer (some ⟨g, 0, none⟩)) := HX3.out.cell 0
 have x1w5 : w5.cell? ⟨q1, 1, none⟩ = some (.slice At nt ctt) := HX3.out.cell 1
 have HCON := Lib.hid (HPP.out g D w5 HR3.out hg (by omega) (fun W2 h2 => HBT.out W2 (grown_trans HG3.out h2)))
 go_wp2_with fail
 clear x0w5 x1w5 hlk hmap
 refine HCON.out.mono ?_
 rintro e w6 ⟨⟨Ab, nb, zb, Aa, na, za, A, n, c, rfl, hev6, o1, o2, o3⟩, hr, hg6⟩
 dsimp only
 clear HCON
 have hq5 : q < w5.heap.size := by omega
 have HQw4 := Lib.hid (HQw3.out.grn hg6.out (by omega))
 have HX4 := Lib.hid (HX3.out.grn hg6.out (by omega))
 have HG4 := Lib.hid (grown_trans HG3.out hg6.out)
 have HR4 := hr
 have hzq_4 : q < w6.heap.size := Nat.lt_of_lt_of_le hzq_3 hg6.out.size
 have hzq1_4 : q1 < w6.heap.size := Nat.lt_of_lt_of_le hzq1_3 hg6.out.size
 clear HQw3 HX3 HG3 HR3 hzq_3 hzq1_3 hr hg6
 obtain ⟨W7, hW7⟩ : ∃ W, W = w6.alloc (.cells #[.int .i64 (k : Int), .int .i64 xn, .string xt, .slice Ab nb zb, .slice Aa na za, .int .i64 xc, .string xct, .slice A n c, .int .i64 xK, .string cn, .int .i64 cq, .bool cb] 33) := ⟨_, rfl⟩
 have hbl : Below w6.heap.size w6 W7 := by rw [hW7]; exact (Below.refl _ _).alloc (Nat.le_refl _) _
 have hnew : Has W7 w6.heap.size 33 #[.int .i64 (k : Int), .int .i64 xn, .string xt, .slice Ab nb zb, .slice Aa na za, .int .i64 xc, .string xct, .slice A n c, .int .i64 xK, .string cn, .int .i64 cq, .bool cb] := by rw [hW7]; exact Has.new _ _ _
 have HQw5 := Lib.hid (HQw4.out.below hbl HQw4.out.lt)
 have HX5 := Lib.hid (HX4.out.below hbl HX4.out.lt)
 have HG5 := Lib.hid (grn_below HG4.out hbl)
 have HR5 := Lib.hid (HR4.out.keep hg (hbl.mono (by omega)))
 have hzq_5 : q < W7.heap.size := Nat.lt_of_lt_of_le hzq_4 hbl.size
 have hlt_q_q3 : q < w6.heap.size := hzq_4
 have hzq1_5 : q1 < W7.heap.size := Nat.lt_of_lt_of_le hzq1_4 hbl.size
 have hlt_q1_q3 : q1 < w6.heap.size := hzq1_4
 have HE5 := Lib.hid hnew
 have hzq3_5 : w6.heap.size < W7.heap.size := hnew.lt
 have HEV7 := Lib.hid (hev6.out.below hbl)
 clear HQw4 HX4 HG4 HR4 hzq_4 hzq1_4 hbl hnew
 have x0l : (w6.alloc (.cells #[.int .i64 (k : Int), .int .i64 xn, .string xt, .slice Ab nb zb, .slice Aa na za, .int .i64 xc, .string xct, .slice A n c, .int .i64 xK, .string cn, .int .i64 cq, .bool cb] 33)).cell? ⟨q1, 0, none⟩ = some (.pointer (some ⟨g, 0, none⟩)) := by rw [← hW7]; exact HX5.out.cell 0
 go_wp2_with fail
 clear x0l
 (try rw [← hW7])
 clear hW7
 generalize w6.heap.size = q3 at *
 refine (End_get g [] 0 W7 HR5.out.rdr (by simp)).mono ?_
 rintro e wx ⟨rfl, hwx⟩
 obtain rfl : W7 = wx := hwx
 rw [endF_nil]
 have hb07 := HBT.out W7 HG5.out
 have HMAY := Lib.hid (emay_any (⟨(k : Int), xn, xt, xB, xA, xc, xct, xL, xK, ⟨cn, cq, cb⟩⟩ : Ev) Ab nb zb Aa na za A n c At nt ctt T W7 HEV7.out (HTT.out.below hb07) (HTB.out.below hb07))
 rw [HMM.out] at HMAY
 clear hb07
 obtain ⟨c0W7, c1W7, c2W7, c3W7, c4W7, c5W7, c6W7, c7W7, c8W7, c9W7, c10W7, c11W7, _⟩ := allE HE5.out
 go_wp2_with fail
 refine HMAY.out.mono ?_
 rintro e w8 ⟨rfl, hb8⟩
 have hb8k := Lib.hid hb8.out
 clear HMAY c0W7 c1W7 c2W7 c3W7 c4W7 c5W7 c6W7 c7W7 c8W7 c9W7 c10W7 c11W7
 have HQw6 := Lib.hid (HQw5.out.below hb8.out HQw5.out.lt)
 have HX6 := Lib.hid (HX5.out.below hb8.out HX5.out.lt)
 have HE6 := Lib.hid (HE5.out.below hb8.out HE5.out.lt)
 have HG6 := Lib.hid (grn_below HG5.out hb8.out)
 have HR6 := Lib.hid (HR5.out.keep hg (hb8.out.mono (by omega)))
 have hzq_6 : q < w8.heap.size := Nat.lt_of_lt_of_le hzq_5 hb8.out.size
 have hzq1_6 : q1 < w8.heap.size := Nat.lt_of_lt_of_le hzq1_5 hb8.out.size
 have hzq3_6 : q3 < w8.heap.size := Nat.lt_of_lt_of_le hzq3_5 hb8.out.size
 clear HQw5 HX5 HE5 HG5 HR5 hzq_5 hzq1_5 hzq3_5 hb8
 obtain ⟨d0w8, d1w8, d2w8, d3w8, d4w8, d5w8, d6w8, d7w8, d8w8, d9w8, d10w8, d11w8, _⟩ := allE HE6.out
 have HP : Hid (Has (put12 w8 (q) (.int .i64 (k : Int)) (.int .i64 xn) (.string xt) (.slice Ab nb zb) (.slice Aa na za) (.int .i64 xc) (.string xct) (.slice A n c) (.int .i64 xK) (.string cn) (.int .i64 cq) (.bool cb)) (q) 33 #[.int .i64 (k : Int), .int .i64 xn, .string xt, .slice Ab nb zb, .slice Aa na za, .int .i64 xc, .string xct, .slice A n c, .int .i64 xK, .string cn, .int .i64 cq, .bool cb]) := put12_has HQw6.out (.int .i64 (k : Int)) (.int .i64 xn) (.string xt) (.slice Ab nb zb) (.slice Aa na za) (.int .i64 xc) (.string xct) (.slice A n c) (.int .i64 xK) (.string cn) (.int .i64 cq) (.bool cb)
 have HTU := Lib.hid (put12_tur w8 (q) (.int .i64 (k : Int)) (.int .i64 xn) (.string xt) (.slice Ab nb zb) (.slice Aa na za) (.int .i64 xc) (.string xct) (.slice A n c) (.int .i64 xK) (.string cn) (.int .i64 cq) (.bool cb))
 obtain ⟨c0w8, c1w8, c2w8, c3w8, c4w8, c5w8, c6w8, c7w8, c8w8, c9w8, c10w8, c11w8, f0w8, f1w8, f2w8, f3w8, f4w8, f5w8, f6w8, f7w8, f8w8, f9w8, f10w8, f11w8⟩ := allE HQw6.out
 go_wp2_with fail
 have hb08 := HBT.out w8 HG6.out
 have hbP : Below w0.heap.size w0 (put12 w8 (q) (.int .i64 (k : Int)) (.int .i64 xn) (.string xt) (.slice Ab nb zb) (.slice Aa na za) (.int .i64 xc) (.string xct) (.slice A n c) (.int .i64 xK) (.string cn) (.int .i64 cq) (.bool cb)) := HTU.out.below (fun k hk => by simp at hk; omega) hb08.size |> fun h => hb08.trans h
 have HEP := (HEV7.out.below hb8k.out).turR HTU.out (fun a ea hh => by have := o1 a ea; simp only [List.mem_singleton] at hh; omega) (fun a ea hh => by have := o2 a ea; simp only [List.mem_singleton] at hh; omega) (fun a ea hh => by have := o3 a ea; simp only [List.mem_singleton] at hh; omega)
 refine bodyPost_ret (evEndR rfl (put12 w8 (q) (.int .i64 (k : Int)) (.int .i64 xn) (.string xt) (.slice Ab nb zb) (.slice Aa na za) (.int .i64 xc) (.string xct) (.slice A n c) (.int .i64 xK) (.string cn) (.int .i64 cq) (.bool cb)) q (.int .i64 (k : Int)) (.int .i64 xn) (.string xt) (.slice Ab nb zb) (.slice Aa na za) (.int .i64 xc) (.string xct) (.slice A n c) (.int .i64 xK) (.string cn) (.int .i64 cq) (.bool cb) _ rfl HP.out) rfl ?_
 exact ⟨⟨Ab, nb, zb, Aa, na, za, A, n, c, rfl, HEP⟩, hbP⟩
set_option maxHeartbeats 2000000 in
theorem eread_num (A0 : Option Addr) (n0 c0 : Nat) (At : Option Addr) (nt ctt : Nat) (T : List Tb) (k m : Nat) (w0 : World) (hb0 : Rd w0 A0 (k :: (digs m ++ []))) (hn0 : (k :: (digs m ++ [])).length = n0) (hl : ∀ x ∈ k :: (digs m ++ []), x < 256) (hlen : n0 ≤ 90000) (hT : TbW w0 At nt ctt T) (hTb : Tabs w0) (hm : mayP (bareE (k : Int) (m : Int)) T = 0) (hk : k = 1 ∨ k = 2 ∨ k = 7 ∨ k = 8 ∨ k = 9 ∨ k = 10) (hmm : m ≤ 9223372036854775807) :
 Calls Tryz.prog 11 #[.slice A0 n0 c0, .slice At nt ctt] w0 fun e w' => (∃ Ab nb zb Aa na za A n c, e = .returned (.tuple #[.agg #[.int .i64 (k : Int), .int .i64 (m : Int), .string ⟨#[]⟩, .slice Ab nb zb, .slice Aa na za, .int .i64 (0), .string ⟨#[]⟩, .slice A n c, .int .i64 (0), .string ⟨#[]⟩, .int .i64 (0), .bool false], .int .i64 0]) ∧ Hid (EvW w' (bareE (k : Int) (m : Int)) Ab nb zb Aa na za A n c)) ∧ Hid (Below w0.heap.size w0 w') := by
 have hl1 : ∀ x ∈ digs m ++ [], x < 256 := fun x hx => hl x (List.mem_cons_of_mem _ hx)
 have hlt : (digs m ++ []).length ≤ 90000 := by rw [List.length_cons] at hn0; omega
 obtain ⟨ix, hfind⟩ := find_num (k := (k : Int)) (by omega)
 refine eread_gen_number A0 n0 c0 At nt ctt T k ix (digs m ++ []) (m : Int) ⟨#[]⟩ [] [] 0 ⟨#[]⟩ [] 0 ⟨#[]⟩ 0 false w0 hb0 hn0 hl hlen hT hTb hm hfind (fun g D W hr hg hD hBT => ?_)
 refine (rnumber_any g At nt ctt m [] W hr hg hD hmm hl1 (by omega)).mono ?_
 rintro e w' ⟨rfl, hr, hg6⟩
 exact ⟨⟨none, 0, 0, none, 0, 0, none, 0, 0, rfl, evw_row (k : Int) (m : Int) ⟨#[]⟩ [] [] none 0 0 none 0 0 (nilB _) (nilB _) (by omega) (by omega), (fun a ea => by cases ea), (fun a ea => by cases ea), (fun a ea => by cases ea)⟩, hr, hg6⟩
set_option maxHeartbeats 2000000 in
theorem eread_row (A0 : Option Addr) (n0 c0 : Nat) (At : Option Addr) (nt ctt : Nat) (T : List Tb) (k : Nat) (t : ByteArray) (yA : Option Addr) (yn yc : Nat) (kk : Int) (M : List Cl) (R : List Vl) (w0 : World) (hb0 : Rd w0 A0 (k :: (ytxt t ++ (imgF R ++ [])))) (hn0 : (k :: (ytxt t ++ (imgF R ++ []))).length = n0) (hl : ∀ x ∈ k :: (ytxt t ++ (imgF R ++ [])), x < 256) (hlen : n0 ≤ 90000) (hT : TbW w0 At nt ctt T) (hTb : Tabs w0) (hm : mayP (⟨(k : Int), 0, t, [], R, 0, ⟨#[]⟩, [], 0, ⟨⟨#[]⟩, 0, false⟩⟩ : Ev) T = 0) (hk3 : k = 3 ∨ k = 4) (hy : tfV T t = .tuple #[.agg #[.slice yA yn yc, .int .i64 kk], .bool true]) (ht : t.size ≤ 900) (hCR : CRow w0 yA M) (hM : M.length = yn) (h8 : yn ≤ 8) (h1 : 1 ≤ yn) (hk : ∀ x ∈ M, 1 ≤ x.k ∧ x.k ≤ 4) (hf : fitsF M R = true) (hfit : ∀ x ∈ R, x.fits) (hsz : ∀ x ∈ R, x.s.size ≤ 1000) :
 Calls Tryz.prog 11 #[.slice A0 n0 c0, .slice At nt ctt] w0 fun e w' => (∃ Ab nb zb Aa na za A n c, e = .returned (.tuple #[.agg #[.int .i64 ((k : Int)), .int .i64 (0), .string t, .slice Ab nb zb, .slice Aa na za, .int .i64 (0), .string ⟨#[]⟩, .slice A n c, .int .i64 (0), .string ⟨#[]⟩, .int .i64 (0), .bool false], .int .i64 0]) ∧ Hid (EvW w' (⟨(k : Int), 0, t, [], R, 0, ⟨#[]⟩, [], 0, ⟨⟨#[]⟩, 0, false⟩⟩ : Ev) Ab nb zb Aa na za A n c)) ∧ Hid (Below w0.heap.size w0 w') := by
 have hl1 : ∀ x ∈ ytxt t ++ (imgF R ++ []), x < 256 := fun x hx => hl x (List.mem_cons_of_mem _ hx)
 have hlt : (ytxt t ++ (imgF R ++ [])).length ≤ 90000 := by rw [List.length_cons] at hn0; omega
 obtain ⟨ix, hfind⟩ := find_aft (k := (k : Int)) (by omega)
 refine eread_gen_after A0 n0 c0 At nt ctt T k ix (ytxt t ++ (imgF R ++ [])) 0 t [] R 0 ⟨#[]⟩ [] 0 ⟨#[]⟩ 0 false w0 hb0 hn0 hl hlen hT hTb hm hfind (fun g D W hr hg hD hBT => ?_)
 have hF : ∀ W2, W.grownBy W2 (some g) → Calls Tryz.prog 24 #[.slice At nt ctt, .string t] W2 fun e w' => e = .returned (.tuple #[.agg #[.slice yA yn yc, .int .i64 kk], .bool true]) ∧ Hid (Below W2.heap.size W2 w') := fun W2 hG => by
  have h := pfind_any At T nt ctt t W2 hT.len hT.few (hT.row.below (hBT W2 hG)) hT.sort
  rw [hy] at h
  exact h
 have hC : ∀ W2, W.grownBy W2 (some g) → CRow W2 yA M ∧ Tabs W2 := fun W2 hG => ⟨hCR.below (hBT W2 hG), hTb.below (hBT W2 hG)⟩
 refine (rafter_any g At nt ctt t yA yn yc kk M R [] W hr hg hD ht hF hC hM h8 h1 hk hf hfit hsz hl1 (by omega)).mono ?_
 rintro e w' ⟨⟨Ar, nr, cr, rfl, hnr, hvr, hncr, hblr⟩, hr, hg6⟩
 exact ⟨⟨none, 0, 0, Ar, nr, cr, none, 0, 0, rfl, evw_row (k : Int) 0 t [] R none 0 0 Ar nr cr (nilB _) ⟨hnr.out, hncr, hvr.out, fun y hy => (hfit y hy).1⟩ (by omega) (by have h1 := hnr.out; obtain ⟨h2, _⟩ := fits_at hf; omega), (fun a ea => by cases ea), hblr, (fun a ea => by cases ea)⟩, hr, hg6⟩
set_option maxHeartbeats 2000000 in
theorem eread_key (A0 : Option Addr) (n0 c0 : Nat) (At : Option Addr) (nt ctt : Nat) (T : List Tb) (t : ByteArray) (yA : Option Addr) (yn yc : Nat) (kk : Nat) (M : List Cl) (R : List Vl) (w0 : World) (hb0 : Rd w0 A0 (5 :: (ytxt t ++ (imgF R ++ [])))) (hn0 : (5 :: (ytxt t ++ (imgF R ++ []))).length = n0) (hl : ∀ x ∈ 5 :: (ytxt t ++ (imgF R ++ [])), x < 256) (hlen : n0 ≤ 90000) (hT : TbW w0 At nt ctt T) (hTb : Tabs w0) (hm : mayP (⟨5, 0, t, R, [], 0, ⟨#[]⟩, [], 0, ⟨⟨#[]⟩, 0, false⟩⟩ : Ev) T = 0) (hy : tfV T t = .tuple #[.agg #[.slice yA yn yc, .int .i64 kk], .bool true]) (ht : t.size ≤ 900) (hCR : CRow w0 yA M) (hM : M.length = yn) (h8 : yn ≤ 8) (h1 : 1 ≤ kk) (hkn : kk ≤ yn) (hnc : yn ≤ yc) (hk : ∀ x ∈ M, 1 ≤ x.k ∧ x.k ≤ 4) (hf : fitsF (M.take kk) R = true) (hfit : ∀ x ∈ R, x.fits) (hsz : ∀ x ∈ R, x.s.size ≤ 1000) :
 Calls Tryz.prog 11 #[.slice A0 n0 c0, .slice At nt ctt] w0 fun e w' => (∃ Ab nb zb Aa na za A n c, e = .returned (.tuple #[.agg #[.int .i64 (5), .int .i64 (0), .string t, .slice Ab nb zb, .slice Aa na za, .int .i64 (0), .string ⟨#[]⟩, .slice A n c, .int .i64 (0), .string ⟨#[]⟩, .int .i64 (0), .bool false], .int .i64 0]) ∧ Hid (EvW w' (⟨5, 0, t, R, [], 0, ⟨#[]⟩, [], 0, ⟨⟨#[]⟩, 0, false⟩⟩ : Ev) Ab nb zb Aa na za A n c)) ∧ Hid (Below w0.heap.size w0 w') := by
 have hl1 : ∀ x ∈ ytxt t ++ (imgF R ++ []), x < 256 := fun x hx => hl x (List.mem_cons_of_mem _ hx)
 have hlt : (ytxt t ++ (imgF R ++ [])).length ≤ 90000 := by rw [List.length_cons] at hn0; omega
 obtain ⟨ix, hfind⟩ := find_bef
 refine eread_gen_before A0 n0 c0 At nt ctt T 5 ix (ytxt t ++ (imgF R ++ [])) 0 t R [] 0 ⟨#[]⟩ [] 0 ⟨#[]⟩ 0 false w0 hb0 hn0 hl hlen hT hTb hm hfind (fun g D W hr hg hD hBT => ?_)
 have hF : ∀ W2, W.grownBy W2 (some g) → Calls Tryz.prog 24 #[.slice At nt ctt, .string t] W2 fun e w' => e = .returned (.tuple #[.agg #[.slice yA yn yc, .int .i64 kk], .bool true]) ∧ Hid (Below W2.heap.size W2 w') := fun W2 hG => by
  have h := pfind_any At T nt ctt t W2 hT.len hT.few (hT.row.below (hBT W2 hG)) hT.sort
  rw [hy] at h
  exact h
 have hC : ∀ W2, W.grownBy W2 (some g) → CRow W2 yA M ∧ Tabs W2 := fun W2 hG => ⟨hCR.below (hBT W2 hG), hTb.below (hBT W2 hG)⟩
 refine (rbefore_any g At nt ctt t yA yn yc kk M R [] W hr hg hD ht hF hC hM h8 h1 hkn hnc hk hf hfit hsz hl1 (by omega)).mono ?_
 rintro e w' ⟨⟨Ar, nr, cr, rfl, hnr, hvr, hncr, hblr⟩, hr, hg6⟩
 exact ⟨⟨Ar, nr, cr, none, 0, 0, none, 0, 0, rfl, evw_row 5 0 t R [] Ar nr cr none 0 0 ⟨hnr.out, hncr, hvr.out, fun y hy => (hfit y hy).1⟩ (nilB _) (by have h1 := hnr.out; obtain ⟨h2, _⟩ := fits_at hf; rw [List.length_take] at h2; omega) (by omega), hblr, (fun a ea => by cases ea), (fun a ea => by cases ea)⟩, hr, hg6⟩
set_option maxHeartbeats 2000000 in
theorem eread_alt1 (A0 : Option Addr) (n0 c0 : Nat) (At : Option Addr) (nt ctt : Nat) (T : List Tb) (ct : ByteArray) (K : Nat) (L : List Cl) (w0 : World) (hb0 : Rd w0 A0 (6 :: (1 :: (ytxt ct ++ (K :: L.length :: colsD L 0 []))))) (hn0 : (6 :: (1 :: (ytxt ct ++ (K :: L.length :: colsD L 0 [])))).length = n0) (hl : ∀ x ∈ 6 :: (1 :: (ytxt ct ++ (K :: L.length :: colsD L 0 []))), x < 256) (hlen : n0 ≤ 90000) (hT : TbW w0 At nt ctt T) (hTb : Tabs w0) (hm : mayP (⟨6, 0, ⟨#[]⟩, [], [], 1, ct, L, (K : Int), ⟨⟨#[]⟩, 0, false⟩⟩ : Ev) T = 0) (hct : ct.size ≤ 32) (hL : L.length ≤ 16) (hLc : ∀ x ∈ L, x.nm.size ≤ 32 ∧ ∃ k : Nat, x.k = (k : Int) ∧ k < 256) :
 Calls Tryz.prog 11 #[.slice A0 n0 c0, .slice At nt ctt] w0 fun e w' => (∃ Ab nb zb Aa na za A n c, e = .returned (.tuple #[.agg #[.int .i64 (6), .int .i64 (0), .string ⟨#[]⟩, .slice Ab nb zb, .slice Aa na za, .int .i64 (1), .string ct, .slice A n c, .int .i64 ((K : Int)), .string ⟨#[]⟩, .int .i64 (0), .bool false], .int .i64 0]) ∧ Hid (EvW w' (⟨6, 0, ⟨#[]⟩, [], [], 1, ct, L, (K : Int), ⟨⟨#[]⟩, 0, false⟩⟩ : Ev) Ab nb zb Aa na za A n c)) ∧ Hid (Below w0.heap.size w0 w') := by
 have hl1 : ∀ x ∈ 1 :: (ytxt ct ++ (K :: L.length :: colsD L 0 [])), x < 256 := fun x hx => hl x (List.mem_cons_of_mem _ hx)
 have hlt : (1 :: (ytxt ct ++ (K :: L.length :: colsD L 0 []))).length ≤ 90000 := by rw [List.length_cons] at hn0; omega
 obtain ⟨ix, hfind⟩ := find_alt
 refine eread_gen_alter A0 n0 c0 At nt ctt T 6 ix (1 :: (ytxt ct ++ (K :: L.length :: colsD L 0 []))) 0 ⟨#[]⟩ [] [] 1 ct L (K : Int) ⟨#[]⟩ 0 false w0 hb0 hn0 hl hlen hT hTb hm hfind (fun g D W hr hg hD hBT => ?_)
 have hfl : ∀ y ∈ L, y.fit := fun y hy => by
  obtain ⟨h1, k, h2, h3⟩ := hLc y hy
  unfold Cl.fit
  omega
 refine (ralter_1 g At nt ctt ct K L [] W hr hg hD hct hL hLc hl1 (by omega)).mono ?_
 rintro e w' ⟨⟨Ar, nr, cr, rfl, hnr, hncr, hmcr, hvr, hblr⟩, hr, hg6⟩
 exact ⟨⟨none, 0, 0, none, 0, 0, Ar, nr, cr, rfl, evw_chg 1 ct Ar nr cr L (K : Int) ⟨⟨#[]⟩, 0, false⟩ ⟨hnr.out, by have := hnr.out; omega, hvr.out, hfl⟩ (by omega) (by unfold Cl.fit; refine ⟨?_, ?_, ?_⟩ <;> first | omega | exact Nat.zero_le _ | (show (-9223372036854775808 : Int) ≤ _; dsimp only; omega) | (dsimp only; omega)), (fun a ea => by cases ea), (fun a ea => by cases ea), hblr⟩, hr, hg6⟩
set_option maxHeartbeats 2000000 in
theorem eread_alt2 (A0 : Option Addr) (n0 c0 : Nat) (At : Option Addr) (nt ctt : Nat) (T : List Tb) (ct : ByteArray)  (w0 : World) (hb0 : Rd w0 A0 (6 :: (2 :: (ytxt ct ++ ([]))))) (hn0 : (6 :: (2 :: (ytxt ct ++ ([])))).length = n0) (hl : ∀ x ∈ 6 :: (2 :: (ytxt ct ++ ([]))), x < 256) (hlen : n0 ≤ 90000) (hT : TbW w0 At nt ctt T) (hTb : Tabs w0) (hm : mayP (⟨6, 0, ⟨#[]⟩, [], [], 2, ct, [], 0, ⟨⟨#[]⟩, 0, false⟩⟩ : Ev) T = 0) (hct : ct.size ≤ 32)  :
 Calls Tryz.prog 11 #[.slice A0 n0 c0, .slice At nt ctt] w0 fun e w' => (∃ Ab nb zb Aa na za A n c, e = .returned (.tuple #[.agg #[.int .i64 (6), .int .i64 (0), .string ⟨#[]⟩, .slice Ab nb zb, .slice Aa na za, .int .i64 (2), .string ct, .slice A n c, .int .i64 (0), .string ⟨#[]⟩, .int .i64 (0), .bool false], .int .i64 0]) ∧ Hid (EvW w' (⟨6, 0, ⟨#[]⟩, [], [], 2, ct, [], 0, ⟨⟨#[]⟩, 0, false⟩⟩ : Ev) Ab nb zb Aa na za A n c)) ∧ Hid (Below w0.heap.size w0 w') := by
 have hl1 : ∀ x ∈ 2 :: (ytxt ct ++ ([])), x < 256 := fun x hx => hl x (List.mem_cons_of_mem _ hx)
 have hlt : (2 :: (ytxt ct ++ ([]))).length ≤ 90000 := by rw [List.length_cons] at hn0; omega
 obtain ⟨ix, hfind⟩ := find_alt
 refine eread_gen_alter A0 n0 c0 At nt ctt T 6 ix (2 :: (ytxt ct ++ ([]))) 0 ⟨#[]⟩ [] [] 2 ct [] 0 ⟨#[]⟩ 0 false w0 hb0 hn0 hl hlen hT hTb hm hfind (fun g D W hr hg hD hBT => ?_)
 refine (ralter_2 g At nt ctt ct  [] W hr hg hD hct  hl1 (by omega)).mono ?_
 rintro e w' ⟨rfl, hr, hg6⟩
 exact ⟨⟨none, 0, 0, none, 0, 0, none, 0, 0, rfl, evw_chg 2 ct none 0 0 [] 0 ⟨⟨#[]⟩, 0, false⟩ (nilC' _) (by omega) (by unfold Cl.fit; refine ⟨?_, ?_, ?_⟩ <;> first | omega | exact Nat.zero_le _ | (show (-9223372036854775808 : Int) ≤ _; dsimp only; omega) | (dsimp only; omega)), (fun a ea => by cases ea), (fun a ea => by cases ea), (fun a ea => by cases ea)⟩, hr, hg6⟩
set_option maxHeartbeats 2000000 in
theorem eread_alt3 (A0 : Option Addr) (n0 c0 : Nat) (At : Option Addr) (nt ctt : Nat) (T : List Tb) (ct : ByteArray) (cn : ByteArray) (cq : Nat) (cb : Bool) (w0 : World) (hb0 : Rd w0 A0 (6 :: (3 :: (ytxt ct ++ (colB cn cq cb ++ []))))) (hn0 : (6 :: (3 :: (ytxt ct ++ (colB cn cq cb ++ [])))).length = n0) (hl : ∀ x ∈ 6 :: (3 :: (ytxt ct ++ (colB cn cq cb ++ []))), x < 256) (hlen : n0 ≤ 90000) (hT : TbW w0 At nt ctt T) (hTb : Tabs w0) (hm : mayP (⟨6, 0, ⟨#[]⟩, [], [], 3, ct, [], 0, ⟨cn, (cq : Int), cb⟩⟩ : Ev) T = 0) (hct : ct.size ≤ 32) (hn : cn.size ≤ 32) (hq6 : cq < 256) :
 Calls Tryz.prog 11 #[.slice A0 n0 c0, .slice At nt ctt] w0 fun e w' => (∃ Ab nb zb Aa na za A n c, e = .returned (.tuple #[.agg #[.int .i64 (6), .int .i64 (0), .string ⟨#[]⟩, .slice Ab nb zb, .slice Aa na za, .int .i64 (3), .string ct, .slice A n c, .int .i64 (0), .string cn, .int .i64 ((cq : Int)), .bool cb], .int .i64 0]) ∧ Hid (EvW w' (⟨6, 0, ⟨#[]⟩, [], [], 3, ct, [], 0, ⟨cn, (cq : Int), cb⟩⟩ : Ev) Ab nb zb Aa na za A n c)) ∧ Hid (Below w0.heap.size w0 w') := by
 have hl1 : ∀ x ∈ 3 :: (ytxt ct ++ (colB cn cq cb ++ [])), x < 256 := fun x hx => hl x (List.mem_cons_of_mem _ hx)
 have hlt : (3 :: (ytxt ct ++ (colB cn cq cb ++ []))).length ≤ 90000 := by rw [List.length_cons] at hn0; omega
 obtain ⟨ix, hfind⟩ := find_alt
 refine eread_gen_alter A0 n0 c0 At nt ctt T 6 ix (3 :: (ytxt ct ++ (colB cn cq cb ++ []))) 0 ⟨#[]⟩ [] [] 3 ct [] 0 cn (cq : Int) cb w0 hb0 hn0 hl hlen hT hTb hm hfind (fun g D W hr hg hD hBT => ?_)
 refine (ralter_3 g At nt ctt ct cn cq cb [] W hr hg hD hct hn hl1 (by omega)).mono ?_
 rintro e w' ⟨rfl, hr, hg6⟩
 exact ⟨⟨none, 0, 0, none, 0, 0, none, 0, 0, rfl, evw_chg 3 ct none 0 0 [] 0 ⟨cn, (cq : Int), cb⟩ (nilC' _) (by omega) (by unfold Cl.fit; refine ⟨?_, ?_, ?_⟩ <;> first | omega | exact Nat.zero_le _ | (show (-9223372036854775808 : Int) ≤ _; dsimp only; omega) | (dsimp only; omega)), (fun a ea => by cases ea), (fun a ea => by cases ea), (fun a ea => by cases ea)⟩, hr, hg6⟩
set_option maxHeartbeats 2000000 in
theorem eread_alt5 (A0 : Option Addr) (n0 c0 : Nat) (At : Option Addr) (nt ctt : Nat) (T : List Tb) (ct : ByteArray) (cn : ByteArray) (cq : Nat) (cb : Bool) (w0 : World) (hb0 : Rd w0 A0 (6 :: (5 :: (ytxt ct ++ (colB cn cq cb ++ []))))) (hn0 : (6 :: (5 :: (ytxt ct ++ (colB cn cq cb ++ [])))).length = n0) (hl : ∀ x ∈ 6 :: (5 :: (ytxt ct ++ (colB cn cq cb ++ []))), x < 256) (hlen : n0 ≤ 90000) (hT : TbW w0 At nt ctt T) (hTb : Tabs w0) (hm : mayP (⟨6, 0, ⟨#[]⟩, [], [], 5, ct, [], 0, ⟨cn, (cq : Int), cb⟩⟩ : Ev) T = 0) (hct : ct.size ≤ 32) (hn : cn.size ≤ 32) (hq6 : cq < 256) :
 Calls Tryz.prog 11 #[.slice A0 n0 c0, .slice At nt ctt] w0 fun e w' => (∃ Ab nb zb Aa na za A n c, e = .returned (.tuple #[.agg #[.int .i64 (6), .int .i64 (0), .string ⟨#[]⟩, .slice Ab nb zb, .slice Aa na za, .int .i64 (5), .string ct, .slice A n c, .int .i64 (0), .string cn, .int .i64 ((cq : Int)), .bool cb], .int .i64 0]) ∧ Hid (EvW w' (⟨6, 0, ⟨#[]⟩, [], [], 5, ct, [], 0, ⟨cn, (cq : Int), cb⟩⟩ : Ev) Ab nb zb Aa na za A n c)) ∧ Hid (Below w0.heap.size w0 w') := by
 have hl1 : ∀ x ∈ 5 :: (ytxt ct ++ (colB cn cq cb ++ [])), x < 256 := fun x hx => hl x (List.mem_cons_of_mem _ hx)
 have hlt : (5 :: (ytxt ct ++ (colB cn cq cb ++ []))).length ≤ 90000 := by rw [List.length_cons] at hn0; omega
 obtain ⟨ix, hfind⟩ := find_alt
 refine eread_gen_alter A0 n0 c0 At nt ctt T 6 ix (5 :: (ytxt ct ++ (colB cn cq cb ++ []))) 0 ⟨#[]⟩ [] [] 5 ct [] 0 cn (cq : Int) cb w0 hb0 hn0 hl hlen hT hTb hm hfind (fun g D W hr hg hD hBT => ?_)
 refine (ralter_5 g At nt ctt ct cn cq cb [] W hr hg hD hct hn hl1 (by omega)).mono ?_
 rintro e w' ⟨rfl, hr, hg6⟩
 exact ⟨⟨none, 0, 0, none, 0, 0, none, 0, 0, rfl, evw_chg 5 ct none 0 0 [] 0 ⟨cn, (cq : Int), cb⟩ (nilC' _) (by omega) (by unfold Cl.fit; refine ⟨?_, ?_, ?_⟩ <;> first | omega | exact Nat.zero_le _ | (show (-9223372036854775808 : Int) ≤ _; dsimp only; omega) | (dsimp only; omega)), (fun a ea => by cases ea), (fun a ea => by cases ea), (fun a ea => by cases ea)⟩, hr, hg6⟩
set_option maxHeartbeats 2000000 in
theorem eread_alt4 (A0 : Option Addr) (n0 c0 : Nat) (At : Option Addr) (nt ctt : Nat) (T : List Tb) (ct : ByteArray) (cn : ByteArray) (w0 : World) (hb0 : Rd w0 A0 (6 :: (4 :: (ytxt ct ++ (ytxt cn ++ []))))) (hn0 : (6 :: (4 :: (ytxt ct ++ (ytxt cn ++ [])))).length = n0) (hl : ∀ x ∈ 6 :: (4 :: (ytxt ct ++ (ytxt cn ++ []))), x < 256) (hlen : n0 ≤ 90000) (hT : TbW w0 At nt ctt T) (hTb : Tabs w0) (hm : mayP (⟨6, 0, ⟨#[]⟩, [], [], 4, ct, [], 0, ⟨cn, 0, false⟩⟩ : Ev) T = 0) (hct : ct.size ≤ 32) (hn : cn.size ≤ 32) :
 Calls Tryz.prog 11 #[.slice A0 n0 c0, .slice At nt ctt] w0 fun e w' => (∃ Ab nb zb Aa na za A n c, e = .returned (.tuple #[.agg #[.int .i64 (6), .int .i64 (0), .string ⟨#[]⟩, .slice Ab nb zb, .slice Aa na za, .int .i64 (4), .string ct, .slice A n c, .int .i64 (0), .string cn, .int .i64 (0), .bool false], .int .i64 0]) ∧ Hid (EvW w' (⟨6, 0, ⟨#[]⟩, [], [], 4, ct, [], 0, ⟨cn, 0, false⟩⟩ : Ev) Ab nb zb Aa na za A n c)) ∧ Hid (Below w0.heap.size w0 w') := by
 have hl1 : ∀ x ∈ 4 :: (ytxt ct ++ (ytxt cn ++ [])), x < 256 := fun x hx => hl x (List.mem_cons_of_mem _ hx)
 have hlt : (4 :: (ytxt ct ++ (ytxt cn ++ []))).length ≤ 90000 := by rw [List.length_cons] at hn0; omega
 obtain ⟨ix, hfind⟩ := find_alt
 refine eread_gen_alter A0 n0 c0 At nt ctt T 6 ix (4 :: (ytxt ct ++ (ytxt cn ++ []))) 0 ⟨#[]⟩ [] [] 4 ct [] 0 cn 0 false w0 hb0 hn0 hl hlen hT hTb hm hfind (fun g D W hr hg hD hBT => ?_)
 refine (ralter_4 g At nt ctt ct cn [] W hr hg hD hct hn hl1 (by omega)).mono ?_
 rintro e w' ⟨rfl, hr, hg6⟩
 exact ⟨⟨none, 0, 0, none, 0, 0, none, 0, 0, rfl, evw_chg 4 ct none 0 0 [] 0 ⟨cn, 0, false⟩ (nilC' _) (by omega) (by unfold Cl.fit; refine ⟨?_, ?_, ?_⟩ <;> first | omega | exact Nat.zero_le _ | (show (-9223372036854775808 : Int) ≤ _; dsimp only; omega) | (dsimp only; omega)), (fun a ea => by cases ea), (fun a ea => by cases ea), (fun a ea => by cases ea)⟩, hr, hg6⟩
end Go.Proofs.YtnpmgempkoeapaaGreatDoor
