/-
  Put together, as far as it is used: EMay, RMah, WtL, REvh.
-/
import Derived.Test.YtnpmgempkoeapaaGreatDoorPeba
import Derived.Test.YtnpmgempkoeapaaGreatDoorPeab
import Derived.RangeFuncNested
import Derived.RangeFuncBound
import Derived.RangeFuncCalls
import Derived.RangeFuncLeaves
import Derived.Test.YtnpmgempkoeapaaGreatDoorPeaz
import Derived.Test.YtnpmgempkoeapaaGreatDoorPeaw
import Derived.Deep.RegionHeld3
set_option linter.unusedVariables false
set_option linter.unusedSimpArgs false
set_option linter.defProp false
namespace Go.Proofs.YtnpmgempkoeapaaGreatDoor
open Go.RowKit Dg
set_option maxRecDepth 100000
structure EvW (w : World) (x : Ev) (Ab : Option Addr) (nb zb : Nat) (Aa : Option Addr) (na za : Nat) (A : Option Addr) (n c : Nat) : Prop where
 at_ : EvAt w (.agg #[.int .i64 x.k, .int .i64 x.n, .string x.t, .slice Ab nb zb, .slice Aa na za, .int .i64 x.ck, .string x.ct, .slice A n c, .int .i64 x.K, .string x.cl.nm, .int .i64 x.cl.k, .bool x.cl.no]) x
 b : x.B.length = nb ∧ nb ≤ zb ∧ VRow w Ab x.B ∧ ∀ y ∈ x.B, y.fit
 a : x.A.length = na ∧ na ≤ za ∧ VRow w Aa x.A ∧ ∀ y ∈ x.A, y.fit
 nb63 : (nb : Int) ≤ 9223372036854775807
 na63 : (na : Int) ≤ 9223372036854775807
 l : x.L.length = n ∧ n ≤ 4398046511104 ∧ CRow w A x.L ∧ ∀ y ∈ x.L, y.fit
 ct : x.ct.size ≤ 140737488355328
 cl : x.cl.fit
theorem EvW.below {w w' : World} {x : Ev} {Ab : Option Addr} {nb zb : Nat} {Aa : Option Addr} {na za : Nat} {A : Option Addr} {n c : Nat} (h : EvW w x Ab nb zb Aa na za A n c) (hb : Below w.heap.size w w') : EvW w' x Ab nb zb Aa na za A n c :=
 ⟨h.at_.below hb, ⟨h.b.1, h.b.2.1, h.b.2.2.1.below hb, h.b.2.2.2⟩, ⟨h.a.1, h.a.2.1, h.a.2.2.1.below hb, h.a.2.2.2⟩, h.nb63, h.na63, ⟨h.l.1, h.l.2.1, h.l.2.2.1.below hb, h.l.2.2.2⟩, h.ct, h.cl⟩
structure TbW (w : World) (At : Option Addr) (nt ct : Nat) (T : List Tb) : Prop where
 len : T.length = nt
 few : nt ≤ 1000
 row : TRow w At T
 ok : TOks w T
 sort : SortT T
 good : ∀ y ∈ T, ∃ k : Nat, y.K = (k : Int) ∧ k ≤ y.L.length ∧ k ≤ 4
theorem TbW.below {w w' : World} {At : Option Addr} {nt ct : Nat} {T : List Tb} (h : TbW w At nt ct T) (hb : Below w.heap.size w w') : TbW w' At nt ct T :=
 ⟨h.len, h.few, h.row.below hb, h.ok.below hb, h.sort, h.good⟩
def mayP (x : Ev) (T : List Tb) : Int :=
 if x.k = 1 ∨ x.k = 2 ∨ x.k = 7 ∨ x.k = 8 ∨ x.k = 9 ∨ x.k = 10 then numF6 x
 else if x.k = 3 ∨ x.k = 4 ∨ x.k = 5 then rowG6 x T
 else if x.k = 6 then altP x else 5
set_option maxHeartbeats 8000000 in
theorem emay_any (x : Ev) (Ab : Option Addr) (nb zb : Nat) (Aa : Option Addr) (na za : Nat) (A : Option Addr) (n c : Nat) (At : Option Addr) (nt ctt : Nat) (T : List Tb) (w : World) (h : EvW w x Ab nb zb Aa na za A n c) (hT : TbW w At nt ctt T) (hTb : Tabs w) :
 Calls Tryz.prog 23 #[.agg #[.int .i64 x.k, .int .i64 x.n, .string x.t, .slice Ab nb zb, .slice Aa na za, .int .i64 x.ck, .string x.ct, .slice A n c, .int .i64 x.K, .string x.cl.nm, .int .i64 x.cl.k, .bool x.cl.no], .slice At nt ctt] w fun e w' => e = .returned (.int .i64 (mayP x T)) ∧ Hid (Below w.heap.size w w') := by
 have HW := Lib.hid h
 have HTW := Lib.hid hT
 have HTB := Lib.hid hTb
 clear h hT hTb
 have hb0 : Below w.heap.size w (w.alloc (.cells #[.int .i64 x.k, .int .i64 x.n, .string x.t, .slice Ab nb zb, .slice Aa na za, .int .i64 x.ck, .string x.ct, .slice A n c, .int .i64 x.K, .string x.cl.nm, .int .i64 x.cl.k, .bool x.cl.no] 33)) := (Below.refl w.heap.size w).alloc (Nat.le_refl _) _
 have HB := Lib.hid hb0
 have HW1 := Lib.hid (HW.out.below hb0)
 have HT1 := Lib.hid (HTW.out.below hb0)
 have HTB1 := Lib.hid (HTB.out.below hb0)
 clear hb0 HW HTW HTB
 obtain ⟨k, m, t, B, AA, ck, ct, L, K, ⟨cn, cq, cb⟩⟩ := x
 by_cases hc : k = 1 ∨ k = 2 ∨ k = 3 ∨ k = 4 ∨ k = 5 ∨ k = 6 ∨ k = 7 ∨ k = 8 ∨ k = 9 ∨ k = 10
 ·rcases hc with rfl | rfl | rfl | rfl | rfl | rfl | rfl | rfl | rfl | rfl
  ·have e : mayP ⟨1, m, t, B, AA, ck, ct, L, K, ⟨cn, cq, cb⟩⟩ T = numF6 ⟨1, m, t, B, AA, ck, ct, L, K, ⟨cn, cq, cb⟩⟩ := by unfold mayP; simp
   rw [e]
   have HM := Lib.hid (mayNumber_any ⟨1, m, t, B, AA, ck, ct, L, K, ⟨cn, cq, cb⟩⟩ Ab nb zb Aa na za A n c (w.alloc (.cells #[.int .i64 1, .int .i64 m, .string t, .slice Ab nb zb, .slice Aa na za, .int .i64 ck, .string ct, .slice A n c, .int .i64 K, .string cn, .int .i64 cq, .bool cb] 33)) HW1.out.at_)
   obtain ⟨res, hres⟩ : ∃ q, numF6 ⟨1, m, t, B, AA, ck, ct, L, K, ⟨cn, cq, cb⟩⟩ = q := ⟨_, rfl⟩
   rw [hres] at HM ⊢
   clear e hres HW1 HT1 HTB1
   go_enter Tryz.func23, Tryz.ntmps23
   go_wp2_with fail
   refine HM.out.mono ?_
   rintro e w1 ⟨rfl, hb1⟩
   have HB1 := Lib.hid (HB.out.trans (hb1.out.mono HB.out.size))
   go_wp2_with fail
   go_ret
   exact ⟨rfl, HB1⟩
  ·have e : mayP ⟨2, m, t, B, AA, ck, ct, L, K, ⟨cn, cq, cb⟩⟩ T = numF6 ⟨2, m, t, B, AA, ck, ct, L, K, ⟨cn, cq, cb⟩⟩ := by unfold mayP; simp
   rw [e]
   have HM := Lib.hid (mayNumber_any ⟨2, m, t, B, AA, ck, ct, L, K, ⟨cn, cq, cb⟩⟩ Ab nb zb Aa na za A n c (w.alloc (.cells #[.int .i64 2, .int .i64 m, .string t, .slice Ab nb zb, .slice Aa na za, .int .i64 ck, .string ct, .slice A n c, .int .i64 K, .string cn, .int .i64 cq, .bool cb] 33)) HW1.out.at_)
   obtain ⟨res, hres⟩ : ∃ q, numF6 ⟨2, m, t, B, AA, ck, ct, L, K, ⟨cn, cq, cb⟩⟩ = q := ⟨_, rfl⟩
   rw [hres] at HM ⊢
   clear e hres HW1 HT1 HTB1
   go_enter Tryz.func23, Tryz.ntmps23
   go_wp2_with fail
   refine HM.out.mono ?_
   rintro e w1 ⟨rfl, hb1⟩
   have HB1 := Lib.hid (HB.out.trans (hb1.out.mono HB.out.size))
   go_wp2_with fail
   go_ret
   exact ⟨rfl, HB1⟩
  ·have e : mayP ⟨3, m, t, B, AA, ck, ct, L, K, ⟨cn, cq, cb⟩⟩ T = rowG6 ⟨3, m, t, B, AA, ck, ct, L, K, ⟨cn, cq, cb⟩⟩ T := by unfold mayP; simp
   rw [e]
   have HM := Lib.hid (mayRow3_any ⟨3, m, t, B, AA, ck, ct, L, K, ⟨cn, cq, cb⟩⟩ Ab nb zb Aa na za A n c At nt ctt T (w.alloc (.cells #[.int .i64 3, .int .i64 m, .string t, .slice Ab nb zb, .slice Aa na za, .int .i64 ck, .string ct, .slice A n c, .int .i64 K, .string cn, .int .i64 cq, .bool cb] 33)) HW1.out.at_ rfl HW1.out.a HT1.out.len HT1.out.few HT1.out.row HT1.out.ok HT1.out.sort HT1.out.good HTB1.out HW1.out.na63)
   obtain ⟨res, hres⟩ : ∃ q, rowG6 ⟨3, m, t, B, AA, ck, ct, L, K, ⟨cn, cq, cb⟩⟩ T = q := ⟨_, rfl⟩
   rw [hres] at HM ⊢
   clear e hres HW1 HT1 HTB1
   go_enter Tryz.func23, Tryz.ntmps23
   go_wp2_with fail
   refine HM.out.mono ?_
   rintro e w1 ⟨rfl, hb1⟩
   have HB1 := Lib.hid (HB.out.trans (hb1.out.mono HB.out.size))
   go_wp2_with fail
   go_ret
   exact ⟨rfl, HB1⟩
  ·have e : mayP ⟨4, m, t, B, AA, ck, ct, L, K, ⟨cn, cq, cb⟩⟩ T = rowG6 ⟨4, m, t, B, AA, ck, ct, L, K, ⟨cn, cq, cb⟩⟩ T := by unfold mayP; simp
   rw [e]
   have HM := Lib.hid (mayRow4_any ⟨4, m, t, B, AA, ck, ct, L, K, ⟨cn, cq, cb⟩⟩ Ab nb zb Aa na za A n c At nt ctt T (w.alloc (.cells #[.int .i64 4, .int .i64 m, .string t, .slice Ab nb zb, .slice Aa na za, .int .i64 ck, .string ct, .slice A n c, .int .i64 K, .string cn, .int .i64 cq, .bool cb] 33)) HW1.out.at_ rfl HW1.out.a HT1.out.len HT1.out.few HT1.out.row HT1.out.ok HT1.out.sort HT1.out.good HTB1.out HW1.out.na63)
   obtain ⟨res, hres⟩ : ∃ q, rowG6 ⟨4, m, t, B, AA, ck, ct, L, K, ⟨cn, cq, cb⟩⟩ T = q := ⟨_, rfl⟩
   rw [hres] at HM ⊢
   clear e hres HW1 HT1 HTB1
   go_enter Tryz.func23, Tryz.ntmps23
   go_wp2_with fail
   refine HM.out.mono ?_
   rintro e w1 ⟨rfl, hb1⟩
   have HB1 := Lib.hid (HB.out.trans (hb1.out.mono HB.out.size))
   go_wp2_with fail
   go_ret
   exact ⟨rfl, HB1⟩
  ·have e : mayP ⟨5, m, t, B, AA, ck, ct, L, K, ⟨cn, cq, cb⟩⟩ T = rowG6 ⟨5, m, t, B, AA, ck, ct, L, K, ⟨cn, cq, cb⟩⟩ T := by unfold mayP; simp
   rw [e]
   have HM := Lib.hid (mayRow5_any ⟨5, m, t, B, AA, ck, ct, L, K, ⟨cn, cq, cb⟩⟩ Ab nb zb Aa na za A n c At nt ctt T (w.alloc (.cells #[.int .i64 5, .int .i64 m, .string t, .slice Ab nb zb, .slice Aa na za, .int .i64 ck, .string ct, .slice A n c, .int .i64 K, .string cn, .int .i64 cq, .bool cb] 33)) HW1.out.at_ rfl HW1.out.b HT1.out.len HT1.out.few HT1.out.row HT1.out.ok HT1.out.sort HT1.out.good HTB1.out HW1.out.nb63)
   obtain ⟨res, hres⟩ : ∃ q, rowG6 ⟨5, m, t, B, AA, ck, ct, L, K, ⟨cn, cq, cb⟩⟩ T = q := ⟨_, rfl⟩
   rw [hres] at HM ⊢
   clear e hres HW1 HT1 HTB1
   go_enter Tryz.func23, Tryz.ntmps23
   go_wp2_with fail
   refine HM.out.mono ?_
   rintro e w1 ⟨rfl, hb1⟩
   have HB1 := Lib.hid (HB.out.trans (hb1.out.mono HB.out.size))
   go_wp2_with fail
   go_ret
   exact ⟨rfl, HB1⟩
  ·have e : mayP ⟨6, m, t, B, AA, ck, ct, L, K, ⟨cn, cq, cb⟩⟩ T = altP ⟨6, m, t, B, AA, ck, ct, L, K, ⟨cn, cq, cb⟩⟩ := by unfold mayP; simp
   rw [e]
   have HM := Lib.hid (mayAlter_any ⟨6, m, t, B, AA, ck, ct, L, K, ⟨cn, cq, cb⟩⟩ Ab nb zb Aa na za A n c (w.alloc (.cells #[.int .i64 6, .int .i64 m, .string t, .slice Ab nb zb, .slice Aa na za, .int .i64 ck, .string ct, .slice A n c, .int .i64 K, .string cn, .int .i64 cq, .bool cb] 33)) HW1.out.at_ HW1.out.l HW1.out.ct HW1.out.cl)
   obtain ⟨res, hres⟩ : ∃ q, altP ⟨6, m, t, B, AA, ck, ct, L, K, ⟨cn, cq, cb⟩⟩ = q := ⟨_, rfl⟩
   rw [hres] at HM ⊢
   clear e hres HW1 HT1 HTB1
   go_enter Tryz.func23, Tryz.ntmps23
   go_wp2_with fail
   refine HM.out.mono ?_
   rintro e w1 ⟨rfl, hb1⟩
   have HB1 := Lib.hid (HB.out.trans (hb1.out.mono HB.out.size))
   go_wp2_with fail
   go_ret
   exact ⟨rfl, HB1⟩
  ·have e : mayP ⟨7, m, t, B, AA, ck, ct, L, K, ⟨cn, cq, cb⟩⟩ T = numF6 ⟨7, m, t, B, AA, ck, ct, L, K, ⟨cn, cq, cb⟩⟩ := by unfold mayP; simp
   rw [e]
   have HM := Lib.hid (mayNumber_any ⟨7, m, t, B, AA, ck, ct, L, K, ⟨cn, cq, cb⟩⟩ Ab nb zb Aa na za A n c (w.alloc (.cells #[.int .i64 7, .int .i64 m, .string t, .slice Ab nb zb, .slice Aa na za, .int .i64 ck, .string ct, .slice A n c, .int .i64 K, .string cn, .int .i64 cq, .bool cb] 33)) HW1.out.at_)
   obtain ⟨res, hres⟩ : ∃ q, numF6 ⟨7, m, t, B, AA, ck, ct, L, K, ⟨cn, cq, cb⟩⟩ = q := ⟨_, rfl⟩
   rw [hres] at HM ⊢
   clear e hres HW1 HT1 HTB1
   go_enter Tryz.func23, Tryz.ntmps23
   go_wp2_with fail
   refine HM.out.mono ?_
   rintro e w1 ⟨rfl, hb1⟩
   have HB1 := Lib.hid (HB.out.trans (hb1.out.mono HB.out.size))
   go_wp2_with fail
   go_ret
   exact ⟨rfl, HB1⟩
  ·have e : mayP ⟨8, m, t, B, AA, ck, ct, L, K, ⟨cn, cq, cb⟩⟩ T = numF6 ⟨8, m, t, B, AA, ck, ct, L, K, ⟨cn, cq, cb⟩⟩ := by unfold mayP; simp
   rw [e]
   have HM := Lib.hid (mayNumber_any ⟨8, m, t, B, AA, ck, ct, L, K, ⟨cn, cq, cb⟩⟩ Ab nb zb Aa na za A n c (w.alloc (.cells #[.int .i64 8, .int .i64 m, .string t, .slice Ab nb zb, .slice Aa na za, .int .i64 ck, .string ct, .slice A n c, .int .i64 K, .string cn, .int .i64 cq, .bool cb] 33)) HW1.out.at_)
   obtain ⟨res, hres⟩ : ∃ q, numF6 ⟨8, m, t, B, AA, ck, ct, L, K, ⟨cn, cq, cb⟩⟩ = q := ⟨_, rfl⟩
   rw [hres] at HM ⊢
   clear e hres HW1 HT1 HTB1
   go_enter Tryz.func23, Tryz.ntmps23
   go_wp2_with fail
   refine HM.out.mono ?_
   rintro e w1 ⟨rfl, hb1⟩
   have HB1 := Lib.hid (HB.out.trans (hb1.out.mono HB.out.size))
   go_wp2_with fail
   go_ret
   exact ⟨rfl, HB1⟩
  ·have e : mayP ⟨9, m, t, B, AA, ck, ct, L, K, ⟨cn, cq, cb⟩⟩ T = numF6 ⟨9, m, t, B, AA, ck, ct, L, K, ⟨cn, cq, cb⟩⟩ := by unfold mayP; simp
   rw [e]
   have HM := Lib.hid (mayNumber_any ⟨9, m, t, B, AA, ck, ct, L, K, ⟨cn, cq, cb⟩⟩ Ab nb zb Aa na za A n c (w.alloc (.cells #[.int .i64 9, .int .i64 m, .string t, .slice Ab nb zb, .slice Aa na za, .int .i64 ck, .string ct, .slice A n c, .int .i64 K, .string cn, .int .i64 cq, .bool cb] 33)) HW1.out.at_)
   obtain ⟨res, hres⟩ : ∃ q, numF6 ⟨9, m, t, B, AA, ck, ct, L, K, ⟨cn, cq, cb⟩⟩ = q := ⟨_, rfl⟩
   rw [hres] at HM ⊢
   clear e hres HW1 HT1 HTB1
   go_enter Tryz.func23, Tryz.ntmps23
   go_wp2_with fail
   refine HM.out.mono ?_
   rintro e w1 ⟨rfl, hb1⟩
   have HB1 := Lib.hid (HB.out.trans (hb1.out.mono HB.out.size))
   go_wp2_with fail
   go_ret
   exact ⟨rfl, HB1⟩
  ·have e : mayP ⟨10, m, t, B, AA, ck, ct, L, K, ⟨cn, cq, cb⟩⟩ T = numF6 ⟨10, m, t, B, AA, ck, ct, L, K, ⟨cn, cq, cb⟩⟩ := by unfold mayP; simp
   rw [e]
   have HM := Lib.hid (mayNumber_any ⟨10, m, t, B, AA, ck, ct, L, K, ⟨cn, cq, cb⟩⟩ Ab nb zb Aa na za A n c (w.alloc (.cells #[.int .i64 10, .int .i64 m, .string t, .slice Ab nb zb, .slice Aa na za, .int .i64 ck, .string ct, .slice A n c, .int .i64 K, .string cn, .int .i64 cq, .bool cb] 33)) HW1.out.at_)
   obtain ⟨res, hres⟩ : ∃ q, numF6 ⟨10, m, t, B, AA, ck, ct, L, K, ⟨cn, cq, cb⟩⟩ = q := ⟨_, rfl⟩
   rw [hres] at HM ⊢
   clear e hres HW1 HT1 HTB1
   go_enter Tryz.func23, Tryz.ntmps23
   go_wp2_with fail
   refine HM.out.mono ?_
   rintro e w1 ⟨rfl, hb1⟩
   have HB1 := Lib.hid (HB.out.trans (hb1.out.mono HB.out.size))
   go_wp2_with fail
   go_ret
   exact ⟨rfl, HB1⟩
 ·have e : mayP ⟨k, m, t, B, AA, ck, ct, L, K, ⟨cn, cq, cb⟩⟩ T = 5 := by
   unfold mayP
   rw [if_neg (by dsimp only; omega), if_neg (by dsimp only; omega), if_neg (by dsimp only; omega)]
  rw [e]
  have q1 : (k == 1) = false := by simp; omega
  have q2 : (k == 2) = false := by simp; omega
  have q3 : (k == 3) = false := by simp; omega
  have q4 : (k == 4) = false := by simp; omega
  have q5 : (k == 5) = false := by simp; omega
  have q6 : (k == 6) = false := by simp; omega
  have q7 : (k == 7) = false := by simp; omega
  have q8 : (k == 8) = false := by simp; omega
  have q9 : (k == 9) = false := by simp; omega
  have q10 : (k == 10) = false := by simp; omega
  clear e hc HW1 HT1
  go_enter Tryz.func23, Tryz.ntmps23
  go_wp2_with fail
  go_ret
  exact ⟨rfl, HB⟩
def plainF (x : Ev) : Bool := chG x.ck 0 x.ct ⟨#[]⟩ x.cl ⟨⟨#[]⟩, 0, false⟩ x.L [] x.K 0
def fitsR (x : Ev) (T : List Tb) : Bool := if x.k = 5 then (keyOk (tfL T x.t) x.B (tfK T x.t).toNat && x.B.length == (tfK T x.t).toNat) else fitsF (tfL T x.t) x.A
def mayR (x : Ev) (T : List Tb) : Int :=
 if x.k = 3 ∨ x.k = 4 ∨ x.k = 5 then
  (if plF T x.t = false then 7 else if fitsR x T = false then 9 else if (plainF x && (if x.k = 5 then x.A.length else x.B.length) == 0 && x.n == 0) = true then 0 else 1)
 else if x.k = 6 then
  (if altF x.ck x.ct x.L x.K x.cl = 0 then (if (x.n == 0 && x.t.toList.isEmpty && x.B.length == 0 && x.A.length == 0) = true then 0 else 1) else altF x.ck x.ct x.L x.K x.cl)
 else if x.k = 1 ∨ x.k = 2 ∨ x.k = 7 ∨ x.k = 8 ∨ x.k = 9 ∨ x.k = 10 then
  (if (decide (0 ≤ x.n) && x.t.toList.isEmpty && x.B.length == 0 && x.A.length == 0 && plainF x) = true then 0 else 1)
 else 5
end Go.Proofs.YtnpmgempkoeapaaGreatDoor
namespace Go.Proofs.YtnpmgempkoeapaaGreatDoor
open Go.RowKit
structure Tur (X : List Nat) (w w' : World) : Prop where
 os : w'.os = w.os
 tape : w'.tape = w.tape
 output : w'.output = w.output
 size : w.heap.size ≤ w'.heap.size
 block : ∀ k, k < w.heap.size → k ∉ X → w'.heap[k]? = w.heap[k]?
def Fre (X X' : List Nat) (w : World) : Prop := ∀ b ∈ X', b ∈ X ∨ w.heap.size ≤ b
theorem Tur.refl (X : List Nat) (w : World) : Tur X w w := ⟨rfl, rfl, rfl, Nat.le_refl _, fun _ _ _ => rfl⟩
theorem Fre.refl (X : List Nat) (w : World) : Fre X X w := fun _ h => .inl h
theorem Tur.trans {X X' : List Nat} {a b c : World} (h : Tur X a b) (k : Tur X' b c) (hf : Fre X X' a) : Tur X a c :=
 ⟨k.os.trans h.os, k.tape.trans h.tape, k.output.trans h.output, Nat.le_trans h.size k.size, fun i hi hx => (k.block i (Nat.lt_of_lt_of_le hi h.size) fun hx' => (hf i hx').elim hx (fun hh => by omega)).trans (h.block i hi hx)⟩
theorem Fre.trans {X X' X2 : List Nat} {a b : World} (h : Fre X X' a) (k : Fre X' X2 b) (hs : a.heap.size ≤ b.heap.size) : Fre X X2 a := fun i hi => (k i hi).elim (h i) fun hh => .inr (by omega)
theorem Tur.of_below {X : List Nat} {w w' : World} (h : Below w.heap.size w w') : Tur X w w' := ⟨h.os, h.tape, h.output, h.size, fun k hk _ => h.block k hk⟩
theorem Tur.below {X : List Nat} {w w' : World} {B : Nat} (h : Tur X w w') (hx : ∀ b ∈ X, B ≤ b) (hB : B ≤ w.heap.size) : Below B w w' :=
 ⟨h.os, h.tape, h.output, h.size, fun k hk => h.block k (by omega) fun hh => by have := hx k hh; omega⟩
theorem Tur.setCell {X : List Nat} (w : World) {p : Addr} (hp : p.block ∈ X) (u : Value) : Tur X w (w.setCell p u) :=
 ⟨rfl, rfl, rfl, by simp [World.setCell], fun k _ hx => Below.heap_setCell _ _ _ _ (fun e => hx (e ▸ hp))⟩
theorem Tur.alloc (X : List Nat) (w : World) (o : Obj) : Tur X w (w.alloc o) := Tur.of_below ((Below.refl _ w).alloc (Nat.le_refl _) o)
theorem Tur.drew (X : List Nat) (w : World) : Tur X w w.drew := ⟨rfl, rfl, rfl, Nat.le_refl _, fun _ _ _ => rfl⟩
theorem Tur.grown {X : List Nat} {w w' : World} {row : Option Nat} (hg : w.grownBy w' row) (hr : ∀ k, row = some k → k ∈ X) : Tur X w w' :=
 ⟨hg.os, hg.tape, hg.output, hg.size, fun k hk hx => hg.block k hk fun e => hx (hr k e.symm)⟩
theorem Has.tur {X : List Nat} {w w' : World} {g : Nat} {t : TypeId} {cs : Array Value} (h : Has w g t cs) (ht : Tur X w w') (hg : g ∉ X) : Has w' g t cs := (ht.block g h.lt hg).trans h
def Stays {α : Type} (B : Nat) (J : List α → List Nat → World → Prop) : Prop :=
 ∀ pre X W W' Z, J pre X W → Tur Z W W' → (∀ b ∈ Z, B ≤ b ∧ b ∉ X) → J pre X W'
theorem Stays.mono {α : Type} {B C : Nat} {J : List α → List Nat → World → Prop} (h : Stays B J) (hBC : B ≤ C) : Stays C J :=
 fun pre X W W' Z hj ht hz => h pre X W W' Z hj ht fun b hb => ⟨Nat.le_trans hBC (hz b hb).1, (hz b hb).2⟩
section
variable {F : Fence} {n : Nat} {P : Program}
end
end Go.Proofs.YtnpmgempkoeapaaGreatDoor
namespace Go.Proofs.YtnpmgempkoeapaaGreatDoor
open Go.RowKit Dg
set_option maxRecDepth 100000
def put12 (W : World) (g : Nat) (u0 u1 u2 u3 u4 u5 u6 u7 u8 u9 u10 u11 : Value) : World := ((((((((((((W.setCell ⟨g, 0, none⟩ u0).setCell ⟨g, 1, none⟩ u1).setCell ⟨g, 2, none⟩ u2).setCell ⟨g, 3, none⟩ u3).setCell ⟨g, 4, none⟩ u4).setCell ⟨g, 5, none⟩ u5).setCell ⟨g, 6, none⟩ u6).setCell ⟨g, 7, none⟩ u7).setCell ⟨g, 8, none⟩ u8).setCell ⟨g, 9, none⟩ u9).setCell ⟨g, 10, none⟩ u10).setCell ⟨g, 11, none⟩ u11)
theorem put12_has {W : World} {g : Nat} {t : TypeId} {a0 a1 a2 a3 a4 a5 a6 a7 a8 a9 a10 a11 : Value} (h : Has W g t #[a0, a1, a2, a3, a4, a5, a6, a7, a8, a9, a10, a11]) (u0 u1 u2 u3 u4 u5 u6 u7 u8 u9 u10 u11 : Value) : Has (put12 W g u0 u1 u2 u3 u4 u5 u6 u7 u8 u9 u10 u11) g t #[u0, u1, u2, u3, u4, u5, u6, u7, u8, u9, u10, u11] := by
 have h0 : Has (W.setCell ⟨g, 0, none⟩ u0) g t #[u0, a1, a2, a3, a4, a5, a6, a7, a8, a9, a10, a11] := h.put 0 u0
 have h1 : Has ((W.setCell ⟨g, 0, none⟩ u0).setCell ⟨g, 1, none⟩ u1) g t #[u0, u1, a2, a3, a4, a5, a6, a7, a8, a9, a10, a11] := h0.put 1 u1
 have h2 : Has (((W.setCell ⟨g, 0, none⟩ u0).setCell ⟨g, 1, none⟩ u1).setCell ⟨g, 2, none⟩ u2) g t #[u0, u1, u2, a3, a4, a5, a6, a7, a8, a9, a10, a11] := h1.put 2 u2
 have h3 : Has ((((W.setCell ⟨g, 0, none⟩ u0).setCell ⟨g, 1, none⟩ u1).setCell ⟨g, 2, none⟩ u2).setCell ⟨g, 3, none⟩ u3) g t #[u0, u1, u2, u3, a4, a5, a6, a7, a8, a9, a10, a11] := h2.put 3 u3
 have h4 : Has (((((W.setCell ⟨g, 0, none⟩ u0).setCell ⟨g, 1, none⟩ u1).setCell ⟨g, 2, none⟩ u2).setCell ⟨g, 3, none⟩ u3).setCell ⟨g, 4, none⟩ u4) g t #[u0, u1, u2, u3, u4, a5, a6, a7, a8, a9, a10, a11] := h3.put 4 u4
 have h5 : Has ((((((W.setCell ⟨g, 0, none⟩ u0).setCell ⟨g, 1, none⟩ u1).setCell ⟨g, 2, none⟩ u2).setCell ⟨g, 3, none⟩ u3).setCell ⟨g, 4, none⟩ u4).setCell ⟨g, 5, none⟩ u5) g t #[u0, u1, u2, u3, u4, u5, a6, a7, a8, a9, a10, a11] := h4.put 5 u5
 have h6 : Has (((((((W.setCell ⟨g, 0, none⟩ u0).setCell ⟨g, 1, none⟩ u1).setCell ⟨g, 2, none⟩ u2).setCell ⟨g, 3, none⟩ u3).setCell ⟨g, 4, none⟩ u4).setCell ⟨g, 5, none⟩ u5).setCell ⟨g, 6, none⟩ u6) g t #[u0, u1, u2, u3, u4, u5, u6, a7, a8, a9, a10, a11] := h5.put 6 u6
 have h7 : Has ((((((((W.setCell ⟨g, 0, none⟩ u0).setCell ⟨g, 1, none⟩ u1).setCell ⟨g, 2, none⟩ u2).setCell ⟨g, 3, none⟩ u3).setCell ⟨g, 4, none⟩ u4).setCell ⟨g, 5, none⟩ u5).setCell ⟨g, 6, none⟩ u6).setCell ⟨g, 7, none⟩ u7) g t #[u0, u1, u2, u3, u4, u5, u6, u7, a8, a9, a10, a11] := h6.put 7 u7
 have h8 : Has (((((((((W.setCell ⟨g, 0, none⟩ u0).setCell ⟨g, 1, none⟩ u1).setCell ⟨g, 2, none⟩ u2).setCell ⟨g, 3, none⟩ u3).setCell ⟨g, 4, none⟩ u4).setCell ⟨g, 5, none⟩ u5).setCell ⟨g, 6, none⟩ u6).setCell ⟨g, 7, none⟩ u7).setCell ⟨g, 8, none⟩ u8) g t #[u0, u1, u2, u3, u4, u5, u6, u7, u8, a9, a10, a11] := h7.put 8 u8
 have h9 : Has ((((((((((W.setCell ⟨g, 0, none⟩ u0).setCell ⟨g, 1, none⟩ u1).setCell ⟨g, 2, none⟩ u2).setCell ⟨g, 3, none⟩ u3).setCell ⟨g, 4, none⟩ u4).setCell ⟨g, 5, none⟩ u5).setCell ⟨g, 6, none⟩ u6).setCell ⟨g, 7, none⟩ u7).setCell ⟨g, 8, none⟩ u8).setCell ⟨g, 9, none⟩ u9) g t #[u0, u1, u2, u3, u4, u5, u6, u7, u8, u9, a10, a11] := h8.put 9 u9
 have h10 : Has (((((((((((W.setCell ⟨g, 0, none⟩ u0).setCell ⟨g, 1, none⟩ u1).setCell ⟨g, 2, none⟩ u2).setCell ⟨g, 3, none⟩ u3).setCell ⟨g, 4, none⟩ u4).setCell ⟨g, 5, none⟩ u5).setCell ⟨g, 6, none⟩ u6).setCell ⟨g, 7, none⟩ u7).setCell ⟨g, 8, none⟩ u8).setCell ⟨g, 9, none⟩ u9).setCell ⟨g, 10, none⟩ u10) g t #[u0, u1, u2, u3, u4, u5, u6, u7, u8, u9, u10, a11] := h9.put 10 u10
 have h11 : Has ((((((((((((W.setCell ⟨g, 0, none⟩ u0).setCell ⟨g, 1, none⟩ u1).setCell ⟨g, 2, none⟩ u2).setCell ⟨g, 3, none⟩ u3).setCell ⟨g, 4, none⟩ u4).setCell ⟨g, 5, none⟩ u5).setCell ⟨g, 6, none⟩ u6).setCell ⟨g, 7, none⟩ u7).setCell ⟨g, 8, none⟩ u8).setCell ⟨g, 9, none⟩ u9).setCell ⟨g, 10, none⟩ u10).setCell ⟨g, 11, none⟩ u11) g t #[u0, u1, u2, u3, u4, u5, u6, u7, u8, u9, u10, u11] := h10.put 11 u11
 exact h11
theorem put12_tur (W : World) (g : Nat) (u0 u1 u2 u3 u4 u5 u6 u7 u8 u9 u10 u11 : Value) : Tur [g] W (put12 W g u0 u1 u2 u3 u4 u5 u6 u7 u8 u9 u10 u11) := ((((((((((((Tur.refl [g] W).trans (Tur.setCell _ (p := ⟨g, 0, none⟩) (by simp) u0) (Fre.refl _ _)).trans (Tur.setCell _ (p := ⟨g, 1, none⟩) (by simp) u1) (Fre.refl _ _)).trans (Tur.setCell _ (p := ⟨g, 2, none⟩) (by simp) u2) (Fre.refl _ _)).trans (Tur.setCell _ (p := ⟨g, 3, none⟩) (by simp) u3) (Fre.refl _ _)).trans (Tur.setCell _ (p := ⟨g, 4, none⟩) (by simp) u4) (Fre.refl _ _)).trans (Tur.setCell _ (p := ⟨g, 5, none⟩) (by simp) u5) (Fre.refl _ _)).trans (Tur.setCell _ (p := ⟨g, 6, none⟩) (by simp) u6) (Fre.refl _ _)).trans (Tur.setCell _ (p := ⟨g, 7, none⟩) (by simp) u7) (Fre.refl _ _)).trans (Tur.setCell _ (p := ⟨g, 8, none⟩) (by simp) u8) (Fre.refl _ _)).trans (Tur.setCell _ (p := ⟨g, 9, none⟩) (by simp) u9) (Fre.refl _ _)).trans (Tur.setCell _ (p := ⟨g, 10, none⟩) (by simp) u10) (Fre.refl _ _)).trans (Tur.setCell _ (p := ⟨g, 11, none⟩) (by simp) u11) (Fre.refl _ _)
theorem VRow.tur {X : List Nat} {w w' : World} {A : Option Addr} {L : List Vl} (h : VRow w A L) (ht : Tur X w w') (ho : ∀ a, A = some a → a.block ∉ X) : VRow w' A L := fun hne => by
 obtain ⟨b, off, e, hc⟩ := h hne
 have hb := ho _ e
 have k : ∀ (i : Nat) (v : Value), w.cell? ⟨b, i, none⟩ = some v → w'.cell? ⟨b, i, none⟩ = some v := fun i v h => (World.cell?_of_block (ht.block b (World.block_lt_of_cell? w _ h) hb)).trans h
 exact ⟨b, off, e, fun i hi => ⟨k _ _ (hc i hi).1, k _ _ (hc i hi).2.1, k _ _ (hc i hi).2.2⟩⟩
theorem evEnd (w' : World) (g : Nat) (u0 u1 u2 u3 u4 u5 u6 u7 u8 u9 u10 u11 : Value) (tmps : Array Value) (hp : tmps.getD 4 undef = .pointer (some ⟨g, 0, none⟩)) (hh : Has w' g 33 #[u0, u1, u2, u3, u4, u5, u6, u7, u8, u9, u10, u11]) :
 (results Tryz.f7 tmps).run Tryz.prog w' = .ok (.agg #[u0, u1, u2, u3, u4, u5, u6, u7, u8, u9, u10, u11]) w' :=
 results_cell_row rfl _ _ g 33 #[u0, u1, u2, u3, u4, u5, u6, u7, u8, u9, u10, u11] (0, 0) _ hp hh Tryz.underlying33 rfl (by kernel_rfl)
theorem ownV_blk {B : Nat} {w : World} {v : Value} {L : List Vl} (h : OwnV B w v L) : ∃ A n c, v = .slice A n c ∧ Hid (L.length = n) ∧ n ≤ c ∧ c ≤ maxLen ∧ Hid (VRow w A L) ∧ Hid (∀ a, A = some a → B ≤ a.block ∧ a.block < w.heap.size) ∧ Hid (A = none ∨ ∃ b off, A = some ⟨b, off, none⟩) := by
 rcases h.2 with ⟨hv, hn⟩ | ⟨g, cap, cur, hv, hg, hh, hc, hcm, hsz, ht⟩
 ·obtain rfl := List.eq_nil_of_length_eq_zero hn
  exact ⟨none, 0, 0, hv, rfl, Nat.le_refl _, Nat.zero_le _, (fun h => absurd rfl h), (fun a e => by cases e), .inl rfl⟩
 ·obtain ⟨A, c, e, h1, h2, h3, h4⟩ := ownV_row h
  rw [hv] at e
  injection e with e1 e2 e3
  subst e1 e3
  exact ⟨_, _, _, hv, rfl, hc, hcm, h3, (fun a e => by injection e with e; subst e; exact ⟨hg, Has.lt (t := 87) (cs := cur) hh⟩), .inr ⟨g, 0, rfl⟩⟩
theorem keepW3 {w W : World} {a : Addr} {v : Value} (hb : Below w.heap.size w W) (h : w.cell? a = some v) : W.cell? a = some v := (hb.cell (World.block_lt_of_cell? _ _ h)).trans h
structure Sv (w W : World) (g q : Nat) (e : Array Value) (s0 s1 : Value) (o : Array Value) : Prop where
 he : Has W w.heap.size 33 e
 hr : Has W (w.heap.size + 1) 33 #[.int .i64 0, .int .i64 0, .string ⟨#[]⟩, .slice none 0 0, .slice none 0 0, .int .i64 0, .string ⟨#[]⟩, .slice none 0 0, .int .i64 0, .string ⟨#[]⟩, .int .i64 0, .bool false]
 hs : Has W g 27 #[s0, s1]
 ho : Has W q 33 o
 bel : Below w.heap.size w W
 lo : w.heap.size + 1 < g ∧ g < q
theorem Sv.below {w W W' : World} {g q : Nat} {e : Array Value} {s0 s1 : Value} {o : Array Value} (h : Sv w W g q e s0 s1 o) (hb : Below W.heap.size W W') : Sv w W' g q e s0 s1 o :=
 ⟨h.he.below hb h.he.lt, h.hr.below hb h.hr.lt, h.hs.below hb h.hs.lt, h.ho.below hb h.ho.lt, h.bel.trans (hb.mono h.bel.size), h.lo⟩
theorem Sv.put {w W : World} {g q : Nat} {e : Array Value} {s0 s1 : Value} {o : Array Value} (h : Sv w W g q e s0 s1 o) (j : Nat) (u : Value) : Sv w (W.setCell ⟨q, j, none⟩ u) g q e s0 s1 (o.setIfInBounds j u) :=
 ⟨h.he.far (p := ⟨q, j, none⟩) (by have := h.lo; show w.heap.size ≠ q; omega) u, h.hr.far (p := ⟨q, j, none⟩) (by have := h.lo; show w.heap.size + 1 ≠ q; omega) u, h.hs.far (p := ⟨q, j, none⟩) (by have := h.lo; show g ≠ q; omega) u, h.ho.put j u, h.bel.setCell (p := ⟨q, j, none⟩) (by have := h.lo; show w.heap.size ≤ q; omega) u, h.lo⟩
theorem Sv.put12 {w W : World} {g q : Nat} {e : Array Value} {s0 s1 : Value} {a0 a1 a2 a3 a4 a5 a6 a7 a8 a9 a10 a11 : Value} (h : Sv w W g q e s0 s1 #[a0, a1, a2, a3, a4, a5, a6, a7, a8, a9, a10, a11]) (u0 u1 u2 u3 u4 u5 u6 u7 u8 u9 u10 u11 : Value) : Sv w (put12 W q u0 u1 u2 u3 u4 u5 u6 u7 u8 u9 u10 u11) g q e s0 s1 #[u0, u1, u2, u3, u4, u5, u6, u7, u8, u9, u10, u11] := by
 have ht := put12_tur W q u0 u1 u2 u3 u4 u5 u6 u7 u8 u9 u10 u11
 have hl := h.lo
 exact ⟨h.he.tur ht (by simp; omega), h.hr.tur ht (by simp; omega), h.hs.tur ht (by simp; omega), put12_has h.ho _ _ _ _ _ _ _ _ _ _ _ _, (Tur.of_below (X := [q]) h.bel).trans ht (Fre.refl _ _) |>.below (B := w.heap.size) (fun k hk => by simp at hk; omega) (Nat.le_refl _), hl⟩
structure Su (w W : World) (g : Nat) (e : Array Value) (s0 s1 : Value) : Prop where
 he : Has W w.heap.size 33 e
 hr : Has W (w.heap.size + 1) 33 #[.int .i64 0, .int .i64 0, .string ⟨#[]⟩, .slice none 0 0, .slice none 0 0, .int .i64 0, .string ⟨#[]⟩, .slice none 0 0, .int .i64 0, .string ⟨#[]⟩, .int .i64 0, .bool false]
 hs : Has W g 27 #[s0, s1]
 bel : Below w.heap.size w W
 lo : w.heap.size + 1 < g
theorem Su.out {w W : World} {g : Nat} {e : Array Value} {s0 s1 : Value} (h : Su w W g e s0 s1) (o : Array Value) : Sv w (W.alloc (.cells o 33)) g W.heap.size e s0 s1 o :=
 ⟨h.he.alloc _, h.hr.alloc _, h.hs.alloc _, Has.new _ _ _, h.bel.alloc h.bel.size _, ⟨h.lo, h.hs.lt⟩⟩
theorem Su.pute {w W : World} {g : Nat} {e : Array Value} {s0 s1 : Value} (h : Su w W g e s0 s1) (j : Nat) (u : Value) : Su w (W.setCell ⟨w.heap.size, j, none⟩ u) g (e.setIfInBounds j u) s0 s1 :=
 ⟨h.he.put j u, h.hr.far (p := ⟨w.heap.size, j, none⟩) (by show w.heap.size + 1 ≠ w.heap.size; omega) u, h.hs.far (p := ⟨w.heap.size, j, none⟩) (by have := h.lo; show g ≠ w.heap.size; omega) u, h.bel.setCell (p := ⟨w.heap.size, j, none⟩) (Nat.le_refl _) u, h.lo⟩
theorem Su.puts {w W : World} {g : Nat} {e : Array Value} {s0 s1 : Value} (h : Su w W g e s0 s1) (u0 u1 : Value) : Su w ((W.setCell ⟨g, 0, none⟩ u0).setCell ⟨g, 1, none⟩ u1) g e u0 u1 :=
 ⟨(h.he.far (p := ⟨g, 0, none⟩) (by have := h.lo; show w.heap.size ≠ g; omega) u0).far (p := ⟨g, 1, none⟩) (by have := h.lo; show w.heap.size ≠ g; omega) u1, (h.hr.far (p := ⟨g, 0, none⟩) (by have := h.lo; show w.heap.size + 1 ≠ g; omega) u0).far (p := ⟨g, 1, none⟩) (by have := h.lo; show w.heap.size + 1 ≠ g; omega) u1, (h.hs.put 0 u0).put 1 u1, (h.bel.setCell (p := ⟨g, 0, none⟩) (by have := h.lo; show w.heap.size ≤ g; omega) u0).setCell (p := ⟨g, 1, none⟩) (by have := h.lo; show w.heap.size ≤ g; omega) u1, h.lo⟩
theorem evw_row {P : World} (k n : Int) (t : ByteArray) (Bl Al : List Vl) (Ab : Option Addr) (nb zb : Nat) (Aa : Option Addr) (na za : Nat) (hB : Bl.length = nb ∧ nb ≤ zb ∧ VRow P Ab Bl ∧ ∀ y ∈ Bl, y.fit) (hA : Al.length = na ∧ na ≤ za ∧ VRow P Aa Al ∧ ∀ y ∈ Al, y.fit) (h1 : (nb : Int) ≤ 9223372036854775807) (h2 : (na : Int) ≤ 9223372036854775807) :
 EvW P ⟨k, n, t, Bl, Al, 0, ⟨#[]⟩, [], 0, ⟨⟨#[]⟩, 0, false⟩⟩ Ab nb zb Aa na za none 0 0 :=
 ⟨⟨_, _, _, _, _, _, _, _, _, rfl, ⟨hB.1, h1, hB.2.2.1⟩, ⟨hA.1, h2, hA.2.2.1⟩, rfl, by omega, fun h => absurd rfl h⟩, hB, hA, h1, h2, ⟨rfl, by omega, (fun h => absurd rfl h), (fun y hy => by cases hy)⟩, by show (0 : Nat) ≤ _; omega, ⟨by show (0 : Nat) ≤ _; omega, by show _ ≤ (0 : Int); omega, by show (0 : Int) ≤ _; omega⟩⟩
theorem nilB (P : World) : ([] : List Vl).length = 0 ∧ 0 ≤ 0 ∧ VRow P none [] ∧ ∀ y ∈ ([] : List Vl), y.fit := ⟨rfl, Nat.le_refl _, (fun h => absurd rfl h), (fun y hy => by cases hy)⟩
theorem evw_chg {P : World} (ck : Int) (ct : ByteArray) (A : Option Addr) (n c : Nat) (L : List Cl) (K : Int) (cl : Cl) (hl : L.length = n ∧ n ≤ 4398046511104 ∧ CRow P A L ∧ ∀ y ∈ L, y.fit) (hct : ct.size ≤ 140737488355328) (hcl : cl.fit) :
 EvW P ⟨6, 0, ⟨#[]⟩, [], [], ck, ct, L, K, cl⟩ none 0 0 none 0 0 A n c :=
 ⟨⟨_, _, _, _, _, _, _, _, _, rfl, ⟨rfl, by omega, fun h => absurd rfl h⟩, ⟨rfl, by omega, fun h => absurd rfl h⟩, hl.1, hl.2.1, hl.2.2.1⟩, nilB P, nilB P, by omega, by omega, hl, hct, hcl⟩
theorem rowF_small (M : List Cl) (R : List Vl) : ∀ x ∈ rowF M R, x.s.size ≤ 1000 := fun x hx => by
 obtain ⟨i, hi, rfl⟩ := List.getElem_of_mem hx
 have hi2 : i < M.length := by rw [rowF_len] at hi; exact hi
 rw [rowF_get M R i hi2]
 unfold rowOf
 split
 ·exact Nat.zero_le _
 ·exact Nat.le_trans (good_size _) (by omega)
def SmallE (f : Ev) : Prop := (∀ y ∈ f.B, y.s.size ≤ 1000 ∧ y.fits) ∧ (∀ y ∈ f.A, y.s.size ≤ 1000 ∧ y.fits) ∧ f.n ≤ 9223372036854775807
theorem small_no {k n : Int} {t ct : ByteArray} {ck : Int} {L : List Cl} {K : Int} {q : Cl} (h : n ≤ 9223372036854775807) : SmallE ⟨k, n, t, [], [], ck, ct, L, K, q⟩ :=
 ⟨(fun y hy => by cases hy), (fun y hy => by cases hy), h⟩
theorem small_a {k : Int} {t : ByteArray} {M : List Cl} {R : List Vl} (hM : ∀ c ∈ M, 1 ≤ c.k ∧ c.k ≤ 4) (hR : ∀ v ∈ R, v.fits) : SmallE ⟨k, 0, t, [], rowF M R, 0, ⟨#[]⟩, [], 0, ⟨⟨#[]⟩, 0, false⟩⟩ :=
 ⟨(fun y hy => by cases hy), fun y hy => ⟨rowF_small M R y hy, rowF_fit M R hM hR y hy⟩, (by show (0 : Int) ≤ _; omega)⟩
theorem small_b {k : Int} {t : ByteArray} {M : List Cl} {R : List Vl} (j : Nat) (hM : ∀ c ∈ M, 1 ≤ c.k ∧ c.k ≤ 4) (hR : ∀ v ∈ R, v.fits) : SmallE ⟨k, 0, t, (rowF M R).take j, [], 0, ⟨#[]⟩, [], 0, ⟨⟨#[]⟩, 0, false⟩⟩ :=
 ⟨fun y hy => ⟨rowF_small M R y (List.mem_of_mem_take hy), rowF_fit M R hM hR y (List.mem_of_mem_take hy)⟩, (fun y hy => by cases hy), (by show (0 : Int) ≤ _; omega)⟩
def EvOut (w : World) (e : Ending) (w' : World) : Prop := ∃ f Ab' nb' zb' Aa' na' za' A' n' c', e = .returned (.agg #[.int .i64 f.k, .int .i64 f.n, .string f.t, .slice Ab' nb' zb', .slice Aa' na' za', .int .i64 f.ck, .string f.ct, .slice A' n' c', .int .i64 f.K, .string f.cl.nm, .int .i64 f.cl.k, .bool f.cl.no]) ∧ Hid (EvW w' f Ab' nb' zb' Aa' na' za' A' n' c') ∧ Hid (Below w.heap.size w w') ∧ Hid (SmallE f)
end Go.Proofs.YtnpmgempkoeapaaGreatDoor
