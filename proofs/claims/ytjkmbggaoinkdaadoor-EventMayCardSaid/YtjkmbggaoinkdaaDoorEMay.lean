/-
  The program's May of events.
-/
import Derived.Test.YtjkmbggaoinkdaaDoorMAlt
namespace Go.Proofs.YtjkmbggaoinkdaaDoor
open Go.RowKit Dg
set_option linter.unusedVariables false
set_option maxRecDepth 100000
/-- An event as it lies, with what is known of it. -/
structure EvW (w : World) (x : Ev) (Ab : Option Addr) (nb zb : Nat) (Aa : Option Addr) (na za : Nat) (A : Option Addr) (n c : Nat) : Prop where
  at_ : EvAt w (.agg #[.int .i64 x.k, .int .i64 x.n, .string x.t, .slice Ab nb zb, .slice Aa na za, .int .i64 x.ck, .string x.ct, .slice A n c, .int .i64 x.K, .string x.cl.nm, .int .i64 x.cl.k, .bool x.cl.no]) x
  b : x.B.length = nb ∧ nb ≤ zb ∧ VRow w Ab x.B ∧ ∀ y ∈ x.B, y.fit
  a : x.A.length = na ∧ na ≤ za ∧ VRow w Aa x.A ∧ ∀ y ∈ x.A, y.fit
  nb63 : (nb : Int) ≤ 9223372036854775807
  na63 : (na : Int) ≤ 9223372036854775807
  l : x.L.length = n ∧ n ≤ 1000 ∧ CRow w A x.L ∧ ∀ y ∈ x.L, y.fit
  ct : x.ct.size ≤ 140737488355328
  cl : x.cl.fit
theorem EvW.below {w w' : World} {x : Ev} {Ab : Option Addr} {nb zb : Nat} {Aa : Option Addr} {na za : Nat} {A : Option Addr} {n c : Nat} (h : EvW w x Ab nb zb Aa na za A n c) (hb : Below w.heap.size w w') : EvW w' x Ab nb zb Aa na za A n c :=
  ⟨h.at_.below hb, ⟨h.b.1, h.b.2.1, h.b.2.2.1.below hb, h.b.2.2.2⟩, ⟨h.a.1, h.a.2.1, h.a.2.2.1.below hb, h.a.2.2.2⟩, h.nb63, h.na63, ⟨h.l.1, h.l.2.1, h.l.2.2.1.below hb, h.l.2.2.2⟩, h.ct, h.cl⟩
/-- Tables in order, as they lie. -/
structure TbW (w : World) (At : Option Addr) (nt ct : Nat) (T : List Tb) : Prop where
  len : T.length = nt
  few : nt ≤ 1000
  row : TRow w At T
  ok : TOks w T
  sort : SortT T
  good : ∀ y ∈ T, ∃ k : Nat, y.K = (k : Int) ∧ k ≤ y.L.length ∧ k ≤ 4
theorem TbW.below {w w' : World} {At : Option Addr} {nt ct : Nat} {T : List Tb} (h : TbW w At nt ct T) (hb : Below w.heap.size w w') : TbW w' At nt ct T :=
  ⟨h.len, h.few, h.row.below hb, h.ok.below hb, h.sort, h.good⟩
/-- May an event be, as the program tells it? -/
def mayP (x : Ev) (T : List Tb) : Int :=
  if x.k = 1 ∨ x.k = 2 ∨ x.k = 7 ∨ x.k = 8 ∨ x.k = 9 ∨ x.k = 10 then numF6 x
  else if x.k = 3 ∨ x.k = 4 ∨ x.k = 5 then rowG6 x T
  else if x.k = 6 then altP x else 5
set_option maxHeartbeats 8000000 in
theorem emay_any (x : Ev) (Ab : Option Addr) (nb zb : Nat) (Aa : Option Addr) (na za : Nat) (A : Option Addr) (n c : Nat) (At : Option Addr) (nt ctt : Nat) (T : List Tb) (w : World) (h : EvW w x Ab nb zb Aa na za A n c) (hT : TbW w At nt ctt T) (hTb : Tabs w) :
    Calls Tryd.prog 9 #[.agg #[.int .i64 x.k, .int .i64 x.n, .string x.t, .slice Ab nb zb, .slice Aa na za, .int .i64 x.ck, .string x.ct, .slice A n c, .int .i64 x.K, .string x.cl.nm, .int .i64 x.cl.k, .bool x.cl.no], .slice At nt ctt] w fun e w' => e = .returned (.int .i64 (mayP x T)) ∧ Hid (Below w.heap.size w w') := by
  have HW := Lib.hid h
  have HTW := Lib.hid hT
  have HTB := Lib.hid hTb
  clear h hT hTb
  have hb0 : Below w.heap.size w (w.alloc (.cells #[.int .i64 x.k, .int .i64 x.n, .string x.t, .slice Ab nb zb, .slice Aa na za, .int .i64 x.ck, .string x.ct, .slice A n c, .int .i64 x.K, .string x.cl.nm, .int .i64 x.cl.k, .bool x.cl.no] 33)) := (Below.refl w.heap.size w).alloc (Nat.le_refl _) _
  have HB := Lib.hid hb0
  have HW1 := Lib.hid (HW.out.below hb0)
  have HT1 := Lib.hid (HTW.out.below hb0)
  have HTB1 := Lib.hid (HTB.out.below hb0)
  clear hb0 HW HTW HTB
  obtain ⟨k, m, t, B, AA, ck, ct, L, K, ⟨cn, cq, cb⟩⟩ := x
  by_cases hc : k = 1 ∨ k = 2 ∨ k = 3 ∨ k = 4 ∨ k = 5 ∨ k = 6 ∨ k = 7 ∨ k = 8 ∨ k = 9 ∨ k = 10
  · rcases hc with rfl | rfl | rfl | rfl | rfl | rfl | rfl | rfl | rfl | rfl
    · have e : mayP ⟨1, m, t, B, AA, ck, ct, L, K, ⟨cn, cq, cb⟩⟩ T = numF6 ⟨1, m, t, B, AA, ck, ct, L, K, ⟨cn, cq, cb⟩⟩ := by unfold mayP; simp
      rw [e]
      have HM := Lib.hid (mayNumber_any ⟨1, m, t, B, AA, ck, ct, L, K, ⟨cn, cq, cb⟩⟩ Ab nb zb Aa na za A n c (w.alloc (.cells #[.int .i64 1, .int .i64 m, .string t, .slice Ab nb zb, .slice Aa na za, .int .i64 ck, .string ct, .slice A n c, .int .i64 K, .string cn, .int .i64 cq, .bool cb] 33)) HW1.out.at_)
      obtain ⟨res, hres⟩ : ∃ q, numF6 ⟨1, m, t, B, AA, ck, ct, L, K, ⟨cn, cq, cb⟩⟩ = q := ⟨_, rfl⟩
      rw [hres] at HM ⊢
      clear e hres HW1 HT1 HTB1
      go_enter Tryd.func9, Tryd.ntmps9
      go_wp2_with fail
      refine HM.out.mono ?_
      rintro e w1 ⟨rfl, hb1⟩
      have HB1 := Lib.hid (HB.out.trans (hb1.out.mono HB.out.size))
      go_wp2_with fail
      go_ret
      exact ⟨rfl, HB1⟩
    · have e : mayP ⟨2, m, t, B, AA, ck, ct, L, K, ⟨cn, cq, cb⟩⟩ T = numF6 ⟨2, m, t, B, AA, ck, ct, L, K, ⟨cn, cq, cb⟩⟩ := by unfold mayP; simp
      rw [e]
      have HM := Lib.hid (mayNumber_any ⟨2, m, t, B, AA, ck, ct, L, K, ⟨cn, cq, cb⟩⟩ Ab nb zb Aa na za A n c (w.alloc (.cells #[.int .i64 2, .int .i64 m, .string t, .slice Ab nb zb, .slice Aa na za, .int .i64 ck, .string ct, .slice A n c, .int .i64 K, .string cn, .int .i64 cq, .bool cb] 33)) HW1.out.at_)
      obtain ⟨res, hres⟩ : ∃ q, numF6 ⟨2, m, t, B, AA, ck, ct, L, K, ⟨cn, cq, cb⟩⟩ = q := ⟨_, rfl⟩
      rw [hres] at HM ⊢
      clear e hres HW1 HT1 HTB1
      go_enter Tryd.func9, Tryd.ntmps9
      go_wp2_with fail
      refine HM.out.mono ?_
      rintro e w1 ⟨rfl, hb1⟩
      have HB1 := Lib.hid (HB.out.trans (hb1.out.mono HB.out.size))
      go_wp2_with fail
      go_ret
      exact ⟨rfl, HB1⟩
    · have e : mayP ⟨3, m, t, B, AA, ck, ct, L, K, ⟨cn, cq, cb⟩⟩ T = rowG6 ⟨3, m, t, B, AA, ck, ct, L, K, ⟨cn, cq, cb⟩⟩ T := by unfold mayP; simp
      rw [e]
      have HM := Lib.hid (mayRow3_any ⟨3, m, t, B, AA, ck, ct, L, K, ⟨cn, cq, cb⟩⟩ Ab nb zb Aa na za A n c At nt ctt T (w.alloc (.cells #[.int .i64 3, .int .i64 m, .string t, .slice Ab nb zb, .slice Aa na za, .int .i64 ck, .string ct, .slice A n c, .int .i64 K, .string cn, .int .i64 cq, .bool cb] 33)) HW1.out.at_ rfl HW1.out.a HT1.out.len HT1.out.few HT1.out.row HT1.out.ok HT1.out.sort HT1.out.good HTB1.out HW1.out.na63)
      obtain ⟨res, hres⟩ : ∃ q, rowG6 ⟨3, m, t, B, AA, ck, ct, L, K, ⟨cn, cq, cb⟩⟩ T = q := ⟨_, rfl⟩
      rw [hres] at HM ⊢
      clear e hres HW1 HT1 HTB1
      go_enter Tryd.func9, Tryd.ntmps9
      go_wp2_with fail
      refine HM.out.mono ?_
      rintro e w1 ⟨rfl, hb1⟩
      have HB1 := Lib.hid (HB.out.trans (hb1.out.mono HB.out.size))
      go_wp2_with fail
      go_ret
      exact ⟨rfl, HB1⟩
    · have e : mayP ⟨4, m, t, B, AA, ck, ct, L, K, ⟨cn, cq, cb⟩⟩ T = rowG6 ⟨4, m, t, B, AA, ck, ct, L, K, ⟨cn, cq, cb⟩⟩ T := by unfold mayP; simp
      rw [e]
      have HM := Lib.hid (mayRow4_any ⟨4, m, t, B, AA, ck, ct, L, K, ⟨cn, cq, cb⟩⟩ Ab nb zb Aa na za A n c At nt ctt T (w.alloc (.cells #[.int .i64 4, .int .i64 m, .string t, .slice Ab nb zb, .slice Aa na za, .int .i64 ck, .string ct, .slice A n c, .int .i64 K, .string cn, .int .i64 cq, .bool cb] 33)) HW1.out.at_ rfl HW1.out.a HT1.out.len HT1.out.few HT1.out.row HT1.out.ok HT1.out.sort HT1.out.good HTB1.out HW1.out.na63)
      obtain ⟨res, hres⟩ : ∃ q, rowG6 ⟨4, m, t, B, AA, ck, ct, L, K, ⟨cn, cq, cb⟩⟩ T = q := ⟨_, rfl⟩
      rw [hres] at HM ⊢
      clear e hres HW1 HT1 HTB1
      go_enter Tryd.func9, Tryd.ntmps9
      go_wp2_with fail
      refine HM.out.mono ?_
      rintro e w1 ⟨rfl, hb1⟩
      have HB1 := Lib.hid (HB.out.trans (hb1.out.mono HB.out.size))
      go_wp2_with fail
      go_ret
      exact ⟨rfl, HB1⟩
    · have e : mayP ⟨5, m, t, B, AA, ck, ct, L, K, ⟨cn, cq, cb⟩⟩ T = rowG6 ⟨5, m, t, B, AA, ck, ct, L, K, ⟨cn, cq, cb⟩⟩ T := by unfold mayP; simp
      rw [e]
      have HM := Lib.hid (mayRow5_any ⟨5, m, t, B, AA, ck, ct, L, K, ⟨cn, cq, cb⟩⟩ Ab nb zb Aa na za A n c At nt ctt T (w.alloc (.cells #[.int .i64 5, .int .i64 m, .string t, .slice Ab nb zb, .slice Aa na za, .int .i64 ck, .string ct, .slice A n c, .int .i64 K, .string cn, .int .i64 cq, .bool cb] 33)) HW1.out.at_ rfl HW1.out.b HT1.out.len HT1.out.few HT1.out.row HT1.out.ok HT1.out.sort HT1.out.good HTB1.out HW1.out.nb63)
      obtain ⟨res, hres⟩ : ∃ q, rowG6 ⟨5, m, t, B, AA, ck, ct, L, K, ⟨cn, cq, cb⟩⟩ T = q := ⟨_, rfl⟩
      rw [hres] at HM ⊢
      clear e hres HW1 HT1 HTB1
      go_enter Tryd.func9, Tryd.ntmps9
      go_wp2_with fail
      refine HM.out.mono ?_
      rintro e w1 ⟨rfl, hb1⟩
      have HB1 := Lib.hid (HB.out.trans (hb1.out.mono HB.out.size))
      go_wp2_with fail
      go_ret
      exact ⟨rfl, HB1⟩
    · have e : mayP ⟨6, m, t, B, AA, ck, ct, L, K, ⟨cn, cq, cb⟩⟩ T = altP ⟨6, m, t, B, AA, ck, ct, L, K, ⟨cn, cq, cb⟩⟩ := by unfold mayP; simp
      rw [e]
      have HM := Lib.hid (mayAlter_any ⟨6, m, t, B, AA, ck, ct, L, K, ⟨cn, cq, cb⟩⟩ Ab nb zb Aa na za A n c (w.alloc (.cells #[.int .i64 6, .int .i64 m, .string t, .slice Ab nb zb, .slice Aa na za, .int .i64 ck, .string ct, .slice A n c, .int .i64 K, .string cn, .int .i64 cq, .bool cb] 33)) HW1.out.at_ HW1.out.l HW1.out.ct HW1.out.cl)
      obtain ⟨res, hres⟩ : ∃ q, altP ⟨6, m, t, B, AA, ck, ct, L, K, ⟨cn, cq, cb⟩⟩ = q := ⟨_, rfl⟩
      rw [hres] at HM ⊢
      clear e hres HW1 HT1 HTB1
      go_enter Tryd.func9, Tryd.ntmps9
      go_wp2_with fail
      refine HM.out.mono ?_
      rintro e w1 ⟨rfl, hb1⟩
      have HB1 := Lib.hid (HB.out.trans (hb1.out.mono HB.out.size))
      go_wp2_with fail
      go_ret
      exact ⟨rfl, HB1⟩
    · have e : mayP ⟨7, m, t, B, AA, ck, ct, L, K, ⟨cn, cq, cb⟩⟩ T = numF6 ⟨7, m, t, B, AA, ck, ct, L, K, ⟨cn, cq, cb⟩⟩ := by unfold mayP; simp
      rw [e]
      have HM := Lib.hid (mayNumber_any ⟨7, m, t, B, AA, ck, ct, L, K, ⟨cn, cq, cb⟩⟩ Ab nb zb Aa na za A n c (w.alloc (.cells #[.int .i64 7, .int .i64 m, .string t, .slice Ab nb zb, .slice Aa na za, .int .i64 ck, .string ct, .slice A n c, .int .i64 K, .string cn, .int .i64 cq, .bool cb] 33)) HW1.out.at_)
      obtain ⟨res, hres⟩ : ∃ q, numF6 ⟨7, m, t, B, AA, ck, ct, L, K, ⟨cn, cq, cb⟩⟩ = q := ⟨_, rfl⟩
      rw [hres] at HM ⊢
      clear e hres HW1 HT1 HTB1
      go_enter Tryd.func9, Tryd.ntmps9
      go_wp2_with fail
      refine HM.out.mono ?_
      rintro e w1 ⟨rfl, hb1⟩
      have HB1 := Lib.hid (HB.out.trans (hb1.out.mono HB.out.size))
      go_wp2_with fail
      go_ret
      exact ⟨rfl, HB1⟩
    · have e : mayP ⟨8, m, t, B, AA, ck, ct, L, K, ⟨cn, cq, cb⟩⟩ T = numF6 ⟨8, m, t, B, AA, ck, ct, L, K, ⟨cn, cq, cb⟩⟩ := by unfold mayP; simp
      rw [e]
      have HM := Lib.hid (mayNumber_any ⟨8, m, t, B, AA, ck, ct, L, K, ⟨cn, cq, cb⟩⟩ Ab nb zb Aa na za A n c (w.alloc (.cells #[.int .i64 8, .int .i64 m, .string t, .slice Ab nb zb, .slice Aa na za, .int .i64 ck, .string ct, .slice A n c, .int .i64 K, .string cn, .int .i64 cq, .bool cb] 33)) HW1.out.at_)
      obtain ⟨res, hres⟩ : ∃ q, numF6 ⟨8, m, t, B, AA, ck, ct, L, K, ⟨cn, cq, cb⟩⟩ = q := ⟨_, rfl⟩
      rw [hres] at HM ⊢
      clear e hres HW1 HT1 HTB1
      go_enter Tryd.func9, Tryd.ntmps9
      go_wp2_with fail
      refine HM.out.mono ?_
      rintro e w1 ⟨rfl, hb1⟩
      have HB1 := Lib.hid (HB.out.trans (hb1.out.mono HB.out.size))
      go_wp2_with fail
      go_ret
      exact ⟨rfl, HB1⟩
    · have e : mayP ⟨9, m, t, B, AA, ck, ct, L, K, ⟨cn, cq, cb⟩⟩ T = numF6 ⟨9, m, t, B, AA, ck, ct, L, K, ⟨cn, cq, cb⟩⟩ := by unfold mayP; simp
      rw [e]
      have HM := Lib.hid (mayNumber_any ⟨9, m, t, B, AA, ck, ct, L, K, ⟨cn, cq, cb⟩⟩ Ab nb zb Aa na za A n c (w.alloc (.cells #[.int .i64 9, .int .i64 m, .string t, .slice Ab nb zb, .slice Aa na za, .int .i64 ck, .string ct, .slice A n c, .int .i64 K, .string cn, .int .i64 cq, .bool cb] 33)) HW1.out.at_)
      obtain ⟨res, hres⟩ : ∃ q, numF6 ⟨9, m, t, B, AA, ck, ct, L, K, ⟨cn, cq, cb⟩⟩ = q := ⟨_, rfl⟩
      rw [hres] at HM ⊢
      clear e hres HW1 HT1 HTB1
      go_enter Tryd.func9, Tryd.ntmps9
      go_wp2_with fail
      refine HM.out.mono ?_
      rintro e w1 ⟨rfl, hb1⟩
      have HB1 := Lib.hid (HB.out.trans (hb1.out.mono HB.out.size))
      go_wp2_with fail
      go_ret
      exact ⟨rfl, HB1⟩
    · have e : mayP ⟨10, m, t, B, AA, ck, ct, L, K, ⟨cn, cq, cb⟩⟩ T = numF6 ⟨10, m, t, B, AA, ck, ct, L, K, ⟨cn, cq, cb⟩⟩ := by unfold mayP; simp
      rw [e]
      have HM := Lib.hid (mayNumber_any ⟨10, m, t, B, AA, ck, ct, L, K, ⟨cn, cq, cb⟩⟩ Ab nb zb Aa na za A n c (w.alloc (.cells #[.int .i64 10, .int .i64 m, .string t, .slice Ab nb zb, .slice Aa na za, .int .i64 ck, .string ct, .slice A n c, .int .i64 K, .string cn, .int .i64 cq, .bool cb] 33)) HW1.out.at_)
      obtain ⟨res, hres⟩ : ∃ q, numF6 ⟨10, m, t, B, AA, ck, ct, L, K, ⟨cn, cq, cb⟩⟩ = q := ⟨_, rfl⟩
      rw [hres] at HM ⊢
      clear e hres HW1 HT1 HTB1
      go_enter Tryd.func9, Tryd.ntmps9
      go_wp2_with fail
      refine HM.out.mono ?_
      rintro e w1 ⟨rfl, hb1⟩
      have HB1 := Lib.hid (HB.out.trans (hb1.out.mono HB.out.size))
      go_wp2_with fail
      go_ret
      exact ⟨rfl, HB1⟩
  · have e : mayP ⟨k, m, t, B, AA, ck, ct, L, K, ⟨cn, cq, cb⟩⟩ T = 5 := by
      unfold mayP
      rw [if_neg (by dsimp only; omega), if_neg (by dsimp only; omega), if_neg (by dsimp only; omega)]
    rw [e]
    have q1 : (k == 1) = false := by simp; omega
    have q2 : (k == 2) = false := by simp; omega
    have q3 : (k == 3) = false := by simp; omega
    have q4 : (k == 4) = false := by simp; omega
    have q5 : (k == 5) = false := by simp; omega
    have q6 : (k == 6) = false := by simp; omega
    have q7 : (k == 7) = false := by simp; omega
    have q8 : (k == 8) = false := by simp; omega
    have q9 : (k == 9) = false := by simp; omega
    have q10 : (k == 10) = false := by simp; omega
    clear e hc HW1 HT1
    go_enter Tryd.func9, Tryd.ntmps9
    go_wp2_with fail
    go_ret
    exact ⟨rfl, HB⟩
end Go.Proofs.YtjkmbggaoinkdaaDoor
