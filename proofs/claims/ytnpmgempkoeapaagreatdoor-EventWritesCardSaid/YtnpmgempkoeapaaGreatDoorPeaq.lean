/-
  Put together, as far as it is used: Qe.
-/
import Derived.Test.YtnpmgempkoeapaaGreatDoorPeaj
set_option linter.unusedVariables false
set_option linter.unusedSimpArgs false
set_option linter.defProp false
namespace Go.Proofs.YtnpmgempkoeapaaGreatDoor
open Go.RowKit Dg
structure Ev where
 k : Int
 n : Int
 t : ByteArray
 B : List Vl
 A : List Vl
 ck : Int
 ct : ByteArray
 L : List Cl
 K : Int
 cl : Cl
def chF (x y : Ev) : Bool := x.ck == y.ck && x.ct.toList == y.ct.toList && x.cl.eqb y.cl && ssF x.L x.K y.L y.K
def evF (x y : Ev) : Bool := x.k == y.k && x.n == y.n && x.t.toList == y.t.toList && vsF x.B y.B && vsF x.A y.A && chF x y
theorem vsF_refl (L : List Vl) : vsF L L = true := (vsF_iff L L).2 rfl
theorem Cl.eqb_iff (x y : Cl) : x.eqb y = true ↔ x = y := by
 obtain ⟨a, b, c⟩ := x
 obtain ⟨a', b', c'⟩ := y
 simp only [Cl.eqb, Bool.and_eq_true, beq_iff_eq, Cl.mk.injEq]
 constructor
 ·rintro ⟨⟨h, rfl⟩, rfl⟩; exact ⟨toList_inj h, rfl, rfl⟩
 ·rintro ⟨rfl, rfl, rfl⟩; exact ⟨⟨rfl, rfl⟩, rfl⟩
theorem chF_refl (x : Ev) : chF x x = true := by simp [chF, Cl.eqb_refl, ssF_refl]
theorem evF_refl (x : Ev) : evF x x = true := by simp [evF, chF_refl, vsF_refl]
set_option maxHeartbeats 4000000 in
set_option maxRecDepth 100000 in
theorem vsameB_any (A : Option Addr) (L : List Vl) (n c : Nat) (A' : Option Addr) (M : List Vl) (n' c' : Nat) (w : World) (hn : L.length = n) (hn' : M.length = n') (hl : (n : Int) ≤ 9223372036854775807) (hA : VRow w A L) (hA' : VRow w A' M) :
 Calls Tryz.prog 43 #[.slice A n c, .slice A' n' c'] w fun e w' => e = .returned (.bool (vsF L M)) ∧ Hid (Below w.heap.size w w') := by
 have HN := Lib.hid hn
 have HN' := Lib.hid hn'
 have HA := Lib.hid hA
 have HA' := Lib.hid hA'
 have eq := eqV
 clear hn hA hA' hn'
 by_cases hnn : n = n'
 ·subst hnn
  have HC : Hid (vsF L M = vsTo L M n) := by show _ = _; unfold vsF; rw [HN.out, HN'.out]; simp
  go_enter Tryz.func43, Tryz.ntmps43
  go_wp2_with fail
  go_loopw [5] (fun i wr => ∃ k : Nat, k ≤ n ∧ i = .int .i64 k ∧ Hid (vsTo L M k = true) ∧ Hid (Below w.heap.size w wr)) (fun i _ => n - (intOf i).toNat)
  case atStart => exact ⟨0, by omega, rfl, rfl, Below.refl _ _⟩
  case round =>
   obtain ⟨k, hk, rfl, HT, HB⟩ := hrel
   by_cases hlt : k < n
   ·have hkl : k < L.length := by rw [HN.out]; exact hlt
    have hkm : k < M.length := by rw [HN'.out]; exact hlt
    obtain ⟨b, off, rfl, hc⟩ := (HA.out.below HB.out) (by intro e; rw [e] at hkl; simp at hkl)
    obtain ⟨b', off', rfl, hc'⟩ := (HA'.out.below HB.out) (by intro e; rw [e] at hkm; simp at hkm)
    obtain ⟨c0, c1, c2⟩ := hc k hkl
    obtain ⟨d0, d1, d2⟩ := hc' k hkm
    have HS := Lib.hid (vsTo_succ L M k hkl hkm)
    have HF := Lib.hid (vsTo_false L M k n hlt hkl hkm)
    clear hc hc'
    generalize L[k] = x at *
    generalize M[k] = y at *
    obtain ⟨xk, xn, xs⟩ := x
    obtain ⟨yk, yn, ys⟩ := y
    simp only at c0 c1 c2 d0 d1 d2
    have hkz : (k : Int) < (n : Int) := by omega
    have hk0 : (0 : Int) ≤ (k : Int) := by omega
    have HE : Hid (Vl.eqb ⟨xk, xn, xs⟩ ⟨yk, yn, ys⟩ = (xk == yk && xn == yn && xs.toList == ys.toList)) := rfl
    generalize hq : (xk == yk && xn == yn && xs.toList == ys.toList) = q at *
    have eq2 : ∀ W, (Op.equalIn 10000 87 (.agg #[.int .i64 xk, .int .i64 xn, .string xs]) (.agg #[.int .i64 yk, .int .i64 yn, .string ys])).run Tryz.prog W = .ok q W := fun W => by rw [eq, hq]
    clear eq hq
    cases q
    ·go_wp2_with fail
     go_region
     all_goals
      go_wp2_with fail
      go_ret
      exact ⟨by rw [HC.out, HF.out HE.out]; rfl, HB.out.drew⟩
    ·go_wp2_with fail
     go_region
     all_goals
      go_wp2_with fail
      go_roundw
      case rel => exact ⟨k + 1, by omega, by go_num, by show _ = _; rw [HS.out, HT.out, HE.out]; rfl, HB.out.drew⟩
      case measure => simp [intOf]; omega
   ·obtain rfl : k = n := by omega
    go_wp2_with fail
    go_ret
    exact ⟨by rw [HC.out, HT.out]; rfl, HB⟩
 ·have HC : Hid (vsF L M = false) := by show _ = _; unfold vsF; rw [HN.out, HN'.out]; simp [hnn]
  have hq : ((n : Int) != (n' : Int)) = true := by simp; omega
  go_enter Tryz.func43, Tryz.ntmps43
  go_wp2_with fail
  go_ret
  exact ⟨by rw [HC.out]; rfl, Below.refl _ _⟩
set_option maxHeartbeats 4000000 in
set_option maxRecDepth 100000 in
theorem equalV_any (A : Option Addr) (L : List Vl) (n c : Nat) (A' : Option Addr) (M : List Vl) (n' c' : Nat) (w : World) (hn : L.length = n) (hn' : M.length = n') (hl : (n : Int) ≤ 9223372036854775807) (hA : VRow w A L) (hA' : VRow w A' M) :
 Calls Tryz.prog 44 #[.slice A n c, .slice A' n' c'] w fun e w' => e = .returned (.bool (vsF L M)) ∧ Hid (Below w.heap.size w w') := by
 have HN := Lib.hid hn
 have HN' := Lib.hid hn'
 have HA := Lib.hid hA
 have HA' := Lib.hid hA'
 have eq := eqV
 clear hn hA hA' hn'
 by_cases hnn : n = n'
 ·subst hnn
  have HC : Hid (vsF L M = vsTo L M n) := by show _ = _; unfold vsF; rw [HN.out, HN'.out]; simp
  go_enter Tryz.func44, Tryz.ntmps44
  go_wp2_with fail
  go_loopw [13] (fun i wr => ∃ k : Nat, k ≤ n ∧ i = .int .i64 k ∧ Hid (vsTo L M k = true) ∧ Hid (Below w.heap.size w wr)) (fun i _ => n - (intOf i).toNat)
  case atStart => exact ⟨0, by omega, rfl, rfl, Below.refl _ _⟩
  case round =>
   obtain ⟨k, hk, rfl, HT, HB⟩ := hrel
   by_cases hlt : k < n
   ·have hkl : k < L.length := by rw [HN.out]; exact hlt
    have hkm : k < M.length := by rw [HN'.out]; exact hlt
    obtain ⟨b, off, rfl, hc⟩ := (HA.out.below HB.out) (by intro e; rw [e] at hkl; simp at hkl)
    obtain ⟨b', off', rfl, hc'⟩ := (HA'.out.below HB.out) (by intro e; rw [e] at hkm; simp at hkm)
    obtain ⟨c0, c1, c2⟩ := hc k hkl
    obtain ⟨d0, d1, d2⟩ := hc' k hkm
    have HS := Lib.hid (vsTo_succ L M k hkl hkm)
    have HF := Lib.hid (vsTo_false L M k n hlt hkl hkm)
    clear hc hc'
    generalize L[k] = x at *
    generalize M[k] = y at *
    obtain ⟨xk, xn, xs⟩ := x
    obtain ⟨yk, yn, ys⟩ := y
    simp only at c0 c1 c2 d0 d1 d2
    have hkz : (k : Int) < (n : Int) := by omega
    have hk0 : (0 : Int) ≤ (k : Int) := by omega
    have HE : Hid (Vl.eqb ⟨xk, xn, xs⟩ ⟨yk, yn, ys⟩ = (xk == yk && xn == yn && xs.toList == ys.toList)) := rfl
    generalize hq : (xk == yk && xn == yn && xs.toList == ys.toList) = q at *
    have eq2 : ∀ W, (Op.equalIn 10000 87 (.agg #[.int .i64 xk, .int .i64 xn, .string xs]) (.agg #[.int .i64 yk, .int .i64 yn, .string ys])).run Tryz.prog W = .ok q W := fun W => by rw [eq, hq]
    clear eq hq
    cases q
    ·go_wp2_with fail
     go_region
     all_goals
      go_wp2_with fail
      go_ret
      exact ⟨by rw [HC.out, HF.out HE.out]; rfl, HB.out.drew⟩
    ·go_wp2_with fail
     go_region
     all_goals
      go_wp2_with fail
      go_roundw
      case rel => exact ⟨k + 1, by omega, by go_num, by show _ = _; rw [HS.out, HT.out, HE.out]; rfl, HB.out.drew⟩
      case measure => simp [intOf]; omega
   ·obtain rfl : k = n := by omega
    go_wp2_with fail
    go_ret
    exact ⟨by rw [HC.out, HT.out]; rfl, HB⟩
 ·have HC : Hid (vsF L M = false) := by show _ = _; unfold vsF; rw [HN.out, HN'.out]; simp [hnn]
  have hq : ((n : Int) != (n' : Int)) = true := by simp; omega
  go_enter Tryz.func44, Tryz.ntmps44
  go_wp2_with fail
  go_ret
  exact ⟨by rw [HC.out]; rfl, Below.refl _ _⟩
def chG (ck ck' : Int) (ct ct' : ByteArray) (q q' : Cl) (L L' : List Cl) (K K' : Int) : Bool := ck == ck' && ct.toList == ct'.toList && q.eqb q' && ssF L K L' K'
theorem chF_eq (x y : Ev) : chF x y = chG x.ck y.ck x.ct y.ct x.cl y.cl x.L y.L x.K y.K := rfl
structure EvAt (w : World) (v : Value) (x : Ev) : Prop where
 known : ∃ Ab nb zb Aa na za A n c, v = .agg #[.int .i64 x.k, .int .i64 x.n, .string x.t, .slice Ab nb zb, .slice Aa na za, .int .i64 x.ck, .string x.ct, .slice A n c, .int .i64 x.K, .string x.cl.nm, .int .i64 x.cl.k, .bool x.cl.no] ∧ (x.B.length = nb ∧ (nb : Int) ≤ 9223372036854775807 ∧ VRow w Ab x.B) ∧ (x.A.length = na ∧ (na : Int) ≤ 9223372036854775807 ∧ VRow w Aa x.A) ∧ x.L.length = n ∧ n ≤ 4398046511104 ∧ CRow w A x.L
theorem EvAt.below {w w' : World} {v : Value} {x : Ev} (h : EvAt w v x) (hb : Below w.heap.size w w') : EvAt w' v x := by
 obtain ⟨Ab, nb, zb, Aa, na, za, A, n, c, e, ⟨h1, h2, h3⟩, ⟨h4, h5, h6⟩, h7, h8, h9⟩ := h.known
 exact ⟨Ab, nb, zb, Aa, na, za, A, n, c, e, ⟨h1, h2, h3.below hb⟩, ⟨h4, h5, h6.below hb⟩, h7, h8, h9.below hb⟩
set_option maxHeartbeats 2000000 in
set_option maxRecDepth 100000 in
theorem schange_any (ck : Int) (ct : ByteArray) (A : Option Addr) (L : List Cl) (n c : Nat) (K : Int) (cn : ByteArray) (cq : Int) (cb : Bool) (ck' : Int) (ct' : ByteArray) (A' : Option Addr) (L' : List Cl) (n' c' : Nat) (K' : Int) (cn' : ByteArray) (cq' : Int) (cb' : Bool) (w : World) (hn : L.length = n) (hn' : L'.length = n') (hl : n ≤ 4398046511104) (hl' : n' ≤ 4398046511104) (hA : CRow w A L) (hA' : CRow w A' L') :
 Calls Tryz.prog 45 #[.agg #[.int .i64 ck, .string ct, .slice A n c, .int .i64 K, .string cn, .int .i64 cq, .bool cb], .agg #[.int .i64 ck', .string ct', .slice A' n' c', .int .i64 K', .string cn', .int .i64 cq', .bool cb']] w fun e w' => e = .returned (.bool (chG ck ck' ct ct' ⟨cn, cq, cb⟩ ⟨cn', cq', cb'⟩ L L' K K')) ∧ Hid (Below w.heap.size w w') := by
 have HB := Lib.hid (((Below.refl w.heap.size w).alloc (Nat.le_refl _) (.cells #[.int .i64 ck, .string ct, .slice A n c, .int .i64 K, .string cn, .int .i64 cq, .bool cb] 31)).alloc (by simp) (.cells #[.int .i64 ck', .string ct', .slice A' n' c', .int .i64 K', .string cn', .int .i64 cq', .bool cb'] 31))
 have HC := Lib.hid (same4_any A L n c K A' L' n' c' K' ((w.alloc (.cells #[.int .i64 ck, .string ct, .slice A n c, .int .i64 K, .string cn, .int .i64 cq, .bool cb] 31)).alloc (.cells #[.int .i64 ck', .string ct', .slice A' n' c', .int .i64 K', .string cn', .int .i64 cq', .bool cb'] 31)) hn hn' hl hl' (hA.below HB.out) (hA'.below HB.out))
 have eq := eqC
 clear hn hn' hA hA'
 cases h0 : (ck == ck')
 ·have HS : Hid (chG ck ck' ct ct' ⟨cn, cq, cb⟩ ⟨cn', cq', cb'⟩ L L' K K' = false) := by show _ = _; unfold chG; simp [h0]
  go_enter Tryz.func45, Tryz.ntmps45
  go_wp2_with fail
  go_ret
  exact ⟨by rw [HS.out]; rfl, HB⟩
 ·skip
  cases h1 : (ct.toList == ct'.toList)
  ·have HS : Hid (chG ck ck' ct ct' ⟨cn, cq, cb⟩ ⟨cn', cq', cb'⟩ L L' K K' = false) := by show _ = _; unfold chG; simp [h0, h1]
   go_enter Tryz.func45, Tryz.ntmps45
   go_wp2_with fail
   go_ret
   exact ⟨by rw [HS.out]; rfl, HB⟩
  ·skip
   cases h2 : Cl.eqb ⟨cn, cq, cb⟩ ⟨cn', cq', cb'⟩
   ·have HS : Hid (chG ck ck' ct ct' ⟨cn, cq, cb⟩ ⟨cn', cq', cb'⟩ L L' K K' = false) := by show _ = _; unfold chG; simp [h0, h1, h2]
    go_enter Tryz.func45, Tryz.ntmps45
    go_wp2_with fail
    go_ret
    exact ⟨by rw [HS.out]; rfl, HB⟩
   ·skip
    have HS : Hid (chG ck ck' ct ct' ⟨cn, cq, cb⟩ ⟨cn', cq', cb'⟩ L L' K K' = ssF L K L' K') := by show _ = _; unfold chG; simp [h0, h1, h2]
    go_enter Tryz.func45, Tryz.ntmps45
    go_wp2_with fail
    refine HC.out.mono ?_
    rintro e w1 ⟨rfl, hb1⟩
    have HB1 := Lib.hid (HB.out.trans (hb1.out.mono HB.out.size))
    clear hb1 HC
    go_wp2_with fail
    go_ret
    exact ⟨by rw [HS.out]; rfl, HB1⟩
set_option maxHeartbeats 2000000 in
set_option maxRecDepth 100000 in
theorem rchange_any (ck : Int) (ct : ByteArray) (A : Option Addr) (L : List Cl) (n c : Nat) (K : Int) (cn : ByteArray) (cq : Int) (cb : Bool) (ck' : Int) (ct' : ByteArray) (A' : Option Addr) (L' : List Cl) (n' c' : Nat) (K' : Int) (cn' : ByteArray) (cq' : Int) (cb' : Bool) (w : World) (hn : L.length = n) (hn' : L'.length = n') (hl : n ≤ 4398046511104) (hl' : n' ≤ 4398046511104) (hA : CRow w A L) (hA' : CRow w A' L') :
 Calls Tryz.prog 30 #[.agg #[.int .i64 ck, .string ct, .slice A n c, .int .i64 K, .string cn, .int .i64 cq, .bool cb], .agg #[.int .i64 ck', .string ct', .slice A' n' c', .int .i64 K', .string cn', .int .i64 cq', .bool cb']] w fun e w' => e = .returned (.bool (chG ck ck' ct ct' ⟨cn, cq, cb⟩ ⟨cn', cq', cb'⟩ L L' K K')) ∧ Hid (Below w.heap.size w w') := by
 have HB := Lib.hid (((Below.refl w.heap.size w).alloc (Nat.le_refl _) (.cells #[.int .i64 ck, .string ct, .slice A n c, .int .i64 K, .string cn, .int .i64 cq, .bool cb] 31)).alloc (by simp) (.cells #[.int .i64 ck', .string ct', .slice A' n' c', .int .i64 K', .string cn', .int .i64 cq', .bool cb'] 31))
 have HC := Lib.hid (rsame_any A L n c K A' L' n' c' K' ((w.alloc (.cells #[.int .i64 ck, .string ct, .slice A n c, .int .i64 K, .string cn, .int .i64 cq, .bool cb] 31)).alloc (.cells #[.int .i64 ck', .string ct', .slice A' n' c', .int .i64 K', .string cn', .int .i64 cq', .bool cb'] 31)) hn hn' hl hl' (hA.below HB.out) (hA'.below HB.out))
 have HX := Lib.hid ((Has.new w 31 #[.int .i64 ck, .string ct, .slice A n c, .int .i64 K, .string cn, .int .i64 cq, .bool cb]).alloc (.cells #[.int .i64 ck', .string ct', .slice A' n' c', .int .i64 K', .string cn', .int .i64 cq', .bool cb'] 31))
 have hy := Has.new (w.alloc (.cells #[.int .i64 ck, .string ct, .slice A n c, .int .i64 K, .string cn, .int .i64 cq, .bool cb] 31)) 31 #[.int .i64 ck', .string ct', .slice A' n' c', .int .i64 K', .string cn', .int .i64 cq', .bool cb']
 rw [show (w.alloc (.cells #[.int .i64 ck, .string ct, .slice A n c, .int .i64 K, .string cn, .int .i64 cq, .bool cb] 31)).heap.size = w.heap.size + 1 by simp] at hy
 have HY := Lib.hid hy
 clear hy
 have eq := eqC
 clear hn hn' hA hA'
 obtain ⟨q, hq⟩ : ∃ q, ssF L K L' K' = q := ⟨_, rfl⟩
 have HS : Hid (chG ck ck' ct ct' ⟨cn, cq, cb⟩ ⟨cn', cq', cb'⟩ L L' K K' = (q && ck == ck' && ct.toList == ct'.toList && Cl.eqb ⟨cn, cq, cb⟩ ⟨cn', cq', cb'⟩)) := by
  show _ = _; unfold chG; rw [hq]; cases q <;> simp
 rw [hq] at HC
 clear hq
 go_enter Tryz.func30, Tryz.ntmps30
 go_wp2_with fail
 refine HC.out.mono ?_
 rintro e w1 ⟨rfl, hb1⟩
 replace HX := Lib.hid (HX.out.below hb1.out (by have := HX.out.lt; exact this))
 replace HY := Lib.hid (HY.out.below hb1.out (by have := HY.out.lt; exact this))
 replace HB := Lib.hid (HB.out.trans (hb1.out.mono HB.out.size))
 clear hb1 HC
 have x0 : w1.cell? ⟨w.heap.size, 0, none⟩ = some (.int .i64 ck) := HX.out.cell 0
 have x1 : w1.cell? ⟨w.heap.size, 1, none⟩ = some (.string ct) := HX.out.cell 1
 have x4 : w1.cell? ⟨w.heap.size, 4, none⟩ = some (.string cn) := HX.out.cell 4
 have x5 : w1.cell? ⟨w.heap.size, 5, none⟩ = some (.int .i64 cq) := HX.out.cell 5
 have x6 : w1.cell? ⟨w.heap.size, 6, none⟩ = some (.bool cb) := HX.out.cell 6
 have y0 : w1.cell? ⟨w.heap.size + 1, 0, none⟩ = some (.int .i64 ck') := HY.out.cell 0
 have y1 : w1.cell? ⟨w.heap.size + 1, 1, none⟩ = some (.string ct') := HY.out.cell 1
 have y4 : w1.cell? ⟨w.heap.size + 1, 4, none⟩ = some (.string cn') := HY.out.cell 4
 have y5 : w1.cell? ⟨w.heap.size + 1, 5, none⟩ = some (.int .i64 cq') := HY.out.cell 5
 have y6 : w1.cell? ⟨w.heap.size + 1, 6, none⟩ = some (.bool cb') := HY.out.cell 6
 cases q
 ·go_wp2_with fail
  go_ret
  exact ⟨by rw [HS.out]; rfl, HB⟩
 ·skip
  cases h0 : (ck == ck')
  ·go_wp2_with fail
   go_ret
   exact ⟨by rw [HS.out, h0]; rfl, HB⟩
  ·skip
   cases h1 : (ct.toList == ct'.toList)
   ·go_wp2_with fail
    go_ret
    exact ⟨by rw [HS.out, h0, h1]; rfl, HB⟩
   ·skip
    cases h2 : Cl.eqb ⟨cn, cq, cb⟩ ⟨cn', cq', cb'⟩
    ·go_wp2_with fail
     go_ret
     exact ⟨by rw [HS.out, h0, h1, h2]; rfl, HB⟩
    ·go_wp2_with fail
     go_ret
     exact ⟨by rw [HS.out, h0, h1, h2]; rfl, HB⟩
set_option maxHeartbeats 4000000 in
set_option maxRecDepth 100000 in
theorem esame_any (v v' : Value) (x y : Ev) (w : World) (hx : EvAt w v x) (hy : EvAt w v' y) :
 Calls Tryz.prog 14 #[v, v'] w fun e w' => e = .returned (.bool (evF x y)) ∧ Hid (Below w.heap.size w w') := by
 obtain ⟨Ab, nb, zb, Aa, na, za, A, n, c, rfl, ⟨h1, h2, h3⟩, ⟨h4, h5, h6⟩, h7, h8, h9⟩ := hx.known
 obtain ⟨Ab', nb', zb', Aa', na', za', A', n', c', rfl, ⟨h1', h2', h3'⟩, ⟨h4', h5', h6'⟩, h7', h8', h9'⟩ := hy.known
 clear hx hy
 obtain ⟨k, m, t, Bl, Al, ck, ct, L, K, ⟨cn, cq, cb⟩⟩ := x
 obtain ⟨k', m', t', Bl', Al', ck', ct', L', K', ⟨cn', cq', cb'⟩⟩ := y
 simp only at h1 h3 h4 h6 h7 h9 h1' h3' h4' h6' h7' h9'
 obtain ⟨qc, hqc⟩ : ∃ q, chG ck ck' ct ct' ⟨cn, cq, cb⟩ ⟨cn', cq', cb'⟩ L L' K K' = q := ⟨_, rfl⟩
 obtain ⟨qb, hqb⟩ : ∃ q, vsF Bl Bl' = q := ⟨_, rfl⟩
 obtain ⟨qa, hqa⟩ : ∃ q, vsF Al Al' = q := ⟨_, rfl⟩
 have HS : Hid (evF ⟨k, m, t, Bl, Al, ck, ct, L, K, ⟨cn, cq, cb⟩⟩ ⟨k', m', t', Bl', Al', ck', ct', L', K', ⟨cn', cq', cb'⟩⟩ = (k == k' && m == m' && t.toList == t'.toList && qb && qa && qc)) := by
  show _ = _; unfold evF; rw [chF_eq]; simp only [hqb, hqa, hqc]
 have HB := Lib.hid (((Below.refl w.heap.size w).alloc (Nat.le_refl _) (.cells #[.int .i64 k, .int .i64 m, .string t, .slice Ab nb zb, .slice Aa na za, .int .i64 ck, .string ct, .slice A n c, .int .i64 K, .string cn, .int .i64 cq, .bool cb] 33)).alloc (by simp) (.cells #[.int .i64 k', .int .i64 m', .string t', .slice Ab' nb' zb', .slice Aa' na' za', .int .i64 ck', .string ct', .slice A' n' c', .int .i64 K', .string cn', .int .i64 cq', .bool cb'] 33))
 have HX := Lib.hid ((Has.new w 33 #[.int .i64 k, .int .i64 m, .string t, .slice Ab nb zb, .slice Aa na za, .int .i64 ck, .string ct, .slice A n c, .int .i64 K, .string cn, .int .i64 cq, .bool cb]).alloc (.cells #[.int .i64 k', .int .i64 m', .string t', .slice Ab' nb' zb', .slice Aa' na' za', .int .i64 ck', .string ct', .slice A' n' c', .int .i64 K', .string cn', .int .i64 cq', .bool cb'] 33))
 have hy := Has.new (w.alloc (.cells #[.int .i64 k, .int .i64 m, .string t, .slice Ab nb zb, .slice Aa na za, .int .i64 ck, .string ct, .slice A n c, .int .i64 K, .string cn, .int .i64 cq, .bool cb] 33)) 33 #[.int .i64 k', .int .i64 m', .string t', .slice Ab' nb' zb', .slice Aa' na' za', .int .i64 ck', .string ct', .slice A' n' c', .int .i64 K', .string cn', .int .i64 cq', .bool cb']
 rw [show (w.alloc (.cells #[.int .i64 k, .int .i64 m, .string t, .slice Ab nb zb, .slice Aa na za, .int .i64 ck, .string ct, .slice A n c, .int .i64 K, .string cn, .int .i64 cq, .bool cb] 33)).heap.size = w.heap.size + 1 by simp] at hy
 have HY := Lib.hid hy
 have CB := Lib.hid (fun (W : World) (hb : Below w.heap.size w W) => equalV_any Ab Bl nb zb Ab' Bl' nb' zb' W h1 h1' (by omega) (h3.below hb) (h3'.below hb))
 have CA := Lib.hid (fun (W : World) (hb : Below w.heap.size w W) => equalV_any Aa Al na za Aa' Al' na' za' W h4 h4' (by omega) (h6.below hb) (h6'.below hb))
 have CC := Lib.hid (fun (W : World) (hb : Below w.heap.size w W) => schange_any ck ct A L n c K cn cq cb ck' ct' A' L' n' c' K' cn' cq' cb' W h7 h7' h8 h8' (h9.below hb) (h9'.below hb))
 rw [hqb] at CB
 rw [hqa] at CA
 rw [hqc] at CC
 clear hy h1 h1' h3 h3' h4 h4' h6 h6' h7 h7' h9 h9' hqa hqb hqc
 cases g0 : (k == k')
 ·replace HS := Lib.hid (HS.out.trans (show _ = false by simp [g0]))
  go_enter Tryz.func14, Tryz.ntmps14
  go_wp2_with fail
  go_ret
  exact ⟨by rw [HS.out]; rfl, HB⟩
 ·skip
  cases g1 : (m == m')
  ·replace HS := Lib.hid (HS.out.trans (show _ = false by simp [g0, g1]))
   go_enter Tryz.func14, Tryz.ntmps14
   go_wp2_with fail
   go_ret
   exact ⟨by rw [HS.out]; rfl, HB⟩
  ·skip
   cases g2 : (t.toList == t'.toList)
   ·replace HS := Lib.hid (HS.out.trans (show _ = false by simp [g0, g1, g2]))
    go_enter Tryz.func14, Tryz.ntmps14
    go_wp2_with fail
    go_ret
    exact ⟨by rw [HS.out]; rfl, HB⟩
   ·skip
    replace HS := Lib.hid (HS.out.trans (show _ = (qb && qa && qc) by simp [g0, g1, g2]))
    go_enter Tryz.func14, Tryz.ntmps14
    go_wp2_with fail
    refine (CB.out _ HB.out).mono ?_
    rintro e w1 ⟨rfl, hb1⟩
    have HB0 := Lib.hid (HB.out.trans (hb1.out.mono HB.out.size))
    have HX0 := Lib.hid (HX.out.below hb1.out HX.out.lt)
    have HY0 := Lib.hid (HY.out.below hb1.out HY.out.lt)
    clear hb1 HB HX HY
    have HB := HB0
    have HX := HX0
    have HY := HY0
    clear HB0 HX0 HY0
    have ax4 : w1.cell? ⟨w.heap.size, 4, none⟩ = some (.slice Aa na za) := HX.out.cell 4
    have ax5 : w1.cell? ⟨w.heap.size, 5, none⟩ = some (.int .i64 ck) := HX.out.cell 5
    have ax6 : w1.cell? ⟨w.heap.size, 6, none⟩ = some (.string ct) := HX.out.cell 6
    have ax7 : w1.cell? ⟨w.heap.size, 7, none⟩ = some (.slice A n c) := HX.out.cell 7
    have ax8 : w1.cell? ⟨w.heap.size, 8, none⟩ = some (.int .i64 K) := HX.out.cell 8
    have ax9 : w1.cell? ⟨w.heap.size, 9, none⟩ = some (.string cn) := HX.out.cell 9
    have ax10 : w1.cell? ⟨w.heap.size, 10, none⟩ = some (.int .i64 cq) := HX.out.cell 10
    have ax11 : w1.cell? ⟨w.heap.size, 11, none⟩ = some (.bool cb) := HX.out.cell 11
    have ay4 : w1.cell? ⟨w.heap.size + 1, 4, none⟩ = some (.slice Aa' na' za') := HY.out.cell 4
    have ay5 : w1.cell? ⟨w.heap.size + 1, 5, none⟩ = some (.int .i64 ck') := HY.out.cell 5
    have ay6 : w1.cell? ⟨w.heap.size + 1, 6, none⟩ = some (.string ct') := HY.out.cell 6
    have ay7 : w1.cell? ⟨w.heap.size + 1, 7, none⟩ = some (.slice A' n' c') := HY.out.cell 7
    have ay8 : w1.cell? ⟨w.heap.size + 1, 8, none⟩ = some (.int .i64 K') := HY.out.cell 8
    have ay9 : w1.cell? ⟨w.heap.size + 1, 9, none⟩ = some (.string cn') := HY.out.cell 9
    have ay10 : w1.cell? ⟨w.heap.size + 1, 10, none⟩ = some (.int .i64 cq') := HY.out.cell 10
    have ay11 : w1.cell? ⟨w.heap.size + 1, 11, none⟩ = some (.bool cb') := HY.out.cell 11
    cases qb
    ·go_wp2_with fail
     go_ret
     exact ⟨by rw [HS.out]; rfl, HB⟩
    ·go_wp2_with fail
     refine (CA.out _ HB.out).mono ?_
     rintro e w2 ⟨rfl, hb1⟩
     clear ax4 ax5 ax6 ax7 ax8 ax9 ax10 ax11 ay4 ay5 ay6 ay7 ay8 ay9 ay10 ay11
     have HB0 := Lib.hid (HB.out.trans (hb1.out.mono HB.out.size))
     have HX0 := Lib.hid (HX.out.below hb1.out HX.out.lt)
     have HY0 := Lib.hid (HY.out.below hb1.out HY.out.lt)
     clear hb1 HB HX HY
     have HB := HB0
     have HX := HX0
     have HY := HY0
     clear HB0 HX0 HY0
     have bx5 : w2.cell? ⟨w.heap.size, 5, none⟩ = some (.int .i64 ck) := HX.out.cell 5
     have bx6 : w2.cell? ⟨w.heap.size, 6, none⟩ = some (.string ct) := HX.out.cell 6
     have bx7 : w2.cell? ⟨w.heap.size, 7, none⟩ = some (.slice A n c) := HX.out.cell 7
     have bx8 : w2.cell? ⟨w.heap.size, 8, none⟩ = some (.int .i64 K) := HX.out.cell 8
     have bx9 : w2.cell? ⟨w.heap.size, 9, none⟩ = some (.string cn) := HX.out.cell 9
     have bx10 : w2.cell? ⟨w.heap.size, 10, none⟩ = some (.int .i64 cq) := HX.out.cell 10
     have bx11 : w2.cell? ⟨w.heap.size, 11, none⟩ = some (.bool cb) := HX.out.cell 11
     have by5 : w2.cell? ⟨w.heap.size + 1, 5, none⟩ = some (.int .i64 ck') := HY.out.cell 5
     have by6 : w2.cell? ⟨w.heap.size + 1, 6, none⟩ = some (.string ct') := HY.out.cell 6
     have by7 : w2.cell? ⟨w.heap.size + 1, 7, none⟩ = some (.slice A' n' c') := HY.out.cell 7
     have by8 : w2.cell? ⟨w.heap.size + 1, 8, none⟩ = some (.int .i64 K') := HY.out.cell 8
     have by9 : w2.cell? ⟨w.heap.size + 1, 9, none⟩ = some (.string cn') := HY.out.cell 9
     have by10 : w2.cell? ⟨w.heap.size + 1, 10, none⟩ = some (.int .i64 cq') := HY.out.cell 10
     have by11 : w2.cell? ⟨w.heap.size + 1, 11, none⟩ = some (.bool cb') := HY.out.cell 11
     cases qa
     ·go_wp2_with fail
      go_ret
      exact ⟨by rw [HS.out]; rfl, HB⟩
     ·go_wp2_with fail
      refine (CC.out _ HB.out).mono ?_
      rintro e w3 ⟨rfl, hb1⟩
      clear bx5 bx6 bx7 bx8 bx9 bx10 bx11 by5 by6 by7 by8 by9 by10 by11
      have HB0 := Lib.hid (HB.out.trans (hb1.out.mono HB.out.size))
      have HX0 := Lib.hid (HX.out.below hb1.out HX.out.lt)
      have HY0 := Lib.hid (HY.out.below hb1.out HY.out.lt)
      clear hb1 HB HX HY
      have HB := HB0
      have HX := HX0
      have HY := HY0
      clear HB0 HX0 HY0
      go_wp2_with fail
      go_ret
      exact ⟨by rw [HS.out]; rfl, HB⟩
set_option maxHeartbeats 4000000 in
set_option maxRecDepth 100000 in
theorem resame_any (v v' : Value) (x y : Ev) (w : World) (hx : EvAt w v x) (hy : EvAt w v' y) :
 Calls Tryz.prog 13 #[v, v'] w fun e w' => e = .returned (.bool (evF x y)) ∧ Hid (Below w.heap.size w w') := by
 obtain ⟨Ab, nb, zb, Aa, na, za, A, n, c, rfl, ⟨h1, h2, h3⟩, ⟨h4, h5, h6⟩, h7, h8, h9⟩ := hx.known
 obtain ⟨Ab', nb', zb', Aa', na', za', A', n', c', rfl, ⟨h1', h2', h3'⟩, ⟨h4', h5', h6'⟩, h7', h8', h9'⟩ := hy.known
 clear hx hy
 obtain ⟨k, m, t, Bl, Al, ck, ct, L, K, ⟨cn, cq, cb⟩⟩ := x
 obtain ⟨k', m', t', Bl', Al', ck', ct', L', K', ⟨cn', cq', cb'⟩⟩ := y
 simp only at h1 h3 h4 h6 h7 h9 h1' h3' h4' h6' h7' h9'
 obtain ⟨qc, hqc⟩ : ∃ q, chG ck ck' ct ct' ⟨cn, cq, cb⟩ ⟨cn', cq', cb'⟩ L L' K K' = q := ⟨_, rfl⟩
 obtain ⟨qb, hqb⟩ : ∃ q, vsF Bl Bl' = q := ⟨_, rfl⟩
 obtain ⟨qa, hqa⟩ : ∃ q, vsF Al Al' = q := ⟨_, rfl⟩
 have HS : Hid (evF ⟨k, m, t, Bl, Al, ck, ct, L, K, ⟨cn, cq, cb⟩⟩ ⟨k', m', t', Bl', Al', ck', ct', L', K', ⟨cn', cq', cb'⟩⟩ = (k == k' && m == m' && t.toList == t'.toList && qb && qa && qc)) := by
  show _ = _; unfold evF; rw [chF_eq]; simp only [hqb, hqa, hqc]
 have HB := Lib.hid (((Below.refl w.heap.size w).alloc (Nat.le_refl _) (.cells #[.int .i64 k, .int .i64 m, .string t, .slice Ab nb zb, .slice Aa na za, .int .i64 ck, .string ct, .slice A n c, .int .i64 K, .string cn, .int .i64 cq, .bool cb] 33)).alloc (by simp) (.cells #[.int .i64 k', .int .i64 m', .string t', .slice Ab' nb' zb', .slice Aa' na' za', .int .i64 ck', .string ct', .slice A' n' c', .int .i64 K', .string cn', .int .i64 cq', .bool cb'] 33))
 have HX := Lib.hid ((Has.new w 33 #[.int .i64 k, .int .i64 m, .string t, .slice Ab nb zb, .slice Aa na za, .int .i64 ck, .string ct, .slice A n c, .int .i64 K, .string cn, .int .i64 cq, .bool cb]).alloc (.cells #[.int .i64 k', .int .i64 m', .string t', .slice Ab' nb' zb', .slice Aa' na' za', .int .i64 ck', .string ct', .slice A' n' c', .int .i64 K', .string cn', .int .i64 cq', .bool cb'] 33))
 have hy := Has.new (w.alloc (.cells #[.int .i64 k, .int .i64 m, .string t, .slice Ab nb zb, .slice Aa na za, .int .i64 ck, .string ct, .slice A n c, .int .i64 K, .string cn, .int .i64 cq, .bool cb] 33)) 33 #[.int .i64 k', .int .i64 m', .string t', .slice Ab' nb' zb', .slice Aa' na' za', .int .i64 ck', .string ct', .slice A' n' c', .int .i64 K', .string cn', .int .i64 cq', .bool cb']
 rw [show (w.alloc (.cells #[.int .i64 k, .int .i64 m, .string t, .slice Ab nb zb, .slice Aa na za, .int .i64 ck, .string ct, .slice A n c, .int .i64 K, .string cn, .int .i64 cq, .bool cb] 33)).heap.size = w.heap.size + 1 by simp] at hy
 have HY := Lib.hid hy
 have CB := Lib.hid (fun (W : World) (hb : Below w.heap.size w W) => vsameB_any Ab Bl nb zb Ab' Bl' nb' zb' W h1 h1' (by omega) (h3.below hb) (h3'.below hb))
 have CA := Lib.hid (fun (W : World) (hb : Below w.heap.size w W) => vsameB_any Aa Al na za Aa' Al' na' za' W h4 h4' (by omega) (h6.below hb) (h6'.below hb))
 have CC := Lib.hid (fun (W : World) (hb : Below w.heap.size w W) => rchange_any ck ct A L n c K cn cq cb ck' ct' A' L' n' c' K' cn' cq' cb' W h7 h7' h8 h8' (h9.below hb) (h9'.below hb))
 rw [hqb] at CB
 rw [hqa] at CA
 rw [hqc] at CC
 clear hy h1 h1' h3 h3' h4 h4' h6 h6' h7 h7' h9 h9' hqa hqb hqc
 go_enter Tryz.func13, Tryz.ntmps13
 go_wp2_with fail
 refine (CC.out _ HB.out).mono ?_
 rintro e w1 ⟨rfl, hb1⟩
 have HB0 := Lib.hid (HB.out.trans (hb1.out.mono HB.out.size))
 have HX0 := Lib.hid (HX.out.below hb1.out HX.out.lt)
 have HY0 := Lib.hid (HY.out.below hb1.out HY.out.lt)
 clear hb1 HB HX HY
 have HB := HB0
 have HX := HX0
 have HY := HY0
 clear HB0 HX0 HY0
 have ax3 : w1.cell? ⟨w.heap.size, 3, none⟩ = some (.slice Ab nb zb) := HX.out.cell 3
 have ay3 : w1.cell? ⟨w.heap.size + 1, 3, none⟩ = some (.slice Ab' nb' zb') := HY.out.cell 3
 go_wp2_with fail
 refine (CB.out _ HB.out).mono ?_
 rintro e w2 ⟨rfl, hb1⟩
 clear ax3 ay3
 have HB0 := Lib.hid (HB.out.trans (hb1.out.mono HB.out.size))
 have HX0 := Lib.hid (HX.out.below hb1.out HX.out.lt)
 have HY0 := Lib.hid (HY.out.below hb1.out HY.out.lt)
 clear hb1 HB HX HY
 have HB := HB0
 have HX := HX0
 have HY := HY0
 clear HB0 HX0 HY0
 have bx4 : w2.cell? ⟨w.heap.size, 4, none⟩ = some (.slice Aa na za) := HX.out.cell 4
 have by4 : w2.cell? ⟨w.heap.size + 1, 4, none⟩ = some (.slice Aa' na' za') := HY.out.cell 4
 go_wp2_with fail
 refine (CA.out _ HB.out).mono ?_
 rintro e w3 ⟨rfl, hb1⟩
 clear bx4 by4
 have HB0 := Lib.hid (HB.out.trans (hb1.out.mono HB.out.size))
 have HX0 := Lib.hid (HX.out.below hb1.out HX.out.lt)
 have HY0 := Lib.hid (HY.out.below hb1.out HY.out.lt)
 clear hb1 HB HX HY
 have HB := HB0
 have HX := HX0
 have HY := HY0
 clear HB0 HX0 HY0
 have cx0 : w3.cell? ⟨w.heap.size, 0, none⟩ = some (.int .i64 k) := HX.out.cell 0
 have cx1 : w3.cell? ⟨w.heap.size, 1, none⟩ = some (.int .i64 m) := HX.out.cell 1
 have cx2 : w3.cell? ⟨w.heap.size, 2, none⟩ = some (.string t) := HX.out.cell 2
 have cy0 : w3.cell? ⟨w.heap.size + 1, 0, none⟩ = some (.int .i64 k') := HY.out.cell 0
 have cy1 : w3.cell? ⟨w.heap.size + 1, 1, none⟩ = some (.int .i64 m') := HY.out.cell 1
 have cy2 : w3.cell? ⟨w.heap.size + 1, 2, none⟩ = some (.string t') := HY.out.cell 2
 clear CA CB CC
 obtain ⟨q0, hq0⟩ : ∃ q, (k == k') = q := ⟨_, rfl⟩
 obtain ⟨q1, hq1⟩ : ∃ q, (m == m') = q := ⟨_, rfl⟩
 obtain ⟨q2, hq2⟩ : ∃ q, (t.toList == t'.toList) = q := ⟨_, rfl⟩
 rw [hq0, hq1, hq2] at HS
 cases qc
 ·go_wp2_with fail
  go_ret
  exact ⟨by rw [HS.out]; simp, HB⟩
 ·skip
  cases qb
  ·go_wp2_with fail
   go_ret
   exact ⟨by rw [HS.out]; simp, HB⟩
  ·skip
   cases qa
   ·go_wp2_with fail
    go_ret
    exact ⟨by rw [HS.out]; simp, HB⟩
   ·skip
    cases q0
    ·go_wp2_with fail
     go_ret
     exact ⟨by rw [HS.out]; simp, HB⟩
    ·skip
     cases q1
     ·go_wp2_with fail
      go_ret
      exact ⟨by rw [HS.out]; simp, HB⟩
     ·skip
      cases q2
      ·go_wp2_with fail
       go_ret
       exact ⟨by rw [HS.out]; simp, HB⟩
      ·skip
       go_wp2_with fail
       go_ret
       exact ⟨by rw [HS.out]; rfl, HB⟩
end Go.Proofs.YtnpmgempkoeapaaGreatDoor
