/-
  Events' sameness; the document's example; the law's cut.
-/
import Derived.Test.YtiefogofiajmnaaDoorMg4
import Derived.Test.YtiefogofiajmnaaDoorGoods
import Derived.RegionTactic
import Derived.Deep.QuietTactic
import Derived.BigQuiet
import Derived.Test.YtiefogofiajmnaaDoorSsame
import Derived.Test.YtiefogofiajmnaaDoorLyPut
import Derived.Test.YtiefogofiajmnaaDoorCut
namespace Go.Proofs.YtiefogofiajmnaaDoor
open Go.RowKit Dg
def Vl.eqb (x y : Vl) : Bool := x.k == y.k && x.n == y.n && x.s.toList == y.s.toList
theorem toList_inj {s t : ByteArray} (h : s.toList = t.toList) : s = t := by
  rw [← bs_sb s, ← bs_sb t] at h ⊢
  rw [bs_toList, bs_toList] at h
  unfold bs
  rw [h]
theorem Vl.eqb_iff (x y : Vl) : x.eqb y = true ↔ x = y := by
  obtain ⟨a, b, c⟩ := x
  obtain ⟨a', b', c'⟩ := y
  simp only [Vl.eqb, Bool.and_eq_true, beq_iff_eq, Vl.mk.injEq]
  constructor
  · rintro ⟨⟨rfl, rfl⟩, h⟩; exact ⟨rfl, rfl, toList_inj h⟩
  · rintro ⟨rfl, rfl, rfl⟩; exact ⟨⟨rfl, rfl⟩, rfl⟩
def vsTo (L M : List Vl) (k : Nat) : Bool := (List.range k).all fun i => match L[i]?, M[i]? with | some x, some y => x.eqb y | _, _ => true
theorem vsTo_succ (L M : List Vl) (k : Nat) (hL : k < L.length) (hM : k < M.length) : vsTo L M (k + 1) = (vsTo L M k && L[k].eqb M[k]) := by
  unfold vsTo; rw [List.range_succ, List.all_append]; simp [hL, hM]
theorem vsTo_false (L M : List Vl) (k n : Nat) (hk : k < n) (hL : k < L.length) (hM : k < M.length) (h : L[k].eqb M[k] = false) : vsTo L M n = false := by
  unfold vsTo; rw [List.all_eq_false]
  exact ⟨k, List.mem_range.2 hk, by simp [hL, hM, h]⟩
def vsF (L M : List Vl) : Bool := decide (L.length = M.length) && vsTo L M L.length
theorem vsF_iff (L M : List Vl) : vsF L M = true ↔ L = M := by
  unfold vsF vsTo
  simp only [Bool.and_eq_true, decide_eq_true_eq, List.all_eq_true]
  constructor
  · intro ⟨h1, h2⟩
    refine List.ext_getElem h1 fun i hi hj => ?_
    have := h2 i (List.mem_range.2 hi)
    rw [List.getElem?_eq_getElem hi, List.getElem?_eq_getElem hj] at this
    exact (Vl.eqb_iff _ _).1 this
  · rintro rfl
    refine ⟨rfl, fun i hi => ?_⟩
    have hi := List.mem_range.1 hi
    rw [List.getElem?_eq_getElem hi]
    exact (Vl.eqb_iff _ _).2 rfl
end Go.Proofs.YtiefogofiajmnaaDoor
namespace Go.Proofs.YtiefogofiajmnaaDoor
open Go.RowKit Dg
/-- An event. -/
structure Ev where
  k : Int
  n : Int
  t : ByteArray
  B : List Vl
  A : List Vl
  ck : Int
  ct : ByteArray
  L : List Cl
  K : Int
  cl : Cl
def chF (x y : Ev) : Bool := x.ck == y.ck && x.ct.toList == y.ct.toList && x.cl.eqb y.cl && ssF x.L x.K y.L y.K
def evF (x y : Ev) : Bool := x.k == y.k && x.n == y.n && x.t.toList == y.t.toList && vsF x.B y.B && vsF x.A y.A && chF x y
theorem vsF_refl (L : List Vl) : vsF L L = true := (vsF_iff L L).2 rfl
theorem vsF_symm (L M : List Vl) : vsF L M = vsF M L := Bool.eq_iff_iff.2 (by rw [vsF_iff, vsF_iff]; exact ⟨Eq.symm, Eq.symm⟩)
theorem Cl.eqb_iff (x y : Cl) : x.eqb y = true ↔ x = y := by
  obtain ⟨a, b, c⟩ := x
  obtain ⟨a', b', c'⟩ := y
  simp only [Cl.eqb, Bool.and_eq_true, beq_iff_eq, Cl.mk.injEq]
  constructor
  · rintro ⟨⟨h, rfl⟩, rfl⟩; exact ⟨toList_inj h, rfl, rfl⟩
  · rintro ⟨rfl, rfl, rfl⟩; exact ⟨⟨rfl, rfl⟩, rfl⟩
theorem csF_iff (L M : List Cl) : csF L M = true ↔ L = M := by
  unfold csF csTo
  simp only [Bool.and_eq_true, decide_eq_true_eq, List.all_eq_true]
  constructor
  · intro ⟨h1, h2⟩
    refine List.ext_getElem h1 fun i hi hj => ?_
    have := h2 i (List.mem_range.2 hi)
    rw [List.getElem?_eq_getElem hi, List.getElem?_eq_getElem hj] at this
    exact (Cl.eqb_iff _ _).1 this
  · rintro rfl
    refine ⟨rfl, fun i hi => ?_⟩
    have hi := List.mem_range.1 hi
    rw [List.getElem?_eq_getElem hi]
    exact (Cl.eqb_iff _ _).2 rfl
theorem chF_refl (x : Ev) : chF x x = true := by simp [chF, Cl.eqb_refl, ssF_refl]
theorem evF_refl (x : Ev) : evF x x = true := by simp [evF, chF_refl, vsF_refl]
theorem bsym {α} [BEq α] [LawfulBEq α] (a b : α) : (a == b) = (b == a) := Bool.eq_iff_iff.2 (by rw [beq_iff_eq, beq_iff_eq]; exact ⟨Eq.symm, Eq.symm⟩)
theorem chF_symm (x y : Ev) : chF x y = chF y x := by
  have h1 : x.cl.eqb y.cl = y.cl.eqb x.cl := Bool.eq_iff_iff.2 (by rw [Cl.eqb_iff, Cl.eqb_iff]; exact ⟨Eq.symm, Eq.symm⟩)
  have h2 : csF x.L y.L = csF y.L x.L := Bool.eq_iff_iff.2 (by rw [csF_iff, csF_iff]; exact ⟨Eq.symm, Eq.symm⟩)
  unfold chF ssF
  rw [h1, h2, bsym x.ck, bsym x.ct.toList, bsym x.K]
theorem evF_symm (x y : Ev) : evF x y = evF y x := by
  unfold evF
  rw [chF_symm, vsF_symm x.B, vsF_symm x.A, bsym x.k, bsym x.n, bsym x.t.toList]
set_option maxHeartbeats 4000000 in
set_option maxRecDepth 100000 in
theorem equalV_any (A : Option Addr) (L : List Vl) (n c : Nat) (A' : Option Addr) (M : List Vl) (n' c' : Nat) (w : World) (hn : L.length = n) (hn' : M.length = n') (hl : (n : Int) ≤ 9223372036854775807) (hA : VRow w A L) (hA' : VRow w A' M) :
    Calls Tryd.prog 85 #[.slice A n c, .slice A' n' c'] w fun e w' => e = .returned (.bool (vsF L M)) ∧ Hid (Below w.heap.size w w') := by
  have HN := Lib.hid hn
  have HN' := Lib.hid hn'
  have HA := Lib.hid hA
  have HA' := Lib.hid hA'
  have eq := eqV
  clear hn hA hA' hn'
  by_cases hnn : n = n'
  · subst hnn
    have HC : Hid (vsF L M = vsTo L M n) := by show _ = _; unfold vsF; rw [HN.out, HN'.out]; simp
    go_enter Tryd.func85, Tryd.ntmps85
    go_wp2_with fail
    go_loopw [13] (fun i wr => ∃ k : Nat, k ≤ n ∧ i = .int .i64 k ∧ Hid (vsTo L M k = true) ∧ Hid (Below w.heap.size w wr)) (fun i _ => n - (intOf i).toNat)
    case atStart => exact ⟨0, by omega, rfl, rfl, Below.refl _ _⟩
    case round =>
      obtain ⟨k, hk, rfl, HT, HB⟩ := hrel
      by_cases hlt : k < n
      · have hkl : k < L.length := by rw [HN.out]; exact hlt
        have hkm : k < M.length := by rw [HN'.out]; exact hlt
        obtain ⟨b, off, rfl, hc⟩ := (HA.out.below HB.out) (by intro e; rw [e] at hkl; simp at hkl)
        obtain ⟨b', off', rfl, hc'⟩ := (HA'.out.below HB.out) (by intro e; rw [e] at hkm; simp at hkm)
        obtain ⟨c0, c1, c2⟩ := hc k hkl
        obtain ⟨d0, d1, d2⟩ := hc' k hkm
        have HS := Lib.hid (vsTo_succ L M k hkl hkm)
        have HF := Lib.hid (vsTo_false L M k n hlt hkl hkm)
        clear hc hc'
        generalize L[k] = x at *
        generalize M[k] = y at *
        obtain ⟨xk, xn, xs⟩ := x
        obtain ⟨yk, yn, ys⟩ := y
        simp only at c0 c1 c2 d0 d1 d2
        have hkz : (k : Int) < (n : Int) := by omega
        have hk0 : (0 : Int) ≤ (k : Int) := by omega
        have HE : Hid (Vl.eqb ⟨xk, xn, xs⟩ ⟨yk, yn, ys⟩ = (xk == yk && xn == yn && xs.toList == ys.toList)) := rfl
        generalize hq : (xk == yk && xn == yn && xs.toList == ys.toList) = q at *
        have eq2 : ∀ W, (Op.equalIn 10000 93 (.agg #[.int .i64 xk, .int .i64 xn, .string xs]) (.agg #[.int .i64 yk, .int .i64 yn, .string ys])).run Tryd.prog W = .ok q W := fun W => by rw [eq, hq]
        clear eq hq
        cases q
        · go_wp2_with fail
          go_region
          all_goals
            go_wp2_with fail
            go_ret
            exact ⟨by rw [HC.out, HF.out HE.out]; rfl, HB.out.drew⟩
        · go_wp2_with fail
          go_region
          all_goals
            go_wp2_with fail
            go_roundw
            case rel => exact ⟨k + 1, by omega, by go_num, by show _ = _; rw [HS.out, HT.out, HE.out]; rfl, HB.out.drew⟩
            case measure => simp [intOf]; omega
      · obtain rfl : k = n := by omega
        go_wp2_with fail
        go_ret
        exact ⟨by rw [HC.out, HT.out]; rfl, HB⟩
  · have HC : Hid (vsF L M = false) := by show _ = _; unfold vsF; rw [HN.out, HN'.out]; simp [hnn]
    have hq : ((n : Int) != (n' : Int)) = true := by simp; omega
    go_enter Tryd.func85, Tryd.ntmps85
    go_wp2_with fail
    go_ret
    exact ⟨by rw [HC.out]; rfl, Below.refl _ _⟩
end Go.Proofs.YtiefogofiajmnaaDoor
namespace Go.Proofs.YtiefogofiajmnaaDoor
open Go.RowKit Dg
def chG (ck ck' : Int) (ct ct' : ByteArray) (q q' : Cl) (L L' : List Cl) (K K' : Int) : Bool := ck == ck' && ct.toList == ct'.toList && q.eqb q' && ssF L K L' K'
theorem chF_eq (x y : Ev) : chF x y = chG x.ck y.ck x.ct y.ct x.cl y.cl x.L y.L x.K y.K := rfl
/-- An event whose value and rows are known. -/
structure EvAt (w : World) (v : Value) (x : Ev) : Prop where
  known : ∃ Ab nb zb Aa na za A n c, v = .agg #[.int .i64 x.k, .int .i64 x.n, .string x.t, .slice Ab nb zb, .slice Aa na za, .int .i64 x.ck, .string x.ct, .slice A n c, .int .i64 x.K, .string x.cl.nm, .int .i64 x.cl.k, .bool x.cl.no] ∧ (x.B.length = nb ∧ (nb : Int) ≤ 9223372036854775807 ∧ VRow w Ab x.B) ∧ (x.A.length = na ∧ (na : Int) ≤ 9223372036854775807 ∧ VRow w Aa x.A) ∧ x.L.length = n ∧ n ≤ 1000 ∧ CRow w A x.L
theorem EvAt.below {w w' : World} {v : Value} {x : Ev} (h : EvAt w v x) (hb : Below w.heap.size w w') : EvAt w' v x := by
  obtain ⟨Ab, nb, zb, Aa, na, za, A, n, c, e, ⟨h1, h2, h3⟩, ⟨h4, h5, h6⟩, h7, h8, h9⟩ := h.known
  exact ⟨Ab, nb, zb, Aa, na, za, A, n, c, e, ⟨h1, h2, h3.below hb⟩, ⟨h4, h5, h6.below hb⟩, h7, h8, h9.below hb⟩
set_option maxHeartbeats 2000000 in
set_option maxRecDepth 100000 in
theorem schange_any (ck : Int) (ct : ByteArray) (A : Option Addr) (L : List Cl) (n c : Nat) (K : Int) (cn : ByteArray) (cq : Int) (cb : Bool) (ck' : Int) (ct' : ByteArray) (A' : Option Addr) (L' : List Cl) (n' c' : Nat) (K' : Int) (cn' : ByteArray) (cq' : Int) (cb' : Bool) (w : World) (hn : L.length = n) (hn' : L'.length = n') (hl : n ≤ 1000) (hl' : n' ≤ 1000) (hA : CRow w A L) (hA' : CRow w A' L') :
    Calls Tryd.prog 86 #[.agg #[.int .i64 ck, .string ct, .slice A n c, .int .i64 K, .string cn, .int .i64 cq, .bool cb], .agg #[.int .i64 ck', .string ct', .slice A' n' c', .int .i64 K', .string cn', .int .i64 cq', .bool cb']] w fun e w' => e = .returned (.bool (chG ck ck' ct ct' ⟨cn, cq, cb⟩ ⟨cn', cq', cb'⟩ L L' K K')) ∧ Hid (Below w.heap.size w w') := by
  have HB := Lib.hid (((Below.refl w.heap.size w).alloc (Nat.le_refl _) (.cells #[.int .i64 ck, .string ct, .slice A n c, .int .i64 K, .string cn, .int .i64 cq, .bool cb] 40)).alloc (by simp) (.cells #[.int .i64 ck', .string ct', .slice A' n' c', .int .i64 K', .string cn', .int .i64 cq', .bool cb'] 40))
  have HC := Lib.hid (same4_any A L n c K A' L' n' c' K' ((w.alloc (.cells #[.int .i64 ck, .string ct, .slice A n c, .int .i64 K, .string cn, .int .i64 cq, .bool cb] 40)).alloc (.cells #[.int .i64 ck', .string ct', .slice A' n' c', .int .i64 K', .string cn', .int .i64 cq', .bool cb'] 40)) hn hn' hl hl' (hA.below HB.out) (hA'.below HB.out))
  have eq := eqC
  clear hn hn' hA hA'
  cases h0 : (ck == ck')
  · have HS : Hid (chG ck ck' ct ct' ⟨cn, cq, cb⟩ ⟨cn', cq', cb'⟩ L L' K K' = false) := by show _ = _; unfold chG; simp [h0]
    go_enter Tryd.func86, Tryd.ntmps86
    go_wp2_with fail
    go_ret
    exact ⟨by rw [HS.out]; rfl, HB⟩
  · skip
    cases h1 : (ct.toList == ct'.toList)
    · have HS : Hid (chG ck ck' ct ct' ⟨cn, cq, cb⟩ ⟨cn', cq', cb'⟩ L L' K K' = false) := by show _ = _; unfold chG; simp [h0, h1]
      go_enter Tryd.func86, Tryd.ntmps86
      go_wp2_with fail
      go_ret
      exact ⟨by rw [HS.out]; rfl, HB⟩
    · skip
      cases h2 : Cl.eqb ⟨cn, cq, cb⟩ ⟨cn', cq', cb'⟩
      · have HS : Hid (chG ck ck' ct ct' ⟨cn, cq, cb⟩ ⟨cn', cq', cb'⟩ L L' K K' = false) := by show _ = _; unfold chG; simp [h0, h1, h2]
        go_enter Tryd.func86, Tryd.ntmps86
        go_wp2_with fail
        go_ret
        exact ⟨by rw [HS.out]; rfl, HB⟩
      · skip
        have HS : Hid (chG ck ck' ct ct' ⟨cn, cq, cb⟩ ⟨cn', cq', cb'⟩ L L' K K' = ssF L K L' K') := by show _ = _; unfold chG; simp [h0, h1, h2]
        go_enter Tryd.func86, Tryd.ntmps86
        go_wp2_with fail
        refine HC.out.mono ?_
        rintro e w1 ⟨rfl, hb1⟩
        have HB1 := Lib.hid (HB.out.trans (hb1.out.mono HB.out.size))
        clear hb1 HC
        go_wp2_with fail
        go_ret
        exact ⟨by rw [HS.out]; rfl, HB1⟩
set_option maxHeartbeats 2000000 in
set_option maxRecDepth 100000 in
theorem rchange_any (ck : Int) (ct : ByteArray) (A : Option Addr) (L : List Cl) (n c : Nat) (K : Int) (cn : ByteArray) (cq : Int) (cb : Bool) (ck' : Int) (ct' : ByteArray) (A' : Option Addr) (L' : List Cl) (n' c' : Nat) (K' : Int) (cn' : ByteArray) (cq' : Int) (cb' : Bool) (w : World) (hn : L.length = n) (hn' : L'.length = n') (hl : n ≤ 1000) (hl' : n' ≤ 1000) (hA : CRow w A L) (hA' : CRow w A' L') :
    Calls Tryd.prog 42 #[.agg #[.int .i64 ck, .string ct, .slice A n c, .int .i64 K, .string cn, .int .i64 cq, .bool cb], .agg #[.int .i64 ck', .string ct', .slice A' n' c', .int .i64 K', .string cn', .int .i64 cq', .bool cb']] w fun e w' => e = .returned (.bool (chG ck ck' ct ct' ⟨cn, cq, cb⟩ ⟨cn', cq', cb'⟩ L L' K K')) ∧ Hid (Below w.heap.size w w') := by
  have HB := Lib.hid (((Below.refl w.heap.size w).alloc (Nat.le_refl _) (.cells #[.int .i64 ck, .string ct, .slice A n c, .int .i64 K, .string cn, .int .i64 cq, .bool cb] 40)).alloc (by simp) (.cells #[.int .i64 ck', .string ct', .slice A' n' c', .int .i64 K', .string cn', .int .i64 cq', .bool cb'] 40))
  have HC := Lib.hid (rsame_any A L n c K A' L' n' c' K' ((w.alloc (.cells #[.int .i64 ck, .string ct, .slice A n c, .int .i64 K, .string cn, .int .i64 cq, .bool cb] 40)).alloc (.cells #[.int .i64 ck', .string ct', .slice A' n' c', .int .i64 K', .string cn', .int .i64 cq', .bool cb'] 40)) hn hn' hl hl' (hA.below HB.out) (hA'.below HB.out))
  have HX := Lib.hid ((Has.new w 40 #[.int .i64 ck, .string ct, .slice A n c, .int .i64 K, .string cn, .int .i64 cq, .bool cb]).alloc (.cells #[.int .i64 ck', .string ct', .slice A' n' c', .int .i64 K', .string cn', .int .i64 cq', .bool cb'] 40))
  have hy := Has.new (w.alloc (.cells #[.int .i64 ck, .string ct, .slice A n c, .int .i64 K, .string cn, .int .i64 cq, .bool cb] 40)) 40 #[.int .i64 ck', .string ct', .slice A' n' c', .int .i64 K', .string cn', .int .i64 cq', .bool cb']
  rw [show (w.alloc (.cells #[.int .i64 ck, .string ct, .slice A n c, .int .i64 K, .string cn, .int .i64 cq, .bool cb] 40)).heap.size = w.heap.size + 1 by simp] at hy
  have HY := Lib.hid hy
  clear hy
  have eq := eqC
  clear hn hn' hA hA'
  obtain ⟨q, hq⟩ : ∃ q, ssF L K L' K' = q := ⟨_, rfl⟩
  have HS : Hid (chG ck ck' ct ct' ⟨cn, cq, cb⟩ ⟨cn', cq', cb'⟩ L L' K K' = (q && ck == ck' && ct.toList == ct'.toList && Cl.eqb ⟨cn, cq, cb⟩ ⟨cn', cq', cb'⟩)) := by
    show _ = _; unfold chG; rw [hq]; cases q <;> simp
  rw [hq] at HC
  clear hq
  go_enter Tryd.func42, Tryd.ntmps42
  go_wp2_with fail
  refine HC.out.mono ?_
  rintro e w1 ⟨rfl, hb1⟩
  replace HX := Lib.hid (HX.out.below hb1.out (by have := HX.out.lt; exact this))
  replace HY := Lib.hid (HY.out.below hb1.out (by have := HY.out.lt; exact this))
  replace HB := Lib.hid (HB.out.trans (hb1.out.mono HB.out.size))
  clear hb1 HC
  have x0 : w1.cell? ⟨w.heap.size, 0, none⟩ = some (.int .i64 ck) := HX.out.cell 0
  have x1 : w1.cell? ⟨w.heap.size, 1, none⟩ = some (.string ct) := HX.out.cell 1
  have x4 : w1.cell? ⟨w.heap.size, 4, none⟩ = some (.string cn) := HX.out.cell 4
  have x5 : w1.cell? ⟨w.heap.size, 5, none⟩ = some (.int .i64 cq) := HX.out.cell 5
  have x6 : w1.cell? ⟨w.heap.size, 6, none⟩ = some (.bool cb) := HX.out.cell 6
  have y0 : w1.cell? ⟨w.heap.size + 1, 0, none⟩ = some (.int .i64 ck') := HY.out.cell 0
  have y1 : w1.cell? ⟨w.heap.size + 1, 1, none⟩ = some (.string ct') := HY.out.cell 1
  have y4 : w1.cell? ⟨w.heap.size + 1, 4, none⟩ = some (.string cn') := HY.out.cell 4
  have y5 : w1.cell? ⟨w.heap.size + 1, 5, none⟩ = some (.int .i64 cq') := HY.out.cell 5
  have y6 : w1.cell? ⟨w.heap.size + 1, 6, none⟩ = some (.bool cb') := HY.out.cell 6
  cases q
  · go_wp2_with fail
    go_ret
    exact ⟨by rw [HS.out]; rfl, HB⟩
  · skip
    cases h0 : (ck == ck')
    · go_wp2_with fail
      go_ret
      exact ⟨by rw [HS.out, h0]; rfl, HB⟩
    · skip
      cases h1 : (ct.toList == ct'.toList)
      · go_wp2_with fail
        go_ret
        exact ⟨by rw [HS.out, h0, h1]; rfl, HB⟩
      · skip
        cases h2 : Cl.eqb ⟨cn, cq, cb⟩ ⟨cn', cq', cb'⟩
        · go_wp2_with fail
          go_ret
          exact ⟨by rw [HS.out, h0, h1, h2]; rfl, HB⟩
        · go_wp2_with fail
          go_ret
          exact ⟨by rw [HS.out, h0, h1, h2]; rfl, HB⟩
end Go.Proofs.YtiefogofiajmnaaDoor
namespace Go.Proofs.YtiefogofiajmnaaDoor
open Go.RowKit Dg
set_option maxHeartbeats 4000000 in
set_option maxRecDepth 100000 in
theorem esame_any (v v' : Value) (x y : Ev) (w : World) (hx : EvAt w v x) (hy : EvAt w v' y) :
    Calls Tryd.prog 62 #[v, v'] w fun e w' => e = .returned (.bool (evF x y)) ∧ Hid (Below w.heap.size w w') := by
  obtain ⟨Ab, nb, zb, Aa, na, za, A, n, c, rfl, ⟨h1, h2, h3⟩, ⟨h4, h5, h6⟩, h7, h8, h9⟩ := hx.known
  obtain ⟨Ab', nb', zb', Aa', na', za', A', n', c', rfl, ⟨h1', h2', h3'⟩, ⟨h4', h5', h6'⟩, h7', h8', h9'⟩ := hy.known
  clear hx hy
  obtain ⟨k, m, t, Bl, Al, ck, ct, L, K, ⟨cn, cq, cb⟩⟩ := x
  obtain ⟨k', m', t', Bl', Al', ck', ct', L', K', ⟨cn', cq', cb'⟩⟩ := y
  simp only at h1 h3 h4 h6 h7 h9 h1' h3' h4' h6' h7' h9'
  obtain ⟨qc, hqc⟩ : ∃ q, chG ck ck' ct ct' ⟨cn, cq, cb⟩ ⟨cn', cq', cb'⟩ L L' K K' = q := ⟨_, rfl⟩
  obtain ⟨qb, hqb⟩ : ∃ q, vsF Bl Bl' = q := ⟨_, rfl⟩
  obtain ⟨qa, hqa⟩ : ∃ q, vsF Al Al' = q := ⟨_, rfl⟩
  have HS : Hid (evF ⟨k, m, t, Bl, Al, ck, ct, L, K, ⟨cn, cq, cb⟩⟩ ⟨k', m', t', Bl', Al', ck', ct', L', K', ⟨cn', cq', cb'⟩⟩ = (k == k' && m == m' && t.toList == t'.toList && qb && qa && qc)) := by
    show _ = _; unfold evF; rw [chF_eq]; simp only [hqb, hqa, hqc]
  have HB := Lib.hid (((Below.refl w.heap.size w).alloc (Nat.le_refl _) (.cells #[.int .i64 k, .int .i64 m, .string t, .slice Ab nb zb, .slice Aa na za, .int .i64 ck, .string ct, .slice A n c, .int .i64 K, .string cn, .int .i64 cq, .bool cb] 52)).alloc (by simp) (.cells #[.int .i64 k', .int .i64 m', .string t', .slice Ab' nb' zb', .slice Aa' na' za', .int .i64 ck', .string ct', .slice A' n' c', .int .i64 K', .string cn', .int .i64 cq', .bool cb'] 52))
  have HX := Lib.hid ((Has.new w 52 #[.int .i64 k, .int .i64 m, .string t, .slice Ab nb zb, .slice Aa na za, .int .i64 ck, .string ct, .slice A n c, .int .i64 K, .string cn, .int .i64 cq, .bool cb]).alloc (.cells #[.int .i64 k', .int .i64 m', .string t', .slice Ab' nb' zb', .slice Aa' na' za', .int .i64 ck', .string ct', .slice A' n' c', .int .i64 K', .string cn', .int .i64 cq', .bool cb'] 52))
  have hy := Has.new (w.alloc (.cells #[.int .i64 k, .int .i64 m, .string t, .slice Ab nb zb, .slice Aa na za, .int .i64 ck, .string ct, .slice A n c, .int .i64 K, .string cn, .int .i64 cq, .bool cb] 52)) 52 #[.int .i64 k', .int .i64 m', .string t', .slice Ab' nb' zb', .slice Aa' na' za', .int .i64 ck', .string ct', .slice A' n' c', .int .i64 K', .string cn', .int .i64 cq', .bool cb']
  rw [show (w.alloc (.cells #[.int .i64 k, .int .i64 m, .string t, .slice Ab nb zb, .slice Aa na za, .int .i64 ck, .string ct, .slice A n c, .int .i64 K, .string cn, .int .i64 cq, .bool cb] 52)).heap.size = w.heap.size + 1 by simp] at hy
  have HY := Lib.hid hy
  have CB := Lib.hid (fun (W : World) (hb : Below w.heap.size w W) => equalV_any Ab Bl nb zb Ab' Bl' nb' zb' W h1 h1' (by omega) (h3.below hb) (h3'.below hb))
  have CA := Lib.hid (fun (W : World) (hb : Below w.heap.size w W) => equalV_any Aa Al na za Aa' Al' na' za' W h4 h4' (by omega) (h6.below hb) (h6'.below hb))
  have CC := Lib.hid (fun (W : World) (hb : Below w.heap.size w W) => schange_any ck ct A L n c K cn cq cb ck' ct' A' L' n' c' K' cn' cq' cb' W h7 h7' h8 h8' (h9.below hb) (h9'.below hb))
  rw [hqb] at CB
  rw [hqa] at CA
  rw [hqc] at CC
  clear hy h1 h1' h3 h3' h4 h4' h6 h6' h7 h7' h9 h9' hqa hqb hqc
  cases g0 : (k == k')
  · replace HS := Lib.hid (HS.out.trans (show _ = false by simp [g0]))
    go_enter Tryd.func62, Tryd.ntmps62
    go_wp2_with fail
    go_ret
    exact ⟨by rw [HS.out]; rfl, HB⟩
  · skip
    cases g1 : (m == m')
    · replace HS := Lib.hid (HS.out.trans (show _ = false by simp [g0, g1]))
      go_enter Tryd.func62, Tryd.ntmps62
      go_wp2_with fail
      go_ret
      exact ⟨by rw [HS.out]; rfl, HB⟩
    · skip
      cases g2 : (t.toList == t'.toList)
      · replace HS := Lib.hid (HS.out.trans (show _ = false by simp [g0, g1, g2]))
        go_enter Tryd.func62, Tryd.ntmps62
        go_wp2_with fail
        go_ret
        exact ⟨by rw [HS.out]; rfl, HB⟩
      · skip
        replace HS := Lib.hid (HS.out.trans (show _ = (qb && qa && qc) by simp [g0, g1, g2]))
        go_enter Tryd.func62, Tryd.ntmps62
        go_wp2_with fail
        refine (CB.out _ HB.out).mono ?_
        rintro e w1 ⟨rfl, hb1⟩
        have HB0 := Lib.hid (HB.out.trans (hb1.out.mono HB.out.size))
        have HX0 := Lib.hid (HX.out.below hb1.out HX.out.lt)
        have HY0 := Lib.hid (HY.out.below hb1.out HY.out.lt)
        clear hb1 HB HX HY
        have HB := HB0
        have HX := HX0
        have HY := HY0
        clear HB0 HX0 HY0
        have ax4 : w1.cell? ⟨w.heap.size, 4, none⟩ = some (.slice Aa na za) := HX.out.cell 4
        have ax5 : w1.cell? ⟨w.heap.size, 5, none⟩ = some (.int .i64 ck) := HX.out.cell 5
        have ax6 : w1.cell? ⟨w.heap.size, 6, none⟩ = some (.string ct) := HX.out.cell 6
        have ax7 : w1.cell? ⟨w.heap.size, 7, none⟩ = some (.slice A n c) := HX.out.cell 7
        have ax8 : w1.cell? ⟨w.heap.size, 8, none⟩ = some (.int .i64 K) := HX.out.cell 8
        have ax9 : w1.cell? ⟨w.heap.size, 9, none⟩ = some (.string cn) := HX.out.cell 9
        have ax10 : w1.cell? ⟨w.heap.size, 10, none⟩ = some (.int .i64 cq) := HX.out.cell 10
        have ax11 : w1.cell? ⟨w.heap.size, 11, none⟩ = some (.bool cb) := HX.out.cell 11
        have ay4 : w1.cell? ⟨w.heap.size + 1, 4, none⟩ = some (.slice Aa' na' za') := HY.out.cell 4
        have ay5 : w1.cell? ⟨w.heap.size + 1, 5, none⟩ = some (.int .i64 ck') := HY.out.cell 5
        have ay6 : w1.cell? ⟨w.heap.size + 1, 6, none⟩ = some (.string ct') := HY.out.cell 6
        have ay7 : w1.cell? ⟨w.heap.size + 1, 7, none⟩ = some (.slice A' n' c') := HY.out.cell 7
        have ay8 : w1.cell? ⟨w.heap.size + 1, 8, none⟩ = some (.int .i64 K') := HY.out.cell 8
        have ay9 : w1.cell? ⟨w.heap.size + 1, 9, none⟩ = some (.string cn') := HY.out.cell 9
        have ay10 : w1.cell? ⟨w.heap.size + 1, 10, none⟩ = some (.int .i64 cq') := HY.out.cell 10
        have ay11 : w1.cell? ⟨w.heap.size + 1, 11, none⟩ = some (.bool cb') := HY.out.cell 11
        cases qb
        · go_wp2_with fail
          go_ret
          exact ⟨by rw [HS.out]; rfl, HB⟩
        · go_wp2_with fail
          refine (CA.out _ HB.out).mono ?_
          rintro e w2 ⟨rfl, hb1⟩
          clear ax4 ax5 ax6 ax7 ax8 ax9 ax10 ax11 ay4 ay5 ay6 ay7 ay8 ay9 ay10 ay11
          have HB0 := Lib.hid (HB.out.trans (hb1.out.mono HB.out.size))
          have HX0 := Lib.hid (HX.out.below hb1.out HX.out.lt)
          have HY0 := Lib.hid (HY.out.below hb1.out HY.out.lt)
          clear hb1 HB HX HY
          have HB := HB0
          have HX := HX0
          have HY := HY0
          clear HB0 HX0 HY0
          have bx5 : w2.cell? ⟨w.heap.size, 5, none⟩ = some (.int .i64 ck) := HX.out.cell 5
          have bx6 : w2.cell? ⟨w.heap.size, 6, none⟩ = some (.string ct) := HX.out.cell 6
          have bx7 : w2.cell? ⟨w.heap.size, 7, none⟩ = some (.slice A n c) := HX.out.cell 7
          have bx8 : w2.cell? ⟨w.heap.size, 8, none⟩ = some (.int .i64 K) := HX.out.cell 8
          have bx9 : w2.cell? ⟨w.heap.size, 9, none⟩ = some (.string cn) := HX.out.cell 9
          have bx10 : w2.cell? ⟨w.heap.size, 10, none⟩ = some (.int .i64 cq) := HX.out.cell 10
          have bx11 : w2.cell? ⟨w.heap.size, 11, none⟩ = some (.bool cb) := HX.out.cell 11
          have by5 : w2.cell? ⟨w.heap.size + 1, 5, none⟩ = some (.int .i64 ck') := HY.out.cell 5
          have by6 : w2.cell? ⟨w.heap.size + 1, 6, none⟩ = some (.string ct') := HY.out.cell 6
          have by7 : w2.cell? ⟨w.heap.size + 1, 7, none⟩ = some (.slice A' n' c') := HY.out.cell 7
          have by8 : w2.cell? ⟨w.heap.size + 1, 8, none⟩ = some (.int .i64 K') := HY.out.cell 8
          have by9 : w2.cell? ⟨w.heap.size + 1, 9, none⟩ = some (.string cn') := HY.out.cell 9
          have by10 : w2.cell? ⟨w.heap.size + 1, 10, none⟩ = some (.int .i64 cq') := HY.out.cell 10
          have by11 : w2.cell? ⟨w.heap.size + 1, 11, none⟩ = some (.bool cb') := HY.out.cell 11
          cases qa
          · go_wp2_with fail
            go_ret
            exact ⟨by rw [HS.out]; rfl, HB⟩
          · go_wp2_with fail
            refine (CC.out _ HB.out).mono ?_
            rintro e w3 ⟨rfl, hb1⟩
            clear bx5 bx6 bx7 bx8 bx9 bx10 bx11 by5 by6 by7 by8 by9 by10 by11
            have HB0 := Lib.hid (HB.out.trans (hb1.out.mono HB.out.size))
            have HX0 := Lib.hid (HX.out.below hb1.out HX.out.lt)
            have HY0 := Lib.hid (HY.out.below hb1.out HY.out.lt)
            clear hb1 HB HX HY
            have HB := HB0
            have HX := HX0
            have HY := HY0
            clear HB0 HX0 HY0
            go_wp2_with fail
            go_ret
            exact ⟨by rw [HS.out]; rfl, HB⟩
end Go.Proofs.YtiefogofiajmnaaDoor
namespace Go.Proofs.YtiefogofiajmnaaDoor
open Go.RowKit Dg
set_option maxHeartbeats 400000 in
theorem Number_any (A : Option Addr) (l : List Nat) (c : Nat) (n : Nat) (w : World) (hn : l.length ≤ c) (hA : Rd w A l) (hb : l.length ≤ 900000) (hn63 : (n : Int) ≤ 9223372036854775807) :
    Calls Tryd.prog 53 #[.slice A l.length c, .int .i64 n] w (Out w (l ++ digs n)) := by
  have hbig : n < big := by unfold big; omega
  have ht := digs_le_ten n hbig
  have hp := digs_pos n
  go_enter Tryd.func53, Tryd.ntmps53
  go_wp2_with fail
  refine (digits_any n _ hbig).mono ?_
  intro e w1 hd
  obtain ⟨A', d, rfl, hr, hb1⟩ := hd.out
  have HR := Lib.hid hr
  clear hr hd
  go_wp2_with fail
  refine (behind_any A l c A' (digs n) d _ hn (hA.below hb1) HR.out hp (by omega)).mono ?_
  intro e w2 ho
  have HO := Lib.hid ho
  clear ho
  obtain ⟨v, rfl, hv⟩ := HO.out
  have HV := Lib.hid hv
  clear hv
  go_wp2_with fail
  go_ret
  exact ⟨v, rfl, HV.out.after hb1⟩

theorem ev5_at (w : World) : EvAt w (.agg #[.int .i64 7, .int .i64 5, .string ⟨#[]⟩, .slice none 0 0, .slice none 0 0, .int .i64 0, .string ⟨#[]⟩, .slice none 0 0, .int .i64 0, .string ⟨#[]⟩, .int .i64 0, .bool false]) ⟨7, 5, ⟨#[]⟩, [], [], 0, ⟨#[]⟩, [], 0, ⟨⟨#[]⟩, 0, false⟩⟩ :=
  ⟨none, 0, 0, none, 0, 0, none, 0, 0, rfl, ⟨rfl, by simp, fun h => absurd rfl h⟩, ⟨rfl, by simp, fun h => absurd rfl h⟩, rfl, by omega, fun h => absurd rfl h⟩
set_option maxHeartbeats 2000000 in
set_option maxRecDepth 100000 in
theorem mayNumber5 (w : World) : Calls Tryd.prog 39 #[.agg #[.int .i64 7, .int .i64 5, .string ⟨#[]⟩, .slice none 0 0, .slice none 0 0, .int .i64 0, .string ⟨#[]⟩, .slice none 0 0, .int .i64 0, .string ⟨#[]⟩, .int .i64 0, .bool false]] w fun e w' => e = .returned (.int .i64 0) ∧ Hid (Below w.heap.size w w') := by
  have HB := Lib.hid ((Below.refl w.heap.size w).alloc (Nat.le_refl _) (.cells #[.int .i64 7, .int .i64 5, .string ⟨#[]⟩, .slice none 0 0, .slice none 0 0, .int .i64 0, .string ⟨#[]⟩, .slice none 0 0, .int .i64 0, .string ⟨#[]⟩, .int .i64 0, .bool false] 52))
  have HS := fun (W : World) => Lib.hid (esame_any (.agg #[.int .i64 7, .int .i64 5, .string ⟨#[]⟩, .slice none 0 0, .slice none 0 0, .int .i64 0, .string ⟨#[]⟩, .slice none 0 0, .int .i64 0, .string ⟨#[]⟩, .int .i64 0, .bool false]) (.agg #[.int .i64 7, .int .i64 5, .string ⟨#[]⟩, .slice none 0 0, .slice none 0 0, .int .i64 0, .string ⟨#[]⟩, .slice none 0 0, .int .i64 0, .string ⟨#[]⟩, .int .i64 0, .bool false]) _ _ W (ev5_at W) (ev5_at W))
  go_enter Tryd.func39, Tryd.ntmps39
  go_wp2_with fail
  refine ((HS _).out).mono ?_
  rintro e w1 ⟨rfl, hb1⟩
  rw [evF_refl]
  have HB1 := Lib.hid (HB.out.trans (hb1.out.mono HB.out.size))
  clear hb1 HS
  go_wp2_with fail
  go_ret
  exact ⟨rfl, HB1⟩
set_option maxHeartbeats 2000000 in
set_option maxRecDepth 100000 in
theorem may5 (w : World) : Calls Tryd.prog 22 #[.agg #[.int .i64 7, .int .i64 5, .string ⟨#[]⟩, .slice none 0 0, .slice none 0 0, .int .i64 0, .string ⟨#[]⟩, .slice none 0 0, .int .i64 0, .string ⟨#[]⟩, .int .i64 0, .bool false], .slice none 0 0] w fun e w' => e = .returned (.int .i64 0) ∧ Hid (Below w.heap.size w w') := by
  have HB := Lib.hid ((Below.refl w.heap.size w).alloc (Nat.le_refl _) (.cells #[.int .i64 7, .int .i64 5, .string ⟨#[]⟩, .slice none 0 0, .slice none 0 0, .int .i64 0, .string ⟨#[]⟩, .slice none 0 0, .int .i64 0, .string ⟨#[]⟩, .int .i64 0, .bool false] 52))
  go_enter Tryd.func22, Tryd.ntmps22
  go_wp2_with fail
  refine (mayNumber5 _).mono ?_
  rintro e w1 ⟨rfl, hb1⟩
  have HB1 := Lib.hid (HB.out.trans (hb1.out.mono HB.out.size))
  clear hb1
  go_wp2_with fail
  go_ret
  exact ⟨rfl, HB1⟩
theorem digs5 : digs 5 = [5] := by rw [digs]; simp
set_option maxHeartbeats 2000000 in
set_option maxRecDepth 100000 in
theorem write5 (w : World) : Calls Tryd.prog 31 #[.agg #[.int .i64 7, .int .i64 5, .string ⟨#[]⟩, .slice none 0 0, .slice none 0 0, .int .i64 0, .string ⟨#[]⟩, .slice none 0 0, .int .i64 0, .string ⟨#[]⟩, .int .i64 0, .bool false], .slice none 0 0] w fun e w' => (∃ A c, e = .returned (.tuple #[.slice A 2 c, .int .i64 0]) ∧ Hid (Rd w' A [7, 5])) ∧ Hid (Below w.heap.size w w') := by
  have HB := Lib.hid ((Below.refl w.heap.size w).alloc (Nat.le_refl _) (.cells #[.int .i64 7, .int .i64 5, .string ⟨#[]⟩, .slice none 0 0, .slice none 0 0, .int .i64 0, .string ⟨#[]⟩, .slice none 0 0, .int .i64 0, .string ⟨#[]⟩, .int .i64 0, .bool false] 52))
  have HX := Lib.hid (Has.new w 52 #[.int .i64 7, .int .i64 5, .string ⟨#[]⟩, .slice none 0 0, .slice none 0 0, .int .i64 0, .string ⟨#[]⟩, .slice none 0 0, .int .i64 0, .string ⟨#[]⟩, .int .i64 0, .bool false])
  go_enter Tryd.func31, Tryd.ntmps31
  go_wp2_with fail
  refine (may5 _).mono ?_
  rintro e w1 ⟨rfl, hb1⟩
  have HB1 := Lib.hid (HB.out.trans (hb1.out.mono HB.out.size))
  have HX1 := Lib.hid (HX.out.below hb1.out (by simp))
  clear hb1 HB HX
  have x0 : w1.cell? ⟨w.heap.size, 0, none⟩ = some (.int .i64 7) := HX1.out.cell 0
  have x1 : w1.cell? ⟨w.heap.size, 1, none⟩ = some (.int .i64 5) := HX1.out.cell 1
  have HB2 : Hid (Below w.heap.size w (w1.alloc (.cells #[.int .u8 7] 5))) := HB1.out.trans (((Below.refl w1.heap.size w1).alloc (Nat.le_refl _) _).mono HB1.out.size)
  have HX2 := Lib.hid (HX1.out.alloc (.cells #[.int .u8 7] 5))
  have y0 : (w1.alloc (.cells #[.int .u8 7] 5)).cell? ⟨w.heap.size, 0, none⟩ = some (.int .i64 7) := HX2.out.cell 0
  have y1 : (w1.alloc (.cells #[.int .u8 7] 5)).cell? ⟨w.heap.size, 1, none⟩ = some (.int .i64 5) := HX2.out.cell 1
  have HR := Lib.hid (show Rd (w1.alloc (.cells #[.int .u8 7] 5)) (some ⟨w1.heap.size, 0, none⟩) [7] from fun _ => ⟨w1.heap.size, 0, rfl, fun i hi => by
    obtain rfl : i = 0 := by simp at hi; omega
    exact (Has.new w1 5 #[.int .u8 7]).cell 0⟩)
  clear HX1 HX2 HB1
  go_wp2_with fail
  refine (Number_any (some ⟨w1.heap.size, 0, none⟩) [7] 1 5 _ (by simp) HR.out (by simp) (by omega)).mono ?_
  intro e w2 ho
  obtain ⟨v, rfl, Av, cv, rfl, _, hr, hb⟩ := ho
  have HR2 := Lib.hid hr
  have HB3 := Lib.hid (HB2.out.trans (hb.mono HB2.out.size))
  clear hr hb HB2 HR x0 x1 y0 y1
  rw [digs5] at *
  go_wp2_with fail
  go_ret2
  exact ⟨⟨_, _, rfl, HR2⟩, HB3⟩
set_option maxHeartbeats 2000000 in
set_option maxRecDepth 100000 in
theorem right0 (w : World) : Calls Tryd.prog 13 #[.slice none 0 0] w fun e w' => e = .returned (.bool true) ∧ Hid (Below w.heap.size w w') := by
  go_enter Tryd.func13, Tryd.ntmps13
  go_wp2_with fail
  go_loopw [10] (fun i wr => i = .int .i64 0 ∧ wr = w) (fun _ _ => 0)
  case atStart => exact ⟨rfl, rfl⟩
  case round =>
    obtain ⟨rfl, rfl⟩ := hrel
    go_wp2_with fail
    go_ret
    exact ⟨rfl, Below.refl _ _⟩
set_option maxHeartbeats 2000000 in
set_option maxRecDepth 100000 in
theorem lives6_any (w : World) : Calls Tryd.prog 15 #[] w fun e w' => e = .returned (.bool true) ∧ Hid (Below w.heap.size w w') := by
  go_enter Tryd.func15, Tryd.ntmps15
  go_wp2_with fail
  refine (write5 _).mono ?_
  rintro e w1 ⟨⟨A, c, rfl, hr⟩, hb⟩
  obtain ⟨b, off, rfl, hc⟩ := hr.out (by simp)
  have c0 : w1.cell? ⟨b, off, none⟩ = some (.int .u8 7) := hc 0 (by simp)
  have c1 : w1.cell? ⟨b, off + 1, none⟩ = some (.int .u8 5) := hc 1 (by simp)
  clear hc hr
  go_wp2_with fail
  refine (right0 _).mono ?_
  rintro e w2 ⟨rfl, hb2⟩
  have HB2 := Lib.hid (hb.out.trans (hb2.out.mono hb.out.size))
  clear c0 c1 hb hb2
  go_wp2_with fail
  go_ret
  exact ⟨rfl, HB2⟩
end Go.Proofs.YtiefogofiajmnaaDoor
namespace Go.Proofs.YtiefogofiajmnaaDoor
open Go.RowKit Dg
set_option maxHeartbeats 400000 in
theorem name6_any (s : ByteArray) (w : World) (hs : s.size ≤ 140737488355328) :
    Calls Tryd.prog 9 #[.string s] w fun e w' => e = .returned (.string (forty s)) ∧ w' = w := by
  by_cases hz : 40 < s.size
  · have HF : Hid (s.extract 0 40 = forty s) := by show _ = _; unfold forty; rw [if_pos hz]
    go_enter Tryd.func9, Tryd.ntmps9
    go_wp2_with fail
    go_ret
    exact ⟨by rw [← HF.out]; rfl, rfl⟩
  · have HF : Hid (forty s = s) := by show _ = _; unfold forty; rw [if_neg hz]
    go_enter Tryd.func9, Tryd.ntmps9
    go_wp2_with fail
    go_ret
    exact ⟨by rw [HF.out]; rfl, rfl⟩
structure D6 (w wr : World) (v : Value) (M : List Cl) (P : Array Value) : Prop where
  own : OwnC (w.heap.size + 2) wr v M
  bel : Below w.heap.size w wr
  prm : Has wr w.heap.size 40 P
  res : Has wr (w.heap.size + 1) 40 #[.int .i64 0, .string ⟨#[]⟩, .slice none 0 0, .int .i64 0, .string ⟨#[]⟩, .int .i64 0, .bool false]
  big : w.heap.size + 2 ≤ wr.heap.size
section
variable {w wr w' : World} {v : Value} {M : List Cl} {P : Array Value}
theorem D6.below (h : D6 w wr v M P) (hb : Below wr.heap.size wr w') : D6 w w' v M P :=
  ⟨h.own.below hb, h.bel.trans (hb.mono h.bel.size), h.prm.below hb h.prm.lt, h.res.below hb h.res.lt, Nat.le_trans h.big hb.size⟩
theorem D6.grown (h : D6 w wr v M P) {R : Value} {M' : List Cl} (ho : OwnC (w.heap.size + 2) w' R M') (hb : Below (w.heap.size + 2) wr w') : D6 w w' R M' P :=
  ⟨ho, h.bel.trans (hb.mono (by omega)), h.prm.below hb (by omega), h.res.below hb (by omega), Nat.le_trans h.big hb.size⟩
end
theorem c6End (w' : World) (g : Nat) (c0 c1 c2 c3 c4 c5 c6 : Value) (tmps : Array Value) (hp : tmps.getD 2 undef = .pointer (some ⟨g, 0, none⟩)) (hh : Has w' g 40 #[c0, c1, c2, c3, c4, c5, c6]) :
    (results Tryd.f16 tmps).run Tryd.prog w' = .ok (.agg #[c0, c1, c2, c3, c4, c5, c6]) w' :=
  results_cell_row rfl _ _ g 40 #[c0, c1, c2, c3, c4, c5, c6] (0, 0) _ hp hh Tryd.underlying40 rfl (by kernel_rfl)
theorem far7 {W : World} {g B : Nat} (hg : g < B) {v : Value} {M : List Cl} (h : OwnC B W v M) (u0 u1 u2 u3 u4 u5 u6 : Value) : OwnC B (((((((W.setCell ⟨g, 0, none⟩ u0).setCell ⟨g, 1, none⟩ u1).setCell ⟨g, 2, none⟩ u2).setCell ⟨g, 3, none⟩ u3).setCell ⟨g, 4, none⟩ u4).setCell ⟨g, 5, none⟩ u5).setCell ⟨g, 6, none⟩ u6) v M :=
  OwnC.far (OwnC.far (OwnC.far (OwnC.far (OwnC.far (OwnC.far (OwnC.far h (p := ⟨g, 0, none⟩) hg u0) (p := ⟨g, 1, none⟩) hg u1) (p := ⟨g, 2, none⟩) hg u2) (p := ⟨g, 3, none⟩) hg u3) (p := ⟨g, 4, none⟩) hg u4) (p := ⟨g, 5, none⟩) hg u5) (p := ⟨g, 6, none⟩) hg u6
theorem below7 {w W : World} {k g : Nat} (hg : k ≤ g) (h : Below k w W) (u0 u1 u2 u3 u4 u5 u6 : Value) : Below k w (((((((W.setCell ⟨g, 0, none⟩ u0).setCell ⟨g, 1, none⟩ u1).setCell ⟨g, 2, none⟩ u2).setCell ⟨g, 3, none⟩ u3).setCell ⟨g, 4, none⟩ u4).setCell ⟨g, 5, none⟩ u5).setCell ⟨g, 6, none⟩ u6) :=
  ((((((h.setCell (p := ⟨g, 0, none⟩) hg u0).setCell (p := ⟨g, 1, none⟩) hg u1).setCell (p := ⟨g, 2, none⟩) hg u2).setCell (p := ⟨g, 3, none⟩) hg u3).setCell (p := ⟨g, 4, none⟩) hg u4).setCell (p := ⟨g, 5, none⟩) hg u5).setCell (p := ⟨g, 6, none⟩) hg u6
set_option maxHeartbeats 6000000 in
set_option maxRecDepth 100000 in
theorem cut6_any (ck : Int) (ct : ByteArray) (A : Option Addr) (L : List Cl) (n c : Nat) (K : Int) (cn : ByteArray) (cq : Int) (cb : Bool) (w : World) (hn : L.length = n) (hnc : n ≤ c) (hcm : c ≤ maxLen) (hA : CRow w A L) (hf : ∀ x ∈ L, x.fit) (ht : ct.size ≤ 140737488355328) (hc : cn.size ≤ 140737488355328) :
    Calls Tryd.prog 16 #[.agg #[.int .i64 ck, .string ct, .slice A n c, .int .i64 K, .string cn, .int .i64 cq, .bool cb]] w fun e w' => ∃ v, e = .returned (.agg #[.int .i64 ck, .string (forty ct), v, .int .i64 K, .string (forty cn), .int .i64 cq, .bool cb]) ∧ Hid (OwnC w.heap.size w' v (cutL L)) ∧ Hid (Below w.heap.size w w') := by
  have HN := Lib.hid hn
  have HA := Lib.hid hA
  have HF := Lib.hid hf
  have hcm2 : n ≤ 9223372036854775807 := by unfold maxLen at hcm; omega
  have st0 : D6 w ((w.alloc (.cells #[.int .i64 ck, .string (forty ct), .slice A n c, .int .i64 K, .string (forty cn), .int .i64 cq, .bool cb] 40)).alloc (.cells #[.int .i64 0, .string ⟨#[]⟩, .slice none 0 0, .int .i64 0, .string ⟨#[]⟩, .int .i64 0, .bool false] 40)) (.slice none 0 0) (cutTo L 0) #[.int .i64 ck, .string (forty ct), .slice A n c, .int .i64 K, .string (forty cn), .int .i64 cq, .bool cb] := by
    have e1 : (w.alloc (.cells #[.int .i64 ck, .string (forty ct), .slice A n c, .int .i64 K, .string (forty cn), .int .i64 cq, .bool cb] 40)).heap.size = w.heap.size + 1 := by simp
    have h := Has.new (w.alloc (.cells #[.int .i64 ck, .string (forty ct), .slice A n c, .int .i64 K, .string (forty cn), .int .i64 cq, .bool cb] 40)) 40 #[.int .i64 0, .string ⟨#[]⟩, .slice none 0 0, .int .i64 0, .string ⟨#[]⟩, .int .i64 0, .bool false]
    rw [e1] at h
    exact ⟨ownC_nil _ _, ((Below.refl w.heap.size w).alloc (Nat.le_refl _) _).alloc (by simp) _, (Has.new w _ _).alloc _, h, by simp⟩
  have S0 := Lib.hid st0
  clear hn hA hnc hcm hf st0
  go_enter Tryd.func16, Tryd.ntmps16
  go_wp2_with fail
  refine (name6_any ct _ ht).mono ?_
  rintro e w1 ⟨rfl, rfl⟩
  obtain ⟨ft, hft⟩ : ∃ x, forty ct = x := ⟨_, rfl⟩
  have HFT := Lib.hid hft
  rw [hft] at S0 ⊢
  clear hft
  go_wp2_with fail
  refine (name6_any cn _ hc).mono ?_
  rintro e w1 ⟨rfl, rfl⟩
  obtain ⟨fn, hfn⟩ : ∃ x, forty cn = x := ⟨_, rfl⟩
  have HFN := Lib.hid hfn
  rw [hfn] at S0 ⊢
  clear hfn
  go_wp2_with fail
  go_loopw [3, 4] (fun v i wr => ∃ k : Nat, k ≤ n ∧ k ≤ 20 ∧ i = .int .i64 k ∧ Hid (D6 w wr v (cutTo L k) #[.int .i64 ck, .string ft, .slice A n c, .int .i64 K, .string fn, .int .i64 cq, .bool cb])) (fun _ i _ => n - (intOf i).toNat)
  case atStart => exact ⟨0, by omega, by omega, rfl, S0⟩
  case round =>
    obtain ⟨k, hk, hk20, rfl, HS⟩ := hrel
    clear S0
    obtain ⟨Ao, no, co, rfl, HNO, hnoc, hcom, HVO, HZO⟩ := ownC_open HS.out.own
    have hno : no ≤ 20 := by
      have h := cutTo_len L k
      have h2 := HNO.out
      omega
    have p2 : wr.cell? ⟨w.heap.size, 2, none⟩ = some (.slice A n c) := HS.out.prm.cell 2
    by_cases hlt : k < n
    · by_cases hl2 : k < 20
      · have hkl : k < L.length := by rw [HN.out]; exact hlt
        have hfit : L[k].nm.size ≤ 140737488355328 := (HF.out L[k] (List.getElem_mem hkl)).1
        obtain ⟨b, off, rfl, hc⟩ := (HA.out.below HS.out.bel) (by intro e; rw [e] at hkl; simp at hkl)
        obtain ⟨c0, c1, c2⟩ := hc k hkl
        have HG := Lib.hid (cutTo_succ L k hkl)
        clear hc
        generalize L[k] = x at *
        obtain ⟨xa, xb, xc⟩ := x
        simp only at c0 c1 c2 hfit
        obtain ⟨M, hM⟩ : ∃ M, cutTo L k = M := ⟨_, rfl⟩
        rw [hM] at HS HNO HVO HG
        clear hM
        have y0 : (wr.alloc (.cells #[.string xa, .int .i64 xb, .bool xc] 38)).frozen? ⟨wr.heap.size, 0, none⟩ = false := (Has.new wr 38 #[.string xa, .int .i64 xb, .bool xc]).free 0
        have HG2 : Hid (cutTo L (k + 1) = M ++ [⟨forty xa, xb, xc⟩]) := HG
        clear HG
        go_wp2_with fail
        refine (name6_any xa _ hfit).mono ?_
        rintro e w1 ⟨rfl, rfl⟩
        generalize forty xa = fm at *
        have HX : Hid (Has (wr.alloc (.cells #[.string fm, .int .i64 xb, .bool xc] 38)) wr.heap.size 38 #[.string fm, .int .i64 xb, .bool xc]) := Has.new wr 38 #[.string fm, .int .i64 xb, .bool xc]
        have HB : Hid (Below wr.heap.size wr (wr.alloc (.cells #[.string fm, .int .i64 xb, .bool xc] 38))) := (Below.refl _ wr).alloc (Nat.le_refl _) _
        have S5 := Lib.hid (HS.out.below HB.out)
        have x0 : (wr.alloc (.cells #[.string fm, .int .i64 xb, .bool xc] 38)).cell? ⟨wr.heap.size, 0, none⟩ = some (.string fm) := HX.out.cell 0
        have x1 : (wr.alloc (.cells #[.string fm, .int .i64 xb, .bool xc] 38)).cell? ⟨wr.heap.size, 1, none⟩ = some (.int .i64 xb) := HX.out.cell 1
        have x2 : (wr.alloc (.cells #[.string fm, .int .i64 xb, .bool xc] 38)).cell? ⟨wr.heap.size, 2, none⟩ = some (.bool xc) := HX.out.cell 2
        have HAP := Lib.hid (appC (wr.alloc (.cells #[.string fm, .int .i64 xb, .bool xc] 38)) (wr.heap.size + 1) (by simp) (w.heap.size + 2) (.slice Ao no co) M ⟨fm, xb, xc⟩ S5.out.own S5.out.big (by have := HNO.out; omega))
        go_wp2_with (at_builtin; refine wpList_app rfl _ _ 26 26 rfl (.slice Ao no co) (.slice (some ⟨wr.heap.size + 1, 0, none⟩) 1 1) rfl rfl ?_; obtain ⟨R, W', hrun, hmade⟩ := HAP.out; refine ⟨R, W', hrun, ?_⟩; have S7 := Lib.hid (S5.out.grown hmade.1 hmade.2); clear hrun hmade HAP x0 x1 x2)
        go_roundw
        case rel => exact ⟨k + 1, by omega, by omega, by go_num, by rw [HG2.out]; exact S7⟩
        case measure => simp [intOf]; omega
      · obtain rfl : k = 20 := by omega
        have HE := Lib.hid (cutTo_end L 20 (.inr rfl) (by omega))
        have f2 : wr.frozen? ⟨w.heap.size, 2, none⟩ = false := HS.out.prm.free 2
        have HP2 := Lib.hid (HS.out.prm.put 2 (.slice Ao no co))
        have HR2 := Lib.hid (HS.out.res.far (p := ⟨w.heap.size, 2, none⟩) (by show w.heap.size + 1 ≠ w.heap.size; omega) (.slice Ao no co))
        have g0 : (wr.setCell ⟨w.heap.size, 2, none⟩ (.slice Ao no co)).cell? ⟨w.heap.size, 0, none⟩ = some (.int .i64 ck) := HP2.out.cell 0
        have g1 : (wr.setCell ⟨w.heap.size, 2, none⟩ (.slice Ao no co)).cell? ⟨w.heap.size, 1, none⟩ = some (.string ft) := HP2.out.cell 1
        have g2 : (wr.setCell ⟨w.heap.size, 2, none⟩ (.slice Ao no co)).cell? ⟨w.heap.size, 2, none⟩ = some (.slice Ao no co) := HP2.out.cell 2
        have g3 : (wr.setCell ⟨w.heap.size, 2, none⟩ (.slice Ao no co)).cell? ⟨w.heap.size, 3, none⟩ = some (.int .i64 K) := HP2.out.cell 3
        have g4 : (wr.setCell ⟨w.heap.size, 2, none⟩ (.slice Ao no co)).cell? ⟨w.heap.size, 4, none⟩ = some (.string fn) := HP2.out.cell 4
        have g5 : (wr.setCell ⟨w.heap.size, 2, none⟩ (.slice Ao no co)).cell? ⟨w.heap.size, 5, none⟩ = some (.int .i64 cq) := HP2.out.cell 5
        have g6 : (wr.setCell ⟨w.heap.size, 2, none⟩ (.slice Ao no co)).cell? ⟨w.heap.size, 6, none⟩ = some (.bool cb) := HP2.out.cell 6
        have r0 : (wr.setCell ⟨w.heap.size, 2, none⟩ (.slice Ao no co)).cell? ⟨w.heap.size + 1, 0, none⟩ = some (.int .i64 0) := HR2.out.cell 0
        have h0 : (wr.setCell ⟨w.heap.size, 2, none⟩ (.slice Ao no co)).frozen? ⟨w.heap.size + 1, 0, none⟩ = false := HR2.out.free 0
        have r1 : (wr.setCell ⟨w.heap.size, 2, none⟩ (.slice Ao no co)).cell? ⟨w.heap.size + 1, 1, none⟩ = some (.string ⟨#[]⟩) := HR2.out.cell 1
        have h1 : (wr.setCell ⟨w.heap.size, 2, none⟩ (.slice Ao no co)).frozen? ⟨w.heap.size + 1, 1, none⟩ = false := HR2.out.free 1
        have r2 : (wr.setCell ⟨w.heap.size, 2, none⟩ (.slice Ao no co)).cell? ⟨w.heap.size + 1, 2, none⟩ = some (.slice none 0 0) := HR2.out.cell 2
        have h2 : (wr.setCell ⟨w.heap.size, 2, none⟩ (.slice Ao no co)).frozen? ⟨w.heap.size + 1, 2, none⟩ = false := HR2.out.free 2
        have r3 : (wr.setCell ⟨w.heap.size, 2, none⟩ (.slice Ao no co)).cell? ⟨w.heap.size + 1, 3, none⟩ = some (.int .i64 0) := HR2.out.cell 3
        have h3 : (wr.setCell ⟨w.heap.size, 2, none⟩ (.slice Ao no co)).frozen? ⟨w.heap.size + 1, 3, none⟩ = false := HR2.out.free 3
        have r4 : (wr.setCell ⟨w.heap.size, 2, none⟩ (.slice Ao no co)).cell? ⟨w.heap.size + 1, 4, none⟩ = some (.string ⟨#[]⟩) := HR2.out.cell 4
        have h4 : (wr.setCell ⟨w.heap.size, 2, none⟩ (.slice Ao no co)).frozen? ⟨w.heap.size + 1, 4, none⟩ = false := HR2.out.free 4
        have r5 : (wr.setCell ⟨w.heap.size, 2, none⟩ (.slice Ao no co)).cell? ⟨w.heap.size + 1, 5, none⟩ = some (.int .i64 0) := HR2.out.cell 5
        have h5 : (wr.setCell ⟨w.heap.size, 2, none⟩ (.slice Ao no co)).frozen? ⟨w.heap.size + 1, 5, none⟩ = false := HR2.out.free 5
        have r6 : (wr.setCell ⟨w.heap.size, 2, none⟩ (.slice Ao no co)).cell? ⟨w.heap.size + 1, 6, none⟩ = some (.bool false) := HR2.out.cell 6
        have h6 : (wr.setCell ⟨w.heap.size, 2, none⟩ (.slice Ao no co)).frozen? ⟨w.heap.size + 1, 6, none⟩ = false := HR2.out.free 6
        go_wp2_with fail
        refine bodyPost_ret (v := .agg #[.int .i64 ck, .string ft, .slice Ao no co, .int .i64 K, .string fn, .int .i64 cq, .bool cb]) (c6End _ (w.heap.size + 1) _ _ _ _ _ _ _ _ rfl ?_) rfl ?_
        · exact ((((((HR2.out.put 0 _).put 1 _).put 2 _).put 3 _).put 4 _).put 5 _).put 6 _
        · refine ⟨_, by rw [HFT.out, HFN.out], ?_, ?_⟩
          · rw [← HE.out]
            exact ownC_down (far7 (g := w.heap.size + 1) (by omega) (OwnC.far HS.out.own (p := ⟨w.heap.size, 2, none⟩) (by show w.heap.size < _; omega) (.slice Ao no co)) _ _ _ _ _ _ _) (by omega)
          · exact below7 (g := w.heap.size + 1) (by omega) (HS.out.bel.setCell (p := ⟨w.heap.size, 2, none⟩) (by show w.heap.size ≤ w.heap.size; omega) _) _ _ _ _ _ _ _
    · obtain rfl : k = n := by omega
      have HE := Lib.hid (cutTo_end L k (.inl HN.out.symm) hk20)
      have f2 : wr.frozen? ⟨w.heap.size, 2, none⟩ = false := HS.out.prm.free 2
      have HP2 := Lib.hid (HS.out.prm.put 2 (.slice Ao no co))
      have HR2 := Lib.hid (HS.out.res.far (p := ⟨w.heap.size, 2, none⟩) (by show w.heap.size + 1 ≠ w.heap.size; omega) (.slice Ao no co))
      have g0 : (wr.setCell ⟨w.heap.size, 2, none⟩ (.slice Ao no co)).cell? ⟨w.heap.size, 0, none⟩ = some (.int .i64 ck) := HP2.out.cell 0
      have g1 : (wr.setCell ⟨w.heap.size, 2, none⟩ (.slice Ao no co)).cell? ⟨w.heap.size, 1, none⟩ = some (.string ft) := HP2.out.cell 1
      have g2 : (wr.setCell ⟨w.heap.size, 2, none⟩ (.slice Ao no co)).cell? ⟨w.heap.size, 2, none⟩ = some (.slice Ao no co) := HP2.out.cell 2
      have g3 : (wr.setCell ⟨w.heap.size, 2, none⟩ (.slice Ao no co)).cell? ⟨w.heap.size, 3, none⟩ = some (.int .i64 K) := HP2.out.cell 3
      have g4 : (wr.setCell ⟨w.heap.size, 2, none⟩ (.slice Ao no co)).cell? ⟨w.heap.size, 4, none⟩ = some (.string fn) := HP2.out.cell 4
      have g5 : (wr.setCell ⟨w.heap.size, 2, none⟩ (.slice Ao no co)).cell? ⟨w.heap.size, 5, none⟩ = some (.int .i64 cq) := HP2.out.cell 5
      have g6 : (wr.setCell ⟨w.heap.size, 2, none⟩ (.slice Ao no co)).cell? ⟨w.heap.size, 6, none⟩ = some (.bool cb) := HP2.out.cell 6
      have r0 : (wr.setCell ⟨w.heap.size, 2, none⟩ (.slice Ao no co)).cell? ⟨w.heap.size + 1, 0, none⟩ = some (.int .i64 0) := HR2.out.cell 0
      have h0 : (wr.setCell ⟨w.heap.size, 2, none⟩ (.slice Ao no co)).frozen? ⟨w.heap.size + 1, 0, none⟩ = false := HR2.out.free 0
      have r1 : (wr.setCell ⟨w.heap.size, 2, none⟩ (.slice Ao no co)).cell? ⟨w.heap.size + 1, 1, none⟩ = some (.string ⟨#[]⟩) := HR2.out.cell 1
      have h1 : (wr.setCell ⟨w.heap.size, 2, none⟩ (.slice Ao no co)).frozen? ⟨w.heap.size + 1, 1, none⟩ = false := HR2.out.free 1
      have r2 : (wr.setCell ⟨w.heap.size, 2, none⟩ (.slice Ao no co)).cell? ⟨w.heap.size + 1, 2, none⟩ = some (.slice none 0 0) := HR2.out.cell 2
      have h2 : (wr.setCell ⟨w.heap.size, 2, none⟩ (.slice Ao no co)).frozen? ⟨w.heap.size + 1, 2, none⟩ = false := HR2.out.free 2
      have r3 : (wr.setCell ⟨w.heap.size, 2, none⟩ (.slice Ao no co)).cell? ⟨w.heap.size + 1, 3, none⟩ = some (.int .i64 0) := HR2.out.cell 3
      have h3 : (wr.setCell ⟨w.heap.size, 2, none⟩ (.slice Ao no co)).frozen? ⟨w.heap.size + 1, 3, none⟩ = false := HR2.out.free 3
      have r4 : (wr.setCell ⟨w.heap.size, 2, none⟩ (.slice Ao no co)).cell? ⟨w.heap.size + 1, 4, none⟩ = some (.string ⟨#[]⟩) := HR2.out.cell 4
      have h4 : (wr.setCell ⟨w.heap.size, 2, none⟩ (.slice Ao no co)).frozen? ⟨w.heap.size + 1, 4, none⟩ = false := HR2.out.free 4
      have r5 : (wr.setCell ⟨w.heap.size, 2, none⟩ (.slice Ao no co)).cell? ⟨w.heap.size + 1, 5, none⟩ = some (.int .i64 0) := HR2.out.cell 5
      have h5 : (wr.setCell ⟨w.heap.size, 2, none⟩ (.slice Ao no co)).frozen? ⟨w.heap.size + 1, 5, none⟩ = false := HR2.out.free 5
      have r6 : (wr.setCell ⟨w.heap.size, 2, none⟩ (.slice Ao no co)).cell? ⟨w.heap.size + 1, 6, none⟩ = some (.bool false) := HR2.out.cell 6
      have h6 : (wr.setCell ⟨w.heap.size, 2, none⟩ (.slice Ao no co)).frozen? ⟨w.heap.size + 1, 6, none⟩ = false := HR2.out.free 6
      go_wp2_with fail
      refine bodyPost_ret (v := .agg #[.int .i64 ck, .string ft, .slice Ao no co, .int .i64 K, .string fn, .int .i64 cq, .bool cb]) (c6End _ (w.heap.size + 1) _ _ _ _ _ _ _ _ rfl ?_) rfl ?_
      · exact ((((((HR2.out.put 0 _).put 1 _).put 2 _).put 3 _).put 4 _).put 5 _).put 6 _
      · refine ⟨_, by rw [HFT.out, HFN.out], ?_, ?_⟩
        · rw [← HE.out]
          exact ownC_down (far7 (g := w.heap.size + 1) (by omega) (OwnC.far HS.out.own (p := ⟨w.heap.size, 2, none⟩) (by show w.heap.size < _; omega) (.slice Ao no co)) _ _ _ _ _ _ _) (by omega)
        · exact below7 (g := w.heap.size + 1) (by omega) (HS.out.bel.setCell (p := ⟨w.heap.size, 2, none⟩) (by show w.heap.size ≤ w.heap.size; omega) _) _ _ _ _ _ _ _
end Go.Proofs.YtiefogofiajmnaaDoor
