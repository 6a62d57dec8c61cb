/-
  Sameness of values, columns and events of any size.
-/
import Derived.Test.YtjkmbggaoinkdaaCol
import Derived.RegionTactic
import Derived.Deep.QuietTactic
import Derived.BigQuiet
namespace Go.Proofs.Ytjkmbggaoinkdaa
open Go.RowKit Dg
set_option linter.unusedVariables false
def Vl.eqb (x y : Vl) : Bool := x.k == y.k && x.n == y.n && x.s.toList == y.s.toList
theorem toList_inj {s t : ByteArray} (h : s.toList = t.toList) : s = t := by
  rw [← bs_sb s, ← bs_sb t] at h ⊢
  rw [bs_toList, bs_toList] at h
  unfold bs
  rw [h]
theorem Vl.eqb_iff (x y : Vl) : x.eqb y = true ↔ x = y := by
  obtain ⟨a, b, c⟩ := x
  obtain ⟨a', b', c'⟩ := y
  simp only [Vl.eqb, Bool.and_eq_true, beq_iff_eq, Vl.mk.injEq]
  constructor
  · rintro ⟨⟨rfl, rfl⟩, h⟩; exact ⟨rfl, rfl, toList_inj h⟩
  · rintro ⟨rfl, rfl, rfl⟩; exact ⟨⟨rfl, rfl⟩, rfl⟩
def vsTo (L M : List Vl) (k : Nat) : Bool := (List.range k).all fun i => match L[i]?, M[i]? with | some x, some y => x.eqb y | _, _ => true
theorem vsTo_succ (L M : List Vl) (k : Nat) (hL : k < L.length) (hM : k < M.length) : vsTo L M (k + 1) = (vsTo L M k && L[k].eqb M[k]) := by
  unfold vsTo; rw [List.range_succ, List.all_append]; simp [hL, hM]
theorem vsTo_false (L M : List Vl) (k n : Nat) (hk : k < n) (hL : k < L.length) (hM : k < M.length) (h : L[k].eqb M[k] = false) : vsTo L M n = false := by
  unfold vsTo; rw [List.all_eq_false]
  exact ⟨k, List.mem_range.2 hk, by simp [hL, hM, h]⟩
def vsF (L M : List Vl) : Bool := decide (L.length = M.length) && vsTo L M L.length
theorem vsF_iff (L M : List Vl) : vsF L M = true ↔ L = M := by
  unfold vsF vsTo
  simp only [Bool.and_eq_true, decide_eq_true_eq, List.all_eq_true]
  constructor
  · intro ⟨h1, h2⟩
    refine List.ext_getElem h1 fun i hi hj => ?_
    have := h2 i (List.mem_range.2 hi)
    rw [List.getElem?_eq_getElem hi, List.getElem?_eq_getElem hj] at this
    exact (Vl.eqb_iff _ _).1 this
  · rintro rfl
    refine ⟨rfl, fun i hi => ?_⟩
    have hi := List.mem_range.1 hi
    rw [List.getElem?_eq_getElem hi]
    exact (Vl.eqb_iff _ _).2 rfl
/-- Are two columns the same? -/
def Cl.eqb (x y : Cl) : Bool := x.nm.toList == y.nm.toList && x.k == y.k && x.no == y.no
theorem Cl.eqb_refl (x : Cl) : x.eqb x = true := by simp [Cl.eqb]
def csTo (L M : List Cl) (k : Nat) : Bool := (List.range k).all fun i => match L[i]?, M[i]? with | some x, some y => x.eqb y | _, _ => true
theorem csTo_succ (L M : List Cl) (k : Nat) (hL : k < L.length) (hM : k < M.length) : csTo L M (k + 1) = (csTo L M k && L[k].eqb M[k]) := by
  unfold csTo; rw [List.range_succ, List.all_append]; simp [hL, hM]
theorem csTo_false (L M : List Cl) (k n : Nat) (hk : k < n) (hL : k < L.length) (hM : k < M.length) (h : L[k].eqb M[k] = false) : csTo L M n = false := by
  unfold csTo; rw [List.all_eq_false]
  exact ⟨k, List.mem_range.2 hk, by simp [hL, hM, h]⟩
def csF (L M : List Cl) : Bool := decide (L.length = M.length) && csTo L M L.length
def ssF (L : List Cl) (K : Int) (M : List Cl) (K' : Int) : Bool := K == K' && csF L M
theorem csF_refl (L : List Cl) : csF L L = true := by
  unfold csF csTo; simp
  intro i hi
  cases h : L[i]? with
  | none => rfl
  | some x => simp [Cl.eqb_refl]
theorem ssF_refl (L : List Cl) (K : Int) : ssF L K L K = true := by simp [ssF, csF_refl]
theorem partK (xs : Array Value) (i : Nat) (v : Value) (h : xs[i]? = some v) (w : World) : (part 4 xs i).run Try.prog w = .ok v w := by
  unfold part
  simp [Sem.run_bind, Try.isAgg4, h]
theorem partN (xs : Array Value) (i : Nat) (v : Value) (h : xs[i]? = some v) (w : World) : (part 3 xs i).run Try.prog w = .ok v w := by
  unfold part
  simp [Sem.run_bind, Try.isAgg3, h]
theorem partT (xs : Array Value) (i : Nat) (v : Value) (h : xs[i]? = some v) (w : World) : (part 9 xs i).run Try.prog w = .ok v w := by
  unfold part
  simp [Sem.run_bind, Try.isAgg9, h]
theorem eqC (s s' : ByteArray) (k k' : Int) (b b' : Bool) (w : World) : (Op.equalIn 10000 34 (.agg #[.string s, .int .i64 k, .bool b]) (.agg #[.string s', .int .i64 k', .bool b'])).run Try.prog w = .ok (Cl.eqb ⟨s, k, b⟩ ⟨s', k', b'⟩) w := by
  have e := fun (a b : Int) (w : World) => run_equalIn_int (P := Try.prog) w 9998 3 .i64 .i64 a b Try.underlying3
  have es := fun (a b : ByteArray) (w : World) => run_equalIn_string (P := Try.prog) w 9998 9 a b Try.underlying9
  have eb := fun (a b : Bool) (w : World) => run_equalIn_bool (P := Try.prog) w 9998 4 a b Try.underlying4
  have p0 := fun (x0 x1 x2 : Value) => partT #[x0, x1, x2] 0 x0 rfl
  have p1 := fun (x0 x1 x2 : Value) => partN #[x0, x1, x2] 1 x1 rfl
  have p2 := fun (x0 x1 x2 : Value) => partK #[x0, x1, x2] 2 x2 rfl
  rw [show (10000 : Nat) = 9999 + 1 by rfl, run_equalIn_agg w 9999 34 _ _ (by kernel_rfl) (by kernel_rfl)]
  unfold Program.fieldsOf
  rw [Try.underlying34]
  by_cases h0 : s.toList = s'.toList <;> by_cases h1 : k = k' <;> by_cases h2 : b = b' <;>
  simp [Op.eqFields, Sem.run_bind, Result.andThen, p0, p1, p2, e, es, eb, h0, h1, h2, Cl.eqb]
/-- An event. -/
structure Ev where
  k : Int
  n : Int
  t : ByteArray
  B : List Vl
  A : List Vl
  ck : Int
  ct : ByteArray
  L : List Cl
  K : Int
  cl : Cl
def chF (x y : Ev) : Bool := x.ck == y.ck && x.ct.toList == y.ct.toList && x.cl.eqb y.cl && ssF x.L x.K y.L y.K
def evF (x y : Ev) : Bool := x.k == y.k && x.n == y.n && x.t.toList == y.t.toList && vsF x.B y.B && vsF x.A y.A && chF x y
theorem vsF_refl (L : List Vl) : vsF L L = true := (vsF_iff L L).2 rfl
theorem vsF_symm (L M : List Vl) : vsF L M = vsF M L := Bool.eq_iff_iff.2 (by rw [vsF_iff, vsF_iff]; exact ⟨Eq.symm, Eq.symm⟩)
theorem Cl.eqb_iff (x y : Cl) : x.eqb y = true ↔ x = y := by
  obtain ⟨a, b, c⟩ := x
  obtain ⟨a', b', c'⟩ := y
  simp only [Cl.eqb, Bool.and_eq_true, beq_iff_eq, Cl.mk.injEq]
  constructor
  · rintro ⟨⟨h, rfl⟩, rfl⟩; exact ⟨toList_inj h, rfl, rfl⟩
  · rintro ⟨rfl, rfl, rfl⟩; exact ⟨⟨rfl, rfl⟩, rfl⟩
theorem csF_iff (L M : List Cl) : csF L M = true ↔ L = M := by
  unfold csF csTo
  simp only [Bool.and_eq_true, decide_eq_true_eq, List.all_eq_true]
  constructor
  · intro ⟨h1, h2⟩
    refine List.ext_getElem h1 fun i hi hj => ?_
    have := h2 i (List.mem_range.2 hi)
    rw [List.getElem?_eq_getElem hi, List.getElem?_eq_getElem hj] at this
    exact (Cl.eqb_iff _ _).1 this
  · rintro rfl
    refine ⟨rfl, fun i hi => ?_⟩
    have hi := List.mem_range.1 hi
    rw [List.getElem?_eq_getElem hi]
    exact (Cl.eqb_iff _ _).2 rfl
theorem chF_refl (x : Ev) : chF x x = true := by simp [chF, Cl.eqb_refl, ssF_refl]
theorem evF_refl (x : Ev) : evF x x = true := by simp [evF, chF_refl, vsF_refl]
theorem bsym {α} [BEq α] [LawfulBEq α] (a b : α) : (a == b) = (b == a) := Bool.eq_iff_iff.2 (by rw [beq_iff_eq, beq_iff_eq]; exact ⟨Eq.symm, Eq.symm⟩)
theorem chF_symm (x y : Ev) : chF x y = chF y x := by
  have h1 : x.cl.eqb y.cl = y.cl.eqb x.cl := Bool.eq_iff_iff.2 (by rw [Cl.eqb_iff, Cl.eqb_iff]; exact ⟨Eq.symm, Eq.symm⟩)
  have h2 : csF x.L y.L = csF y.L x.L := Bool.eq_iff_iff.2 (by rw [csF_iff, csF_iff]; exact ⟨Eq.symm, Eq.symm⟩)
  unfold chF ssF
  rw [h1, h2, bsym x.ck, bsym x.ct.toList, bsym x.K]
theorem evF_symm (x y : Ev) : evF x y = evF y x := by
  unfold evF
  rw [chF_symm, vsF_symm x.B, vsF_symm x.A, bsym x.k, bsym x.n, bsym x.t.toList]
set_option maxHeartbeats 4000000 in
set_option maxRecDepth 100000 in
theorem vsameB_any (A : Option Addr) (L : List Vl) (n c : Nat) (A' : Option Addr) (M : List Vl) (n' c' : Nat) (w : World) (hn : L.length = n) (hn' : M.length = n') (hl : (n : Int) ≤ 9223372036854775807) (hA : VRow w A L) (hA' : VRow w A' M) :
    Calls Try.prog 27 #[.slice A n c, .slice A' n' c'] w fun e w' => e = .returned (.bool (vsF L M)) ∧ Hid (Below w.heap.size w w') := by
  have HN := Lib.hid hn
  have HN' := Lib.hid hn'
  have HA := Lib.hid hA
  have HA' := Lib.hid hA'
  have eq := eqV
  clear hn hA hA' hn'
  by_cases hnn : n = n'
  · subst hnn
    have HC : Hid (vsF L M = vsTo L M n) := by show _ = _; unfold vsF; rw [HN.out, HN'.out]; simp
    go_enter Try.func27, Try.ntmps27
    go_wp2_with fail
    go_loopw [5] (fun i wr => ∃ k : Nat, k ≤ n ∧ i = .int .i64 k ∧ Hid (vsTo L M k = true) ∧ Hid (Below w.heap.size w wr)) (fun i _ => n - (intOf i).toNat)
    case atStart => exact ⟨0, by omega, rfl, rfl, Below.refl _ _⟩
    case round =>
      obtain ⟨k, hk, rfl, HT, HB⟩ := hrel
      by_cases hlt : k < n
      · have hkl : k < L.length := by rw [HN.out]; exact hlt
        have hkm : k < M.length := by rw [HN'.out]; exact hlt
        obtain ⟨b, off, rfl, hc⟩ := (HA.out.below HB.out) (by intro e; rw [e] at hkl; simp at hkl)
        obtain ⟨b', off', rfl, hc'⟩ := (HA'.out.below HB.out) (by intro e; rw [e] at hkm; simp at hkm)
        obtain ⟨c0, c1, c2⟩ := hc k hkl
        obtain ⟨d0, d1, d2⟩ := hc' k hkm
        have HS := Lib.hid (vsTo_succ L M k hkl hkm)
        have HF := Lib.hid (vsTo_false L M k n hlt hkl hkm)
        clear hc hc'
        generalize L[k] = x at *
        generalize M[k] = y at *
        obtain ⟨xk, xn, xs⟩ := x
        obtain ⟨yk, yn, ys⟩ := y
        simp only at c0 c1 c2 d0 d1 d2
        have hkz : (k : Int) < (n : Int) := by omega
        have hk0 : (0 : Int) ≤ (k : Int) := by omega
        have HE : Hid (Vl.eqb ⟨xk, xn, xs⟩ ⟨yk, yn, ys⟩ = (xk == yk && xn == yn && xs.toList == ys.toList)) := rfl
        generalize hq : (xk == yk && xn == yn && xs.toList == ys.toList) = q at *
        have eq2 : ∀ W, (Op.equalIn 10000 51 (.agg #[.int .i64 xk, .int .i64 xn, .string xs]) (.agg #[.int .i64 yk, .int .i64 yn, .string ys])).run Try.prog W = .ok q W := fun W => by rw [eq, hq]
        clear eq hq
        cases q
        · go_wp2_with fail
          go_region
          all_goals
            go_wp2_with fail
            go_ret
            exact ⟨by rw [HC.out, HF.out HE.out]; rfl, HB.out.drew⟩
        · go_wp2_with fail
          go_region
          all_goals
            go_wp2_with fail
            go_roundw
            case rel => exact ⟨k + 1, by omega, by go_num, by show _ = _; rw [HS.out, HT.out, HE.out]; rfl, HB.out.drew⟩
            case measure => simp [intOf]; omega
      · obtain rfl : k = n := by omega
        go_wp2_with fail
        go_ret
        exact ⟨by rw [HC.out, HT.out]; rfl, HB⟩
  · have HC : Hid (vsF L M = false) := by show _ = _; unfold vsF; rw [HN.out, HN'.out]; simp [hnn]
    have hq : ((n : Int) != (n' : Int)) = true := by simp; omega
    go_enter Try.func27, Try.ntmps27
    go_wp2_with fail
    go_ret
    exact ⟨by rw [HC.out]; rfl, Below.refl _ _⟩
set_option maxHeartbeats 2000000 in
set_option maxRecDepth 100000 in
theorem rsame_any (A : Option Addr) (L : List Cl) (n c : Nat) (K : Int) (A' : Option Addr) (M : List Cl) (n' c' : Nat) (K' : Int) (w : World) (hn : L.length = n) (hn' : M.length = n') (hl : (n : Int) ≤ 9223372036854775807) (hl' : (n' : Int) ≤ 9223372036854775807) (hA : CRow w A L) (hA' : CRow w A' M) :
    Calls Try.prog 30 #[.agg #[.slice A n c, .int .i64 K], .agg #[.slice A' n' c', .int .i64 K']] w fun e w' => e = .returned (.bool (ssF L K M K')) ∧ Hid (Below w.heap.size w w') := by
  have HB0 := Lib.hid (((Below.refl w.heap.size w).alloc (Nat.le_refl _) (.cells #[.slice A n c, .int .i64 K] 32)).alloc (by simp) (.cells #[.slice A' n' c', .int .i64 K'] 32))
  have HX0 := Lib.hid ((Has.new w 32 #[.slice A n c, .int .i64 K]).alloc (.cells #[.slice A' n' c', .int .i64 K'] 32))
  have hy := Has.new (w.alloc (.cells #[.slice A n c, .int .i64 K] 32)) 32 #[.slice A' n' c', .int .i64 K']
  rw [show (w.alloc (.cells #[.slice A n c, .int .i64 K] 32)).heap.size = w.heap.size + 1 by simp] at hy
  have HY0 := Lib.hid hy
  have HN := Lib.hid hn
  have HN' := Lib.hid hn'
  have HA := Lib.hid hA
  have HA' := Lib.hid hA'
  have eq := eqC
  clear hn hA hA' hn' hy
  by_cases hk : K = K'
  · subst hk
    by_cases hnn : n = n'
    · subst hnn
      have HC : Hid (ssF L K M K = csTo L M n) := by show _ = _; unfold ssF csF; rw [HN.out, HN'.out]; simp
      go_enter Try.func30, Try.ntmps30
      go_wp2_with fail
      go_loopw [5] (fun i wr => ∃ k : Nat, k ≤ n ∧ i = .int .i64 k ∧ Hid (csTo L M k = true) ∧ Hid (Below w.heap.size w wr) ∧ Hid (Has wr w.heap.size 32 #[.slice A n c, .int .i64 K]) ∧ Hid (Has wr (w.heap.size + 1) 32 #[.slice A' n c', .int .i64 K])) (fun i _ => n - (intOf i).toNat)
      case atStart => exact ⟨0, by omega, rfl, rfl, HB0.out, HX0.out, HY0.out⟩
      case round =>
        obtain ⟨k, hk, rfl, HT, HB, HX, HY⟩ := hrel
        have a0 := HX.out.cell 0
        have a1 := HY.out.cell 0
        simp at a0 a1
        by_cases hlt : k < n
        · have hkl : k < L.length := by rw [HN.out]; exact hlt
          have hkm : k < M.length := by rw [HN'.out]; exact hlt
          obtain ⟨b, off, rfl, hc⟩ := (HA.out.below HB.out) (by intro e; rw [e] at hkl; simp at hkl)
          obtain ⟨b', off', rfl, hc'⟩ := (HA'.out.below HB.out) (by intro e; rw [e] at hkm; simp at hkm)
          obtain ⟨c0, c1, c2⟩ := hc k hkl
          obtain ⟨d0, d1, d2⟩ := hc' k hkm
          have HS := Lib.hid (csTo_succ L M k hkl hkm)
          have HF := Lib.hid (csTo_false L M k n hlt hkl hkm)
          clear hc hc'
          generalize L[k] = x at *
          generalize M[k] = y at *
          obtain ⟨xa, xb, xc⟩ := x
          obtain ⟨ya, yb, yc⟩ := y
          simp only at c0 c1 c2 d0 d1 d2
          have hkz : (k : Int) < (n : Int) := by omega
          have hk0 : (0 : Int) ≤ (k : Int) := by omega
          cases hq : Cl.eqb ⟨xa, xb, xc⟩ ⟨ya, yb, yc⟩
          · go_wp2_with fail
            go_region
            all_goals
              go_wp2_with fail
              go_ret
              exact ⟨by rw [HC.out, HF.out hq]; rfl, HB.out.drew⟩
          · go_wp2_with fail
            go_region
            all_goals
              go_wp2_with fail
              go_roundw
              case rel => exact ⟨k + 1, by omega, by go_num, by show _ = _; rw [HS.out, HT.out, hq]; rfl, HB.out.drew, HX.out.drew, HY.out.drew⟩
              case measure => simp [intOf]; omega
        · obtain rfl : k = n := by omega
          go_wp2_with fail
          go_ret
          exact ⟨by rw [HC.out, HT.out]; rfl, HB⟩
    · have HC : Hid (ssF L K M K = false) := by show _ = _; unfold ssF csF; rw [HN.out, HN'.out]; simp [hnn]
      have hq : ((n : Int) != (n' : Int)) = true := by simp; omega
      go_enter Try.func30, Try.ntmps30
      go_wp2_with fail
      go_ret
      exact ⟨by rw [HC.out]; rfl, HB0⟩
  · have HS : Hid (ssF L K M K' = false) := by show _ = _; simp [ssF, hk]
    have hq : (K != K') = true := by simp [hk]
    go_enter Try.func30, Try.ntmps30
    go_wp2_with fail
    go_ret
    exact ⟨by rw [HS.out]; rfl, HB0⟩
end Go.Proofs.Ytjkmbggaoinkdaa
