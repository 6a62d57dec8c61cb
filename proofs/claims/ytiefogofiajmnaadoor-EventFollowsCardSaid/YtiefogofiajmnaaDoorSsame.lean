/-
  Whether two schemas are the same: the program's Same and the document's; a clone of one.
-/
import Derived.Test.YtiefogofiajmnaaDoorFind
namespace Go.Proofs.YtiefogofiajmnaaDoor
open Go.RowKit Dg
/-- Are two columns the same? -/
def Cl.eqb (x y : Cl) : Bool := x.nm.toList == y.nm.toList && x.k == y.k && x.no == y.no
theorem Cl.eqb_refl (x : Cl) : x.eqb x = true := by simp [Cl.eqb]
def csTo (L M : List Cl) (k : Nat) : Bool := (List.range k).all fun i => match L[i]?, M[i]? with | some x, some y => x.eqb y | _, _ => true
theorem csTo_succ (L M : List Cl) (k : Nat) (hL : k < L.length) (hM : k < M.length) : csTo L M (k + 1) = (csTo L M k && L[k].eqb M[k]) := by
  unfold csTo; rw [List.range_succ, List.all_append]; simp [hL, hM]
theorem csTo_false (L M : List Cl) (k n : Nat) (hk : k < n) (hL : k < L.length) (hM : k < M.length) (h : L[k].eqb M[k] = false) : csTo L M n = false := by
  unfold csTo; rw [List.all_eq_false]
  exact ⟨k, List.mem_range.2 hk, by simp [hL, hM, h]⟩
def csF (L M : List Cl) : Bool := decide (L.length = M.length) && csTo L M L.length
def ssF (L : List Cl) (K : Int) (M : List Cl) (K' : Int) : Bool := K == K' && csF L M
theorem csF_refl (L : List Cl) : csF L L = true := by
  unfold csF csTo; simp
  intro i hi
  cases h : L[i]? with
  | none => rfl
  | some x => simp [Cl.eqb_refl]
theorem ssF_refl (L : List Cl) (K : Int) : ssF L K L K = true := by simp [ssF, csF_refl]
theorem partK (xs : Array Value) (i : Nat) (v : Value) (h : xs[i]? = some v) (w : World) : (part 4 xs i).run Tryd.prog w = .ok v w := by
  unfold part
  simp [Sem.run_bind, Tryd.isAgg4, h]
theorem partN (xs : Array Value) (i : Nat) (v : Value) (h : xs[i]? = some v) (w : World) : (part 3 xs i).run Tryd.prog w = .ok v w := by
  unfold part
  simp [Sem.run_bind, Tryd.isAgg3, h]
theorem partT (xs : Array Value) (i : Nat) (v : Value) (h : xs[i]? = some v) (w : World) : (part 9 xs i).run Tryd.prog w = .ok v w := by
  unfold part
  simp [Sem.run_bind, Tryd.isAgg9, h]
theorem eqC (s s' : ByteArray) (k k' : Int) (b b' : Bool) (w : World) : (Op.equalIn 10000 38 (.agg #[.string s, .int .i64 k, .bool b]) (.agg #[.string s', .int .i64 k', .bool b'])).run Tryd.prog w = .ok (Cl.eqb ⟨s, k, b⟩ ⟨s', k', b'⟩) w := by
  have e := fun (a b : Int) (w : World) => run_equalIn_int (P := Tryd.prog) w 9998 3 .i64 .i64 a b Tryd.underlying3
  have es := fun (a b : ByteArray) (w : World) => run_equalIn_string (P := Tryd.prog) w 9998 9 a b Tryd.underlying9
  have eb := fun (a b : Bool) (w : World) => run_equalIn_bool (P := Tryd.prog) w 9998 4 a b Tryd.underlying4
  have p0 := fun (x0 x1 x2 : Value) => partT #[x0, x1, x2] 0 x0 rfl
  have p1 := fun (x0 x1 x2 : Value) => partN #[x0, x1, x2] 1 x1 rfl
  have p2 := fun (x0 x1 x2 : Value) => partK #[x0, x1, x2] 2 x2 rfl
  rw [show (10000 : Nat) = 9999 + 1 by rfl, run_equalIn_agg w 9999 38 _ _ (by kernel_rfl) (by kernel_rfl)]
  unfold Program.fieldsOf
  rw [Tryd.underlying38]
  by_cases h0 : s.toList = s'.toList <;> by_cases h1 : k = k' <;> by_cases h2 : b = b' <;>
  simp [Op.eqFields, Sem.run_bind, Result.andThen, p0, p1, p2, e, es, eb, h0, h1, h2, Cl.eqb]
set_option maxHeartbeats 2000000 in
set_option maxRecDepth 100000 in
theorem equal_any (A : Option Addr) (L : List Cl) (n c : Nat) (A' : Option Addr) (M : List Cl) (n' c' : Nat) (w : World) (hn : L.length = n) (hn' : M.length = n') (hl : n ≤ 1000) (hl' : n' ≤ 1000) (hA : CRow w A L) (hA' : CRow w A' M) :
    Calls Tryd.prog 99 #[.slice A n c, .slice A' n' c'] w fun e w' => e = .returned (.bool (csF L M)) ∧ Hid (Below w.heap.size w w') := by
  have HN := Lib.hid hn
  have HN' := Lib.hid hn'
  have HA := Lib.hid hA
  have HA' := Lib.hid hA'
  have HB0 := Lib.hid (Below.refl w.heap.size w)
  have eq := eqC
  clear hn hA hA' hn'
  by_cases hnn : n = n'
  · subst hnn
    have HC : Hid (csF L M = csTo L M n) := by show _ = _; unfold csF; rw [HN.out, HN'.out]; simp
    go_enter Tryd.func99, Tryd.ntmps99
    go_wp2_with fail
    go_loopw [13] (fun i wr => ∃ k : Nat, k ≤ n ∧ i = .int .i64 k ∧ Hid (csTo L M k = true) ∧ Hid (Below w.heap.size w wr)) (fun i _ => n - (intOf i).toNat)
    case atStart => exact ⟨0, by omega, rfl, rfl, Below.refl _ _⟩
    case round =>
      obtain ⟨k, hk, rfl, HT, HB⟩ := hrel
      by_cases hlt : k < n
      · have hkl : k < L.length := by rw [HN.out]; exact hlt
        have hkm : k < M.length := by rw [HN'.out]; exact hlt
        obtain ⟨b, off, rfl, hc⟩ := (HA.out.below HB.out) (by intro e; rw [e] at hkl; simp at hkl)
        obtain ⟨b', off', rfl, hc'⟩ := (HA'.out.below HB.out) (by intro e; rw [e] at hkm; simp at hkm)
        obtain ⟨c0, c1, c2⟩ := hc k hkl
        obtain ⟨d0, d1, d2⟩ := hc' k hkm
        have HS := Lib.hid (csTo_succ L M k hkl hkm)
        have HF := Lib.hid (csTo_false L M k n hlt hkl hkm)
        clear hc hc'
        generalize L[k] = x at *
        generalize M[k] = y at *
        obtain ⟨xa, xb, xc⟩ := x
        obtain ⟨ya, yb, yc⟩ := y
        simp only at c0 c1 c2 d0 d1 d2
        have hkz : (k : Int) < (n : Int) := by omega
        have hk0 : (0 : Int) ≤ (k : Int) := by omega
        cases hq : Cl.eqb ⟨xa, xb, xc⟩ ⟨ya, yb, yc⟩
        · go_wp2_with fail
          go_region
          all_goals
            go_wp2_with fail
            go_ret
            exact ⟨by rw [HC.out, HF.out hq]; rfl, HB.out.drew⟩
        · go_wp2_with fail
          go_region
          all_goals
            go_wp2_with fail
            go_roundw
            case rel => exact ⟨k + 1, by omega, by go_num, by show _ = _; rw [HS.out, HT.out, hq]; rfl, HB.out.drew⟩
            case measure => simp [intOf]; omega
      · obtain rfl : k = n := by omega
        go_wp2_with fail
        go_ret
        exact ⟨by rw [HC.out, HT.out]; rfl, HB⟩
  · have HC : Hid (csF L M = false) := by show _ = _; unfold csF; rw [HN.out, HN'.out]; simp [hnn]
    have hq : ((n : Int) != (n' : Int)) = true := by simp; omega
    go_enter Tryd.func99, Tryd.ntmps99
    go_wp2_with fail
    go_ret
    exact ⟨by rw [HC.out]; rfl, HB0⟩
set_option maxHeartbeats 1000000 in
theorem same4_any (A : Option Addr) (L : List Cl) (n c : Nat) (K : Int) (A' : Option Addr) (M : List Cl) (n' c' : Nat) (K' : Int) (w : World) (hn : L.length = n) (hn' : M.length = n') (hl : n ≤ 1000) (hl' : n' ≤ 1000) (hA : CRow w A L) (hA' : CRow w A' M) :
    Calls Tryd.prog 94 #[.agg #[.slice A n c, .int .i64 K], .agg #[.slice A' n' c', .int .i64 K']] w fun e w' => e = .returned (.bool (ssF L K M K')) ∧ Hid (Below w.heap.size w w') := by
  have HB := Lib.hid (((Below.refl w.heap.size w).alloc (Nat.le_refl _) (.cells #[.slice A n c, .int .i64 K] 28)).alloc (by simp) (.cells #[.slice A' n' c', .int .i64 K'] 28))
  have HC := Lib.hid (equal_any A L n c A' M n' c' _ hn hn' hl hl' (hA.below HB.out) (hA'.below HB.out))
  clear hn hn' hA hA'
  by_cases hk : K = K'
  · subst hk
    have HS : Hid (ssF L K M K = csF L M) := by show _ = _; simp [ssF]
    go_enter Tryd.func94, Tryd.ntmps94
    go_wp2_with fail
    refine HC.out.mono ?_
    rintro e w1 ⟨rfl, hb1⟩
    have HB1 := Lib.hid (HB.out.trans (hb1.out.mono HB.out.size))
    clear hb1
    go_wp2_with fail
    go_ret
    exact ⟨by rw [HS.out]; rfl, HB1⟩
  · have HS : Hid (ssF L K M K' = false) := by show _ = _; simp [ssF, hk]
    have hq : (K == K') = false := by simp [hk]
    go_enter Tryd.func94, Tryd.ntmps94
    go_wp2_with fail
    go_ret
    exact ⟨by rw [HS.out]; rfl, HB⟩
set_option maxHeartbeats 2000000 in
set_option maxRecDepth 100000 in
theorem rsame_any (A : Option Addr) (L : List Cl) (n c : Nat) (K : Int) (A' : Option Addr) (M : List Cl) (n' c' : Nat) (K' : Int) (w : World) (hn : L.length = n) (hn' : M.length = n') (hl : n ≤ 1000) (hl' : n' ≤ 1000) (hA : CRow w A L) (hA' : CRow w A' M) :
    Calls Tryd.prog 12 #[.agg #[.slice A n c, .int .i64 K], .agg #[.slice A' n' c', .int .i64 K']] w fun e w' => e = .returned (.bool (ssF L K M K')) ∧ Hid (Below w.heap.size w w') := by
  have HB0 := Lib.hid (((Below.refl w.heap.size w).alloc (Nat.le_refl _) (.cells #[.slice A n c, .int .i64 K] 28)).alloc (by simp) (.cells #[.slice A' n' c', .int .i64 K'] 28))
  have HX0 := Lib.hid ((Has.new w 28 #[.slice A n c, .int .i64 K]).alloc (.cells #[.slice A' n' c', .int .i64 K'] 28))
  have hy := Has.new (w.alloc (.cells #[.slice A n c, .int .i64 K] 28)) 28 #[.slice A' n' c', .int .i64 K']
  rw [show (w.alloc (.cells #[.slice A n c, .int .i64 K] 28)).heap.size = w.heap.size + 1 by simp] at hy
  have HY0 := Lib.hid hy
  have HN := Lib.hid hn
  have HN' := Lib.hid hn'
  have HA := Lib.hid hA
  have HA' := Lib.hid hA'
  have eq := eqC
  clear hn hA hA' hn' hy
  by_cases hk : K = K'
  · subst hk
    by_cases hnn : n = n'
    · subst hnn
      have HC : Hid (ssF L K M K = csTo L M n) := by show _ = _; unfold ssF csF; rw [HN.out, HN'.out]; simp
      go_enter Tryd.func12, Tryd.ntmps12
      go_wp2_with fail
      go_loopw [5] (fun i wr => ∃ k : Nat, k ≤ n ∧ i = .int .i64 k ∧ Hid (csTo L M k = true) ∧ Hid (Below w.heap.size w wr) ∧ Hid (Has wr w.heap.size 28 #[.slice A n c, .int .i64 K]) ∧ Hid (Has wr (w.heap.size + 1) 28 #[.slice A' n c', .int .i64 K])) (fun i _ => n - (intOf i).toNat)
      case atStart => exact ⟨0, by omega, rfl, rfl, HB0.out, HX0.out, HY0.out⟩
      case round =>
        obtain ⟨k, hk, rfl, HT, HB, HX, HY⟩ := hrel
        have a0 := HX.out.cell 0
        have a1 := HY.out.cell 0
        simp at a0 a1
        by_cases hlt : k < n
        · have hkl : k < L.length := by rw [HN.out]; exact hlt
          have hkm : k < M.length := by rw [HN'.out]; exact hlt
          obtain ⟨b, off, rfl, hc⟩ := (HA.out.below HB.out) (by intro e; rw [e] at hkl; simp at hkl)
          obtain ⟨b', off', rfl, hc'⟩ := (HA'.out.below HB.out) (by intro e; rw [e] at hkm; simp at hkm)
          obtain ⟨c0, c1, c2⟩ := hc k hkl
          obtain ⟨d0, d1, d2⟩ := hc' k hkm
          have HS := Lib.hid (csTo_succ L M k hkl hkm)
          have HF := Lib.hid (csTo_false L M k n hlt hkl hkm)
          clear hc hc'
          generalize L[k] = x at *
          generalize M[k] = y at *
          obtain ⟨xa, xb, xc⟩ := x
          obtain ⟨ya, yb, yc⟩ := y
          simp only at c0 c1 c2 d0 d1 d2
          have hkz : (k : Int) < (n : Int) := by omega
          have hk0 : (0 : Int) ≤ (k : Int) := by omega
          cases hq : Cl.eqb ⟨xa, xb, xc⟩ ⟨ya, yb, yc⟩
          · go_wp2_with fail
            go_region
            all_goals
              go_wp2_with fail
              go_ret
              exact ⟨by rw [HC.out, HF.out hq]; rfl, HB.out.drew⟩
          · go_wp2_with fail
            go_region
            all_goals
              go_wp2_with fail
              go_roundw
              case rel => exact ⟨k + 1, by omega, by go_num, by show _ = _; rw [HS.out, HT.out, hq]; rfl, HB.out.drew, HX.out.drew, HY.out.drew⟩
              case measure => simp [intOf]; omega
        · obtain rfl : k = n := by omega
          go_wp2_with fail
          go_ret
          exact ⟨by rw [HC.out, HT.out]; rfl, HB⟩
    · have HC : Hid (ssF L K M K = false) := by show _ = _; unfold ssF csF; rw [HN.out, HN'.out]; simp [hnn]
      have hq : ((n : Int) != (n' : Int)) = true := by simp; omega
      go_enter Tryd.func12, Tryd.ntmps12
      go_wp2_with fail
      go_ret
      exact ⟨by rw [HC.out]; rfl, HB0⟩
  · have HS : Hid (ssF L K M K' = false) := by show _ = _; simp [ssF, hk]
    have hq : (K != K') = true := by simp [hk]
    go_enter Tryd.func12, Tryd.ntmps12
    go_wp2_with fail
    go_ret
    exact ⟨by rw [HS.out]; rfl, HB0⟩
end Go.Proofs.YtiefogofiajmnaaDoor
