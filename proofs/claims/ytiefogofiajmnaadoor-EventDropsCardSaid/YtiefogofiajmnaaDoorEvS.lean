/-
  Whether two events are the same: the program's Same and the document's; few columns of a change.
-/
import Derived.Test.YtiefogofiajmnaaDoorMg2
namespace Go.Proofs.YtiefogofiajmnaaDoor
open Go.RowKit Dg
def chG (ck ck' : Int) (ct ct' : ByteArray) (q q' : Cl) (L L' : List Cl) (K K' : Int) : Bool := ck == ck' && ct.toList == ct'.toList && q.eqb q' && ssF L K L' K'
theorem chF_eq (x y : Ev) : chF x y = chG x.ck y.ck x.ct y.ct x.cl y.cl x.L y.L x.K y.K := rfl
/-- An event whose value and rows are known. -/
structure EvAt (w : World) (v : Value) (x : Ev) : Prop where
  known : ∃ Ab nb zb Aa na za A n c, v = .agg #[.int .i64 x.k, .int .i64 x.n, .string x.t, .slice Ab nb zb, .slice Aa na za, .int .i64 x.ck, .string x.ct, .slice A n c, .int .i64 x.K, .string x.cl.nm, .int .i64 x.cl.k, .bool x.cl.no] ∧ (x.B.length = nb ∧ (nb : Int) ≤ 9223372036854775807 ∧ VRow w Ab x.B) ∧ (x.A.length = na ∧ (na : Int) ≤ 9223372036854775807 ∧ VRow w Aa x.A) ∧ x.L.length = n ∧ n ≤ 1000 ∧ CRow w A x.L
theorem EvAt.below {w w' : World} {v : Value} {x : Ev} (h : EvAt w v x) (hb : Below w.heap.size w w') : EvAt w' v x := by
  obtain ⟨Ab, nb, zb, Aa, na, za, A, n, c, e, ⟨h1, h2, h3⟩, ⟨h4, h5, h6⟩, h7, h8, h9⟩ := h.known
  exact ⟨Ab, nb, zb, Aa, na, za, A, n, c, e, ⟨h1, h2, h3.below hb⟩, ⟨h4, h5, h6.below hb⟩, h7, h8, h9.below hb⟩
set_option maxHeartbeats 2000000 in
set_option maxRecDepth 100000 in
theorem schange_any (ck : Int) (ct : ByteArray) (A : Option Addr) (L : List Cl) (n c : Nat) (K : Int) (cn : ByteArray) (cq : Int) (cb : Bool) (ck' : Int) (ct' : ByteArray) (A' : Option Addr) (L' : List Cl) (n' c' : Nat) (K' : Int) (cn' : ByteArray) (cq' : Int) (cb' : Bool) (w : World) (hn : L.length = n) (hn' : L'.length = n') (hl : n ≤ 1000) (hl' : n' ≤ 1000) (hA : CRow w A L) (hA' : CRow w A' L') :
    Calls Tryd.prog 86 #[.agg #[.int .i64 ck, .string ct, .slice A n c, .int .i64 K, .string cn, .int .i64 cq, .bool cb], .agg #[.int .i64 ck', .string ct', .slice A' n' c', .int .i64 K', .string cn', .int .i64 cq', .bool cb']] w fun e w' => e = .returned (.bool (chG ck ck' ct ct' ⟨cn, cq, cb⟩ ⟨cn', cq', cb'⟩ L L' K K')) ∧ Hid (Below w.heap.size w w') := by
  have HB := Lib.hid (((Below.refl w.heap.size w).alloc (Nat.le_refl _) (.cells #[.int .i64 ck, .string ct, .slice A n c, .int .i64 K, .string cn, .int .i64 cq, .bool cb] 40)).alloc (by simp) (.cells #[.int .i64 ck', .string ct', .slice A' n' c', .int .i64 K', .string cn', .int .i64 cq', .bool cb'] 40))
  have HC := Lib.hid (same4_any A L n c K A' L' n' c' K' ((w.alloc (.cells #[.int .i64 ck, .string ct, .slice A n c, .int .i64 K, .string cn, .int .i64 cq, .bool cb] 40)).alloc (.cells #[.int .i64 ck', .string ct', .slice A' n' c', .int .i64 K', .string cn', .int .i64 cq', .bool cb'] 40)) hn hn' hl hl' (hA.below HB.out) (hA'.below HB.out))
  have eq := eqC
  clear hn hn' hA hA'
  cases h0 : (ck == ck')
  · have HS : Hid (chG ck ck' ct ct' ⟨cn, cq, cb⟩ ⟨cn', cq', cb'⟩ L L' K K' = false) := by show _ = _; unfold chG; simp [h0]
    go_enter Tryd.func86, Tryd.ntmps86
    go_wp2_with fail
    go_ret
    exact ⟨by rw [HS.out]; rfl, HB⟩
  · skip
    cases h1 : (ct.toList == ct'.toList)
    · have HS : Hid (chG ck ck' ct ct' ⟨cn, cq, cb⟩ ⟨cn', cq', cb'⟩ L L' K K' = false) := by show _ = _; unfold chG; simp [h0, h1]
      go_enter Tryd.func86, Tryd.ntmps86
      go_wp2_with fail
      go_ret
      exact ⟨by rw [HS.out]; rfl, HB⟩
    · skip
      cases h2 : Cl.eqb ⟨cn, cq, cb⟩ ⟨cn', cq', cb'⟩
      · have HS : Hid (chG ck ck' ct ct' ⟨cn, cq, cb⟩ ⟨cn', cq', cb'⟩ L L' K K' = false) := by show _ = _; unfold chG; simp [h0, h1, h2]
        go_enter Tryd.func86, Tryd.ntmps86
        go_wp2_with fail
        go_ret
        exact ⟨by rw [HS.out]; rfl, HB⟩
      · skip
        have HS : Hid (chG ck ck' ct ct' ⟨cn, cq, cb⟩ ⟨cn', cq', cb'⟩ L L' K K' = ssF L K L' K') := by show _ = _; unfold chG; simp [h0, h1, h2]
        go_enter Tryd.func86, Tryd.ntmps86
        go_wp2_with fail
        refine HC.out.mono ?_
        rintro e w1 ⟨rfl, hb1⟩
        have HB1 := Lib.hid (HB.out.trans (hb1.out.mono HB.out.size))
        clear hb1 HC
        go_wp2_with fail
        go_ret
        exact ⟨by rw [HS.out]; rfl, HB1⟩
set_option maxHeartbeats 2000000 in
set_option maxRecDepth 100000 in
theorem rchange_any (ck : Int) (ct : ByteArray) (A : Option Addr) (L : List Cl) (n c : Nat) (K : Int) (cn : ByteArray) (cq : Int) (cb : Bool) (ck' : Int) (ct' : ByteArray) (A' : Option Addr) (L' : List Cl) (n' c' : Nat) (K' : Int) (cn' : ByteArray) (cq' : Int) (cb' : Bool) (w : World) (hn : L.length = n) (hn' : L'.length = n') (hl : n ≤ 1000) (hl' : n' ≤ 1000) (hA : CRow w A L) (hA' : CRow w A' L') :
    Calls Tryd.prog 42 #[.agg #[.int .i64 ck, .string ct, .slice A n c, .int .i64 K, .string cn, .int .i64 cq, .bool cb], .agg #[.int .i64 ck', .string ct', .slice A' n' c', .int .i64 K', .string cn', .int .i64 cq', .bool cb']] w fun e w' => e = .returned (.bool (chG ck ck' ct ct' ⟨cn, cq, cb⟩ ⟨cn', cq', cb'⟩ L L' K K')) ∧ Hid (Below w.heap.size w w') := by
  have HB := Lib.hid (((Below.refl w.heap.size w).alloc (Nat.le_refl _) (.cells #[.int .i64 ck, .string ct, .slice A n c, .int .i64 K, .string cn, .int .i64 cq, .bool cb] 40)).alloc (by simp) (.cells #[.int .i64 ck', .string ct', .slice A' n' c', .int .i64 K', .string cn', .int .i64 cq', .bool cb'] 40))
  have HC := Lib.hid (rsame_any A L n c K A' L' n' c' K' ((w.alloc (.cells #[.int .i64 ck, .string ct, .slice A n c, .int .i64 K, .string cn, .int .i64 cq, .bool cb] 40)).alloc (.cells #[.int .i64 ck', .string ct', .slice A' n' c', .int .i64 K', .string cn', .int .i64 cq', .bool cb'] 40)) hn hn' hl hl' (hA.below HB.out) (hA'.below HB.out))
  have HX := Lib.hid ((Has.new w 40 #[.int .i64 ck, .string ct, .slice A n c, .int .i64 K, .string cn, .int .i64 cq, .bool cb]).alloc (.cells #[.int .i64 ck', .string ct', .slice A' n' c', .int .i64 K', .string cn', .int .i64 cq', .bool cb'] 40))
  have hy := Has.new (w.alloc (.cells #[.int .i64 ck, .string ct, .slice A n c, .int .i64 K, .string cn, .int .i64 cq, .bool cb] 40)) 40 #[.int .i64 ck', .string ct', .slice A' n' c', .int .i64 K', .string cn', .int .i64 cq', .bool cb']
  rw [show (w.alloc (.cells #[.int .i64 ck, .string ct, .slice A n c, .int .i64 K, .string cn, .int .i64 cq, .bool cb] 40)).heap.size = w.heap.size + 1 by simp] at hy
  have HY := Lib.hid hy
  clear hy
  have eq := eqC
  clear hn hn' hA hA'
  obtain ⟨q, hq⟩ : ∃ q, ssF L K L' K' = q := ⟨_, rfl⟩
  have HS : Hid (chG ck ck' ct ct' ⟨cn, cq, cb⟩ ⟨cn', cq', cb'⟩ L L' K K' = (q && ck == ck' && ct.toList == ct'.toList && Cl.eqb ⟨cn, cq, cb⟩ ⟨cn', cq', cb'⟩)) := by
    show _ = _; unfold chG; rw [hq]; cases q <;> simp
  rw [hq] at HC
  clear hq
  go_enter Tryd.func42, Tryd.ntmps42
  go_wp2_with fail
  refine HC.out.mono ?_
  rintro e w1 ⟨rfl, hb1⟩
  replace HX := Lib.hid (HX.out.below hb1.out (by have := HX.out.lt; exact this))
  replace HY := Lib.hid (HY.out.below hb1.out (by have := HY.out.lt; exact this))
  replace HB := Lib.hid (HB.out.trans (hb1.out.mono HB.out.size))
  clear hb1 HC
  have x0 : w1.cell? ⟨w.heap.size, 0, none⟩ = some (.int .i64 ck) := HX.out.cell 0
  have x1 : w1.cell? ⟨w.heap.size, 1, none⟩ = some (.string ct) := HX.out.cell 1
  have x4 : w1.cell? ⟨w.heap.size, 4, none⟩ = some (.string cn) := HX.out.cell 4
  have x5 : w1.cell? ⟨w.heap.size, 5, none⟩ = some (.int .i64 cq) := HX.out.cell 5
  have x6 : w1.cell? ⟨w.heap.size, 6, none⟩ = some (.bool cb) := HX.out.cell 6
  have y0 : w1.cell? ⟨w.heap.size + 1, 0, none⟩ = some (.int .i64 ck') := HY.out.cell 0
  have y1 : w1.cell? ⟨w.heap.size + 1, 1, none⟩ = some (.string ct') := HY.out.cell 1
  have y4 : w1.cell? ⟨w.heap.size + 1, 4, none⟩ = some (.string cn') := HY.out.cell 4
  have y5 : w1.cell? ⟨w.heap.size + 1, 5, none⟩ = some (.int .i64 cq') := HY.out.cell 5
  have y6 : w1.cell? ⟨w.heap.size + 1, 6, none⟩ = some (.bool cb') := HY.out.cell 6
  cases q
  · go_wp2_with fail
    go_ret
    exact ⟨by rw [HS.out]; rfl, HB⟩
  · skip
    cases h0 : (ck == ck')
    · go_wp2_with fail
      go_ret
      exact ⟨by rw [HS.out, h0]; rfl, HB⟩
    · skip
      cases h1 : (ct.toList == ct'.toList)
      · go_wp2_with fail
        go_ret
        exact ⟨by rw [HS.out, h0, h1]; rfl, HB⟩
      · skip
        cases h2 : Cl.eqb ⟨cn, cq, cb⟩ ⟨cn', cq', cb'⟩
        · go_wp2_with fail
          go_ret
          exact ⟨by rw [HS.out, h0, h1, h2]; rfl, HB⟩
        · go_wp2_with fail
          go_ret
          exact ⟨by rw [HS.out, h0, h1, h2]; rfl, HB⟩
end Go.Proofs.YtiefogofiajmnaaDoor
