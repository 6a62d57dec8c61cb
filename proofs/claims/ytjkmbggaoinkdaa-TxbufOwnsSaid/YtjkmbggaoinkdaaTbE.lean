/-
  Sameness of values, columns and events of any size.
-/
import Derived.Test.YtjkmbggaoinkdaaTbV
import Derived.RegionTactic
import Derived.Deep.QuietTactic
import Derived.BigQuiet
namespace Go.Proofs.Ytjkmbggaoinkdaa
open Go.RowKit Dg
set_option linter.unusedVariables false
def chG (ck ck' : Int) (ct ct' : ByteArray) (q q' : Cl) (L L' : List Cl) (K K' : Int) : Bool := ck == ck' && ct.toList == ct'.toList && q.eqb q' && ssF L K L' K'
theorem chF_eq (x y : Ev) : chF x y = chG x.ck y.ck x.ct y.ct x.cl y.cl x.L y.L x.K y.K := rfl
/-- An event whose value and rows are known. -/
structure EvAt (w : World) (v : Value) (x : Ev) : Prop where
  known : ∃ Ab nb zb Aa na za A n c, v = .agg #[.int .i64 x.k, .int .i64 x.n, .string x.t, .slice Ab nb zb, .slice Aa na za, .int .i64 x.ck, .string x.ct, .slice A n c, .int .i64 x.K, .string x.cl.nm, .int .i64 x.cl.k, .bool x.cl.no] ∧ (x.B.length = nb ∧ (nb : Int) ≤ 9223372036854775807 ∧ VRow w Ab x.B) ∧ (x.A.length = na ∧ (na : Int) ≤ 9223372036854775807 ∧ VRow w Aa x.A) ∧ x.L.length = n ∧ (n : Int) ≤ 9223372036854775807 ∧ CRow w A x.L
theorem EvAt.below {w w' : World} {v : Value} {x : Ev} (h : EvAt w v x) (hb : Below w.heap.size w w') : EvAt w' v x := by
  obtain ⟨Ab, nb, zb, Aa, na, za, A, n, c, e, ⟨h1, h2, h3⟩, ⟨h4, h5, h6⟩, h7, h8, h9⟩ := h.known
  exact ⟨Ab, nb, zb, Aa, na, za, A, n, c, e, ⟨h1, h2, h3.below hb⟩, ⟨h4, h5, h6.below hb⟩, h7, h8, h9.below hb⟩
set_option maxHeartbeats 2000000 in
set_option maxRecDepth 100000 in
theorem rchange_any (ck : Int) (ct : ByteArray) (A : Option Addr) (L : List Cl) (n c : Nat) (K : Int) (cn : ByteArray) (cq : Int) (cb : Bool) (ck' : Int) (ct' : ByteArray) (A' : Option Addr) (L' : List Cl) (n' c' : Nat) (K' : Int) (cn' : ByteArray) (cq' : Int) (cb' : Bool) (w : World) (hn : L.length = n) (hn' : L'.length = n') (hl : (n : Int) ≤ 9223372036854775807) (hl' : (n' : Int) ≤ 9223372036854775807) (hA : CRow w A L) (hA' : CRow w A' L') :
    Calls Try.prog 26 #[.agg #[.int .i64 ck, .string ct, .slice A n c, .int .i64 K, .string cn, .int .i64 cq, .bool cb], .agg #[.int .i64 ck', .string ct', .slice A' n' c', .int .i64 K', .string cn', .int .i64 cq', .bool cb']] w fun e w' => e = .returned (.bool (chG ck ck' ct ct' ⟨cn, cq, cb⟩ ⟨cn', cq', cb'⟩ L L' K K')) ∧ Hid (Below w.heap.size w w') := by
  have HB := Lib.hid (((Below.refl w.heap.size w).alloc (Nat.le_refl _) (.cells #[.int .i64 ck, .string ct, .slice A n c, .int .i64 K, .string cn, .int .i64 cq, .bool cb] 36)).alloc (by simp) (.cells #[.int .i64 ck', .string ct', .slice A' n' c', .int .i64 K', .string cn', .int .i64 cq', .bool cb'] 36))
  have HC := Lib.hid (rsame_any A L n c K A' L' n' c' K' ((w.alloc (.cells #[.int .i64 ck, .string ct, .slice A n c, .int .i64 K, .string cn, .int .i64 cq, .bool cb] 36)).alloc (.cells #[.int .i64 ck', .string ct', .slice A' n' c', .int .i64 K', .string cn', .int .i64 cq', .bool cb'] 36)) hn hn' hl hl' (hA.below HB.out) (hA'.below HB.out))
  have HX := Lib.hid ((Has.new w 36 #[.int .i64 ck, .string ct, .slice A n c, .int .i64 K, .string cn, .int .i64 cq, .bool cb]).alloc (.cells #[.int .i64 ck', .string ct', .slice A' n' c', .int .i64 K', .string cn', .int .i64 cq', .bool cb'] 36))
  have hy := Has.new (w.alloc (.cells #[.int .i64 ck, .string ct, .slice A n c, .int .i64 K, .string cn, .int .i64 cq, .bool cb] 36)) 36 #[.int .i64 ck', .string ct', .slice A' n' c', .int .i64 K', .string cn', .int .i64 cq', .bool cb']
  rw [show (w.alloc (.cells #[.int .i64 ck, .string ct, .slice A n c, .int .i64 K, .string cn, .int .i64 cq, .bool cb] 36)).heap.size = w.heap.size + 1 by simp] at hy
  have HY := Lib.hid hy
  clear hy
  have eq := eqC
  clear hn hn' hA hA'
  obtain ⟨q, hq⟩ : ∃ q, ssF L K L' K' = q := ⟨_, rfl⟩
  have HS : Hid (chG ck ck' ct ct' ⟨cn, cq, cb⟩ ⟨cn', cq', cb'⟩ L L' K K' = (q && ck == ck' && ct.toList == ct'.toList && Cl.eqb ⟨cn, cq, cb⟩ ⟨cn', cq', cb'⟩)) := by
    show _ = _; unfold chG; rw [hq]; cases q <;> simp
  rw [hq] at HC
  clear hq
  go_enter Try.func26, Try.ntmps26
  go_wp2_with fail
  refine HC.out.mono ?_
  rintro e w1 ⟨rfl, hb1⟩
  replace HX := Lib.hid (HX.out.below hb1.out (by have := HX.out.lt; exact this))
  replace HY := Lib.hid (HY.out.below hb1.out (by have := HY.out.lt; exact this))
  replace HB := Lib.hid (HB.out.trans (hb1.out.mono HB.out.size))
  clear hb1 HC
  have x0 : w1.cell? ⟨w.heap.size, 0, none⟩ = some (.int .i64 ck) := HX.out.cell 0
  have x1 : w1.cell? ⟨w.heap.size, 1, none⟩ = some (.string ct) := HX.out.cell 1
  have x4 : w1.cell? ⟨w.heap.size, 4, none⟩ = some (.string cn) := HX.out.cell 4
  have x5 : w1.cell? ⟨w.heap.size, 5, none⟩ = some (.int .i64 cq) := HX.out.cell 5
  have x6 : w1.cell? ⟨w.heap.size, 6, none⟩ = some (.bool cb) := HX.out.cell 6
  have y0 : w1.cell? ⟨w.heap.size + 1, 0, none⟩ = some (.int .i64 ck') := HY.out.cell 0
  have y1 : w1.cell? ⟨w.heap.size + 1, 1, none⟩ = some (.string ct') := HY.out.cell 1
  have y4 : w1.cell? ⟨w.heap.size + 1, 4, none⟩ = some (.string cn') := HY.out.cell 4
  have y5 : w1.cell? ⟨w.heap.size + 1, 5, none⟩ = some (.int .i64 cq') := HY.out.cell 5
  have y6 : w1.cell? ⟨w.heap.size + 1, 6, none⟩ = some (.bool cb') := HY.out.cell 6
  cases q
  · go_wp2_with fail
    go_ret
    exact ⟨by rw [HS.out]; rfl, HB⟩
  · skip
    cases h0 : (ck == ck')
    · go_wp2_with fail
      go_ret
      exact ⟨by rw [HS.out, h0]; rfl, HB⟩
    · skip
      cases h1 : (ct.toList == ct'.toList)
      · go_wp2_with fail
        go_ret
        exact ⟨by rw [HS.out, h0, h1]; rfl, HB⟩
      · skip
        cases h2 : Cl.eqb ⟨cn, cq, cb⟩ ⟨cn', cq', cb'⟩
        · go_wp2_with fail
          go_ret
          exact ⟨by rw [HS.out, h0, h1, h2]; rfl, HB⟩
        · go_wp2_with fail
          go_ret
          exact ⟨by rw [HS.out, h0, h1, h2]; rfl, HB⟩
set_option maxHeartbeats 4000000 in
set_option maxRecDepth 100000 in
theorem resame_any (v v' : Value) (x y : Ev) (w : World) (hx : EvAt w v x) (hy : EvAt w v' y) :
    Calls Try.prog 20 #[v, v'] w fun e w' => e = .returned (.bool (evF x y)) ∧ Hid (Below w.heap.size w w') := by
  obtain ⟨Ab, nb, zb, Aa, na, za, A, n, c, rfl, ⟨h1, h2, h3⟩, ⟨h4, h5, h6⟩, h7, h8, h9⟩ := hx.known
  obtain ⟨Ab', nb', zb', Aa', na', za', A', n', c', rfl, ⟨h1', h2', h3'⟩, ⟨h4', h5', h6'⟩, h7', h8', h9'⟩ := hy.known
  clear hx hy
  obtain ⟨k, m, t, Bl, Al, ck, ct, L, K, ⟨cn, cq, cb⟩⟩ := x
  obtain ⟨k', m', t', Bl', Al', ck', ct', L', K', ⟨cn', cq', cb'⟩⟩ := y
  simp only at h1 h3 h4 h6 h7 h9 h1' h3' h4' h6' h7' h9'
  obtain ⟨qc, hqc⟩ : ∃ q, chG ck ck' ct ct' ⟨cn, cq, cb⟩ ⟨cn', cq', cb'⟩ L L' K K' = q := ⟨_, rfl⟩
  obtain ⟨qb, hqb⟩ : ∃ q, vsF Bl Bl' = q := ⟨_, rfl⟩
  obtain ⟨qa, hqa⟩ : ∃ q, vsF Al Al' = q := ⟨_, rfl⟩
  have HS : Hid (evF ⟨k, m, t, Bl, Al, ck, ct, L, K, ⟨cn, cq, cb⟩⟩ ⟨k', m', t', Bl', Al', ck', ct', L', K', ⟨cn', cq', cb'⟩⟩ = (k == k' && m == m' && t.toList == t'.toList && qb && qa && qc)) := by
    show _ = _; unfold evF; rw [chF_eq]; simp only [hqb, hqa, hqc]
  have HB := Lib.hid (((Below.refl w.heap.size w).alloc (Nat.le_refl _) (.cells #[.int .i64 k, .int .i64 m, .string t, .slice Ab nb zb, .slice Aa na za, .int .i64 ck, .string ct, .slice A n c, .int .i64 K, .string cn, .int .i64 cq, .bool cb] 38)).alloc (by simp) (.cells #[.int .i64 k', .int .i64 m', .string t', .slice Ab' nb' zb', .slice Aa' na' za', .int .i64 ck', .string ct', .slice A' n' c', .int .i64 K', .string cn', .int .i64 cq', .bool cb'] 38))
  have HX := Lib.hid ((Has.new w 38 #[.int .i64 k, .int .i64 m, .string t, .slice Ab nb zb, .slice Aa na za, .int .i64 ck, .string ct, .slice A n c, .int .i64 K, .string cn, .int .i64 cq, .bool cb]).alloc (.cells #[.int .i64 k', .int .i64 m', .string t', .slice Ab' nb' zb', .slice Aa' na' za', .int .i64 ck', .string ct', .slice A' n' c', .int .i64 K', .string cn', .int .i64 cq', .bool cb'] 38))
  have hy := Has.new (w.alloc (.cells #[.int .i64 k, .int .i64 m, .string t, .slice Ab nb zb, .slice Aa na za, .int .i64 ck, .string ct, .slice A n c, .int .i64 K, .string cn, .int .i64 cq, .bool cb] 38)) 38 #[.int .i64 k', .int .i64 m', .string t', .slice Ab' nb' zb', .slice Aa' na' za', .int .i64 ck', .string ct', .slice A' n' c', .int .i64 K', .string cn', .int .i64 cq', .bool cb']
  rw [show (w.alloc (.cells #[.int .i64 k, .int .i64 m, .string t, .slice Ab nb zb, .slice Aa na za, .int .i64 ck, .string ct, .slice A n c, .int .i64 K, .string cn, .int .i64 cq, .bool cb] 38)).heap.size = w.heap.size + 1 by simp] at hy
  have HY := Lib.hid hy
  have CB := Lib.hid (fun (W : World) (hb : Below w.heap.size w W) => vsameB_any Ab Bl nb zb Ab' Bl' nb' zb' W h1 h1' (by omega) (h3.below hb) (h3'.below hb))
  have CA := Lib.hid (fun (W : World) (hb : Below w.heap.size w W) => vsameB_any Aa Al na za Aa' Al' na' za' W h4 h4' (by omega) (h6.below hb) (h6'.below hb))
  have CC := Lib.hid (fun (W : World) (hb : Below w.heap.size w W) => rchange_any ck ct A L n c K cn cq cb ck' ct' A' L' n' c' K' cn' cq' cb' W h7 h7' h8 h8' (h9.below hb) (h9'.below hb))
  rw [hqb] at CB
  rw [hqa] at CA
  rw [hqc] at CC
  clear hy h1 h1' h3 h3' h4 h4' h6 h6' h7 h7' h9 h9' hqa hqb hqc
  go_enter Try.func20, Try.ntmps20
  go_wp2_with fail
  refine (CC.out _ HB.out).mono ?_
  rintro e w1 ⟨rfl, hb1⟩
  have HB0 := Lib.hid (HB.out.trans (hb1.out.mono HB.out.size))
  have HX0 := Lib.hid (HX.out.below hb1.out HX.out.lt)
  have HY0 := Lib.hid (HY.out.below hb1.out HY.out.lt)
  clear hb1 HB HX HY
  have HB := HB0
  have HX := HX0
  have HY := HY0
  clear HB0 HX0 HY0
  have ax3 : w1.cell? ⟨w.heap.size, 3, none⟩ = some (.slice Ab nb zb) := HX.out.cell 3
  have ay3 : w1.cell? ⟨w.heap.size + 1, 3, none⟩ = some (.slice Ab' nb' zb') := HY.out.cell 3
  go_wp2_with fail
  refine (CB.out _ HB.out).mono ?_
  rintro e w2 ⟨rfl, hb1⟩
  clear ax3 ay3
  have HB0 := Lib.hid (HB.out.trans (hb1.out.mono HB.out.size))
  have HX0 := Lib.hid (HX.out.below hb1.out HX.out.lt)
  have HY0 := Lib.hid (HY.out.below hb1.out HY.out.lt)
  clear hb1 HB HX HY
  have HB := HB0
  have HX := HX0
  have HY := HY0
  clear HB0 HX0 HY0
  have bx4 : w2.cell? ⟨w.heap.size, 4, none⟩ = some (.slice Aa na za) := HX.out.cell 4
  have by4 : w2.cell? ⟨w.heap.size + 1, 4, none⟩ = some (.slice Aa' na' za') := HY.out.cell 4
  go_wp2_with fail
  refine (CA.out _ HB.out).mono ?_
  rintro e w3 ⟨rfl, hb1⟩
  clear bx4 by4
  have HB0 := Lib.hid (HB.out.trans (hb1.out.mono HB.out.size))
  have HX0 := Lib.hid (HX.out.below hb1.out HX.out.lt)
  have HY0 := Lib.hid (HY.out.below hb1.out HY.out.lt)
  clear hb1 HB HX HY
  have HB := HB0
  have HX := HX0
  have HY := HY0
  clear HB0 HX0 HY0
  have cx0 : w3.cell? ⟨w.heap.size, 0, none⟩ = some (.int .i64 k) := HX.out.cell 0
  have cx1 : w3.cell? ⟨w.heap.size, 1, none⟩ = some (.int .i64 m) := HX.out.cell 1
  have cx2 : w3.cell? ⟨w.heap.size, 2, none⟩ = some (.string t) := HX.out.cell 2
  have cy0 : w3.cell? ⟨w.heap.size + 1, 0, none⟩ = some (.int .i64 k') := HY.out.cell 0
  have cy1 : w3.cell? ⟨w.heap.size + 1, 1, none⟩ = some (.int .i64 m') := HY.out.cell 1
  have cy2 : w3.cell? ⟨w.heap.size + 1, 2, none⟩ = some (.string t') := HY.out.cell 2
  clear CA CB CC
  obtain ⟨q0, hq0⟩ : ∃ q, (k == k') = q := ⟨_, rfl⟩
  obtain ⟨q1, hq1⟩ : ∃ q, (m == m') = q := ⟨_, rfl⟩
  obtain ⟨q2, hq2⟩ : ∃ q, (t.toList == t'.toList) = q := ⟨_, rfl⟩
  rw [hq0, hq1, hq2] at HS
  cases qc
  · go_wp2_with fail
    go_ret
    exact ⟨by rw [HS.out]; simp, HB⟩
  · skip
    cases qb
    · go_wp2_with fail
      go_ret
      exact ⟨by rw [HS.out]; simp, HB⟩
    · skip
      cases qa
      · go_wp2_with fail
        go_ret
        exact ⟨by rw [HS.out]; simp, HB⟩
      · skip
        cases q0
        · go_wp2_with fail
          go_ret
          exact ⟨by rw [HS.out]; simp, HB⟩
        · skip
          cases q1
          · go_wp2_with fail
            go_ret
            exact ⟨by rw [HS.out]; simp, HB⟩
          · skip
            cases q2
            · go_wp2_with fail
              go_ret
              exact ⟨by rw [HS.out]; simp, HB⟩
            · skip
              go_wp2_with fail
              go_ret
              exact ⟨by rw [HS.out]; rfl, HB⟩
end Go.Proofs.Ytjkmbggaoinkdaa
