/-
  Whether two events are the same.
-/
import Derived.Test.YtiefogofiajmnaaDoorEvS
namespace Go.Proofs.YtiefogofiajmnaaDoor
open Go.RowKit Dg
set_option maxHeartbeats 4000000 in
set_option maxRecDepth 100000 in
theorem esame_any (v v' : Value) (x y : Ev) (w : World) (hx : EvAt w v x) (hy : EvAt w v' y) :
    Calls Tryd.prog 62 #[v, v'] w fun e w' => e = .returned (.bool (evF x y)) ∧ Hid (Below w.heap.size w w') := by
  obtain ⟨Ab, nb, zb, Aa, na, za, A, n, c, rfl, ⟨h1, h2, h3⟩, ⟨h4, h5, h6⟩, h7, h8, h9⟩ := hx.known
  obtain ⟨Ab', nb', zb', Aa', na', za', A', n', c', rfl, ⟨h1', h2', h3'⟩, ⟨h4', h5', h6'⟩, h7', h8', h9'⟩ := hy.known
  clear hx hy
  obtain ⟨k, m, t, Bl, Al, ck, ct, L, K, ⟨cn, cq, cb⟩⟩ := x
  obtain ⟨k', m', t', Bl', Al', ck', ct', L', K', ⟨cn', cq', cb'⟩⟩ := y
  simp only at h1 h3 h4 h6 h7 h9 h1' h3' h4' h6' h7' h9'
  obtain ⟨qc, hqc⟩ : ∃ q, chG ck ck' ct ct' ⟨cn, cq, cb⟩ ⟨cn', cq', cb'⟩ L L' K K' = q := ⟨_, rfl⟩
  obtain ⟨qb, hqb⟩ : ∃ q, vsF Bl Bl' = q := ⟨_, rfl⟩
  obtain ⟨qa, hqa⟩ : ∃ q, vsF Al Al' = q := ⟨_, rfl⟩
  have HS : Hid (evF ⟨k, m, t, Bl, Al, ck, ct, L, K, ⟨cn, cq, cb⟩⟩ ⟨k', m', t', Bl', Al', ck', ct', L', K', ⟨cn', cq', cb'⟩⟩ = (k == k' && m == m' && t.toList == t'.toList && qb && qa && qc)) := by
    show _ = _; unfold evF; rw [chF_eq]; simp only [hqb, hqa, hqc]
  have HB := Lib.hid (((Below.refl w.heap.size w).alloc (Nat.le_refl _) (.cells #[.int .i64 k, .int .i64 m, .string t, .slice Ab nb zb, .slice Aa na za, .int .i64 ck, .string ct, .slice A n c, .int .i64 K, .string cn, .int .i64 cq, .bool cb] 52)).alloc (by simp) (.cells #[.int .i64 k', .int .i64 m', .string t', .slice Ab' nb' zb', .slice Aa' na' za', .int .i64 ck', .string ct', .slice A' n' c', .int .i64 K', .string cn', .int .i64 cq', .bool cb'] 52))
  have HX := Lib.hid ((Has.new w 52 #[.int .i64 k, .int .i64 m, .string t, .slice Ab nb zb, .slice Aa na za, .int .i64 ck, .string ct, .slice A n c, .int .i64 K, .string cn, .int .i64 cq, .bool cb]).alloc (.cells #[.int .i64 k', .int .i64 m', .string t', .slice Ab' nb' zb', .slice Aa' na' za', .int .i64 ck', .string ct', .slice A' n' c', .int .i64 K', .string cn', .int .i64 cq', .bool cb'] 52))
  have hy := Has.new (w.alloc (.cells #[.int .i64 k, .int .i64 m, .string t, .slice Ab nb zb, .slice Aa na za, .int .i64 ck, .string ct, .slice A n c, .int .i64 K, .string cn, .int .i64 cq, .bool cb] 52)) 52 #[.int .i64 k', .int .i64 m', .string t', .slice Ab' nb' zb', .slice Aa' na' za', .int .i64 ck', .string ct', .slice A' n' c', .int .i64 K', .string cn', .int .i64 cq', .bool cb']
  rw [show (w.alloc (.cells #[.int .i64 k, .int .i64 m, .string t, .slice Ab nb zb, .slice Aa na za, .int .i64 ck, .string ct, .slice A n c, .int .i64 K, .string cn, .int .i64 cq, .bool cb] 52)).heap.size = w.heap.size + 1 by simp] at hy
  have HY := Lib.hid hy
  have CB := Lib.hid (fun (W : World) (hb : Below w.heap.size w W) => equalV_any Ab Bl nb zb Ab' Bl' nb' zb' W h1 h1' (by omega) (h3.below hb) (h3'.below hb))
  have CA := Lib.hid (fun (W : World) (hb : Below w.heap.size w W) => equalV_any Aa Al na za Aa' Al' na' za' W h4 h4' (by omega) (h6.below hb) (h6'.below hb))
  have CC := Lib.hid (fun (W : World) (hb : Below w.heap.size w W) => schange_any ck ct A L n c K cn cq cb ck' ct' A' L' n' c' K' cn' cq' cb' W h7 h7' h8 h8' (h9.below hb) (h9'.below hb))
  rw [hqb] at CB
  rw [hqa] at CA
  rw [hqc] at CC
  clear hy h1 h1' h3 h3' h4 h4' h6 h6' h7 h7' h9 h9' hqa hqb hqc
  cases g0 : (k == k')
  · replace HS := Lib.hid (HS.out.trans (show _ = false by simp [g0]))
    go_enter Tryd.func62, Tryd.ntmps62
    go_wp2_with fail
    go_ret
    exact ⟨by rw [HS.out]; rfl, HB⟩
  · skip
    cases g1 : (m == m')
    · replace HS := Lib.hid (HS.out.trans (show _ = false by simp [g0, g1]))
      go_enter Tryd.func62, Tryd.ntmps62
      go_wp2_with fail
      go_ret
      exact ⟨by rw [HS.out]; rfl, HB⟩
    · skip
      cases g2 : (t.toList == t'.toList)
      · replace HS := Lib.hid (HS.out.trans (show _ = false by simp [g0, g1, g2]))
        go_enter Tryd.func62, Tryd.ntmps62
        go_wp2_with fail
        go_ret
        exact ⟨by rw [HS.out]; rfl, HB⟩
      · skip
        replace HS := Lib.hid (HS.out.trans (show _ = (qb && qa && qc) by simp [g0, g1, g2]))
        go_enter Tryd.func62, Tryd.ntmps62
        go_wp2_with fail
        refine (CB.out _ HB.out).mono ?_
        rintro e w1 ⟨rfl, hb1⟩
        have HB0 := Lib.hid (HB.out.trans (hb1.out.mono HB.out.size))
        have HX0 := Lib.hid (HX.out.below hb1.out HX.out.lt)
        have HY0 := Lib.hid (HY.out.below hb1.out HY.out.lt)
        clear hb1 HB HX HY
        have HB := HB0
        have HX := HX0
        have HY := HY0
        clear HB0 HX0 HY0
        have ax4 : w1.cell? ⟨w.heap.size, 4, none⟩ = some (.slice Aa na za) := HX.out.cell 4
        have ax5 : w1.cell? ⟨w.heap.size, 5, none⟩ = some (.int .i64 ck) := HX.out.cell 5
        have ax6 : w1.cell? ⟨w.heap.size, 6, none⟩ = some (.string ct) := HX.out.cell 6
        have ax7 : w1.cell? ⟨w.heap.size, 7, none⟩ = some (.slice A n c) := HX.out.cell 7
        have ax8 : w1.cell? ⟨w.heap.size, 8, none⟩ = some (.int .i64 K) := HX.out.cell 8
        have ax9 : w1.cell? ⟨w.heap.size, 9, none⟩ = some (.string cn) := HX.out.cell 9
        have ax10 : w1.cell? ⟨w.heap.size, 10, none⟩ = some (.int .i64 cq) := HX.out.cell 10
        have ax11 : w1.cell? ⟨w.heap.size, 11, none⟩ = some (.bool cb) := HX.out.cell 11
        have ay4 : w1.cell? ⟨w.heap.size + 1, 4, none⟩ = some (.slice Aa' na' za') := HY.out.cell 4
        have ay5 : w1.cell? ⟨w.heap.size + 1, 5, none⟩ = some (.int .i64 ck') := HY.out.cell 5
        have ay6 : w1.cell? ⟨w.heap.size + 1, 6, none⟩ = some (.string ct') := HY.out.cell 6
        have ay7 : w1.cell? ⟨w.heap.size + 1, 7, none⟩ = some (.slice A' n' c') := HY.out.cell 7
        have ay8 : w1.cell? ⟨w.heap.size + 1, 8, none⟩ = some (.int .i64 K') := HY.out.cell 8
        have ay9 : w1.cell? ⟨w.heap.size + 1, 9, none⟩ = some (.string cn') := HY.out.cell 9
        have ay10 : w1.cell? ⟨w.heap.size + 1, 10, none⟩ = some (.int .i64 cq') := HY.out.cell 10
        have ay11 : w1.cell? ⟨w.heap.size + 1, 11, none⟩ = some (.bool cb') := HY.out.cell 11
        cases qb
        · go_wp2_with fail
          go_ret
          exact ⟨by rw [HS.out]; rfl, HB⟩
        · go_wp2_with fail
          refine (CA.out _ HB.out).mono ?_
          rintro e w2 ⟨rfl, hb1⟩
          clear ax4 ax5 ax6 ax7 ax8 ax9 ax10 ax11 ay4 ay5 ay6 ay7 ay8 ay9 ay10 ay11
          have HB0 := Lib.hid (HB.out.trans (hb1.out.mono HB.out.size))
          have HX0 := Lib.hid (HX.out.below hb1.out HX.out.lt)
          have HY0 := Lib.hid (HY.out.below hb1.out HY.out.lt)
          clear hb1 HB HX HY
          have HB := HB0
          have HX := HX0
          have HY := HY0
          clear HB0 HX0 HY0
          have bx5 : w2.cell? ⟨w.heap.size, 5, none⟩ = some (.int .i64 ck) := HX.out.cell 5
          have bx6 : w2.cell? ⟨w.heap.size, 6, none⟩ = some (.string ct) := HX.out.cell 6
          have bx7 : w2.cell? ⟨w.heap.size, 7, none⟩ = some (.slice A n c) := HX.out.cell 7
          have bx8 : w2.cell? ⟨w.heap.size, 8, none⟩ = some (.int .i64 K) := HX.out.cell 8
          have bx9 : w2.cell? ⟨w.heap.size, 9, none⟩ = some (.string cn) := HX.out.cell 9
          have bx10 : w2.cell? ⟨w.heap.size, 10, none⟩ = some (.int .i64 cq) := HX.out.cell 10
          have bx11 : w2.cell? ⟨w.heap.size, 11, none⟩ = some (.bool cb) := HX.out.cell 11
          have by5 : w2.cell? ⟨w.heap.size + 1, 5, none⟩ = some (.int .i64 ck') := HY.out.cell 5
          have by6 : w2.cell? ⟨w.heap.size + 1, 6, none⟩ = some (.string ct') := HY.out.cell 6
          have by7 : w2.cell? ⟨w.heap.size + 1, 7, none⟩ = some (.slice A' n' c') := HY.out.cell 7
          have by8 : w2.cell? ⟨w.heap.size + 1, 8, none⟩ = some (.int .i64 K') := HY.out.cell 8
          have by9 : w2.cell? ⟨w.heap.size + 1, 9, none⟩ = some (.string cn') := HY.out.cell 9
          have by10 : w2.cell? ⟨w.heap.size + 1, 10, none⟩ = some (.int .i64 cq') := HY.out.cell 10
          have by11 : w2.cell? ⟨w.heap.size + 1, 11, none⟩ = some (.bool cb') := HY.out.cell 11
          cases qa
          · go_wp2_with fail
            go_ret
            exact ⟨by rw [HS.out]; rfl, HB⟩
          · go_wp2_with fail
            refine (CC.out _ HB.out).mono ?_
            rintro e w3 ⟨rfl, hb1⟩
            clear bx5 bx6 bx7 bx8 bx9 bx10 bx11 by5 by6 by7 by8 by9 by10 by11
            have HB0 := Lib.hid (HB.out.trans (hb1.out.mono HB.out.size))
            have HX0 := Lib.hid (HX.out.below hb1.out HX.out.lt)
            have HY0 := Lib.hid (HY.out.below hb1.out HY.out.lt)
            clear hb1 HB HX HY
            have HB := HB0
            have HX := HX0
            have HY := HY0
            clear HB0 HX0 HY0
            go_wp2_with fail
            go_ret
            exact ⟨by rw [HS.out]; rfl, HB⟩
end Go.Proofs.YtiefogofiajmnaaDoor
