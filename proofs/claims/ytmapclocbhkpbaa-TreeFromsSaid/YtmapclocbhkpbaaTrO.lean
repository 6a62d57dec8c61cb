/-
  over: a node atop of others, where it may stand there, or all of them built anew.
-/
import Derived.Test.YtmapclocbhkpbaaTrN
namespace Go.Proofs.Ytmapclocbhkpbaa
open Go.RowKit Go.Maps Dg
set_option linter.unusedVariables false
theorem conL_nds (T : Tr) : conL T.nds = T.con := con_nds T
theorem conL_app (a b : List Nd) : conL (a ++ b) = conL a ++ conL b := List.map_append
set_option maxHeartbeats 4000000 in
set_option maxRecDepth 100000 in
theorem over_any (L R : Tr) (x : Nd) (n : Nat) (w : World) (hL : IsTr n w L) (hR : IsTr n w R) (hn : n ≤ w.heap.size) (hx : NdAt w x) (hz : L.size + 1 + R.size ≤ 100000) (bL : Bal L) (bR : Bal R) :
    Calls Try.prog 35 #[.pointer L.ptr, .pointer (some ⟨x.b, 0, none⟩), .pointer R.ptr] w fun e w' => OutT w (L.con ++ ((x.k, x.v) :: R.con)) e w' := by
  obtain ⟨lo, x0, x1, x6⟩ := hx
  have hlL := ht_size L
  have hlR := ht_size R
  go_enter Try.func35, Try.ntmps35
  go_wp2_with fail
  refine (mayStand_any L R x.b lo w hL hR (by omega) x6).mono ?_
  rintro e w1 ⟨⟨bb, rfl, hbb⟩, j, rfl⟩
  cases bb with
  | true =>
    have hq := hbb rfl
    go_wp2_with fail
    refine (atop_any L R x.b x.k x.v lo (w.drewN j) (hL.hp rfl) (hR.hp rfl) (by omega) (by omega) (by omega) x0 x1 x6).mono ?_
    rintro e w2 ⟨rfl, ⟨le, h2⟩, b2, s2⟩
    have hfin : OutT w (L.con ++ ((x.k, x.v) :: R.con)) (.returned (.pointer (some ⟨(w.drewN j).heap.size, 0, none⟩))) w2 := by
      have b3 : Below w.heap.size w w2 := (Below.drewN (Below.refl _ w) j).trans b2
      exact ⟨.node (w.drewN j).heap.size L x.k x.v lo le R, rfl, ⟨by omega, h2, (hL.below (b3.mono hn)).mono (by have := b3.size; omega), (hR.below (b3.mono hn)).mono (by have := b3.size; omega)⟩, rfl, ⟨hq.1, hq.2, bL, bR⟩, b3⟩
    have HFIN := Lib.hid hfin
    clear hfin h2 b2 hbb
    go_wp2_with fail
    go_ret
    exact HFIN.out
  | false =>
    clear hbb
    have b0 : Below w.heap.size w (w.drewN j) := Below.drewN (Below.refl _ w) j
    have hsw : (w.drewN j).heap.size = w.heap.size := rfl
    go_wp2_with fail
    refine (gather_any L n w.heap.size (w.drewN j) (.slice none 0 0) [] (hL.hp rfl) hn (by rw [hsw]; exact Nat.le_refl _) (ownP_nil _ _) (by simp; omega)).mono ?_
    rintro e w1 ⟨v1, rfl, o1⟩
    rw [List.nil_append] at o1
    have b1 : Below w.heap.size (w.drewN j) w1 := o1.below (ownP_nil _ _) (by rw [hsw]; exact Nat.le_refl _)
    have B1 : Below w.heap.size w w1 := b0.trans b1
    obtain ⟨A1, m1, k1, rfl, -⟩ := ownP_row o1.1
    have O1 := Lib.hid o1.1
    have gx : (w1.alloc (.cells #[.pointer (some ⟨x.b, 0, none⟩)] 47)).cell? ⟨w1.heap.size, 0, none⟩ = some (pv x) := (Has.new w1 47 #[.pointer (some ⟨x.b, 0, none⟩)]).cell 0
    have ox : OwnP w.heap.size (w1.alloc (.cells #[.pointer (some ⟨x.b, 0, none⟩)] 47)) (.slice A1 m1 k1) L.nds := o1.1.keep fun g hg => Below.heap_alloc w1 _ g (o1.1.lt hg).2
    have bx : Below w.heap.size w1 (w1.alloc (.cells #[.pointer (some ⟨x.b, 0, none⟩)] 47)) := (Below.refl _ w1).alloc B1.size _
    have sx : w.heap.size ≤ (w1.alloc (.cells #[.pointer (some ⟨x.b, 0, none⟩)] 47)).heap.size := Nat.le_trans B1.size bx.size
    obtain ⟨R2, w2, hrun2, o2⟩ := appP (w1.alloc (.cells #[.pointer (some ⟨x.b, 0, none⟩)] 47)) w1.heap.size w.heap.size (.slice A1 m1 k1) L.nds x gx ox sx (by rw [nds_len]; omega)
    have B2 : Below w.heap.size w w2 := (B1.trans bx).trans (o2.below ox sx)
    obtain ⟨A2, m2, k2, rfl, -⟩ := ownP_row o2.1
    clear o1 ox gx b1
    have O2 := Lib.hid o2.1
    clear o2
    go_wp2_with (at_builtin; refine wpList_app rfl _ _ 66 66 rfl (.slice A1 m1 k1) (.slice (some ⟨w1.heap.size, 0, none⟩) 1 1) rfl rfl ⟨_, _, hrun2, ?_⟩)
    refine (gather_any R n w.heap.size w2 (.slice A2 m2 k2) (L.nds ++ [x]) (hR.below (B2.mono hn)) hn B2.size O2.out (by rw [List.length_append, List.length_singleton, nds_len]; omega)).mono ?_
    rintro e w3 ⟨v3, rfl, o3⟩
    have B3 : Below w.heap.size w w3 := B2.trans (o3.below O2.out B2.size)
    obtain ⟨A3, m3, k3, rfl, e3, e4, e5, r3, -⟩ := ownP_row o3.1
    have hx3 : ∀ y ∈ L.nds ++ [x] ++ R.nds, NdAt w3 y := by
      intro y hy
      rcases List.mem_append.1 hy with hy | hy
      · rcases List.mem_append.1 hy with hy | hy
        · exact (nds_at hL y hy).below B3
        · rw [List.mem_singleton.1 hy]
          exact NdAt.below (w := w) ⟨lo, x0, x1, x6⟩ B3
      · exact (nds_at hR y hy).below B3
    have HB := Lib.hid (build_any m3 _ w3 A3 m3 k3 (by omega) e3 e4 e5 r3 hx3 (by rw [← e3, List.length_append, List.length_append, List.length_singleton, nds_len, nds_len]; omega))
    clear o3 hx3 r3 hrun2
    go_wp2_with fail
    refine HB.out.mono ?_
    rintro e w4 ⟨T, rfl, i4, c4, q4, b4⟩
    have hfin : OutT w (L.con ++ ((x.k, x.v) :: R.con)) (.returned (.pointer T.ptr)) w4 := by
      refine ⟨T, rfl, i4, ?_, q4, B3.trans (b4.mono B3.size)⟩
      rw [c4, conL_app, conL_app, conL_nds, conL_nds, List.append_assoc]
      rfl
    have HFIN := Lib.hid hfin
    clear hfin i4 c4 b4
    go_wp2_with fail
    go_ret
    exact HFIN.out
end Go.Proofs.Ytmapclocbhkpbaa
