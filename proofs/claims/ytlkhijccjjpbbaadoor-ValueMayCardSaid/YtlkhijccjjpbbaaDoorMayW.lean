/-
  The law ValueMay walked: which values may be, and their order.
-/
import Derived.Test.YtlkhijccjjpbbaaDoorLives
import Derived.Test.YtlkhijccjjpbbaaDoorOwnV
import Derived.Test.YtlkhijccjjpbbaaDoorCmp
import Derived.Test.YtlkhijccjjpbbaaDoorCmq
namespace Go.Proofs.YtlkhijccjjpbbaaDoor.valueMay
open Go.RowKit Dg
theorem keep6 {w W W' : World} {k n : Int} {s : ByteArray} {k' n' : Int} {s' : ByteArray} (hb : Below W.heap.size W W')
    (h : Hid (Below w.heap.size w W) ∧ W.cell? ⟨w.heap.size, 0, none⟩ = some (.int .i64 k) ∧ W.cell? ⟨w.heap.size, 1, none⟩ = some (.int .i64 n) ∧ W.cell? ⟨w.heap.size, 2, none⟩ = some (.string s) ∧ W.cell? ⟨w.heap.size + 1, 0, none⟩ = some (.int .i64 k') ∧ W.cell? ⟨w.heap.size + 1, 1, none⟩ = some (.int .i64 n') ∧ W.cell? ⟨w.heap.size + 1, 2, none⟩ = some (.string s')) : Hid (Below w.heap.size w W') ∧ W'.cell? ⟨w.heap.size, 0, none⟩ = some (.int .i64 k) ∧ W'.cell? ⟨w.heap.size, 1, none⟩ = some (.int .i64 n) ∧ W'.cell? ⟨w.heap.size, 2, none⟩ = some (.string s) ∧ W'.cell? ⟨w.heap.size + 1, 0, none⟩ = some (.int .i64 k') ∧ W'.cell? ⟨w.heap.size + 1, 1, none⟩ = some (.int .i64 n') ∧ W'.cell? ⟨w.heap.size + 1, 2, none⟩ = some (.string s') := by
  obtain ⟨h0, h1, h2, h3, h4, h5, h6⟩ := h
  exact ⟨h0.out.trans (hb.mono h0.out.size), (hb.cell (World.block_lt_of_cell? _ _ h1)).trans h1, (hb.cell (World.block_lt_of_cell? _ _ h2)).trans h2, (hb.cell (World.block_lt_of_cell? _ _ h3)).trans h3, (hb.cell (World.block_lt_of_cell? _ _ h4)).trans h4, (hb.cell (World.block_lt_of_cell? _ _ h5)).trans h5, (hb.cell (World.block_lt_of_cell? _ _ h6)).trans h6⟩
set_option maxHeartbeats 4000000 in
set_option maxRecDepth 100000 in
theorem walk (k n : Int) (s : ByteArray) (k' n' : Int) (s' : ByteArray) (w : World) (hf : Vl.fits ⟨k, n, s⟩) (_ : Vl.fits ⟨k', n', s'⟩) (hT : Tabs w) :
    Calls Tryd.prog 3 #[.agg #[.int .i64 k, .int .i64 n, .string s], .agg #[.int .i64 k', .int .i64 n', .string s']] w fun e w' => e = .returned (.bool true) ∧ Below w.heap.size w w' := by
  have hs : s.size ≤ 140737488355328 := hf.1.2.2
  have HT := Lib.hid hT
  have HB := Lib.hid (((Below.refl w.heap.size w).alloc (Nat.le_refl _) (.cells #[.int .i64 k, .int .i64 n, .string s] 23)).alloc (by simp) (.cells #[.int .i64 k', .int .i64 n', .string s'] 23))
  have HC1 := Has.alloc (Has.new w 23 #[.int .i64 k, .int .i64 n, .string s]) (.cells #[.int .i64 k', .int .i64 n', .string s'] 23)
  have HC2 := Has.new (w.alloc (.cells #[.int .i64 k, .int .i64 n, .string s] 23)) 23 #[.int .i64 k', .int .i64 n', .string s']
  rw [show (w.alloc (.cells #[.int .i64 k, .int .i64 n, .string s] 23)).heap.size = w.heap.size + 1 by simp] at HC2
  have hc1 := Lib.hid HC1
  have hc2 := Lib.hid HC2
  clear HC1 HC2 hT
  have CM1 := Lib.hid (fun W h => may_any k n s W (by omega) h)
  have CR1 := Lib.hid (fun W => refMay_any k n s W hs)
  have CC1 := Lib.hid (compare_any k n k' n' s s')
  have CC2 := Lib.hid (compare_any k' n' k n s' s)
  have CC3 := Lib.hid (compare_any k n k n s s)
  have CQ := Lib.hid (refCompare_any k n k' n' s s')
  have CL := Lib.hid lives_any
  have HS0 := Lib.hid (cmp_self k n s)
  have HS1 := Lib.hid (cmp_turn k n s k' n' s')
  have HR := Lib.hid (cmp_range k n s k' n' s')
  generalize mayF k n s = M at *
  generalize hq : cmpF k n s k' n' s' = Q at *
  generalize hq2 : cmpF k' n' s' k n s = Q2 at *
  generalize hq3 : cmpF k n s k n s = Q3 at *
  clear hq hq2 hq3
  obtain rfl := HS0.out
  obtain rfl := HS1.out
  have hr1 : -1 ≤ Q := by rcases HR.out with h | h | h <;> omega
  have hr2 : Q ≤ 1 := by rcases HR.out with h | h | h <;> omega
  have hwrap : IntKind.i64.wrap (-Q) = -Q := by rw [IntKind.wrap_i64]; omega
  clear HS0 HS1 HR
  go_enter Tryd.func3, Tryd.ntmps3
  go_wp2_with fail
  generalize (w.alloc (.cells #[.int .i64 k, .int .i64 n, .string s] 23)).alloc (.cells #[.int .i64 k', .int .i64 n', .string s'] 23) = W at *
  have S0 : Hid (Below w.heap.size w W) ∧ W.cell? ⟨w.heap.size, 0, none⟩ = some (.int .i64 k) ∧ W.cell? ⟨w.heap.size, 1, none⟩ = some (.int .i64 n) ∧ W.cell? ⟨w.heap.size, 2, none⟩ = some (.string s) ∧ W.cell? ⟨w.heap.size + 1, 0, none⟩ = some (.int .i64 k') ∧ W.cell? ⟨w.heap.size + 1, 1, none⟩ = some (.int .i64 n') ∧ W.cell? ⟨w.heap.size + 1, 2, none⟩ = some (.string s') := ⟨HB, hc1.out.cell 0, hc1.out.cell 1, hc1.out.cell 2, hc2.out.cell 0, hc2.out.cell 1, hc2.out.cell 2⟩
  have S1 : Hid (Below w.heap.size w W.drew) ∧ W.drew.cell? ⟨w.heap.size, 0, none⟩ = some (.int .i64 k) ∧ W.drew.cell? ⟨w.heap.size, 1, none⟩ = some (.int .i64 n) ∧ W.drew.cell? ⟨w.heap.size, 2, none⟩ = some (.string s) ∧ W.drew.cell? ⟨w.heap.size + 1, 0, none⟩ = some (.int .i64 k') ∧ W.drew.cell? ⟨w.heap.size + 1, 1, none⟩ = some (.int .i64 n') ∧ W.drew.cell? ⟨w.heap.size + 1, 2, none⟩ = some (.string s')   := ⟨S0.1.out.drew, S0.2⟩
  obtain ⟨hb0, d0, d1, d2, e0, e1, e2⟩ := S1
  clear hc1 hc2 HB
  go_region_held3 (fun W => Hid (Below w.heap.size w W) ∧ W.cell? ⟨w.heap.size, 0, none⟩ = some (.int .i64 k) ∧ W.cell? ⟨w.heap.size, 1, none⟩ = some (.int .i64 n) ∧ W.cell? ⟨w.heap.size, 2, none⟩ = some (.string s) ∧ W.cell? ⟨w.heap.size + 1, 0, none⟩ = some (.int .i64 k') ∧ W.cell? ⟨w.heap.size + 1, 1, none⟩ = some (.int .i64 n') ∧ W.cell? ⟨w.heap.size + 1, 2, none⟩ = some (.string s')) ((first | assumption | (refine ⟨by assumption, ?_⟩; go_keep)))
    (first | (go_at_call 10; refine (CM1.out _ (HT.out.below (Hid.out (by assumption)))).mono ?_; rintro e x1 ⟨rfl, hb1⟩; obtain ⟨i0, i1, i2, i3, i4, i5, i6⟩ := keep6 (k := k) (n := n) (s := s) (k' := k') (n' := n') (s' := s') hb1.out ⟨by assumption, by assumption, by assumption, by assumption, by assumption, by assumption, by assumption⟩; clear hb1) | (go_at_call 11; refine (CR1.out _).mono ?_; rintro e x1 ⟨rfl, hb1⟩; obtain ⟨i0, i1, i2, i3, i4, i5, i6⟩ := keep6 (k := k) (n := n) (s := s) (k' := k') (n' := n') (s' := s') hb1.out ⟨by assumption, by assumption, by assumption, by assumption, by assumption, by assumption, by assumption⟩; clear hb1) | (go_at_call 12; with_reducible refine (CC1.out _).mono ?_; rintro e x1 ⟨rfl, hb1⟩; obtain ⟨i0, i1, i2, i3, i4, i5, i6⟩ := keep6 (k := k) (n := n) (s := s) (k' := k') (n' := n') (s' := s') hb1.out ⟨by assumption, by assumption, by assumption, by assumption, by assumption, by assumption, by assumption⟩; clear hb1) | (go_at_call 12; with_reducible refine (CC2.out _).mono ?_; rintro e x1 ⟨rfl, hb1⟩; obtain ⟨i0, i1, i2, i3, i4, i5, i6⟩ := keep6 (k := k) (n := n) (s := s) (k' := k') (n' := n') (s' := s') hb1.out ⟨by assumption, by assumption, by assumption, by assumption, by assumption, by assumption, by assumption⟩; clear hb1) | (go_at_call 12; with_reducible refine (CC3.out _).mono ?_; rintro e x1 ⟨rfl, hb1⟩; obtain ⟨i0, i1, i2, i3, i4, i5, i6⟩ := keep6 (k := k) (n := n) (s := s) (k' := k') (n' := n') (s' := s') hb1.out ⟨by assumption, by assumption, by assumption, by assumption, by assumption, by assumption, by assumption⟩; clear hb1) | (go_at_call 13; refine (CQ.out _).mono ?_; rintro e x1 ⟨rfl, hb1⟩; obtain ⟨i0, i1, i2, i3, i4, i5, i6⟩ := keep6 (k := k) (n := n) (s := s) (k' := k') (n' := n') (s' := s') hb1.out ⟨by assumption, by assumption, by assumption, by assumption, by assumption, by assumption, by assumption⟩; clear hb1) | (go_at_call 14; refine (CL.out _ (HT.out.below (Hid.out (by assumption)))).mono ?_; rintro e x1 ⟨rfl, hb1⟩; obtain ⟨i0, i1, i2, i3, i4, i5, i6⟩ := keep6 (k := k) (n := n) (s := s) (k' := k') (n' := n') (s' := s') hb1 ⟨by assumption, by assumption, by assumption, by assumption, by assumption, by assumption, by assumption⟩; clear hb1))
  all_goals
    go_wp2_with fail
    go_ret
    exact ⟨rfl, Hid.out (by assumption)⟩
end Go.Proofs.YtlkhijccjjpbbaaDoor.valueMay
