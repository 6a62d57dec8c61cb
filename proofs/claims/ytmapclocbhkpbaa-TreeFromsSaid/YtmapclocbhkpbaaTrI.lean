/-
  atop: a node with others below; single.
-/
import Derived.Test.YtmapclocbhkpbaaTrH
namespace Go.Proofs.Ytmapclocbhkpbaa
open Go.RowKit Go.Maps Dg
set_option linter.unusedVariables false
section
variable {n : Nat} {w : World}
theorem cell_al {w X : World} {p : Addr} {u : Value} (o : Obj) (h : w.cell? p = some u) (e : X.heap = w.heap) : (X.alloc o).cell? p = some u := by
  have hx : X.cell? p = some u := by rw [← h]; unfold World.cell?; rw [e]
  exact (World.cell?_of_block (a := p) (Below.heap_alloc X o p.block (World.block_lt_of_cell? X p hx))).trans hx
set_option maxHeartbeats 4000000 in
set_option maxRecDepth 100000 in
theorem atop_any (L R : Tr) (t : Nat) (k : ByteArray) (v lo : Int) (w : World) (hL : IsTr n w L) (hR : IsTr n w R) (hz : L.size + 1 + R.size ≤ 1000000) (hzl : L.ht ≤ 1000000) (hzr : R.ht ≤ 1000000)
    (t0 : w.cell? ⟨t, 0, none⟩ = some (.string k)) (t1 : w.cell? ⟨t, 1, none⟩ = some (.int .i64 v)) (t6 : w.cell? ⟨t, 6, none⟩ = some (.int .i64 lo)) :
    Calls Try.prog 36 #[.pointer L.ptr, .pointer (some ⟨t, 0, none⟩), .pointer R.ptr] w fun e w' => e = .returned (.pointer (some ⟨w.heap.size, 0, none⟩)) ∧ (∃ le : Int, Has w' w.heap.size 57 (Tr.row L k v lo le R)) ∧ Below w.heap.size w w' ∧ w'.heap.size = w.heap.size + 1 := by
  have p1 : (0 : Int) ≤ (L.size : Int) := by omega
  have p2 : (0 : Int) ≤ (R.size : Int) := by omega
  have p3 : (0 : Int) ≤ (L.ht : Int) := by omega
  have p4 : (0 : Int) ≤ (R.ht : Int) := by omega
  have p5 : (L.size : Int) + 1 + (R.size : Int) ≤ 1000000 := by omega
  have p6 : (L.ht : Int) ≤ 1000000 := by omega
  have p7 : (R.ht : Int) ≤ 1000000 := by omega
  by_cases hh : (L.ht : Int) < (R.ht : Int)
  · go_enter Try.func36, Try.ntmps36
    go_wp2_with fail
    go_region_held3 (fun X => X.cell? ⟨t, 0, none⟩ = some (.string k) ∧ X.cell? ⟨t, 1, none⟩ = some (.int .i64 v) ∧ X.cell? ⟨t, 6, none⟩ = some (.int .i64 lo)) (first | exact ⟨t0, t1, t6⟩ | exact ⟨cell_al _ t0 (by rfl), cell_al _ t1 (by rfl), cell_al _ t6 (by rfl)⟩)
      (first
       | (go_at_call_of 30 (Value.pointer L.ptr); refine (size_any L (by exact hL.hp rfl)).mono ?_; rintro e w1 ⟨rfl, rfl⟩)
       | (go_at_call_of 30 (Value.pointer R.ptr); refine (size_any R (by exact hR.hp rfl)).mono ?_; rintro e w1 ⟨rfl, rfl⟩)
       | (go_at_call_of 33 (Value.pointer L.ptr); refine (height_any L (by exact hL.hp rfl)).mono ?_; rintro e w1 ⟨rfl, rfl⟩)
       | (go_at_call_of 33 (Value.pointer R.ptr); refine (height_any R (by exact hR.hp rfl)).mono ?_; rintro e w1 ⟨rfl, rfl⟩)
       | (go_at_call_of 41 (Value.pointer L.ptr); refine (leastAll_any L _ (by exact hL.hp rfl)).mono ?_; rintro e w1 ⟨⟨x1, rfl⟩, j1, rfl⟩)
       | (go_at_call_of 41 (Value.pointer R.ptr); refine (leastAll_any R _ (by exact hR.hp rfl)).mono ?_; rintro e w1 ⟨⟨x2, rfl⟩, j2, rfl⟩)
       | fail)
    all_goals go_wp2_with fail
    all_goals (
      go_ret
      refine ⟨rfl, ?_, ((Below.drewN (Below.refl w.heap.size w) _).alloc (Nat.le_refl _) _), by simp [World.drewN]⟩
      have hv := fun z => Has.new (w.drewN (1 + j1 + j2)) 57 (Tr.row L k v lo z R)
      have e1 : IntKind.i64.wrap (IntKind.i64.wrap ((L.size : Int) + 1) + (R.size : Int)) = ((L.size + 1 + R.size : Nat) : Int) := by rw [IntKind.wrap_i64, IntKind.wrap_i64]; omega
      have e2 : IntKind.i64.wrap (1 + (R.ht : Int)) = ((1 + max L.ht R.ht : Nat) : Int) := by rw [IntKind.wrap_i64]; omega
      rw [e1, e2]
      first | exact ⟨x2, hv x2⟩ | exact ⟨x1, hv x1⟩ | exact ⟨lo, hv lo⟩)
  · go_enter Try.func36, Try.ntmps36
    go_wp2_with fail
    go_region_held3 (fun X => X.cell? ⟨t, 0, none⟩ = some (.string k) ∧ X.cell? ⟨t, 1, none⟩ = some (.int .i64 v) ∧ X.cell? ⟨t, 6, none⟩ = some (.int .i64 lo)) (first | exact ⟨t0, t1, t6⟩ | exact ⟨cell_al _ t0 (by rfl), cell_al _ t1 (by rfl), cell_al _ t6 (by rfl)⟩)
      (first
       | (go_at_call_of 30 (Value.pointer L.ptr); refine (size_any L (by exact hL.hp rfl)).mono ?_; rintro e w1 ⟨rfl, rfl⟩)
       | (go_at_call_of 30 (Value.pointer R.ptr); refine (size_any R (by exact hR.hp rfl)).mono ?_; rintro e w1 ⟨rfl, rfl⟩)
       | (go_at_call_of 33 (Value.pointer L.ptr); refine (height_any L (by exact hL.hp rfl)).mono ?_; rintro e w1 ⟨rfl, rfl⟩)
       | (go_at_call_of 33 (Value.pointer R.ptr); refine (height_any R (by exact hR.hp rfl)).mono ?_; rintro e w1 ⟨rfl, rfl⟩)
       | (go_at_call_of 41 (Value.pointer L.ptr); refine (leastAll_any L _ (by exact hL.hp rfl)).mono ?_; rintro e w1 ⟨⟨x1, rfl⟩, j1, rfl⟩)
       | (go_at_call_of 41 (Value.pointer R.ptr); refine (leastAll_any R _ (by exact hR.hp rfl)).mono ?_; rintro e w1 ⟨⟨x2, rfl⟩, j2, rfl⟩)
       | fail)
    all_goals go_wp2_with fail
    all_goals (
      go_ret
      refine ⟨rfl, ?_, ((Below.drewN (Below.refl w.heap.size w) _).alloc (Nat.le_refl _) _), by simp [World.drewN]⟩
      have hv := fun z => Has.new (w.drewN (1 + j1 + j2)) 57 (Tr.row L k v lo z R)
      have e1 : IntKind.i64.wrap (IntKind.i64.wrap ((L.size : Int) + 1) + (R.size : Int)) = ((L.size + 1 + R.size : Nat) : Int) := by rw [IntKind.wrap_i64, IntKind.wrap_i64]; omega
      have e2 : IntKind.i64.wrap (1 + (L.ht : Int)) = ((1 + max L.ht R.ht : Nat) : Int) := by rw [IntKind.wrap_i64]; omega
      rw [e1, e2]
      first | exact ⟨x2, hv x2⟩ | exact ⟨x1, hv x1⟩ | exact ⟨lo, hv lo⟩)
end
end Go.Proofs.Ytmapclocbhkpbaa
