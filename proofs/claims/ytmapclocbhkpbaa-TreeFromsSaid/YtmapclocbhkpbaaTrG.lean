/-
  What stands atop: least, leastAll, mayStand, atop, single.
-/
import Derived.Test.YtmapclocbhkpbaaTrF
namespace Go.Proofs.Ytmapclocbhkpbaa
open Go.RowKit Go.Maps Dg
set_option linter.unusedVariables false
theorem IsTr.hp {n : Nat} {w w' : World} {T : Tr} (h : IsTr n w T) (e : w'.heap = w.heap) : IsTr n w' T := IsTr.keep (w := w) (w' := w') (fun b _ => by rw [e]) h
theorem Below.drewN {n : Nat} {w w' : World} (h : Below n w w') (k : Nat) : Below n w (w'.drewN k) := ⟨h.os, h.tape, h.output, h.size, h.block⟩
section
variable {n : Nat} {w : World}
set_option maxHeartbeats 4000000 in
set_option maxRecDepth 100000 in
theorem least_any (T : Tr) : ∀ (w : World) (f t : Int), IsTr n w T → Calls Try.prog 43 #[.pointer T.ptr, .int .i64 f, .int .i64 t] w fun e w' => (∃ x : Int, e = .returned (.int .i64 x)) ∧ ∃ j, w' = w.drewN j := by
  induction T with
  | nil =>
    intro w f t hT
    have hp : (Tr.nil).ptr = none := rfl
    rw [hp]
    go_enter Try.func43, Try.ntmps43
    go_wp2_with fail
    go_ret
    exact ⟨⟨_, rfl⟩, 0, rfl⟩
  | node b l k v lo le r ihl ihr =>
    intro w f t hT
    obtain ⟨h1, h2, h3, h4⟩ := hT
    have hp : (Tr.node b l k v lo le r).ptr = some ⟨b, 0, none⟩ := rfl
    rw [hp]
    have c2 : w.cell? ⟨b, 2, none⟩ = some (.pointer l.ptr) := h2.cell 2
    have c3 : w.cell? ⟨b, 3, none⟩ = some (.pointer r.ptr) := h2.cell 3
    have c4 : w.cell? ⟨b, 4, none⟩ = some (.int .i64 ((l.size + 1 + r.size : Nat) : Int)) := h2.cell 4
    have c6 : w.cell? ⟨b, 6, none⟩ = some (.int .i64 lo) := h2.cell 6
    have c7 : w.cell? ⟨b, 7, none⟩ = some (.int .i64 le) := h2.cell 7
    have HSZ := Lib.hid (size_any l h3)
    generalize l.size + 1 + r.size = z at *
    go_enter Try.func43, Try.ntmps43
    by_cases q1 : (z : Int) ≤ f ∨ t ≤ 0
    · rcases q1 with q1 | q1
      · go_wp2_with fail
        go_ret
        exact ⟨⟨_, rfl⟩, 0, rfl⟩
      · by_cases q3 : (z : Int) ≤ f
        · go_wp2_with fail
          go_ret
          exact ⟨⟨_, rfl⟩, 0, rfl⟩
        · go_wp2_with fail
          go_ret
          exact ⟨⟨_, rfl⟩, 0, rfl⟩
    · have q3 : ¬ (z : Int) ≤ f := fun h => q1 (.inl h)
      have q4 : ¬ t ≤ 0 := fun h => q1 (.inr h)
      by_cases q5 : f ≤ 0 ∧ (z : Int) ≤ t
      · obtain ⟨q5, q6⟩ := q5
        go_wp2_with fail
        go_ret
        exact ⟨⟨_, rfl⟩, 0, rfl⟩
      · by_cases q7 : f ≤ 0
        · have q8 : ¬ (z : Int) ≤ t := fun h => q5 ⟨q7, h⟩
          go_wp2_with fail
          refine HSZ.out.mono ?_
          rintro e w1 ⟨rfl, rfl⟩
          go_wp2_with fail
          go_region_held3 (fun X => X.cell? ⟨b, 2, none⟩ = some (.pointer l.ptr) ∧ X.cell? ⟨b, 3, none⟩ = some (.pointer r.ptr)) (exact ⟨c2, c3⟩)
            (first
             | (go_at_call_of 43 (Value.pointer l.ptr); refine (ihl _ _ _ (by exact h3.hp rfl)).mono ?_; rintro e w2 ⟨⟨x1, rfl⟩, k1, rfl⟩)
             | (go_at_call_of 43 (Value.pointer r.ptr); refine (ihr _ _ _ (by exact h4.hp rfl)).mono ?_; rintro e w2 ⟨⟨x2, rfl⟩, k2, rfl⟩)
             | fail)
          have cc6 : ((w1.drew.drewN k1).drewN k2).cell? ⟨b, 6, none⟩ = some (.int .i64 lo) := c6
          generalize (if x2 < x1 then x2 else x1) = mm
          by_cases q9 : f ≤ (l.size : Int)
          · by_cases q10 : (l.size : Int) < t
            · go_wp2_with fail
              all_goals (
                go_ret
                exact ⟨⟨_, rfl⟩, _, rfl⟩)
            · go_wp2_with fail
              all_goals (
                go_ret
                exact ⟨⟨_, rfl⟩, _, rfl⟩)
          · go_wp2_with fail
            all_goals (
              go_ret
              exact ⟨⟨_, rfl⟩, _, rfl⟩)
        · go_wp2_with fail
          refine HSZ.out.mono ?_
          rintro e w1 ⟨rfl, rfl⟩
          go_wp2_with fail
          go_region_held3 (fun X => X.cell? ⟨b, 2, none⟩ = some (.pointer l.ptr) ∧ X.cell? ⟨b, 3, none⟩ = some (.pointer r.ptr)) (exact ⟨c2, c3⟩)
            (first
             | (go_at_call_of 43 (Value.pointer l.ptr); refine (ihl _ _ _ (by exact h3.hp rfl)).mono ?_; rintro e w2 ⟨⟨x1, rfl⟩, k1, rfl⟩)
             | (go_at_call_of 43 (Value.pointer r.ptr); refine (ihr _ _ _ (by exact h4.hp rfl)).mono ?_; rintro e w2 ⟨⟨x2, rfl⟩, k2, rfl⟩)
             | fail)
          have cc6 : ((w1.drew.drewN k1).drewN k2).cell? ⟨b, 6, none⟩ = some (.int .i64 lo) := c6
          generalize (if x2 < x1 then x2 else x1) = mm
          by_cases q9 : f ≤ (l.size : Int)
          · by_cases q10 : (l.size : Int) < t
            · go_wp2_with fail
              all_goals (
                go_ret
                exact ⟨⟨_, rfl⟩, _, rfl⟩)
            · go_wp2_with fail
              all_goals (
                go_ret
                exact ⟨⟨_, rfl⟩, _, rfl⟩)
          · go_wp2_with fail
            all_goals (
              go_ret
              exact ⟨⟨_, rfl⟩, _, rfl⟩)
end
end Go.Proofs.Ytmapclocbhkpbaa
