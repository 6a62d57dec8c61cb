/-
  Put together: size, height, lots, atop.
-/
import Derived.Test.YtcdjeibcnkpadaaDoorWa1
import Derived.Deep.RegionHeld3
namespace Go.Proofs.YtcdjeibcnkpadaaDoor
open Go.RowKit Go.Maps Dg
set_option linter.unusedVariables false
section
variable {n : Nat} {w : World}
theorem size_any (T : Tr) (hT : IsTr n w T) : Calls Tryd.prog 68 #[.pointer T.ptr] w fun e w' => e = .returned (.int .i64 (T.size : Int)) ∧ w' = w := by
  cases T with
  | nil =>
    go_enter Tryd.func68, Tryd.ntmps68
    go_wp2_with fail
    go_ret
    exact ⟨rfl, rfl⟩
  | node b l k v lo le r =>
    obtain ⟨h1, h2, h3, h4⟩ := hT
    show Calls _ _ #[.pointer (some ⟨b, 0, none⟩)] _ _
    have c4 : w.cell? ⟨b, 4, none⟩ = some (.int .i64 ((l.size + 1 + r.size : Nat) : Int)) := h2.cell 4
    go_enter Tryd.func68, Tryd.ntmps68
    go_wp2_with fail
    go_ret
    exact ⟨rfl, rfl⟩
theorem height_any (T : Tr) (hT : IsTr n w T) : Calls Tryd.prog 93 #[.pointer T.ptr] w fun e w' => e = .returned (.int .i64 (T.ht : Int)) ∧ w' = w := by
  cases T with
  | nil =>
    go_enter Tryd.func93, Tryd.ntmps93
    go_wp2_with fail
    go_ret
    exact ⟨rfl, rfl⟩
  | node b l k v lo le r =>
    obtain ⟨h1, h2, h3, h4⟩ := hT
    show Calls _ _ #[.pointer (some ⟨b, 0, none⟩)] _ _
    have c4 : w.cell? ⟨b, 5, none⟩ = some (.int .i64 ((1 + max l.ht r.ht : Nat) : Int)) := h2.cell 5
    go_enter Tryd.func93, Tryd.ntmps93
    go_wp2_with fail
    go_ret
    exact ⟨rfl, rfl⟩
theorem middle_any (w : World) (m : Nat) (hm : m ≤ 1000000) : Calls Tryd.prog 97 #[.int .i64 (m : Int)] w fun e w' => e = .returned (.tuple #[.int .i64 ((m : Int) / 3), .int .i64 ((m : Int) - (m : Int) / 3)]) ∧ w' = w := by
  have h1 : (0 : Int) ≤ (m : Int) / 3 := by omega
  have h2 : (m : Int) / 3 ≤ (m : Int) := by omega
  go_enter Tryd.func97, Tryd.ntmps97
  go_wp2_with fail
  go_ret2
  exact ⟨rfl, rfl⟩
/-- The node of a key, on the way down. -/
def Tr.find (key : ByteArray) : Tr → Option Nd
  | .nil => none
  | .node b l k v _ _ r => if k.toList == key.toList then some ⟨b, k, v⟩ else if kl key k then l.find key else r.find key
def ndPtr : Option Nd → Value
  | none => .pointer none
  | some x => .pointer (some ⟨x.b, 0, none⟩)
/-- How far down it still goes, as the memory has it. -/
def mzr (w : World) : Value → Nat
  | .pointer (some a) => match w.cell? ⟨a.block, 5, none⟩ with
    | some (.int _ h) => h.toNat
    | _ => 0
  | _ => 0
theorem mzr_at {T : Tr} (hT : IsTr n w T) : mzr w (.pointer T.ptr) = T.ht := by
  cases T with
  | nil => rfl
  | node b l k v lo le r =>
    have c5 : w.cell? ⟨b, 5, none⟩ = some (.int .i64 ((1 + max l.ht r.ht : Nat) : Int)) := hT.2.1.cell 5
    show (match w.cell? ⟨b, 5, none⟩ with | some (.int _ h) => h.toNat | _ => 0) = _
    rw [c5]
    rfl
set_option maxHeartbeats 2000000 in
theorem tfind_any (T : Tr) (hT : IsTr n w T) (key : ByteArray) : Calls Tryd.prog 75 #[.pointer T.ptr, .string key] w fun e w' => e = .returned (ndPtr (T.find key)) ∧ w' = w := by
  go_enter Tryd.func75, Tryd.ntmps75
  go_wp2_with fail
  go_loopw [0] (fun p wr => ∃ S : Tr, p = .pointer S.ptr ∧ IsTr n w S ∧ S.find key = T.find key ∧ wr = w) (fun p wr => mzr wr p)
  case atStart => exact ⟨T, rfl, hT, rfl, rfl⟩
  case round =>
    obtain ⟨S, rfl, hS, hf, rfl⟩ := hrel
    cases S with
    | nil =>
      have hp : (Tr.nil).ptr = none := rfl
      rw [hp]
      go_wp2_with fail
      go_ret
      rw [← hf]
      exact ⟨rfl, rfl⟩
    | node b l k v lo le r =>
      have hS' := hS
      obtain ⟨h1, h2, h3, h4⟩ := hS
      have hp : (Tr.node b l k v lo le r).ptr = some ⟨b, 0, none⟩ := rfl
      rw [hp]
      have c0 : wr.cell? ⟨b, 0, none⟩ = some (.string k) := h2.cell 0
      have c2 : wr.cell? ⟨b, 2, none⟩ = some (.pointer l.ptr) := h2.cell 2
      have c3 : wr.cell? ⟨b, 3, none⟩ = some (.pointer r.ptr) := h2.cell 3
      cases he : (k.toList == key.toList) with
      | true =>
        have hff : (Tr.node b l k v lo le r).find key = some ⟨b, k, v⟩ := by simp [Tr.find, he]
        go_wp2_with fail
        go_ret
        rw [← hf, hff]
        exact ⟨rfl, rfl⟩
      | false =>
        cases hl : Op.bytesLess key.toList k.toList with
        | true =>
          have hff : (Tr.node b l k v lo le r).find key = l.find key := by simp [Tr.find, he, kl, hl]
          go_wp2_with fail
          go_roundw
          case rel => exact ⟨l, rfl, h3, by rw [← hf, hff], by trivial⟩
          case measure => rw [mzr_at h3, ← hp, mzr_at hS']; simp only [Tr.ht]; omega
        | false =>
          have hff : (Tr.node b l k v lo le r).find key = r.find key := by simp [Tr.find, he, kl, hl]
          go_wp2_with fail
          go_roundw
          case rel => exact ⟨r, rfl, h4, by rw [← hf, hff], by trivial⟩
          case measure => rw [mzr_at h4, ← hp, mzr_at hS']; simp only [Tr.ht]; omega
set_option maxHeartbeats 2000000 in
theorem lot_any (w : World) (key : ByteArray) (hk : key.size ≤ 140737488355328) : Calls Tryd.prog 86 #[.string key] w fun e w' => (∃ k : Int, e = .returned (.int .i64 k)) ∧ w' = w := by
  have hkI : (key.size : Int) ≤ 140737488355328 := by omega
  go_enter Tryd.func86, Tryd.ntmps86
  go_wp2_with fail
  go_loopw [3, 7] (fun h i wr => ∃ (x : Int) (k : Nat), k ≤ key.size ∧ h = .int .u64 x ∧ i = .int .i64 k ∧ wr = w) (fun _ i _ => key.size - (intOf i).toNat)
  case atStart => exact ⟨_, 0, by omega, rfl, rfl, rfl⟩
  case round =>
    obtain ⟨x, k, hk2, rfl, rfl, rfl⟩ := hrel
    by_cases hlt : k < key.size
    · have hi : (k : Int) < (key.size : Int) := by omega
      go_wp2_with fail
      go_roundw
      case rel => exact ⟨_, k + 1, by omega, rfl, by go_num, by trivial⟩
      case measure => simp [intOf]; omega
    · go_wp2_with fail
      go_ret
      exact ⟨⟨_, rfl⟩, rfl⟩
end
end Go.Proofs.YtcdjeibcnkpadaaDoor
namespace Go.Proofs.YtcdjeibcnkpadaaDoor
open Go.RowKit Go.Maps Dg
set_option linter.unusedVariables false
theorem IsTr.hp {n : Nat} {w w' : World} {T : Tr} (h : IsTr n w T) (e : w'.heap = w.heap) : IsTr n w' T := IsTr.keep (w := w) (w' := w') (fun b _ => by rw [e]) h
theorem Below.drewN {n : Nat} {w w' : World} (h : Below n w w') (k : Nat) : Below n w (w'.drewN k) := ⟨h.os, h.tape, h.output, h.size, h.block⟩
section
variable {n : Nat} {w : World}
set_option maxHeartbeats 4000000 in
set_option maxRecDepth 100000 in
theorem least_any (T : Tr) : ∀ (w : World) (f t : Int), IsTr n w T → Calls Tryd.prog 99 #[.pointer T.ptr, .int .i64 f, .int .i64 t] w fun e w' => (∃ x : Int, e = .returned (.int .i64 x)) ∧ ∃ j, w' = w.drewN j := by
  induction T with
  | nil =>
    intro w f t hT
    have hp : (Tr.nil).ptr = none := rfl
    rw [hp]
    go_enter Tryd.func99, Tryd.ntmps99
    go_wp2_with fail
    go_ret
    exact ⟨⟨_, rfl⟩, 0, rfl⟩
  | node b l k v lo le r ihl ihr =>
    intro w f t hT
    obtain ⟨h1, h2, h3, h4⟩ := hT
    have hp : (Tr.node b l k v lo le r).ptr = some ⟨b, 0, none⟩ := rfl
    rw [hp]
    have c2 : w.cell? ⟨b, 2, none⟩ = some (.pointer l.ptr) := h2.cell 2
    have c3 : w.cell? ⟨b, 3, none⟩ = some (.pointer r.ptr) := h2.cell 3
    have c4 : w.cell? ⟨b, 4, none⟩ = some (.int .i64 ((l.size + 1 + r.size : Nat) : Int)) := h2.cell 4
    have c6 : w.cell? ⟨b, 6, none⟩ = some (.int .i64 lo) := h2.cell 6
    have c7 : w.cell? ⟨b, 7, none⟩ = some (.int .i64 le) := h2.cell 7
    have HSZ := Lib.hid (size_any l h3)
    generalize l.size + 1 + r.size = z at *
    go_enter Tryd.func99, Tryd.ntmps99
    by_cases q1 : (z : Int) ≤ f ∨ t ≤ 0
    · rcases q1 with q1 | q1
      · go_wp2_with fail
        go_ret
        exact ⟨⟨_, rfl⟩, 0, rfl⟩
      · by_cases q3 : (z : Int) ≤ f
        · go_wp2_with fail
          go_ret
          exact ⟨⟨_, rfl⟩, 0, rfl⟩
        · go_wp2_with fail
          go_ret
          exact ⟨⟨_, rfl⟩, 0, rfl⟩
    · have q3 : ¬ (z : Int) ≤ f := fun h => q1 (.inl h)
      have q4 : ¬ t ≤ 0 := fun h => q1 (.inr h)
      by_cases q5 : f ≤ 0 ∧ (z : Int) ≤ t
      · obtain ⟨q5, q6⟩ := q5
        go_wp2_with fail
        go_ret
        exact ⟨⟨_, rfl⟩, 0, rfl⟩
      · by_cases q7 : f ≤ 0
        · have q8 : ¬ (z : Int) ≤ t := fun h => q5 ⟨q7, h⟩
          go_wp2_with fail
          refine HSZ.out.mono ?_
          rintro e w1 ⟨rfl, rfl⟩
          go_wp2_with fail
          go_region_held3 (fun X => X.cell? ⟨b, 2, none⟩ = some (.pointer l.ptr) ∧ X.cell? ⟨b, 3, none⟩ = some (.pointer r.ptr)) (exact ⟨c2, c3⟩)
            (first
             | (go_at_call_of 99 (Value.pointer l.ptr); refine (ihl _ _ _ (by exact h3.hp rfl)).mono ?_; rintro e w2 ⟨⟨x1, rfl⟩, k1, rfl⟩)
             | (go_at_call_of 99 (Value.pointer r.ptr); refine (ihr _ _ _ (by exact h4.hp rfl)).mono ?_; rintro e w2 ⟨⟨x2, rfl⟩, k2, rfl⟩)
             | fail)
          have cc6 : ((w1.drew.drewN k1).drewN k2).cell? ⟨b, 6, none⟩ = some (.int .i64 lo) := c6
          generalize (if x2 < x1 then x2 else x1) = mm
          by_cases q9 : f ≤ (l.size : Int)
          · by_cases q10 : (l.size : Int) < t
            · go_wp2_with fail
              all_goals (
                go_ret
                exact ⟨⟨_, rfl⟩, _, rfl⟩)
            · go_wp2_with fail
              all_goals (
                go_ret
                exact ⟨⟨_, rfl⟩, _, rfl⟩)
          · go_wp2_with fail
            all_goals (
              go_ret
              exact ⟨⟨_, rfl⟩, _, rfl⟩)
        · go_wp2_with fail
          refine HSZ.out.mono ?_
          rintro e w1 ⟨rfl, rfl⟩
          go_wp2_with fail
          go_region_held3 (fun X => X.cell? ⟨b, 2, none⟩ = some (.pointer l.ptr) ∧ X.cell? ⟨b, 3, none⟩ = some (.pointer r.ptr)) (exact ⟨c2, c3⟩)
            (first
             | (go_at_call_of 99 (Value.pointer l.ptr); refine (ihl _ _ _ (by exact h3.hp rfl)).mono ?_; rintro e w2 ⟨⟨x1, rfl⟩, k1, rfl⟩)
             | (go_at_call_of 99 (Value.pointer r.ptr); refine (ihr _ _ _ (by exact h4.hp rfl)).mono ?_; rintro e w2 ⟨⟨x2, rfl⟩, k2, rfl⟩)
             | fail)
          have cc6 : ((w1.drew.drewN k1).drewN k2).cell? ⟨b, 6, none⟩ = some (.int .i64 lo) := c6
          generalize (if x2 < x1 then x2 else x1) = mm
          by_cases q9 : f ≤ (l.size : Int)
          · by_cases q10 : (l.size : Int) < t
            · go_wp2_with fail
              all_goals (
                go_ret
                exact ⟨⟨_, rfl⟩, _, rfl⟩)
            · go_wp2_with fail
              all_goals (
                go_ret
                exact ⟨⟨_, rfl⟩, _, rfl⟩)
          · go_wp2_with fail
            all_goals (
              go_ret
              exact ⟨⟨_, rfl⟩, _, rfl⟩)
end
end Go.Proofs.YtcdjeibcnkpadaaDoor
namespace Go.Proofs.YtcdjeibcnkpadaaDoor
open Go.RowKit Go.Maps Dg
set_option linter.unusedVariables false
section
variable {n : Nat} {w : World}
theorem leastAll_any (T : Tr) (w : World) (hT : IsTr n w T) : Calls Tryd.prog 94 #[.pointer T.ptr] w fun e w' => (∃ x : Int, e = .returned (.int .i64 x)) ∧ ∃ j, w' = w.drewN j := by
  have HS := Lib.hid (size_any T hT)
  have HL := Lib.hid (fun f t => least_any T w f t hT)
  go_enter Tryd.func94, Tryd.ntmps94
  go_wp2_with fail
  refine HS.out.mono ?_
  rintro e w1 ⟨rfl, rfl⟩
  go_wp2_with fail
  refine (HL.out _ _).mono ?_
  rintro e w2 ⟨⟨x, rfl⟩, j, rfl⟩
  go_wp2_with fail
  go_ret
  exact ⟨⟨_, rfl⟩, _, rfl⟩
set_option maxHeartbeats 4000000 in
set_option maxRecDepth 100000 in
theorem mayStand_any (L R : Tr) (t : Nat) (lo : Int) (w : World) (hL : IsTr n w L) (hR : IsTr n w R) (hz : L.size + 1 + R.size ≤ 1000000) (ht : w.cell? ⟨t, 6, none⟩ = some (.int .i64 lo)) :
    Calls Tryd.prog 92 #[.pointer L.ptr, .pointer (some ⟨t, 0, none⟩), .pointer R.ptr] w fun e w' => (∃ b : Bool, e = .returned (.bool b) ∧ (b = true → ((L.size + 1 + R.size) / 3 ≤ L.size ∧ L.size < (L.size + 1 + R.size) - (L.size + 1 + R.size) / 3))) ∧ ∃ j, w' = w.drewN j := by
  have HSL := Lib.hid (size_any L hL)
  have HSR := Lib.hid (size_any R hR)
  have HM := Lib.hid (middle_any w (L.size + 1 + R.size) hz)
  have hpush : ((L.size + 1 + R.size : Nat) : Int) = (L.size : Int) + 1 + (R.size : Int) := by omega
  rw [hpush] at HM
  go_enter Tryd.func92, Tryd.ntmps92
  go_wp2_with fail
  refine HSL.out.mono ?_
  rintro e w1 ⟨rfl, rfl⟩
  go_wp2_with fail
  refine HSR.out.mono ?_
  rintro e w1 ⟨rfl, rfl⟩
  go_wp2_with fail
  refine HM.out.mono ?_
  rintro e w1 ⟨rfl, rfl⟩
  clear HSL HSR HM
  by_cases q1 : (L.size : Int) < ((L.size : Int) + 1 + (R.size : Int)) / 3
  · go_wp2_with fail
    go_ret
    exact ⟨⟨_, rfl, fun h => by cases h⟩, 0, rfl⟩
  · by_cases q2 : (L.size : Int) + 1 + (R.size : Int) - ((L.size : Int) + 1 + (R.size : Int)) / 3 ≤ (L.size : Int)
    · go_wp2_with fail
      go_ret
      exact ⟨⟨_, rfl, fun h => by cases h⟩, 0, rfl⟩
    · have hq : (L.size + 1 + R.size) / 3 ≤ L.size ∧ L.size < (L.size + 1 + R.size) - (L.size + 1 + R.size) / 3 := by omega
      have HQ := Lib.hid hq
      go_wp2_with fail
      refine wp_region_held_drew (S := fun X => X.cell? ⟨t, 6, none⟩ = some (.int .i64 lo)) (by kernel_rfl) (by exact ht) (fun _ => ?_)
      (refine wpAnyH_take (i := 0) (v := ?_) rfl (by kernel_rfl) (by kernel_rfl) (by kernel_rfl) (fun _ _ _ h => h) (Or.inl ⟨by rfl, ?_⟩) (by assumption) ?_; rotate_left; (intro w hSw; (try dsimp only at hSw); go_simp; try with_reducible rfl); ((try simp only [List.getElem_toArray]); (try simp only [List.getElem_cons_succ]); (try simp only [List.getElem_cons_zero]); (try simp only [Act.put]); (try simp only [List.setIfInBounds_toArray]); (try simp only [List.set_cons_succ]); (try simp only [List.set_cons_zero])))
      (refine wpAnyH_take (i := 1) (v := ?_) rfl (by kernel_rfl) (by kernel_rfl) (by kernel_rfl) (fun _ _ _ h => h) (Or.inl ⟨by rfl, ?_⟩) (by assumption) ?_; rotate_left; (intro w hSw; (try dsimp only at hSw); go_simp; try with_reducible rfl); ((try simp only [List.getElem_toArray]); (try simp only [List.getElem_cons_succ]); (try simp only [List.getElem_cons_zero]); (try simp only [Act.put]); (try simp only [List.setIfInBounds_toArray]); (try simp only [List.set_cons_succ]); (try simp only [List.set_cons_zero])))
      (refine wpAnyH_take (i := 2) (v := ?_) rfl (by kernel_rfl) (by kernel_rfl) (by kernel_rfl) (fun _ _ _ h => h) (Or.inl ⟨by rfl, ?_⟩) (by assumption) ?_; rotate_left; (intro w hSw; (try dsimp only at hSw); go_simp; try with_reducible rfl); ((try simp only [List.getElem_toArray]); (try simp only [List.getElem_cons_succ]); (try simp only [List.getElem_cons_zero]); (try simp only [Act.put]); (try simp only [List.setIfInBounds_toArray]); (try simp only [List.set_cons_succ]); (try simp only [List.set_cons_zero])))
      (refine wpAnyH_take (i := 3) (v := ?_) rfl (by kernel_rfl) (by kernel_rfl) (by kernel_rfl) (fun _ _ _ h => h) (Or.inl ⟨by rfl, ?_⟩) (by assumption) ?_; rotate_left; (intro w hSw; (try dsimp only at hSw); go_simp; try with_reducible rfl); ((try simp only [List.getElem_toArray]); (try simp only [List.getElem_cons_succ]); (try simp only [List.getElem_cons_zero]); (try simp only [Act.put]); (try simp only [List.setIfInBounds_toArray]); (try simp only [List.set_cons_succ]); (try simp only [List.set_cons_zero])))
      (refine wpAnyH_take (i := 4) (v := ?_) rfl (by kernel_rfl) (by kernel_rfl) (by kernel_rfl) (fun _ _ _ h => h) (Or.inl ⟨by rfl, ?_⟩) (by assumption) ?_; rotate_left; (intro w hSw; (try dsimp only at hSw); go_simp; try with_reducible rfl); ((try simp only [List.getElem_toArray]); (try simp only [List.getElem_cons_succ]); (try simp only [List.getElem_cons_zero]); (try simp only [Act.put]); (try simp only [List.setIfInBounds_toArray]); (try simp only [List.set_cons_succ]); (try simp only [List.set_cons_zero])))
      (refine wpAnyH_take (i := 5) (v := ?_) rfl (by kernel_rfl) (by kernel_rfl) (by kernel_rfl) (fun _ _ _ h => h) (Or.inl ⟨by rfl, ?_⟩) (by assumption) ?_; rotate_left; (intro w hSw; (try dsimp only at hSw); go_simp; try with_reducible rfl); ((try simp only [List.getElem_toArray]); (try simp only [List.getElem_cons_succ]); (try simp only [List.getElem_cons_zero]); (try simp only [Act.put]); (try simp only [List.setIfInBounds_toArray]); (try simp only [List.set_cons_succ]); (try simp only [List.set_cons_zero])))
      (refine wpAnyH_take (i := 6) (v := ?_) rfl (by kernel_rfl) (by kernel_rfl) (by kernel_rfl) (fun _ _ _ h => h) (Or.inl ⟨by rfl, ?_⟩) (by assumption) ?_; rotate_left; (intro w hSw; (try dsimp only at hSw); go_simp; try with_reducible rfl); ((try simp only [List.getElem_toArray]); (try simp only [List.getElem_cons_succ]); (try simp only [List.getElem_cons_zero]); (try simp only [Act.put]); (try simp only [List.setIfInBounds_toArray]); (try simp only [List.set_cons_succ]); (try simp only [List.set_cons_zero])))
      refine wpAnyH_ready (rs := [7]) (by kernel_rfl) (by simp) ?_
      refine AllReadyH.cons rfl (fun K2 hK2 => ?_) AllReadyH.nil
      go_simp
      refine (least_any L _ _ _ (by exact hL.hp rfl)).mono ?_
      rintro e w5 ⟨⟨x1, rfl⟩, j1, rfl⟩
      go_wp2_with fail
      refine hK2.out _ _ (by exact ht) (fun hq => ?_)
      clear hK2 K2
      ((try simp only [List.getElem_toArray]); (try simp only [List.getElem_cons_succ]); (try simp only [List.getElem_cons_zero]); (try simp only [Act.put]); (try simp only [List.setIfInBounds_toArray]); (try simp only [List.set_cons_succ]); (try simp only [List.set_cons_zero]))
      cases hdb : decide (lo < x1) with
      | true =>
        (refine wpAnyH_take (i := 8) (v := ?_) rfl (by kernel_rfl) (by kernel_rfl) (by kernel_rfl) (fun _ _ _ h => h) (Or.inl ⟨by rfl, ?_⟩) (by assumption) ?_; rotate_left; (intro w hSw; (try dsimp only at hSw); go_simp; try with_reducible rfl); ((try simp only [List.getElem_toArray]); (try simp only [List.getElem_cons_succ]); (try simp only [List.getElem_cons_zero]); (try simp only [Act.put]); (try simp only [List.setIfInBounds_toArray]); (try simp only [List.set_cons_succ]); (try simp only [List.set_cons_zero])))
        (refine wpAnyH_take (i := 9) (v := ?_) rfl (by kernel_rfl) (by kernel_rfl) (by kernel_rfl) (fun _ _ _ h => h) (Or.inl ⟨by rfl, ?_⟩) (by assumption) ?_; rotate_left; (intro w hSw; (try dsimp only at hSw); go_simp; try with_reducible rfl); ((try simp only [List.getElem_toArray]); (try simp only [List.getElem_cons_succ]); (try simp only [List.getElem_cons_zero]); (try simp only [Act.put]); (try simp only [List.setIfInBounds_toArray]); (try simp only [List.set_cons_succ]); (try simp only [List.set_cons_zero])))
        (refine wpAnyH_take (i := 10) (v := ?_) rfl (by kernel_rfl) (by kernel_rfl) (by kernel_rfl) (fun _ _ _ h => h) (Or.inl ⟨by rfl, ?_⟩) (by assumption) ?_; rotate_left; (intro w hSw; (try dsimp only at hSw); go_simp; try with_reducible rfl); ((try simp only [List.getElem_toArray]); (try simp only [List.getElem_cons_succ]); (try simp only [List.getElem_cons_zero]); (try simp only [Act.put]); (try simp only [List.setIfInBounds_toArray]); (try simp only [List.set_cons_succ]); (try simp only [List.set_cons_zero])))
        (refine wpAnyH_take (i := 11) (v := ?_) rfl (by kernel_rfl) (by kernel_rfl) (by kernel_rfl) (fun _ _ _ h => h) (Or.inl ⟨by rfl, ?_⟩) (by assumption) ?_; rotate_left; (intro w hSw; (try dsimp only at hSw); go_simp; try with_reducible rfl); ((try simp only [List.getElem_toArray]); (try simp only [List.getElem_cons_succ]); (try simp only [List.getElem_cons_zero]); (try simp only [Act.put]); (try simp only [List.setIfInBounds_toArray]); (try simp only [List.set_cons_succ]); (try simp only [List.set_cons_zero])))
        (refine wpAnyH_take (i := 12) (v := ?_) rfl (by kernel_rfl) (by kernel_rfl) (by kernel_rfl) (fun _ _ _ h => h) (Or.inl ⟨by rfl, ?_⟩) (by assumption) ?_; rotate_left; (intro w hSw; (try dsimp only at hSw); go_simp; try with_reducible rfl); ((try simp only [List.getElem_toArray]); (try simp only [List.getElem_cons_succ]); (try simp only [List.getElem_cons_zero]); (try simp only [Act.put]); (try simp only [List.setIfInBounds_toArray]); (try simp only [List.set_cons_succ]); (try simp only [List.set_cons_zero])))
        (refine wpAnyH_take (i := 13) (v := ?_) rfl (by kernel_rfl) (by kernel_rfl) (by kernel_rfl) (fun _ _ _ h => h) (Or.inl ⟨by rfl, ?_⟩) (by assumption) ?_; rotate_left; (intro w hSw; (try dsimp only at hSw); go_simp; try with_reducible rfl); ((try simp only [List.getElem_toArray]); (try simp only [List.getElem_cons_succ]); (try simp only [List.getElem_cons_zero]); (try simp only [Act.put]); (try simp only [List.setIfInBounds_toArray]); (try simp only [List.set_cons_succ]); (try simp only [List.set_cons_zero])))
        (refine wpAnyH_take (i := 14) (v := ?_) rfl (by kernel_rfl) (by kernel_rfl) (by kernel_rfl) (fun _ _ _ h => h) (Or.inl ⟨by rfl, ?_⟩) (by assumption) ?_; rotate_left; (intro w hSw; (try dsimp only at hSw); go_simp; try with_reducible rfl); ((try simp only [List.getElem_toArray]); (try simp only [List.getElem_cons_succ]); (try simp only [List.getElem_cons_zero]); (try simp only [Act.put]); (try simp only [List.setIfInBounds_toArray]); (try simp only [List.set_cons_succ]); (try simp only [List.set_cons_zero])))
        (refine wpAnyH_take (i := 15) (v := ?_) rfl (by kernel_rfl) (by kernel_rfl) (by kernel_rfl) (fun _ _ _ h => h) (Or.inl ⟨by rfl, ?_⟩) (by assumption) ?_; rotate_left; (intro w hSw; (try dsimp only at hSw); go_simp; try with_reducible rfl); ((try simp only [List.getElem_toArray]); (try simp only [List.getElem_cons_succ]); (try simp only [List.getElem_cons_zero]); (try simp only [Act.put]); (try simp only [List.setIfInBounds_toArray]); (try simp only [List.set_cons_succ]); (try simp only [List.set_cons_zero])))
        (refine wpAnyH_take (i := 16) (v := ?_) rfl (by kernel_rfl) (by kernel_rfl) (by kernel_rfl) (fun _ _ _ h => h) (Or.inl ⟨by rfl, ?_⟩) (by assumption) ?_; rotate_left; (intro w hSw; (try dsimp only at hSw); go_simp; try with_reducible rfl); ((try simp only [List.getElem_toArray]); (try simp only [List.getElem_cons_succ]); (try simp only [List.getElem_cons_zero]); (try simp only [Act.put]); (try simp only [List.setIfInBounds_toArray]); (try simp only [List.set_cons_succ]); (try simp only [List.set_cons_zero])))
        (refine wpAnyH_take (i := 17) (v := ?_) rfl (by kernel_rfl) (by kernel_rfl) (by kernel_rfl) (fun _ _ _ h => h) (Or.inl ⟨by rfl, ?_⟩) (by assumption) ?_; rotate_left; (intro w hSw; (try dsimp only at hSw); go_simp; try with_reducible rfl); ((try simp only [List.getElem_toArray]); (try simp only [List.getElem_cons_succ]); (try simp only [List.getElem_cons_zero]); (try simp only [Act.put]); (try simp only [List.setIfInBounds_toArray]); (try simp only [List.set_cons_succ]); (try simp only [List.set_cons_zero])))
        (refine wpAnyH_take (i := 18) (v := ?_) rfl (by kernel_rfl) (by kernel_rfl) (by kernel_rfl) (fun _ _ _ h => h) (Or.inl ⟨by rfl, ?_⟩) (by assumption) ?_; rotate_left; (intro w hSw; (try dsimp only at hSw); go_simp; try with_reducible rfl); ((try simp only [List.getElem_toArray]); (try simp only [List.getElem_cons_succ]); (try simp only [List.getElem_cons_zero]); (try simp only [Act.put]); (try simp only [List.setIfInBounds_toArray]); (try simp only [List.set_cons_succ]); (try simp only [List.set_cons_zero])))
        (refine wpAnyH_take (i := 19) (v := ?_) rfl (by kernel_rfl) (by kernel_rfl) (by kernel_rfl) (fun _ _ _ h => h) (Or.inl ⟨by rfl, ?_⟩) (by assumption) ?_; rotate_left; (intro w hSw; (try dsimp only at hSw); go_simp; try with_reducible rfl); ((try simp only [List.getElem_toArray]); (try simp only [List.getElem_cons_succ]); (try simp only [List.getElem_cons_zero]); (try simp only [Act.put]); (try simp only [List.setIfInBounds_toArray]); (try simp only [List.set_cons_succ]); (try simp only [List.set_cons_zero])))
        (refine wpAnyH_take (i := 20) (v := ?_) rfl (by kernel_rfl) (by kernel_rfl) (by kernel_rfl) (fun _ _ _ h => h) (Or.inl ⟨by rfl, ?_⟩) (by assumption) ?_; rotate_left; (intro w hSw; (try dsimp only at hSw); go_simp; try with_reducible rfl); ((try simp only [List.getElem_toArray]); (try simp only [List.getElem_cons_succ]); (try simp only [List.getElem_cons_zero]); (try simp only [Act.put]); (try simp only [List.setIfInBounds_toArray]); (try simp only [List.set_cons_succ]); (try simp only [List.set_cons_zero])))
        (refine wpAnyH_take (i := 21) (v := ?_) rfl (by kernel_rfl) (by kernel_rfl) (by kernel_rfl) (fun _ _ _ h => h) (Or.inl ⟨by rfl, ?_⟩) (by assumption) ?_; rotate_left; (intro w hSw; (try dsimp only at hSw); go_simp; try with_reducible rfl); ((try simp only [List.getElem_toArray]); (try simp only [List.getElem_cons_succ]); (try simp only [List.getElem_cons_zero]); (try simp only [Act.put]); (try simp only [List.setIfInBounds_toArray]); (try simp only [List.set_cons_succ]); (try simp only [List.set_cons_zero])))
        (refine wpAnyH_take (i := 22) (v := ?_) rfl (by kernel_rfl) (by kernel_rfl) (by kernel_rfl) (fun _ _ _ h => h) (Or.inl ⟨by rfl, ?_⟩) (by assumption) ?_; rotate_left; (intro w hSw; (try dsimp only at hSw); go_simp; try with_reducible rfl); ((try simp only [List.getElem_toArray]); (try simp only [List.getElem_cons_succ]); (try simp only [List.getElem_cons_zero]); (try simp only [Act.put]); (try simp only [List.setIfInBounds_toArray]); (try simp only [List.set_cons_succ]); (try simp only [List.set_cons_zero])))
        refine wpAnyH_ready (rs := [23]) (by kernel_rfl) (by simp) ?_
        refine AllReadyH.cons rfl (fun K2 hK2 => ?_) AllReadyH.nil
        go_simp
        refine (least_any R _ _ _ (by exact hR.hp rfl)).mono ?_
        rintro e w6 ⟨⟨x2, rfl⟩, j2, rfl⟩
        go_wp2_with fail
        refine hK2.out _ _ (by exact ht) (fun hq => ?_)
        clear hK2 K2
        ((try simp only [List.getElem_toArray]); (try simp only [List.getElem_cons_succ]); (try simp only [List.getElem_cons_zero]); (try simp only [Act.put]); (try simp only [List.setIfInBounds_toArray]); (try simp only [List.set_cons_succ]); (try simp only [List.set_cons_zero]))
        (refine wpAnyH_take (i := 24) (v := ?_) rfl (by kernel_rfl) (by kernel_rfl) (by kernel_rfl) (fun _ _ _ h => h) (Or.inl ⟨by rfl, ?_⟩) (by assumption) ?_; rotate_left; (intro w hSw; (try dsimp only at hSw); go_simp; try with_reducible rfl); ((try simp only [List.getElem_toArray]); (try simp only [List.getElem_cons_succ]); (try simp only [List.getElem_cons_zero]); (try simp only [Act.put]); (try simp only [List.setIfInBounds_toArray]); (try simp only [List.set_cons_succ]); (try simp only [List.set_cons_zero])))
        (refine wpAnyH_take (i := 25) (v := ?_) rfl (by kernel_rfl) (by kernel_rfl) (by kernel_rfl) (fun _ _ _ h => h) (Or.inl ⟨by rfl, ?_⟩) (by assumption) ?_; rotate_left; (intro w hSw; (try dsimp only at hSw); go_simp; try with_reducible rfl); ((try simp only [List.getElem_toArray]); (try simp only [List.getElem_cons_succ]); (try simp only [List.getElem_cons_zero]); (try simp only [Act.put]); (try simp only [List.setIfInBounds_toArray]); (try simp only [List.set_cons_succ]); (try simp only [List.set_cons_zero])))
        (refine wpAnyH_take (i := 26) (v := ?_) rfl (by kernel_rfl) (by kernel_rfl) (by kernel_rfl) (fun _ _ _ h => h) (Or.inl ⟨by rfl, ?_⟩) (by assumption) ?_; rotate_left; (intro w hSw; (try dsimp only at hSw); go_simp; try with_reducible rfl); ((try simp only [List.getElem_toArray]); (try simp only [List.getElem_cons_succ]); (try simp only [List.getElem_cons_zero]); (try simp only [Act.put]); (try simp only [List.setIfInBounds_toArray]); (try simp only [List.set_cons_succ]); (try simp only [List.set_cons_zero])))
        refine wpAnyH_done (by kernel_rfl) ?_ _
        go_wp2_with fail
        go_ret
        exact ⟨⟨_, rfl, fun _ => HQ.out⟩, _, rfl⟩
      | false =>
        (refine wpAnyH_take (i := 8) (v := ?_) rfl (by kernel_rfl) (by kernel_rfl) (by kernel_rfl) (fun _ _ _ h => h) (Or.inl ⟨by rfl, ?_⟩) (by assumption) ?_; rotate_left; (intro w hSw; (try dsimp only at hSw); go_simp; try with_reducible rfl); ((try simp only [List.getElem_toArray]); (try simp only [List.getElem_cons_succ]); (try simp only [List.getElem_cons_zero]); (try simp only [Act.put]); (try simp only [List.setIfInBounds_toArray]); (try simp only [List.set_cons_succ]); (try simp only [List.set_cons_zero])))
        (refine wpAnyH_take (i := 9) (v := ?_) rfl (by kernel_rfl) (by kernel_rfl) (by kernel_rfl) (fun _ _ _ h => h) (Or.inl ⟨by rfl, ?_⟩) (by assumption) ?_; rotate_left; (intro w hSw; (try dsimp only at hSw); go_simp; try with_reducible rfl); ((try simp only [List.getElem_toArray]); (try simp only [List.getElem_cons_succ]); (try simp only [List.getElem_cons_zero]); (try simp only [Act.put]); (try simp only [List.setIfInBounds_toArray]); (try simp only [List.set_cons_succ]); (try simp only [List.set_cons_zero])))
        (refine wpAnyH_take (i := 10) (v := undef) rfl (by kernel_rfl) (by kernel_rfl) (by kernel_rfl) (fun _ _ _ h => h) (Or.inr ⟨by rfl, rfl⟩) (by assumption) ?_; ((try simp only [List.getElem_toArray]); (try simp only [List.getElem_cons_succ]); (try simp only [List.getElem_cons_zero]); (try simp only [Act.put]); (try simp only [List.setIfInBounds_toArray]); (try simp only [List.set_cons_succ]); (try simp only [List.set_cons_zero])))
        (refine wpAnyH_take (i := 11) (v := undef) rfl (by kernel_rfl) (by kernel_rfl) (by kernel_rfl) (fun _ _ _ h => h) (Or.inr ⟨by rfl, rfl⟩) (by assumption) ?_; ((try simp only [List.getElem_toArray]); (try simp only [List.getElem_cons_succ]); (try simp only [List.getElem_cons_zero]); (try simp only [Act.put]); (try simp only [List.setIfInBounds_toArray]); (try simp only [List.set_cons_succ]); (try simp only [List.set_cons_zero])))
        (refine wpAnyH_take (i := 12) (v := undef) rfl (by kernel_rfl) (by kernel_rfl) (by kernel_rfl) (fun _ _ _ h => h) (Or.inr ⟨by rfl, rfl⟩) (by assumption) ?_; ((try simp only [List.getElem_toArray]); (try simp only [List.getElem_cons_succ]); (try simp only [List.getElem_cons_zero]); (try simp only [Act.put]); (try simp only [List.setIfInBounds_toArray]); (try simp only [List.set_cons_succ]); (try simp only [List.set_cons_zero])))
        (refine wpAnyH_take (i := 13) (v := undef) rfl (by kernel_rfl) (by kernel_rfl) (by kernel_rfl) (fun _ _ _ h => h) (Or.inr ⟨by rfl, rfl⟩) (by assumption) ?_; ((try simp only [List.getElem_toArray]); (try simp only [List.getElem_cons_succ]); (try simp only [List.getElem_cons_zero]); (try simp only [Act.put]); (try simp only [List.setIfInBounds_toArray]); (try simp only [List.set_cons_succ]); (try simp only [List.set_cons_zero])))
        (refine wpAnyH_take (i := 14) (v := undef) rfl (by kernel_rfl) (by kernel_rfl) (by kernel_rfl) (fun _ _ _ h => h) (Or.inr ⟨by rfl, rfl⟩) (by assumption) ?_; ((try simp only [List.getElem_toArray]); (try simp only [List.getElem_cons_succ]); (try simp only [List.getElem_cons_zero]); (try simp only [Act.put]); (try simp only [List.setIfInBounds_toArray]); (try simp only [List.set_cons_succ]); (try simp only [List.set_cons_zero])))
        (refine wpAnyH_take (i := 15) (v := undef) rfl (by kernel_rfl) (by kernel_rfl) (by kernel_rfl) (fun _ _ _ h => h) (Or.inr ⟨by rfl, rfl⟩) (by assumption) ?_; ((try simp only [List.getElem_toArray]); (try simp only [List.getElem_cons_succ]); (try simp only [List.getElem_cons_zero]); (try simp only [Act.put]); (try simp only [List.setIfInBounds_toArray]); (try simp only [List.set_cons_succ]); (try simp only [List.set_cons_zero])))
        (refine wpAnyH_take (i := 16) (v := undef) rfl (by kernel_rfl) (by kernel_rfl) (by kernel_rfl) (fun _ _ _ h => h) (Or.inr ⟨by rfl, rfl⟩) (by assumption) ?_; ((try simp only [List.getElem_toArray]); (try simp only [List.getElem_cons_succ]); (try simp only [List.getElem_cons_zero]); (try simp only [Act.put]); (try simp only [List.setIfInBounds_toArray]); (try simp only [List.set_cons_succ]); (try simp only [List.set_cons_zero])))
        (refine wpAnyH_take (i := 17) (v := undef) rfl (by kernel_rfl) (by kernel_rfl) (by kernel_rfl) (fun _ _ _ h => h) (Or.inr ⟨by rfl, rfl⟩) (by assumption) ?_; ((try simp only [List.getElem_toArray]); (try simp only [List.getElem_cons_succ]); (try simp only [List.getElem_cons_zero]); (try simp only [Act.put]); (try simp only [List.setIfInBounds_toArray]); (try simp only [List.set_cons_succ]); (try simp only [List.set_cons_zero])))
        (refine wpAnyH_take (i := 18) (v := undef) rfl (by kernel_rfl) (by kernel_rfl) (by kernel_rfl) (fun _ _ _ h => h) (Or.inr ⟨by rfl, rfl⟩) (by assumption) ?_; ((try simp only [List.getElem_toArray]); (try simp only [List.getElem_cons_succ]); (try simp only [List.getElem_cons_zero]); (try simp only [Act.put]); (try simp only [List.setIfInBounds_toArray]); (try simp only [List.set_cons_succ]); (try simp only [List.set_cons_zero])))
        (refine wpAnyH_take (i := 19) (v := undef) rfl (by kernel_rfl) (by kernel_rfl) (by kernel_rfl) (fun _ _ _ h => h) (Or.inr ⟨by rfl, rfl⟩) (by assumption) ?_; ((try simp only [List.getElem_toArray]); (try simp only [List.getElem_cons_succ]); (try simp only [List.getElem_cons_zero]); (try simp only [Act.put]); (try simp only [List.setIfInBounds_toArray]); (try simp only [List.set_cons_succ]); (try simp only [List.set_cons_zero])))
        (refine wpAnyH_take (i := 20) (v := undef) rfl (by kernel_rfl) (by kernel_rfl) (by kernel_rfl) (fun _ _ _ h => h) (Or.inr ⟨by rfl, rfl⟩) (by assumption) ?_; ((try simp only [List.getElem_toArray]); (try simp only [List.getElem_cons_succ]); (try simp only [List.getElem_cons_zero]); (try simp only [Act.put]); (try simp only [List.setIfInBounds_toArray]); (try simp only [List.set_cons_succ]); (try simp only [List.set_cons_zero])))
        (refine wpAnyH_take (i := 21) (v := undef) rfl (by kernel_rfl) (by kernel_rfl) (by kernel_rfl) (fun _ _ _ h => h) (Or.inr ⟨by rfl, rfl⟩) (by assumption) ?_; ((try simp only [List.getElem_toArray]); (try simp only [List.getElem_cons_succ]); (try simp only [List.getElem_cons_zero]); (try simp only [Act.put]); (try simp only [List.setIfInBounds_toArray]); (try simp only [List.set_cons_succ]); (try simp only [List.set_cons_zero])))
        (refine wpAnyH_take (i := 22) (v := undef) rfl (by kernel_rfl) (by kernel_rfl) (by kernel_rfl) (fun _ _ _ h => h) (Or.inr ⟨by rfl, rfl⟩) (by assumption) ?_; ((try simp only [List.getElem_toArray]); (try simp only [List.getElem_cons_succ]); (try simp only [List.getElem_cons_zero]); (try simp only [Act.put]); (try simp only [List.setIfInBounds_toArray]); (try simp only [List.set_cons_succ]); (try simp only [List.set_cons_zero])))
        (refine wpAnyH_take (i := 23) (v := undef) rfl (by kernel_rfl) (by kernel_rfl) (by kernel_rfl) (fun _ _ _ h => h) (Or.inr ⟨by rfl, rfl⟩) (by assumption) ?_; ((try simp only [List.getElem_toArray]); (try simp only [List.getElem_cons_succ]); (try simp only [List.getElem_cons_zero]); (try simp only [Act.put]); (try simp only [List.setIfInBounds_toArray]); (try simp only [List.set_cons_succ]); (try simp only [List.set_cons_zero])))
        (refine wpAnyH_take (i := 24) (v := undef) rfl (by kernel_rfl) (by kernel_rfl) (by kernel_rfl) (fun _ _ _ h => h) (Or.inr ⟨by rfl, rfl⟩) (by assumption) ?_; ((try simp only [List.getElem_toArray]); (try simp only [List.getElem_cons_succ]); (try simp only [List.getElem_cons_zero]); (try simp only [Act.put]); (try simp only [List.setIfInBounds_toArray]); (try simp only [List.set_cons_succ]); (try simp only [List.set_cons_zero])))
        (refine wpAnyH_take (i := 25) (v := ?_) rfl (by kernel_rfl) (by kernel_rfl) (by kernel_rfl) (fun _ _ _ h => h) (Or.inl ⟨by rfl, ?_⟩) (by assumption) ?_; rotate_left; (intro w hSw; (try dsimp only at hSw); go_simp; try with_reducible rfl); ((try simp only [List.getElem_toArray]); (try simp only [List.getElem_cons_succ]); (try simp only [List.getElem_cons_zero]); (try simp only [Act.put]); (try simp only [List.setIfInBounds_toArray]); (try simp only [List.set_cons_succ]); (try simp only [List.set_cons_zero])))
        (refine wpAnyH_take (i := 26) (v := ?_) rfl (by kernel_rfl) (by kernel_rfl) (by kernel_rfl) (fun _ _ _ h => h) (Or.inl ⟨by rfl, ?_⟩) (by assumption) ?_; rotate_left; (intro w hSw; (try dsimp only at hSw); go_simp; try with_reducible rfl); ((try simp only [List.getElem_toArray]); (try simp only [List.getElem_cons_succ]); (try simp only [List.getElem_cons_zero]); (try simp only [Act.put]); (try simp only [List.setIfInBounds_toArray]); (try simp only [List.set_cons_succ]); (try simp only [List.set_cons_zero])))
        refine wpAnyH_done (by kernel_rfl) ?_ _
        go_wp2_with fail
        go_ret
        exact ⟨⟨_, rfl, fun _ => HQ.out⟩, _, rfl⟩
end
end Go.Proofs.YtcdjeibcnkpadaaDoor
namespace Go.Proofs.YtcdjeibcnkpadaaDoor
open Go.RowKit Go.Maps Dg
set_option linter.unusedVariables false
section
variable {n : Nat} {w : World}
theorem cell_al {w X : World} {p : Addr} {u : Value} (o : Obj) (h : w.cell? p = some u) (e : X.heap = w.heap) : (X.alloc o).cell? p = some u := by
  have hx : X.cell? p = some u := by rw [← h]; unfold World.cell?; rw [e]
  exact (World.cell?_of_block (a := p) (Below.heap_alloc X o p.block (World.block_lt_of_cell? X p hx))).trans hx
set_option maxHeartbeats 4000000 in
set_option maxRecDepth 100000 in
theorem atop_any (L R : Tr) (t : Nat) (k : ByteArray) (v : Sl) (lo : Int) (w : World) (hL : IsTr n w L) (hR : IsTr n w R) (hz : L.size + 1 + R.size ≤ 1000000) (hzl : L.ht ≤ 1000000) (hzr : R.ht ≤ 1000000)
    (t0 : w.cell? ⟨t, 0, none⟩ = some (.string k)) (t1 : w.cell? ⟨t, 1, none⟩ = some (.slice v.a v.n v.c)) (t6 : w.cell? ⟨t, 6, none⟩ = some (.int .i64 lo)) :
    Calls Tryd.prog 85 #[.pointer L.ptr, .pointer (some ⟨t, 0, none⟩), .pointer R.ptr] w fun e w' => e = .returned (.pointer (some ⟨w.heap.size, 0, none⟩)) ∧ (∃ le : Int, Has w' w.heap.size 124 (Tr.row L k v lo le R)) ∧ Below w.heap.size w w' ∧ w'.heap.size = w.heap.size + 1 := by
  have p1 : (0 : Int) ≤ (L.size : Int) := by omega
  have p2 : (0 : Int) ≤ (R.size : Int) := by omega
  have p3 : (0 : Int) ≤ (L.ht : Int) := by omega
  have p4 : (0 : Int) ≤ (R.ht : Int) := by omega
  have p5 : (L.size : Int) + 1 + (R.size : Int) ≤ 1000000 := by omega
  have p6 : (L.ht : Int) ≤ 1000000 := by omega
  have p7 : (R.ht : Int) ≤ 1000000 := by omega
  by_cases hh : (L.ht : Int) < (R.ht : Int)
  · go_enter Tryd.func85, Tryd.ntmps85
    go_wp2_with fail
    go_region_held3 (fun X => X.cell? ⟨t, 0, none⟩ = some (.string k) ∧ X.cell? ⟨t, 1, none⟩ = some (.slice v.a v.n v.c) ∧ X.cell? ⟨t, 6, none⟩ = some (.int .i64 lo)) (first | exact ⟨t0, t1, t6⟩ | exact ⟨cell_al _ t0 (by rfl), cell_al _ t1 (by rfl), cell_al _ t6 (by rfl)⟩)
      (first
       | (go_at_call_of 68 (Value.pointer L.ptr); refine (size_any L (by exact hL.hp rfl)).mono ?_; rintro e w1 ⟨rfl, rfl⟩)
       | (go_at_call_of 68 (Value.pointer R.ptr); refine (size_any R (by exact hR.hp rfl)).mono ?_; rintro e w1 ⟨rfl, rfl⟩)
       | (go_at_call_of 93 (Value.pointer L.ptr); refine (height_any L (by exact hL.hp rfl)).mono ?_; rintro e w1 ⟨rfl, rfl⟩)
       | (go_at_call_of 93 (Value.pointer R.ptr); refine (height_any R (by exact hR.hp rfl)).mono ?_; rintro e w1 ⟨rfl, rfl⟩)
       | (go_at_call_of 94 (Value.pointer L.ptr); refine (leastAll_any L _ (by exact hL.hp rfl)).mono ?_; rintro e w1 ⟨⟨x1, rfl⟩, j1, rfl⟩)
       | (go_at_call_of 94 (Value.pointer R.ptr); refine (leastAll_any R _ (by exact hR.hp rfl)).mono ?_; rintro e w1 ⟨⟨x2, rfl⟩, j2, rfl⟩)
       | fail)
    all_goals go_wp2_with fail
    all_goals (
      go_ret
      refine ⟨rfl, ?_, ((Below.drewN (Below.refl w.heap.size w) _).alloc (Nat.le_refl _) _), by simp [World.drewN]⟩
      have hv := fun z => Has.new (w.drewN (1 + j1 + j2)) 124 (Tr.row L k v lo z R)
      have e1 : IntKind.i64.wrap (IntKind.i64.wrap ((L.size : Int) + 1) + (R.size : Int)) = ((L.size + 1 + R.size : Nat) : Int) := by rw [IntKind.wrap_i64, IntKind.wrap_i64]; omega
      have e2 : IntKind.i64.wrap (1 + (R.ht : Int)) = ((1 + max L.ht R.ht : Nat) : Int) := by rw [IntKind.wrap_i64]; omega
      rw [e1, e2]
      first | exact ⟨x2, hv x2⟩ | exact ⟨x1, hv x1⟩ | exact ⟨lo, hv lo⟩)
  · go_enter Tryd.func85, Tryd.ntmps85
    go_wp2_with fail
    go_region_held3 (fun X => X.cell? ⟨t, 0, none⟩ = some (.string k) ∧ X.cell? ⟨t, 1, none⟩ = some (.slice v.a v.n v.c) ∧ X.cell? ⟨t, 6, none⟩ = some (.int .i64 lo)) (first | exact ⟨t0, t1, t6⟩ | exact ⟨cell_al _ t0 (by rfl), cell_al _ t1 (by rfl), cell_al _ t6 (by rfl)⟩)
      (first
       | (go_at_call_of 68 (Value.pointer L.ptr); refine (size_any L (by exact hL.hp rfl)).mono ?_; rintro e w1 ⟨rfl, rfl⟩)
       | (go_at_call_of 68 (Value.pointer R.ptr); refine (size_any R (by exact hR.hp rfl)).mono ?_; rintro e w1 ⟨rfl, rfl⟩)
       | (go_at_call_of 93 (Value.pointer L.ptr); refine (height_any L (by exact hL.hp rfl)).mono ?_; rintro e w1 ⟨rfl, rfl⟩)
       | (go_at_call_of 93 (Value.pointer R.ptr); refine (height_any R (by exact hR.hp rfl)).mono ?_; rintro e w1 ⟨rfl, rfl⟩)
       | (go_at_call_of 94 (Value.pointer L.ptr); refine (leastAll_any L _ (by exact hL.hp rfl)).mono ?_; rintro e w1 ⟨⟨x1, rfl⟩, j1, rfl⟩)
       | (go_at_call_of 94 (Value.pointer R.ptr); refine (leastAll_any R _ (by exact hR.hp rfl)).mono ?_; rintro e w1 ⟨⟨x2, rfl⟩, j2, rfl⟩)
       | fail)
    all_goals go_wp2_with fail
    all_goals (
      go_ret
      refine ⟨rfl, ?_, ((Below.drewN (Below.refl w.heap.size w) _).alloc (Nat.le_refl _) _), by simp [World.drewN]⟩
      have hv := fun z => Has.new (w.drewN (1 + j1 + j2)) 124 (Tr.row L k v lo z R)
      have e1 : IntKind.i64.wrap (IntKind.i64.wrap ((L.size : Int) + 1) + (R.size : Int)) = ((L.size + 1 + R.size : Nat) : Int) := by rw [IntKind.wrap_i64, IntKind.wrap_i64]; omega
      have e2 : IntKind.i64.wrap (1 + (L.ht : Int)) = ((1 + max L.ht R.ht : Nat) : Int) := by rw [IntKind.wrap_i64]; omega
      rw [e1, e2]
      first | exact ⟨x2, hv x2⟩ | exact ⟨x1, hv x1⟩ | exact ⟨lo, hv lo⟩)
end
end Go.Proofs.YtcdjeibcnkpadaaDoor
