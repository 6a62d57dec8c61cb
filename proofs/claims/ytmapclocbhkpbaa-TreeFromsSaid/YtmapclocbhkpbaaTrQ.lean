/-
  put: a node in a tree.
-/
import Derived.Test.YtmapclocbhkpbaaTrO
import Derived.Test.YtmapclocbhkpbaaTrP
namespace Go.Proofs.Ytmapclocbhkpbaa
open Go.RowKit Go.Maps Dg
set_option linter.unusedVariables false
set_option maxHeartbeats 4000000 in
set_option maxRecDepth 100000 in
theorem put_any (T : Tr) : ∀ (n : Nat) (w : World) (x : Nd) (lo1 le1 : Int), IsTr n w T → n ≤ w.heap.size → IsTr n w (.node x.b .nil x.k x.v lo1 le1 .nil) → Bal T → Rises T.con → T.size ≤ 90000 →
    Calls Try.prog 28 #[.pointer T.ptr, .pointer (some ⟨x.b, 0, none⟩)] w fun e w' => OutT w (putL x.k x.v T.con) e w' := by
  induction T with
  | nil =>
    intro n w x lo1 le1 hT hn hone hB hR hz
    have hp : (Tr.nil).ptr = none := rfl
    rw [hp]
    have hfin : OutT w (putL x.k x.v (Tr.nil).con) (.returned (.pointer (some ⟨x.b, 0, none⟩))) w := ⟨.node x.b .nil x.k x.v lo1 le1 .nil, rfl, hone.mono hn, rfl, ⟨by decide, by decide, trivial, trivial⟩, Below.refl _ _⟩
    have HFIN := Lib.hid hfin
    clear hfin hone
    go_enter Try.func28, Try.ntmps28
    go_wp2_with fail
    go_ret
    exact HFIN.out
  | node b l k v0 lo le r ihl ihr =>
    intro n w x lo1 le1 hT hn hone hB hR hz
    obtain ⟨h1, h2, h3, h4⟩ := hT
    obtain ⟨p1, p2, ball, balr⟩ := hB
    obtain ⟨risl, hR2, hR3⟩ := Rises.app.1 hR
    obtain ⟨hkr, risr⟩ := hR2
    have hlk : ∀ y ∈ l.con, kl y.1 k = true := fun y hy => hR3 y hy (k, v0) List.mem_cons_self
    have hp : (Tr.node b l k v0 lo le r).ptr = some ⟨b, 0, none⟩ := rfl
    have hsz : (Tr.node b l k v0 lo le r).size = l.size + 1 + r.size := rfl
    have hcon : (Tr.node b l k v0 lo le r).con = l.con ++ (k, v0) :: r.con := rfl
    rw [hp, hcon]
    rw [hsz] at hz
    have c0 : w.cell? ⟨b, 0, none⟩ = some (.string k) := h2.cell 0
    have c1 : w.cell? ⟨b, 1, none⟩ = some (.int .i64 v0) := h2.cell 1
    have c2 : w.cell? ⟨b, 2, none⟩ = some (.pointer l.ptr) := h2.cell 2
    have c3 : w.cell? ⟨b, 3, none⟩ = some (.pointer r.ptr) := h2.cell 3
    have c6 : w.cell? ⟨b, 6, none⟩ = some (.int .i64 lo) := h2.cell 6
    have x0 : w.cell? ⟨x.b, 0, none⟩ = some (.string x.k) := hone.2.1.cell 0
    have x1 : w.cell? ⟨x.b, 1, none⟩ = some (.int .i64 x.v) := hone.2.1.cell 1
    have x6 : w.cell? ⟨x.b, 6, none⟩ = some (.int .i64 lo1) := hone.2.1.cell 6
    clear hR hR3 h2
    go_enter Try.func28, Try.ntmps28
    cases q1 : kl x.k k with
    | true =>
      have q1' : Op.bytesLess x.k.toList k.toList = true := q1
      go_wp2_with fail
      go_region_held3 (fun X => X.cell? ⟨x.b, 0, none⟩ = some (.string x.k) ∧ X.cell? ⟨b, 0, none⟩ = some (.string k)) (exact ⟨x0, c0⟩) (first | fail)
      go_wp2_with fail
      refine wp_region_held_drew (S := fun X => X.cell? ⟨b, 2, none⟩ = some (.pointer l.ptr) ∧ X.cell? ⟨b, 3, none⟩ = some (.pointer r.ptr)) (by kernel_rfl) (by exact ⟨c2, c3⟩) (fun _ => ?_)
      (refine wpAnyH_take (i := 0) (v := ?_) rfl (by kernel_rfl) (by kernel_rfl) (by kernel_rfl) (fun _ _ _ h => h) (Or.inl ⟨by rfl, ?_⟩) (by assumption) ?_; rotate_left; (intro w hSw; (try dsimp only at hSw); go_simp; try with_reducible rfl); ((try simp only [List.getElem_toArray]); (try simp only [List.getElem_cons_succ]); (try simp only [List.getElem_cons_zero]); (try simp only [Act.put]); (try simp only [List.setIfInBounds_toArray]); (try simp only [List.set_cons_succ]); (try simp only [List.set_cons_zero])))
      (refine wpAnyH_take (i := 1) (v := ?_) rfl (by kernel_rfl) (by kernel_rfl) (by kernel_rfl) (fun _ _ _ h => h) (Or.inl ⟨by rfl, ?_⟩) (by assumption) ?_; rotate_left; (intro w hSw; (try dsimp only at hSw); go_simp; try with_reducible rfl); ((try simp only [List.getElem_toArray]); (try simp only [List.getElem_cons_succ]); (try simp only [List.getElem_cons_zero]); (try simp only [Act.put]); (try simp only [List.setIfInBounds_toArray]); (try simp only [List.set_cons_succ]); (try simp only [List.set_cons_zero])))
      (refine wpAnyH_take (i := 2) (v := ?_) rfl (by kernel_rfl) (by kernel_rfl) (by kernel_rfl) (fun _ _ _ h => h) (Or.inl ⟨by rfl, ?_⟩) (by assumption) ?_; rotate_left; (intro w hSw; (try dsimp only at hSw); go_simp; try with_reducible rfl); ((try simp only [List.getElem_toArray]); (try simp only [List.getElem_cons_succ]); (try simp only [List.getElem_cons_zero]); (try simp only [Act.put]); (try simp only [List.setIfInBounds_toArray]); (try simp only [List.set_cons_succ]); (try simp only [List.set_cons_zero])))
      (refine wpAnyH_take (i := 3) (v := ?_) rfl (by kernel_rfl) (by kernel_rfl) (by kernel_rfl) (fun _ _ _ h => h) (Or.inl ⟨by rfl, ?_⟩) (by assumption) ?_; rotate_left; (intro w hSw; (try dsimp only at hSw); go_simp; try with_reducible rfl); ((try simp only [List.getElem_toArray]); (try simp only [List.getElem_cons_succ]); (try simp only [List.getElem_cons_zero]); (try simp only [Act.put]); (try simp only [List.setIfInBounds_toArray]); (try simp only [List.set_cons_succ]); (try simp only [List.set_cons_zero])))
      (refine wpAnyH_take (i := 4) (v := ?_) rfl (by kernel_rfl) (by kernel_rfl) (by kernel_rfl) (fun _ _ _ h => h) (Or.inl ⟨by rfl, ?_⟩) (by assumption) ?_; rotate_left; (intro w hSw; (try dsimp only at hSw); go_simp; try with_reducible rfl); ((try simp only [List.getElem_toArray]); (try simp only [List.getElem_cons_succ]); (try simp only [List.getElem_cons_zero]); (try simp only [Act.put]); (try simp only [List.setIfInBounds_toArray]); (try simp only [List.set_cons_succ]); (try simp only [List.set_cons_zero])))
      (refine wpAnyH_take (i := 6) (v := ?_) rfl (by kernel_rfl) (by kernel_rfl) (by kernel_rfl) (fun _ _ _ h => h) (Or.inl ⟨by rfl, ?_⟩) (by assumption) ?_; rotate_left; (intro w hSw; (try dsimp only at hSw); go_simp; try with_reducible rfl); ((try simp only [List.getElem_toArray]); (try simp only [List.getElem_cons_succ]); (try simp only [List.getElem_cons_zero]); (try simp only [Act.put]); (try simp only [List.setIfInBounds_toArray]); (try simp only [List.set_cons_succ]); (try simp only [List.set_cons_zero])))
      (refine wpAnyH_take (i := 7) (v := ?_) rfl (by kernel_rfl) (by kernel_rfl) (by kernel_rfl) (fun _ _ _ h => h) (Or.inl ⟨by rfl, ?_⟩) (by assumption) ?_; rotate_left; (intro w hSw; (try dsimp only at hSw); go_simp; try with_reducible rfl); ((try simp only [List.getElem_toArray]); (try simp only [List.getElem_cons_succ]); (try simp only [List.getElem_cons_zero]); (try simp only [Act.put]); (try simp only [List.setIfInBounds_toArray]); (try simp only [List.set_cons_succ]); (try simp only [List.set_cons_zero])))
      (refine wpAnyH_take (i := 8) (v := ?_) rfl (by kernel_rfl) (by kernel_rfl) (by kernel_rfl) (fun _ _ _ h => h) (Or.inl ⟨by rfl, ?_⟩) (by assumption) ?_; rotate_left; (intro w hSw; (try dsimp only at hSw); go_simp; try with_reducible rfl); ((try simp only [List.getElem_toArray]); (try simp only [List.getElem_cons_succ]); (try simp only [List.getElem_cons_zero]); (try simp only [Act.put]); (try simp only [List.setIfInBounds_toArray]); (try simp only [List.set_cons_succ]); (try simp only [List.set_cons_zero])))
      (refine wpAnyH_take (i := 9) (v := ?_) rfl (by kernel_rfl) (by kernel_rfl) (by kernel_rfl) (fun _ _ _ h => h) (Or.inl ⟨by rfl, ?_⟩) (by assumption) ?_; rotate_left; (intro w hSw; (try dsimp only at hSw); go_simp; try with_reducible rfl); ((try simp only [List.getElem_toArray]); (try simp only [List.getElem_cons_succ]); (try simp only [List.getElem_cons_zero]); (try simp only [Act.put]); (try simp only [List.setIfInBounds_toArray]); (try simp only [List.set_cons_succ]); (try simp only [List.set_cons_zero])))
      (refine wpAnyH_take (i := 10) (v := ?_) rfl (by kernel_rfl) (by kernel_rfl) (by kernel_rfl) (fun _ _ _ h => h) (Or.inl ⟨by rfl, ?_⟩) (by assumption) ?_; rotate_left; (intro w hSw; (try dsimp only at hSw); go_simp; try with_reducible rfl); ((try simp only [List.getElem_toArray]); (try simp only [List.getElem_cons_succ]); (try simp only [List.getElem_cons_zero]); (try simp only [Act.put]); (try simp only [List.setIfInBounds_toArray]); (try simp only [List.set_cons_succ]); (try simp only [List.set_cons_zero])))
      refine wpAnyH_ready (rs := [5]) (by kernel_rfl) (by simp) ?_
      refine AllReadyH.cons rfl (fun K2 hK2 => ?_) AllReadyH.nil
      go_simp
      refine (ihl n _ x lo1 le1 (by exact h3.hp rfl) (by exact hn) (by exact hone.hp rfl) ball risl (by omega)).mono ?_
      rintro e w1 ⟨T1, rfl, i1, con1, bal1, b1⟩
      have B1 : Below w.heap.size w w1 := (Below.refl _ w).drew.drew.trans b1
      have z1 : T1.size ≤ l.size + 1 := by
        rw [← con_len T1, con1, ← con_len l]
        exact putL_len _
      have d2 : w1.cell? ⟨b, 2, none⟩ = some (.pointer l.ptr) := (B1.cell (p := ⟨b, 2, none⟩) (World.block_lt_of_cell? w _ c2)).trans c2
      have d3 : w1.cell? ⟨b, 3, none⟩ = some (.pointer r.ptr) := (B1.cell (p := ⟨b, 3, none⟩) (World.block_lt_of_cell? w _ c3)).trans c3
      have X1 : NdAt w1 ⟨b, k, v0⟩ := (⟨lo, c0, c1, c6⟩ : NdAt w ⟨b, k, v0⟩) |> fun h => NdAt.below (w := w) h B1
      have O1 : IsTr w1.heap.size w1 r := ((h4).below (B1.mono hn)).mono (Nat.le_trans hn B1.size)
      have I1 := Lib.hid i1
      have HB1 := Lib.hid B1
      clear i1 b1 B1
      go_wp2_with fail
      refine hK2.out _ _ (by exact ⟨d2, d3⟩) (fun hq => ?_)
      clear hK2 K2
      ((try simp only [List.getElem_toArray]); (try simp only [List.getElem_cons_succ]); (try simp only [List.getElem_cons_zero]); (try simp only [Act.put]); (try simp only [List.setIfInBounds_toArray]); (try simp only [List.set_cons_succ]); (try simp only [List.set_cons_zero]))
      refine wpAnyH_ready (rs := [11]) (by kernel_rfl) (by simp) ?_
      refine AllReadyH.cons rfl (fun K2 hK2 => ?_) AllReadyH.nil
      go_simp
      refine (over_any T1 r ⟨b, k, v0⟩ w1.heap.size w1 I1.out O1 (Nat.le_refl _) X1 (by omega) bal1 balr).mono ?_
      rintro e w2 ⟨T2, rfl, i2, con2, bal2, b2⟩
      have e2 : w2.cell? ⟨b, 2, none⟩ = some (.pointer l.ptr) := (b2.cell (p := ⟨b, 2, none⟩) (World.block_lt_of_cell? w1 _ d2)).trans d2
      have e3 : w2.cell? ⟨b, 3, none⟩ = some (.pointer r.ptr) := (b2.cell (p := ⟨b, 3, none⟩) (World.block_lt_of_cell? w1 _ d3)).trans d3
      have hfin : OutT w (putL x.k x.v (l.con ++ (k, v0) :: r.con)) (.returned (.pointer T2.ptr)) w2 := by
        refine ⟨T2, rfl, i2, ?_, bal2, HB1.out.trans (b2.mono HB1.out.size)⟩
        rw [con2, con1, putL_lt q1]
      have HFIN := Lib.hid hfin
      clear hfin i2 b2
      go_wp2_with fail
      refine hK2.out _ _ (by exact ⟨e2, e3⟩) (fun hq => ?_)
      clear hK2 K2
      ((try simp only [List.getElem_toArray]); (try simp only [List.getElem_cons_succ]); (try simp only [List.getElem_cons_zero]); (try simp only [Act.put]); (try simp only [List.setIfInBounds_toArray]); (try simp only [List.set_cons_succ]); (try simp only [List.set_cons_zero]))
      (refine wpAnyH_take (i := 12) (v := ?_) rfl (by kernel_rfl) (by kernel_rfl) (by kernel_rfl) (fun _ _ _ h => h) (Or.inl ⟨by rfl, ?_⟩) (by assumption) ?_; rotate_left; (intro w hSw; (try dsimp only at hSw); go_simp; try with_reducible rfl); ((try simp only [List.getElem_toArray]); (try simp only [List.getElem_cons_succ]); (try simp only [List.getElem_cons_zero]); (try simp only [Act.put]); (try simp only [List.setIfInBounds_toArray]); (try simp only [List.set_cons_succ]); (try simp only [List.set_cons_zero])))
      refine wpAnyH_done (by kernel_rfl) ?_ _
      go_wp2_with fail
      go_ret
      exact HFIN.out
    | false =>
      have q1' : Op.bytesLess x.k.toList k.toList = false := q1
      cases q2 : kl k x.k with
      | true =>
        have q3 : (x.k.toList == k.toList) = false := by
          cases q3 : (x.k.toList == k.toList) with
          | false => rfl
          | true => rw [eq_iff.1 q3, kl_irrefl] at q2; cases q2
        go_wp2_with fail
        go_region_held3 (fun X => X.cell? ⟨x.b, 0, none⟩ = some (.string x.k) ∧ X.cell? ⟨b, 0, none⟩ = some (.string k)) (exact ⟨x0, c0⟩) (first | fail)
        go_wp2_with fail
        go_region_held3 (fun X => X.cell? ⟨x.b, 0, none⟩ = some (.string x.k) ∧ X.cell? ⟨b, 0, none⟩ = some (.string k)) (exact ⟨x0, c0⟩) (first | fail)
        go_wp2_with fail
        refine wp_region_held_drew (S := fun X => X.cell? ⟨b, 2, none⟩ = some (.pointer l.ptr) ∧ X.cell? ⟨b, 3, none⟩ = some (.pointer r.ptr)) (by kernel_rfl) (by exact ⟨c2, c3⟩) (fun _ => ?_)
        (refine wpAnyH_take (i := 0) (v := ?_) rfl (by kernel_rfl) (by kernel_rfl) (by kernel_rfl) (fun _ _ _ h => h) (Or.inl ⟨by rfl, ?_⟩) (by assumption) ?_; rotate_left; (intro w hSw; (try dsimp only at hSw); go_simp; try with_reducible rfl); ((try simp only [List.getElem_toArray]); (try simp only [List.getElem_cons_succ]); (try simp only [List.getElem_cons_zero]); (try simp only [Act.put]); (try simp only [List.setIfInBounds_toArray]); (try simp only [List.set_cons_succ]); (try simp only [List.set_cons_zero])))
        (refine wpAnyH_take (i := 1) (v := ?_) rfl (by kernel_rfl) (by kernel_rfl) (by kernel_rfl) (fun _ _ _ h => h) (Or.inl ⟨by rfl, ?_⟩) (by assumption) ?_; rotate_left; (intro w hSw; (try dsimp only at hSw); go_simp; try with_reducible rfl); ((try simp only [List.getElem_toArray]); (try simp only [List.getElem_cons_succ]); (try simp only [List.getElem_cons_zero]); (try simp only [Act.put]); (try simp only [List.setIfInBounds_toArray]); (try simp only [List.set_cons_succ]); (try simp only [List.set_cons_zero])))
        (refine wpAnyH_take (i := 2) (v := ?_) rfl (by kernel_rfl) (by kernel_rfl) (by kernel_rfl) (fun _ _ _ h => h) (Or.inl ⟨by rfl, ?_⟩) (by assumption) ?_; rotate_left; (intro w hSw; (try dsimp only at hSw); go_simp; try with_reducible rfl); ((try simp only [List.getElem_toArray]); (try simp only [List.getElem_cons_succ]); (try simp only [List.getElem_cons_zero]); (try simp only [Act.put]); (try simp only [List.setIfInBounds_toArray]); (try simp only [List.set_cons_succ]); (try simp only [List.set_cons_zero])))
        (refine wpAnyH_take (i := 3) (v := ?_) rfl (by kernel_rfl) (by kernel_rfl) (by kernel_rfl) (fun _ _ _ h => h) (Or.inl ⟨by rfl, ?_⟩) (by assumption) ?_; rotate_left; (intro w hSw; (try dsimp only at hSw); go_simp; try with_reducible rfl); ((try simp only [List.getElem_toArray]); (try simp only [List.getElem_cons_succ]); (try simp only [List.getElem_cons_zero]); (try simp only [Act.put]); (try simp only [List.setIfInBounds_toArray]); (try simp only [List.set_cons_succ]); (try simp only [List.set_cons_zero])))
        (refine wpAnyH_take (i := 4) (v := ?_) rfl (by kernel_rfl) (by kernel_rfl) (by kernel_rfl) (fun _ _ _ h => h) (Or.inl ⟨by rfl, ?_⟩) (by assumption) ?_; rotate_left; (intro w hSw; (try dsimp only at hSw); go_simp; try with_reducible rfl); ((try simp only [List.getElem_toArray]); (try simp only [List.getElem_cons_succ]); (try simp only [List.getElem_cons_zero]); (try simp only [Act.put]); (try simp only [List.setIfInBounds_toArray]); (try simp only [List.set_cons_succ]); (try simp only [List.set_cons_zero])))
        (refine wpAnyH_take (i := 5) (v := ?_) rfl (by kernel_rfl) (by kernel_rfl) (by kernel_rfl) (fun _ _ _ h => h) (Or.inl ⟨by rfl, ?_⟩) (by assumption) ?_; rotate_left; (intro w hSw; (try dsimp only at hSw); go_simp; try with_reducible rfl); ((try simp only [List.getElem_toArray]); (try simp only [List.getElem_cons_succ]); (try simp only [List.getElem_cons_zero]); (try simp only [Act.put]); (try simp only [List.setIfInBounds_toArray]); (try simp only [List.set_cons_succ]); (try simp only [List.set_cons_zero])))
        (refine wpAnyH_take (i := 6) (v := ?_) rfl (by kernel_rfl) (by kernel_rfl) (by kernel_rfl) (fun _ _ _ h => h) (Or.inl ⟨by rfl, ?_⟩) (by assumption) ?_; rotate_left; (intro w hSw; (try dsimp only at hSw); go_simp; try with_reducible rfl); ((try simp only [List.getElem_toArray]); (try simp only [List.getElem_cons_succ]); (try simp only [List.getElem_cons_zero]); (try simp only [Act.put]); (try simp only [List.setIfInBounds_toArray]); (try simp only [List.set_cons_succ]); (try simp only [List.set_cons_zero])))
        (refine wpAnyH_take (i := 7) (v := ?_) rfl (by kernel_rfl) (by kernel_rfl) (by kernel_rfl) (fun _ _ _ h => h) (Or.inl ⟨by rfl, ?_⟩) (by assumption) ?_; rotate_left; (intro w hSw; (try dsimp only at hSw); go_simp; try with_reducible rfl); ((try simp only [List.getElem_toArray]); (try simp only [List.getElem_cons_succ]); (try simp only [List.getElem_cons_zero]); (try simp only [Act.put]); (try simp only [List.setIfInBounds_toArray]); (try simp only [List.set_cons_succ]); (try simp only [List.set_cons_zero])))
        (refine wpAnyH_take (i := 8) (v := ?_) rfl (by kernel_rfl) (by kernel_rfl) (by kernel_rfl) (fun _ _ _ h => h) (Or.inl ⟨by rfl, ?_⟩) (by assumption) ?_; rotate_left; (intro w hSw; (try dsimp only at hSw); go_simp; try with_reducible rfl); ((try simp only [List.getElem_toArray]); (try simp only [List.getElem_cons_succ]); (try simp only [List.getElem_cons_zero]); (try simp only [Act.put]); (try simp only [List.setIfInBounds_toArray]); (try simp only [List.set_cons_succ]); (try simp only [List.set_cons_zero])))
        (refine wpAnyH_take (i := 9) (v := ?_) rfl (by kernel_rfl) (by kernel_rfl) (by kernel_rfl) (fun _ _ _ h => h) (Or.inl ⟨by rfl, ?_⟩) (by assumption) ?_; rotate_left; (intro w hSw; (try dsimp only at hSw); go_simp; try with_reducible rfl); ((try simp only [List.getElem_toArray]); (try simp only [List.getElem_cons_succ]); (try simp only [List.getElem_cons_zero]); (try simp only [Act.put]); (try simp only [List.setIfInBounds_toArray]); (try simp only [List.set_cons_succ]); (try simp only [List.set_cons_zero])))
        refine wpAnyH_ready (rs := [10]) (by kernel_rfl) (by simp) ?_
        refine AllReadyH.cons rfl (fun K2 hK2 => ?_) AllReadyH.nil
        go_simp
        refine (ihr n _ x lo1 le1 (by exact h4.hp rfl) (by exact hn) (by exact hone.hp rfl) balr risr (by omega)).mono ?_
        rintro e w1 ⟨T1, rfl, i1, con1, bal1, b1⟩
        have B1 : Below w.heap.size w w1 := (Below.refl _ w).drew.drew.drew.trans b1
        have z1 : T1.size ≤ r.size + 1 := by
          rw [← con_len T1, con1, ← con_len r]
          exact putL_len _
        have d2 : w1.cell? ⟨b, 2, none⟩ = some (.pointer l.ptr) := (B1.cell (p := ⟨b, 2, none⟩) (World.block_lt_of_cell? w _ c2)).trans c2
        have d3 : w1.cell? ⟨b, 3, none⟩ = some (.pointer r.ptr) := (B1.cell (p := ⟨b, 3, none⟩) (World.block_lt_of_cell? w _ c3)).trans c3
        have X1 : NdAt w1 ⟨b, k, v0⟩ := (⟨lo, c0, c1, c6⟩ : NdAt w ⟨b, k, v0⟩) |> fun h => NdAt.below (w := w) h B1
        have O1 : IsTr w1.heap.size w1 l := ((h3).below (B1.mono hn)).mono (Nat.le_trans hn B1.size)
        have I1 := Lib.hid i1
        have HB1 := Lib.hid B1
        clear i1 b1 B1
        go_wp2_with fail
        refine hK2.out _ _ (by exact ⟨d2, d3⟩) (fun hq => ?_)
        clear hK2 K2
        ((try simp only [List.getElem_toArray]); (try simp only [List.getElem_cons_succ]); (try simp only [List.getElem_cons_zero]); (try simp only [Act.put]); (try simp only [List.setIfInBounds_toArray]); (try simp only [List.set_cons_succ]); (try simp only [List.set_cons_zero]))
        refine wpAnyH_ready (rs := [11]) (by kernel_rfl) (by simp) ?_
        refine AllReadyH.cons rfl (fun K2 hK2 => ?_) AllReadyH.nil
        go_simp
        refine (over_any l T1 ⟨b, k, v0⟩ w1.heap.size w1 O1 I1.out (Nat.le_refl _) X1 (by omega) ball bal1).mono ?_
        rintro e w2 ⟨T2, rfl, i2, con2, bal2, b2⟩
        have e2 : w2.cell? ⟨b, 2, none⟩ = some (.pointer l.ptr) := (b2.cell (p := ⟨b, 2, none⟩) (World.block_lt_of_cell? w1 _ d2)).trans d2
        have e3 : w2.cell? ⟨b, 3, none⟩ = some (.pointer r.ptr) := (b2.cell (p := ⟨b, 3, none⟩) (World.block_lt_of_cell? w1 _ d3)).trans d3
        have hfin : OutT w (putL x.k x.v (l.con ++ (k, v0) :: r.con)) (.returned (.pointer T2.ptr)) w2 := by
          refine ⟨T2, rfl, i2, ?_, bal2, HB1.out.trans (b2.mono HB1.out.size)⟩
          rw [con2, con1, putL_gt q2 _ hlk]
        have HFIN := Lib.hid hfin
        clear hfin i2 b2
        go_wp2_with fail
        refine hK2.out _ _ (by exact ⟨e2, e3⟩) (fun hq => ?_)
        clear hK2 K2
        ((try simp only [List.getElem_toArray]); (try simp only [List.getElem_cons_succ]); (try simp only [List.getElem_cons_zero]); (try simp only [Act.put]); (try simp only [List.setIfInBounds_toArray]); (try simp only [List.set_cons_succ]); (try simp only [List.set_cons_zero]))
        (refine wpAnyH_take (i := 12) (v := ?_) rfl (by kernel_rfl) (by kernel_rfl) (by kernel_rfl) (fun _ _ _ h => h) (Or.inl ⟨by rfl, ?_⟩) (by assumption) ?_; rotate_left; (intro w hSw; (try dsimp only at hSw); go_simp; try with_reducible rfl); ((try simp only [List.getElem_toArray]); (try simp only [List.getElem_cons_succ]); (try simp only [List.getElem_cons_zero]); (try simp only [Act.put]); (try simp only [List.setIfInBounds_toArray]); (try simp only [List.set_cons_succ]); (try simp only [List.set_cons_zero])))
        refine wpAnyH_done (by kernel_rfl) ?_ _
        go_wp2_with fail
        go_ret
        exact HFIN.out
      | false =>
        have hke : x.k = k := by
          apply Classical.byContradiction
          intro hne
          rcases kl_total hne with h | h
          · rw [h] at q1; cases q1
          · rw [h] at q2; cases q2
        have q3 : (x.k.toList == k.toList) = true := by rw [hke]; simp
        have HKE := Lib.hid hke
        clear hke
        go_wp2_with fail
        go_region_held3 (fun X => X.cell? ⟨x.b, 0, none⟩ = some (.string x.k) ∧ X.cell? ⟨b, 0, none⟩ = some (.string k)) (exact ⟨x0, c0⟩) (first | fail)
        go_wp2_with fail
        go_region_held3 (fun X => X.cell? ⟨x.b, 0, none⟩ = some (.string x.k) ∧ X.cell? ⟨b, 0, none⟩ = some (.string k)) (exact ⟨x0, c0⟩) (first | fail)
        go_wp2_with fail
        refine wp_region_held_drew (S := fun X => X.cell? ⟨b, 2, none⟩ = some (.pointer l.ptr) ∧ X.cell? ⟨b, 3, none⟩ = some (.pointer r.ptr)) (by kernel_rfl) (by exact ⟨c2, c3⟩) (fun _ => ?_)
        (refine wpAnyH_take (i := 0) (v := ?_) rfl (by kernel_rfl) (by kernel_rfl) (by kernel_rfl) (fun _ _ _ h => h) (Or.inl ⟨by rfl, ?_⟩) (by assumption) ?_; rotate_left; (intro w hSw; (try dsimp only at hSw); go_simp; try with_reducible rfl); ((try simp only [List.getElem_toArray]); (try simp only [List.getElem_cons_succ]); (try simp only [List.getElem_cons_zero]); (try simp only [Act.put]); (try simp only [List.setIfInBounds_toArray]); (try simp only [List.set_cons_succ]); (try simp only [List.set_cons_zero])))
        (refine wpAnyH_take (i := 1) (v := ?_) rfl (by kernel_rfl) (by kernel_rfl) (by kernel_rfl) (fun _ _ _ h => h) (Or.inl ⟨by rfl, ?_⟩) (by assumption) ?_; rotate_left; (intro w hSw; (try dsimp only at hSw); go_simp; try with_reducible rfl); ((try simp only [List.getElem_toArray]); (try simp only [List.getElem_cons_succ]); (try simp only [List.getElem_cons_zero]); (try simp only [Act.put]); (try simp only [List.setIfInBounds_toArray]); (try simp only [List.set_cons_succ]); (try simp only [List.set_cons_zero])))
        (refine wpAnyH_take (i := 2) (v := ?_) rfl (by kernel_rfl) (by kernel_rfl) (by kernel_rfl) (fun _ _ _ h => h) (Or.inl ⟨by rfl, ?_⟩) (by assumption) ?_; rotate_left; (intro w hSw; (try dsimp only at hSw); go_simp; try with_reducible rfl); ((try simp only [List.getElem_toArray]); (try simp only [List.getElem_cons_succ]); (try simp only [List.getElem_cons_zero]); (try simp only [Act.put]); (try simp only [List.setIfInBounds_toArray]); (try simp only [List.set_cons_succ]); (try simp only [List.set_cons_zero])))
        (refine wpAnyH_take (i := 3) (v := ?_) rfl (by kernel_rfl) (by kernel_rfl) (by kernel_rfl) (fun _ _ _ h => h) (Or.inl ⟨by rfl, ?_⟩) (by assumption) ?_; rotate_left; (intro w hSw; (try dsimp only at hSw); go_simp; try with_reducible rfl); ((try simp only [List.getElem_toArray]); (try simp only [List.getElem_cons_succ]); (try simp only [List.getElem_cons_zero]); (try simp only [Act.put]); (try simp only [List.setIfInBounds_toArray]); (try simp only [List.set_cons_succ]); (try simp only [List.set_cons_zero])))
        (refine wpAnyH_take (i := 4) (v := ?_) rfl (by kernel_rfl) (by kernel_rfl) (by kernel_rfl) (fun _ _ _ h => h) (Or.inl ⟨by rfl, ?_⟩) (by assumption) ?_; rotate_left; (intro w hSw; (try dsimp only at hSw); go_simp; try with_reducible rfl); ((try simp only [List.getElem_toArray]); (try simp only [List.getElem_cons_succ]); (try simp only [List.getElem_cons_zero]); (try simp only [Act.put]); (try simp only [List.setIfInBounds_toArray]); (try simp only [List.set_cons_succ]); (try simp only [List.set_cons_zero])))
        (refine wpAnyH_take (i := 5) (v := ?_) rfl (by kernel_rfl) (by kernel_rfl) (by kernel_rfl) (fun _ _ _ h => h) (Or.inl ⟨by rfl, ?_⟩) (by assumption) ?_; rotate_left; (intro w hSw; (try dsimp only at hSw); go_simp; try with_reducible rfl); ((try simp only [List.getElem_toArray]); (try simp only [List.getElem_cons_succ]); (try simp only [List.getElem_cons_zero]); (try simp only [Act.put]); (try simp only [List.setIfInBounds_toArray]); (try simp only [List.set_cons_succ]); (try simp only [List.set_cons_zero])))
        (refine wpAnyH_take (i := 6) (v := ?_) rfl (by kernel_rfl) (by kernel_rfl) (by kernel_rfl) (fun _ _ _ h => h) (Or.inl ⟨by rfl, ?_⟩) (by assumption) ?_; rotate_left; (intro w hSw; (try dsimp only at hSw); go_simp; try with_reducible rfl); ((try simp only [List.getElem_toArray]); (try simp only [List.getElem_cons_succ]); (try simp only [List.getElem_cons_zero]); (try simp only [Act.put]); (try simp only [List.setIfInBounds_toArray]); (try simp only [List.set_cons_succ]); (try simp only [List.set_cons_zero])))
        (refine wpAnyH_take (i := 7) (v := ?_) rfl (by kernel_rfl) (by kernel_rfl) (by kernel_rfl) (fun _ _ _ h => h) (Or.inl ⟨by rfl, ?_⟩) (by assumption) ?_; rotate_left; (intro w hSw; (try dsimp only at hSw); go_simp; try with_reducible rfl); ((try simp only [List.getElem_toArray]); (try simp only [List.getElem_cons_succ]); (try simp only [List.getElem_cons_zero]); (try simp only [Act.put]); (try simp only [List.setIfInBounds_toArray]); (try simp only [List.set_cons_succ]); (try simp only [List.set_cons_zero])))
        (refine wpAnyH_take (i := 8) (v := ?_) rfl (by kernel_rfl) (by kernel_rfl) (by kernel_rfl) (fun _ _ _ h => h) (Or.inl ⟨by rfl, ?_⟩) (by assumption) ?_; rotate_left; (intro w hSw; (try dsimp only at hSw); go_simp; try with_reducible rfl); ((try simp only [List.getElem_toArray]); (try simp only [List.getElem_cons_succ]); (try simp only [List.getElem_cons_zero]); (try simp only [Act.put]); (try simp only [List.setIfInBounds_toArray]); (try simp only [List.set_cons_succ]); (try simp only [List.set_cons_zero])))
        refine wpAnyH_ready (rs := [9]) (by kernel_rfl) (by simp) ?_
        refine AllReadyH.cons rfl (fun K2 hK2 => ?_) AllReadyH.nil
        go_simp
        have hl1 := ht_size l
        have hl2 := ht_size r
        refine (atop_any l r x.b x.k x.v lo1 _ (by exact h3.hp rfl) (by exact h4.hp rfl) (by omega) (by omega) (by omega) (by exact x0) (by exact x1) (by exact x6)).mono ?_
        rintro e w2 ⟨rfl, ⟨le2, g2⟩, b2, s2⟩
        have B2 : Below w.heap.size w w2 := (Below.refl _ w).drew.drew.drew.trans b2
        have e2 : w2.cell? ⟨b, 2, none⟩ = some (.pointer l.ptr) := (B2.cell (p := ⟨b, 2, none⟩) (World.block_lt_of_cell? w _ c2)).trans c2
        have e3 : w2.cell? ⟨b, 3, none⟩ = some (.pointer r.ptr) := (B2.cell (p := ⟨b, 3, none⟩) (World.block_lt_of_cell? w _ c3)).trans c3
        have hfin : OutT w (putL x.k x.v (l.con ++ (k, v0) :: r.con)) (.returned (.pointer (some ⟨w.drew.drew.drew.heap.size, 0, none⟩))) w2 := by
          refine ⟨.node w.drew.drew.drew.heap.size l x.k x.v lo1 le2 r, rfl, ⟨by omega, g2, (h3.below (B2.mono hn)).mono (Nat.le_trans hn B2.size), (h4.below (B2.mono hn)).mono (Nat.le_trans hn B2.size)⟩, ?_, ⟨p1, p2, ball, balr⟩, B2⟩
          rw [HKE.out, putL_eq _ hlk]
          rfl
        have HFIN := Lib.hid hfin
        clear hfin g2 b2
        go_wp2_with fail
        refine hK2.out _ _ (by exact ⟨e2, e3⟩) (fun hq => ?_)
        clear hK2 K2
        ((try simp only [List.getElem_toArray]); (try simp only [List.getElem_cons_succ]); (try simp only [List.getElem_cons_zero]); (try simp only [Act.put]); (try simp only [List.setIfInBounds_toArray]); (try simp only [List.set_cons_succ]); (try simp only [List.set_cons_zero]))
        (refine wpAnyH_take (i := 10) (v := ?_) rfl (by kernel_rfl) (by kernel_rfl) (by kernel_rfl) (fun _ _ _ h => h) (Or.inl ⟨by rfl, ?_⟩) (by assumption) ?_; rotate_left; (intro w hSw; (try dsimp only at hSw); go_simp; try with_reducible rfl); ((try simp only [List.getElem_toArray]); (try simp only [List.getElem_cons_succ]); (try simp only [List.getElem_cons_zero]); (try simp only [Act.put]); (try simp only [List.setIfInBounds_toArray]); (try simp only [List.set_cons_succ]); (try simp only [List.set_cons_zero])))
        refine wpAnyH_done (by kernel_rfl) ?_ _
        go_wp2_with fail
        go_ret
        exact HFIN.out
end Go.Proofs.Ytmapclocbhkpbaa
