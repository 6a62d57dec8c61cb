/-
  cut: a tree without a key.
-/
import Derived.Test.YtcdjeibcnkpadaaDoorWa4
namespace Go.Proofs.YtcdjeibcnkpadaaDoor
open Go.RowKit Go.Maps Dg
set_option linter.unusedVariables false
theorem cutL_id {key : ByteArray} {l : List (ByteArray × Sl)} (h : ∀ y ∈ l, y.1 ≠ key) : cutL key l = l := by
  unfold cutL
  rw [List.filter_eq_self]
  intro y hy
  cases e : (y.1.toList == key.toList) with
  | false => rfl
  | true => exact absurd (eq_iff.1 e) (h y hy)
theorem cutL_app (key : ByteArray) (a b : List (ByteArray × Sl)) : cutL key (a ++ b) = cutL key a ++ cutL key b := List.filter_append _ _
theorem cutL_ne {key : ByteArray} {x : ByteArray × Sl} {l : List (ByteArray × Sl)} (h : x.1 ≠ key) : cutL key (x :: l) = x :: cutL key l := by
  unfold cutL
  have e : (x.1.toList == key.toList) = false := by
    cases e : (x.1.toList == key.toList) with
    | false => rfl
    | true => exact absurd (eq_iff.1 e) h
  rw [List.filter_cons, e]
  rfl
theorem cutL_lt {key k : ByteArray} {v : Sl} {l r : List (ByteArray × Sl)} (h : kl key k = true) (hr : ∀ y ∈ r, kl k y.1 = true) : cutL key (l ++ (k, v) :: r) = cutL key l ++ (k, v) :: r := by
  rw [cutL_app, cutL_ne (Ne.symm (ne_of_kl h)), cutL_id fun y hy => Ne.symm (ne_of_kl (kl_trans h (hr y hy)))]
theorem cutL_gt {key k : ByteArray} {v : Sl} {l r : List (ByteArray × Sl)} (h : kl k key = true) (hl : ∀ y ∈ l, kl y.1 k = true) : cutL key (l ++ (k, v) :: r) = l ++ (k, v) :: cutL key r := by
  rw [cutL_app, cutL_ne (ne_of_kl h), cutL_id fun y hy => ne_of_kl (kl_trans (hl y hy) h)]
theorem cutL_eq {k : ByteArray} {v : Sl} {l r : List (ByteArray × Sl)} (hl : ∀ y ∈ l, kl y.1 k = true) (hr : ∀ y ∈ r, kl k y.1 = true) : cutL k (l ++ (k, v) :: r) = l ++ r := by
  rw [cutL_app, cutL_id fun y hy => ne_of_kl (hl y hy)]
  have e : cutL k ((k, v) :: r) = cutL k r := by unfold cutL; rw [List.filter_cons]; simp
  rw [e, cutL_id fun y hy => Ne.symm (ne_of_kl (hr y hy))]
theorem cutL_rises {k : ByteArray} : ∀ {l : List (ByteArray × Sl)}, Rises l → Rises (cutL k l)
  | [], _ => trivial
  | x :: l, ⟨h1, h2⟩ => by
    unfold cutL
    rw [List.filter_cons]
    have ih : Rises (List.filter (fun x => !(x.1.toList == k.toList)) l) := cutL_rises h2
    split
    · exact ⟨fun y hy => h1 y (List.mem_filter.1 hy).1, ih⟩
    · exact ih
theorem mem_of_getL {key : ByteArray} {l : List (ByteArray × Sl)} (h : (getL key l).isSome = true) : ∃ y ∈ l, y.1 = key := by
  unfold getL at h
  cases hf : List.find? (fun x => x.1.toList == key.toList) l with
  | none => rw [hf] at h; cases h
  | some y => exact ⟨y, List.mem_of_find?_eq_some hf, eq_iff.1 (by have hq := List.find?_some hf; exact hq)⟩
theorem getL_of_mem {key : ByteArray} {l : List (ByteArray × Sl)} (h : ∃ y ∈ l, y.1 = key) : (getL key l).isSome = true := by
  obtain ⟨y, hy, e⟩ := h
  unfold getL
  cases hf : List.find? (fun x => x.1.toList == key.toList) l with
  | none => exact absurd (eq_iff.2 e) (by simpa using List.find?_eq_none.1 hf y hy)
  | some y => rfl
set_option maxHeartbeats 4000000 in
set_option maxRecDepth 100000 in
theorem cut_any (T : Tr) : ∀ (n : Nat) (w : World) (key : ByteArray), IsTr n w T → n ≤ w.heap.size → Bal T → Rises T.con → T.size ≤ 90000 → (∃ y ∈ T.con, y.1 = key) →
    Calls Tryd.prog 81 #[.pointer T.ptr, .string key] w fun e w' => OutT w (cutL key T.con) e w' := by
  induction T with
  | nil =>
    intro n w key hT hn hB hR hz hin
    obtain ⟨y, hy, -⟩ := hin
    cases hy
  | node b l k v0 lo le r ihl ihr =>
    intro n w key hT hn hB hR hz hin
    obtain ⟨h1, h2, h3, h4⟩ := hT
    obtain ⟨p1, p2, ball, balr⟩ := hB
    obtain ⟨risl, hR2, hR3⟩ := Rises.app.1 hR
    obtain ⟨hkr, risr⟩ := hR2
    have hlk : ∀ y ∈ l.con, kl y.1 k = true := fun y hy => hR3 y hy (k, v0) List.mem_cons_self
    have hp : (Tr.node b l k v0 lo le r).ptr = some ⟨b, 0, none⟩ := rfl
    have hsz : (Tr.node b l k v0 lo le r).size = l.size + 1 + r.size := rfl
    have hcon : (Tr.node b l k v0 lo le r).con = l.con ++ (k, v0) :: r.con := rfl
    have inl : kl key k = true → ∃ y ∈ l.con, y.1 = key := by
      intro q
      obtain ⟨y, hy, e⟩ := hin
      rw [hcon] at hy
      rcases List.mem_append.1 hy with hy | hy
      · exact ⟨y, hy, e⟩
      · rcases List.mem_cons.1 hy with rfl | hy
        · exact absurd e (Ne.symm (ne_of_kl q))
        · exact absurd e (Ne.symm (ne_of_kl (kl_trans q (hkr y hy))))
    have inr : kl k key = true → ∃ y ∈ r.con, y.1 = key := by
      intro q
      obtain ⟨y, hy, e⟩ := hin
      rw [hcon] at hy
      rcases List.mem_append.1 hy with hy | hy
      · exact absurd e (ne_of_kl (kl_trans (hlk y hy) q))
      · rcases List.mem_cons.1 hy with rfl | hy
        · exact absurd e (ne_of_kl q)
        · exact ⟨y, hy, e⟩
    rw [hp, hcon]
    rw [hsz] at hz
    have c0 : w.cell? ⟨b, 0, none⟩ = some (.string k) := h2.cell 0
    have c1 : w.cell? ⟨b, 1, none⟩ = some (.slice v0.a v0.n v0.c) := h2.cell 1
    have c2 : w.cell? ⟨b, 2, none⟩ = some (.pointer l.ptr) := h2.cell 2
    have c3 : w.cell? ⟨b, 3, none⟩ = some (.pointer r.ptr) := h2.cell 3
    have c6 : w.cell? ⟨b, 6, none⟩ = some (.int .i64 lo) := h2.cell 6
    clear hR hR3 h2 hin hcon
    go_enter Tryd.func81, Tryd.ntmps81
    cases q1 : kl key k with
    | true =>
      have inl := inl q1
      have q1' : Op.bytesLess key.toList k.toList = true := q1
      go_wp2_with fail
      refine wp_region_held_drew (S := fun X => X.cell? ⟨b, 2, none⟩ = some (.pointer l.ptr) ∧ X.cell? ⟨b, 3, none⟩ = some (.pointer r.ptr)) (by kernel_rfl) (by exact ⟨c2, c3⟩) (fun _ => ?_)
      (refine wpAnyH_take (i := 0) (v := ?_) rfl (by kernel_rfl) (by kernel_rfl) (by kernel_rfl) (fun _ _ _ h => h) (Or.inl ⟨by rfl, ?_⟩) (by assumption) ?_; rotate_left; (intro w hSw; (try dsimp only at hSw); go_simp; try with_reducible rfl); ((try simp only [List.getElem_toArray]); (try simp only [List.getElem_cons_succ]); (try simp only [List.getElem_cons_zero]); (try simp only [Act.put]); (try simp only [List.setIfInBounds_toArray]); (try simp only [List.set_cons_succ]); (try simp only [List.set_cons_zero])))
      (refine wpAnyH_take (i := 1) (v := ?_) rfl (by kernel_rfl) (by kernel_rfl) (by kernel_rfl) (fun _ _ _ h => h) (Or.inl ⟨by rfl, ?_⟩) (by assumption) ?_; rotate_left; (intro w hSw; (try dsimp only at hSw); go_simp; try with_reducible rfl); ((try simp only [List.getElem_toArray]); (try simp only [List.getElem_cons_succ]); (try simp only [List.getElem_cons_zero]); (try simp only [Act.put]); (try simp only [List.setIfInBounds_toArray]); (try simp only [List.set_cons_succ]); (try simp only [List.set_cons_zero])))
      (refine wpAnyH_take (i := 2) (v := ?_) rfl (by kernel_rfl) (by kernel_rfl) (by kernel_rfl) (fun _ _ _ h => h) (Or.inl ⟨by rfl, ?_⟩) (by assumption) ?_; rotate_left; (intro w hSw; (try dsimp only at hSw); go_simp; try with_reducible rfl); ((try simp only [List.getElem_toArray]); (try simp only [List.getElem_cons_succ]); (try simp only [List.getElem_cons_zero]); (try simp only [Act.put]); (try simp only [List.setIfInBounds_toArray]); (try simp only [List.set_cons_succ]); (try simp only [List.set_cons_zero])))
      (refine wpAnyH_take (i := 3) (v := ?_) rfl (by kernel_rfl) (by kernel_rfl) (by kernel_rfl) (fun _ _ _ h => h) (Or.inl ⟨by rfl, ?_⟩) (by assumption) ?_; rotate_left; (intro w hSw; (try dsimp only at hSw); go_simp; try with_reducible rfl); ((try simp only [List.getElem_toArray]); (try simp only [List.getElem_cons_succ]); (try simp only [List.getElem_cons_zero]); (try simp only [Act.put]); (try simp only [List.setIfInBounds_toArray]); (try simp only [List.set_cons_succ]); (try simp only [List.set_cons_zero])))
      (refine wpAnyH_take (i := 4) (v := ?_) rfl (by kernel_rfl) (by kernel_rfl) (by kernel_rfl) (fun _ _ _ h => h) (Or.inl ⟨by rfl, ?_⟩) (by assumption) ?_; rotate_left; (intro w hSw; (try dsimp only at hSw); go_simp; try with_reducible rfl); ((try simp only [List.getElem_toArray]); (try simp only [List.getElem_cons_succ]); (try simp only [List.getElem_cons_zero]); (try simp only [Act.put]); (try simp only [List.setIfInBounds_toArray]); (try simp only [List.set_cons_succ]); (try simp only [List.set_cons_zero])))
      (refine wpAnyH_take (i := 6) (v := ?_) rfl (by kernel_rfl) (by kernel_rfl) (by kernel_rfl) (fun _ _ _ h => h) (Or.inl ⟨by rfl, ?_⟩) (by assumption) ?_; rotate_left; (intro w hSw; (try dsimp only at hSw); go_simp; try with_reducible rfl); ((try simp only [List.getElem_toArray]); (try simp only [List.getElem_cons_succ]); (try simp only [List.getElem_cons_zero]); (try simp only [Act.put]); (try simp only [List.setIfInBounds_toArray]); (try simp only [List.set_cons_succ]); (try simp only [List.set_cons_zero])))
      (refine wpAnyH_take (i := 7) (v := ?_) rfl (by kernel_rfl) (by kernel_rfl) (by kernel_rfl) (fun _ _ _ h => h) (Or.inl ⟨by rfl, ?_⟩) (by assumption) ?_; rotate_left; (intro w hSw; (try dsimp only at hSw); go_simp; try with_reducible rfl); ((try simp only [List.getElem_toArray]); (try simp only [List.getElem_cons_succ]); (try simp only [List.getElem_cons_zero]); (try simp only [Act.put]); (try simp only [List.setIfInBounds_toArray]); (try simp only [List.set_cons_succ]); (try simp only [List.set_cons_zero])))
      (refine wpAnyH_take (i := 8) (v := ?_) rfl (by kernel_rfl) (by kernel_rfl) (by kernel_rfl) (fun _ _ _ h => h) (Or.inl ⟨by rfl, ?_⟩) (by assumption) ?_; rotate_left; (intro w hSw; (try dsimp only at hSw); go_simp; try with_reducible rfl); ((try simp only [List.getElem_toArray]); (try simp only [List.getElem_cons_succ]); (try simp only [List.getElem_cons_zero]); (try simp only [Act.put]); (try simp only [List.setIfInBounds_toArray]); (try simp only [List.set_cons_succ]); (try simp only [List.set_cons_zero])))
      (refine wpAnyH_take (i := 9) (v := ?_) rfl (by kernel_rfl) (by kernel_rfl) (by kernel_rfl) (fun _ _ _ h => h) (Or.inl ⟨by rfl, ?_⟩) (by assumption) ?_; rotate_left; (intro w hSw; (try dsimp only at hSw); go_simp; try with_reducible rfl); ((try simp only [List.getElem_toArray]); (try simp only [List.getElem_cons_succ]); (try simp only [List.getElem_cons_zero]); (try simp only [Act.put]); (try simp only [List.setIfInBounds_toArray]); (try simp only [List.set_cons_succ]); (try simp only [List.set_cons_zero])))
      (refine wpAnyH_take (i := 10) (v := ?_) rfl (by kernel_rfl) (by kernel_rfl) (by kernel_rfl) (fun _ _ _ h => h) (Or.inl ⟨by rfl, ?_⟩) (by assumption) ?_; rotate_left; (intro w hSw; (try dsimp only at hSw); go_simp; try with_reducible rfl); ((try simp only [List.getElem_toArray]); (try simp only [List.getElem_cons_succ]); (try simp only [List.getElem_cons_zero]); (try simp only [Act.put]); (try simp only [List.setIfInBounds_toArray]); (try simp only [List.set_cons_succ]); (try simp only [List.set_cons_zero])))
      refine wpAnyH_ready (rs := [5]) (by kernel_rfl) (by simp) ?_
      refine AllReadyH.cons rfl (fun K2 hK2 => ?_) AllReadyH.nil
      go_simp
      refine (ihl n _ key (by exact h3.hp rfl) (by exact hn) ball risl (by omega) inl).mono ?_
      rintro e w1 ⟨T1, rfl, i1, con1, bal1, b1⟩
      have B1 : Below w.heap.size w w1 := (Below.refl _ w).drew.trans b1
      have z1 : T1.size ≤ l.size + 1 := by
        rw [← con_len T1, con1, ← con_len l]
        exact Nat.le_succ_of_le (List.length_filter_le _ _)
      have d2 : w1.cell? ⟨b, 2, none⟩ = some (.pointer l.ptr) := (B1.cell (p := ⟨b, 2, none⟩) (World.block_lt_of_cell? w _ c2)).trans c2
      have d3 : w1.cell? ⟨b, 3, none⟩ = some (.pointer r.ptr) := (B1.cell (p := ⟨b, 3, none⟩) (World.block_lt_of_cell? w _ c3)).trans c3
      have X1 : NdAt w1 ⟨b, k, v0⟩ := (⟨lo, c0, c1, c6⟩ : NdAt w ⟨b, k, v0⟩) |> fun h => NdAt.below (w := w) h B1
      have O1 : IsTr w1.heap.size w1 r := ((h4).below (B1.mono hn)).mono (Nat.le_trans hn B1.size)
      have I1 := Lib.hid i1
      have HB1 := Lib.hid B1
      clear i1 b1 B1
      go_wp2_with fail
      refine hK2.out _ _ (by exact ⟨d2, d3⟩) (fun hq => ?_)
      clear hK2 K2
      ((try simp only [List.getElem_toArray]); (try simp only [List.getElem_cons_succ]); (try simp only [List.getElem_cons_zero]); (try simp only [Act.put]); (try simp only [List.setIfInBounds_toArray]); (try simp only [List.set_cons_succ]); (try simp only [List.set_cons_zero]))
      refine wpAnyH_ready (rs := [11]) (by kernel_rfl) (by simp) ?_
      refine AllReadyH.cons rfl (fun K2 hK2 => ?_) AllReadyH.nil
      go_simp
      refine (over_any T1 r ⟨b, k, v0⟩ w1.heap.size w1 I1.out O1 (Nat.le_refl _) X1 (by omega) bal1 balr).mono ?_
      rintro e w2 ⟨T2, rfl, i2, con2, bal2, b2⟩
      have e2 : w2.cell? ⟨b, 2, none⟩ = some (.pointer l.ptr) := (b2.cell (p := ⟨b, 2, none⟩) (World.block_lt_of_cell? w1 _ d2)).trans d2
      have e3 : w2.cell? ⟨b, 3, none⟩ = some (.pointer r.ptr) := (b2.cell (p := ⟨b, 3, none⟩) (World.block_lt_of_cell? w1 _ d3)).trans d3
      have hfin : OutT w (cutL key (l.con ++ (k, v0) :: r.con)) (.returned (.pointer T2.ptr)) w2 := by
        refine ⟨T2, rfl, i2, ?_, bal2, HB1.out.trans (b2.mono HB1.out.size)⟩
        rw [con2, con1, cutL_lt q1 hkr]
      have HFIN := Lib.hid hfin
      clear hfin i2 b2
      go_wp2_with fail
      refine hK2.out _ _ (by exact ⟨e2, e3⟩) (fun hq => ?_)
      clear hK2 K2
      ((try simp only [List.getElem_toArray]); (try simp only [List.getElem_cons_succ]); (try simp only [List.getElem_cons_zero]); (try simp only [Act.put]); (try simp only [List.setIfInBounds_toArray]); (try simp only [List.set_cons_succ]); (try simp only [List.set_cons_zero]))
      (refine wpAnyH_take (i := 12) (v := ?_) rfl (by kernel_rfl) (by kernel_rfl) (by kernel_rfl) (fun _ _ _ h => h) (Or.inl ⟨by rfl, ?_⟩) (by assumption) ?_; rotate_left; (intro w hSw; (try dsimp only at hSw); go_simp; try with_reducible rfl); ((try simp only [List.getElem_toArray]); (try simp only [List.getElem_cons_succ]); (try simp only [List.getElem_cons_zero]); (try simp only [Act.put]); (try simp only [List.setIfInBounds_toArray]); (try simp only [List.set_cons_succ]); (try simp only [List.set_cons_zero])))
      refine wpAnyH_done (by kernel_rfl) ?_ _
      go_wp2_with fail
      go_ret
      exact HFIN.out
    | false =>
      have q1' : Op.bytesLess key.toList k.toList = false := q1
      cases q2 : kl k key with
      | true =>
        have inr := inr q2
        have q3 : (key.toList == k.toList) = false := by
          cases q3 : (key.toList == k.toList) with
          | false => rfl
          | true => rw [eq_iff.1 q3, kl_irrefl] at q2; cases q2
        go_wp2_with fail
        refine wp_region_held_drew (S := fun X => X.cell? ⟨b, 2, none⟩ = some (.pointer l.ptr) ∧ X.cell? ⟨b, 3, none⟩ = some (.pointer r.ptr)) (by kernel_rfl) (by exact ⟨c2, c3⟩) (fun _ => ?_)
        (refine wpAnyH_take (i := 0) (v := ?_) rfl (by kernel_rfl) (by kernel_rfl) (by kernel_rfl) (fun _ _ _ h => h) (Or.inl ⟨by rfl, ?_⟩) (by assumption) ?_; rotate_left; (intro w hSw; (try dsimp only at hSw); go_simp; try with_reducible rfl); ((try simp only [List.getElem_toArray]); (try simp only [List.getElem_cons_succ]); (try simp only [List.getElem_cons_zero]); (try simp only [Act.put]); (try simp only [List.setIfInBounds_toArray]); (try simp only [List.set_cons_succ]); (try simp only [List.set_cons_zero])))
        (refine wpAnyH_take (i := 1) (v := ?_) rfl (by kernel_rfl) (by kernel_rfl) (by kernel_rfl) (fun _ _ _ h => h) (Or.inl ⟨by rfl, ?_⟩) (by assumption) ?_; rotate_left; (intro w hSw; (try dsimp only at hSw); go_simp; try with_reducible rfl); ((try simp only [List.getElem_toArray]); (try simp only [List.getElem_cons_succ]); (try simp only [List.getElem_cons_zero]); (try simp only [Act.put]); (try simp only [List.setIfInBounds_toArray]); (try simp only [List.set_cons_succ]); (try simp only [List.set_cons_zero])))
        (refine wpAnyH_take (i := 2) (v := ?_) rfl (by kernel_rfl) (by kernel_rfl) (by kernel_rfl) (fun _ _ _ h => h) (Or.inl ⟨by rfl, ?_⟩) (by assumption) ?_; rotate_left; (intro w hSw; (try dsimp only at hSw); go_simp; try with_reducible rfl); ((try simp only [List.getElem_toArray]); (try simp only [List.getElem_cons_succ]); (try simp only [List.getElem_cons_zero]); (try simp only [Act.put]); (try simp only [List.setIfInBounds_toArray]); (try simp only [List.set_cons_succ]); (try simp only [List.set_cons_zero])))
        (refine wpAnyH_take (i := 3) (v := ?_) rfl (by kernel_rfl) (by kernel_rfl) (by kernel_rfl) (fun _ _ _ h => h) (Or.inl ⟨by rfl, ?_⟩) (by assumption) ?_; rotate_left; (intro w hSw; (try dsimp only at hSw); go_simp; try with_reducible rfl); ((try simp only [List.getElem_toArray]); (try simp only [List.getElem_cons_succ]); (try simp only [List.getElem_cons_zero]); (try simp only [Act.put]); (try simp only [List.setIfInBounds_toArray]); (try simp only [List.set_cons_succ]); (try simp only [List.set_cons_zero])))
        (refine wpAnyH_take (i := 4) (v := ?_) rfl (by kernel_rfl) (by kernel_rfl) (by kernel_rfl) (fun _ _ _ h => h) (Or.inl ⟨by rfl, ?_⟩) (by assumption) ?_; rotate_left; (intro w hSw; (try dsimp only at hSw); go_simp; try with_reducible rfl); ((try simp only [List.getElem_toArray]); (try simp only [List.getElem_cons_succ]); (try simp only [List.getElem_cons_zero]); (try simp only [Act.put]); (try simp only [List.setIfInBounds_toArray]); (try simp only [List.set_cons_succ]); (try simp only [List.set_cons_zero])))
        (refine wpAnyH_take (i := 5) (v := ?_) rfl (by kernel_rfl) (by kernel_rfl) (by kernel_rfl) (fun _ _ _ h => h) (Or.inl ⟨by rfl, ?_⟩) (by assumption) ?_; rotate_left; (intro w hSw; (try dsimp only at hSw); go_simp; try with_reducible rfl); ((try simp only [List.getElem_toArray]); (try simp only [List.getElem_cons_succ]); (try simp only [List.getElem_cons_zero]); (try simp only [Act.put]); (try simp only [List.setIfInBounds_toArray]); (try simp only [List.set_cons_succ]); (try simp only [List.set_cons_zero])))
        (refine wpAnyH_take (i := 6) (v := ?_) rfl (by kernel_rfl) (by kernel_rfl) (by kernel_rfl) (fun _ _ _ h => h) (Or.inl ⟨by rfl, ?_⟩) (by assumption) ?_; rotate_left; (intro w hSw; (try dsimp only at hSw); go_simp; try with_reducible rfl); ((try simp only [List.getElem_toArray]); (try simp only [List.getElem_cons_succ]); (try simp only [List.getElem_cons_zero]); (try simp only [Act.put]); (try simp only [List.setIfInBounds_toArray]); (try simp only [List.set_cons_succ]); (try simp only [List.set_cons_zero])))
        (refine wpAnyH_take (i := 7) (v := ?_) rfl (by kernel_rfl) (by kernel_rfl) (by kernel_rfl) (fun _ _ _ h => h) (Or.inl ⟨by rfl, ?_⟩) (by assumption) ?_; rotate_left; (intro w hSw; (try dsimp only at hSw); go_simp; try with_reducible rfl); ((try simp only [List.getElem_toArray]); (try simp only [List.getElem_cons_succ]); (try simp only [List.getElem_cons_zero]); (try simp only [Act.put]); (try simp only [List.setIfInBounds_toArray]); (try simp only [List.set_cons_succ]); (try simp only [List.set_cons_zero])))
        (refine wpAnyH_take (i := 8) (v := ?_) rfl (by kernel_rfl) (by kernel_rfl) (by kernel_rfl) (fun _ _ _ h => h) (Or.inl ⟨by rfl, ?_⟩) (by assumption) ?_; rotate_left; (intro w hSw; (try dsimp only at hSw); go_simp; try with_reducible rfl); ((try simp only [List.getElem_toArray]); (try simp only [List.getElem_cons_succ]); (try simp only [List.getElem_cons_zero]); (try simp only [Act.put]); (try simp only [List.setIfInBounds_toArray]); (try simp only [List.set_cons_succ]); (try simp only [List.set_cons_zero])))
        (refine wpAnyH_take (i := 9) (v := ?_) rfl (by kernel_rfl) (by kernel_rfl) (by kernel_rfl) (fun _ _ _ h => h) (Or.inl ⟨by rfl, ?_⟩) (by assumption) ?_; rotate_left; (intro w hSw; (try dsimp only at hSw); go_simp; try with_reducible rfl); ((try simp only [List.getElem_toArray]); (try simp only [List.getElem_cons_succ]); (try simp only [List.getElem_cons_zero]); (try simp only [Act.put]); (try simp only [List.setIfInBounds_toArray]); (try simp only [List.set_cons_succ]); (try simp only [List.set_cons_zero])))
        refine wpAnyH_ready (rs := [10]) (by kernel_rfl) (by simp) ?_
        refine AllReadyH.cons rfl (fun K2 hK2 => ?_) AllReadyH.nil
        go_simp
        refine (ihr n _ key (by exact h4.hp rfl) (by exact hn) balr risr (by omega) inr).mono ?_
        rintro e w1 ⟨T1, rfl, i1, con1, bal1, b1⟩
        have B1 : Below w.heap.size w w1 := (Below.refl _ w).drew.trans b1
        have z1 : T1.size ≤ r.size + 1 := by
          rw [← con_len T1, con1, ← con_len r]
          exact Nat.le_succ_of_le (List.length_filter_le _ _)
        have d2 : w1.cell? ⟨b, 2, none⟩ = some (.pointer l.ptr) := (B1.cell (p := ⟨b, 2, none⟩) (World.block_lt_of_cell? w _ c2)).trans c2
        have d3 : w1.cell? ⟨b, 3, none⟩ = some (.pointer r.ptr) := (B1.cell (p := ⟨b, 3, none⟩) (World.block_lt_of_cell? w _ c3)).trans c3
        have X1 : NdAt w1 ⟨b, k, v0⟩ := (⟨lo, c0, c1, c6⟩ : NdAt w ⟨b, k, v0⟩) |> fun h => NdAt.below (w := w) h B1
        have O1 : IsTr w1.heap.size w1 l := ((h3).below (B1.mono hn)).mono (Nat.le_trans hn B1.size)
        have I1 := Lib.hid i1
        have HB1 := Lib.hid B1
        clear i1 b1 B1
        go_wp2_with fail
        refine hK2.out _ _ (by exact ⟨d2, d3⟩) (fun hq => ?_)
        clear hK2 K2
        ((try simp only [List.getElem_toArray]); (try simp only [List.getElem_cons_succ]); (try simp only [List.getElem_cons_zero]); (try simp only [Act.put]); (try simp only [List.setIfInBounds_toArray]); (try simp only [List.set_cons_succ]); (try simp only [List.set_cons_zero]))
        refine wpAnyH_ready (rs := [11]) (by kernel_rfl) (by simp) ?_
        refine AllReadyH.cons rfl (fun K2 hK2 => ?_) AllReadyH.nil
        go_simp
        refine (over_any l T1 ⟨b, k, v0⟩ w1.heap.size w1 O1 I1.out (Nat.le_refl _) X1 (by omega) ball bal1).mono ?_
        rintro e w2 ⟨T2, rfl, i2, con2, bal2, b2⟩
        have e2 : w2.cell? ⟨b, 2, none⟩ = some (.pointer l.ptr) := (b2.cell (p := ⟨b, 2, none⟩) (World.block_lt_of_cell? w1 _ d2)).trans d2
        have e3 : w2.cell? ⟨b, 3, none⟩ = some (.pointer r.ptr) := (b2.cell (p := ⟨b, 3, none⟩) (World.block_lt_of_cell? w1 _ d3)).trans d3
        have hfin : OutT w (cutL key (l.con ++ (k, v0) :: r.con)) (.returned (.pointer T2.ptr)) w2 := by
          refine ⟨T2, rfl, i2, ?_, bal2, HB1.out.trans (b2.mono HB1.out.size)⟩
          rw [con2, con1, cutL_gt q2 hlk]
        have HFIN := Lib.hid hfin
        clear hfin i2 b2
        go_wp2_with fail
        refine hK2.out _ _ (by exact ⟨e2, e3⟩) (fun hq => ?_)
        clear hK2 K2
        ((try simp only [List.getElem_toArray]); (try simp only [List.getElem_cons_succ]); (try simp only [List.getElem_cons_zero]); (try simp only [Act.put]); (try simp only [List.setIfInBounds_toArray]); (try simp only [List.set_cons_succ]); (try simp only [List.set_cons_zero]))
        (refine wpAnyH_take (i := 12) (v := ?_) rfl (by kernel_rfl) (by kernel_rfl) (by kernel_rfl) (fun _ _ _ h => h) (Or.inl ⟨by rfl, ?_⟩) (by assumption) ?_; rotate_left; (intro w hSw; (try dsimp only at hSw); go_simp; try with_reducible rfl); ((try simp only [List.getElem_toArray]); (try simp only [List.getElem_cons_succ]); (try simp only [List.getElem_cons_zero]); (try simp only [Act.put]); (try simp only [List.setIfInBounds_toArray]); (try simp only [List.set_cons_succ]); (try simp only [List.set_cons_zero])))
        refine wpAnyH_done (by kernel_rfl) ?_ _
        go_wp2_with fail
        go_ret
        exact HFIN.out
      | false =>
        have hke : key = k := by
          apply Classical.byContradiction
          intro hne
          rcases kl_total hne with h | h
          · rw [h] at q1; cases q1
          · rw [h] at q2; cases q2
        have q3 : (key.toList == k.toList) = true := by rw [hke]; simp
        have HKE := Lib.hid hke
        clear hke inl inr
        go_wp2_with fail
        refine wp_region_held_drew (S := fun X => X.cell? ⟨b, 2, none⟩ = some (.pointer l.ptr) ∧ X.cell? ⟨b, 3, none⟩ = some (.pointer r.ptr)) (by kernel_rfl) (by exact ⟨c2, c3⟩) (fun _ => ?_)
        (refine wpAnyH_take (i := 0) (v := ?_) rfl (by kernel_rfl) (by kernel_rfl) (by kernel_rfl) (fun _ _ _ h => h) (Or.inl ⟨by rfl, ?_⟩) (by assumption) ?_; rotate_left; (intro w hSw; (try dsimp only at hSw); go_simp; try with_reducible rfl); ((try simp only [List.getElem_toArray]); (try simp only [List.getElem_cons_succ]); (try simp only [List.getElem_cons_zero]); (try simp only [Act.put]); (try simp only [List.setIfInBounds_toArray]); (try simp only [List.set_cons_succ]); (try simp only [List.set_cons_zero])))
        (refine wpAnyH_take (i := 1) (v := ?_) rfl (by kernel_rfl) (by kernel_rfl) (by kernel_rfl) (fun _ _ _ h => h) (Or.inl ⟨by rfl, ?_⟩) (by assumption) ?_; rotate_left; (intro w hSw; (try dsimp only at hSw); go_simp; try with_reducible rfl); ((try simp only [List.getElem_toArray]); (try simp only [List.getElem_cons_succ]); (try simp only [List.getElem_cons_zero]); (try simp only [Act.put]); (try simp only [List.setIfInBounds_toArray]); (try simp only [List.set_cons_succ]); (try simp only [List.set_cons_zero])))
        (refine wpAnyH_take (i := 2) (v := ?_) rfl (by kernel_rfl) (by kernel_rfl) (by kernel_rfl) (fun _ _ _ h => h) (Or.inl ⟨by rfl, ?_⟩) (by assumption) ?_; rotate_left; (intro w hSw; (try dsimp only at hSw); go_simp; try with_reducible rfl); ((try simp only [List.getElem_toArray]); (try simp only [List.getElem_cons_succ]); (try simp only [List.getElem_cons_zero]); (try simp only [Act.put]); (try simp only [List.setIfInBounds_toArray]); (try simp only [List.set_cons_succ]); (try simp only [List.set_cons_zero])))
        (refine wpAnyH_take (i := 3) (v := ?_) rfl (by kernel_rfl) (by kernel_rfl) (by kernel_rfl) (fun _ _ _ h => h) (Or.inl ⟨by rfl, ?_⟩) (by assumption) ?_; rotate_left; (intro w hSw; (try dsimp only at hSw); go_simp; try with_reducible rfl); ((try simp only [List.getElem_toArray]); (try simp only [List.getElem_cons_succ]); (try simp only [List.getElem_cons_zero]); (try simp only [Act.put]); (try simp only [List.setIfInBounds_toArray]); (try simp only [List.set_cons_succ]); (try simp only [List.set_cons_zero])))
        (refine wpAnyH_take (i := 5) (v := ?_) rfl (by kernel_rfl) (by kernel_rfl) (by kernel_rfl) (fun _ _ _ h => h) (Or.inl ⟨by rfl, ?_⟩) (by assumption) ?_; rotate_left; (intro w hSw; (try dsimp only at hSw); go_simp; try with_reducible rfl); ((try simp only [List.getElem_toArray]); (try simp only [List.getElem_cons_succ]); (try simp only [List.getElem_cons_zero]); (try simp only [Act.put]); (try simp only [List.setIfInBounds_toArray]); (try simp only [List.set_cons_succ]); (try simp only [List.set_cons_zero])))
        (refine wpAnyH_take (i := 6) (v := ?_) rfl (by kernel_rfl) (by kernel_rfl) (by kernel_rfl) (fun _ _ _ h => h) (Or.inl ⟨by rfl, ?_⟩) (by assumption) ?_; rotate_left; (intro w hSw; (try dsimp only at hSw); go_simp; try with_reducible rfl); ((try simp only [List.getElem_toArray]); (try simp only [List.getElem_cons_succ]); (try simp only [List.getElem_cons_zero]); (try simp only [Act.put]); (try simp only [List.setIfInBounds_toArray]); (try simp only [List.set_cons_succ]); (try simp only [List.set_cons_zero])))
        (refine wpAnyH_take (i := 7) (v := ?_) rfl (by kernel_rfl) (by kernel_rfl) (by kernel_rfl) (fun _ _ _ h => h) (Or.inl ⟨by rfl, ?_⟩) (by assumption) ?_; rotate_left; (intro w hSw; (try dsimp only at hSw); go_simp; try with_reducible rfl); ((try simp only [List.getElem_toArray]); (try simp only [List.getElem_cons_succ]); (try simp only [List.getElem_cons_zero]); (try simp only [Act.put]); (try simp only [List.setIfInBounds_toArray]); (try simp only [List.set_cons_succ]); (try simp only [List.set_cons_zero])))
        (refine wpAnyH_take (i := 8) (v := ?_) rfl (by kernel_rfl) (by kernel_rfl) (by kernel_rfl) (fun _ _ _ h => h) (Or.inl ⟨by rfl, ?_⟩) (by assumption) ?_; rotate_left; (intro w hSw; (try dsimp only at hSw); go_simp; try with_reducible rfl); ((try simp only [List.getElem_toArray]); (try simp only [List.getElem_cons_succ]); (try simp only [List.getElem_cons_zero]); (try simp only [Act.put]); (try simp only [List.setIfInBounds_toArray]); (try simp only [List.set_cons_succ]); (try simp only [List.set_cons_zero])))
        refine wpAnyH_ready (rs := [4]) (by kernel_rfl) (by simp) ?_
        refine AllReadyH.cons rfl (fun K2 hK2 => ?_) AllReadyH.nil
        go_simp
        refine (gather_any l n w.heap.size _ (.slice none 0 0) [] (by exact h3.hp rfl) hn (by exact Nat.le_refl _) (ownP_nil _ _) (by simp; omega)).mono ?_
        rintro e w1 ⟨v1, rfl, o1⟩
        rw [List.nil_append] at o1
        have B1 : Below w.heap.size w w1 := (Below.refl _ w).drew.trans (o1.below (ownP_nil _ _) (by exact Nat.le_refl _))
        obtain ⟨A1, m1, k1, rfl, -⟩ := ownP_row o1.1
        have O1 := Lib.hid o1.1
        clear o1
        have d2 : w1.cell? ⟨b, 2, none⟩ = some (.pointer l.ptr) := (B1.cell (p := ⟨b, 2, none⟩) (World.block_lt_of_cell? w _ c2)).trans c2
        have d3 : w1.cell? ⟨b, 3, none⟩ = some (.pointer r.ptr) := (B1.cell (p := ⟨b, 3, none⟩) (World.block_lt_of_cell? w _ c3)).trans c3
        go_wp2_with fail
        refine hK2.out _ _ (by exact ⟨d2, d3⟩) (fun hq => ?_)
        clear hK2 K2
        ((try simp only [List.getElem_toArray]); (try simp only [List.getElem_cons_succ]); (try simp only [List.getElem_cons_zero]); (try simp only [Act.put]); (try simp only [List.setIfInBounds_toArray]); (try simp only [List.set_cons_succ]); (try simp only [List.set_cons_zero]))
        refine wpAnyH_ready (rs := [9]) (by kernel_rfl) (by simp) ?_
        refine AllReadyH.cons rfl (fun K2 hK2 => ?_) AllReadyH.nil
        go_simp
        refine (gather_any r n w.heap.size w1 (.slice A1 m1 k1) l.nds (h4.below (B1.mono hn)) hn B1.size O1.out (by rw [nds_len]; omega)).mono ?_
        rintro e w2 ⟨v2, rfl, o2⟩
        have B2 : Below w.heap.size w w2 := B1.trans (o2.below O1.out B1.size)
        obtain ⟨A2, m2, k2, rfl, f1, f2, f3, f4, -⟩ := ownP_row o2.1
        have hx2 : ∀ y ∈ l.nds ++ r.nds, NdAt w2 y := by
          intro y hy
          rcases List.mem_append.1 hy with hy | hy
          · exact (nds_at h3 y hy).below B2
          · exact (nds_at h4 y hy).below B2
        have HB := Lib.hid (build_any m2 _ w2 A2 m2 k2 (by omega) f1 f2 f3 f4 hx2 (by rw [← f1, List.length_append, nds_len, nds_len]; omega))
        have e2 : w2.cell? ⟨b, 2, none⟩ = some (.pointer l.ptr) := (B2.cell (p := ⟨b, 2, none⟩) (World.block_lt_of_cell? w _ c2)).trans c2
        have e3 : w2.cell? ⟨b, 3, none⟩ = some (.pointer r.ptr) := (B2.cell (p := ⟨b, 3, none⟩) (World.block_lt_of_cell? w _ c3)).trans c3
        clear o2 f4 hx2
        go_wp2_with fail
        refine hK2.out _ _ (by exact ⟨e2, e3⟩) (fun hq => ?_)
        clear hK2 K2
        ((try simp only [List.getElem_toArray]); (try simp only [List.getElem_cons_succ]); (try simp only [List.getElem_cons_zero]); (try simp only [Act.put]); (try simp only [List.setIfInBounds_toArray]); (try simp only [List.set_cons_succ]); (try simp only [List.set_cons_zero]))
        refine wpAnyH_ready (rs := [10]) (by kernel_rfl) (by simp) ?_
        refine AllReadyH.cons rfl (fun K2 hK2 => ?_) AllReadyH.nil
        go_simp
        refine HB.out.mono ?_
        rintro e w3 ⟨T3, rfl, i3, con3, bal3, b3⟩
        have g2 : w3.cell? ⟨b, 2, none⟩ = some (.pointer l.ptr) := (b3.cell (p := ⟨b, 2, none⟩) (World.block_lt_of_cell? w2 _ e2)).trans e2
        have g3 : w3.cell? ⟨b, 3, none⟩ = some (.pointer r.ptr) := (b3.cell (p := ⟨b, 3, none⟩) (World.block_lt_of_cell? w2 _ e3)).trans e3
        have hfin : OutT w (cutL key (l.con ++ (k, v0) :: r.con)) (.returned (.pointer T3.ptr)) w3 := by
          refine ⟨T3, rfl, i3, ?_, bal3, B2.trans (b3.mono B2.size)⟩
          rw [con3, conL_app, conL_nds, conL_nds, HKE.out, cutL_eq hlk hkr]
        have HFIN := Lib.hid hfin
        clear hfin i3 b3
        go_wp2_with fail
        refine hK2.out _ _ (by exact ⟨g2, g3⟩) (fun hq => ?_)
        clear hK2 K2
        ((try simp only [List.getElem_toArray]); (try simp only [List.getElem_cons_succ]); (try simp only [List.getElem_cons_zero]); (try simp only [Act.put]); (try simp only [List.setIfInBounds_toArray]); (try simp only [List.set_cons_succ]); (try simp only [List.set_cons_zero]))
        (refine wpAnyH_take (i := 11) (v := ?_) rfl (by kernel_rfl) (by kernel_rfl) (by kernel_rfl) (fun _ _ _ h => h) (Or.inl ⟨by rfl, ?_⟩) (by assumption) ?_; rotate_left; (intro w hSw; (try dsimp only at hSw); go_simp; try with_reducible rfl); ((try simp only [List.getElem_toArray]); (try simp only [List.getElem_cons_succ]); (try simp only [List.getElem_cons_zero]); (try simp only [Act.put]); (try simp only [List.setIfInBounds_toArray]); (try simp only [List.set_cons_succ]); (try simp only [List.set_cons_zero])))
        refine wpAnyH_done (by kernel_rfl) ?_ _
        go_wp2_with fail
        go_ret
        exact HFIN.out
end Go.Proofs.YtcdjeibcnkpadaaDoor
