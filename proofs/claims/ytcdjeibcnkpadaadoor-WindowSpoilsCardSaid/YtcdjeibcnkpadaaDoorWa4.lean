/-
  Put together: put, find, a tree as it lies.
-/
import Derived.Test.YtcdjeibcnkpadaaDoorWa3
import Derived.WideAt
import Derived.Test.YtcdjeibcnkpadaaDoorWa2
namespace Go.Proofs.YtcdjeibcnkpadaaDoor
open Go.RowKit Go.Maps Dg Go.WideShapes
set_option linter.unusedVariables false
theorem less_before' : ∀ a b : List UInt8, Op.bytesLess a b = bytesBefore a b
  | [], [] => rfl
  | [], _ :: _ => rfl
  | _ :: _, [] => rfl
  | x :: a, y :: b => by
    show (x < y || (x == y && Op.bytesLess a b)) = (x < y || (x == y && bytesBefore a b))
    rw [less_before' a b]
theorem toList_inj {a b : ByteArray} (h : a.toList = b.toList) : a = b := by
  rw [ByteArray.toList_eq, ByteArray.toList_eq] at h
  obtain ⟨⟨a⟩⟩ := a
  obtain ⟨⟨b⟩⟩ := b
  simpa using h
theorem kl_irrefl (a : ByteArray) : kl a a = false := by unfold kl; rw [less_before']; exact WideAt.bytes_irrefl _
theorem kl_trans {a b c : ByteArray} (h : kl a b = true) (k : kl b c = true) : kl a c = true := by
  unfold kl at *
  rw [less_before'] at *
  exact bytes_trans _ _ _ h k
theorem kl_total {a b : ByteArray} (h : a ≠ b) : kl a b = true ∨ kl b a = true := by
  unfold kl
  rw [less_before', less_before']
  exact WideAt.bytes_total _ _ fun e => h (toList_inj e)
theorem kl_asymm {a b : ByteArray} (h : kl a b = true) : kl b a = false := by
  cases k : kl b a with
  | false => rfl
  | true => have := kl_trans h k; rw [kl_irrefl] at this; cases this
theorem eq_iff {a b : ByteArray} : (a.toList == b.toList) = true ↔ a = b := ⟨fun h => toList_inj (by simpa using h), fun h => by rw [h]; simp⟩
section
variable {α : Type}
/-- Keys rise. -/
def Rises : List (ByteArray × α) → Prop
  | [] => True
  | x :: r => (∀ y ∈ r, kl x.1 y.1 = true) ∧ Rises r
theorem Rises.app {a b : List (ByteArray × α)} : Rises (a ++ b) ↔ Rises a ∧ Rises b ∧ ∀ x ∈ a, ∀ y ∈ b, kl x.1 y.1 = true := by
  induction a with
  | nil => simp [Rises]
  | cons x a ih =>
    simp only [List.cons_append, Rises, ih, List.mem_append, List.mem_cons]
    constructor
    · rintro ⟨h1, h2, h3, h4⟩
      exact ⟨⟨fun y hy => h1 y (.inl hy), h2⟩, h3, fun z hz y hy => hz.elim (fun e => by rw [e]; exact h1 y (.inr hy)) (fun hz => h4 z hz y hy)⟩
    · rintro ⟨⟨h1, h2⟩, h3, h4⟩
      exact ⟨fun y hy => hy.elim (h1 y) (fun hy => h4 x (.inl rfl) y hy), h2, h3, fun z hz y hy => h4 z (.inr hz) y hy⟩
/-- A thing is put at a key. -/
def putL (k : ByteArray) (v : α) : List (ByteArray × α) → List (ByteArray × α)
  | [] => [(k, v)]
  | x :: r => if kl k x.1 then (k, v) :: x :: r else if kl x.1 k then x :: putL k v r else (k, v) :: r
/-- A key is cut. -/
def cutL (k : ByteArray) (l : List (ByteArray × α)) : List (ByteArray × α) := l.filter fun x => !(x.1.toList == k.toList)
/-- What stands at a key. -/
def getL (k : ByteArray) (l : List (ByteArray × α)) : Option α := (l.find? fun x => x.1.toList == k.toList).map (·.2)
theorem putL_lt {k : ByteArray} {v : α} {x : ByteArray × α} {r : List (ByteArray × α)} (h : kl k x.1 = true) : ∀ l, putL k v (l ++ x :: r) = putL k v l ++ x :: r
  | [] => by simp [putL, h]
  | y :: l => by
    simp only [List.cons_append, putL]
    split
    · rfl
    · split
      · rw [putL_lt h l]; rfl
      · rfl
theorem putL_gt {k : ByteArray} {v : α} {x : ByteArray × α} {r : List (ByteArray × α)} (h : kl x.1 k = true) : ∀ l, (∀ y ∈ l, kl y.1 x.1 = true) → putL k v (l ++ x :: r) = l ++ x :: putL k v r
  | [], _ => by simp [putL, h, kl_asymm h]
  | y :: l, hl => by
    have hy := kl_trans (hl y List.mem_cons_self) h
    simp only [List.cons_append, putL, hy, kl_asymm hy, if_true]
    rw [putL_gt h l fun z hz => hl z (List.mem_cons_of_mem _ hz)]
    simp
theorem putL_eq {k : ByteArray} {v u : α} {r : List (ByteArray × α)} : ∀ l, (∀ y ∈ l, kl y.1 k = true) → putL k v (l ++ (k, u) :: r) = l ++ (k, v) :: r
  | [], _ => by simp [putL, kl_irrefl]
  | y :: l, hl => by
    have hy := hl y List.mem_cons_self
    simp only [List.cons_append, putL, hy, kl_asymm hy, if_true]
    rw [putL_eq l fun z hz => hl z (List.mem_cons_of_mem _ hz)]
    simp
theorem putL_mem {k : ByteArray} {v : α} : ∀ {l : List (ByteArray × α)} {y}, y ∈ putL k v l → y.1 = k ∨ y ∈ l
  | [], y, h => by simp [putL] at h; exact .inl (by rw [h])
  | x :: l, y, h => by
    unfold putL at h
    split at h
    · rcases List.mem_cons.1 h with h | h
      · exact .inl (by rw [h])
      · exact .inr h
    · split at h
      · rcases List.mem_cons.1 h with h | h
        · exact .inr (by rw [h]; exact List.mem_cons_self)
        · exact (putL_mem h).imp id (List.mem_cons_of_mem _)
      · rcases List.mem_cons.1 h with h | h
        · exact .inl (by rw [h])
        · exact .inr (List.mem_cons_of_mem _ h)
theorem putL_rises {k : ByteArray} {v : α} : ∀ {l : List (ByteArray × α)}, Rises l → Rises (putL k v l)
  | [], _ => ⟨fun y hy => (by cases hy), trivial⟩
  | x :: l, ⟨h1, h2⟩ => by
    unfold putL
    split
    · rename_i hk
      exact ⟨fun y hy => (List.mem_cons.1 hy).elim (fun e => by rw [e]; exact hk) (fun hy => kl_trans hk (h1 y hy)), h1, h2⟩
    · split
      · rename_i _ hk
        exact ⟨fun y hy => (putL_mem hy).elim (fun e => by rw [e]; exact hk) (h1 y), putL_rises h2⟩
      · rename_i hk1 hk2
        have e : x.1 = k := by
          apply Classical.byContradiction
          intro hne
          rcases kl_total hne with h | h
          · exact hk2 h
          · exact hk1 h
        exact ⟨fun y hy => by rw [← e]; exact h1 y hy, h2⟩
theorem putL_len {k : ByteArray} {v : α} : ∀ (l : List (ByteArray × α)), (putL k v l).length ≤ l.length + 1
  | [] => by simp [putL]
  | x :: l => by
    unfold putL
    have := putL_len (k := k) (v := v) l
    split
    · simp
    · split
      · simp; omega
      · simp
end
end Go.Proofs.YtcdjeibcnkpadaaDoor
namespace Go.Proofs.YtcdjeibcnkpadaaDoor
open Go.RowKit Go.Maps Dg
set_option linter.unusedVariables false
set_option maxHeartbeats 4000000 in
set_option maxRecDepth 100000 in
theorem put_any (T : Tr) : ∀ (n : Nat) (w : World) (x : Nd) (lo1 le1 : Int), IsTr n w T → n ≤ w.heap.size → IsTr n w (.node x.b .nil x.k x.v lo1 le1 .nil) → Bal T → Rises T.con → T.size ≤ 90000 →
    Calls Tryd.prog 76 #[.pointer T.ptr, .pointer (some ⟨x.b, 0, none⟩)] w fun e w' => OutT w (putL x.k x.v T.con) e w' := by
  induction T with
  | nil =>
    intro n w x lo1 le1 hT hn hone hB hR hz
    have hp : (Tr.nil).ptr = none := rfl
    rw [hp]
    have hfin : OutT w (putL x.k x.v (Tr.nil).con) (.returned (.pointer (some ⟨x.b, 0, none⟩))) w := ⟨.node x.b .nil x.k x.v lo1 le1 .nil, rfl, hone.mono hn, rfl, ⟨by decide, by decide, trivial, trivial⟩, Below.refl _ _⟩
    have HFIN := Lib.hid hfin
    clear hfin hone
    go_enter Tryd.func76, Tryd.ntmps76
    go_wp2_with fail
    go_ret
    exact HFIN.out
  | node b l k v0 lo le r ihl ihr =>
    intro n w x lo1 le1 hT hn hone hB hR hz
    obtain ⟨h1, h2, h3, h4⟩ := hT
    obtain ⟨p1, p2, ball, balr⟩ := hB
    obtain ⟨risl, hR2, hR3⟩ := Rises.app.1 hR
    obtain ⟨hkr, risr⟩ := hR2
    have hlk : ∀ y ∈ l.con, kl y.1 k = true := fun y hy => hR3 y hy (k, v0) List.mem_cons_self
    have hp : (Tr.node b l k v0 lo le r).ptr = some ⟨b, 0, none⟩ := rfl
    have hsz : (Tr.node b l k v0 lo le r).size = l.size + 1 + r.size := rfl
    have hcon : (Tr.node b l k v0 lo le r).con = l.con ++ (k, v0) :: r.con := rfl
    rw [hp, hcon]
    rw [hsz] at hz
    have c0 : w.cell? ⟨b, 0, none⟩ = some (.string k) := h2.cell 0
    have c1 : w.cell? ⟨b, 1, none⟩ = some (.slice v0.a v0.n v0.c) := h2.cell 1
    have c2 : w.cell? ⟨b, 2, none⟩ = some (.pointer l.ptr) := h2.cell 2
    have c3 : w.cell? ⟨b, 3, none⟩ = some (.pointer r.ptr) := h2.cell 3
    have c6 : w.cell? ⟨b, 6, none⟩ = some (.int .i64 lo) := h2.cell 6
    have x0 : w.cell? ⟨x.b, 0, none⟩ = some (.string x.k) := hone.2.1.cell 0
    have x1 : w.cell? ⟨x.b, 1, none⟩ = some (.slice x.v.a x.v.n x.v.c) := hone.2.1.cell 1
    have x6 : w.cell? ⟨x.b, 6, none⟩ = some (.int .i64 lo1) := hone.2.1.cell 6
    clear hR hR3 h2
    go_enter Tryd.func76, Tryd.ntmps76
    cases q1 : kl x.k k with
    | true =>
      have q1' : Op.bytesLess x.k.toList k.toList = true := q1
      go_wp2_with fail
      go_region_held3 (fun X => X.cell? ⟨x.b, 0, none⟩ = some (.string x.k) ∧ X.cell? ⟨b, 0, none⟩ = some (.string k)) (exact ⟨x0, c0⟩) (first | fail)
      go_wp2_with fail
      refine wp_region_held_drew (S := fun X => X.cell? ⟨b, 2, none⟩ = some (.pointer l.ptr) ∧ X.cell? ⟨b, 3, none⟩ = some (.pointer r.ptr)) (by kernel_rfl) (by exact ⟨c2, c3⟩) (fun _ => ?_)
      (refine wpAnyH_take (i := 0) (v := ?_) rfl (by kernel_rfl) (by kernel_rfl) (by kernel_rfl) (fun _ _ _ h => h) (Or.inl ⟨by rfl, ?_⟩) (by assumption) ?_; rotate_left; (intro w hSw; (try dsimp only at hSw); go_simp; try with_reducible rfl); ((try simp only [List.getElem_toArray]); (try simp only [List.getElem_cons_succ]); (try simp only [List.getElem_cons_zero]); (try simp only [Act.put]); (try simp only [List.setIfInBounds_toArray]); (try simp only [List.set_cons_succ]); (try simp only [List.set_cons_zero])))
      (refine wpAnyH_take (i := 1) (v := ?_) rfl (by kernel_rfl) (by kernel_rfl) (by kernel_rfl) (fun _ _ _ h => h) (Or.inl ⟨by rfl, ?_⟩) (by assumption) ?_; rotate_left; (intro w hSw; (try dsimp only at hSw); go_simp; try with_reducible rfl); ((try simp only [List.getElem_toArray]); (try simp only [List.getElem_cons_succ]); (try simp only [List.getElem_cons_zero]); (try simp only [Act.put]); (try simp only [List.setIfInBounds_toArray]); (try simp only [List.set_cons_succ]); (try simp only [List.set_cons_zero])))
      (refine wpAnyH_take (i := 2) (v := ?_) rfl (by kernel_rfl) (by kernel_rfl) (by kernel_rfl) (fun _ _ _ h => h) (Or.inl ⟨by rfl, ?_⟩) (by assumption) ?_; rotate_left; (intro w hSw; (try dsimp only at hSw); go_simp; try with_reducible rfl); ((try simp only [List.getElem_toArray]); (try simp only [List.getElem_cons_succ]); (try simp only [List.getElem_cons_zero]); (try simp only [Act.put]); (try simp only [List.setIfInBounds_toArray]); (try simp only [List.set_cons_succ]); (try simp only [List.set_cons_zero])))
      (refine wpAnyH_take (i := 3) (v := ?_) rfl (by kernel_rfl) (by kernel_rfl) (by kernel_rfl) (fun _ _ _ h => h) (Or.inl ⟨by rfl, ?_⟩) (by assumption) ?_; rotate_left; (intro w hSw; (try dsimp only at hSw); go_simp; try with_reducible rfl); ((try simp only [List.getElem_toArray]); (try simp only [List.getElem_cons_succ]); (try simp only [List.getElem_cons_zero]); (try simp only [Act.put]); (try simp only [List.setIfInBounds_toArray]); (try simp only [List.set_cons_succ]); (try simp only [List.set_cons_zero])))
      (refine wpAnyH_take (i := 4) (v := ?_) rfl (by kernel_rfl) (by kernel_rfl) (by kernel_rfl) (fun _ _ _ h => h) (Or.inl ⟨by rfl, ?_⟩) (by assumption) ?_; rotate_left; (intro w hSw; (try dsimp only at hSw); go_simp; try with_reducible rfl); ((try simp only [List.getElem_toArray]); (try simp only [List.getElem_cons_succ]); (try simp only [List.getElem_cons_zero]); (try simp only [Act.put]); (try simp only [List.setIfInBounds_toArray]); (try simp only [List.set_cons_succ]); (try simp only [List.set_cons_zero])))
      (refine wpAnyH_take (i := 6) (v := ?_) rfl (by kernel_rfl) (by kernel_rfl) (by kernel_rfl) (fun _ _ _ h => h) (Or.inl ⟨by rfl, ?_⟩) (by assumption) ?_; rotate_left; (intro w hSw; (try dsimp only at hSw); go_simp; try with_reducible rfl); ((try simp only [List.getElem_toArray]); (try simp only [List.getElem_cons_succ]); (try simp only [List.getElem_cons_zero]); (try simp only [Act.put]); (try simp only [List.setIfInBounds_toArray]); (try simp only [List.set_cons_succ]); (try simp only [List.set_cons_zero])))
      (refine wpAnyH_take (i := 7) (v := ?_) rfl (by kernel_rfl) (by kernel_rfl) (by kernel_rfl) (fun _ _ _ h => h) (Or.inl ⟨by rfl, ?_⟩) (by assumption) ?_; rotate_left; (intro w hSw; (try dsimp only at hSw); go_simp; try with_reducible rfl); ((try simp only [List.getElem_toArray]); (try simp only [List.getElem_cons_succ]); (try simp only [List.getElem_cons_zero]); (try simp only [Act.put]); (try simp only [List.setIfInBounds_toArray]); (try simp only [List.set_cons_succ]); (try simp only [List.set_cons_zero])))
      (refine wpAnyH_take (i := 8) (v := ?_) rfl (by kernel_rfl) (by kernel_rfl) (by kernel_rfl) (fun _ _ _ h => h) (Or.inl ⟨by rfl, ?_⟩) (by assumption) ?_; rotate_left; (intro w hSw; (try dsimp only at hSw); go_simp; try with_reducible rfl); ((try simp only [List.getElem_toArray]); (try simp only [List.getElem_cons_succ]); (try simp only [List.getElem_cons_zero]); (try simp only [Act.put]); (try simp only [List.setIfInBounds_toArray]); (try simp only [List.set_cons_succ]); (try simp only [List.set_cons_zero])))
      (refine wpAnyH_take (i := 9) (v := ?_) rfl (by kernel_rfl) (by kernel_rfl) (by kernel_rfl) (fun _ _ _ h => h) (Or.inl ⟨by rfl, ?_⟩) (by assumption) ?_; rotate_left; (intro w hSw; (try dsimp only at hSw); go_simp; try with_reducible rfl); ((try simp only [List.getElem_toArray]); (try simp only [List.getElem_cons_succ]); (try simp only [List.getElem_cons_zero]); (try simp only [Act.put]); (try simp only [List.setIfInBounds_toArray]); (try simp only [List.set_cons_succ]); (try simp only [List.set_cons_zero])))
      (refine wpAnyH_take (i := 10) (v := ?_) rfl (by kernel_rfl) (by kernel_rfl) (by kernel_rfl) (fun _ _ _ h => h) (Or.inl ⟨by rfl, ?_⟩) (by assumption) ?_; rotate_left; (intro w hSw; (try dsimp only at hSw); go_simp; try with_reducible rfl); ((try simp only [List.getElem_toArray]); (try simp only [List.getElem_cons_succ]); (try simp only [List.getElem_cons_zero]); (try simp only [Act.put]); (try simp only [List.setIfInBounds_toArray]); (try simp only [List.set_cons_succ]); (try simp only [List.set_cons_zero])))
      refine wpAnyH_ready (rs := [5]) (by kernel_rfl) (by simp) ?_
      refine AllReadyH.cons rfl (fun K2 hK2 => ?_) AllReadyH.nil
      go_simp
      refine (ihl n _ x lo1 le1 (by exact h3.hp rfl) (by exact hn) (by exact hone.hp rfl) ball risl (by omega)).mono ?_
      rintro e w1 ⟨T1, rfl, i1, con1, bal1, b1⟩
      have B1 : Below w.heap.size w w1 := (Below.refl _ w).drew.drew.trans b1
      have z1 : T1.size ≤ l.size + 1 := by
        rw [← con_len T1, con1, ← con_len l]
        exact putL_len _
      have d2 : w1.cell? ⟨b, 2, none⟩ = some (.pointer l.ptr) := (B1.cell (p := ⟨b, 2, none⟩) (World.block_lt_of_cell? w _ c2)).trans c2
      have d3 : w1.cell? ⟨b, 3, none⟩ = some (.pointer r.ptr) := (B1.cell (p := ⟨b, 3, none⟩) (World.block_lt_of_cell? w _ c3)).trans c3
      have X1 : NdAt w1 ⟨b, k, v0⟩ := (⟨lo, c0, c1, c6⟩ : NdAt w ⟨b, k, v0⟩) |> fun h => NdAt.below (w := w) h B1
      have O1 : IsTr w1.heap.size w1 r := ((h4).below (B1.mono hn)).mono (Nat.le_trans hn B1.size)
      have I1 := Lib.hid i1
      have HB1 := Lib.hid B1
      clear i1 b1 B1
      go_wp2_with fail
      refine hK2.out _ _ (by exact ⟨d2, d3⟩) (fun hq => ?_)
      clear hK2 K2
      ((try simp only [List.getElem_toArray]); (try simp only [List.getElem_cons_succ]); (try simp only [List.getElem_cons_zero]); (try simp only [Act.put]); (try simp only [List.setIfInBounds_toArray]); (try simp only [List.set_cons_succ]); (try simp only [List.set_cons_zero]))
      refine wpAnyH_ready (rs := [11]) (by kernel_rfl) (by simp) ?_
      refine AllReadyH.cons rfl (fun K2 hK2 => ?_) AllReadyH.nil
      go_simp
      refine (over_any T1 r ⟨b, k, v0⟩ w1.heap.size w1 I1.out O1 (Nat.le_refl _) X1 (by omega) bal1 balr).mono ?_
      rintro e w2 ⟨T2, rfl, i2, con2, bal2, b2⟩
      have e2 : w2.cell? ⟨b, 2, none⟩ = some (.pointer l.ptr) := (b2.cell (p := ⟨b, 2, none⟩) (World.block_lt_of_cell? w1 _ d2)).trans d2
      have e3 : w2.cell? ⟨b, 3, none⟩ = some (.pointer r.ptr) := (b2.cell (p := ⟨b, 3, none⟩) (World.block_lt_of_cell? w1 _ d3)).trans d3
      have hfin : OutT w (putL x.k x.v (l.con ++ (k, v0) :: r.con)) (.returned (.pointer T2.ptr)) w2 := by
        refine ⟨T2, rfl, i2, ?_, bal2, HB1.out.trans (b2.mono HB1.out.size)⟩
        rw [con2, con1, putL_lt q1]
      have HFIN := Lib.hid hfin
      clear hfin i2 b2
      go_wp2_with fail
      refine hK2.out _ _ (by exact ⟨e2, e3⟩) (fun hq => ?_)
      clear hK2 K2
      ((try simp only [List.getElem_toArray]); (try simp only [List.getElem_cons_succ]); (try simp only [List.getElem_cons_zero]); (try simp only [Act.put]); (try simp only [List.setIfInBounds_toArray]); (try simp only [List.set_cons_succ]); (try simp only [List.set_cons_zero]))
      (refine wpAnyH_take (i := 12) (v := ?_) rfl (by kernel_rfl) (by kernel_rfl) (by kernel_rfl) (fun _ _ _ h => h) (Or.inl ⟨by rfl, ?_⟩) (by assumption) ?_; rotate_left; (intro w hSw; (try dsimp only at hSw); go_simp; try with_reducible rfl); ((try simp only [List.getElem_toArray]); (try simp only [List.getElem_cons_succ]); (try simp only [List.getElem_cons_zero]); (try simp only [Act.put]); (try simp only [List.setIfInBounds_toArray]); (try simp only [List.set_cons_succ]); (try simp only [List.set_cons_zero])))
      refine wpAnyH_done (by kernel_rfl) ?_ _
      go_wp2_with fail
      go_ret
      exact HFIN.out
    | false =>
      have q1' : Op.bytesLess x.k.toList k.toList = false := q1
      cases q2 : kl k x.k with
      | true =>
        have q3 : (x.k.toList == k.toList) = false := by
          cases q3 : (x.k.toList == k.toList) with
          | false => rfl
          | true => rw [eq_iff.1 q3, kl_irrefl] at q2; cases q2
        go_wp2_with fail
        go_region_held3 (fun X => X.cell? ⟨x.b, 0, none⟩ = some (.string x.k) ∧ X.cell? ⟨b, 0, none⟩ = some (.string k)) (exact ⟨x0, c0⟩) (first | fail)
        go_wp2_with fail
        go_region_held3 (fun X => X.cell? ⟨x.b, 0, none⟩ = some (.string x.k) ∧ X.cell? ⟨b, 0, none⟩ = some (.string k)) (exact ⟨x0, c0⟩) (first | fail)
        go_wp2_with fail
        refine wp_region_held_drew (S := fun X => X.cell? ⟨b, 2, none⟩ = some (.pointer l.ptr) ∧ X.cell? ⟨b, 3, none⟩ = some (.pointer r.ptr)) (by kernel_rfl) (by exact ⟨c2, c3⟩) (fun _ => ?_)
        (refine wpAnyH_take (i := 0) (v := ?_) rfl (by kernel_rfl) (by kernel_rfl) (by kernel_rfl) (fun _ _ _ h => h) (Or.inl ⟨by rfl, ?_⟩) (by assumption) ?_; rotate_left; (intro w hSw; (try dsimp only at hSw); go_simp; try with_reducible rfl); ((try simp only [List.getElem_toArray]); (try simp only [List.getElem_cons_succ]); (try simp only [List.getElem_cons_zero]); (try simp only [Act.put]); (try simp only [List.setIfInBounds_toArray]); (try simp only [List.set_cons_succ]); (try simp only [List.set_cons_zero])))
        (refine wpAnyH_take (i := 1) (v := ?_) rfl (by kernel_rfl) (by kernel_rfl) (by kernel_rfl) (fun _ _ _ h => h) (Or.inl ⟨by rfl, ?_⟩) (by assumption) ?_; rotate_left; (intro w hSw; (try dsimp only at hSw); go_simp; try with_reducible rfl); ((try simp only [List.getElem_toArray]); (try simp only [List.getElem_cons_succ]); (try simp only [List.getElem_cons_zero]); (try simp only [Act.put]); (try simp only [List.setIfInBounds_toArray]); (try simp only [List.set_cons_succ]); (try simp only [List.set_cons_zero])))
        (refine wpAnyH_take (i := 2) (v := ?_) rfl (by kernel_rfl) (by kernel_rfl) (by kernel_rfl) (fun _ _ _ h => h) (Or.inl ⟨by rfl, ?_⟩) (by assumption) ?_; rotate_left; (intro w hSw; (try dsimp only at hSw); go_simp; try with_reducible rfl); ((try simp only [List.getElem_toArray]); (try simp only [List.getElem_cons_succ]); (try simp only [List.getElem_cons_zero]); (try simp only [Act.put]); (try simp only [List.setIfInBounds_toArray]); (try simp only [List.set_cons_succ]); (try simp only [List.set_cons_zero])))
        (refine wpAnyH_take (i := 3) (v := ?_) rfl (by kernel_rfl) (by kernel_rfl) (by kernel_rfl) (fun _ _ _ h => h) (Or.inl ⟨by rfl, ?_⟩) (by assumption) ?_; rotate_left; (intro w hSw; (try dsimp only at hSw); go_simp; try with_reducible rfl); ((try simp only [List.getElem_toArray]); (try simp only [List.getElem_cons_succ]); (try simp only [List.getElem_cons_zero]); (try simp only [Act.put]); (try simp only [List.setIfInBounds_toArray]); (try simp only [List.set_cons_succ]); (try simp only [List.set_cons_zero])))
        (refine wpAnyH_take (i := 4) (v := ?_) rfl (by kernel_rfl) (by kernel_rfl) (by kernel_rfl) (fun _ _ _ h => h) (Or.inl ⟨by rfl, ?_⟩) (by assumption) ?_; rotate_left; (intro w hSw; (try dsimp only at hSw); go_simp; try with_reducible rfl); ((try simp only [List.getElem_toArray]); (try simp only [List.getElem_cons_succ]); (try simp only [List.getElem_cons_zero]); (try simp only [Act.put]); (try simp only [List.setIfInBounds_toArray]); (try simp only [List.set_cons_succ]); (try simp only [List.set_cons_zero])))
        (refine wpAnyH_take (i := 5) (v := ?_) rfl (by kernel_rfl) (by kernel_rfl) (by kernel_rfl) (fun _ _ _ h => h) (Or.inl ⟨by rfl, ?_⟩) (by assumption) ?_; rotate_left; (intro w hSw; (try dsimp only at hSw); go_simp; try with_reducible rfl); ((try simp only [List.getElem_toArray]); (try simp only [List.getElem_cons_succ]); (try simp only [List.getElem_cons_zero]); (try simp only [Act.put]); (try simp only [List.setIfInBounds_toArray]); (try simp only [List.set_cons_succ]); (try simp only [List.set_cons_zero])))
        (refine wpAnyH_take (i := 6) (v := ?_) rfl (by kernel_rfl) (by kernel_rfl) (by kernel_rfl) (fun _ _ _ h => h) (Or.inl ⟨by rfl, ?_⟩) (by assumption) ?_; rotate_left; (intro w hSw; (try dsimp only at hSw); go_simp; try with_reducible rfl); ((try simp only [List.getElem_toArray]); (try simp only [List.getElem_cons_succ]); (try simp only [List.getElem_cons_zero]); (try simp only [Act.put]); (try simp only [List.setIfInBounds_toArray]); (try simp only [List.set_cons_succ]); (try simp only [List.set_cons_zero])))
        (refine wpAnyH_take (i := 7) (v := ?_) rfl (by kernel_rfl) (by kernel_rfl) (by kernel_rfl) (fun _ _ _ h => h) (Or.inl ⟨by rfl, ?_⟩) (by assumption) ?_; rotate_left; (intro w hSw; (try dsimp only at hSw); go_simp; try with_reducible rfl); ((try simp only [List.getElem_toArray]); (try simp only [List.getElem_cons_succ]); (try simp only [List.getElem_cons_zero]); (try simp only [Act.put]); (try simp only [List.setIfInBounds_toArray]); (try simp only [List.set_cons_succ]); (try simp only [List.set_cons_zero])))
        (refine wpAnyH_take (i := 8) (v := ?_) rfl (by kernel_rfl) (by kernel_rfl) (by kernel_rfl) (fun _ _ _ h => h) (Or.inl ⟨by rfl, ?_⟩) (by assumption) ?_; rotate_left; (intro w hSw; (try dsimp only at hSw); go_simp; try with_reducible rfl); ((try simp only [List.getElem_toArray]); (try simp only [List.getElem_cons_succ]); (try simp only [List.getElem_cons_zero]); (try simp only [Act.put]); (try simp only [List.setIfInBounds_toArray]); (try simp only [List.set_cons_succ]); (try simp only [List.set_cons_zero])))
        (refine wpAnyH_take (i := 9) (v := ?_) rfl (by kernel_rfl) (by kernel_rfl) (by kernel_rfl) (fun _ _ _ h => h) (Or.inl ⟨by rfl, ?_⟩) (by assumption) ?_; rotate_left; (intro w hSw; (try dsimp only at hSw); go_simp; try with_reducible rfl); ((try simp only [List.getElem_toArray]); (try simp only [List.getElem_cons_succ]); (try simp only [List.getElem_cons_zero]); (try simp only [Act.put]); (try simp only [List.setIfInBounds_toArray]); (try simp only [List.set_cons_succ]); (try simp only [List.set_cons_zero])))
        refine wpAnyH_ready (rs := [10]) (by kernel_rfl) (by simp) ?_
        refine AllReadyH.cons rfl (fun K2 hK2 => ?_) AllReadyH.nil
        go_simp
        refine (ihr n _ x lo1 le1 (by exact h4.hp rfl) (by exact hn) (by exact hone.hp rfl) balr risr (by omega)).mono ?_
        rintro e w1 ⟨T1, rfl, i1, con1, bal1, b1⟩
        have B1 : Below w.heap.size w w1 := (Below.refl _ w).drew.drew.drew.trans b1
        have z1 : T1.size ≤ r.size + 1 := by
          rw [← con_len T1, con1, ← con_len r]
          exact putL_len _
        have d2 : w1.cell? ⟨b, 2, none⟩ = some (.pointer l.ptr) := (B1.cell (p := ⟨b, 2, none⟩) (World.block_lt_of_cell? w _ c2)).trans c2
        have d3 : w1.cell? ⟨b, 3, none⟩ = some (.pointer r.ptr) := (B1.cell (p := ⟨b, 3, none⟩) (World.block_lt_of_cell? w _ c3)).trans c3
        have X1 : NdAt w1 ⟨b, k, v0⟩ := (⟨lo, c0, c1, c6⟩ : NdAt w ⟨b, k, v0⟩) |> fun h => NdAt.below (w := w) h B1
        have O1 : IsTr w1.heap.size w1 l := ((h3).below (B1.mono hn)).mono (Nat.le_trans hn B1.size)
        have I1 := Lib.hid i1
        have HB1 := Lib.hid B1
        clear i1 b1 B1
        go_wp2_with fail
        refine hK2.out _ _ (by exact ⟨d2, d3⟩) (fun hq => ?_)
        clear hK2 K2
        ((try simp only [List.getElem_toArray]); (try simp only [List.getElem_cons_succ]); (try simp only [List.getElem_cons_zero]); (try simp only [Act.put]); (try simp only [List.setIfInBounds_toArray]); (try simp only [List.set_cons_succ]); (try simp only [List.set_cons_zero]))
        refine wpAnyH_ready (rs := [11]) (by kernel_rfl) (by simp) ?_
        refine AllReadyH.cons rfl (fun K2 hK2 => ?_) AllReadyH.nil
        go_simp
        refine (over_any l T1 ⟨b, k, v0⟩ w1.heap.size w1 O1 I1.out (Nat.le_refl _) X1 (by omega) ball bal1).mono ?_
        rintro e w2 ⟨T2, rfl, i2, con2, bal2, b2⟩
        have e2 : w2.cell? ⟨b, 2, none⟩ = some (.pointer l.ptr) := (b2.cell (p := ⟨b, 2, none⟩) (World.block_lt_of_cell? w1 _ d2)).trans d2
        have e3 : w2.cell? ⟨b, 3, none⟩ = some (.pointer r.ptr) := (b2.cell (p := ⟨b, 3, none⟩) (World.block_lt_of_cell? w1 _ d3)).trans d3
        have hfin : OutT w (putL x.k x.v (l.con ++ (k, v0) :: r.con)) (.returned (.pointer T2.ptr)) w2 := by
          refine ⟨T2, rfl, i2, ?_, bal2, HB1.out.trans (b2.mono HB1.out.size)⟩
          rw [con2, con1, putL_gt q2 _ hlk]
        have HFIN := Lib.hid hfin
        clear hfin i2 b2
        go_wp2_with fail
        refine hK2.out _ _ (by exact ⟨e2, e3⟩) (fun hq => ?_)
        clear hK2 K2
        ((try simp only [List.getElem_toArray]); (try simp only [List.getElem_cons_succ]); (try simp only [List.getElem_cons_zero]); (try simp only [Act.put]); (try simp only [List.setIfInBounds_toArray]); (try simp only [List.set_cons_succ]); (try simp only [List.set_cons_zero]))
        (refine wpAnyH_take (i := 12) (v := ?_) rfl (by kernel_rfl) (by kernel_rfl) (by kernel_rfl) (fun _ _ _ h => h) (Or.inl ⟨by rfl, ?_⟩) (by assumption) ?_; rotate_left; (intro w hSw; (try dsimp only at hSw); go_simp; try with_reducible rfl); ((try simp only [List.getElem_toArray]); (try simp only [List.getElem_cons_succ]); (try simp only [List.getElem_cons_zero]); (try simp only [Act.put]); (try simp only [List.setIfInBounds_toArray]); (try simp only [List.set_cons_succ]); (try simp only [List.set_cons_zero])))
        refine wpAnyH_done (by kernel_rfl) ?_ _
        go_wp2_with fail
        go_ret
        exact HFIN.out
      | false =>
        have hke : x.k = k := by
          apply Classical.byContradiction
          intro hne
          rcases kl_total hne with h | h
          · rw [h] at q1; cases q1
          · rw [h] at q2; cases q2
        have q3 : (x.k.toList == k.toList) = true := by rw [hke]; simp
        have HKE := Lib.hid hke
        clear hke
        go_wp2_with fail
        go_region_held3 (fun X => X.cell? ⟨x.b, 0, none⟩ = some (.string x.k) ∧ X.cell? ⟨b, 0, none⟩ = some (.string k)) (exact ⟨x0, c0⟩) (first | fail)
        go_wp2_with fail
        go_region_held3 (fun X => X.cell? ⟨x.b, 0, none⟩ = some (.string x.k) ∧ X.cell? ⟨b, 0, none⟩ = some (.string k)) (exact ⟨x0, c0⟩) (first | fail)
        go_wp2_with fail
        refine wp_region_held_drew (S := fun X => X.cell? ⟨b, 2, none⟩ = some (.pointer l.ptr) ∧ X.cell? ⟨b, 3, none⟩ = some (.pointer r.ptr)) (by kernel_rfl) (by exact ⟨c2, c3⟩) (fun _ => ?_)
        (refine wpAnyH_take (i := 0) (v := ?_) rfl (by kernel_rfl) (by kernel_rfl) (by kernel_rfl) (fun _ _ _ h => h) (Or.inl ⟨by rfl, ?_⟩) (by assumption) ?_; rotate_left; (intro w hSw; (try dsimp only at hSw); go_simp; try with_reducible rfl); ((try simp only [List.getElem_toArray]); (try simp only [List.getElem_cons_succ]); (try simp only [List.getElem_cons_zero]); (try simp only [Act.put]); (try simp only [List.setIfInBounds_toArray]); (try simp only [List.set_cons_succ]); (try simp only [List.set_cons_zero])))
        (refine wpAnyH_take (i := 1) (v := ?_) rfl (by kernel_rfl) (by kernel_rfl) (by kernel_rfl) (fun _ _ _ h => h) (Or.inl ⟨by rfl, ?_⟩) (by assumption) ?_; rotate_left; (intro w hSw; (try dsimp only at hSw); go_simp; try with_reducible rfl); ((try simp only [List.getElem_toArray]); (try simp only [List.getElem_cons_succ]); (try simp only [List.getElem_cons_zero]); (try simp only [Act.put]); (try simp only [List.setIfInBounds_toArray]); (try simp only [List.set_cons_succ]); (try simp only [List.set_cons_zero])))
        (refine wpAnyH_take (i := 2) (v := ?_) rfl (by kernel_rfl) (by kernel_rfl) (by kernel_rfl) (fun _ _ _ h => h) (Or.inl ⟨by rfl, ?_⟩) (by assumption) ?_; rotate_left; (intro w hSw; (try dsimp only at hSw); go_simp; try with_reducible rfl); ((try simp only [List.getElem_toArray]); (try simp only [List.getElem_cons_succ]); (try simp only [List.getElem_cons_zero]); (try simp only [Act.put]); (try simp only [List.setIfInBounds_toArray]); (try simp only [List.set_cons_succ]); (try simp only [List.set_cons_zero])))
        (refine wpAnyH_take (i := 3) (v := ?_) rfl (by kernel_rfl) (by kernel_rfl) (by kernel_rfl) (fun _ _ _ h => h) (Or.inl ⟨by rfl, ?_⟩) (by assumption) ?_; rotate_left; (intro w hSw; (try dsimp only at hSw); go_simp; try with_reducible rfl); ((try simp only [List.getElem_toArray]); (try simp only [List.getElem_cons_succ]); (try simp only [List.getElem_cons_zero]); (try simp only [Act.put]); (try simp only [List.setIfInBounds_toArray]); (try simp only [List.set_cons_succ]); (try simp only [List.set_cons_zero])))
        (refine wpAnyH_take (i := 4) (v := ?_) rfl (by kernel_rfl) (by kernel_rfl) (by kernel_rfl) (fun _ _ _ h => h) (Or.inl ⟨by rfl, ?_⟩) (by assumption) ?_; rotate_left; (intro w hSw; (try dsimp only at hSw); go_simp; try with_reducible rfl); ((try simp only [List.getElem_toArray]); (try simp only [List.getElem_cons_succ]); (try simp only [List.getElem_cons_zero]); (try simp only [Act.put]); (try simp only [List.setIfInBounds_toArray]); (try simp only [List.set_cons_succ]); (try simp only [List.set_cons_zero])))
        (refine wpAnyH_take (i := 5) (v := ?_) rfl (by kernel_rfl) (by kernel_rfl) (by kernel_rfl) (fun _ _ _ h => h) (Or.inl ⟨by rfl, ?_⟩) (by assumption) ?_; rotate_left; (intro w hSw; (try dsimp only at hSw); go_simp; try with_reducible rfl); ((try simp only [List.getElem_toArray]); (try simp only [List.getElem_cons_succ]); (try simp only [List.getElem_cons_zero]); (try simp only [Act.put]); (try simp only [List.setIfInBounds_toArray]); (try simp only [List.set_cons_succ]); (try simp only [List.set_cons_zero])))
        (refine wpAnyH_take (i := 6) (v := ?_) rfl (by kernel_rfl) (by kernel_rfl) (by kernel_rfl) (fun _ _ _ h => h) (Or.inl ⟨by rfl, ?_⟩) (by assumption) ?_; rotate_left; (intro w hSw; (try dsimp only at hSw); go_simp; try with_reducible rfl); ((try simp only [List.getElem_toArray]); (try simp only [List.getElem_cons_succ]); (try simp only [List.getElem_cons_zero]); (try simp only [Act.put]); (try simp only [List.setIfInBounds_toArray]); (try simp only [List.set_cons_succ]); (try simp only [List.set_cons_zero])))
        (refine wpAnyH_take (i := 7) (v := ?_) rfl (by kernel_rfl) (by kernel_rfl) (by kernel_rfl) (fun _ _ _ h => h) (Or.inl ⟨by rfl, ?_⟩) (by assumption) ?_; rotate_left; (intro w hSw; (try dsimp only at hSw); go_simp; try with_reducible rfl); ((try simp only [List.getElem_toArray]); (try simp only [List.getElem_cons_succ]); (try simp only [List.getElem_cons_zero]); (try simp only [Act.put]); (try simp only [List.setIfInBounds_toArray]); (try simp only [List.set_cons_succ]); (try simp only [List.set_cons_zero])))
        (refine wpAnyH_take (i := 8) (v := ?_) rfl (by kernel_rfl) (by kernel_rfl) (by kernel_rfl) (fun _ _ _ h => h) (Or.inl ⟨by rfl, ?_⟩) (by assumption) ?_; rotate_left; (intro w hSw; (try dsimp only at hSw); go_simp; try with_reducible rfl); ((try simp only [List.getElem_toArray]); (try simp only [List.getElem_cons_succ]); (try simp only [List.getElem_cons_zero]); (try simp only [Act.put]); (try simp only [List.setIfInBounds_toArray]); (try simp only [List.set_cons_succ]); (try simp only [List.set_cons_zero])))
        refine wpAnyH_ready (rs := [9]) (by kernel_rfl) (by simp) ?_
        refine AllReadyH.cons rfl (fun K2 hK2 => ?_) AllReadyH.nil
        go_simp
        have hl1 := ht_size l
        have hl2 := ht_size r
        refine (atop_any l r x.b x.k x.v lo1 _ (by exact h3.hp rfl) (by exact h4.hp rfl) (by omega) (by omega) (by omega) (by exact x0) (by exact x1) (by exact x6)).mono ?_
        rintro e w2 ⟨rfl, ⟨le2, g2⟩, b2, s2⟩
        have B2 : Below w.heap.size w w2 := (Below.refl _ w).drew.drew.drew.trans b2
        have e2 : w2.cell? ⟨b, 2, none⟩ = some (.pointer l.ptr) := (B2.cell (p := ⟨b, 2, none⟩) (World.block_lt_of_cell? w _ c2)).trans c2
        have e3 : w2.cell? ⟨b, 3, none⟩ = some (.pointer r.ptr) := (B2.cell (p := ⟨b, 3, none⟩) (World.block_lt_of_cell? w _ c3)).trans c3
        have hfin : OutT w (putL x.k x.v (l.con ++ (k, v0) :: r.con)) (.returned (.pointer (some ⟨w.drew.drew.drew.heap.size, 0, none⟩))) w2 := by
          refine ⟨.node w.drew.drew.drew.heap.size l x.k x.v lo1 le2 r, rfl, ⟨by omega, g2, (h3.below (B2.mono hn)).mono (Nat.le_trans hn B2.size), (h4.below (B2.mono hn)).mono (Nat.le_trans hn B2.size)⟩, ?_, ⟨p1, p2, ball, balr⟩, B2⟩
          rw [HKE.out, putL_eq _ hlk]
          rfl
        have HFIN := Lib.hid hfin
        clear hfin g2 b2
        go_wp2_with fail
        refine hK2.out _ _ (by exact ⟨e2, e3⟩) (fun hq => ?_)
        clear hK2 K2
        ((try simp only [List.getElem_toArray]); (try simp only [List.getElem_cons_succ]); (try simp only [List.getElem_cons_zero]); (try simp only [Act.put]); (try simp only [List.setIfInBounds_toArray]); (try simp only [List.set_cons_succ]); (try simp only [List.set_cons_zero]))
        (refine wpAnyH_take (i := 10) (v := ?_) rfl (by kernel_rfl) (by kernel_rfl) (by kernel_rfl) (fun _ _ _ h => h) (Or.inl ⟨by rfl, ?_⟩) (by assumption) ?_; rotate_left; (intro w hSw; (try dsimp only at hSw); go_simp; try with_reducible rfl); ((try simp only [List.getElem_toArray]); (try simp only [List.getElem_cons_succ]); (try simp only [List.getElem_cons_zero]); (try simp only [Act.put]); (try simp only [List.setIfInBounds_toArray]); (try simp only [List.set_cons_succ]); (try simp only [List.set_cons_zero])))
        refine wpAnyH_done (by kernel_rfl) ?_ _
        go_wp2_with fail
        go_ret
        exact HFIN.out
end Go.Proofs.YtcdjeibcnkpadaaDoor
namespace Go.Proofs.YtcdjeibcnkpadaaDoor
open Go.RowKit Go.Maps Dg
set_option linter.unusedVariables false
section
variable {α : Type}
theorem getL_app (key : ByteArray) (a b : List (ByteArray × α)) : getL key (a ++ b) = (getL key a).or (getL key b) := by
  unfold getL
  rw [List.find?_append]
  cases List.find? (fun x => x.1.toList == key.toList) a <;> rfl
theorem getL_none {key : ByteArray} {l : List (ByteArray × α)} (h : ∀ y ∈ l, y.1 ≠ key) : getL key l = none := by
  unfold getL
  rw [List.find?_eq_none.2 fun y hy he => h y hy (eq_iff.1 he)]
  rfl
theorem getL_cons_ne {key : ByteArray} {x : ByteArray × α} {l : List (ByteArray × α)} (h : x.1 ≠ key) : getL key (x :: l) = getL key l := by
  unfold getL
  have : (x.1.toList == key.toList) = false := by
    cases e : (x.1.toList == key.toList) with
    | false => rfl
    | true => exact absurd (eq_iff.1 e) h
  rw [List.find?_cons, this]
theorem getL_cons_eq {key : ByteArray} {v : α} {l : List (ByteArray × α)} : getL key ((key, v) :: l) = some v := by
  unfold getL
  rw [List.find?_cons]
  simp
end
theorem ne_of_kl {a b : ByteArray} (h : kl a b = true) : a ≠ b := fun e => by rw [e, kl_irrefl] at h; cases h
theorem find_get (key : ByteArray) : ∀ T : Tr, Rises T.con → (T.find key).map Nd.v = getL key T.con
  | .nil, _ => rfl
  | .node b l k v lo le r, h => by
    obtain ⟨h1, ⟨h2, h3⟩, h4⟩ := Rises.app.1 h
    have hl : ∀ y ∈ l.con, kl y.1 k = true := fun y hy => h4 y hy (k, v) List.mem_cons_self
    have hcon : (Tr.node b l k v lo le r).con = l.con ++ (k, v) :: r.con := rfl
    rw [hcon, getL_app]
    unfold Tr.find
    split
    · rename_i he
      have he' := eq_iff.1 he
      subst he'
      rw [getL_none fun y hy => ne_of_kl (hl y hy), getL_cons_eq]
      rfl
    · rename_i he
      have hne : k ≠ key := fun e => he (eq_iff.2 e)
      rw [getL_cons_ne hne]
      split
      · rename_i hk
        rw [find_get key l h1, getL_none (l := r.con) fun y hy e => by
          have := h2 y hy
          rw [e] at this
          exact absurd (kl_trans hk this) (by rw [kl_irrefl]; decide)]
        cases getL key l.con <;> rfl
      · rename_i hk
        have hk2 : kl k key = true := (kl_total hne).resolve_right hk
        rw [find_get key r h3, getL_none (l := l.con) fun y hy e => by
          have := hl y hy
          rw [e] at this
          exact absurd (kl_trans hk2 this) (by rw [kl_irrefl]; decide)]
        rfl
/-- Keys that do not come ahead of one. -/
theorem from_con (key : ByteArray) : ∀ T : Tr, Rises T.con → (T.from key).map (fun x => (x.k, x.v)) = T.con.filter fun x => !kl x.1 key
  | .nil, _ => rfl
  | .node b l k v lo le r, h => by
    obtain ⟨h1, ⟨h2, h3⟩, h4⟩ := Rises.app.1 h
    have hl : ∀ y ∈ l.con, kl y.1 k = true := fun y hy => h4 y hy (k, v) List.mem_cons_self
    have hcon : (Tr.node b l k v lo le r).con = l.con ++ (k, v) :: r.con := rfl
    rw [hcon, List.filter_append, List.filter_cons]
    unfold Tr.from
    rw [List.map_append, from_con key r h3]
    cases hk : kl k key with
    | true =>
      have hnil : l.con.filter (fun x => !kl x.1 key) = [] := by
        rw [List.filter_eq_nil_iff]
        intro y hy
        simp [kl_trans (hl y hy) hk]
      simp [hnil]
    | false =>
      simp [from_con key l h1]
/-- Keys, as a list tells them. -/
def keysL (l : List (ByteArray × Sl)) (after : ByteArray) (most : Int) : List ByteArray := if most < 1 then [] else (((l.filter fun x => !kl x.1 after).filter fun x => !skp after x.1).map (·.1)).take most.toNat
theorem keysF_con {T : Tr} (h : Rises T.con) (after : ByteArray) (most : Int) : keysF T after most = keysL T.con after most := by
  unfold keysF keysL outL
  split
  · rfl
  · rw [← from_con after T h, List.filter_map, List.map_map]
    rfl
end Go.Proofs.YtcdjeibcnkpadaaDoor
namespace Go.Proofs.YtcdjeibcnkpadaaDoor
open Go.RowKit Go.Maps Dg
set_option linter.unusedVariables false
set_option maxHeartbeats 2000000 in
set_option maxRecDepth 100000 in
theorem single_any (w : World) (key : ByteArray) (v : Sl) (hk : key.size ≤ 140737488355328) :
    Calls Tryd.prog 77 #[.string key, .slice v.a v.n v.c] w fun e w' => ∃ (b : Nat) (lo le : Int), e = .returned (.pointer (some ⟨b, 0, none⟩)) ∧ IsTr w'.heap.size w' (.node b .nil key v lo le .nil) ∧ Below w.heap.size w w' := by
  go_enter Tryd.func77, Tryd.ntmps77
  go_wp2_with fail
  refine (lot_any w key hk).mono ?_
  rintro e w1 ⟨⟨lo, rfl⟩, rfl⟩
  have hh := Has.new w1 124 #[.string key, .slice v.a v.n v.c, .pointer none, .pointer none, .int .i64 0, .int .i64 0, .int .i64 lo, .int .i64 0]
  have HA := Lib.hid (atop_any (n := 0) .nil .nil w1.heap.size key v lo _ trivial trivial (by decide) (by decide) (by decide) (hh.cell 0) (hh.cell 1) (hh.cell 6))
  have hb0 : Below w1.heap.size w1 (w1.alloc (.cells #[.string key, .slice v.a v.n v.c, .pointer none, .pointer none, .int .i64 0, .int .i64 0, .int .i64 lo, .int .i64 0] 124)) := (Below.refl _ w1).alloc (Nat.le_refl _) _
  clear hh
  go_wp2_with fail
  refine HA.out.mono ?_
  rintro e w2 ⟨rfl, ⟨le, h2⟩, b2, s2⟩
  rw [World.size_alloc] at h2 s2
  have HF : Hid (∃ (b : Nat) (lo le : Int), Ending.returned (.pointer (some ⟨w1.heap.size + 1, 0, none⟩)) = .returned (.pointer (some ⟨b, 0, none⟩)) ∧ IsTr w2.heap.size w2 (.node b .nil key v lo le .nil) ∧ Below w1.heap.size w1 w2) :=
    ⟨_, lo, le, rfl, ⟨by omega, h2, trivial, trivial⟩, hb0.trans (b2.mono hb0.size)⟩
  clear h2 b2 s2 HA hb0
  go_wp2_with fail
  go_ret
  exact HF.out
theorem IsTr.far {n tb : Nat} {w : World} {cs : Array Value} (ht : Has w tb 107 cs) (u : Value) : ∀ {T : Tr}, IsTr n w T → IsTr n (w.setCell ⟨tb, 0, none⟩ u) T
  | .nil, _ => trivial
  | .node b l k v lo le r, ⟨h1, h2, h3, h4⟩ => by
    refine ⟨h1, h2.far (p := ⟨tb, 0, none⟩) (fun e => ?_) u, IsTr.far ht u h3, IsTr.far ht u h4⟩
    have e2 : b = tb := e
    subst e2
    unfold Has at h2 ht
    rw [ht] at h2
    injection h2 with h2
    injection h2 with h2 h3
    exact absurd h3 (by decide)
/-- A tree, handed about. -/
structure TrAt (tb : Nat) (w : World) (T : Tr) : Prop where
  top : Has w tb 107 #[.pointer T.ptr]
  tr : IsTr w.heap.size w T
  bal : Bal T
  ris : Rises T.con
theorem TrAt.below {tb : Nat} {w w' : World} {T : Tr} (h : TrAt tb w T) (hb : Below w.heap.size w w') : TrAt tb w' T := ⟨h.top.below hb h.top.lt, (h.tr.below hb).mono hb.size, h.bal, h.ris⟩
theorem tnew_any (w : World) : Calls Tryd.prog 29 #[] w fun e w' => e = .returned (.pointer (some ⟨w.heap.size, 0, none⟩)) ∧ TrAt w.heap.size w' .nil ∧ Below w.heap.size w w' := by
  have h : TrAt w.heap.size (w.alloc (.cells #[.pointer none] 107)) .nil := ⟨Has.new w _ _, trivial, trivial, trivial⟩
  have H := Lib.hid h
  have hb : Below w.heap.size w (w.alloc (.cells #[.pointer none] 107)) := (Below.refl _ w).alloc (Nat.le_refl _) _
  have HB := Lib.hid hb
  clear h hb
  go_enter Tryd.func29, Tryd.ntmps29
  go_wp2_with fail
  go_ret
  exact ⟨rfl, H.out, HB.out⟩
theorem len_any {tb : Nat} {w : World} {T : Tr} (h : TrAt tb w T) : Calls Tryd.prog 48 #[.pointer (some ⟨tb, 0, none⟩)] w fun e w' => e = .returned (.int .i64 (T.con.length : Int)) ∧ w' = w := by
  have c : w.cell? ⟨tb, 0, none⟩ = some (.pointer T.ptr) := h.top.cell 0
  have HS := Lib.hid (size_any T h.tr)
  rw [con_len]
  clear h
  go_enter Tryd.func48, Tryd.ntmps48
  go_wp2_with fail
  refine HS.out.mono ?_
  rintro e w1 ⟨rfl, rfl⟩
  go_wp2_with fail
  go_ret
  exact ⟨rfl, rfl⟩
theorem find_at {n : Nat} {w : World} (key : ByteArray) : ∀ {T : Tr}, IsTr n w T → ∀ x, T.find key = some x → w.cell? ⟨x.b, 1, none⟩ = some (.slice x.v.a x.v.n x.v.c)
  | .nil, _, x, hx => by cases hx
  | .node b l k v lo le r, ⟨h1, h2, h3, h4⟩, x, hx => by
    unfold Tr.find at hx
    split at hx
    · injection hx with hx
      subst hx
      exact h2.cell 1
    · split at hx
      · exact find_at key h3 x hx
      · exact find_at key h4 x hx
def slOf : Option Sl → Value
  | none => .slice none 0 0
  | some v => .slice v.a v.n v.c
set_option maxHeartbeats 2000000 in
theorem get_any {tb : Nat} {w : World} {T : Tr} (h : TrAt tb w T) (key : ByteArray) : Calls Tryd.prog 65 #[.pointer (some ⟨tb, 0, none⟩), .string key] w fun e w' => e = .returned (.tuple #[slOf (getL key T.con), .bool (getL key T.con).isSome]) ∧ w' = w := by
  have c : w.cell? ⟨tb, 0, none⟩ = some (.pointer T.ptr) := h.top.cell 0
  have HS := Lib.hid (tfind_any T h.tr key)
  have hg := find_get key T h.ris
  have hat := find_at key h.tr
  rw [← hg]
  clear h hg
  cases hf : T.find key with
  | none =>
    rw [hf] at HS
    go_enter Tryd.func65, Tryd.ntmps65
    go_wp2_with fail
    refine HS.out.mono ?_
    rintro e w1 ⟨rfl, rfl⟩
    have hp : ndPtr none = .pointer none := rfl
    rw [hp]
    go_wp2_with fail
    go_ret2
    exact ⟨rfl, rfl⟩
  | some x =>
    rw [hf] at HS
    have cx := hat x hf
    clear hat
    go_enter Tryd.func65, Tryd.ntmps65
    go_wp2_with fail
    refine HS.out.mono ?_
    rintro e w1 ⟨rfl, rfl⟩
    have hp : ndPtr (some x) = .pointer (some ⟨x.b, 0, none⟩) := rfl
    rw [hp]
    go_wp2_with fail
    go_ret2
    exact ⟨rfl, rfl⟩
/-- Keys and things, told as a tree's. -/
def hadL {α : Type} (k : ByteArray) (l : List (ByteArray × α)) : Bool := (getL k l).isSome
set_option maxHeartbeats 4000000 in
set_option maxRecDepth 100000 in
theorem tput_any {tb : Nat} {w : World} {T : Tr} (h : TrAt tb w T) (hz : T.con.length ≤ 90000) (key : ByteArray) (hk : key.size ≤ 140737488355328) (v : Sl) :
    Calls Tryd.prog 58 #[.pointer (some ⟨tb, 0, none⟩), .string key, .slice v.a v.n v.c] w fun e w' => e = .returned (.bool (hadL key T.con)) ∧ ∃ T', TrAt tb w' T' ∧ T'.con = putL key v T.con ∧ Tur [tb] w w' := by
  have c : w.cell? ⟨tb, 0, none⟩ = some (.pointer T.ptr) := h.top.cell 0
  have HS := Lib.hid (tfind_any T h.tr key)
  have hfd : hadL key T.con = (T.find key).isSome := by
    unfold hadL
    rw [← find_get key T h.ris]
    cases T.find key <;> rfl
  rw [con_len] at hz
  have H := Lib.hid h
  have hB0 : Below w.heap.size w w.drew := (Below.refl _ w).drew
  have HSG := Lib.hid (single_any w.drew key v hk)
  clear h
  rw [hfd]
  obtain ⟨q, hq⟩ : ∃ q, Hid (q = T.find key) := ⟨_, rfl⟩
  rw [← hq.out]
  rw [← hq.out] at HS
  clear hfd
  cases q with
  | none =>
    go_enter Tryd.func58, Tryd.ntmps58
    go_wp2_with fail
    refine HS.out.mono ?_
    rintro e w1 ⟨rfl, rfl⟩
    rw [show ndPtr none = .pointer none from rfl]
    go_wp2_with fail
    refine wp_region_held_drew (S := fun X => True) (by kernel_rfl) trivial (fun _ => ?_)
    (refine wpAnyH_take (i := 0) (v := ?_) rfl (by kernel_rfl) (by kernel_rfl) (by kernel_rfl) (fun _ _ _ h => h) (Or.inl ⟨by rfl, ?_⟩) (by assumption) ?_; rotate_left; (intro w hSw; (try dsimp only at hSw); go_simp; try with_reducible rfl); ((try simp only [List.getElem_toArray]); (try simp only [List.getElem_cons_succ]); (try simp only [List.getElem_cons_zero]); (try simp only [Act.put]); (try simp only [List.setIfInBounds_toArray]); (try simp only [List.set_cons_succ]); (try simp only [List.set_cons_zero])))
    (refine wpAnyH_take (i := 1) (v := ?_) rfl (by kernel_rfl) (by kernel_rfl) (by kernel_rfl) (fun _ _ _ h => h) (Or.inl ⟨by rfl, ?_⟩) (by assumption) ?_; rotate_left; (intro w hSw; (try dsimp only at hSw); go_simp; try with_reducible rfl); ((try simp only [List.getElem_toArray]); (try simp only [List.getElem_cons_succ]); (try simp only [List.getElem_cons_zero]); (try simp only [Act.put]); (try simp only [List.setIfInBounds_toArray]); (try simp only [List.set_cons_succ]); (try simp only [List.set_cons_zero])))
    (refine wpAnyH_take (i := 2) (v := ?_) rfl (by kernel_rfl) (by kernel_rfl) (by kernel_rfl) (fun _ _ _ h => h) (Or.inl ⟨by rfl, ?_⟩) (by assumption) ?_; rotate_left; (intro w hSw; (try dsimp only at hSw); go_simp; try with_reducible rfl); ((try simp only [List.getElem_toArray]); (try simp only [List.getElem_cons_succ]); (try simp only [List.getElem_cons_zero]); (try simp only [Act.put]); (try simp only [List.setIfInBounds_toArray]); (try simp only [List.set_cons_succ]); (try simp only [List.set_cons_zero])))
    (refine wpAnyH_take (i := 3) (v := ?_) rfl (by kernel_rfl) (by kernel_rfl) (by kernel_rfl) (fun _ _ _ h => h) (Or.inl ⟨by rfl, ?_⟩) (by assumption) ?_; rotate_left; (intro w hSw; (try dsimp only at hSw); go_simp; try with_reducible rfl); ((try simp only [List.getElem_toArray]); (try simp only [List.getElem_cons_succ]); (try simp only [List.getElem_cons_zero]); (try simp only [Act.put]); (try simp only [List.setIfInBounds_toArray]); (try simp only [List.set_cons_succ]); (try simp only [List.set_cons_zero])))
    (refine wpAnyH_take (i := 5) (v := ?_) rfl (by kernel_rfl) (by kernel_rfl) (by kernel_rfl) (fun _ _ _ h => h) (Or.inl ⟨by rfl, ?_⟩) (by assumption) ?_; rotate_left; (intro w hSw; (try dsimp only at hSw); go_simp; try with_reducible rfl); ((try simp only [List.getElem_toArray]); (try simp only [List.getElem_cons_succ]); (try simp only [List.getElem_cons_zero]); (try simp only [Act.put]); (try simp only [List.setIfInBounds_toArray]); (try simp only [List.set_cons_succ]); (try simp only [List.set_cons_zero])))
    (refine wpAnyH_take (i := 6) (v := ?_) rfl (by kernel_rfl) (by kernel_rfl) (by kernel_rfl) (fun _ _ _ h => h) (Or.inl ⟨by rfl, ?_⟩) (by assumption) ?_; rotate_left; (intro w hSw; (try dsimp only at hSw); go_simp; try with_reducible rfl); ((try simp only [List.getElem_toArray]); (try simp only [List.getElem_cons_succ]); (try simp only [List.getElem_cons_zero]); (try simp only [Act.put]); (try simp only [List.setIfInBounds_toArray]); (try simp only [List.set_cons_succ]); (try simp only [List.set_cons_zero])))
    refine wpAnyH_ready (rs := [4, 7]) (by kernel_rfl) (by simp) ?_
    refine AllReadyH.cons rfl (fun K2 hK2 => ?_) (AllReadyH.cons rfl (fun K2 hK2 => ?_) AllReadyH.nil)
    · go_simp
      refine hK2.out _ _ (by exact trivial) (fun hq => ?_)
      clear hK2 K2
      ((try simp only [List.getElem_toArray]); (try simp only [List.getElem_cons_succ]); (try simp only [List.getElem_cons_zero]); (try simp only [Act.put]); (try simp only [List.setIfInBounds_toArray]); (try simp only [List.set_cons_succ]); (try simp only [List.set_cons_zero]))
      refine wpAnyH_ready (rs := [7]) (by kernel_rfl) (by simp) ?_
      refine AllReadyH.cons rfl (fun K2 hK2 => ?_) AllReadyH.nil
      go_simp
      refine HSG.out.mono ?_
      rintro e w2 ⟨b, lo, le, rfl, i2, b2⟩
      have B2 : Below w1.heap.size w1 w2 := hB0.trans b2
      have c2 : w2.cell? ⟨tb, 0, none⟩ = some (.pointer T.ptr) := (B2.cell (p := ⟨tb, 0, none⟩) (World.block_lt_of_cell? w1 _ c)).trans c
      have TW := Lib.hid ((H.out.tr.below B2).mono B2.size)
      have I2 := Lib.hid i2
      have HB2 := Lib.hid B2
      clear i2 b2 B2
      go_wp2_with fail
      refine hK2.out _ _ (by exact trivial) (fun hq => ?_)
      clear hK2 K2
      ((try simp only [List.getElem_toArray]); (try simp only [List.getElem_cons_succ]); (try simp only [List.getElem_cons_zero]); (try simp only [Act.put]); (try simp only [List.setIfInBounds_toArray]); (try simp only [List.set_cons_succ]); (try simp only [List.set_cons_zero]))
      refine wpAnyH_ready (rs := [8]) (by kernel_rfl) (by simp) ?_
      refine AllReadyH.cons rfl (fun K2 hK2 => ?_) AllReadyH.nil
      go_simp
      refine (put_any T w2.heap.size w2 ⟨b, key, v⟩ lo le TW.out (Nat.le_refl _) I2.out H.out.bal H.out.ris hz).mono ?_
      rintro e w3 ⟨T', rfl, i3, con3, bal3, b3⟩
      have c3 : w3.cell? ⟨tb, 0, none⟩ = some (.pointer T.ptr) := (b3.cell (p := ⟨tb, 0, none⟩) (World.block_lt_of_cell? w2 _ c2)).trans c2
      have B3 : Below w1.heap.size w1 w3 := HB2.out.trans (b3.mono HB2.out.size)
      have ht3 : Has w3 tb 107 #[.pointer T.ptr] := H.out.top.below B3 H.out.top.lt
      have f3 : w3.frozen? ⟨tb, 0, none⟩ = false := ht3.free 0
      have hput : Has (w3.setCell ⟨tb, 0, none⟩ (.pointer T'.ptr)) tb 107 #[.pointer T'.ptr] := ht3.put 0 _
      have i4 := IsTr.far ht3 (.pointer T'.ptr) i3
      have hfin2 : ∃ T2, TrAt tb (w3.setCell ⟨tb, 0, none⟩ (.pointer T'.ptr)) T2 ∧ T2.con = putL key v T.con ∧ Tur [tb] w1 (w3.setCell ⟨tb, 0, none⟩ (.pointer T'.ptr)) :=
        ⟨T', ⟨hput, by rw [size_set]; exact i4, bal3, by rw [con3]; exact putL_rises H.out.ris⟩, con3, (Tur.of_below B3).trans (Tur.setCell w3 (p := ⟨tb, 0, none⟩) (by simp) _) (Fre.refl _ _)⟩
      have HFIN := Lib.hid hfin2
      clear hfin2 hput i4 ht3 i3 b3 B3
      go_wp2_with fail
      refine hK2.out _ _ (by exact trivial) (fun hq => ?_)
      clear hK2 K2
      ((try simp only [List.getElem_toArray]); (try simp only [List.getElem_cons_succ]); (try simp only [List.getElem_cons_zero]); (try simp only [Act.put]); (try simp only [List.setIfInBounds_toArray]); (try simp only [List.set_cons_succ]); (try simp only [List.set_cons_zero]))
      (refine wpAnyH_take (i := 9) (v := ?_) rfl (by kernel_rfl) (by kernel_rfl) (by kernel_rfl) (fun _ _ _ h => h) (Or.inl ⟨by rfl, ?_⟩) (by assumption) ?_; rotate_left; (intro w hSw; (try dsimp only at hSw); go_simp; try with_reducible rfl); ((try simp only [List.getElem_toArray]); (try simp only [List.getElem_cons_succ]); (try simp only [List.getElem_cons_zero]); (try simp only [Act.put]); (try simp only [List.setIfInBounds_toArray]); (try simp only [List.set_cons_succ]); (try simp only [List.set_cons_zero])))
      (refine wpAnyH_take (i := 10) (v := ?_) rfl (by kernel_rfl) (by kernel_rfl) (by kernel_rfl) (fun _ _ _ h => h) (Or.inl ⟨by rfl, ?_⟩) (by assumption) ?_; rotate_left; (intro w hSw; (try dsimp only at hSw); go_simp; try with_reducible rfl); ((try simp only [List.getElem_toArray]); (try simp only [List.getElem_cons_succ]); (try simp only [List.getElem_cons_zero]); (try simp only [Act.put]); (try simp only [List.setIfInBounds_toArray]); (try simp only [List.set_cons_succ]); (try simp only [List.set_cons_zero])))
      refine wpAnyH_ready (rs := [11]) (by kernel_rfl) (by simp) ?_
      refine AllReadyH.cons rfl (fun K2 hK2 => ?_) AllReadyH.nil
      go_simp
      refine hK2.out _ _ (by exact trivial) (fun hq => ?_)
      clear hK2 K2
      ((try simp only [List.getElem_toArray]); (try simp only [List.getElem_cons_succ]); (try simp only [List.getElem_cons_zero]); (try simp only [Act.put]); (try simp only [List.setIfInBounds_toArray]); (try simp only [List.set_cons_succ]); (try simp only [List.set_cons_zero]))
      refine wpAnyH_done (by kernel_rfl) ?_ _
      go_wp2_with fail
      go_ret
      exact ⟨rfl, HFIN.out⟩
    · go_simp
      refine HSG.out.mono ?_
      rintro e w2 ⟨b, lo, le, rfl, i2, b2⟩
      have B2 : Below w1.heap.size w1 w2 := hB0.trans b2
      have c2 : w2.cell? ⟨tb, 0, none⟩ = some (.pointer T.ptr) := (B2.cell (p := ⟨tb, 0, none⟩) (World.block_lt_of_cell? w1 _ c)).trans c
      have TW := Lib.hid ((H.out.tr.below B2).mono B2.size)
      have I2 := Lib.hid i2
      have HB2 := Lib.hid B2
      clear i2 b2 B2
      go_wp2_with fail
      refine hK2.out _ _ (by exact trivial) (fun hq => ?_)
      clear hK2 K2
      ((try simp only [List.getElem_toArray]); (try simp only [List.getElem_cons_succ]); (try simp only [List.getElem_cons_zero]); (try simp only [Act.put]); (try simp only [List.setIfInBounds_toArray]); (try simp only [List.set_cons_succ]); (try simp only [List.set_cons_zero]))
      refine wpAnyH_ready (rs := [4]) (by kernel_rfl) (by simp) ?_
      refine AllReadyH.cons rfl (fun K2 hK2 => ?_) AllReadyH.nil
      go_simp
      refine hK2.out _ _ (by exact trivial) (fun hq => ?_)
      clear hK2 K2
      ((try simp only [List.getElem_toArray]); (try simp only [List.getElem_cons_succ]); (try simp only [List.getElem_cons_zero]); (try simp only [Act.put]); (try simp only [List.setIfInBounds_toArray]); (try simp only [List.set_cons_succ]); (try simp only [List.set_cons_zero]))
      refine wpAnyH_ready (rs := [8]) (by kernel_rfl) (by simp) ?_
      refine AllReadyH.cons rfl (fun K2 hK2 => ?_) AllReadyH.nil
      go_simp
      refine (put_any T w2.heap.size w2 ⟨b, key, v⟩ lo le TW.out (Nat.le_refl _) I2.out H.out.bal H.out.ris hz).mono ?_
      rintro e w3 ⟨T', rfl, i3, con3, bal3, b3⟩
      have c3 : w3.cell? ⟨tb, 0, none⟩ = some (.pointer T.ptr) := (b3.cell (p := ⟨tb, 0, none⟩) (World.block_lt_of_cell? w2 _ c2)).trans c2
      have B3 : Below w1.heap.size w1 w3 := HB2.out.trans (b3.mono HB2.out.size)
      have ht3 : Has w3 tb 107 #[.pointer T.ptr] := H.out.top.below B3 H.out.top.lt
      have f3 : w3.frozen? ⟨tb, 0, none⟩ = false := ht3.free 0
      have hput : Has (w3.setCell ⟨tb, 0, none⟩ (.pointer T'.ptr)) tb 107 #[.pointer T'.ptr] := ht3.put 0 _
      have i4 := IsTr.far ht3 (.pointer T'.ptr) i3
      have hfin2 : ∃ T2, TrAt tb (w3.setCell ⟨tb, 0, none⟩ (.pointer T'.ptr)) T2 ∧ T2.con = putL key v T.con ∧ Tur [tb] w1 (w3.setCell ⟨tb, 0, none⟩ (.pointer T'.ptr)) :=
        ⟨T', ⟨hput, by rw [size_set]; exact i4, bal3, by rw [con3]; exact putL_rises H.out.ris⟩, con3, (Tur.of_below B3).trans (Tur.setCell w3 (p := ⟨tb, 0, none⟩) (by simp) _) (Fre.refl _ _)⟩
      have HFIN := Lib.hid hfin2
      clear hfin2 hput i4 ht3 i3 b3 B3
      go_wp2_with fail
      refine hK2.out _ _ (by exact trivial) (fun hq => ?_)
      clear hK2 K2
      ((try simp only [List.getElem_toArray]); (try simp only [List.getElem_cons_succ]); (try simp only [List.getElem_cons_zero]); (try simp only [Act.put]); (try simp only [List.setIfInBounds_toArray]); (try simp only [List.set_cons_succ]); (try simp only [List.set_cons_zero]))
      (refine wpAnyH_take (i := 9) (v := ?_) rfl (by kernel_rfl) (by kernel_rfl) (by kernel_rfl) (fun _ _ _ h => h) (Or.inl ⟨by rfl, ?_⟩) (by assumption) ?_; rotate_left; (intro w hSw; (try dsimp only at hSw); go_simp; try with_reducible rfl); ((try simp only [List.getElem_toArray]); (try simp only [List.getElem_cons_succ]); (try simp only [List.getElem_cons_zero]); (try simp only [Act.put]); (try simp only [List.setIfInBounds_toArray]); (try simp only [List.set_cons_succ]); (try simp only [List.set_cons_zero])))
      (refine wpAnyH_take (i := 10) (v := ?_) rfl (by kernel_rfl) (by kernel_rfl) (by kernel_rfl) (fun _ _ _ h => h) (Or.inl ⟨by rfl, ?_⟩) (by assumption) ?_; rotate_left; (intro w hSw; (try dsimp only at hSw); go_simp; try with_reducible rfl); ((try simp only [List.getElem_toArray]); (try simp only [List.getElem_cons_succ]); (try simp only [List.getElem_cons_zero]); (try simp only [Act.put]); (try simp only [List.setIfInBounds_toArray]); (try simp only [List.set_cons_succ]); (try simp only [List.set_cons_zero])))
      refine wpAnyH_ready (rs := [11]) (by kernel_rfl) (by simp) ?_
      refine AllReadyH.cons rfl (fun K2 hK2 => ?_) AllReadyH.nil
      go_simp
      refine hK2.out _ _ (by exact trivial) (fun hq => ?_)
      clear hK2 K2
      ((try simp only [List.getElem_toArray]); (try simp only [List.getElem_cons_succ]); (try simp only [List.getElem_cons_zero]); (try simp only [Act.put]); (try simp only [List.setIfInBounds_toArray]); (try simp only [List.set_cons_succ]); (try simp only [List.set_cons_zero]))
      refine wpAnyH_done (by kernel_rfl) ?_ _
      go_wp2_with fail
      go_ret
      exact ⟨rfl, HFIN.out⟩
  | some x =>
    go_enter Tryd.func58, Tryd.ntmps58
    go_wp2_with fail
    refine HS.out.mono ?_
    rintro e w1 ⟨rfl, rfl⟩
    rw [show ndPtr (some x) = .pointer (some ⟨x.b, 0, none⟩) from rfl]
    go_wp2_with fail
    refine wp_region_held_drew (S := fun X => True) (by kernel_rfl) trivial (fun _ => ?_)
    (refine wpAnyH_take (i := 0) (v := ?_) rfl (by kernel_rfl) (by kernel_rfl) (by kernel_rfl) (fun _ _ _ h => h) (Or.inl ⟨by rfl, ?_⟩) (by assumption) ?_; rotate_left; (intro w hSw; (try dsimp only at hSw); go_simp; try with_reducible rfl); ((try simp only [List.getElem_toArray]); (try simp only [List.getElem_cons_succ]); (try simp only [List.getElem_cons_zero]); (try simp only [Act.put]); (try simp only [List.setIfInBounds_toArray]); (try simp only [List.set_cons_succ]); (try simp only [List.set_cons_zero])))
    (refine wpAnyH_take (i := 1) (v := ?_) rfl (by kernel_rfl) (by kernel_rfl) (by kernel_rfl) (fun _ _ _ h => h) (Or.inl ⟨by rfl, ?_⟩) (by assumption) ?_; rotate_left; (intro w hSw; (try dsimp only at hSw); go_simp; try with_reducible rfl); ((try simp only [List.getElem_toArray]); (try simp only [List.getElem_cons_succ]); (try simp only [List.getElem_cons_zero]); (try simp only [Act.put]); (try simp only [List.setIfInBounds_toArray]); (try simp only [List.set_cons_succ]); (try simp only [List.set_cons_zero])))
    (refine wpAnyH_take (i := 2) (v := ?_) rfl (by kernel_rfl) (by kernel_rfl) (by kernel_rfl) (fun _ _ _ h => h) (Or.inl ⟨by rfl, ?_⟩) (by assumption) ?_; rotate_left; (intro w hSw; (try dsimp only at hSw); go_simp; try with_reducible rfl); ((try simp only [List.getElem_toArray]); (try simp only [List.getElem_cons_succ]); (try simp only [List.getElem_cons_zero]); (try simp only [Act.put]); (try simp only [List.setIfInBounds_toArray]); (try simp only [List.set_cons_succ]); (try simp only [List.set_cons_zero])))
    (refine wpAnyH_take (i := 3) (v := ?_) rfl (by kernel_rfl) (by kernel_rfl) (by kernel_rfl) (fun _ _ _ h => h) (Or.inl ⟨by rfl, ?_⟩) (by assumption) ?_; rotate_left; (intro w hSw; (try dsimp only at hSw); go_simp; try with_reducible rfl); ((try simp only [List.getElem_toArray]); (try simp only [List.getElem_cons_succ]); (try simp only [List.getElem_cons_zero]); (try simp only [Act.put]); (try simp only [List.setIfInBounds_toArray]); (try simp only [List.set_cons_succ]); (try simp only [List.set_cons_zero])))
    (refine wpAnyH_take (i := 5) (v := ?_) rfl (by kernel_rfl) (by kernel_rfl) (by kernel_rfl) (fun _ _ _ h => h) (Or.inl ⟨by rfl, ?_⟩) (by assumption) ?_; rotate_left; (intro w hSw; (try dsimp only at hSw); go_simp; try with_reducible rfl); ((try simp only [List.getElem_toArray]); (try simp only [List.getElem_cons_succ]); (try simp only [List.getElem_cons_zero]); (try simp only [Act.put]); (try simp only [List.setIfInBounds_toArray]); (try simp only [List.set_cons_succ]); (try simp only [List.set_cons_zero])))
    (refine wpAnyH_take (i := 6) (v := ?_) rfl (by kernel_rfl) (by kernel_rfl) (by kernel_rfl) (fun _ _ _ h => h) (Or.inl ⟨by rfl, ?_⟩) (by assumption) ?_; rotate_left; (intro w hSw; (try dsimp only at hSw); go_simp; try with_reducible rfl); ((try simp only [List.getElem_toArray]); (try simp only [List.getElem_cons_succ]); (try simp only [List.getElem_cons_zero]); (try simp only [Act.put]); (try simp only [List.setIfInBounds_toArray]); (try simp only [List.set_cons_succ]); (try simp only [List.set_cons_zero])))
    refine wpAnyH_ready (rs := [4, 7]) (by kernel_rfl) (by simp) ?_
    refine AllReadyH.cons rfl (fun K2 hK2 => ?_) (AllReadyH.cons rfl (fun K2 hK2 => ?_) AllReadyH.nil)
    · go_simp
      refine hK2.out _ _ (by exact trivial) (fun hq => ?_)
      clear hK2 K2
      ((try simp only [List.getElem_toArray]); (try simp only [List.getElem_cons_succ]); (try simp only [List.getElem_cons_zero]); (try simp only [Act.put]); (try simp only [List.setIfInBounds_toArray]); (try simp only [List.set_cons_succ]); (try simp only [List.set_cons_zero]))
      refine wpAnyH_ready (rs := [7]) (by kernel_rfl) (by simp) ?_
      refine AllReadyH.cons rfl (fun K2 hK2 => ?_) AllReadyH.nil
      go_simp
      refine HSG.out.mono ?_
      rintro e w2 ⟨b, lo, le, rfl, i2, b2⟩
      have B2 : Below w1.heap.size w1 w2 := hB0.trans b2
      have c2 : w2.cell? ⟨tb, 0, none⟩ = some (.pointer T.ptr) := (B2.cell (p := ⟨tb, 0, none⟩) (World.block_lt_of_cell? w1 _ c)).trans c
      have TW := Lib.hid ((H.out.tr.below B2).mono B2.size)
      have I2 := Lib.hid i2
      have HB2 := Lib.hid B2
      clear i2 b2 B2
      go_wp2_with fail
      refine hK2.out _ _ (by exact trivial) (fun hq => ?_)
      clear hK2 K2
      ((try simp only [List.getElem_toArray]); (try simp only [List.getElem_cons_succ]); (try simp only [List.getElem_cons_zero]); (try simp only [Act.put]); (try simp only [List.setIfInBounds_toArray]); (try simp only [List.set_cons_succ]); (try simp only [List.set_cons_zero]))
      refine wpAnyH_ready (rs := [8]) (by kernel_rfl) (by simp) ?_
      refine AllReadyH.cons rfl (fun K2 hK2 => ?_) AllReadyH.nil
      go_simp
      refine (put_any T w2.heap.size w2 ⟨b, key, v⟩ lo le TW.out (Nat.le_refl _) I2.out H.out.bal H.out.ris hz).mono ?_
      rintro e w3 ⟨T', rfl, i3, con3, bal3, b3⟩
      have c3 : w3.cell? ⟨tb, 0, none⟩ = some (.pointer T.ptr) := (b3.cell (p := ⟨tb, 0, none⟩) (World.block_lt_of_cell? w2 _ c2)).trans c2
      have B3 : Below w1.heap.size w1 w3 := HB2.out.trans (b3.mono HB2.out.size)
      have ht3 : Has w3 tb 107 #[.pointer T.ptr] := H.out.top.below B3 H.out.top.lt
      have f3 : w3.frozen? ⟨tb, 0, none⟩ = false := ht3.free 0
      have hput : Has (w3.setCell ⟨tb, 0, none⟩ (.pointer T'.ptr)) tb 107 #[.pointer T'.ptr] := ht3.put 0 _
      have i4 := IsTr.far ht3 (.pointer T'.ptr) i3
      have hfin2 : ∃ T2, TrAt tb (w3.setCell ⟨tb, 0, none⟩ (.pointer T'.ptr)) T2 ∧ T2.con = putL key v T.con ∧ Tur [tb] w1 (w3.setCell ⟨tb, 0, none⟩ (.pointer T'.ptr)) :=
        ⟨T', ⟨hput, by rw [size_set]; exact i4, bal3, by rw [con3]; exact putL_rises H.out.ris⟩, con3, (Tur.of_below B3).trans (Tur.setCell w3 (p := ⟨tb, 0, none⟩) (by simp) _) (Fre.refl _ _)⟩
      have HFIN := Lib.hid hfin2
      clear hfin2 hput i4 ht3 i3 b3 B3
      go_wp2_with fail
      refine hK2.out _ _ (by exact trivial) (fun hq => ?_)
      clear hK2 K2
      ((try simp only [List.getElem_toArray]); (try simp only [List.getElem_cons_succ]); (try simp only [List.getElem_cons_zero]); (try simp only [Act.put]); (try simp only [List.setIfInBounds_toArray]); (try simp only [List.set_cons_succ]); (try simp only [List.set_cons_zero]))
      (refine wpAnyH_take (i := 9) (v := ?_) rfl (by kernel_rfl) (by kernel_rfl) (by kernel_rfl) (fun _ _ _ h => h) (Or.inl ⟨by rfl, ?_⟩) (by assumption) ?_; rotate_left; (intro w hSw; (try dsimp only at hSw); go_simp; try with_reducible rfl); ((try simp only [List.getElem_toArray]); (try simp only [List.getElem_cons_succ]); (try simp only [List.getElem_cons_zero]); (try simp only [Act.put]); (try simp only [List.setIfInBounds_toArray]); (try simp only [List.set_cons_succ]); (try simp only [List.set_cons_zero])))
      (refine wpAnyH_take (i := 10) (v := ?_) rfl (by kernel_rfl) (by kernel_rfl) (by kernel_rfl) (fun _ _ _ h => h) (Or.inl ⟨by rfl, ?_⟩) (by assumption) ?_; rotate_left; (intro w hSw; (try dsimp only at hSw); go_simp; try with_reducible rfl); ((try simp only [List.getElem_toArray]); (try simp only [List.getElem_cons_succ]); (try simp only [List.getElem_cons_zero]); (try simp only [Act.put]); (try simp only [List.setIfInBounds_toArray]); (try simp only [List.set_cons_succ]); (try simp only [List.set_cons_zero])))
      refine wpAnyH_ready (rs := [11]) (by kernel_rfl) (by simp) ?_
      refine AllReadyH.cons rfl (fun K2 hK2 => ?_) AllReadyH.nil
      go_simp
      refine hK2.out _ _ (by exact trivial) (fun hq => ?_)
      clear hK2 K2
      ((try simp only [List.getElem_toArray]); (try simp only [List.getElem_cons_succ]); (try simp only [List.getElem_cons_zero]); (try simp only [Act.put]); (try simp only [List.setIfInBounds_toArray]); (try simp only [List.set_cons_succ]); (try simp only [List.set_cons_zero]))
      refine wpAnyH_done (by kernel_rfl) ?_ _
      go_wp2_with fail
      go_ret
      exact ⟨rfl, HFIN.out⟩
    · go_simp
      refine HSG.out.mono ?_
      rintro e w2 ⟨b, lo, le, rfl, i2, b2⟩
      have B2 : Below w1.heap.size w1 w2 := hB0.trans b2
      have c2 : w2.cell? ⟨tb, 0, none⟩ = some (.pointer T.ptr) := (B2.cell (p := ⟨tb, 0, none⟩) (World.block_lt_of_cell? w1 _ c)).trans c
      have TW := Lib.hid ((H.out.tr.below B2).mono B2.size)
      have I2 := Lib.hid i2
      have HB2 := Lib.hid B2
      clear i2 b2 B2
      go_wp2_with fail
      refine hK2.out _ _ (by exact trivial) (fun hq => ?_)
      clear hK2 K2
      ((try simp only [List.getElem_toArray]); (try simp only [List.getElem_cons_succ]); (try simp only [List.getElem_cons_zero]); (try simp only [Act.put]); (try simp only [List.setIfInBounds_toArray]); (try simp only [List.set_cons_succ]); (try simp only [List.set_cons_zero]))
      refine wpAnyH_ready (rs := [4]) (by kernel_rfl) (by simp) ?_
      refine AllReadyH.cons rfl (fun K2 hK2 => ?_) AllReadyH.nil
      go_simp
      refine hK2.out _ _ (by exact trivial) (fun hq => ?_)
      clear hK2 K2
      ((try simp only [List.getElem_toArray]); (try simp only [List.getElem_cons_succ]); (try simp only [List.getElem_cons_zero]); (try simp only [Act.put]); (try simp only [List.setIfInBounds_toArray]); (try simp only [List.set_cons_succ]); (try simp only [List.set_cons_zero]))
      refine wpAnyH_ready (rs := [8]) (by kernel_rfl) (by simp) ?_
      refine AllReadyH.cons rfl (fun K2 hK2 => ?_) AllReadyH.nil
      go_simp
      refine (put_any T w2.heap.size w2 ⟨b, key, v⟩ lo le TW.out (Nat.le_refl _) I2.out H.out.bal H.out.ris hz).mono ?_
      rintro e w3 ⟨T', rfl, i3, con3, bal3, b3⟩
      have c3 : w3.cell? ⟨tb, 0, none⟩ = some (.pointer T.ptr) := (b3.cell (p := ⟨tb, 0, none⟩) (World.block_lt_of_cell? w2 _ c2)).trans c2
      have B3 : Below w1.heap.size w1 w3 := HB2.out.trans (b3.mono HB2.out.size)
      have ht3 : Has w3 tb 107 #[.pointer T.ptr] := H.out.top.below B3 H.out.top.lt
      have f3 : w3.frozen? ⟨tb, 0, none⟩ = false := ht3.free 0
      have hput : Has (w3.setCell ⟨tb, 0, none⟩ (.pointer T'.ptr)) tb 107 #[.pointer T'.ptr] := ht3.put 0 _
      have i4 := IsTr.far ht3 (.pointer T'.ptr) i3
      have hfin2 : ∃ T2, TrAt tb (w3.setCell ⟨tb, 0, none⟩ (.pointer T'.ptr)) T2 ∧ T2.con = putL key v T.con ∧ Tur [tb] w1 (w3.setCell ⟨tb, 0, none⟩ (.pointer T'.ptr)) :=
        ⟨T', ⟨hput, by rw [size_set]; exact i4, bal3, by rw [con3]; exact putL_rises H.out.ris⟩, con3, (Tur.of_below B3).trans (Tur.setCell w3 (p := ⟨tb, 0, none⟩) (by simp) _) (Fre.refl _ _)⟩
      have HFIN := Lib.hid hfin2
      clear hfin2 hput i4 ht3 i3 b3 B3
      go_wp2_with fail
      refine hK2.out _ _ (by exact trivial) (fun hq => ?_)
      clear hK2 K2
      ((try simp only [List.getElem_toArray]); (try simp only [List.getElem_cons_succ]); (try simp only [List.getElem_cons_zero]); (try simp only [Act.put]); (try simp only [List.setIfInBounds_toArray]); (try simp only [List.set_cons_succ]); (try simp only [List.set_cons_zero]))
      (refine wpAnyH_take (i := 9) (v := ?_) rfl (by kernel_rfl) (by kernel_rfl) (by kernel_rfl) (fun _ _ _ h => h) (Or.inl ⟨by rfl, ?_⟩) (by assumption) ?_; rotate_left; (intro w hSw; (try dsimp only at hSw); go_simp; try with_reducible rfl); ((try simp only [List.getElem_toArray]); (try simp only [List.getElem_cons_succ]); (try simp only [List.getElem_cons_zero]); (try simp only [Act.put]); (try simp only [List.setIfInBounds_toArray]); (try simp only [List.set_cons_succ]); (try simp only [List.set_cons_zero])))
      (refine wpAnyH_take (i := 10) (v := ?_) rfl (by kernel_rfl) (by kernel_rfl) (by kernel_rfl) (fun _ _ _ h => h) (Or.inl ⟨by rfl, ?_⟩) (by assumption) ?_; rotate_left; (intro w hSw; (try dsimp only at hSw); go_simp; try with_reducible rfl); ((try simp only [List.getElem_toArray]); (try simp only [List.getElem_cons_succ]); (try simp only [List.getElem_cons_zero]); (try simp only [Act.put]); (try simp only [List.setIfInBounds_toArray]); (try simp only [List.set_cons_succ]); (try simp only [List.set_cons_zero])))
      refine wpAnyH_ready (rs := [11]) (by kernel_rfl) (by simp) ?_
      refine AllReadyH.cons rfl (fun K2 hK2 => ?_) AllReadyH.nil
      go_simp
      refine hK2.out _ _ (by exact trivial) (fun hq => ?_)
      clear hK2 K2
      ((try simp only [List.getElem_toArray]); (try simp only [List.getElem_cons_succ]); (try simp only [List.getElem_cons_zero]); (try simp only [Act.put]); (try simp only [List.setIfInBounds_toArray]); (try simp only [List.set_cons_succ]); (try simp only [List.set_cons_zero]))
      refine wpAnyH_done (by kernel_rfl) ?_ _
      go_wp2_with fail
      go_ret
      exact ⟨rfl, HFIN.out⟩
end Go.Proofs.YtcdjeibcnkpadaaDoor
namespace Go.Proofs.YtcdjeibcnkpadaaDoor
open Go.RowKit Go.Maps Dg
set_option linter.unusedVariables false
theorem TrAt.tur {ta tb : Nat} {w w' : World} {T T2 : Tr} (h : TrAt tb w T) (ha : TrAt ta w T2) (ht : Tur [ta] w w') (hne : tb ≠ ta) : TrAt tb w' T := by
  refine ⟨h.top.tur ht (by simpa using hne), ?_, h.bal, h.ris⟩
  have key : ∀ {S : Tr}, IsTr w.heap.size w S → IsTr w.heap.size w' S := by
    intro S
    induction S with
    | nil => intro _; trivial
    | node b l k v lo le r ihl ihr =>
      rintro ⟨h1, h2, h3, h4⟩
      refine ⟨h1, h2.tur ht fun hh => ?_, ihl h3, ihr h4⟩
      have e : b = ta := by simpa using hh
      subst e
      have h5 := ha.top
      unfold Has at h2 h5
      rw [h5] at h2
      injection h2 with h2
      injection h2 with h2 h3
      exact absurd h3 (by decide)
  exact (key h.tr).mono ht.size
theorem TrAt.turX {tb : Nat} {w w' : World} {T : Tr} {X : List Nat} (h : TrAt tb w T) (ht : Tur X w w') (hX : ∀ b ∈ X, ∃ t cs, Has w b t cs ∧ t ≠ 124 ∧ t ≠ 107) : TrAt tb w' T := by
  have one : ∀ {b : Nat} {t : TypeId} {cs : Array Value}, Has w b t cs → (t = 124 ∨ t = 107) → b ∉ X := by
    intro b t cs hb hty hx
    obtain ⟨t2, cs2, h2, n1, n2⟩ := hX b hx
    unfold Has at hb h2
    rw [hb] at h2
    injection h2 with h2
    injection h2 with h2 h3
    subst h3
    rcases hty with e | e
    · exact n1 e
    · exact n2 e
  refine ⟨h.top.tur ht (one h.top (.inr rfl)), ?_, h.bal, h.ris⟩
  have key : ∀ {S : Tr}, IsTr w.heap.size w S → IsTr w.heap.size w' S := by
    intro S
    induction S with
    | nil => intro _; trivial
    | node b l k v lo le r ihl ihr =>
      rintro ⟨h1, h2, h3, h4⟩
      exact ⟨h1, h2.tur ht (one h2 (.inl rfl)), ihl h3, ihr h4⟩
  exact (key h.tr).mono ht.size
end Go.Proofs.YtcdjeibcnkpadaaDoor
