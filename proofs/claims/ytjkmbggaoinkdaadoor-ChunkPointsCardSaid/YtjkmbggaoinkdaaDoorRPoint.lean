/-
  A point that may be, made of any: the document's Point.
-/
import Derived.Test.YtjkmbggaoinkdaaDoorPtM
namespace Go.Proofs.YtjkmbggaoinkdaaDoor
open Go.RowKit Dg
set_option maxRecDepth 100000
theorem ownW_apart {B : Nat} {w : World} {v : Value} {L : List Wk} {q : Nat} {t : TypeId} {cs : Array Value} (h : OwnW B w v L) (hh : Has w q t cs) (ht : t ≠ 75) (p : Addr) (hp : p.block = q) (u : Value) : OwnW B (w.setCell p u) v L := by
  rcases h.2 with ⟨hv, hn⟩ | ⟨g, cap, cur, hv, hg, hg2, hc, hcm, hsz, ht2⟩
  · exact ⟨h.1, .inl ⟨hv, hn⟩⟩
  · refine ⟨h.1, .inr ⟨g, cap, cur, hv, hg, Has.far (t := 75) (cs := cur) hg2 (fun e => ?_) u, hc, hcm, hsz, ht2⟩⟩
    rw [hp] at e
    subst e
    unfold Has at hh
    rw [hh] at hg2
    simp at hg2
    exact ht hg2.2
/-- What stands while Point goes on. -/
structure PtS (w W : World) (q : Nat) (x y z : Int) (v : Value) (G : List Wk) : Prop where
  own : OwnW w.heap.size W v G
  bel : Below w.heap.size w W
  box : Has W q 43 #[.int .i64 x, .int .i64 y, .int .i64 z, v]
  res : Has W (w.heap.size + 1) 43 #[.int .i64 0, .int .i64 0, .int .i64 0, .slice none 0 0]
  ne : q ≠ w.heap.size + 1
  ge : w.heap.size ≤ q
section
variable {w W : World} {q : Nat} {x y z : Int} {v : Value} {G : List Wk}
theorem PtS.put0 (h : PtS w W q x y z v G) (x' : Int) : PtS w (W.setCell ⟨q, 0, none⟩ (.int .i64 x')) q x' y z v G :=
  ⟨ownW_apart h.own h.box (by decide) _ rfl _, h.bel.setCell (p := ⟨q, 0, none⟩) h.ge _, h.box.put 0 _, h.res.far (p := ⟨q, 0, none⟩) (fun e => h.ne e.symm) _, h.ne, h.ge⟩
theorem PtS.put1 (h : PtS w W q x y z v G) (y' : Int) : PtS w (W.setCell ⟨q, 1, none⟩ (.int .i64 y')) q x y' z v G :=
  ⟨ownW_apart h.own h.box (by decide) _ rfl _, h.bel.setCell (p := ⟨q, 1, none⟩) h.ge _, h.box.put 1 _, h.res.far (p := ⟨q, 1, none⟩) (fun e => h.ne e.symm) _, h.ne, h.ge⟩
theorem PtS.put2 (h : PtS w W q x y z v G) (z' : Int) : PtS w (W.setCell ⟨q, 2, none⟩ (.int .i64 z')) q x y z' v G :=
  ⟨ownW_apart h.own h.box (by decide) _ rfl _, h.bel.setCell (p := ⟨q, 2, none⟩) h.ge _, h.box.put 2 _, h.res.far (p := ⟨q, 2, none⟩) (fun e => h.ne e.symm) _, h.ne, h.ge⟩
theorem PtS.fin (h : PtS w W q x y z v G) : Has ((((W.setCell ⟨w.heap.size + 1, 0, none⟩ (.int .i64 x)).setCell ⟨w.heap.size + 1, 1, none⟩ (.int .i64 y)).setCell ⟨w.heap.size + 1, 2, none⟩ (.int .i64 z)).setCell ⟨w.heap.size + 1, 3, none⟩ v) (w.heap.size + 1) 43 #[.int .i64 x, .int .i64 y, .int .i64 z, v] ∧
    OwnW w.heap.size ((((W.setCell ⟨w.heap.size + 1, 0, none⟩ (.int .i64 x)).setCell ⟨w.heap.size + 1, 1, none⟩ (.int .i64 y)).setCell ⟨w.heap.size + 1, 2, none⟩ (.int .i64 z)).setCell ⟨w.heap.size + 1, 3, none⟩ v) v G ∧
    Below w.heap.size w ((((W.setCell ⟨w.heap.size + 1, 0, none⟩ (.int .i64 x)).setCell ⟨w.heap.size + 1, 1, none⟩ (.int .i64 y)).setCell ⟨w.heap.size + 1, 2, none⟩ (.int .i64 z)).setCell ⟨w.heap.size + 1, 3, none⟩ v) := by
  have h0 := h.res.put 0 (.int .i64 x)
  have h1 := h0.put 1 (.int .i64 y)
  have h2 := h1.put 2 (.int .i64 z)
  have o0 := ownW_apart h.own h.res (by decide) ⟨w.heap.size + 1, 0, none⟩ rfl (.int .i64 x)
  have o1 := ownW_apart o0 h0 (by decide) ⟨w.heap.size + 1, 1, none⟩ rfl (.int .i64 y)
  have o2 := ownW_apart o1 h1 (by decide) ⟨w.heap.size + 1, 2, none⟩ rfl (.int .i64 z)
  have b0 := h.bel.setCell (p := ⟨w.heap.size + 1, 0, none⟩) (by show w.heap.size ≤ w.heap.size + 1; omega) (.int .i64 x)
  have b1 := b0.setCell (p := ⟨w.heap.size + 1, 1, none⟩) (by show w.heap.size ≤ w.heap.size + 1; omega) (.int .i64 y)
  have b2 := b1.setCell (p := ⟨w.heap.size + 1, 2, none⟩) (by show w.heap.size ≤ w.heap.size + 1; omega) (.int .i64 z)
  exact ⟨h2.put 3 v, ownW_apart o2 h2 (by decide) ⟨w.heap.size + 1, 3, none⟩ rfl v, b2.setCell (p := ⟨w.heap.size + 1, 3, none⟩) (by show w.heap.size ≤ w.heap.size + 1; omega) v⟩
end
theorem put4 {W : World} {q : Nat} {t : TypeId} {a0 a1 a2 a3 : Value} (h : Has W q t #[a0, a1, a2, a3]) (u0 u1 u2 u3 : Value) : Has ((((W.setCell ⟨q, 0, none⟩ u0).setCell ⟨q, 1, none⟩ u1).setCell ⟨q, 2, none⟩ u2).setCell ⟨q, 3, none⟩ u3) q t #[u0, u1, u2, u3] := (((h.put 0 u0).put 1 u1).put 2 u2).put 3 u3
theorem absP_neg {x : Int} (h : x < 0) : absP x = -(x + 1) := by unfold absP; rw [if_pos h]
theorem absP_pos {x : Int} (h : ¬ x < 0) : absP x = x := by unfold absP; rw [if_neg h]
set_option maxHeartbeats 16000000 in
theorem rpoint_any {B : Nat} {A : Option Addr} {n c : Nat} {L : List Wk} (x y z : Int) (w : World) (h : OwnW B w (.slice A n c) L) (hsh : Short L) (hx : -9223372036854775808 ≤ x ∧ x ≤ 9223372036854775807) (hy : -9223372036854775808 ≤ y ∧ y ≤ 9223372036854775807) (hz : -9223372036854775808 ≤ z ∧ z ≤ 9223372036854775807) :
    Calls Tryd.prog 15 #[.agg #[.int .i64 x, .int .i64 y, .int .i64 z, .slice A n c]] w fun e w' => ∃ v, e = .returned (.agg #[.int .i64 (absP x), .int .i64 (absP y), .int .i64 (absP z), v]) ∧ Hid (OwnW w.heap.size w' v (goodW L)) ∧ Hid (Below w.heap.size w w') := by
  have HG := Lib.hid (fun W (hb : Below w.heap.size w W) => rgood11_any W (h.below hb) hsh)
  have HXb := Lib.hid ((Has.new w 43 #[.int .i64 x, .int .i64 y, .int .i64 z, .slice A n c]).alloc (.cells #[.int .i64 0, .int .i64 0, .int .i64 0, .slice none 0 0] 43))
  have hrs := Has.new (w.alloc (.cells #[.int .i64 x, .int .i64 y, .int .i64 z, .slice A n c] 43)) 43 #[.int .i64 0, .int .i64 0, .int .i64 0, .slice none 0 0]
  rw [show (w.alloc (.cells #[.int .i64 x, .int .i64 y, .int .i64 z, .slice A n c] 43)).heap.size = w.heap.size + 1 by simp] at hrs
  have HRS := Lib.hid hrs
  have HB := Lib.hid (((Below.refl w.heap.size w).alloc (Nat.le_refl _) (.cells #[.int .i64 x, .int .i64 y, .int .i64 z, .slice A n c] 43)).alloc (by simp) (.cells #[.int .i64 0, .int .i64 0, .int .i64 0, .slice none 0 0] 43))
  have hwx : x < 0 → IntKind.i64.wrap (x + 1) = x + 1 ∧ wrap64 (-(x + 1)) = -(x + 1) ∧ IntKind.i64.wrap (-(x + 1)) = -(x + 1) := fun h => by rw [IntKind.wrap_i64, IntKind.wrap_i64]; unfold wrap64; omega
  have hwy : y < 0 → IntKind.i64.wrap (y + 1) = y + 1 ∧ wrap64 (-(y + 1)) = -(y + 1) ∧ IntKind.i64.wrap (-(y + 1)) = -(y + 1) := fun h => by rw [IntKind.wrap_i64, IntKind.wrap_i64]; unfold wrap64; omega
  have hwz : z < 0 → IntKind.i64.wrap (z + 1) = z + 1 ∧ wrap64 (-(z + 1)) = -(z + 1) ∧ IntKind.i64.wrap (-(z + 1)) = -(z + 1) := fun h => by rw [IntKind.wrap_i64, IntKind.wrap_i64]; unfold wrap64; omega
  have HWX := Lib.hid hwx
  have HWY := Lib.hid hwy
  have HWZ := Lib.hid hwz
  clear h hsh hrs hwx hwy hwz
  generalize goodW L = G at *
  go_enter Tryd.func15, Tryd.ntmps15
  go_wp2_with fail
  obtain ⟨W1, hW1⟩ : ∃ W, W = (w.alloc (.cells #[.int .i64 x, .int .i64 y, .int .i64 z, .slice A n c] 43)).alloc (.cells #[.int .i64 0, .int .i64 0, .int .i64 0, .slice none 0 0] 43) := ⟨_, rfl⟩
  rw [← hW1] at HXb HRS HB ⊢
  have hs1 : W1.heap.size = w.heap.size + 2 := by rw [hW1]; simp
  clear hW1
  have x0 : W1.cell? ⟨w.heap.size, 0, none⟩ = some (.int .i64 x) := HXb.out.cell 0
  have x1 : W1.cell? ⟨w.heap.size, 1, none⟩ = some (.int .i64 y) := HXb.out.cell 1
  have x2 : W1.cell? ⟨w.heap.size, 2, none⟩ = some (.int .i64 z) := HXb.out.cell 2
  have x3 : W1.cell? ⟨w.heap.size, 3, none⟩ = some (.slice A n c) := HXb.out.cell 3
  have hS0 : (fun X : World => X.cell? ⟨w.heap.size, 0, none⟩ = some (.int .i64 x) ∧ X.cell? ⟨w.heap.size, 1, none⟩ = some (.int .i64 y) ∧ X.cell? ⟨w.heap.size, 2, none⟩ = some (.int .i64 z) ∧ X.cell? ⟨w.heap.size, 3, none⟩ = some (.slice A n c)) W1.drew := ⟨x0, x1, x2, x3⟩
  refine wp_region_held_drew (S := (fun X : World => X.cell? ⟨w.heap.size, 0, none⟩ = some (.int .i64 x) ∧ X.cell? ⟨w.heap.size, 1, none⟩ = some (.int .i64 y) ∧ X.cell? ⟨w.heap.size, 2, none⟩ = some (.int .i64 z) ∧ X.cell? ⟨w.heap.size, 3, none⟩ = some (.slice A n c))) (by kernel_rfl) hS0 (fun _ => ?_)
  (refine wpAnyH_take (i := 0) (v := ?_) rfl (by kernel_rfl) (by kernel_rfl) (by kernel_rfl) (fun _ _ _ h => h) (Or.inl ⟨by rfl, ?_⟩) (by assumption) ?_; rotate_left; (intro w hSw; (try dsimp only at hSw); go_simp; try with_reducible rfl); ((try simp only [List.getElem_toArray]); (try simp only [List.getElem_cons_succ]); (try simp only [List.getElem_cons_zero]); (try simp only [Act.put]); (try simp only [List.setIfInBounds_toArray]); (try simp only [List.set_cons_succ]); (try simp only [List.set_cons_zero])))
  (refine wpAnyH_take (i := 1) (v := ?_) rfl (by kernel_rfl) (by kernel_rfl) (by kernel_rfl) (fun _ _ _ h => h) (Or.inl ⟨by rfl, ?_⟩) (by assumption) ?_; rotate_left; (intro w hSw; (try dsimp only at hSw); go_simp; try with_reducible rfl); ((try simp only [List.getElem_toArray]); (try simp only [List.getElem_cons_succ]); (try simp only [List.getElem_cons_zero]); (try simp only [Act.put]); (try simp only [List.setIfInBounds_toArray]); (try simp only [List.set_cons_succ]); (try simp only [List.set_cons_zero])))
  (refine wpAnyH_take (i := 2) (v := ?_) rfl (by kernel_rfl) (by kernel_rfl) (by kernel_rfl) (fun _ _ _ h => h) (Or.inl ⟨by rfl, ?_⟩) (by assumption) ?_; rotate_left; (intro w hSw; (try dsimp only at hSw); go_simp; try with_reducible rfl); ((try simp only [List.getElem_toArray]); (try simp only [List.getElem_cons_succ]); (try simp only [List.getElem_cons_zero]); (try simp only [Act.put]); (try simp only [List.setIfInBounds_toArray]); (try simp only [List.set_cons_succ]); (try simp only [List.set_cons_zero])))
  (refine wpAnyH_take (i := 3) (v := ?_) rfl (by kernel_rfl) (by kernel_rfl) (by kernel_rfl) (fun _ _ _ h => h) (Or.inl ⟨by rfl, ?_⟩) (by assumption) ?_; rotate_left; (intro w hSw; (try dsimp only at hSw); go_simp; try with_reducible rfl); ((try simp only [List.getElem_toArray]); (try simp only [List.getElem_cons_succ]); (try simp only [List.getElem_cons_zero]); (try simp only [Act.put]); (try simp only [List.setIfInBounds_toArray]); (try simp only [List.set_cons_succ]); (try simp only [List.set_cons_zero])))
  (refine wpAnyH_take (i := 4) (v := ?_) rfl (by kernel_rfl) (by kernel_rfl) (by kernel_rfl) (fun _ _ _ h => h) (Or.inl ⟨by rfl, ?_⟩) (by assumption) ?_; rotate_left; (intro w hSw; (try dsimp only at hSw); go_simp; try with_reducible rfl); ((try simp only [List.getElem_toArray]); (try simp only [List.getElem_cons_succ]); (try simp only [List.getElem_cons_zero]); (try simp only [Act.put]); (try simp only [List.setIfInBounds_toArray]); (try simp only [List.set_cons_succ]); (try simp only [List.set_cons_zero])))
  (refine wpAnyH_take (i := 5) (v := ?_) rfl (by kernel_rfl) (by kernel_rfl) (by kernel_rfl) (fun _ _ _ h => h) (Or.inl ⟨by rfl, ?_⟩) (by assumption) ?_; rotate_left; (intro w hSw; (try dsimp only at hSw); go_simp; try with_reducible rfl); ((try simp only [List.getElem_toArray]); (try simp only [List.getElem_cons_succ]); (try simp only [List.getElem_cons_zero]); (try simp only [Act.put]); (try simp only [List.setIfInBounds_toArray]); (try simp only [List.set_cons_succ]); (try simp only [List.set_cons_zero])))
  (refine wpAnyH_take (i := 6) (v := ?_) rfl (by kernel_rfl) (by kernel_rfl) (by kernel_rfl) (fun _ _ _ h => h) (Or.inl ⟨by rfl, ?_⟩) (by assumption) ?_; rotate_left; (intro w hSw; (try dsimp only at hSw); go_simp; try with_reducible rfl); ((try simp only [List.getElem_toArray]); (try simp only [List.getElem_cons_succ]); (try simp only [List.getElem_cons_zero]); (try simp only [Act.put]); (try simp only [List.setIfInBounds_toArray]); (try simp only [List.set_cons_succ]); (try simp only [List.set_cons_zero])))
  (refine wpAnyH_take (i := 7) (v := ?_) rfl (by kernel_rfl) (by kernel_rfl) (by kernel_rfl) (fun _ _ _ h => h) (Or.inl ⟨by rfl, ?_⟩) (by assumption) ?_; rotate_left; (intro w hSw; (try dsimp only at hSw); go_simp; try with_reducible rfl); ((try simp only [List.getElem_toArray]); (try simp only [List.getElem_cons_succ]); (try simp only [List.getElem_cons_zero]); (try simp only [Act.put]); (try simp only [List.setIfInBounds_toArray]); (try simp only [List.set_cons_succ]); (try simp only [List.set_cons_zero])))
  refine wpAnyH_ready (rs := [8, 10]) (by kernel_rfl) (by simp) ?_
  refine AllReadyH.cons rfl (fun K2 hK2 => ?_) (AllReadyH.cons rfl (fun K2 hK2 => ?_) AllReadyH.nil)
  · go_simp
    refine (HG.out W1.drew HB.out.drew).mono ?_
    rintro e w2 ⟨v, rfl, ho2, hb2⟩
    have HB2 := Lib.hid (HB.out.drew.trans (hb2.out.mono HB.out.size))
    have HX2 := Lib.hid (HXb.out.drew.below hb2.out HXb.out.drew.lt)
    have HR2 := Lib.hid (HRS.out.drew.below hb2.out HRS.out.drew.lt)
    have HO2 := Lib.hid (ownW_down ho2.out HB.out.size)
    obtain ⟨Av, nv, cv, rfl, _, _, _, _, _⟩ := ownW_open ho2.out
    have hs2 : w.heap.size + 2 ≤ w2.heap.size := by rw [← hs1]; exact hb2.out.size
    clear ho2 hb2 HG
    have hS2 : (fun X : World => X.cell? ⟨w.heap.size, 0, none⟩ = some (.int .i64 x) ∧ X.cell? ⟨w.heap.size, 1, none⟩ = some (.int .i64 y) ∧ X.cell? ⟨w.heap.size, 2, none⟩ = some (.int .i64 z) ∧ X.cell? ⟨w.heap.size, 3, none⟩ = some (.slice A n c)) w2 := ⟨HX2.out.cell 0, HX2.out.cell 1, HX2.out.cell 2, HX2.out.cell 3⟩
    go_wp2_with fail
    refine hK2.out _ _ (by (try dsimp only); exact hS2) (fun _ => ?_)
    clear hK2 K2
    (try simp only [List.getElem_toArray]); (try simp only [List.getElem_cons_succ]); (try simp only [List.getElem_cons_zero]); (try simp only [Act.put]); (try simp only [List.setIfInBounds_toArray]); (try simp only [List.set_cons_succ]); (try simp only [List.set_cons_zero])
    (refine wpAnyH_take (i := 9) (v := ?_) rfl (by kernel_rfl) (by kernel_rfl) (by kernel_rfl) (fun _ _ _ h => h) (Or.inl ⟨by rfl, ?_⟩) (by assumption) ?_; rotate_left; (intro w hSw; (try dsimp only at hSw); go_simp; try with_reducible rfl); ((try simp only [List.getElem_toArray]); (try simp only [List.getElem_cons_succ]); (try simp only [List.getElem_cons_zero]); (try simp only [Act.put]); (try simp only [List.setIfInBounds_toArray]); (try simp only [List.set_cons_succ]); (try simp only [List.set_cons_zero])))
    have HX3 := Lib.hid (HX2.out.alloc (.cells #[.int .i64 0, .int .i64 0, .int .i64 0, .slice none 0 0] 43))
    have HR3 := Lib.hid (HR2.out.alloc (.cells #[.int .i64 0, .int .i64 0, .int .i64 0, .slice none 0 0] 43))
    have HN3 := Lib.hid (Has.new w2 43 #[.int .i64 0, .int .i64 0, .int .i64 0, .slice none 0 0])
    have HB3 := Lib.hid (HB2.out.alloc HB2.out.size (.cells #[.int .i64 0, .int .i64 0, .int .i64 0, .slice none 0 0] 43))
    have HO3 : Hid (OwnW w.heap.size (w2.alloc (.cells #[.int .i64 0, .int .i64 0, .int .i64 0, .slice none 0 0] 43)) (.slice Av nv cv) G) := HO2.out.alloc _
    have hS3 : (fun X : World => X.cell? ⟨w.heap.size, 0, none⟩ = some (.int .i64 x) ∧ X.cell? ⟨w.heap.size, 1, none⟩ = some (.int .i64 y) ∧ X.cell? ⟨w.heap.size, 2, none⟩ = some (.int .i64 z) ∧ X.cell? ⟨w.heap.size, 3, none⟩ = some (.slice A n c)) (w2.alloc (.cells #[.int .i64 0, .int .i64 0, .int .i64 0, .slice none 0 0] 43)) := ⟨HX3.out.cell 0, HX3.out.cell 1, HX3.out.cell 2, HX3.out.cell 3⟩
    refine wpAnyH_ready (rs := [10]) (by kernel_rfl) (by simp) ?_
    refine AllReadyH.cons rfl (fun K2 hK2 => ?_) AllReadyH.nil
    go_simp
    refine hK2.out _ _ (by (try dsimp only); exact hS3) (fun _ => ?_)
    clear hK2 K2
    (try simp only [List.getElem_toArray]); (try simp only [List.getElem_cons_succ]); (try simp only [List.getElem_cons_zero]); (try simp only [Act.put]); (try simp only [List.setIfInBounds_toArray]); (try simp only [List.set_cons_succ]); (try simp only [List.set_cons_zero])
    obtain ⟨W2, hW2⟩ : ∃ W, W = w2.alloc (.cells #[.int .i64 0, .int .i64 0, .int .i64 0, .slice none 0 0] 43) := ⟨_, rfl⟩
    rw [← hW2] at HX3 HR3 HN3 HB3 HO3 ⊢
    clear hW2 hS3 hS2 HX2 HR2 HB2 HO2
    obtain ⟨q, hq⟩ : ∃ q, w2.heap.size = q := ⟨_, rfl⟩
    rw [hq] at HN3 hs2 ⊢
    clear hq
    have HS := Lib.hid (PtS.mk (x := x) (y := y) (z := z) (v := .slice Av nv cv) (w := w) (q := q) (G := G) (W := (((W2.setCell ⟨q, 0, none⟩ (.int .i64 x)).setCell ⟨q, 1, none⟩ (.int .i64 y)).setCell ⟨q, 2, none⟩ (.int .i64 z)).setCell ⟨q, 3, none⟩ (.slice Av nv cv)) (by
      have h0 := HN3.out.put 0 (.int .i64 x)
      have h1 := h0.put 1 (.int .i64 y)
      have h2 := h1.put 2 (.int .i64 z)
      exact ownW_apart (ownW_apart (ownW_apart (ownW_apart HO3.out HN3.out (by decide) _ rfl _) h0 (by decide) _ rfl _) h1 (by decide) _ rfl _) h2 (by decide) _ rfl _) ((((HB3.out.setCell (p := ⟨q, 0, none⟩) (by show w.heap.size ≤ q; omega) _).setCell (p := ⟨q, 1, none⟩) (by show w.heap.size ≤ q; omega) _).setCell (p := ⟨q, 2, none⟩) (by show w.heap.size ≤ q; omega) _).setCell (p := ⟨q, 3, none⟩) (by show w.heap.size ≤ q; omega) _) (put4 HN3.out _ _ _ _) ((((HR3.out.far (p := ⟨q, 0, none⟩) (by show w.heap.size + 1 ≠ q; omega) _).far (p := ⟨q, 1, none⟩) (by show w.heap.size + 1 ≠ q; omega) _).far (p := ⟨q, 2, none⟩) (by show w.heap.size + 1 ≠ q; omega) _).far (p := ⟨q, 3, none⟩) (by show w.heap.size + 1 ≠ q; omega) _) (by omega) (by omega))
    have hS4 : (fun X : World => X.cell? ⟨w.heap.size, 0, none⟩ = some (.int .i64 x) ∧ X.cell? ⟨w.heap.size, 1, none⟩ = some (.int .i64 y) ∧ X.cell? ⟨w.heap.size, 2, none⟩ = some (.int .i64 z) ∧ X.cell? ⟨w.heap.size, 3, none⟩ = some (.slice A n c)) ((((W2.setCell ⟨q, 0, none⟩ (.int .i64 x)).setCell ⟨q, 1, none⟩ (.int .i64 y)).setCell ⟨q, 2, none⟩ (.int .i64 z)).setCell ⟨q, 3, none⟩ (.slice Av nv cv)) := by
      have hh := (((HX3.out.far (p := ⟨q, 0, none⟩) (by show w.heap.size ≠ q; omega) (.int .i64 x)).far (p := ⟨q, 1, none⟩) (by show w.heap.size ≠ q; omega) (.int .i64 y)).far (p := ⟨q, 2, none⟩) (by show w.heap.size ≠ q; omega) (.int .i64 z)).far (p := ⟨q, 3, none⟩) (by show w.heap.size ≠ q; omega) (.slice Av nv cv)
      exact ⟨hh.cell 0, hh.cell 1, hh.cell 2, hh.cell 3⟩
    have n0 : W2.cell? ⟨q, 0, none⟩ = some (.int .i64 0) := HN3.out.cell 0
    have n1 : W2.cell? ⟨q, 1, none⟩ = some (.int .i64 0) := HN3.out.cell 1
    have n2 : W2.cell? ⟨q, 2, none⟩ = some (.int .i64 0) := HN3.out.cell 2
    have n3 : W2.cell? ⟨q, 3, none⟩ = some (.slice none 0 0) := HN3.out.cell 3
    have m0 : W2.frozen? ⟨q, 0, none⟩ = false := HN3.out.free 0
    have m1 : W2.frozen? ⟨q, 1, none⟩ = false := HN3.out.free 1
    have m2 : W2.frozen? ⟨q, 2, none⟩ = false := HN3.out.free 2
    have m3 : W2.frozen? ⟨q, 3, none⟩ = false := HN3.out.free 3
    refine wpAnyH_ready (rs := [11]) (by kernel_rfl) (by simp) ?_
    refine AllReadyH.cons rfl (fun K2 hK2 => ?_) AllReadyH.nil
    go_simp
    refine hK2.out _ _ (by (try dsimp only); exact hS4) (fun _ => ?_)
    clear hK2 K2
    (try simp only [List.getElem_toArray]); (try simp only [List.getElem_cons_succ]); (try simp only [List.getElem_cons_zero]); (try simp only [Act.put]); (try simp only [List.setIfInBounds_toArray]); (try simp only [List.set_cons_succ]); (try simp only [List.set_cons_zero])
    refine wpAnyH_done (by kernel_rfl) ?_ _
    obtain ⟨W3, hW3⟩ : ∃ W, W = (((W2.setCell ⟨q, 0, none⟩ (.int .i64 x)).setCell ⟨q, 1, none⟩ (.int .i64 y)).setCell ⟨q, 2, none⟩ (.int .i64 z)).setCell ⟨q, 3, none⟩ (.slice Av nv cv) := ⟨_, rfl⟩
    rw [← hW3] at HS ⊢
    clear hW3 hS4 n0 n1 n2 n3 m0 m1 m2 m3 HX3 HR3 HN3 HB3 HO3 x0 x1 x2 x3 HXb HRS HB
    by_cases hx0 : x < 0
    · by_cases hy0 : y < 0
      · by_cases hz0 : z < 0
        · have b00 : (W3).cell? ⟨q, 0, none⟩ = some (.int .i64 (x)) := HS.out.box.cell 0
          have b01 : (W3).cell? ⟨q, 1, none⟩ = some (.int .i64 (y)) := HS.out.box.cell 1
          have b02 : (W3).cell? ⟨q, 2, none⟩ = some (.int .i64 (z)) := HS.out.box.cell 2
          have b03 : (W3).cell? ⟨q, 3, none⟩ = some (.slice Av nv cv) := HS.out.box.cell 3
          have g00 : (W3).frozen? ⟨q, 0, none⟩ = false := HS.out.box.free 0
          have g01 : (W3).frozen? ⟨q, 1, none⟩ = false := HS.out.box.free 1
          have g02 : (W3).frozen? ⟨q, 2, none⟩ = false := HS.out.box.free 2
          obtain ⟨wa1, wb1, wc1⟩ := HWX.out hx0
          have HS1 := Lib.hid (HS.out.put0 (-(x + 1)))
          have b10 : ((W3.setCell ⟨q, 0, none⟩ (.int .i64 (-(x + 1))))).cell? ⟨q, 0, none⟩ = some (.int .i64 (-(x + 1))) := HS1.out.box.cell 0
          have b11 : ((W3.setCell ⟨q, 0, none⟩ (.int .i64 (-(x + 1))))).cell? ⟨q, 1, none⟩ = some (.int .i64 (y)) := HS1.out.box.cell 1
          have b12 : ((W3.setCell ⟨q, 0, none⟩ (.int .i64 (-(x + 1))))).cell? ⟨q, 2, none⟩ = some (.int .i64 (z)) := HS1.out.box.cell 2
          have b13 : ((W3.setCell ⟨q, 0, none⟩ (.int .i64 (-(x + 1))))).cell? ⟨q, 3, none⟩ = some (.slice Av nv cv) := HS1.out.box.cell 3
          have g10 : ((W3.setCell ⟨q, 0, none⟩ (.int .i64 (-(x + 1))))).frozen? ⟨q, 0, none⟩ = false := HS1.out.box.free 0
          have g11 : ((W3.setCell ⟨q, 0, none⟩ (.int .i64 (-(x + 1))))).frozen? ⟨q, 1, none⟩ = false := HS1.out.box.free 1
          have g12 : ((W3.setCell ⟨q, 0, none⟩ (.int .i64 (-(x + 1))))).frozen? ⟨q, 2, none⟩ = false := HS1.out.box.free 2
          obtain ⟨wa2, wb2, wc2⟩ := HWY.out hy0
          have HS2 := Lib.hid (HS1.out.put1 (-(y + 1)))
          have b20 : (((W3.setCell ⟨q, 0, none⟩ (.int .i64 (-(x + 1)))).setCell ⟨q, 1, none⟩ (.int .i64 (-(y + 1))))).cell? ⟨q, 0, none⟩ = some (.int .i64 (-(x + 1))) := HS2.out.box.cell 0
          have b21 : (((W3.setCell ⟨q, 0, none⟩ (.int .i64 (-(x + 1)))).setCell ⟨q, 1, none⟩ (.int .i64 (-(y + 1))))).cell? ⟨q, 1, none⟩ = some (.int .i64 (-(y + 1))) := HS2.out.box.cell 1
          have b22 : (((W3.setCell ⟨q, 0, none⟩ (.int .i64 (-(x + 1)))).setCell ⟨q, 1, none⟩ (.int .i64 (-(y + 1))))).cell? ⟨q, 2, none⟩ = some (.int .i64 (z)) := HS2.out.box.cell 2
          have b23 : (((W3.setCell ⟨q, 0, none⟩ (.int .i64 (-(x + 1)))).setCell ⟨q, 1, none⟩ (.int .i64 (-(y + 1))))).cell? ⟨q, 3, none⟩ = some (.slice Av nv cv) := HS2.out.box.cell 3
          have g20 : (((W3.setCell ⟨q, 0, none⟩ (.int .i64 (-(x + 1)))).setCell ⟨q, 1, none⟩ (.int .i64 (-(y + 1))))).frozen? ⟨q, 0, none⟩ = false := HS2.out.box.free 0
          have g21 : (((W3.setCell ⟨q, 0, none⟩ (.int .i64 (-(x + 1)))).setCell ⟨q, 1, none⟩ (.int .i64 (-(y + 1))))).frozen? ⟨q, 1, none⟩ = false := HS2.out.box.free 1
          have g22 : (((W3.setCell ⟨q, 0, none⟩ (.int .i64 (-(x + 1)))).setCell ⟨q, 1, none⟩ (.int .i64 (-(y + 1))))).frozen? ⟨q, 2, none⟩ = false := HS2.out.box.free 2
          obtain ⟨wa3, wb3, wc3⟩ := HWZ.out hz0
          have HS3 := Lib.hid (HS2.out.put2 (-(z + 1)))
          have b30 : ((((W3.setCell ⟨q, 0, none⟩ (.int .i64 (-(x + 1)))).setCell ⟨q, 1, none⟩ (.int .i64 (-(y + 1)))).setCell ⟨q, 2, none⟩ (.int .i64 (-(z + 1))))).cell? ⟨q, 0, none⟩ = some (.int .i64 (-(x + 1))) := HS3.out.box.cell 0
          have b31 : ((((W3.setCell ⟨q, 0, none⟩ (.int .i64 (-(x + 1)))).setCell ⟨q, 1, none⟩ (.int .i64 (-(y + 1)))).setCell ⟨q, 2, none⟩ (.int .i64 (-(z + 1))))).cell? ⟨q, 1, none⟩ = some (.int .i64 (-(y + 1))) := HS3.out.box.cell 1
          have b32 : ((((W3.setCell ⟨q, 0, none⟩ (.int .i64 (-(x + 1)))).setCell ⟨q, 1, none⟩ (.int .i64 (-(y + 1)))).setCell ⟨q, 2, none⟩ (.int .i64 (-(z + 1))))).cell? ⟨q, 2, none⟩ = some (.int .i64 (-(z + 1))) := HS3.out.box.cell 2
          have b33 : ((((W3.setCell ⟨q, 0, none⟩ (.int .i64 (-(x + 1)))).setCell ⟨q, 1, none⟩ (.int .i64 (-(y + 1)))).setCell ⟨q, 2, none⟩ (.int .i64 (-(z + 1))))).cell? ⟨q, 3, none⟩ = some (.slice Av nv cv) := HS3.out.box.cell 3
          have g30 : ((((W3.setCell ⟨q, 0, none⟩ (.int .i64 (-(x + 1)))).setCell ⟨q, 1, none⟩ (.int .i64 (-(y + 1)))).setCell ⟨q, 2, none⟩ (.int .i64 (-(z + 1))))).frozen? ⟨q, 0, none⟩ = false := HS3.out.box.free 0
          have g31 : ((((W3.setCell ⟨q, 0, none⟩ (.int .i64 (-(x + 1)))).setCell ⟨q, 1, none⟩ (.int .i64 (-(y + 1)))).setCell ⟨q, 2, none⟩ (.int .i64 (-(z + 1))))).frozen? ⟨q, 1, none⟩ = false := HS3.out.box.free 1
          have g32 : ((((W3.setCell ⟨q, 0, none⟩ (.int .i64 (-(x + 1)))).setCell ⟨q, 1, none⟩ (.int .i64 (-(y + 1)))).setCell ⟨q, 2, none⟩ (.int .i64 (-(z + 1))))).frozen? ⟨q, 2, none⟩ = false := HS3.out.box.free 2
          have r0 : ((((W3.setCell ⟨q, 0, none⟩ (.int .i64 (-(x + 1)))).setCell ⟨q, 1, none⟩ (.int .i64 (-(y + 1)))).setCell ⟨q, 2, none⟩ (.int .i64 (-(z + 1))))).cell? ⟨w.heap.size + 1, 0, none⟩ = some (.int .i64 0) := HS3.out.res.cell 0
          have r1 : ((((W3.setCell ⟨q, 0, none⟩ (.int .i64 (-(x + 1)))).setCell ⟨q, 1, none⟩ (.int .i64 (-(y + 1)))).setCell ⟨q, 2, none⟩ (.int .i64 (-(z + 1))))).cell? ⟨w.heap.size + 1, 1, none⟩ = some (.int .i64 0) := HS3.out.res.cell 1
          have r2 : ((((W3.setCell ⟨q, 0, none⟩ (.int .i64 (-(x + 1)))).setCell ⟨q, 1, none⟩ (.int .i64 (-(y + 1)))).setCell ⟨q, 2, none⟩ (.int .i64 (-(z + 1))))).cell? ⟨w.heap.size + 1, 2, none⟩ = some (.int .i64 0) := HS3.out.res.cell 2
          have r3 : ((((W3.setCell ⟨q, 0, none⟩ (.int .i64 (-(x + 1)))).setCell ⟨q, 1, none⟩ (.int .i64 (-(y + 1)))).setCell ⟨q, 2, none⟩ (.int .i64 (-(z + 1))))).cell? ⟨w.heap.size + 1, 3, none⟩ = some (.slice none 0 0) := HS3.out.res.cell 3
          have t0 : ((((W3.setCell ⟨q, 0, none⟩ (.int .i64 (-(x + 1)))).setCell ⟨q, 1, none⟩ (.int .i64 (-(y + 1)))).setCell ⟨q, 2, none⟩ (.int .i64 (-(z + 1))))).frozen? ⟨w.heap.size + 1, 0, none⟩ = false := HS3.out.res.free 0
          have t1 : ((((W3.setCell ⟨q, 0, none⟩ (.int .i64 (-(x + 1)))).setCell ⟨q, 1, none⟩ (.int .i64 (-(y + 1)))).setCell ⟨q, 2, none⟩ (.int .i64 (-(z + 1))))).frozen? ⟨w.heap.size + 1, 1, none⟩ = false := HS3.out.res.free 1
          have t2 : ((((W3.setCell ⟨q, 0, none⟩ (.int .i64 (-(x + 1)))).setCell ⟨q, 1, none⟩ (.int .i64 (-(y + 1)))).setCell ⟨q, 2, none⟩ (.int .i64 (-(z + 1))))).frozen? ⟨w.heap.size + 1, 2, none⟩ = false := HS3.out.res.free 2
          have t3 : ((((W3.setCell ⟨q, 0, none⟩ (.int .i64 (-(x + 1)))).setCell ⟨q, 1, none⟩ (.int .i64 (-(y + 1)))).setCell ⟨q, 2, none⟩ (.int .i64 (-(z + 1))))).frozen? ⟨w.heap.size + 1, 3, none⟩ = false := HS3.out.res.free 3
          obtain ⟨f1, f2, f3⟩ := HS3.out.fin
          have F1 := Lib.hid f1
          have F2 := Lib.hid f2
          have F3 := Lib.hid f3
          clear f1 f2 f3
          go_wp2_with fail
          exact bodyPost_ret (ptEnd _ (w.heap.size + 1) _ _ _ _ _ rfl F1.out) rfl ⟨_, (by rw [absP_neg (x := x) (by omega), absP_neg (x := y) (by omega), absP_neg (x := z) (by omega)]; try rfl), F2, F3⟩
        · have b00 : (W3).cell? ⟨q, 0, none⟩ = some (.int .i64 (x)) := HS.out.box.cell 0
          have b01 : (W3).cell? ⟨q, 1, none⟩ = some (.int .i64 (y)) := HS.out.box.cell 1
          have b02 : (W3).cell? ⟨q, 2, none⟩ = some (.int .i64 (z)) := HS.out.box.cell 2
          have b03 : (W3).cell? ⟨q, 3, none⟩ = some (.slice Av nv cv) := HS.out.box.cell 3
          have g00 : (W3).frozen? ⟨q, 0, none⟩ = false := HS.out.box.free 0
          have g01 : (W3).frozen? ⟨q, 1, none⟩ = false := HS.out.box.free 1
          have g02 : (W3).frozen? ⟨q, 2, none⟩ = false := HS.out.box.free 2
          obtain ⟨wa1, wb1, wc1⟩ := HWX.out hx0
          have HS1 := Lib.hid (HS.out.put0 (-(x + 1)))
          have b10 : ((W3.setCell ⟨q, 0, none⟩ (.int .i64 (-(x + 1))))).cell? ⟨q, 0, none⟩ = some (.int .i64 (-(x + 1))) := HS1.out.box.cell 0
          have b11 : ((W3.setCell ⟨q, 0, none⟩ (.int .i64 (-(x + 1))))).cell? ⟨q, 1, none⟩ = some (.int .i64 (y)) := HS1.out.box.cell 1
          have b12 : ((W3.setCell ⟨q, 0, none⟩ (.int .i64 (-(x + 1))))).cell? ⟨q, 2, none⟩ = some (.int .i64 (z)) := HS1.out.box.cell 2
          have b13 : ((W3.setCell ⟨q, 0, none⟩ (.int .i64 (-(x + 1))))).cell? ⟨q, 3, none⟩ = some (.slice Av nv cv) := HS1.out.box.cell 3
          have g10 : ((W3.setCell ⟨q, 0, none⟩ (.int .i64 (-(x + 1))))).frozen? ⟨q, 0, none⟩ = false := HS1.out.box.free 0
          have g11 : ((W3.setCell ⟨q, 0, none⟩ (.int .i64 (-(x + 1))))).frozen? ⟨q, 1, none⟩ = false := HS1.out.box.free 1
          have g12 : ((W3.setCell ⟨q, 0, none⟩ (.int .i64 (-(x + 1))))).frozen? ⟨q, 2, none⟩ = false := HS1.out.box.free 2
          obtain ⟨wa2, wb2, wc2⟩ := HWY.out hy0
          have HS2 := Lib.hid (HS1.out.put1 (-(y + 1)))
          have b20 : (((W3.setCell ⟨q, 0, none⟩ (.int .i64 (-(x + 1)))).setCell ⟨q, 1, none⟩ (.int .i64 (-(y + 1))))).cell? ⟨q, 0, none⟩ = some (.int .i64 (-(x + 1))) := HS2.out.box.cell 0
          have b21 : (((W3.setCell ⟨q, 0, none⟩ (.int .i64 (-(x + 1)))).setCell ⟨q, 1, none⟩ (.int .i64 (-(y + 1))))).cell? ⟨q, 1, none⟩ = some (.int .i64 (-(y + 1))) := HS2.out.box.cell 1
          have b22 : (((W3.setCell ⟨q, 0, none⟩ (.int .i64 (-(x + 1)))).setCell ⟨q, 1, none⟩ (.int .i64 (-(y + 1))))).cell? ⟨q, 2, none⟩ = some (.int .i64 (z)) := HS2.out.box.cell 2
          have b23 : (((W3.setCell ⟨q, 0, none⟩ (.int .i64 (-(x + 1)))).setCell ⟨q, 1, none⟩ (.int .i64 (-(y + 1))))).cell? ⟨q, 3, none⟩ = some (.slice Av nv cv) := HS2.out.box.cell 3
          have g20 : (((W3.setCell ⟨q, 0, none⟩ (.int .i64 (-(x + 1)))).setCell ⟨q, 1, none⟩ (.int .i64 (-(y + 1))))).frozen? ⟨q, 0, none⟩ = false := HS2.out.box.free 0
          have g21 : (((W3.setCell ⟨q, 0, none⟩ (.int .i64 (-(x + 1)))).setCell ⟨q, 1, none⟩ (.int .i64 (-(y + 1))))).frozen? ⟨q, 1, none⟩ = false := HS2.out.box.free 1
          have g22 : (((W3.setCell ⟨q, 0, none⟩ (.int .i64 (-(x + 1)))).setCell ⟨q, 1, none⟩ (.int .i64 (-(y + 1))))).frozen? ⟨q, 2, none⟩ = false := HS2.out.box.free 2
          have r0 : (((W3.setCell ⟨q, 0, none⟩ (.int .i64 (-(x + 1)))).setCell ⟨q, 1, none⟩ (.int .i64 (-(y + 1))))).cell? ⟨w.heap.size + 1, 0, none⟩ = some (.int .i64 0) := HS2.out.res.cell 0
          have r1 : (((W3.setCell ⟨q, 0, none⟩ (.int .i64 (-(x + 1)))).setCell ⟨q, 1, none⟩ (.int .i64 (-(y + 1))))).cell? ⟨w.heap.size + 1, 1, none⟩ = some (.int .i64 0) := HS2.out.res.cell 1
          have r2 : (((W3.setCell ⟨q, 0, none⟩ (.int .i64 (-(x + 1)))).setCell ⟨q, 1, none⟩ (.int .i64 (-(y + 1))))).cell? ⟨w.heap.size + 1, 2, none⟩ = some (.int .i64 0) := HS2.out.res.cell 2
          have r3 : (((W3.setCell ⟨q, 0, none⟩ (.int .i64 (-(x + 1)))).setCell ⟨q, 1, none⟩ (.int .i64 (-(y + 1))))).cell? ⟨w.heap.size + 1, 3, none⟩ = some (.slice none 0 0) := HS2.out.res.cell 3
          have t0 : (((W3.setCell ⟨q, 0, none⟩ (.int .i64 (-(x + 1)))).setCell ⟨q, 1, none⟩ (.int .i64 (-(y + 1))))).frozen? ⟨w.heap.size + 1, 0, none⟩ = false := HS2.out.res.free 0
          have t1 : (((W3.setCell ⟨q, 0, none⟩ (.int .i64 (-(x + 1)))).setCell ⟨q, 1, none⟩ (.int .i64 (-(y + 1))))).frozen? ⟨w.heap.size + 1, 1, none⟩ = false := HS2.out.res.free 1
          have t2 : (((W3.setCell ⟨q, 0, none⟩ (.int .i64 (-(x + 1)))).setCell ⟨q, 1, none⟩ (.int .i64 (-(y + 1))))).frozen? ⟨w.heap.size + 1, 2, none⟩ = false := HS2.out.res.free 2
          have t3 : (((W3.setCell ⟨q, 0, none⟩ (.int .i64 (-(x + 1)))).setCell ⟨q, 1, none⟩ (.int .i64 (-(y + 1))))).frozen? ⟨w.heap.size + 1, 3, none⟩ = false := HS2.out.res.free 3
          obtain ⟨f1, f2, f3⟩ := HS2.out.fin
          have F1 := Lib.hid f1
          have F2 := Lib.hid f2
          have F3 := Lib.hid f3
          clear f1 f2 f3
          go_wp2_with fail
          exact bodyPost_ret (ptEnd _ (w.heap.size + 1) _ _ _ _ _ rfl F1.out) rfl ⟨_, (by rw [absP_neg (x := x) (by omega), absP_neg (x := y) (by omega), absP_pos (x := z) (by omega)]; try rfl), F2, F3⟩
      · by_cases hz0 : z < 0
        · have b00 : (W3).cell? ⟨q, 0, none⟩ = some (.int .i64 (x)) := HS.out.box.cell 0
          have b01 : (W3).cell? ⟨q, 1, none⟩ = some (.int .i64 (y)) := HS.out.box.cell 1
          have b02 : (W3).cell? ⟨q, 2, none⟩ = some (.int .i64 (z)) := HS.out.box.cell 2
          have b03 : (W3).cell? ⟨q, 3, none⟩ = some (.slice Av nv cv) := HS.out.box.cell 3
          have g00 : (W3).frozen? ⟨q, 0, none⟩ = false := HS.out.box.free 0
          have g01 : (W3).frozen? ⟨q, 1, none⟩ = false := HS.out.box.free 1
          have g02 : (W3).frozen? ⟨q, 2, none⟩ = false := HS.out.box.free 2
          obtain ⟨wa1, wb1, wc1⟩ := HWX.out hx0
          have HS1 := Lib.hid (HS.out.put0 (-(x + 1)))
          have b10 : ((W3.setCell ⟨q, 0, none⟩ (.int .i64 (-(x + 1))))).cell? ⟨q, 0, none⟩ = some (.int .i64 (-(x + 1))) := HS1.out.box.cell 0
          have b11 : ((W3.setCell ⟨q, 0, none⟩ (.int .i64 (-(x + 1))))).cell? ⟨q, 1, none⟩ = some (.int .i64 (y)) := HS1.out.box.cell 1
          have b12 : ((W3.setCell ⟨q, 0, none⟩ (.int .i64 (-(x + 1))))).cell? ⟨q, 2, none⟩ = some (.int .i64 (z)) := HS1.out.box.cell 2
          have b13 : ((W3.setCell ⟨q, 0, none⟩ (.int .i64 (-(x + 1))))).cell? ⟨q, 3, none⟩ = some (.slice Av nv cv) := HS1.out.box.cell 3
          have g10 : ((W3.setCell ⟨q, 0, none⟩ (.int .i64 (-(x + 1))))).frozen? ⟨q, 0, none⟩ = false := HS1.out.box.free 0
          have g11 : ((W3.setCell ⟨q, 0, none⟩ (.int .i64 (-(x + 1))))).frozen? ⟨q, 1, none⟩ = false := HS1.out.box.free 1
          have g12 : ((W3.setCell ⟨q, 0, none⟩ (.int .i64 (-(x + 1))))).frozen? ⟨q, 2, none⟩ = false := HS1.out.box.free 2
          obtain ⟨wa2, wb2, wc2⟩ := HWZ.out hz0
          have HS2 := Lib.hid (HS1.out.put2 (-(z + 1)))
          have b20 : (((W3.setCell ⟨q, 0, none⟩ (.int .i64 (-(x + 1)))).setCell ⟨q, 2, none⟩ (.int .i64 (-(z + 1))))).cell? ⟨q, 0, none⟩ = some (.int .i64 (-(x + 1))) := HS2.out.box.cell 0
          have b21 : (((W3.setCell ⟨q, 0, none⟩ (.int .i64 (-(x + 1)))).setCell ⟨q, 2, none⟩ (.int .i64 (-(z + 1))))).cell? ⟨q, 1, none⟩ = some (.int .i64 (y)) := HS2.out.box.cell 1
          have b22 : (((W3.setCell ⟨q, 0, none⟩ (.int .i64 (-(x + 1)))).setCell ⟨q, 2, none⟩ (.int .i64 (-(z + 1))))).cell? ⟨q, 2, none⟩ = some (.int .i64 (-(z + 1))) := HS2.out.box.cell 2
          have b23 : (((W3.setCell ⟨q, 0, none⟩ (.int .i64 (-(x + 1)))).setCell ⟨q, 2, none⟩ (.int .i64 (-(z + 1))))).cell? ⟨q, 3, none⟩ = some (.slice Av nv cv) := HS2.out.box.cell 3
          have g20 : (((W3.setCell ⟨q, 0, none⟩ (.int .i64 (-(x + 1)))).setCell ⟨q, 2, none⟩ (.int .i64 (-(z + 1))))).frozen? ⟨q, 0, none⟩ = false := HS2.out.box.free 0
          have g21 : (((W3.setCell ⟨q, 0, none⟩ (.int .i64 (-(x + 1)))).setCell ⟨q, 2, none⟩ (.int .i64 (-(z + 1))))).frozen? ⟨q, 1, none⟩ = false := HS2.out.box.free 1
          have g22 : (((W3.setCell ⟨q, 0, none⟩ (.int .i64 (-(x + 1)))).setCell ⟨q, 2, none⟩ (.int .i64 (-(z + 1))))).frozen? ⟨q, 2, none⟩ = false := HS2.out.box.free 2
          have r0 : (((W3.setCell ⟨q, 0, none⟩ (.int .i64 (-(x + 1)))).setCell ⟨q, 2, none⟩ (.int .i64 (-(z + 1))))).cell? ⟨w.heap.size + 1, 0, none⟩ = some (.int .i64 0) := HS2.out.res.cell 0
          have r1 : (((W3.setCell ⟨q, 0, none⟩ (.int .i64 (-(x + 1)))).setCell ⟨q, 2, none⟩ (.int .i64 (-(z + 1))))).cell? ⟨w.heap.size + 1, 1, none⟩ = some (.int .i64 0) := HS2.out.res.cell 1
          have r2 : (((W3.setCell ⟨q, 0, none⟩ (.int .i64 (-(x + 1)))).setCell ⟨q, 2, none⟩ (.int .i64 (-(z + 1))))).cell? ⟨w.heap.size + 1, 2, none⟩ = some (.int .i64 0) := HS2.out.res.cell 2
          have r3 : (((W3.setCell ⟨q, 0, none⟩ (.int .i64 (-(x + 1)))).setCell ⟨q, 2, none⟩ (.int .i64 (-(z + 1))))).cell? ⟨w.heap.size + 1, 3, none⟩ = some (.slice none 0 0) := HS2.out.res.cell 3
          have t0 : (((W3.setCell ⟨q, 0, none⟩ (.int .i64 (-(x + 1)))).setCell ⟨q, 2, none⟩ (.int .i64 (-(z + 1))))).frozen? ⟨w.heap.size + 1, 0, none⟩ = false := HS2.out.res.free 0
          have t1 : (((W3.setCell ⟨q, 0, none⟩ (.int .i64 (-(x + 1)))).setCell ⟨q, 2, none⟩ (.int .i64 (-(z + 1))))).frozen? ⟨w.heap.size + 1, 1, none⟩ = false := HS2.out.res.free 1
          have t2 : (((W3.setCell ⟨q, 0, none⟩ (.int .i64 (-(x + 1)))).setCell ⟨q, 2, none⟩ (.int .i64 (-(z + 1))))).frozen? ⟨w.heap.size + 1, 2, none⟩ = false := HS2.out.res.free 2
          have t3 : (((W3.setCell ⟨q, 0, none⟩ (.int .i64 (-(x + 1)))).setCell ⟨q, 2, none⟩ (.int .i64 (-(z + 1))))).frozen? ⟨w.heap.size + 1, 3, none⟩ = false := HS2.out.res.free 3
          obtain ⟨f1, f2, f3⟩ := HS2.out.fin
          have F1 := Lib.hid f1
          have F2 := Lib.hid f2
          have F3 := Lib.hid f3
          clear f1 f2 f3
          go_wp2_with fail
          exact bodyPost_ret (ptEnd _ (w.heap.size + 1) _ _ _ _ _ rfl F1.out) rfl ⟨_, (by rw [absP_neg (x := x) (by omega), absP_pos (x := y) (by omega), absP_neg (x := z) (by omega)]; try rfl), F2, F3⟩
        · have b00 : (W3).cell? ⟨q, 0, none⟩ = some (.int .i64 (x)) := HS.out.box.cell 0
          have b01 : (W3).cell? ⟨q, 1, none⟩ = some (.int .i64 (y)) := HS.out.box.cell 1
          have b02 : (W3).cell? ⟨q, 2, none⟩ = some (.int .i64 (z)) := HS.out.box.cell 2
          have b03 : (W3).cell? ⟨q, 3, none⟩ = some (.slice Av nv cv) := HS.out.box.cell 3
          have g00 : (W3).frozen? ⟨q, 0, none⟩ = false := HS.out.box.free 0
          have g01 : (W3).frozen? ⟨q, 1, none⟩ = false := HS.out.box.free 1
          have g02 : (W3).frozen? ⟨q, 2, none⟩ = false := HS.out.box.free 2
          obtain ⟨wa1, wb1, wc1⟩ := HWX.out hx0
          have HS1 := Lib.hid (HS.out.put0 (-(x + 1)))
          have b10 : ((W3.setCell ⟨q, 0, none⟩ (.int .i64 (-(x + 1))))).cell? ⟨q, 0, none⟩ = some (.int .i64 (-(x + 1))) := HS1.out.box.cell 0
          have b11 : ((W3.setCell ⟨q, 0, none⟩ (.int .i64 (-(x + 1))))).cell? ⟨q, 1, none⟩ = some (.int .i64 (y)) := HS1.out.box.cell 1
          have b12 : ((W3.setCell ⟨q, 0, none⟩ (.int .i64 (-(x + 1))))).cell? ⟨q, 2, none⟩ = some (.int .i64 (z)) := HS1.out.box.cell 2
          have b13 : ((W3.setCell ⟨q, 0, none⟩ (.int .i64 (-(x + 1))))).cell? ⟨q, 3, none⟩ = some (.slice Av nv cv) := HS1.out.box.cell 3
          have g10 : ((W3.setCell ⟨q, 0, none⟩ (.int .i64 (-(x + 1))))).frozen? ⟨q, 0, none⟩ = false := HS1.out.box.free 0
          have g11 : ((W3.setCell ⟨q, 0, none⟩ (.int .i64 (-(x + 1))))).frozen? ⟨q, 1, none⟩ = false := HS1.out.box.free 1
          have g12 : ((W3.setCell ⟨q, 0, none⟩ (.int .i64 (-(x + 1))))).frozen? ⟨q, 2, none⟩ = false := HS1.out.box.free 2
          have r0 : ((W3.setCell ⟨q, 0, none⟩ (.int .i64 (-(x + 1))))).cell? ⟨w.heap.size + 1, 0, none⟩ = some (.int .i64 0) := HS1.out.res.cell 0
          have r1 : ((W3.setCell ⟨q, 0, none⟩ (.int .i64 (-(x + 1))))).cell? ⟨w.heap.size + 1, 1, none⟩ = some (.int .i64 0) := HS1.out.res.cell 1
          have r2 : ((W3.setCell ⟨q, 0, none⟩ (.int .i64 (-(x + 1))))).cell? ⟨w.heap.size + 1, 2, none⟩ = some (.int .i64 0) := HS1.out.res.cell 2
          have r3 : ((W3.setCell ⟨q, 0, none⟩ (.int .i64 (-(x + 1))))).cell? ⟨w.heap.size + 1, 3, none⟩ = some (.slice none 0 0) := HS1.out.res.cell 3
          have t0 : ((W3.setCell ⟨q, 0, none⟩ (.int .i64 (-(x + 1))))).frozen? ⟨w.heap.size + 1, 0, none⟩ = false := HS1.out.res.free 0
          have t1 : ((W3.setCell ⟨q, 0, none⟩ (.int .i64 (-(x + 1))))).frozen? ⟨w.heap.size + 1, 1, none⟩ = false := HS1.out.res.free 1
          have t2 : ((W3.setCell ⟨q, 0, none⟩ (.int .i64 (-(x + 1))))).frozen? ⟨w.heap.size + 1, 2, none⟩ = false := HS1.out.res.free 2
          have t3 : ((W3.setCell ⟨q, 0, none⟩ (.int .i64 (-(x + 1))))).frozen? ⟨w.heap.size + 1, 3, none⟩ = false := HS1.out.res.free 3
          obtain ⟨f1, f2, f3⟩ := HS1.out.fin
          have F1 := Lib.hid f1
          have F2 := Lib.hid f2
          have F3 := Lib.hid f3
          clear f1 f2 f3
          go_wp2_with fail
          exact bodyPost_ret (ptEnd _ (w.heap.size + 1) _ _ _ _ _ rfl F1.out) rfl ⟨_, (by rw [absP_neg (x := x) (by omega), absP_pos (x := y) (by omega), absP_pos (x := z) (by omega)]; try rfl), F2, F3⟩
    · by_cases hy0 : y < 0
      · by_cases hz0 : z < 0
        · have b00 : (W3).cell? ⟨q, 0, none⟩ = some (.int .i64 (x)) := HS.out.box.cell 0
          have b01 : (W3).cell? ⟨q, 1, none⟩ = some (.int .i64 (y)) := HS.out.box.cell 1
          have b02 : (W3).cell? ⟨q, 2, none⟩ = some (.int .i64 (z)) := HS.out.box.cell 2
          have b03 : (W3).cell? ⟨q, 3, none⟩ = some (.slice Av nv cv) := HS.out.box.cell 3
          have g00 : (W3).frozen? ⟨q, 0, none⟩ = false := HS.out.box.free 0
          have g01 : (W3).frozen? ⟨q, 1, none⟩ = false := HS.out.box.free 1
          have g02 : (W3).frozen? ⟨q, 2, none⟩ = false := HS.out.box.free 2
          obtain ⟨wa1, wb1, wc1⟩ := HWY.out hy0
          have HS1 := Lib.hid (HS.out.put1 (-(y + 1)))
          have b10 : ((W3.setCell ⟨q, 1, none⟩ (.int .i64 (-(y + 1))))).cell? ⟨q, 0, none⟩ = some (.int .i64 (x)) := HS1.out.box.cell 0
          have b11 : ((W3.setCell ⟨q, 1, none⟩ (.int .i64 (-(y + 1))))).cell? ⟨q, 1, none⟩ = some (.int .i64 (-(y + 1))) := HS1.out.box.cell 1
          have b12 : ((W3.setCell ⟨q, 1, none⟩ (.int .i64 (-(y + 1))))).cell? ⟨q, 2, none⟩ = some (.int .i64 (z)) := HS1.out.box.cell 2
          have b13 : ((W3.setCell ⟨q, 1, none⟩ (.int .i64 (-(y + 1))))).cell? ⟨q, 3, none⟩ = some (.slice Av nv cv) := HS1.out.box.cell 3
          have g10 : ((W3.setCell ⟨q, 1, none⟩ (.int .i64 (-(y + 1))))).frozen? ⟨q, 0, none⟩ = false := HS1.out.box.free 0
          have g11 : ((W3.setCell ⟨q, 1, none⟩ (.int .i64 (-(y + 1))))).frozen? ⟨q, 1, none⟩ = false := HS1.out.box.free 1
          have g12 : ((W3.setCell ⟨q, 1, none⟩ (.int .i64 (-(y + 1))))).frozen? ⟨q, 2, none⟩ = false := HS1.out.box.free 2
          obtain ⟨wa2, wb2, wc2⟩ := HWZ.out hz0
          have HS2 := Lib.hid (HS1.out.put2 (-(z + 1)))
          have b20 : (((W3.setCell ⟨q, 1, none⟩ (.int .i64 (-(y + 1)))).setCell ⟨q, 2, none⟩ (.int .i64 (-(z + 1))))).cell? ⟨q, 0, none⟩ = some (.int .i64 (x)) := HS2.out.box.cell 0
          have b21 : (((W3.setCell ⟨q, 1, none⟩ (.int .i64 (-(y + 1)))).setCell ⟨q, 2, none⟩ (.int .i64 (-(z + 1))))).cell? ⟨q, 1, none⟩ = some (.int .i64 (-(y + 1))) := HS2.out.box.cell 1
          have b22 : (((W3.setCell ⟨q, 1, none⟩ (.int .i64 (-(y + 1)))).setCell ⟨q, 2, none⟩ (.int .i64 (-(z + 1))))).cell? ⟨q, 2, none⟩ = some (.int .i64 (-(z + 1))) := HS2.out.box.cell 2
          have b23 : (((W3.setCell ⟨q, 1, none⟩ (.int .i64 (-(y + 1)))).setCell ⟨q, 2, none⟩ (.int .i64 (-(z + 1))))).cell? ⟨q, 3, none⟩ = some (.slice Av nv cv) := HS2.out.box.cell 3
          have g20 : (((W3.setCell ⟨q, 1, none⟩ (.int .i64 (-(y + 1)))).setCell ⟨q, 2, none⟩ (.int .i64 (-(z + 1))))).frozen? ⟨q, 0, none⟩ = false := HS2.out.box.free 0
          have g21 : (((W3.setCell ⟨q, 1, none⟩ (.int .i64 (-(y + 1)))).setCell ⟨q, 2, none⟩ (.int .i64 (-(z + 1))))).frozen? ⟨q, 1, none⟩ = false := HS2.out.box.free 1
          have g22 : (((W3.setCell ⟨q, 1, none⟩ (.int .i64 (-(y + 1)))).setCell ⟨q, 2, none⟩ (.int .i64 (-(z + 1))))).frozen? ⟨q, 2, none⟩ = false := HS2.out.box.free 2
          have r0 : (((W3.setCell ⟨q, 1, none⟩ (.int .i64 (-(y + 1)))).setCell ⟨q, 2, none⟩ (.int .i64 (-(z + 1))))).cell? ⟨w.heap.size + 1, 0, none⟩ = some (.int .i64 0) := HS2.out.res.cell 0
          have r1 : (((W3.setCell ⟨q, 1, none⟩ (.int .i64 (-(y + 1)))).setCell ⟨q, 2, none⟩ (.int .i64 (-(z + 1))))).cell? ⟨w.heap.size + 1, 1, none⟩ = some (.int .i64 0) := HS2.out.res.cell 1
          have r2 : (((W3.setCell ⟨q, 1, none⟩ (.int .i64 (-(y + 1)))).setCell ⟨q, 2, none⟩ (.int .i64 (-(z + 1))))).cell? ⟨w.heap.size + 1, 2, none⟩ = some (.int .i64 0) := HS2.out.res.cell 2
          have r3 : (((W3.setCell ⟨q, 1, none⟩ (.int .i64 (-(y + 1)))).setCell ⟨q, 2, none⟩ (.int .i64 (-(z + 1))))).cell? ⟨w.heap.size + 1, 3, none⟩ = some (.slice none 0 0) := HS2.out.res.cell 3
          have t0 : (((W3.setCell ⟨q, 1, none⟩ (.int .i64 (-(y + 1)))).setCell ⟨q, 2, none⟩ (.int .i64 (-(z + 1))))).frozen? ⟨w.heap.size + 1, 0, none⟩ = false := HS2.out.res.free 0
          have t1 : (((W3.setCell ⟨q, 1, none⟩ (.int .i64 (-(y + 1)))).setCell ⟨q, 2, none⟩ (.int .i64 (-(z + 1))))).frozen? ⟨w.heap.size + 1, 1, none⟩ = false := HS2.out.res.free 1
          have t2 : (((W3.setCell ⟨q, 1, none⟩ (.int .i64 (-(y + 1)))).setCell ⟨q, 2, none⟩ (.int .i64 (-(z + 1))))).frozen? ⟨w.heap.size + 1, 2, none⟩ = false := HS2.out.res.free 2
          have t3 : (((W3.setCell ⟨q, 1, none⟩ (.int .i64 (-(y + 1)))).setCell ⟨q, 2, none⟩ (.int .i64 (-(z + 1))))).frozen? ⟨w.heap.size + 1, 3, none⟩ = false := HS2.out.res.free 3
          obtain ⟨f1, f2, f3⟩ := HS2.out.fin
          have F1 := Lib.hid f1
          have F2 := Lib.hid f2
          have F3 := Lib.hid f3
          clear f1 f2 f3
          go_wp2_with fail
          exact bodyPost_ret (ptEnd _ (w.heap.size + 1) _ _ _ _ _ rfl F1.out) rfl ⟨_, (by rw [absP_pos (x := x) (by omega), absP_neg (x := y) (by omega), absP_neg (x := z) (by omega)]; try rfl), F2, F3⟩
        · have b00 : (W3).cell? ⟨q, 0, none⟩ = some (.int .i64 (x)) := HS.out.box.cell 0
          have b01 : (W3).cell? ⟨q, 1, none⟩ = some (.int .i64 (y)) := HS.out.box.cell 1
          have b02 : (W3).cell? ⟨q, 2, none⟩ = some (.int .i64 (z)) := HS.out.box.cell 2
          have b03 : (W3).cell? ⟨q, 3, none⟩ = some (.slice Av nv cv) := HS.out.box.cell 3
          have g00 : (W3).frozen? ⟨q, 0, none⟩ = false := HS.out.box.free 0
          have g01 : (W3).frozen? ⟨q, 1, none⟩ = false := HS.out.box.free 1
          have g02 : (W3).frozen? ⟨q, 2, none⟩ = false := HS.out.box.free 2
          obtain ⟨wa1, wb1, wc1⟩ := HWY.out hy0
          have HS1 := Lib.hid (HS.out.put1 (-(y + 1)))
          have b10 : ((W3.setCell ⟨q, 1, none⟩ (.int .i64 (-(y + 1))))).cell? ⟨q, 0, none⟩ = some (.int .i64 (x)) := HS1.out.box.cell 0
          have b11 : ((W3.setCell ⟨q, 1, none⟩ (.int .i64 (-(y + 1))))).cell? ⟨q, 1, none⟩ = some (.int .i64 (-(y + 1))) := HS1.out.box.cell 1
          have b12 : ((W3.setCell ⟨q, 1, none⟩ (.int .i64 (-(y + 1))))).cell? ⟨q, 2, none⟩ = some (.int .i64 (z)) := HS1.out.box.cell 2
          have b13 : ((W3.setCell ⟨q, 1, none⟩ (.int .i64 (-(y + 1))))).cell? ⟨q, 3, none⟩ = some (.slice Av nv cv) := HS1.out.box.cell 3
          have g10 : ((W3.setCell ⟨q, 1, none⟩ (.int .i64 (-(y + 1))))).frozen? ⟨q, 0, none⟩ = false := HS1.out.box.free 0
          have g11 : ((W3.setCell ⟨q, 1, none⟩ (.int .i64 (-(y + 1))))).frozen? ⟨q, 1, none⟩ = false := HS1.out.box.free 1
          have g12 : ((W3.setCell ⟨q, 1, none⟩ (.int .i64 (-(y + 1))))).frozen? ⟨q, 2, none⟩ = false := HS1.out.box.free 2
          have r0 : ((W3.setCell ⟨q, 1, none⟩ (.int .i64 (-(y + 1))))).cell? ⟨w.heap.size + 1, 0, none⟩ = some (.int .i64 0) := HS1.out.res.cell 0
          have r1 : ((W3.setCell ⟨q, 1, none⟩ (.int .i64 (-(y + 1))))).cell? ⟨w.heap.size + 1, 1, none⟩ = some (.int .i64 0) := HS1.out.res.cell 1
          have r2 : ((W3.setCell ⟨q, 1, none⟩ (.int .i64 (-(y + 1))))).cell? ⟨w.heap.size + 1, 2, none⟩ = some (.int .i64 0) := HS1.out.res.cell 2
          have r3 : ((W3.setCell ⟨q, 1, none⟩ (.int .i64 (-(y + 1))))).cell? ⟨w.heap.size + 1, 3, none⟩ = some (.slice none 0 0) := HS1.out.res.cell 3
          have t0 : ((W3.setCell ⟨q, 1, none⟩ (.int .i64 (-(y + 1))))).frozen? ⟨w.heap.size + 1, 0, none⟩ = false := HS1.out.res.free 0
          have t1 : ((W3.setCell ⟨q, 1, none⟩ (.int .i64 (-(y + 1))))).frozen? ⟨w.heap.size + 1, 1, none⟩ = false := HS1.out.res.free 1
          have t2 : ((W3.setCell ⟨q, 1, none⟩ (.int .i64 (-(y + 1))))).frozen? ⟨w.heap.size + 1, 2, none⟩ = false := HS1.out.res.free 2
          have t3 : ((W3.setCell ⟨q, 1, none⟩ (.int .i64 (-(y + 1))))).frozen? ⟨w.heap.size + 1, 3, none⟩ = false := HS1.out.res.free 3
          obtain ⟨f1, f2, f3⟩ := HS1.out.fin
          have F1 := Lib.hid f1
          have F2 := Lib.hid f2
          have F3 := Lib.hid f3
          clear f1 f2 f3
          go_wp2_with fail
          exact bodyPost_ret (ptEnd _ (w.heap.size + 1) _ _ _ _ _ rfl F1.out) rfl ⟨_, (by rw [absP_pos (x := x) (by omega), absP_neg (x := y) (by omega), absP_pos (x := z) (by omega)]; try rfl), F2, F3⟩
      · by_cases hz0 : z < 0
        · have b00 : (W3).cell? ⟨q, 0, none⟩ = some (.int .i64 (x)) := HS.out.box.cell 0
          have b01 : (W3).cell? ⟨q, 1, none⟩ = some (.int .i64 (y)) := HS.out.box.cell 1
          have b02 : (W3).cell? ⟨q, 2, none⟩ = some (.int .i64 (z)) := HS.out.box.cell 2
          have b03 : (W3).cell? ⟨q, 3, none⟩ = some (.slice Av nv cv) := HS.out.box.cell 3
          have g00 : (W3).frozen? ⟨q, 0, none⟩ = false := HS.out.box.free 0
          have g01 : (W3).frozen? ⟨q, 1, none⟩ = false := HS.out.box.free 1
          have g02 : (W3).frozen? ⟨q, 2, none⟩ = false := HS.out.box.free 2
          obtain ⟨wa1, wb1, wc1⟩ := HWZ.out hz0
          have HS1 := Lib.hid (HS.out.put2 (-(z + 1)))
          have b10 : ((W3.setCell ⟨q, 2, none⟩ (.int .i64 (-(z + 1))))).cell? ⟨q, 0, none⟩ = some (.int .i64 (x)) := HS1.out.box.cell 0
          have b11 : ((W3.setCell ⟨q, 2, none⟩ (.int .i64 (-(z + 1))))).cell? ⟨q, 1, none⟩ = some (.int .i64 (y)) := HS1.out.box.cell 1
          have b12 : ((W3.setCell ⟨q, 2, none⟩ (.int .i64 (-(z + 1))))).cell? ⟨q, 2, none⟩ = some (.int .i64 (-(z + 1))) := HS1.out.box.cell 2
          have b13 : ((W3.setCell ⟨q, 2, none⟩ (.int .i64 (-(z + 1))))).cell? ⟨q, 3, none⟩ = some (.slice Av nv cv) := HS1.out.box.cell 3
          have g10 : ((W3.setCell ⟨q, 2, none⟩ (.int .i64 (-(z + 1))))).frozen? ⟨q, 0, none⟩ = false := HS1.out.box.free 0
          have g11 : ((W3.setCell ⟨q, 2, none⟩ (.int .i64 (-(z + 1))))).frozen? ⟨q, 1, none⟩ = false := HS1.out.box.free 1
          have g12 : ((W3.setCell ⟨q, 2, none⟩ (.int .i64 (-(z + 1))))).frozen? ⟨q, 2, none⟩ = false := HS1.out.box.free 2
          have r0 : ((W3.setCell ⟨q, 2, none⟩ (.int .i64 (-(z + 1))))).cell? ⟨w.heap.size + 1, 0, none⟩ = some (.int .i64 0) := HS1.out.res.cell 0
          have r1 : ((W3.setCell ⟨q, 2, none⟩ (.int .i64 (-(z + 1))))).cell? ⟨w.heap.size + 1, 1, none⟩ = some (.int .i64 0) := HS1.out.res.cell 1
          have r2 : ((W3.setCell ⟨q, 2, none⟩ (.int .i64 (-(z + 1))))).cell? ⟨w.heap.size + 1, 2, none⟩ = some (.int .i64 0) := HS1.out.res.cell 2
          have r3 : ((W3.setCell ⟨q, 2, none⟩ (.int .i64 (-(z + 1))))).cell? ⟨w.heap.size + 1, 3, none⟩ = some (.slice none 0 0) := HS1.out.res.cell 3
          have t0 : ((W3.setCell ⟨q, 2, none⟩ (.int .i64 (-(z + 1))))).frozen? ⟨w.heap.size + 1, 0, none⟩ = false := HS1.out.res.free 0
          have t1 : ((W3.setCell ⟨q, 2, none⟩ (.int .i64 (-(z + 1))))).frozen? ⟨w.heap.size + 1, 1, none⟩ = false := HS1.out.res.free 1
          have t2 : ((W3.setCell ⟨q, 2, none⟩ (.int .i64 (-(z + 1))))).frozen? ⟨w.heap.size + 1, 2, none⟩ = false := HS1.out.res.free 2
          have t3 : ((W3.setCell ⟨q, 2, none⟩ (.int .i64 (-(z + 1))))).frozen? ⟨w.heap.size + 1, 3, none⟩ = false := HS1.out.res.free 3
          obtain ⟨f1, f2, f3⟩ := HS1.out.fin
          have F1 := Lib.hid f1
          have F2 := Lib.hid f2
          have F3 := Lib.hid f3
          clear f1 f2 f3
          go_wp2_with fail
          exact bodyPost_ret (ptEnd _ (w.heap.size + 1) _ _ _ _ _ rfl F1.out) rfl ⟨_, (by rw [absP_pos (x := x) (by omega), absP_pos (x := y) (by omega), absP_neg (x := z) (by omega)]; try rfl), F2, F3⟩
        · have b00 : (W3).cell? ⟨q, 0, none⟩ = some (.int .i64 (x)) := HS.out.box.cell 0
          have b01 : (W3).cell? ⟨q, 1, none⟩ = some (.int .i64 (y)) := HS.out.box.cell 1
          have b02 : (W3).cell? ⟨q, 2, none⟩ = some (.int .i64 (z)) := HS.out.box.cell 2
          have b03 : (W3).cell? ⟨q, 3, none⟩ = some (.slice Av nv cv) := HS.out.box.cell 3
          have g00 : (W3).frozen? ⟨q, 0, none⟩ = false := HS.out.box.free 0
          have g01 : (W3).frozen? ⟨q, 1, none⟩ = false := HS.out.box.free 1
          have g02 : (W3).frozen? ⟨q, 2, none⟩ = false := HS.out.box.free 2
          have r0 : (W3).cell? ⟨w.heap.size + 1, 0, none⟩ = some (.int .i64 0) := HS.out.res.cell 0
          have r1 : (W3).cell? ⟨w.heap.size + 1, 1, none⟩ = some (.int .i64 0) := HS.out.res.cell 1
          have r2 : (W3).cell? ⟨w.heap.size + 1, 2, none⟩ = some (.int .i64 0) := HS.out.res.cell 2
          have r3 : (W3).cell? ⟨w.heap.size + 1, 3, none⟩ = some (.slice none 0 0) := HS.out.res.cell 3
          have t0 : (W3).frozen? ⟨w.heap.size + 1, 0, none⟩ = false := HS.out.res.free 0
          have t1 : (W3).frozen? ⟨w.heap.size + 1, 1, none⟩ = false := HS.out.res.free 1
          have t2 : (W3).frozen? ⟨w.heap.size + 1, 2, none⟩ = false := HS.out.res.free 2
          have t3 : (W3).frozen? ⟨w.heap.size + 1, 3, none⟩ = false := HS.out.res.free 3
          obtain ⟨f1, f2, f3⟩ := HS.out.fin
          have F1 := Lib.hid f1
          have F2 := Lib.hid f2
          have F3 := Lib.hid f3
          clear f1 f2 f3
          go_wp2_with fail
          exact bodyPost_ret (ptEnd _ (w.heap.size + 1) _ _ _ _ _ rfl F1.out) rfl ⟨_, (by rw [absP_pos (x := x) (by omega), absP_pos (x := y) (by omega), absP_pos (x := z) (by omega)]; try rfl), F2, F3⟩
  · have HN0 := Lib.hid ((Has.new W1 43 #[.int .i64 0, .int .i64 0, .int .i64 0, .slice none 0 0]).drew)
    have hb0 : Below W1.heap.size W1 ((W1.alloc (.cells #[.int .i64 0, .int .i64 0, .int .i64 0, .slice none 0 0] 43)).drew) := ((Below.refl _ W1).alloc (Nat.le_refl _) _).drew
    have HX0 := Lib.hid (HXb.out.below hb0 HXb.out.lt)
    have HR0 := Lib.hid (HRS.out.below hb0 HRS.out.lt)
    have HB0 := Lib.hid (HB.out.trans (hb0.mono HB.out.size))
    have hS2 : (fun X : World => X.cell? ⟨w.heap.size, 0, none⟩ = some (.int .i64 x) ∧ X.cell? ⟨w.heap.size, 1, none⟩ = some (.int .i64 y) ∧ X.cell? ⟨w.heap.size, 2, none⟩ = some (.int .i64 z) ∧ X.cell? ⟨w.heap.size, 3, none⟩ = some (.slice A n c)) ((W1.alloc (.cells #[.int .i64 0, .int .i64 0, .int .i64 0, .slice none 0 0] 43)).drew) := ⟨HX0.out.cell 0, HX0.out.cell 1, HX0.out.cell 2, HX0.out.cell 3⟩
    go_simp
    refine hK2.out _ _ (by (try dsimp only); exact hS2) (fun _ => ?_)
    clear hK2 K2
    (try simp only [List.getElem_toArray]); (try simp only [List.getElem_cons_succ]); (try simp only [List.getElem_cons_zero]); (try simp only [Act.put]); (try simp only [List.setIfInBounds_toArray]); (try simp only [List.set_cons_succ]); (try simp only [List.set_cons_zero])
    obtain ⟨Wz, hWz⟩ : ∃ W, W = (W1.alloc (.cells #[.int .i64 0, .int .i64 0, .int .i64 0, .slice none 0 0] 43)).drew := ⟨_, rfl⟩
    rw [← hWz] at HN0 HX0 HR0 HB0 ⊢
    have hsz : Wz.heap.size = w.heap.size + 3 := by rw [hWz]; simp [hs1]
    clear hWz hS2 hb0
    obtain ⟨q, hq⟩ : ∃ q, w.heap.size + 2 = q := ⟨_, rfl⟩
    have hs2 : w.heap.size + 2 ≤ q := Nat.le_of_eq hq
    rw [hs1, hq] at HN0
    first | rw [hq] | rw [hs1, hq] | rw [show W1.drew.heap.size = q from hs1.trans hq]
    clear hq
    refine wpAnyH_ready (rs := [8]) (by kernel_rfl) (by simp) ?_
    refine AllReadyH.cons rfl (fun K2 hK2 => ?_) AllReadyH.nil
    go_simp
    refine (HG.out Wz HB0.out).mono ?_
    rintro e W2 ⟨v, rfl, ho2, hb2⟩
    have HB3 := Lib.hid (HB0.out.trans (hb2.out.mono HB0.out.size))
    have HX3 := Lib.hid (HX0.out.below hb2.out HX0.out.lt)
    have HR3 := Lib.hid (HR0.out.below hb2.out HR0.out.lt)
    have HN3 := Lib.hid (HN0.out.below hb2.out HN0.out.lt)
    have HO3 := Lib.hid (ownW_down ho2.out HB0.out.size)
    obtain ⟨Av, nv, cv, rfl, _, _, _, _, _⟩ := ownW_open ho2.out
    clear ho2 hb2 HG HX0 HR0 HN0 HB0
    have hS2 : (fun X : World => X.cell? ⟨w.heap.size, 0, none⟩ = some (.int .i64 x) ∧ X.cell? ⟨w.heap.size, 1, none⟩ = some (.int .i64 y) ∧ X.cell? ⟨w.heap.size, 2, none⟩ = some (.int .i64 z) ∧ X.cell? ⟨w.heap.size, 3, none⟩ = some (.slice A n c)) W2 := ⟨HX3.out.cell 0, HX3.out.cell 1, HX3.out.cell 2, HX3.out.cell 3⟩
    go_wp2_with fail
    refine hK2.out _ _ (by (try dsimp only); exact hS2) (fun _ => ?_)
    clear hK2 K2 hS2
    (try simp only [List.getElem_toArray]); (try simp only [List.getElem_cons_succ]); (try simp only [List.getElem_cons_zero]); (try simp only [Act.put]); (try simp only [List.setIfInBounds_toArray]); (try simp only [List.set_cons_succ]); (try simp only [List.set_cons_zero])
    (refine wpAnyH_take (i := 9) (v := ?_) rfl (by kernel_rfl) (by kernel_rfl) (by kernel_rfl) (fun _ _ _ h => h) (Or.inl ⟨by rfl, ?_⟩) (by assumption) ?_; rotate_left; (intro w hSw; (try dsimp only at hSw); go_simp; try with_reducible rfl); ((try simp only [List.getElem_toArray]); (try simp only [List.getElem_cons_succ]); (try simp only [List.getElem_cons_zero]); (try simp only [Act.put]); (try simp only [List.setIfInBounds_toArray]); (try simp only [List.set_cons_succ]); (try simp only [List.set_cons_zero])))
    have HS := Lib.hid (PtS.mk (x := x) (y := y) (z := z) (v := .slice Av nv cv) (w := w) (q := q) (G := G) (W := (((W2.setCell ⟨q, 0, none⟩ (.int .i64 x)).setCell ⟨q, 1, none⟩ (.int .i64 y)).setCell ⟨q, 2, none⟩ (.int .i64 z)).setCell ⟨q, 3, none⟩ (.slice Av nv cv)) (by
      have h0 := HN3.out.put 0 (.int .i64 x)
      have h1 := h0.put 1 (.int .i64 y)
      have h2 := h1.put 2 (.int .i64 z)
      exact ownW_apart (ownW_apart (ownW_apart (ownW_apart HO3.out HN3.out (by decide) _ rfl _) h0 (by decide) _ rfl _) h1 (by decide) _ rfl _) h2 (by decide) _ rfl _) ((((HB3.out.setCell (p := ⟨q, 0, none⟩) (by show w.heap.size ≤ q; omega) _).setCell (p := ⟨q, 1, none⟩) (by show w.heap.size ≤ q; omega) _).setCell (p := ⟨q, 2, none⟩) (by show w.heap.size ≤ q; omega) _).setCell (p := ⟨q, 3, none⟩) (by show w.heap.size ≤ q; omega) _) (put4 HN3.out _ _ _ _) ((((HR3.out.far (p := ⟨q, 0, none⟩) (by show w.heap.size + 1 ≠ q; omega) _).far (p := ⟨q, 1, none⟩) (by show w.heap.size + 1 ≠ q; omega) _).far (p := ⟨q, 2, none⟩) (by show w.heap.size + 1 ≠ q; omega) _).far (p := ⟨q, 3, none⟩) (by show w.heap.size + 1 ≠ q; omega) _) (by omega) (by omega))
    have hS4 : (fun X : World => X.cell? ⟨w.heap.size, 0, none⟩ = some (.int .i64 x) ∧ X.cell? ⟨w.heap.size, 1, none⟩ = some (.int .i64 y) ∧ X.cell? ⟨w.heap.size, 2, none⟩ = some (.int .i64 z) ∧ X.cell? ⟨w.heap.size, 3, none⟩ = some (.slice A n c)) ((((W2.setCell ⟨q, 0, none⟩ (.int .i64 x)).setCell ⟨q, 1, none⟩ (.int .i64 y)).setCell ⟨q, 2, none⟩ (.int .i64 z)).setCell ⟨q, 3, none⟩ (.slice Av nv cv)) := by
      have hh := (((HX3.out.far (p := ⟨q, 0, none⟩) (by show w.heap.size ≠ q; omega) (.int .i64 x)).far (p := ⟨q, 1, none⟩) (by show w.heap.size ≠ q; omega) (.int .i64 y)).far (p := ⟨q, 2, none⟩) (by show w.heap.size ≠ q; omega) (.int .i64 z)).far (p := ⟨q, 3, none⟩) (by show w.heap.size ≠ q; omega) (.slice Av nv cv)
      exact ⟨hh.cell 0, hh.cell 1, hh.cell 2, hh.cell 3⟩
    have n0 : W2.cell? ⟨q, 0, none⟩ = some (.int .i64 0) := HN3.out.cell 0
    have n1 : W2.cell? ⟨q, 1, none⟩ = some (.int .i64 0) := HN3.out.cell 1
    have n2 : W2.cell? ⟨q, 2, none⟩ = some (.int .i64 0) := HN3.out.cell 2
    have n3 : W2.cell? ⟨q, 3, none⟩ = some (.slice none 0 0) := HN3.out.cell 3
    have m0 : W2.frozen? ⟨q, 0, none⟩ = false := HN3.out.free 0
    have m1 : W2.frozen? ⟨q, 1, none⟩ = false := HN3.out.free 1
    have m2 : W2.frozen? ⟨q, 2, none⟩ = false := HN3.out.free 2
    have m3 : W2.frozen? ⟨q, 3, none⟩ = false := HN3.out.free 3
    refine wpAnyH_ready (rs := [11]) (by kernel_rfl) (by simp) ?_
    refine AllReadyH.cons rfl (fun K2 hK2 => ?_) AllReadyH.nil
    go_simp
    refine hK2.out _ _ (by (try dsimp only); exact hS4) (fun _ => ?_)
    clear hK2 K2
    (try simp only [List.getElem_toArray]); (try simp only [List.getElem_cons_succ]); (try simp only [List.getElem_cons_zero]); (try simp only [Act.put]); (try simp only [List.setIfInBounds_toArray]); (try simp only [List.set_cons_succ]); (try simp only [List.set_cons_zero])
    refine wpAnyH_done (by kernel_rfl) ?_ _
    obtain ⟨W3, hW3⟩ : ∃ W, W = (((W2.setCell ⟨q, 0, none⟩ (.int .i64 x)).setCell ⟨q, 1, none⟩ (.int .i64 y)).setCell ⟨q, 2, none⟩ (.int .i64 z)).setCell ⟨q, 3, none⟩ (.slice Av nv cv) := ⟨_, rfl⟩
    rw [← hW3] at HS ⊢
    clear hW3 hS4 n0 n1 n2 n3 m0 m1 m2 m3 HX3 HR3 HN3 HB3 HO3 x0 x1 x2 x3 HXb HRS HB
    by_cases hx0 : x < 0
    · by_cases hy0 : y < 0
      · by_cases hz0 : z < 0
        · have b00 : (W3).cell? ⟨q, 0, none⟩ = some (.int .i64 (x)) := HS.out.box.cell 0
          have b01 : (W3).cell? ⟨q, 1, none⟩ = some (.int .i64 (y)) := HS.out.box.cell 1
          have b02 : (W3).cell? ⟨q, 2, none⟩ = some (.int .i64 (z)) := HS.out.box.cell 2
          have b03 : (W3).cell? ⟨q, 3, none⟩ = some (.slice Av nv cv) := HS.out.box.cell 3
          have g00 : (W3).frozen? ⟨q, 0, none⟩ = false := HS.out.box.free 0
          have g01 : (W3).frozen? ⟨q, 1, none⟩ = false := HS.out.box.free 1
          have g02 : (W3).frozen? ⟨q, 2, none⟩ = false := HS.out.box.free 2
          obtain ⟨wa1, wb1, wc1⟩ := HWX.out hx0
          have HS1 := Lib.hid (HS.out.put0 (-(x + 1)))
          have b10 : ((W3.setCell ⟨q, 0, none⟩ (.int .i64 (-(x + 1))))).cell? ⟨q, 0, none⟩ = some (.int .i64 (-(x + 1))) := HS1.out.box.cell 0
          have b11 : ((W3.setCell ⟨q, 0, none⟩ (.int .i64 (-(x + 1))))).cell? ⟨q, 1, none⟩ = some (.int .i64 (y)) := HS1.out.box.cell 1
          have b12 : ((W3.setCell ⟨q, 0, none⟩ (.int .i64 (-(x + 1))))).cell? ⟨q, 2, none⟩ = some (.int .i64 (z)) := HS1.out.box.cell 2
          have b13 : ((W3.setCell ⟨q, 0, none⟩ (.int .i64 (-(x + 1))))).cell? ⟨q, 3, none⟩ = some (.slice Av nv cv) := HS1.out.box.cell 3
          have g10 : ((W3.setCell ⟨q, 0, none⟩ (.int .i64 (-(x + 1))))).frozen? ⟨q, 0, none⟩ = false := HS1.out.box.free 0
          have g11 : ((W3.setCell ⟨q, 0, none⟩ (.int .i64 (-(x + 1))))).frozen? ⟨q, 1, none⟩ = false := HS1.out.box.free 1
          have g12 : ((W3.setCell ⟨q, 0, none⟩ (.int .i64 (-(x + 1))))).frozen? ⟨q, 2, none⟩ = false := HS1.out.box.free 2
          obtain ⟨wa2, wb2, wc2⟩ := HWY.out hy0
          have HS2 := Lib.hid (HS1.out.put1 (-(y + 1)))
          have b20 : (((W3.setCell ⟨q, 0, none⟩ (.int .i64 (-(x + 1)))).setCell ⟨q, 1, none⟩ (.int .i64 (-(y + 1))))).cell? ⟨q, 0, none⟩ = some (.int .i64 (-(x + 1))) := HS2.out.box.cell 0
          have b21 : (((W3.setCell ⟨q, 0, none⟩ (.int .i64 (-(x + 1)))).setCell ⟨q, 1, none⟩ (.int .i64 (-(y + 1))))).cell? ⟨q, 1, none⟩ = some (.int .i64 (-(y + 1))) := HS2.out.box.cell 1
          have b22 : (((W3.setCell ⟨q, 0, none⟩ (.int .i64 (-(x + 1)))).setCell ⟨q, 1, none⟩ (.int .i64 (-(y + 1))))).cell? ⟨q, 2, none⟩ = some (.int .i64 (z)) := HS2.out.box.cell 2
          have b23 : (((W3.setCell ⟨q, 0, none⟩ (.int .i64 (-(x + 1)))).setCell ⟨q, 1, none⟩ (.int .i64 (-(y + 1))))).cell? ⟨q, 3, none⟩ = some (.slice Av nv cv) := HS2.out.box.cell 3
          have g20 : (((W3.setCell ⟨q, 0, none⟩ (.int .i64 (-(x + 1)))).setCell ⟨q, 1, none⟩ (.int .i64 (-(y + 1))))).frozen? ⟨q, 0, none⟩ = false := HS2.out.box.free 0
          have g21 : (((W3.setCell ⟨q, 0, none⟩ (.int .i64 (-(x + 1)))).setCell ⟨q, 1, none⟩ (.int .i64 (-(y + 1))))).frozen? ⟨q, 1, none⟩ = false := HS2.out.box.free 1
          have g22 : (((W3.setCell ⟨q, 0, none⟩ (.int .i64 (-(x + 1)))).setCell ⟨q, 1, none⟩ (.int .i64 (-(y + 1))))).frozen? ⟨q, 2, none⟩ = false := HS2.out.box.free 2
          obtain ⟨wa3, wb3, wc3⟩ := HWZ.out hz0
          have HS3 := Lib.hid (HS2.out.put2 (-(z + 1)))
          have b30 : ((((W3.setCell ⟨q, 0, none⟩ (.int .i64 (-(x + 1)))).setCell ⟨q, 1, none⟩ (.int .i64 (-(y + 1)))).setCell ⟨q, 2, none⟩ (.int .i64 (-(z + 1))))).cell? ⟨q, 0, none⟩ = some (.int .i64 (-(x + 1))) := HS3.out.box.cell 0
          have b31 : ((((W3.setCell ⟨q, 0, none⟩ (.int .i64 (-(x + 1)))).setCell ⟨q, 1, none⟩ (.int .i64 (-(y + 1)))).setCell ⟨q, 2, none⟩ (.int .i64 (-(z + 1))))).cell? ⟨q, 1, none⟩ = some (.int .i64 (-(y + 1))) := HS3.out.box.cell 1
          have b32 : ((((W3.setCell ⟨q, 0, none⟩ (.int .i64 (-(x + 1)))).setCell ⟨q, 1, none⟩ (.int .i64 (-(y + 1)))).setCell ⟨q, 2, none⟩ (.int .i64 (-(z + 1))))).cell? ⟨q, 2, none⟩ = some (.int .i64 (-(z + 1))) := HS3.out.box.cell 2
          have b33 : ((((W3.setCell ⟨q, 0, none⟩ (.int .i64 (-(x + 1)))).setCell ⟨q, 1, none⟩ (.int .i64 (-(y + 1)))).setCell ⟨q, 2, none⟩ (.int .i64 (-(z + 1))))).cell? ⟨q, 3, none⟩ = some (.slice Av nv cv) := HS3.out.box.cell 3
          have g30 : ((((W3.setCell ⟨q, 0, none⟩ (.int .i64 (-(x + 1)))).setCell ⟨q, 1, none⟩ (.int .i64 (-(y + 1)))).setCell ⟨q, 2, none⟩ (.int .i64 (-(z + 1))))).frozen? ⟨q, 0, none⟩ = false := HS3.out.box.free 0
          have g31 : ((((W3.setCell ⟨q, 0, none⟩ (.int .i64 (-(x + 1)))).setCell ⟨q, 1, none⟩ (.int .i64 (-(y + 1)))).setCell ⟨q, 2, none⟩ (.int .i64 (-(z + 1))))).frozen? ⟨q, 1, none⟩ = false := HS3.out.box.free 1
          have g32 : ((((W3.setCell ⟨q, 0, none⟩ (.int .i64 (-(x + 1)))).setCell ⟨q, 1, none⟩ (.int .i64 (-(y + 1)))).setCell ⟨q, 2, none⟩ (.int .i64 (-(z + 1))))).frozen? ⟨q, 2, none⟩ = false := HS3.out.box.free 2
          have r0 : ((((W3.setCell ⟨q, 0, none⟩ (.int .i64 (-(x + 1)))).setCell ⟨q, 1, none⟩ (.int .i64 (-(y + 1)))).setCell ⟨q, 2, none⟩ (.int .i64 (-(z + 1))))).cell? ⟨w.heap.size + 1, 0, none⟩ = some (.int .i64 0) := HS3.out.res.cell 0
          have r1 : ((((W3.setCell ⟨q, 0, none⟩ (.int .i64 (-(x + 1)))).setCell ⟨q, 1, none⟩ (.int .i64 (-(y + 1)))).setCell ⟨q, 2, none⟩ (.int .i64 (-(z + 1))))).cell? ⟨w.heap.size + 1, 1, none⟩ = some (.int .i64 0) := HS3.out.res.cell 1
          have r2 : ((((W3.setCell ⟨q, 0, none⟩ (.int .i64 (-(x + 1)))).setCell ⟨q, 1, none⟩ (.int .i64 (-(y + 1)))).setCell ⟨q, 2, none⟩ (.int .i64 (-(z + 1))))).cell? ⟨w.heap.size + 1, 2, none⟩ = some (.int .i64 0) := HS3.out.res.cell 2
          have r3 : ((((W3.setCell ⟨q, 0, none⟩ (.int .i64 (-(x + 1)))).setCell ⟨q, 1, none⟩ (.int .i64 (-(y + 1)))).setCell ⟨q, 2, none⟩ (.int .i64 (-(z + 1))))).cell? ⟨w.heap.size + 1, 3, none⟩ = some (.slice none 0 0) := HS3.out.res.cell 3
          have t0 : ((((W3.setCell ⟨q, 0, none⟩ (.int .i64 (-(x + 1)))).setCell ⟨q, 1, none⟩ (.int .i64 (-(y + 1)))).setCell ⟨q, 2, none⟩ (.int .i64 (-(z + 1))))).frozen? ⟨w.heap.size + 1, 0, none⟩ = false := HS3.out.res.free 0
          have t1 : ((((W3.setCell ⟨q, 0, none⟩ (.int .i64 (-(x + 1)))).setCell ⟨q, 1, none⟩ (.int .i64 (-(y + 1)))).setCell ⟨q, 2, none⟩ (.int .i64 (-(z + 1))))).frozen? ⟨w.heap.size + 1, 1, none⟩ = false := HS3.out.res.free 1
          have t2 : ((((W3.setCell ⟨q, 0, none⟩ (.int .i64 (-(x + 1)))).setCell ⟨q, 1, none⟩ (.int .i64 (-(y + 1)))).setCell ⟨q, 2, none⟩ (.int .i64 (-(z + 1))))).frozen? ⟨w.heap.size + 1, 2, none⟩ = false := HS3.out.res.free 2
          have t3 : ((((W3.setCell ⟨q, 0, none⟩ (.int .i64 (-(x + 1)))).setCell ⟨q, 1, none⟩ (.int .i64 (-(y + 1)))).setCell ⟨q, 2, none⟩ (.int .i64 (-(z + 1))))).frozen? ⟨w.heap.size + 1, 3, none⟩ = false := HS3.out.res.free 3
          obtain ⟨f1, f2, f3⟩ := HS3.out.fin
          have F1 := Lib.hid f1
          have F2 := Lib.hid f2
          have F3 := Lib.hid f3
          clear f1 f2 f3
          go_wp2_with fail
          exact bodyPost_ret (ptEnd _ (w.heap.size + 1) _ _ _ _ _ rfl F1.out) rfl ⟨_, (by rw [absP_neg (x := x) (by omega), absP_neg (x := y) (by omega), absP_neg (x := z) (by omega)]; try rfl), F2, F3⟩
        · have b00 : (W3).cell? ⟨q, 0, none⟩ = some (.int .i64 (x)) := HS.out.box.cell 0
          have b01 : (W3).cell? ⟨q, 1, none⟩ = some (.int .i64 (y)) := HS.out.box.cell 1
          have b02 : (W3).cell? ⟨q, 2, none⟩ = some (.int .i64 (z)) := HS.out.box.cell 2
          have b03 : (W3).cell? ⟨q, 3, none⟩ = some (.slice Av nv cv) := HS.out.box.cell 3
          have g00 : (W3).frozen? ⟨q, 0, none⟩ = false := HS.out.box.free 0
          have g01 : (W3).frozen? ⟨q, 1, none⟩ = false := HS.out.box.free 1
          have g02 : (W3).frozen? ⟨q, 2, none⟩ = false := HS.out.box.free 2
          obtain ⟨wa1, wb1, wc1⟩ := HWX.out hx0
          have HS1 := Lib.hid (HS.out.put0 (-(x + 1)))
          have b10 : ((W3.setCell ⟨q, 0, none⟩ (.int .i64 (-(x + 1))))).cell? ⟨q, 0, none⟩ = some (.int .i64 (-(x + 1))) := HS1.out.box.cell 0
          have b11 : ((W3.setCell ⟨q, 0, none⟩ (.int .i64 (-(x + 1))))).cell? ⟨q, 1, none⟩ = some (.int .i64 (y)) := HS1.out.box.cell 1
          have b12 : ((W3.setCell ⟨q, 0, none⟩ (.int .i64 (-(x + 1))))).cell? ⟨q, 2, none⟩ = some (.int .i64 (z)) := HS1.out.box.cell 2
          have b13 : ((W3.setCell ⟨q, 0, none⟩ (.int .i64 (-(x + 1))))).cell? ⟨q, 3, none⟩ = some (.slice Av nv cv) := HS1.out.box.cell 3
          have g10 : ((W3.setCell ⟨q, 0, none⟩ (.int .i64 (-(x + 1))))).frozen? ⟨q, 0, none⟩ = false := HS1.out.box.free 0
          have g11 : ((W3.setCell ⟨q, 0, none⟩ (.int .i64 (-(x + 1))))).frozen? ⟨q, 1, none⟩ = false := HS1.out.box.free 1
          have g12 : ((W3.setCell ⟨q, 0, none⟩ (.int .i64 (-(x + 1))))).frozen? ⟨q, 2, none⟩ = false := HS1.out.box.free 2
          obtain ⟨wa2, wb2, wc2⟩ := HWY.out hy0
          have HS2 := Lib.hid (HS1.out.put1 (-(y + 1)))
          have b20 : (((W3.setCell ⟨q, 0, none⟩ (.int .i64 (-(x + 1)))).setCell ⟨q, 1, none⟩ (.int .i64 (-(y + 1))))).cell? ⟨q, 0, none⟩ = some (.int .i64 (-(x + 1))) := HS2.out.box.cell 0
          have b21 : (((W3.setCell ⟨q, 0, none⟩ (.int .i64 (-(x + 1)))).setCell ⟨q, 1, none⟩ (.int .i64 (-(y + 1))))).cell? ⟨q, 1, none⟩ = some (.int .i64 (-(y + 1))) := HS2.out.box.cell 1
          have b22 : (((W3.setCell ⟨q, 0, none⟩ (.int .i64 (-(x + 1)))).setCell ⟨q, 1, none⟩ (.int .i64 (-(y + 1))))).cell? ⟨q, 2, none⟩ = some (.int .i64 (z)) := HS2.out.box.cell 2
          have b23 : (((W3.setCell ⟨q, 0, none⟩ (.int .i64 (-(x + 1)))).setCell ⟨q, 1, none⟩ (.int .i64 (-(y + 1))))).cell? ⟨q, 3, none⟩ = some (.slice Av nv cv) := HS2.out.box.cell 3
          have g20 : (((W3.setCell ⟨q, 0, none⟩ (.int .i64 (-(x + 1)))).setCell ⟨q, 1, none⟩ (.int .i64 (-(y + 1))))).frozen? ⟨q, 0, none⟩ = false := HS2.out.box.free 0
          have g21 : (((W3.setCell ⟨q, 0, none⟩ (.int .i64 (-(x + 1)))).setCell ⟨q, 1, none⟩ (.int .i64 (-(y + 1))))).frozen? ⟨q, 1, none⟩ = false := HS2.out.box.free 1
          have g22 : (((W3.setCell ⟨q, 0, none⟩ (.int .i64 (-(x + 1)))).setCell ⟨q, 1, none⟩ (.int .i64 (-(y + 1))))).frozen? ⟨q, 2, none⟩ = false := HS2.out.box.free 2
          have r0 : (((W3.setCell ⟨q, 0, none⟩ (.int .i64 (-(x + 1)))).setCell ⟨q, 1, none⟩ (.int .i64 (-(y + 1))))).cell? ⟨w.heap.size + 1, 0, none⟩ = some (.int .i64 0) := HS2.out.res.cell 0
          have r1 : (((W3.setCell ⟨q, 0, none⟩ (.int .i64 (-(x + 1)))).setCell ⟨q, 1, none⟩ (.int .i64 (-(y + 1))))).cell? ⟨w.heap.size + 1, 1, none⟩ = some (.int .i64 0) := HS2.out.res.cell 1
          have r2 : (((W3.setCell ⟨q, 0, none⟩ (.int .i64 (-(x + 1)))).setCell ⟨q, 1, none⟩ (.int .i64 (-(y + 1))))).cell? ⟨w.heap.size + 1, 2, none⟩ = some (.int .i64 0) := HS2.out.res.cell 2
          have r3 : (((W3.setCell ⟨q, 0, none⟩ (.int .i64 (-(x + 1)))).setCell ⟨q, 1, none⟩ (.int .i64 (-(y + 1))))).cell? ⟨w.heap.size + 1, 3, none⟩ = some (.slice none 0 0) := HS2.out.res.cell 3
          have t0 : (((W3.setCell ⟨q, 0, none⟩ (.int .i64 (-(x + 1)))).setCell ⟨q, 1, none⟩ (.int .i64 (-(y + 1))))).frozen? ⟨w.heap.size + 1, 0, none⟩ = false := HS2.out.res.free 0
          have t1 : (((W3.setCell ⟨q, 0, none⟩ (.int .i64 (-(x + 1)))).setCell ⟨q, 1, none⟩ (.int .i64 (-(y + 1))))).frozen? ⟨w.heap.size + 1, 1, none⟩ = false := HS2.out.res.free 1
          have t2 : (((W3.setCell ⟨q, 0, none⟩ (.int .i64 (-(x + 1)))).setCell ⟨q, 1, none⟩ (.int .i64 (-(y + 1))))).frozen? ⟨w.heap.size + 1, 2, none⟩ = false := HS2.out.res.free 2
          have t3 : (((W3.setCell ⟨q, 0, none⟩ (.int .i64 (-(x + 1)))).setCell ⟨q, 1, none⟩ (.int .i64 (-(y + 1))))).frozen? ⟨w.heap.size + 1, 3, none⟩ = false := HS2.out.res.free 3
          obtain ⟨f1, f2, f3⟩ := HS2.out.fin
          have F1 := Lib.hid f1
          have F2 := Lib.hid f2
          have F3 := Lib.hid f3
          clear f1 f2 f3
          go_wp2_with fail
          exact bodyPost_ret (ptEnd _ (w.heap.size + 1) _ _ _ _ _ rfl F1.out) rfl ⟨_, (by rw [absP_neg (x := x) (by omega), absP_neg (x := y) (by omega), absP_pos (x := z) (by omega)]; try rfl), F2, F3⟩
      · by_cases hz0 : z < 0
        · have b00 : (W3).cell? ⟨q, 0, none⟩ = some (.int .i64 (x)) := HS.out.box.cell 0
          have b01 : (W3).cell? ⟨q, 1, none⟩ = some (.int .i64 (y)) := HS.out.box.cell 1
          have b02 : (W3).cell? ⟨q, 2, none⟩ = some (.int .i64 (z)) := HS.out.box.cell 2
          have b03 : (W3).cell? ⟨q, 3, none⟩ = some (.slice Av nv cv) := HS.out.box.cell 3
          have g00 : (W3).frozen? ⟨q, 0, none⟩ = false := HS.out.box.free 0
          have g01 : (W3).frozen? ⟨q, 1, none⟩ = false := HS.out.box.free 1
          have g02 : (W3).frozen? ⟨q, 2, none⟩ = false := HS.out.box.free 2
          obtain ⟨wa1, wb1, wc1⟩ := HWX.out hx0
          have HS1 := Lib.hid (HS.out.put0 (-(x + 1)))
          have b10 : ((W3.setCell ⟨q, 0, none⟩ (.int .i64 (-(x + 1))))).cell? ⟨q, 0, none⟩ = some (.int .i64 (-(x + 1))) := HS1.out.box.cell 0
          have b11 : ((W3.setCell ⟨q, 0, none⟩ (.int .i64 (-(x + 1))))).cell? ⟨q, 1, none⟩ = some (.int .i64 (y)) := HS1.out.box.cell 1
          have b12 : ((W3.setCell ⟨q, 0, none⟩ (.int .i64 (-(x + 1))))).cell? ⟨q, 2, none⟩ = some (.int .i64 (z)) := HS1.out.box.cell 2
          have b13 : ((W3.setCell ⟨q, 0, none⟩ (.int .i64 (-(x + 1))))).cell? ⟨q, 3, none⟩ = some (.slice Av nv cv) := HS1.out.box.cell 3
          have g10 : ((W3.setCell ⟨q, 0, none⟩ (.int .i64 (-(x + 1))))).frozen? ⟨q, 0, none⟩ = false := HS1.out.box.free 0
          have g11 : ((W3.setCell ⟨q, 0, none⟩ (.int .i64 (-(x + 1))))).frozen? ⟨q, 1, none⟩ = false := HS1.out.box.free 1
          have g12 : ((W3.setCell ⟨q, 0, none⟩ (.int .i64 (-(x + 1))))).frozen? ⟨q, 2, none⟩ = false := HS1.out.box.free 2
          obtain ⟨wa2, wb2, wc2⟩ := HWZ.out hz0
          have HS2 := Lib.hid (HS1.out.put2 (-(z + 1)))
          have b20 : (((W3.setCell ⟨q, 0, none⟩ (.int .i64 (-(x + 1)))).setCell ⟨q, 2, none⟩ (.int .i64 (-(z + 1))))).cell? ⟨q, 0, none⟩ = some (.int .i64 (-(x + 1))) := HS2.out.box.cell 0
          have b21 : (((W3.setCell ⟨q, 0, none⟩ (.int .i64 (-(x + 1)))).setCell ⟨q, 2, none⟩ (.int .i64 (-(z + 1))))).cell? ⟨q, 1, none⟩ = some (.int .i64 (y)) := HS2.out.box.cell 1
          have b22 : (((W3.setCell ⟨q, 0, none⟩ (.int .i64 (-(x + 1)))).setCell ⟨q, 2, none⟩ (.int .i64 (-(z + 1))))).cell? ⟨q, 2, none⟩ = some (.int .i64 (-(z + 1))) := HS2.out.box.cell 2
          have b23 : (((W3.setCell ⟨q, 0, none⟩ (.int .i64 (-(x + 1)))).setCell ⟨q, 2, none⟩ (.int .i64 (-(z + 1))))).cell? ⟨q, 3, none⟩ = some (.slice Av nv cv) := HS2.out.box.cell 3
          have g20 : (((W3.setCell ⟨q, 0, none⟩ (.int .i64 (-(x + 1)))).setCell ⟨q, 2, none⟩ (.int .i64 (-(z + 1))))).frozen? ⟨q, 0, none⟩ = false := HS2.out.box.free 0
          have g21 : (((W3.setCell ⟨q, 0, none⟩ (.int .i64 (-(x + 1)))).setCell ⟨q, 2, none⟩ (.int .i64 (-(z + 1))))).frozen? ⟨q, 1, none⟩ = false := HS2.out.box.free 1
          have g22 : (((W3.setCell ⟨q, 0, none⟩ (.int .i64 (-(x + 1)))).setCell ⟨q, 2, none⟩ (.int .i64 (-(z + 1))))).frozen? ⟨q, 2, none⟩ = false := HS2.out.box.free 2
          have r0 : (((W3.setCell ⟨q, 0, none⟩ (.int .i64 (-(x + 1)))).setCell ⟨q, 2, none⟩ (.int .i64 (-(z + 1))))).cell? ⟨w.heap.size + 1, 0, none⟩ = some (.int .i64 0) := HS2.out.res.cell 0
          have r1 : (((W3.setCell ⟨q, 0, none⟩ (.int .i64 (-(x + 1)))).setCell ⟨q, 2, none⟩ (.int .i64 (-(z + 1))))).cell? ⟨w.heap.size + 1, 1, none⟩ = some (.int .i64 0) := HS2.out.res.cell 1
          have r2 : (((W3.setCell ⟨q, 0, none⟩ (.int .i64 (-(x + 1)))).setCell ⟨q, 2, none⟩ (.int .i64 (-(z + 1))))).cell? ⟨w.heap.size + 1, 2, none⟩ = some (.int .i64 0) := HS2.out.res.cell 2
          have r3 : (((W3.setCell ⟨q, 0, none⟩ (.int .i64 (-(x + 1)))).setCell ⟨q, 2, none⟩ (.int .i64 (-(z + 1))))).cell? ⟨w.heap.size + 1, 3, none⟩ = some (.slice none 0 0) := HS2.out.res.cell 3
          have t0 : (((W3.setCell ⟨q, 0, none⟩ (.int .i64 (-(x + 1)))).setCell ⟨q, 2, none⟩ (.int .i64 (-(z + 1))))).frozen? ⟨w.heap.size + 1, 0, none⟩ = false := HS2.out.res.free 0
          have t1 : (((W3.setCell ⟨q, 0, none⟩ (.int .i64 (-(x + 1)))).setCell ⟨q, 2, none⟩ (.int .i64 (-(z + 1))))).frozen? ⟨w.heap.size + 1, 1, none⟩ = false := HS2.out.res.free 1
          have t2 : (((W3.setCell ⟨q, 0, none⟩ (.int .i64 (-(x + 1)))).setCell ⟨q, 2, none⟩ (.int .i64 (-(z + 1))))).frozen? ⟨w.heap.size + 1, 2, none⟩ = false := HS2.out.res.free 2
          have t3 : (((W3.setCell ⟨q, 0, none⟩ (.int .i64 (-(x + 1)))).setCell ⟨q, 2, none⟩ (.int .i64 (-(z + 1))))).frozen? ⟨w.heap.size + 1, 3, none⟩ = false := HS2.out.res.free 3
          obtain ⟨f1, f2, f3⟩ := HS2.out.fin
          have F1 := Lib.hid f1
          have F2 := Lib.hid f2
          have F3 := Lib.hid f3
          clear f1 f2 f3
          go_wp2_with fail
          exact bodyPost_ret (ptEnd _ (w.heap.size + 1) _ _ _ _ _ rfl F1.out) rfl ⟨_, (by rw [absP_neg (x := x) (by omega), absP_pos (x := y) (by omega), absP_neg (x := z) (by omega)]; try rfl), F2, F3⟩
        · have b00 : (W3).cell? ⟨q, 0, none⟩ = some (.int .i64 (x)) := HS.out.box.cell 0
          have b01 : (W3).cell? ⟨q, 1, none⟩ = some (.int .i64 (y)) := HS.out.box.cell 1
          have b02 : (W3).cell? ⟨q, 2, none⟩ = some (.int .i64 (z)) := HS.out.box.cell 2
          have b03 : (W3).cell? ⟨q, 3, none⟩ = some (.slice Av nv cv) := HS.out.box.cell 3
          have g00 : (W3).frozen? ⟨q, 0, none⟩ = false := HS.out.box.free 0
          have g01 : (W3).frozen? ⟨q, 1, none⟩ = false := HS.out.box.free 1
          have g02 : (W3).frozen? ⟨q, 2, none⟩ = false := HS.out.box.free 2
          obtain ⟨wa1, wb1, wc1⟩ := HWX.out hx0
          have HS1 := Lib.hid (HS.out.put0 (-(x + 1)))
          have b10 : ((W3.setCell ⟨q, 0, none⟩ (.int .i64 (-(x + 1))))).cell? ⟨q, 0, none⟩ = some (.int .i64 (-(x + 1))) := HS1.out.box.cell 0
          have b11 : ((W3.setCell ⟨q, 0, none⟩ (.int .i64 (-(x + 1))))).cell? ⟨q, 1, none⟩ = some (.int .i64 (y)) := HS1.out.box.cell 1
          have b12 : ((W3.setCell ⟨q, 0, none⟩ (.int .i64 (-(x + 1))))).cell? ⟨q, 2, none⟩ = some (.int .i64 (z)) := HS1.out.box.cell 2
          have b13 : ((W3.setCell ⟨q, 0, none⟩ (.int .i64 (-(x + 1))))).cell? ⟨q, 3, none⟩ = some (.slice Av nv cv) := HS1.out.box.cell 3
          have g10 : ((W3.setCell ⟨q, 0, none⟩ (.int .i64 (-(x + 1))))).frozen? ⟨q, 0, none⟩ = false := HS1.out.box.free 0
          have g11 : ((W3.setCell ⟨q, 0, none⟩ (.int .i64 (-(x + 1))))).frozen? ⟨q, 1, none⟩ = false := HS1.out.box.free 1
          have g12 : ((W3.setCell ⟨q, 0, none⟩ (.int .i64 (-(x + 1))))).frozen? ⟨q, 2, none⟩ = false := HS1.out.box.free 2
          have r0 : ((W3.setCell ⟨q, 0, none⟩ (.int .i64 (-(x + 1))))).cell? ⟨w.heap.size + 1, 0, none⟩ = some (.int .i64 0) := HS1.out.res.cell 0
          have r1 : ((W3.setCell ⟨q, 0, none⟩ (.int .i64 (-(x + 1))))).cell? ⟨w.heap.size + 1, 1, none⟩ = some (.int .i64 0) := HS1.out.res.cell 1
          have r2 : ((W3.setCell ⟨q, 0, none⟩ (.int .i64 (-(x + 1))))).cell? ⟨w.heap.size + 1, 2, none⟩ = some (.int .i64 0) := HS1.out.res.cell 2
          have r3 : ((W3.setCell ⟨q, 0, none⟩ (.int .i64 (-(x + 1))))).cell? ⟨w.heap.size + 1, 3, none⟩ = some (.slice none 0 0) := HS1.out.res.cell 3
          have t0 : ((W3.setCell ⟨q, 0, none⟩ (.int .i64 (-(x + 1))))).frozen? ⟨w.heap.size + 1, 0, none⟩ = false := HS1.out.res.free 0
          have t1 : ((W3.setCell ⟨q, 0, none⟩ (.int .i64 (-(x + 1))))).frozen? ⟨w.heap.size + 1, 1, none⟩ = false := HS1.out.res.free 1
          have t2 : ((W3.setCell ⟨q, 0, none⟩ (.int .i64 (-(x + 1))))).frozen? ⟨w.heap.size + 1, 2, none⟩ = false := HS1.out.res.free 2
          have t3 : ((W3.setCell ⟨q, 0, none⟩ (.int .i64 (-(x + 1))))).frozen? ⟨w.heap.size + 1, 3, none⟩ = false := HS1.out.res.free 3
          obtain ⟨f1, f2, f3⟩ := HS1.out.fin
          have F1 := Lib.hid f1
          have F2 := Lib.hid f2
          have F3 := Lib.hid f3
          clear f1 f2 f3
          go_wp2_with fail
          exact bodyPost_ret (ptEnd _ (w.heap.size + 1) _ _ _ _ _ rfl F1.out) rfl ⟨_, (by rw [absP_neg (x := x) (by omega), absP_pos (x := y) (by omega), absP_pos (x := z) (by omega)]; try rfl), F2, F3⟩
    · by_cases hy0 : y < 0
      · by_cases hz0 : z < 0
        · have b00 : (W3).cell? ⟨q, 0, none⟩ = some (.int .i64 (x)) := HS.out.box.cell 0
          have b01 : (W3).cell? ⟨q, 1, none⟩ = some (.int .i64 (y)) := HS.out.box.cell 1
          have b02 : (W3).cell? ⟨q, 2, none⟩ = some (.int .i64 (z)) := HS.out.box.cell 2
          have b03 : (W3).cell? ⟨q, 3, none⟩ = some (.slice Av nv cv) := HS.out.box.cell 3
          have g00 : (W3).frozen? ⟨q, 0, none⟩ = false := HS.out.box.free 0
          have g01 : (W3).frozen? ⟨q, 1, none⟩ = false := HS.out.box.free 1
          have g02 : (W3).frozen? ⟨q, 2, none⟩ = false := HS.out.box.free 2
          obtain ⟨wa1, wb1, wc1⟩ := HWY.out hy0
          have HS1 := Lib.hid (HS.out.put1 (-(y + 1)))
          have b10 : ((W3.setCell ⟨q, 1, none⟩ (.int .i64 (-(y + 1))))).cell? ⟨q, 0, none⟩ = some (.int .i64 (x)) := HS1.out.box.cell 0
          have b11 : ((W3.setCell ⟨q, 1, none⟩ (.int .i64 (-(y + 1))))).cell? ⟨q, 1, none⟩ = some (.int .i64 (-(y + 1))) := HS1.out.box.cell 1
          have b12 : ((W3.setCell ⟨q, 1, none⟩ (.int .i64 (-(y + 1))))).cell? ⟨q, 2, none⟩ = some (.int .i64 (z)) := HS1.out.box.cell 2
          have b13 : ((W3.setCell ⟨q, 1, none⟩ (.int .i64 (-(y + 1))))).cell? ⟨q, 3, none⟩ = some (.slice Av nv cv) := HS1.out.box.cell 3
          have g10 : ((W3.setCell ⟨q, 1, none⟩ (.int .i64 (-(y + 1))))).frozen? ⟨q, 0, none⟩ = false := HS1.out.box.free 0
          have g11 : ((W3.setCell ⟨q, 1, none⟩ (.int .i64 (-(y + 1))))).frozen? ⟨q, 1, none⟩ = false := HS1.out.box.free 1
          have g12 : ((W3.setCell ⟨q, 1, none⟩ (.int .i64 (-(y + 1))))).frozen? ⟨q, 2, none⟩ = false := HS1.out.box.free 2
          obtain ⟨wa2, wb2, wc2⟩ := HWZ.out hz0
          have HS2 := Lib.hid (HS1.out.put2 (-(z + 1)))
          have b20 : (((W3.setCell ⟨q, 1, none⟩ (.int .i64 (-(y + 1)))).setCell ⟨q, 2, none⟩ (.int .i64 (-(z + 1))))).cell? ⟨q, 0, none⟩ = some (.int .i64 (x)) := HS2.out.box.cell 0
          have b21 : (((W3.setCell ⟨q, 1, none⟩ (.int .i64 (-(y + 1)))).setCell ⟨q, 2, none⟩ (.int .i64 (-(z + 1))))).cell? ⟨q, 1, none⟩ = some (.int .i64 (-(y + 1))) := HS2.out.box.cell 1
          have b22 : (((W3.setCell ⟨q, 1, none⟩ (.int .i64 (-(y + 1)))).setCell ⟨q, 2, none⟩ (.int .i64 (-(z + 1))))).cell? ⟨q, 2, none⟩ = some (.int .i64 (-(z + 1))) := HS2.out.box.cell 2
          have b23 : (((W3.setCell ⟨q, 1, none⟩ (.int .i64 (-(y + 1)))).setCell ⟨q, 2, none⟩ (.int .i64 (-(z + 1))))).cell? ⟨q, 3, none⟩ = some (.slice Av nv cv) := HS2.out.box.cell 3
          have g20 : (((W3.setCell ⟨q, 1, none⟩ (.int .i64 (-(y + 1)))).setCell ⟨q, 2, none⟩ (.int .i64 (-(z + 1))))).frozen? ⟨q, 0, none⟩ = false := HS2.out.box.free 0
          have g21 : (((W3.setCell ⟨q, 1, none⟩ (.int .i64 (-(y + 1)))).setCell ⟨q, 2, none⟩ (.int .i64 (-(z + 1))))).frozen? ⟨q, 1, none⟩ = false := HS2.out.box.free 1
          have g22 : (((W3.setCell ⟨q, 1, none⟩ (.int .i64 (-(y + 1)))).setCell ⟨q, 2, none⟩ (.int .i64 (-(z + 1))))).frozen? ⟨q, 2, none⟩ = false := HS2.out.box.free 2
          have r0 : (((W3.setCell ⟨q, 1, none⟩ (.int .i64 (-(y + 1)))).setCell ⟨q, 2, none⟩ (.int .i64 (-(z + 1))))).cell? ⟨w.heap.size + 1, 0, none⟩ = some (.int .i64 0) := HS2.out.res.cell 0
          have r1 : (((W3.setCell ⟨q, 1, none⟩ (.int .i64 (-(y + 1)))).setCell ⟨q, 2, none⟩ (.int .i64 (-(z + 1))))).cell? ⟨w.heap.size + 1, 1, none⟩ = some (.int .i64 0) := HS2.out.res.cell 1
          have r2 : (((W3.setCell ⟨q, 1, none⟩ (.int .i64 (-(y + 1)))).setCell ⟨q, 2, none⟩ (.int .i64 (-(z + 1))))).cell? ⟨w.heap.size + 1, 2, none⟩ = some (.int .i64 0) := HS2.out.res.cell 2
          have r3 : (((W3.setCell ⟨q, 1, none⟩ (.int .i64 (-(y + 1)))).setCell ⟨q, 2, none⟩ (.int .i64 (-(z + 1))))).cell? ⟨w.heap.size + 1, 3, none⟩ = some (.slice none 0 0) := HS2.out.res.cell 3
          have t0 : (((W3.setCell ⟨q, 1, none⟩ (.int .i64 (-(y + 1)))).setCell ⟨q, 2, none⟩ (.int .i64 (-(z + 1))))).frozen? ⟨w.heap.size + 1, 0, none⟩ = false := HS2.out.res.free 0
          have t1 : (((W3.setCell ⟨q, 1, none⟩ (.int .i64 (-(y + 1)))).setCell ⟨q, 2, none⟩ (.int .i64 (-(z + 1))))).frozen? ⟨w.heap.size + 1, 1, none⟩ = false := HS2.out.res.free 1
          have t2 : (((W3.setCell ⟨q, 1, none⟩ (.int .i64 (-(y + 1)))).setCell ⟨q, 2, none⟩ (.int .i64 (-(z + 1))))).frozen? ⟨w.heap.size + 1, 2, none⟩ = false := HS2.out.res.free 2
          have t3 : (((W3.setCell ⟨q, 1, none⟩ (.int .i64 (-(y + 1)))).setCell ⟨q, 2, none⟩ (.int .i64 (-(z + 1))))).frozen? ⟨w.heap.size + 1, 3, none⟩ = false := HS2.out.res.free 3
          obtain ⟨f1, f2, f3⟩ := HS2.out.fin
          have F1 := Lib.hid f1
          have F2 := Lib.hid f2
          have F3 := Lib.hid f3
          clear f1 f2 f3
          go_wp2_with fail
          exact bodyPost_ret (ptEnd _ (w.heap.size + 1) _ _ _ _ _ rfl F1.out) rfl ⟨_, (by rw [absP_pos (x := x) (by omega), absP_neg (x := y) (by omega), absP_neg (x := z) (by omega)]; try rfl), F2, F3⟩
        · have b00 : (W3).cell? ⟨q, 0, none⟩ = some (.int .i64 (x)) := HS.out.box.cell 0
          have b01 : (W3).cell? ⟨q, 1, none⟩ = some (.int .i64 (y)) := HS.out.box.cell 1
          have b02 : (W3).cell? ⟨q, 2, none⟩ = some (.int .i64 (z)) := HS.out.box.cell 2
          have b03 : (W3).cell? ⟨q, 3, none⟩ = some (.slice Av nv cv) := HS.out.box.cell 3
          have g00 : (W3).frozen? ⟨q, 0, none⟩ = false := HS.out.box.free 0
          have g01 : (W3).frozen? ⟨q, 1, none⟩ = false := HS.out.box.free 1
          have g02 : (W3).frozen? ⟨q, 2, none⟩ = false := HS.out.box.free 2
          obtain ⟨wa1, wb1, wc1⟩ := HWY.out hy0
          have HS1 := Lib.hid (HS.out.put1 (-(y + 1)))
          have b10 : ((W3.setCell ⟨q, 1, none⟩ (.int .i64 (-(y + 1))))).cell? ⟨q, 0, none⟩ = some (.int .i64 (x)) := HS1.out.box.cell 0
          have b11 : ((W3.setCell ⟨q, 1, none⟩ (.int .i64 (-(y + 1))))).cell? ⟨q, 1, none⟩ = some (.int .i64 (-(y + 1))) := HS1.out.box.cell 1
          have b12 : ((W3.setCell ⟨q, 1, none⟩ (.int .i64 (-(y + 1))))).cell? ⟨q, 2, none⟩ = some (.int .i64 (z)) := HS1.out.box.cell 2
          have b13 : ((W3.setCell ⟨q, 1, none⟩ (.int .i64 (-(y + 1))))).cell? ⟨q, 3, none⟩ = some (.slice Av nv cv) := HS1.out.box.cell 3
          have g10 : ((W3.setCell ⟨q, 1, none⟩ (.int .i64 (-(y + 1))))).frozen? ⟨q, 0, none⟩ = false := HS1.out.box.free 0
          have g11 : ((W3.setCell ⟨q, 1, none⟩ (.int .i64 (-(y + 1))))).frozen? ⟨q, 1, none⟩ = false := HS1.out.box.free 1
          have g12 : ((W3.setCell ⟨q, 1, none⟩ (.int .i64 (-(y + 1))))).frozen? ⟨q, 2, none⟩ = false := HS1.out.box.free 2
          have r0 : ((W3.setCell ⟨q, 1, none⟩ (.int .i64 (-(y + 1))))).cell? ⟨w.heap.size + 1, 0, none⟩ = some (.int .i64 0) := HS1.out.res.cell 0
          have r1 : ((W3.setCell ⟨q, 1, none⟩ (.int .i64 (-(y + 1))))).cell? ⟨w.heap.size + 1, 1, none⟩ = some (.int .i64 0) := HS1.out.res.cell 1
          have r2 : ((W3.setCell ⟨q, 1, none⟩ (.int .i64 (-(y + 1))))).cell? ⟨w.heap.size + 1, 2, none⟩ = some (.int .i64 0) := HS1.out.res.cell 2
          have r3 : ((W3.setCell ⟨q, 1, none⟩ (.int .i64 (-(y + 1))))).cell? ⟨w.heap.size + 1, 3, none⟩ = some (.slice none 0 0) := HS1.out.res.cell 3
          have t0 : ((W3.setCell ⟨q, 1, none⟩ (.int .i64 (-(y + 1))))).frozen? ⟨w.heap.size + 1, 0, none⟩ = false := HS1.out.res.free 0
          have t1 : ((W3.setCell ⟨q, 1, none⟩ (.int .i64 (-(y + 1))))).frozen? ⟨w.heap.size + 1, 1, none⟩ = false := HS1.out.res.free 1
          have t2 : ((W3.setCell ⟨q, 1, none⟩ (.int .i64 (-(y + 1))))).frozen? ⟨w.heap.size + 1, 2, none⟩ = false := HS1.out.res.free 2
          have t3 : ((W3.setCell ⟨q, 1, none⟩ (.int .i64 (-(y + 1))))).frozen? ⟨w.heap.size + 1, 3, none⟩ = false := HS1.out.res.free 3
          obtain ⟨f1, f2, f3⟩ := HS1.out.fin
          have F1 := Lib.hid f1
          have F2 := Lib.hid f2
          have F3 := Lib.hid f3
          clear f1 f2 f3
          go_wp2_with fail
          exact bodyPost_ret (ptEnd _ (w.heap.size + 1) _ _ _ _ _ rfl F1.out) rfl ⟨_, (by rw [absP_pos (x := x) (by omega), absP_neg (x := y) (by omega), absP_pos (x := z) (by omega)]; try rfl), F2, F3⟩
      · by_cases hz0 : z < 0
        · have b00 : (W3).cell? ⟨q, 0, none⟩ = some (.int .i64 (x)) := HS.out.box.cell 0
          have b01 : (W3).cell? ⟨q, 1, none⟩ = some (.int .i64 (y)) := HS.out.box.cell 1
          have b02 : (W3).cell? ⟨q, 2, none⟩ = some (.int .i64 (z)) := HS.out.box.cell 2
          have b03 : (W3).cell? ⟨q, 3, none⟩ = some (.slice Av nv cv) := HS.out.box.cell 3
          have g00 : (W3).frozen? ⟨q, 0, none⟩ = false := HS.out.box.free 0
          have g01 : (W3).frozen? ⟨q, 1, none⟩ = false := HS.out.box.free 1
          have g02 : (W3).frozen? ⟨q, 2, none⟩ = false := HS.out.box.free 2
          obtain ⟨wa1, wb1, wc1⟩ := HWZ.out hz0
          have HS1 := Lib.hid (HS.out.put2 (-(z + 1)))
          have b10 : ((W3.setCell ⟨q, 2, none⟩ (.int .i64 (-(z + 1))))).cell? ⟨q, 0, none⟩ = some (.int .i64 (x)) := HS1.out.box.cell 0
          have b11 : ((W3.setCell ⟨q, 2, none⟩ (.int .i64 (-(z + 1))))).cell? ⟨q, 1, none⟩ = some (.int .i64 (y)) := HS1.out.box.cell 1
          have b12 : ((W3.setCell ⟨q, 2, none⟩ (.int .i64 (-(z + 1))))).cell? ⟨q, 2, none⟩ = some (.int .i64 (-(z + 1))) := HS1.out.box.cell 2
          have b13 : ((W3.setCell ⟨q, 2, none⟩ (.int .i64 (-(z + 1))))).cell? ⟨q, 3, none⟩ = some (.slice Av nv cv) := HS1.out.box.cell 3
          have g10 : ((W3.setCell ⟨q, 2, none⟩ (.int .i64 (-(z + 1))))).frozen? ⟨q, 0, none⟩ = false := HS1.out.box.free 0
          have g11 : ((W3.setCell ⟨q, 2, none⟩ (.int .i64 (-(z + 1))))).frozen? ⟨q, 1, none⟩ = false := HS1.out.box.free 1
          have g12 : ((W3.setCell ⟨q, 2, none⟩ (.int .i64 (-(z + 1))))).frozen? ⟨q, 2, none⟩ = false := HS1.out.box.free 2
          have r0 : ((W3.setCell ⟨q, 2, none⟩ (.int .i64 (-(z + 1))))).cell? ⟨w.heap.size + 1, 0, none⟩ = some (.int .i64 0) := HS1.out.res.cell 0
          have r1 : ((W3.setCell ⟨q, 2, none⟩ (.int .i64 (-(z + 1))))).cell? ⟨w.heap.size + 1, 1, none⟩ = some (.int .i64 0) := HS1.out.res.cell 1
          have r2 : ((W3.setCell ⟨q, 2, none⟩ (.int .i64 (-(z + 1))))).cell? ⟨w.heap.size + 1, 2, none⟩ = some (.int .i64 0) := HS1.out.res.cell 2
          have r3 : ((W3.setCell ⟨q, 2, none⟩ (.int .i64 (-(z + 1))))).cell? ⟨w.heap.size + 1, 3, none⟩ = some (.slice none 0 0) := HS1.out.res.cell 3
          have t0 : ((W3.setCell ⟨q, 2, none⟩ (.int .i64 (-(z + 1))))).frozen? ⟨w.heap.size + 1, 0, none⟩ = false := HS1.out.res.free 0
          have t1 : ((W3.setCell ⟨q, 2, none⟩ (.int .i64 (-(z + 1))))).frozen? ⟨w.heap.size + 1, 1, none⟩ = false := HS1.out.res.free 1
          have t2 : ((W3.setCell ⟨q, 2, none⟩ (.int .i64 (-(z + 1))))).frozen? ⟨w.heap.size + 1, 2, none⟩ = false := HS1.out.res.free 2
          have t3 : ((W3.setCell ⟨q, 2, none⟩ (.int .i64 (-(z + 1))))).frozen? ⟨w.heap.size + 1, 3, none⟩ = false := HS1.out.res.free 3
          obtain ⟨f1, f2, f3⟩ := HS1.out.fin
          have F1 := Lib.hid f1
          have F2 := Lib.hid f2
          have F3 := Lib.hid f3
          clear f1 f2 f3
          go_wp2_with fail
          exact bodyPost_ret (ptEnd _ (w.heap.size + 1) _ _ _ _ _ rfl F1.out) rfl ⟨_, (by rw [absP_pos (x := x) (by omega), absP_pos (x := y) (by omega), absP_neg (x := z) (by omega)]; try rfl), F2, F3⟩
        · have b00 : (W3).cell? ⟨q, 0, none⟩ = some (.int .i64 (x)) := HS.out.box.cell 0
          have b01 : (W3).cell? ⟨q, 1, none⟩ = some (.int .i64 (y)) := HS.out.box.cell 1
          have b02 : (W3).cell? ⟨q, 2, none⟩ = some (.int .i64 (z)) := HS.out.box.cell 2
          have b03 : (W3).cell? ⟨q, 3, none⟩ = some (.slice Av nv cv) := HS.out.box.cell 3
          have g00 : (W3).frozen? ⟨q, 0, none⟩ = false := HS.out.box.free 0
          have g01 : (W3).frozen? ⟨q, 1, none⟩ = false := HS.out.box.free 1
          have g02 : (W3).frozen? ⟨q, 2, none⟩ = false := HS.out.box.free 2
          have r0 : (W3).cell? ⟨w.heap.size + 1, 0, none⟩ = some (.int .i64 0) := HS.out.res.cell 0
          have r1 : (W3).cell? ⟨w.heap.size + 1, 1, none⟩ = some (.int .i64 0) := HS.out.res.cell 1
          have r2 : (W3).cell? ⟨w.heap.size + 1, 2, none⟩ = some (.int .i64 0) := HS.out.res.cell 2
          have r3 : (W3).cell? ⟨w.heap.size + 1, 3, none⟩ = some (.slice none 0 0) := HS.out.res.cell 3
          have t0 : (W3).frozen? ⟨w.heap.size + 1, 0, none⟩ = false := HS.out.res.free 0
          have t1 : (W3).frozen? ⟨w.heap.size + 1, 1, none⟩ = false := HS.out.res.free 1
          have t2 : (W3).frozen? ⟨w.heap.size + 1, 2, none⟩ = false := HS.out.res.free 2
          have t3 : (W3).frozen? ⟨w.heap.size + 1, 3, none⟩ = false := HS.out.res.free 3
          obtain ⟨f1, f2, f3⟩ := HS.out.fin
          have F1 := Lib.hid f1
          have F2 := Lib.hid f2
          have F3 := Lib.hid f3
          clear f1 f2 f3
          go_wp2_with fail
          exact bodyPost_ret (ptEnd _ (w.heap.size + 1) _ _ _ _ _ rfl F1.out) rfl ⟨_, (by rw [absP_pos (x := x) (by omega), absP_pos (x := y) (by omega), absP_pos (x := z) (by omega)]; try rfl), F2, F3⟩
end Go.Proofs.YtjkmbggaoinkdaaDoor
