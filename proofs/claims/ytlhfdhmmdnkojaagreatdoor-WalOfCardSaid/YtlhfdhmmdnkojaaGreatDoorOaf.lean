/-
  Put together, as far as it is used: WvS, WvT, Qh, Args, Qq, ArgsL, WvK.
-/
import Derived.Test.YtlhfdhmmdnkojaaGreatDoorOae
import Derived.Deep.RegionHeld3
import Derived.Laws.ResultCell
import Derived.Test.YtlhfdhmmdnkojaaGreatDoorRows
import Derived.ProofKit
import Derived.OpenShut
import Derived.ChangeOld
import Derived.Below
import Derived.Deep.Slices
import Derived.Lib.SmallJoins
import Derived.SizedLaws
import Derived.Deep.CutRange
namespace Go.Proofs.YtlhfdhmmdnkojaaGreatDoor
open Go.RowKit Dg
set_option maxRecDepth 100000
set_option linter.unusedVariables false
/-- A write's event, the program's. -/
def Wd.told (x : Wd) : Ev := ⟨tk x.k, 0, x.t, if x.k = 2 then x.R else [], if x.k = 2 then [] else x.R, x.ck, x.ct, x.L, x.K, x.cl⟩
theorem told_same {x y : Wd} (h : x.k = y.k) : evF x.told y.told = gF x y := by
  unfold gF evF Wd.told Wd.ev chF
  dsimp only
  rw [h]
  have hn : vsF [] [] = true := rfl
  by_cases h2 : y.k = 2
  · simp only [h2, if_true, hn, beq_self_eq_true, Bool.true_and, Bool.and_true]
  · simp only [h2, if_false, hn, beq_self_eq_true, Bool.true_and, Bool.and_true]
theorem gF_kind {x y : Wd} (h : x.k ≠ y.k) : gF x y = false := by
  unfold gF evF Wd.ev
  dsimp only
  have : (x.k == y.k) = false := by simpa using h
  rw [this]; rfl
def toldV (r : Gr) : Value := .agg #[.int .i64 (tk r.x.k), .int .i64 0, .string r.x.t, if r.x.k = 2 then .slice r.Ar r.nr r.zr else .slice none 0 0, if r.x.k = 2 then .slice none 0 0 else .slice r.Ar r.nr r.zr, .int .i64 r.x.ck, .string r.x.ct, .slice r.A r.n r.c, .int .i64 r.x.K, .string r.x.cl.nm, .int .i64 r.x.cl.k, .bool r.x.cl.no]
theorem toldV_at {w : World} {r : Gr} (h : r.ok w) : EvAt w (toldV r) r.x.told := by
  have h1 : (r.nr : Int) ≤ 9223372036854775807 := by have := h.b.2.1; omega
  by_cases h2 : r.x.k = 2
  · refine ⟨r.Ar, r.nr, r.zr, none, 0, 0, r.A, r.n, r.c, ?_, ?_, ?_, h.c.1, h.c.2.1, h.c.2.2⟩
    · simp [toldV, Wd.told, h2]
    · simp only [Wd.told, h2, if_true]; exact ⟨h.b.1, h1, h.b.2.2⟩
    · simp only [Wd.told, h2, if_true]; exact ⟨rfl, by omega, fun h => absurd rfl h⟩
  · refine ⟨none, 0, 0, r.Ar, r.nr, r.zr, r.A, r.n, r.c, ?_, ?_, ?_, h.c.1, h.c.2.1, h.c.2.2⟩
    · simp [toldV, Wd.told, h2]
    · simp only [Wd.told, h2, if_false]; exact ⟨rfl, by omega, fun h => absurd rfl h⟩
    · simp only [Wd.told, h2, if_false]; exact ⟨h.b.1, h1, h.b.2.2⟩
theorem toldG_any (r : Gr) (w : World) : Calls Tryz.prog 130 #[.agg #[.int .i64 r.x.k, .string r.x.t, .slice r.Ar r.nr r.zr, .int .i64 r.x.ck, .string r.x.ct, .slice r.A r.n r.c, .int .i64 r.x.K, .string r.x.cl.nm, .int .i64 r.x.cl.k, .bool r.x.cl.no]] w fun e w' => e = .returned (toldV r) ∧ Hid (Below w.heap.size w w') :=
  told_any r.x.k r.x.t r.Ar r.nr r.zr r.x.ck r.x.ct r.A r.n r.c r.x.K r.x.cl.nm r.x.cl.k r.x.cl.no w
set_option maxHeartbeats 8000000 in
theorem sameWrite_any (r q : Gr) (w : World) (hr : r.ok w) (hq : q.ok w) :
    Calls Tryz.prog 89 #[.agg #[.int .i64 r.x.k, .string r.x.t, .slice r.Ar r.nr r.zr, .int .i64 r.x.ck, .string r.x.ct, .slice r.A r.n r.c, .int .i64 r.x.K, .string r.x.cl.nm, .int .i64 r.x.cl.k, .bool r.x.cl.no], .agg #[.int .i64 q.x.k, .string q.x.t, .slice q.Ar q.nr q.zr, .int .i64 q.x.ck, .string q.x.ct, .slice q.A q.n q.c, .int .i64 q.x.K, .string q.x.cl.nm, .int .i64 q.x.cl.k, .bool q.x.cl.no]] w fun e w' => e = .returned (.bool (gF r.x q.x)) ∧ Hid (Below w.heap.size w w') := by
  have HX := Lib.hid ((Has.new w 51 #[.int .i64 r.x.k, .string r.x.t, .slice r.Ar r.nr r.zr, .int .i64 r.x.ck, .string r.x.ct, .slice r.A r.n r.c, .int .i64 r.x.K, .string r.x.cl.nm, .int .i64 r.x.cl.k, .bool r.x.cl.no]).alloc (.cells #[.int .i64 q.x.k, .string q.x.t, .slice q.Ar q.nr q.zr, .int .i64 q.x.ck, .string q.x.ct, .slice q.A q.n q.c, .int .i64 q.x.K, .string q.x.cl.nm, .int .i64 q.x.cl.k, .bool q.x.cl.no] 51))
  obtain ⟨hY, hB⟩ := two w #[.int .i64 r.x.k, .string r.x.t, .slice r.Ar r.nr r.zr, .int .i64 r.x.ck, .string r.x.ct, .slice r.A r.n r.c, .int .i64 r.x.K, .string r.x.cl.nm, .int .i64 r.x.cl.k, .bool r.x.cl.no] #[.int .i64 q.x.k, .string q.x.t, .slice q.Ar q.nr q.zr, .int .i64 q.x.ck, .string q.x.ct, .slice q.A q.n q.c, .int .i64 q.x.K, .string q.x.cl.nm, .int .i64 q.x.cl.k, .bool q.x.cl.no] 51 51
  have HY := Lib.hid hY
  have HB := hB
  clear hY hB
  by_cases hk : r.x.k = q.x.k
  · have hk1 : (r.x.k == q.x.k) = true := by simpa using hk
    have HK := Lib.hid hk
    clear hk
    go_enter Tryz.func89, Tryz.ntmps89
    go_wp2_with fail
    obtain ⟨W0, hW0⟩ : ∃ W, W = (w.alloc (.cells #[.int .i64 r.x.k, .string r.x.t, .slice r.Ar r.nr r.zr, .int .i64 r.x.ck, .string r.x.ct, .slice r.A r.n r.c, .int .i64 r.x.K, .string r.x.cl.nm, .int .i64 r.x.cl.k, .bool r.x.cl.no] 51)).alloc (.cells #[.int .i64 q.x.k, .string q.x.t, .slice q.Ar q.nr q.zr, .int .i64 q.x.ck, .string q.x.ct, .slice q.A q.n q.c, .int .i64 q.x.K, .string q.x.cl.nm, .int .i64 q.x.cl.k, .bool q.x.cl.no] 51) := ⟨_, rfl⟩
    rw [← hW0] at HX HY HB ⊢
    clear hW0
    have hS0' : (fun X : World => X.cell? ⟨w.heap.size, 0, none⟩ = some (.int .i64 r.x.k) ∧ X.cell? ⟨w.heap.size, 1, none⟩ = some (.string r.x.t) ∧ X.cell? ⟨w.heap.size, 2, none⟩ = some (.slice r.Ar r.nr r.zr) ∧ X.cell? ⟨w.heap.size, 3, none⟩ = some (.int .i64 r.x.ck) ∧ X.cell? ⟨w.heap.size, 4, none⟩ = some (.string r.x.ct) ∧ X.cell? ⟨w.heap.size, 5, none⟩ = some (.slice r.A r.n r.c) ∧ X.cell? ⟨w.heap.size, 6, none⟩ = some (.int .i64 r.x.K) ∧ X.cell? ⟨w.heap.size, 7, none⟩ = some (.string r.x.cl.nm) ∧ X.cell? ⟨w.heap.size, 8, none⟩ = some (.int .i64 r.x.cl.k) ∧ X.cell? ⟨w.heap.size, 9, none⟩ = some (.bool r.x.cl.no) ∧ X.cell? ⟨w.heap.size + 1, 0, none⟩ = some (.int .i64 q.x.k) ∧ X.cell? ⟨w.heap.size + 1, 1, none⟩ = some (.string q.x.t) ∧ X.cell? ⟨w.heap.size + 1, 2, none⟩ = some (.slice q.Ar q.nr q.zr) ∧ X.cell? ⟨w.heap.size + 1, 3, none⟩ = some (.int .i64 q.x.ck) ∧ X.cell? ⟨w.heap.size + 1, 4, none⟩ = some (.string q.x.ct) ∧ X.cell? ⟨w.heap.size + 1, 5, none⟩ = some (.slice q.A q.n q.c) ∧ X.cell? ⟨w.heap.size + 1, 6, none⟩ = some (.int .i64 q.x.K) ∧ X.cell? ⟨w.heap.size + 1, 7, none⟩ = some (.string q.x.cl.nm) ∧ X.cell? ⟨w.heap.size + 1, 8, none⟩ = some (.int .i64 q.x.cl.k) ∧ X.cell? ⟨w.heap.size + 1, 9, none⟩ = some (.bool q.x.cl.no)) W0.drew := ⟨HX.out.drew.cell 0, HX.out.drew.cell 1, HX.out.drew.cell 2, HX.out.drew.cell 3, HX.out.drew.cell 4, HX.out.drew.cell 5, HX.out.drew.cell 6, HX.out.drew.cell 7, HX.out.drew.cell 8, HX.out.drew.cell 9, HY.out.drew.cell 0, HY.out.drew.cell 1, HY.out.drew.cell 2, HY.out.drew.cell 3, HY.out.drew.cell 4, HY.out.drew.cell 5, HY.out.drew.cell 6, HY.out.drew.cell 7, HY.out.drew.cell 8, HY.out.drew.cell 9⟩
    obtain ⟨w0, hw0⟩ : ∃ W, W = W0.drew := ⟨_, rfl⟩
    have HX0 : Hid (Has w0 w.heap.size 51 #[.int .i64 r.x.k, .string r.x.t, .slice r.Ar r.nr r.zr, .int .i64 r.x.ck, .string r.x.ct, .slice r.A r.n r.c, .int .i64 r.x.K, .string r.x.cl.nm, .int .i64 r.x.cl.k, .bool r.x.cl.no]) := by rw [hw0]; exact HX.out.drew
    have HY0 : Hid (Has w0 (w.heap.size + 1) 51 #[.int .i64 q.x.k, .string q.x.t, .slice q.Ar q.nr q.zr, .int .i64 q.x.ck, .string q.x.ct, .slice q.A q.n q.c, .int .i64 q.x.K, .string q.x.cl.nm, .int .i64 q.x.cl.k, .bool q.x.cl.no]) := by rw [hw0]; exact HY.out.drew
    have HB0 : Hid (Below w.heap.size w w0) := by rw [hw0]; exact HB.out.drew
    have hS0 : (fun X : World => X.cell? ⟨w.heap.size, 0, none⟩ = some (.int .i64 r.x.k) ∧ X.cell? ⟨w.heap.size, 1, none⟩ = some (.string r.x.t) ∧ X.cell? ⟨w.heap.size, 2, none⟩ = some (.slice r.Ar r.nr r.zr) ∧ X.cell? ⟨w.heap.size, 3, none⟩ = some (.int .i64 r.x.ck) ∧ X.cell? ⟨w.heap.size, 4, none⟩ = some (.string r.x.ct) ∧ X.cell? ⟨w.heap.size, 5, none⟩ = some (.slice r.A r.n r.c) ∧ X.cell? ⟨w.heap.size, 6, none⟩ = some (.int .i64 r.x.K) ∧ X.cell? ⟨w.heap.size, 7, none⟩ = some (.string r.x.cl.nm) ∧ X.cell? ⟨w.heap.size, 8, none⟩ = some (.int .i64 r.x.cl.k) ∧ X.cell? ⟨w.heap.size, 9, none⟩ = some (.bool r.x.cl.no) ∧ X.cell? ⟨w.heap.size + 1, 0, none⟩ = some (.int .i64 q.x.k) ∧ X.cell? ⟨w.heap.size + 1, 1, none⟩ = some (.string q.x.t) ∧ X.cell? ⟨w.heap.size + 1, 2, none⟩ = some (.slice q.Ar q.nr q.zr) ∧ X.cell? ⟨w.heap.size + 1, 3, none⟩ = some (.int .i64 q.x.ck) ∧ X.cell? ⟨w.heap.size + 1, 4, none⟩ = some (.string q.x.ct) ∧ X.cell? ⟨w.heap.size + 1, 5, none⟩ = some (.slice q.A q.n q.c) ∧ X.cell? ⟨w.heap.size + 1, 6, none⟩ = some (.int .i64 q.x.K) ∧ X.cell? ⟨w.heap.size + 1, 7, none⟩ = some (.string q.x.cl.nm) ∧ X.cell? ⟨w.heap.size + 1, 8, none⟩ = some (.int .i64 q.x.cl.k) ∧ X.cell? ⟨w.heap.size + 1, 9, none⟩ = some (.bool q.x.cl.no)) w0 := hw0 ▸ hS0'
    refine wp_region_held_drew (S := (fun X : World => X.cell? ⟨w.heap.size, 0, none⟩ = some (.int .i64 r.x.k) ∧ X.cell? ⟨w.heap.size, 1, none⟩ = some (.string r.x.t) ∧ X.cell? ⟨w.heap.size, 2, none⟩ = some (.slice r.Ar r.nr r.zr) ∧ X.cell? ⟨w.heap.size, 3, none⟩ = some (.int .i64 r.x.ck) ∧ X.cell? ⟨w.heap.size, 4, none⟩ = some (.string r.x.ct) ∧ X.cell? ⟨w.heap.size, 5, none⟩ = some (.slice r.A r.n r.c) ∧ X.cell? ⟨w.heap.size, 6, none⟩ = some (.int .i64 r.x.K) ∧ X.cell? ⟨w.heap.size, 7, none⟩ = some (.string r.x.cl.nm) ∧ X.cell? ⟨w.heap.size, 8, none⟩ = some (.int .i64 r.x.cl.k) ∧ X.cell? ⟨w.heap.size, 9, none⟩ = some (.bool r.x.cl.no) ∧ X.cell? ⟨w.heap.size + 1, 0, none⟩ = some (.int .i64 q.x.k) ∧ X.cell? ⟨w.heap.size + 1, 1, none⟩ = some (.string q.x.t) ∧ X.cell? ⟨w.heap.size + 1, 2, none⟩ = some (.slice q.Ar q.nr q.zr) ∧ X.cell? ⟨w.heap.size + 1, 3, none⟩ = some (.int .i64 q.x.ck) ∧ X.cell? ⟨w.heap.size + 1, 4, none⟩ = some (.string q.x.ct) ∧ X.cell? ⟨w.heap.size + 1, 5, none⟩ = some (.slice q.A q.n q.c) ∧ X.cell? ⟨w.heap.size + 1, 6, none⟩ = some (.int .i64 q.x.K) ∧ X.cell? ⟨w.heap.size + 1, 7, none⟩ = some (.string q.x.cl.nm) ∧ X.cell? ⟨w.heap.size + 1, 8, none⟩ = some (.int .i64 q.x.cl.k) ∧ X.cell? ⟨w.heap.size + 1, 9, none⟩ = some (.bool q.x.cl.no))) (by kernel_rfl) hS0' (fun _ => ?_)
    rw [← hw0]
    clear hw0 hS0'
    (refine wpAnyH_take (i := 0) (v := ?_) rfl (by kernel_rfl) (by kernel_rfl) (by kernel_rfl) (fun _ _ _ h => h) (Or.inl ⟨by rfl, ?_⟩) (by assumption) ?_; rotate_left; (intro w hSw; (try dsimp only at hSw); go_simp; try with_reducible rfl); ((try simp only [List.getElem_toArray]); (try simp only [List.getElem_cons_succ]); (try simp only [List.getElem_cons_zero]); (try simp only [Act.put]); (try simp only [List.setIfInBounds_toArray]); (try simp only [List.set_cons_succ]); (try simp only [List.set_cons_zero])))
    (refine wpAnyH_take (i := 1) (v := ?_) rfl (by kernel_rfl) (by kernel_rfl) (by kernel_rfl) (fun _ _ _ h => h) (Or.inl ⟨by rfl, ?_⟩) (by assumption) ?_; rotate_left; (intro w hSw; (try dsimp only at hSw); go_simp; try with_reducible rfl); ((try simp only [List.getElem_toArray]); (try simp only [List.getElem_cons_succ]); (try simp only [List.getElem_cons_zero]); (try simp only [Act.put]); (try simp only [List.setIfInBounds_toArray]); (try simp only [List.set_cons_succ]); (try simp only [List.set_cons_zero])))
    (refine wpAnyH_take (i := 2) (v := ?_) rfl (by kernel_rfl) (by kernel_rfl) (by kernel_rfl) (fun _ _ _ h => h) (Or.inl ⟨by rfl, ?_⟩) (by assumption) ?_; rotate_left; (intro w hSw; (try dsimp only at hSw); go_simp; try with_reducible rfl); ((try simp only [List.getElem_toArray]); (try simp only [List.getElem_cons_succ]); (try simp only [List.getElem_cons_zero]); (try simp only [Act.put]); (try simp only [List.setIfInBounds_toArray]); (try simp only [List.set_cons_succ]); (try simp only [List.set_cons_zero])))
    (refine wpAnyH_take (i := 3) (v := ?_) rfl (by kernel_rfl) (by kernel_rfl) (by kernel_rfl) (fun _ _ _ h => h) (Or.inl ⟨by rfl, ?_⟩) (by assumption) ?_; rotate_left; (intro w hSw; (try dsimp only at hSw); go_simp; try with_reducible rfl); ((try simp only [List.getElem_toArray]); (try simp only [List.getElem_cons_succ]); (try simp only [List.getElem_cons_zero]); (try simp only [Act.put]); (try simp only [List.setIfInBounds_toArray]); (try simp only [List.set_cons_succ]); (try simp only [List.set_cons_zero])))
    (refine wpAnyH_take (i := 4) (v := ?_) rfl (by kernel_rfl) (by kernel_rfl) (by kernel_rfl) (fun _ _ _ h => h) (Or.inl ⟨by rfl, ?_⟩) (by assumption) ?_; rotate_left; (intro w hSw; (try dsimp only at hSw); go_simp; try with_reducible rfl); ((try simp only [List.getElem_toArray]); (try simp only [List.getElem_cons_succ]); (try simp only [List.getElem_cons_zero]); (try simp only [Act.put]); (try simp only [List.setIfInBounds_toArray]); (try simp only [List.set_cons_succ]); (try simp only [List.set_cons_zero])))
    (refine wpAnyH_take (i := 5) (v := ?_) rfl (by kernel_rfl) (by kernel_rfl) (by kernel_rfl) (fun _ _ _ h => h) (Or.inl ⟨by rfl, ?_⟩) (by assumption) ?_; rotate_left; (intro w hSw; (try dsimp only at hSw); go_simp; try with_reducible rfl); ((try simp only [List.getElem_toArray]); (try simp only [List.getElem_cons_succ]); (try simp only [List.getElem_cons_zero]); (try simp only [Act.put]); (try simp only [List.setIfInBounds_toArray]); (try simp only [List.set_cons_succ]); (try simp only [List.set_cons_zero])))
    (refine wpAnyH_take (i := 6) (v := ?_) rfl (by kernel_rfl) (by kernel_rfl) (by kernel_rfl) (fun _ _ _ h => h) (Or.inl ⟨by rfl, ?_⟩) (by assumption) ?_; rotate_left; (intro w hSw; (try dsimp only at hSw); go_simp; try with_reducible rfl); ((try simp only [List.getElem_toArray]); (try simp only [List.getElem_cons_succ]); (try simp only [List.getElem_cons_zero]); (try simp only [Act.put]); (try simp only [List.setIfInBounds_toArray]); (try simp only [List.set_cons_succ]); (try simp only [List.set_cons_zero])))
    (refine wpAnyH_take (i := 8) (v := ?_) rfl (by kernel_rfl) (by kernel_rfl) (by kernel_rfl) (fun _ _ _ h => h) (Or.inl ⟨by rfl, ?_⟩) (by assumption) ?_; rotate_left; (intro w hSw; (try dsimp only at hSw); go_simp; try with_reducible rfl); ((try simp only [List.getElem_toArray]); (try simp only [List.getElem_cons_succ]); (try simp only [List.getElem_cons_zero]); (try simp only [Act.put]); (try simp only [List.setIfInBounds_toArray]); (try simp only [List.set_cons_succ]); (try simp only [List.set_cons_zero])))
    refine wpAnyH_ready (rs := [7]) (by kernel_rfl) (by simp) ?_
    refine AllReadyH.cons rfl (fun K2 hK2 => ?_) AllReadyH.nil
    go_simp
    refine (toldG_any r _).mono ?_
    rintro e w1 ⟨rfl, hb1⟩
    have HX1 := Lib.hid (HX0.out.below hb1.out HX0.out.lt)
    have HY1 := Lib.hid (HY0.out.below hb1.out HY0.out.lt)
    have HB1 := Lib.hid (HB0.out.trans (hb1.out.mono HB0.out.size))
    have hS1 : (fun X : World => X.cell? ⟨w.heap.size, 0, none⟩ = some (.int .i64 r.x.k) ∧ X.cell? ⟨w.heap.size, 1, none⟩ = some (.string r.x.t) ∧ X.cell? ⟨w.heap.size, 2, none⟩ = some (.slice r.Ar r.nr r.zr) ∧ X.cell? ⟨w.heap.size, 3, none⟩ = some (.int .i64 r.x.ck) ∧ X.cell? ⟨w.heap.size, 4, none⟩ = some (.string r.x.ct) ∧ X.cell? ⟨w.heap.size, 5, none⟩ = some (.slice r.A r.n r.c) ∧ X.cell? ⟨w.heap.size, 6, none⟩ = some (.int .i64 r.x.K) ∧ X.cell? ⟨w.heap.size, 7, none⟩ = some (.string r.x.cl.nm) ∧ X.cell? ⟨w.heap.size, 8, none⟩ = some (.int .i64 r.x.cl.k) ∧ X.cell? ⟨w.heap.size, 9, none⟩ = some (.bool r.x.cl.no) ∧ X.cell? ⟨w.heap.size + 1, 0, none⟩ = some (.int .i64 q.x.k) ∧ X.cell? ⟨w.heap.size + 1, 1, none⟩ = some (.string q.x.t) ∧ X.cell? ⟨w.heap.size + 1, 2, none⟩ = some (.slice q.Ar q.nr q.zr) ∧ X.cell? ⟨w.heap.size + 1, 3, none⟩ = some (.int .i64 q.x.ck) ∧ X.cell? ⟨w.heap.size + 1, 4, none⟩ = some (.string q.x.ct) ∧ X.cell? ⟨w.heap.size + 1, 5, none⟩ = some (.slice q.A q.n q.c) ∧ X.cell? ⟨w.heap.size + 1, 6, none⟩ = some (.int .i64 q.x.K) ∧ X.cell? ⟨w.heap.size + 1, 7, none⟩ = some (.string q.x.cl.nm) ∧ X.cell? ⟨w.heap.size + 1, 8, none⟩ = some (.int .i64 q.x.cl.k) ∧ X.cell? ⟨w.heap.size + 1, 9, none⟩ = some (.bool q.x.cl.no)) w1 := ⟨HX1.out.cell 0, HX1.out.cell 1, HX1.out.cell 2, HX1.out.cell 3, HX1.out.cell 4, HX1.out.cell 5, HX1.out.cell 6, HX1.out.cell 7, HX1.out.cell 8, HX1.out.cell 9, HY1.out.cell 0, HY1.out.cell 1, HY1.out.cell 2, HY1.out.cell 3, HY1.out.cell 4, HY1.out.cell 5, HY1.out.cell 6, HY1.out.cell 7, HY1.out.cell 8, HY1.out.cell 9⟩
    go_wp2_with fail
    refine hK2.out _ _ (by (try dsimp only); exact hS1) (fun _ => ?_)
    clear hK2 K2
    (try simp only [List.getElem_toArray]); (try simp only [List.getElem_cons_succ]); (try simp only [List.getElem_cons_zero]); (try simp only [Act.put]); (try simp only [List.setIfInBounds_toArray]); (try simp only [List.set_cons_succ]); (try simp only [List.set_cons_zero])
    refine wpAnyH_ready (rs := [9]) (by kernel_rfl) (by simp) ?_
    refine AllReadyH.cons rfl (fun K2 hK2 => ?_) AllReadyH.nil
    go_simp
    refine (toldG_any q _).mono ?_
    rintro e w2 ⟨rfl, hb2⟩
    have HX2 := Lib.hid (HX1.out.below hb2.out HX1.out.lt)
    have HY2 := Lib.hid (HY1.out.below hb2.out HY1.out.lt)
    have HB2 := Lib.hid (HB1.out.trans (hb2.out.mono HB1.out.size))
    have hS2 : (fun X : World => X.cell? ⟨w.heap.size, 0, none⟩ = some (.int .i64 r.x.k) ∧ X.cell? ⟨w.heap.size, 1, none⟩ = some (.string r.x.t) ∧ X.cell? ⟨w.heap.size, 2, none⟩ = some (.slice r.Ar r.nr r.zr) ∧ X.cell? ⟨w.heap.size, 3, none⟩ = some (.int .i64 r.x.ck) ∧ X.cell? ⟨w.heap.size, 4, none⟩ = some (.string r.x.ct) ∧ X.cell? ⟨w.heap.size, 5, none⟩ = some (.slice r.A r.n r.c) ∧ X.cell? ⟨w.heap.size, 6, none⟩ = some (.int .i64 r.x.K) ∧ X.cell? ⟨w.heap.size, 7, none⟩ = some (.string r.x.cl.nm) ∧ X.cell? ⟨w.heap.size, 8, none⟩ = some (.int .i64 r.x.cl.k) ∧ X.cell? ⟨w.heap.size, 9, none⟩ = some (.bool r.x.cl.no) ∧ X.cell? ⟨w.heap.size + 1, 0, none⟩ = some (.int .i64 q.x.k) ∧ X.cell? ⟨w.heap.size + 1, 1, none⟩ = some (.string q.x.t) ∧ X.cell? ⟨w.heap.size + 1, 2, none⟩ = some (.slice q.Ar q.nr q.zr) ∧ X.cell? ⟨w.heap.size + 1, 3, none⟩ = some (.int .i64 q.x.ck) ∧ X.cell? ⟨w.heap.size + 1, 4, none⟩ = some (.string q.x.ct) ∧ X.cell? ⟨w.heap.size + 1, 5, none⟩ = some (.slice q.A q.n q.c) ∧ X.cell? ⟨w.heap.size + 1, 6, none⟩ = some (.int .i64 q.x.K) ∧ X.cell? ⟨w.heap.size + 1, 7, none⟩ = some (.string q.x.cl.nm) ∧ X.cell? ⟨w.heap.size + 1, 8, none⟩ = some (.int .i64 q.x.cl.k) ∧ X.cell? ⟨w.heap.size + 1, 9, none⟩ = some (.bool q.x.cl.no)) w2 := ⟨HX2.out.cell 0, HX2.out.cell 1, HX2.out.cell 2, HX2.out.cell 3, HX2.out.cell 4, HX2.out.cell 5, HX2.out.cell 6, HX2.out.cell 7, HX2.out.cell 8, HX2.out.cell 9, HY2.out.cell 0, HY2.out.cell 1, HY2.out.cell 2, HY2.out.cell 3, HY2.out.cell 4, HY2.out.cell 5, HY2.out.cell 6, HY2.out.cell 7, HY2.out.cell 8, HY2.out.cell 9⟩
    go_wp2_with fail
    refine hK2.out _ _ (by (try dsimp only); exact hS2) (fun _ => ?_)
    clear hK2 K2
    (try simp only [List.getElem_toArray]); (try simp only [List.getElem_cons_succ]); (try simp only [List.getElem_cons_zero]); (try simp only [Act.put]); (try simp only [List.setIfInBounds_toArray]); (try simp only [List.set_cons_succ]); (try simp only [List.set_cons_zero])
    refine wpAnyH_ready (rs := [10]) (by kernel_rfl) (by simp) ?_
    refine AllReadyH.cons rfl (fun K2 hK2 => ?_) AllReadyH.nil
    go_simp
    refine (esame_any _ _ _ _ _ (toldV_at (hr.below HB2.out)) (toldV_at (hq.below HB2.out))).mono ?_
    rintro e w3 ⟨rfl, hb3⟩
    have HX3 := Lib.hid (HX2.out.below hb3.out HX2.out.lt)
    have HY3 := Lib.hid (HY2.out.below hb3.out HY2.out.lt)
    have HB3 := Lib.hid (HB2.out.trans (hb3.out.mono HB2.out.size))
    have hS3 : (fun X : World => X.cell? ⟨w.heap.size, 0, none⟩ = some (.int .i64 r.x.k) ∧ X.cell? ⟨w.heap.size, 1, none⟩ = some (.string r.x.t) ∧ X.cell? ⟨w.heap.size, 2, none⟩ = some (.slice r.Ar r.nr r.zr) ∧ X.cell? ⟨w.heap.size, 3, none⟩ = some (.int .i64 r.x.ck) ∧ X.cell? ⟨w.heap.size, 4, none⟩ = some (.string r.x.ct) ∧ X.cell? ⟨w.heap.size, 5, none⟩ = some (.slice r.A r.n r.c) ∧ X.cell? ⟨w.heap.size, 6, none⟩ = some (.int .i64 r.x.K) ∧ X.cell? ⟨w.heap.size, 7, none⟩ = some (.string r.x.cl.nm) ∧ X.cell? ⟨w.heap.size, 8, none⟩ = some (.int .i64 r.x.cl.k) ∧ X.cell? ⟨w.heap.size, 9, none⟩ = some (.bool r.x.cl.no) ∧ X.cell? ⟨w.heap.size + 1, 0, none⟩ = some (.int .i64 q.x.k) ∧ X.cell? ⟨w.heap.size + 1, 1, none⟩ = some (.string q.x.t) ∧ X.cell? ⟨w.heap.size + 1, 2, none⟩ = some (.slice q.Ar q.nr q.zr) ∧ X.cell? ⟨w.heap.size + 1, 3, none⟩ = some (.int .i64 q.x.ck) ∧ X.cell? ⟨w.heap.size + 1, 4, none⟩ = some (.string q.x.ct) ∧ X.cell? ⟨w.heap.size + 1, 5, none⟩ = some (.slice q.A q.n q.c) ∧ X.cell? ⟨w.heap.size + 1, 6, none⟩ = some (.int .i64 q.x.K) ∧ X.cell? ⟨w.heap.size + 1, 7, none⟩ = some (.string q.x.cl.nm) ∧ X.cell? ⟨w.heap.size + 1, 8, none⟩ = some (.int .i64 q.x.cl.k) ∧ X.cell? ⟨w.heap.size + 1, 9, none⟩ = some (.bool q.x.cl.no)) w3 := ⟨HX3.out.cell 0, HX3.out.cell 1, HX3.out.cell 2, HX3.out.cell 3, HX3.out.cell 4, HX3.out.cell 5, HX3.out.cell 6, HX3.out.cell 7, HX3.out.cell 8, HX3.out.cell 9, HY3.out.cell 0, HY3.out.cell 1, HY3.out.cell 2, HY3.out.cell 3, HY3.out.cell 4, HY3.out.cell 5, HY3.out.cell 6, HY3.out.cell 7, HY3.out.cell 8, HY3.out.cell 9⟩
    go_wp2_with fail
    refine hK2.out _ _ (by (try dsimp only); exact hS3) (fun _ => ?_)
    clear hK2 K2
    (try simp only [List.getElem_toArray]); (try simp only [List.getElem_cons_succ]); (try simp only [List.getElem_cons_zero]); (try simp only [Act.put]); (try simp only [List.setIfInBounds_toArray]); (try simp only [List.set_cons_succ]); (try simp only [List.set_cons_zero])
    (refine wpAnyH_take (i := 11) (v := ?_) rfl (by kernel_rfl) (by kernel_rfl) (by kernel_rfl) (fun _ _ _ h => h) (Or.inl ⟨by rfl, ?_⟩) (by assumption) ?_; rotate_left; (intro w hSw; (try dsimp only at hSw); go_simp; try with_reducible rfl); ((try simp only [List.getElem_toArray]); (try simp only [List.getElem_cons_succ]); (try simp only [List.getElem_cons_zero]); (try simp only [Act.put]); (try simp only [List.setIfInBounds_toArray]); (try simp only [List.set_cons_succ]); (try simp only [List.set_cons_zero])))
    (refine wpAnyH_take (i := 12) (v := ?_) rfl (by kernel_rfl) (by kernel_rfl) (by kernel_rfl) (fun _ _ _ h => h) (Or.inl ⟨by rfl, ?_⟩) (by assumption) ?_; rotate_left; (intro w hSw; (try dsimp only at hSw); go_simp; try with_reducible rfl); ((try simp only [List.getElem_toArray]); (try simp only [List.getElem_cons_succ]); (try simp only [List.getElem_cons_zero]); (try simp only [Act.put]); (try simp only [List.setIfInBounds_toArray]); (try simp only [List.set_cons_succ]); (try simp only [List.set_cons_zero])))
    refine wpAnyH_done (by kernel_rfl) ?_ _
    go_wp2_with fail
    go_ret
    exact ⟨by rw [← told_same HK.out]; rfl, HB3⟩
  · have hk1 : (r.x.k == q.x.k) = false := by simpa using hk
    have HK := Lib.hid hk
    clear hk
    go_enter Tryz.func89, Tryz.ntmps89
    go_wp2_with fail
    obtain ⟨W0, hW0⟩ : ∃ W, W = (w.alloc (.cells #[.int .i64 r.x.k, .string r.x.t, .slice r.Ar r.nr r.zr, .int .i64 r.x.ck, .string r.x.ct, .slice r.A r.n r.c, .int .i64 r.x.K, .string r.x.cl.nm, .int .i64 r.x.cl.k, .bool r.x.cl.no] 51)).alloc (.cells #[.int .i64 q.x.k, .string q.x.t, .slice q.Ar q.nr q.zr, .int .i64 q.x.ck, .string q.x.ct, .slice q.A q.n q.c, .int .i64 q.x.K, .string q.x.cl.nm, .int .i64 q.x.cl.k, .bool q.x.cl.no] 51) := ⟨_, rfl⟩
    rw [← hW0] at HX HY HB ⊢
    clear hW0
    have hS0' : (fun X : World => X.cell? ⟨w.heap.size, 0, none⟩ = some (.int .i64 r.x.k) ∧ X.cell? ⟨w.heap.size, 1, none⟩ = some (.string r.x.t) ∧ X.cell? ⟨w.heap.size, 2, none⟩ = some (.slice r.Ar r.nr r.zr) ∧ X.cell? ⟨w.heap.size, 3, none⟩ = some (.int .i64 r.x.ck) ∧ X.cell? ⟨w.heap.size, 4, none⟩ = some (.string r.x.ct) ∧ X.cell? ⟨w.heap.size, 5, none⟩ = some (.slice r.A r.n r.c) ∧ X.cell? ⟨w.heap.size, 6, none⟩ = some (.int .i64 r.x.K) ∧ X.cell? ⟨w.heap.size, 7, none⟩ = some (.string r.x.cl.nm) ∧ X.cell? ⟨w.heap.size, 8, none⟩ = some (.int .i64 r.x.cl.k) ∧ X.cell? ⟨w.heap.size, 9, none⟩ = some (.bool r.x.cl.no) ∧ X.cell? ⟨w.heap.size + 1, 0, none⟩ = some (.int .i64 q.x.k) ∧ X.cell? ⟨w.heap.size + 1, 1, none⟩ = some (.string q.x.t) ∧ X.cell? ⟨w.heap.size + 1, 2, none⟩ = some (.slice q.Ar q.nr q.zr) ∧ X.cell? ⟨w.heap.size + 1, 3, none⟩ = some (.int .i64 q.x.ck) ∧ X.cell? ⟨w.heap.size + 1, 4, none⟩ = some (.string q.x.ct) ∧ X.cell? ⟨w.heap.size + 1, 5, none⟩ = some (.slice q.A q.n q.c) ∧ X.cell? ⟨w.heap.size + 1, 6, none⟩ = some (.int .i64 q.x.K) ∧ X.cell? ⟨w.heap.size + 1, 7, none⟩ = some (.string q.x.cl.nm) ∧ X.cell? ⟨w.heap.size + 1, 8, none⟩ = some (.int .i64 q.x.cl.k) ∧ X.cell? ⟨w.heap.size + 1, 9, none⟩ = some (.bool q.x.cl.no)) W0.drew := ⟨HX.out.drew.cell 0, HX.out.drew.cell 1, HX.out.drew.cell 2, HX.out.drew.cell 3, HX.out.drew.cell 4, HX.out.drew.cell 5, HX.out.drew.cell 6, HX.out.drew.cell 7, HX.out.drew.cell 8, HX.out.drew.cell 9, HY.out.drew.cell 0, HY.out.drew.cell 1, HY.out.drew.cell 2, HY.out.drew.cell 3, HY.out.drew.cell 4, HY.out.drew.cell 5, HY.out.drew.cell 6, HY.out.drew.cell 7, HY.out.drew.cell 8, HY.out.drew.cell 9⟩
    obtain ⟨w0, hw0⟩ : ∃ W, W = W0.drew := ⟨_, rfl⟩
    have HX0 : Hid (Has w0 w.heap.size 51 #[.int .i64 r.x.k, .string r.x.t, .slice r.Ar r.nr r.zr, .int .i64 r.x.ck, .string r.x.ct, .slice r.A r.n r.c, .int .i64 r.x.K, .string r.x.cl.nm, .int .i64 r.x.cl.k, .bool r.x.cl.no]) := by rw [hw0]; exact HX.out.drew
    have HY0 : Hid (Has w0 (w.heap.size + 1) 51 #[.int .i64 q.x.k, .string q.x.t, .slice q.Ar q.nr q.zr, .int .i64 q.x.ck, .string q.x.ct, .slice q.A q.n q.c, .int .i64 q.x.K, .string q.x.cl.nm, .int .i64 q.x.cl.k, .bool q.x.cl.no]) := by rw [hw0]; exact HY.out.drew
    have HB0 : Hid (Below w.heap.size w w0) := by rw [hw0]; exact HB.out.drew
    have hS0 : (fun X : World => X.cell? ⟨w.heap.size, 0, none⟩ = some (.int .i64 r.x.k) ∧ X.cell? ⟨w.heap.size, 1, none⟩ = some (.string r.x.t) ∧ X.cell? ⟨w.heap.size, 2, none⟩ = some (.slice r.Ar r.nr r.zr) ∧ X.cell? ⟨w.heap.size, 3, none⟩ = some (.int .i64 r.x.ck) ∧ X.cell? ⟨w.heap.size, 4, none⟩ = some (.string r.x.ct) ∧ X.cell? ⟨w.heap.size, 5, none⟩ = some (.slice r.A r.n r.c) ∧ X.cell? ⟨w.heap.size, 6, none⟩ = some (.int .i64 r.x.K) ∧ X.cell? ⟨w.heap.size, 7, none⟩ = some (.string r.x.cl.nm) ∧ X.cell? ⟨w.heap.size, 8, none⟩ = some (.int .i64 r.x.cl.k) ∧ X.cell? ⟨w.heap.size, 9, none⟩ = some (.bool r.x.cl.no) ∧ X.cell? ⟨w.heap.size + 1, 0, none⟩ = some (.int .i64 q.x.k) ∧ X.cell? ⟨w.heap.size + 1, 1, none⟩ = some (.string q.x.t) ∧ X.cell? ⟨w.heap.size + 1, 2, none⟩ = some (.slice q.Ar q.nr q.zr) ∧ X.cell? ⟨w.heap.size + 1, 3, none⟩ = some (.int .i64 q.x.ck) ∧ X.cell? ⟨w.heap.size + 1, 4, none⟩ = some (.string q.x.ct) ∧ X.cell? ⟨w.heap.size + 1, 5, none⟩ = some (.slice q.A q.n q.c) ∧ X.cell? ⟨w.heap.size + 1, 6, none⟩ = some (.int .i64 q.x.K) ∧ X.cell? ⟨w.heap.size + 1, 7, none⟩ = some (.string q.x.cl.nm) ∧ X.cell? ⟨w.heap.size + 1, 8, none⟩ = some (.int .i64 q.x.cl.k) ∧ X.cell? ⟨w.heap.size + 1, 9, none⟩ = some (.bool q.x.cl.no)) w0 := hw0 ▸ hS0'
    refine wp_region_held_drew (S := (fun X : World => X.cell? ⟨w.heap.size, 0, none⟩ = some (.int .i64 r.x.k) ∧ X.cell? ⟨w.heap.size, 1, none⟩ = some (.string r.x.t) ∧ X.cell? ⟨w.heap.size, 2, none⟩ = some (.slice r.Ar r.nr r.zr) ∧ X.cell? ⟨w.heap.size, 3, none⟩ = some (.int .i64 r.x.ck) ∧ X.cell? ⟨w.heap.size, 4, none⟩ = some (.string r.x.ct) ∧ X.cell? ⟨w.heap.size, 5, none⟩ = some (.slice r.A r.n r.c) ∧ X.cell? ⟨w.heap.size, 6, none⟩ = some (.int .i64 r.x.K) ∧ X.cell? ⟨w.heap.size, 7, none⟩ = some (.string r.x.cl.nm) ∧ X.cell? ⟨w.heap.size, 8, none⟩ = some (.int .i64 r.x.cl.k) ∧ X.cell? ⟨w.heap.size, 9, none⟩ = some (.bool r.x.cl.no) ∧ X.cell? ⟨w.heap.size + 1, 0, none⟩ = some (.int .i64 q.x.k) ∧ X.cell? ⟨w.heap.size + 1, 1, none⟩ = some (.string q.x.t) ∧ X.cell? ⟨w.heap.size + 1, 2, none⟩ = some (.slice q.Ar q.nr q.zr) ∧ X.cell? ⟨w.heap.size + 1, 3, none⟩ = some (.int .i64 q.x.ck) ∧ X.cell? ⟨w.heap.size + 1, 4, none⟩ = some (.string q.x.ct) ∧ X.cell? ⟨w.heap.size + 1, 5, none⟩ = some (.slice q.A q.n q.c) ∧ X.cell? ⟨w.heap.size + 1, 6, none⟩ = some (.int .i64 q.x.K) ∧ X.cell? ⟨w.heap.size + 1, 7, none⟩ = some (.string q.x.cl.nm) ∧ X.cell? ⟨w.heap.size + 1, 8, none⟩ = some (.int .i64 q.x.cl.k) ∧ X.cell? ⟨w.heap.size + 1, 9, none⟩ = some (.bool q.x.cl.no))) (by kernel_rfl) hS0' (fun _ => ?_)
    rw [← hw0]
    clear hw0 hS0'
    (refine wpAnyH_take (i := 0) (v := ?_) rfl (by kernel_rfl) (by kernel_rfl) (by kernel_rfl) (fun _ _ _ h => h) (Or.inl ⟨by rfl, ?_⟩) (by assumption) ?_; rotate_left; (intro w hSw; (try dsimp only at hSw); go_simp; try with_reducible rfl); ((try simp only [List.getElem_toArray]); (try simp only [List.getElem_cons_succ]); (try simp only [List.getElem_cons_zero]); (try simp only [Act.put]); (try simp only [List.setIfInBounds_toArray]); (try simp only [List.set_cons_succ]); (try simp only [List.set_cons_zero])))
    (refine wpAnyH_take (i := 1) (v := ?_) rfl (by kernel_rfl) (by kernel_rfl) (by kernel_rfl) (fun _ _ _ h => h) (Or.inl ⟨by rfl, ?_⟩) (by assumption) ?_; rotate_left; (intro w hSw; (try dsimp only at hSw); go_simp; try with_reducible rfl); ((try simp only [List.getElem_toArray]); (try simp only [List.getElem_cons_succ]); (try simp only [List.getElem_cons_zero]); (try simp only [Act.put]); (try simp only [List.setIfInBounds_toArray]); (try simp only [List.set_cons_succ]); (try simp only [List.set_cons_zero])))
    (refine wpAnyH_take (i := 2) (v := ?_) rfl (by kernel_rfl) (by kernel_rfl) (by kernel_rfl) (fun _ _ _ h => h) (Or.inl ⟨by rfl, ?_⟩) (by assumption) ?_; rotate_left; (intro w hSw; (try dsimp only at hSw); go_simp; try with_reducible rfl); ((try simp only [List.getElem_toArray]); (try simp only [List.getElem_cons_succ]); (try simp only [List.getElem_cons_zero]); (try simp only [Act.put]); (try simp only [List.setIfInBounds_toArray]); (try simp only [List.set_cons_succ]); (try simp only [List.set_cons_zero])))
    (refine wpAnyH_take (i := 3) (v := ?_) rfl (by kernel_rfl) (by kernel_rfl) (by kernel_rfl) (fun _ _ _ h => h) (Or.inl ⟨by rfl, ?_⟩) (by assumption) ?_; rotate_left; (intro w hSw; (try dsimp only at hSw); go_simp; try with_reducible rfl); ((try simp only [List.getElem_toArray]); (try simp only [List.getElem_cons_succ]); (try simp only [List.getElem_cons_zero]); (try simp only [Act.put]); (try simp only [List.setIfInBounds_toArray]); (try simp only [List.set_cons_succ]); (try simp only [List.set_cons_zero])))
    (refine wpAnyH_take (i := 4) (v := ?_) rfl (by kernel_rfl) (by kernel_rfl) (by kernel_rfl) (fun _ _ _ h => h) (Or.inl ⟨by rfl, ?_⟩) (by assumption) ?_; rotate_left; (intro w hSw; (try dsimp only at hSw); go_simp; try with_reducible rfl); ((try simp only [List.getElem_toArray]); (try simp only [List.getElem_cons_succ]); (try simp only [List.getElem_cons_zero]); (try simp only [Act.put]); (try simp only [List.setIfInBounds_toArray]); (try simp only [List.set_cons_succ]); (try simp only [List.set_cons_zero])))
    (refine wpAnyH_take (i := 5) (v := ?_) rfl (by kernel_rfl) (by kernel_rfl) (by kernel_rfl) (fun _ _ _ h => h) (Or.inl ⟨by rfl, ?_⟩) (by assumption) ?_; rotate_left; (intro w hSw; (try dsimp only at hSw); go_simp; try with_reducible rfl); ((try simp only [List.getElem_toArray]); (try simp only [List.getElem_cons_succ]); (try simp only [List.getElem_cons_zero]); (try simp only [Act.put]); (try simp only [List.setIfInBounds_toArray]); (try simp only [List.set_cons_succ]); (try simp only [List.set_cons_zero])))
    (refine wpAnyH_take (i := 6) (v := undef) rfl (by kernel_rfl) (by kernel_rfl) (by kernel_rfl) (fun _ _ _ h => h) (Or.inr ⟨by rfl, rfl⟩) (by assumption) ?_; ((try simp only [List.getElem_toArray]); (try simp only [List.getElem_cons_succ]); (try simp only [List.getElem_cons_zero]); (try simp only [Act.put]); (try simp only [List.setIfInBounds_toArray]); (try simp only [List.set_cons_succ]); (try simp only [List.set_cons_zero])))
    (refine wpAnyH_take (i := 7) (v := undef) rfl (by kernel_rfl) (by kernel_rfl) (by kernel_rfl) (fun _ _ _ h => h) (Or.inr ⟨by rfl, rfl⟩) (by assumption) ?_; ((try simp only [List.getElem_toArray]); (try simp only [List.getElem_cons_succ]); (try simp only [List.getElem_cons_zero]); (try simp only [Act.put]); (try simp only [List.setIfInBounds_toArray]); (try simp only [List.set_cons_succ]); (try simp only [List.set_cons_zero])))
    (refine wpAnyH_take (i := 8) (v := undef) rfl (by kernel_rfl) (by kernel_rfl) (by kernel_rfl) (fun _ _ _ h => h) (Or.inr ⟨by rfl, rfl⟩) (by assumption) ?_; ((try simp only [List.getElem_toArray]); (try simp only [List.getElem_cons_succ]); (try simp only [List.getElem_cons_zero]); (try simp only [Act.put]); (try simp only [List.setIfInBounds_toArray]); (try simp only [List.set_cons_succ]); (try simp only [List.set_cons_zero])))
    (refine wpAnyH_take (i := 9) (v := undef) rfl (by kernel_rfl) (by kernel_rfl) (by kernel_rfl) (fun _ _ _ h => h) (Or.inr ⟨by rfl, rfl⟩) (by assumption) ?_; ((try simp only [List.getElem_toArray]); (try simp only [List.getElem_cons_succ]); (try simp only [List.getElem_cons_zero]); (try simp only [Act.put]); (try simp only [List.setIfInBounds_toArray]); (try simp only [List.set_cons_succ]); (try simp only [List.set_cons_zero])))
    (refine wpAnyH_take (i := 10) (v := undef) rfl (by kernel_rfl) (by kernel_rfl) (by kernel_rfl) (fun _ _ _ h => h) (Or.inr ⟨by rfl, rfl⟩) (by assumption) ?_; ((try simp only [List.getElem_toArray]); (try simp only [List.getElem_cons_succ]); (try simp only [List.getElem_cons_zero]); (try simp only [Act.put]); (try simp only [List.setIfInBounds_toArray]); (try simp only [List.set_cons_succ]); (try simp only [List.set_cons_zero])))
    (refine wpAnyH_take (i := 11) (v := ?_) rfl (by kernel_rfl) (by kernel_rfl) (by kernel_rfl) (fun _ _ _ h => h) (Or.inl ⟨by rfl, ?_⟩) (by assumption) ?_; rotate_left; (intro w hSw; (try dsimp only at hSw); go_simp; try with_reducible rfl); ((try simp only [List.getElem_toArray]); (try simp only [List.getElem_cons_succ]); (try simp only [List.getElem_cons_zero]); (try simp only [Act.put]); (try simp only [List.setIfInBounds_toArray]); (try simp only [List.set_cons_succ]); (try simp only [List.set_cons_zero])))
    (refine wpAnyH_take (i := 12) (v := ?_) rfl (by kernel_rfl) (by kernel_rfl) (by kernel_rfl) (fun _ _ _ h => h) (Or.inl ⟨by rfl, ?_⟩) (by assumption) ?_; rotate_left; (intro w hSw; (try dsimp only at hSw); go_simp; try with_reducible rfl); ((try simp only [List.getElem_toArray]); (try simp only [List.getElem_cons_succ]); (try simp only [List.getElem_cons_zero]); (try simp only [Act.put]); (try simp only [List.setIfInBounds_toArray]); (try simp only [List.set_cons_succ]); (try simp only [List.set_cons_zero])))
    refine wpAnyH_done (by kernel_rfl) ?_ _
    go_wp2_with fail
    go_ret
    exact ⟨by rw [gF_kind HK.out]; rfl, HB0⟩
end Go.Proofs.YtlhfdhmmdnkojaaGreatDoor
namespace Go.Proofs.YtlhfdhmmdnkojaaGreatDoor
open Go.RowKit Dg
set_option maxRecDepth 100000
set_option linter.unusedVariables false
def gsTo (L M : List Gr) (k : Nat) : Bool := (List.range k).all fun i => match L[i]?, M[i]? with | some x, some y => gF x.x y.x | _, _ => true
/-- Are two lists of writes the same? -/
def gsF (L M : List Gr) : Bool := decide (L.length = M.length) && gsTo L M L.length
theorem gsTo_succ {L M : List Gr} {k : Nat} (h : k < L.length) (h2 : k < M.length) : gsTo L M (k + 1) = (gsTo L M k && gF L[k].x M[k].x) := by
  unfold gsTo; rw [List.range_succ, List.all_append]
  simp [List.getElem?_eq_getElem h, List.getElem?_eq_getElem h2]
theorem gsTo_false {L M : List Gr} {k : Nat} (h : k < L.length) (h2 : k < M.length) (he : gF L[k].x M[k].x = false) : gsTo L M L.length = false := by
  unfold gsTo; rw [List.all_eq_false]
  exact ⟨k, List.mem_range.2 h, by simp [List.getElem?_eq_getElem h, List.getElem?_eq_getElem h2, he]⟩
theorem keepB {w w' : World} {p : Addr} {v : Value} (hb : Below w.heap.size w w') (h : w.cell? p = some v) : w'.cell? p = some v := (hb.cell (World.block_lt_of_cell? _ _ h)).trans h
theorem keepAl {w : World} {o : Obj} {p : Addr} {v : Value} (h : w.cell? p = some v) : (w.alloc o).cell? p = some v := (((Below.refl _ w).alloc (Nat.le_refl _) o).cell (World.block_lt_of_cell? _ _ h)).trans h
/-- A list of writes as it lies. -/
structure GIn (w : World) (A : Option Addr) (n : Nat) (T : List Gr) : Prop where
  len : T.length = n
  few : n ≤ 1000
  row : GRow w A T
  ok : ∀ r ∈ T, r.ok w
theorem GIn.below {w w' : World} {A : Option Addr} {n : Nat} {T : List Gr} (h : GIn w A n T) (hb : Below w.heap.size w w') : GIn w' A n T := ⟨h.len, h.few, h.row.below hb, fun r hr => (h.ok r hr).below hb⟩
theorem GIn.at {w : World} {A : Option Addr} {n : Nat} {T : List Gr} (h : GIn w A n T) {k : Nat} (hk : k < T.length) : ∃ b off, A = some ⟨b, off, none⟩ ∧ ∀ j, j < 10 → w.cell? ⟨b, off + k * 10 + j, none⟩ = T[k].row[j]? := by
  obtain ⟨b, off, e, hc⟩ := h.row (by intro e; rw [e] at hk; simp at hk)
  exact ⟨b, off, e, hc k hk⟩
set_option maxHeartbeats 8000000 in
theorem equalFunc_any {L M : List Gr} (A A' : Option Addr) (n c n' c' : Nat) (w : World) (h : GIn w A n L) (h' : GIn w A' n' M) :
    Calls Tryz.prog 88 #[.slice A n c, .slice A' n' c', .func (.func 89) #[] #[]] w fun e w' => e = .returned (.bool (gsF L M)) ∧ Hid (Below w.heap.size w w') := by
  have HI := Lib.hid h
  have HJ := Lib.hid h'
  have hs : gsF L M = (decide (n = n') && gsTo L M n) := by unfold gsF; rw [h.len, h'.len]
  have HS := Lib.hid hs
  have hn1 := h.few
  have hn2 := h'.few
  obtain ⟨qb, hqb⟩ : ∃ q, gsF L M = q := ⟨_, rfl⟩
  rw [hqb] at HS ⊢
  clear h h' hs hqb
  by_cases he : n = n'
  · subst he
    rw [decide_eq_true rfl, Bool.true_and] at HS
    go_enter Tryz.func88, Tryz.ntmps88
    go_wp2_with fail
    go_loopw [17] (fun i wr => ∃ k : Nat, k ≤ n ∧ i = .int .i64 k ∧ Hid (gsTo L M k = true) ∧ Hid (Below w.heap.size w wr)) (fun i _ => n - (intOf i).toNat)
    case atStart => exact ⟨0, by omega, rfl, rfl, Below.refl _ _⟩
    case round =>
      obtain ⟨k, hk, rfl, HT, HB⟩ := hrel
      by_cases hlt : k < n
      · skip
        have hkl : k < L.length := by rw [HI.out.len]; exact hlt
        have hkm : k < M.length := by rw [HJ.out.len]; exact hlt
        obtain ⟨b, off, rfl, hc⟩ := (HI.out.below HB.out).at hkl
        obtain ⟨b', off', rfl, hc'⟩ := (HJ.out.below HB.out).at hkm
        have HOK := Lib.hid (gsTo_succ hkl hkm)
        have HNO : Hid (gF L[k].x M[k].x = false → gsTo L M n = false) := fun h => by rw [← HI.out.len]; exact gsTo_false hkl hkm h
        have hr := Lib.hid (((HI.out.below HB.out).ok _ (List.getElem_mem hkl)))
        have hq := Lib.hid (((HJ.out.below HB.out).ok _ (List.getElem_mem hkm)))
        have hkz : (k : Int) < (n : Int) := by omega
        generalize L[k] = r at *
        generalize M[k] = q at *
        obtain ⟨⟨rk, rt, rR, rck, rct, rL, rK, ⟨rcn, rcq, rcb⟩⟩, rAr, rnr, rzr, rA, rn, rc⟩ := r
        obtain ⟨⟨qk, qt, qR, qck, qct, qL, qK, ⟨qcn, qcq, qcb⟩⟩, qAr, qnr, qzr, qA, qn, qc⟩ := q
        have x0 : wr.cell? ⟨b, off + k * 10, none⟩ = some (.int .i64 rk) := hc 0 (by omega)
        have x1 : wr.cell? ⟨b, off + k * 10 + 1, none⟩ = some (.string rt) := hc 1 (by omega)
        have x2 : wr.cell? ⟨b, off + k * 10 + 2, none⟩ = some (.slice rAr rnr rzr) := hc 2 (by omega)
        have x3 : wr.cell? ⟨b, off + k * 10 + 3, none⟩ = some (.int .i64 rck) := hc 3 (by omega)
        have x4 : wr.cell? ⟨b, off + k * 10 + 4, none⟩ = some (.string rct) := hc 4 (by omega)
        have x5 : wr.cell? ⟨b, off + k * 10 + 5, none⟩ = some (.slice rA rn rc) := hc 5 (by omega)
        have x6 : wr.cell? ⟨b, off + k * 10 + 6, none⟩ = some (.int .i64 rK) := hc 6 (by omega)
        have x7 : wr.cell? ⟨b, off + k * 10 + 7, none⟩ = some (.string rcn) := hc 7 (by omega)
        have x8 : wr.cell? ⟨b, off + k * 10 + 8, none⟩ = some (.int .i64 rcq) := hc 8 (by omega)
        have x9 : wr.cell? ⟨b, off + k * 10 + 9, none⟩ = some (.bool rcb) := hc 9 (by omega)
        have y0 : wr.cell? ⟨b', off' + k * 10, none⟩ = some (.int .i64 qk) := hc' 0 (by omega)
        have y1 : wr.cell? ⟨b', off' + k * 10 + 1, none⟩ = some (.string qt) := hc' 1 (by omega)
        have y2 : wr.cell? ⟨b', off' + k * 10 + 2, none⟩ = some (.slice qAr qnr qzr) := hc' 2 (by omega)
        have y3 : wr.cell? ⟨b', off' + k * 10 + 3, none⟩ = some (.int .i64 qck) := hc' 3 (by omega)
        have y4 : wr.cell? ⟨b', off' + k * 10 + 4, none⟩ = some (.string qct) := hc' 4 (by omega)
        have y5 : wr.cell? ⟨b', off' + k * 10 + 5, none⟩ = some (.slice qA qn qc) := hc' 5 (by omega)
        have y6 : wr.cell? ⟨b', off' + k * 10 + 6, none⟩ = some (.int .i64 qK) := hc' 6 (by omega)
        have y7 : wr.cell? ⟨b', off' + k * 10 + 7, none⟩ = some (.string qcn) := hc' 7 (by omega)
        have y8 : wr.cell? ⟨b', off' + k * 10 + 8, none⟩ = some (.int .i64 qcq) := hc' 8 (by omega)
        have y9 : wr.cell? ⟨b', off' + k * 10 + 9, none⟩ = some (.bool qcb) := hc' 9 (by omega)
        clear hc hc'
        have z0 := keepAl (o := .cells #[.int .i64 rk, .string rt, .slice rAr rnr rzr, .int .i64 rck, .string rct, .slice rA rn rc, .int .i64 rK, .string rcn, .int .i64 rcq, .bool rcb] 51) y0
        have z1 := keepAl (o := .cells #[.int .i64 rk, .string rt, .slice rAr rnr rzr, .int .i64 rck, .string rct, .slice rA rn rc, .int .i64 rK, .string rcn, .int .i64 rcq, .bool rcb] 51) y1
        have z2 := keepAl (o := .cells #[.int .i64 rk, .string rt, .slice rAr rnr rzr, .int .i64 rck, .string rct, .slice rA rn rc, .int .i64 rK, .string rcn, .int .i64 rcq, .bool rcb] 51) y2
        have z3 := keepAl (o := .cells #[.int .i64 rk, .string rt, .slice rAr rnr rzr, .int .i64 rck, .string rct, .slice rA rn rc, .int .i64 rK, .string rcn, .int .i64 rcq, .bool rcb] 51) y3
        have z4 := keepAl (o := .cells #[.int .i64 rk, .string rt, .slice rAr rnr rzr, .int .i64 rck, .string rct, .slice rA rn rc, .int .i64 rK, .string rcn, .int .i64 rcq, .bool rcb] 51) y4
        have z5 := keepAl (o := .cells #[.int .i64 rk, .string rt, .slice rAr rnr rzr, .int .i64 rck, .string rct, .slice rA rn rc, .int .i64 rK, .string rcn, .int .i64 rcq, .bool rcb] 51) y5
        have z6 := keepAl (o := .cells #[.int .i64 rk, .string rt, .slice rAr rnr rzr, .int .i64 rck, .string rct, .slice rA rn rc, .int .i64 rK, .string rcn, .int .i64 rcq, .bool rcb] 51) y6
        have z7 := keepAl (o := .cells #[.int .i64 rk, .string rt, .slice rAr rnr rzr, .int .i64 rck, .string rct, .slice rA rn rc, .int .i64 rK, .string rcn, .int .i64 rcq, .bool rcb] 51) y7
        have z8 := keepAl (o := .cells #[.int .i64 rk, .string rt, .slice rAr rnr rzr, .int .i64 rck, .string rct, .slice rA rn rc, .int .i64 rK, .string rcn, .int .i64 rcq, .bool rcb] 51) y8
        have z9 := keepAl (o := .cells #[.int .i64 rk, .string rt, .slice rAr rnr rzr, .int .i64 rck, .string rct, .slice rA rn rc, .int .i64 rK, .string rcn, .int .i64 rcq, .bool rcb] 51) y9
        go_wp2_with fail
        obtain ⟨hY, hBB⟩ := two wr #[.int .i64 rk, .string rt, .slice rAr rnr rzr, .int .i64 rck, .string rct, .slice rA rn rc, .int .i64 rK, .string rcn, .int .i64 rcq, .bool rcb] #[.int .i64 qk, .string qt, .slice qAr qnr qzr, .int .i64 qck, .string qct, .slice qA qn qc, .int .i64 qK, .string qcn, .int .i64 qcq, .bool qcb] 51 51
        obtain ⟨W1, hW1⟩ : ∃ W, W = (wr.alloc (.cells #[.int .i64 rk, .string rt, .slice rAr rnr rzr, .int .i64 rck, .string rct, .slice rA rn rc, .int .i64 rK, .string rcn, .int .i64 rcq, .bool rcb] 51)).alloc (.cells #[.int .i64 qk, .string qt, .slice qAr qnr qzr, .int .i64 qck, .string qct, .slice qA qn qc, .int .i64 qK, .string qcn, .int .i64 qcq, .bool qcb] 51) := ⟨_, rfl⟩
        rw [← hW1] at hBB ⊢
        clear hW1 hY
        have HBW := Lib.hid (HB.out.trans (hBB.out.mono HB.out.size))
        refine (sameWrite_any ⟨⟨rk, rt, rR, rck, rct, rL, rK, ⟨rcn, rcq, rcb⟩⟩, rAr, rnr, rzr, rA, rn, rc⟩ ⟨⟨qk, qt, qR, qck, qct, qL, qK, ⟨qcn, qcq, qcb⟩⟩, qAr, qnr, qzr, qA, qn, qc⟩ W1 (hr.out.below hBB.out) (hq.out.below hBB.out)).mono ?_
        rintro e w2 ⟨rfl, hb2⟩
        have HB2 := Lib.hid (HBW.out.trans (hb2.out.mono HBW.out.size))
        obtain ⟨g, hg⟩ : ∃ g, gF (⟨⟨rk, rt, rR, rck, rct, rL, rK, ⟨rcn, rcq, rcb⟩⟩, rAr, rnr, rzr, rA, rn, rc⟩ : Gr).x (⟨⟨qk, qt, qR, qck, qct, qL, qK, ⟨qcn, qcq, qcb⟩⟩, qAr, qnr, qzr, qA, qn, qc⟩ : Gr).x = g := ⟨_, rfl⟩
        rw [hg] at HOK HNO ⊢
        clear hg
        cases g
        · go_wp2_with fail
          go_ret
          exact ⟨by rw [HS.out, HNO.out (by first | rfl | exact True.intro)]; rfl, HB2⟩
        · go_wp2_with fail
          go_roundw
          case rel => exact ⟨k + 1, by omega, by go_num, by show _ = _; rw [HOK.out, HT.out]; rfl, HB2⟩
          case measure => simp [intOf]; omega
      · obtain rfl : k = n := by omega
        go_wp2_with fail
        go_ret
        exact ⟨by rw [HS.out, HT.out]; rfl, HB⟩
  · rw [decide_eq_false he, Bool.false_and] at HS
    have hz : ¬ ((n : Int) = (n' : Int)) := by omega
    go_enter Tryz.func88, Tryz.ntmps88
    go_wp2_with fail
    go_ret
    exact ⟨by rw [HS.out]; rfl, Below.refl _ _⟩
theorem wsame_any {L M : List Gr} (A A' : Option Addr) (n c n' c' : Nat) (w : World) (h : GIn w A n L) (h' : GIn w A' n' M) :
    Calls Tryz.prog 38 #[.slice A n c, .slice A' n' c'] w fun e w' => e = .returned (.bool (gsF L M)) ∧ Hid (Below w.heap.size w w') := by
  have HC := Lib.hid (equalFunc_any A A' n c n' c' w h h')
  clear h h'
  go_enter Tryz.func38, Tryz.ntmps38
  go_wp2_with fail
  refine HC.out.mono ?_
  rintro e w1 ⟨rfl, hb⟩
  go_wp2_with fail
  go_ret
  exact ⟨rfl, hb⟩
set_option maxHeartbeats 8000000 in
theorem rsame14_any {L M : List Gr} (A A' : Option Addr) (n c n' c' : Nat) (w : World) (h : GIn w A n L) (h' : GIn w A' n' M) :
    Calls Tryz.prog 27 #[.slice A n c, .slice A' n' c'] w fun e w' => e = .returned (.bool (gsF L M)) ∧ Hid (Below w.heap.size w w') := by
  have HI := Lib.hid h
  have HJ := Lib.hid h'
  have hs : gsF L M = (decide (n = n') && gsTo L M n) := by unfold gsF; rw [h.len, h'.len]
  have HS := Lib.hid hs
  have hn1 := h.few
  have hn2 := h'.few
  obtain ⟨qb, hqb⟩ : ∃ q, gsF L M = q := ⟨_, rfl⟩
  rw [hqb] at HS ⊢
  clear h h' hs hqb
  by_cases he : n = n'
  · subst he
    rw [decide_eq_true rfl, Bool.true_and] at HS
    go_enter Tryz.func27, Tryz.ntmps27
    go_wp2_with fail
    go_loopw [5] (fun i wr => ∃ k : Nat, k ≤ n ∧ i = .int .i64 k ∧ Hid (gsTo L M k = true) ∧ Hid (Below w.heap.size w wr)) (fun i _ => n - (intOf i).toNat)
    case atStart => exact ⟨0, by omega, rfl, rfl, Below.refl _ _⟩
    case round =>
      obtain ⟨k, hk, rfl, HT, HB⟩ := hrel
      by_cases hlt : k < n
      · skip
        have hkl : k < L.length := by rw [HI.out.len]; exact hlt
        have hkm : k < M.length := by rw [HJ.out.len]; exact hlt
        obtain ⟨b, off, rfl, hc⟩ := (HI.out.below HB.out).at hkl
        obtain ⟨b', off', rfl, hc'⟩ := (HJ.out.below HB.out).at hkm
        have HOK := Lib.hid (gsTo_succ hkl hkm)
        have HNO : Hid (gF L[k].x M[k].x = false → gsTo L M n = false) := fun h => by rw [← HI.out.len]; exact gsTo_false hkl hkm h
        have hr := Lib.hid (((HI.out.below HB.out).ok _ (List.getElem_mem hkl)))
        have hq := Lib.hid (((HJ.out.below HB.out).ok _ (List.getElem_mem hkm)))
        have hkz : (k : Int) < (n : Int) := by omega
        generalize L[k] = r at *
        generalize M[k] = q at *
        obtain ⟨⟨rk, rt, rR, rck, rct, rL, rK, ⟨rcn, rcq, rcb⟩⟩, rAr, rnr, rzr, rA, rn, rc⟩ := r
        obtain ⟨⟨qk, qt, qR, qck, qct, qL, qK, ⟨qcn, qcq, qcb⟩⟩, qAr, qnr, qzr, qA, qn, qc⟩ := q
        have x0 : wr.cell? ⟨b, off + k * 10, none⟩ = some (.int .i64 rk) := hc 0 (by omega)
        have x1 : wr.cell? ⟨b, off + k * 10 + 1, none⟩ = some (.string rt) := hc 1 (by omega)
        have x2 : wr.cell? ⟨b, off + k * 10 + 2, none⟩ = some (.slice rAr rnr rzr) := hc 2 (by omega)
        have x3 : wr.cell? ⟨b, off + k * 10 + 3, none⟩ = some (.int .i64 rck) := hc 3 (by omega)
        have x4 : wr.cell? ⟨b, off + k * 10 + 4, none⟩ = some (.string rct) := hc 4 (by omega)
        have x5 : wr.cell? ⟨b, off + k * 10 + 5, none⟩ = some (.slice rA rn rc) := hc 5 (by omega)
        have x6 : wr.cell? ⟨b, off + k * 10 + 6, none⟩ = some (.int .i64 rK) := hc 6 (by omega)
        have x7 : wr.cell? ⟨b, off + k * 10 + 7, none⟩ = some (.string rcn) := hc 7 (by omega)
        have x8 : wr.cell? ⟨b, off + k * 10 + 8, none⟩ = some (.int .i64 rcq) := hc 8 (by omega)
        have x9 : wr.cell? ⟨b, off + k * 10 + 9, none⟩ = some (.bool rcb) := hc 9 (by omega)
        have y0 : wr.cell? ⟨b', off' + k * 10, none⟩ = some (.int .i64 qk) := hc' 0 (by omega)
        have y1 : wr.cell? ⟨b', off' + k * 10 + 1, none⟩ = some (.string qt) := hc' 1 (by omega)
        have y2 : wr.cell? ⟨b', off' + k * 10 + 2, none⟩ = some (.slice qAr qnr qzr) := hc' 2 (by omega)
        have y3 : wr.cell? ⟨b', off' + k * 10 + 3, none⟩ = some (.int .i64 qck) := hc' 3 (by omega)
        have y4 : wr.cell? ⟨b', off' + k * 10 + 4, none⟩ = some (.string qct) := hc' 4 (by omega)
        have y5 : wr.cell? ⟨b', off' + k * 10 + 5, none⟩ = some (.slice qA qn qc) := hc' 5 (by omega)
        have y6 : wr.cell? ⟨b', off' + k * 10 + 6, none⟩ = some (.int .i64 qK) := hc' 6 (by omega)
        have y7 : wr.cell? ⟨b', off' + k * 10 + 7, none⟩ = some (.string qcn) := hc' 7 (by omega)
        have y8 : wr.cell? ⟨b', off' + k * 10 + 8, none⟩ = some (.int .i64 qcq) := hc' 8 (by omega)
        have y9 : wr.cell? ⟨b', off' + k * 10 + 9, none⟩ = some (.bool qcb) := hc' 9 (by omega)
        clear hc hc'
        go_wp2_with fail
        obtain ⟨wa, hwa⟩ : ∃ W, W = wr.drew := ⟨_, rfl⟩
        have hba : Below wr.heap.size wr wa := by rw [hwa]; exact (Below.refl _ wr).drew
        have hSa : (fun X : World => X.cell? ⟨b, off + k * 10, none⟩ = some (.int .i64 rk) ∧ X.cell? ⟨b, off + k * 10 + 1, none⟩ = some (.string rt) ∧ X.cell? ⟨b, off + k * 10 + 2, none⟩ = some (.slice rAr rnr rzr) ∧ X.cell? ⟨b, off + k * 10 + 3, none⟩ = some (.int .i64 rck) ∧ X.cell? ⟨b, off + k * 10 + 4, none⟩ = some (.string rct) ∧ X.cell? ⟨b, off + k * 10 + 5, none⟩ = some (.slice rA rn rc) ∧ X.cell? ⟨b, off + k * 10 + 6, none⟩ = some (.int .i64 rK) ∧ X.cell? ⟨b, off + k * 10 + 7, none⟩ = some (.string rcn) ∧ X.cell? ⟨b, off + k * 10 + 8, none⟩ = some (.int .i64 rcq) ∧ X.cell? ⟨b, off + k * 10 + 9, none⟩ = some (.bool rcb)) wa := ⟨keepB hba x0, keepB hba x1, keepB hba x2, keepB hba x3, keepB hba x4, keepB hba x5, keepB hba x6, keepB hba x7, keepB hba x8, keepB hba x9⟩
        refine wp_region_held_drew (S := (fun X : World => X.cell? ⟨b, off + k * 10, none⟩ = some (.int .i64 rk) ∧ X.cell? ⟨b, off + k * 10 + 1, none⟩ = some (.string rt) ∧ X.cell? ⟨b, off + k * 10 + 2, none⟩ = some (.slice rAr rnr rzr) ∧ X.cell? ⟨b, off + k * 10 + 3, none⟩ = some (.int .i64 rck) ∧ X.cell? ⟨b, off + k * 10 + 4, none⟩ = some (.string rct) ∧ X.cell? ⟨b, off + k * 10 + 5, none⟩ = some (.slice rA rn rc) ∧ X.cell? ⟨b, off + k * 10 + 6, none⟩ = some (.int .i64 rK) ∧ X.cell? ⟨b, off + k * 10 + 7, none⟩ = some (.string rcn) ∧ X.cell? ⟨b, off + k * 10 + 8, none⟩ = some (.int .i64 rcq) ∧ X.cell? ⟨b, off + k * 10 + 9, none⟩ = some (.bool rcb))) (by kernel_rfl) (hwa ▸ hSa) (fun _ => ?_)
        rw [← hwa]
        clear hwa
        (refine wpAnyH_take (i := 0) (v := ?_) rfl (by kernel_rfl) (by kernel_rfl) (by kernel_rfl) (fun _ _ _ h => h) (Or.inl ⟨by rfl, ?_⟩) (by assumption) ?_; rotate_left; (intro w hSw; (try dsimp only at hSw); go_simp; try with_reducible rfl); ((try simp only [List.getElem_toArray]); (try simp only [List.getElem_cons_succ]); (try simp only [List.getElem_cons_zero]); (try simp only [Act.put]); (try simp only [List.setIfInBounds_toArray]); (try simp only [List.set_cons_succ]); (try simp only [List.set_cons_zero])))
        (refine wpAnyH_take (i := 1) (v := ?_) rfl (by kernel_rfl) (by kernel_rfl) (by kernel_rfl) (fun _ _ _ h => h) (Or.inl ⟨by rfl, ?_⟩) (by assumption) ?_; rotate_left; (intro w hSw; (try dsimp only at hSw); go_simp; try with_reducible rfl); ((try simp only [List.getElem_toArray]); (try simp only [List.getElem_cons_succ]); (try simp only [List.getElem_cons_zero]); (try simp only [Act.put]); (try simp only [List.setIfInBounds_toArray]); (try simp only [List.set_cons_succ]); (try simp only [List.set_cons_zero])))
        (refine wpAnyH_take (i := 2) (v := ?_) rfl (by kernel_rfl) (by kernel_rfl) (by kernel_rfl) (fun _ _ _ h => h) (Or.inl ⟨by rfl, ?_⟩) (by assumption) ?_; rotate_left; (intro w hSw; (try dsimp only at hSw); go_simp; try with_reducible rfl); ((try simp only [List.getElem_toArray]); (try simp only [List.getElem_cons_succ]); (try simp only [List.getElem_cons_zero]); (try simp only [Act.put]); (try simp only [List.setIfInBounds_toArray]); (try simp only [List.set_cons_succ]); (try simp only [List.set_cons_zero])))
        (refine wpAnyH_take (i := 3) (v := ?_) rfl (by kernel_rfl) (by kernel_rfl) (by kernel_rfl) (fun _ _ _ h => h) (Or.inl ⟨by rfl, ?_⟩) (by assumption) ?_; rotate_left; (intro w hSw; (try dsimp only at hSw); go_simp; try with_reducible rfl); ((try simp only [List.getElem_toArray]); (try simp only [List.getElem_cons_succ]); (try simp only [List.getElem_cons_zero]); (try simp only [Act.put]); (try simp only [List.setIfInBounds_toArray]); (try simp only [List.set_cons_succ]); (try simp only [List.set_cons_zero])))
        (refine wpAnyH_take (i := 4) (v := ?_) rfl (by kernel_rfl) (by kernel_rfl) (by kernel_rfl) (fun _ _ _ h => h) (Or.inl ⟨by rfl, ?_⟩) (by assumption) ?_; rotate_left; (intro w hSw; (try dsimp only at hSw); go_simp; try with_reducible rfl); ((try simp only [List.getElem_toArray]); (try simp only [List.getElem_cons_succ]); (try simp only [List.getElem_cons_zero]); (try simp only [Act.put]); (try simp only [List.setIfInBounds_toArray]); (try simp only [List.set_cons_succ]); (try simp only [List.set_cons_zero])))
        (refine wpAnyH_take (i := 5) (v := ?_) rfl (by kernel_rfl) (by kernel_rfl) (by kernel_rfl) (fun _ _ _ h => h) (Or.inl ⟨by rfl, ?_⟩) (by assumption) ?_; rotate_left; (intro w hSw; (try dsimp only at hSw); go_simp; try with_reducible rfl); ((try simp only [List.getElem_toArray]); (try simp only [List.getElem_cons_succ]); (try simp only [List.getElem_cons_zero]); (try simp only [Act.put]); (try simp only [List.setIfInBounds_toArray]); (try simp only [List.set_cons_succ]); (try simp only [List.set_cons_zero])))
        (refine wpAnyH_take (i := 6) (v := ?_) rfl (by kernel_rfl) (by kernel_rfl) (by kernel_rfl) (fun _ _ _ h => h) (Or.inl ⟨by rfl, ?_⟩) (by assumption) ?_; rotate_left; (intro w hSw; (try dsimp only at hSw); go_simp; try with_reducible rfl); ((try simp only [List.getElem_toArray]); (try simp only [List.getElem_cons_succ]); (try simp only [List.getElem_cons_zero]); (try simp only [Act.put]); (try simp only [List.setIfInBounds_toArray]); (try simp only [List.set_cons_succ]); (try simp only [List.set_cons_zero])))
        (refine wpAnyH_take (i := 7) (v := ?_) rfl (by kernel_rfl) (by kernel_rfl) (by kernel_rfl) (fun _ _ _ h => h) (Or.inl ⟨by rfl, ?_⟩) (by assumption) ?_; rotate_left; (intro w hSw; (try dsimp only at hSw); go_simp; try with_reducible rfl); ((try simp only [List.getElem_toArray]); (try simp only [List.getElem_cons_succ]); (try simp only [List.getElem_cons_zero]); (try simp only [Act.put]); (try simp only [List.setIfInBounds_toArray]); (try simp only [List.set_cons_succ]); (try simp only [List.set_cons_zero])))
        (refine wpAnyH_take (i := 8) (v := ?_) rfl (by kernel_rfl) (by kernel_rfl) (by kernel_rfl) (fun _ _ _ h => h) (Or.inl ⟨by rfl, ?_⟩) (by assumption) ?_; rotate_left; (intro w hSw; (try dsimp only at hSw); go_simp; try with_reducible rfl); ((try simp only [List.getElem_toArray]); (try simp only [List.getElem_cons_succ]); (try simp only [List.getElem_cons_zero]); (try simp only [Act.put]); (try simp only [List.setIfInBounds_toArray]); (try simp only [List.set_cons_succ]); (try simp only [List.set_cons_zero])))
        (refine wpAnyH_take (i := 9) (v := ?_) rfl (by kernel_rfl) (by kernel_rfl) (by kernel_rfl) (fun _ _ _ h => h) (Or.inl ⟨by rfl, ?_⟩) (by assumption) ?_; rotate_left; (intro w hSw; (try dsimp only at hSw); go_simp; try with_reducible rfl); ((try simp only [List.getElem_toArray]); (try simp only [List.getElem_cons_succ]); (try simp only [List.getElem_cons_zero]); (try simp only [Act.put]); (try simp only [List.setIfInBounds_toArray]); (try simp only [List.set_cons_succ]); (try simp only [List.set_cons_zero])))
        (refine wpAnyH_take (i := 10) (v := ?_) rfl (by kernel_rfl) (by kernel_rfl) (by kernel_rfl) (fun _ _ _ h => h) (Or.inl ⟨by rfl, ?_⟩) (by assumption) ?_; rotate_left; (intro w hSw; (try dsimp only at hSw); go_simp; try with_reducible rfl); ((try simp only [List.getElem_toArray]); (try simp only [List.getElem_cons_succ]); (try simp only [List.getElem_cons_zero]); (try simp only [Act.put]); (try simp only [List.setIfInBounds_toArray]); (try simp only [List.set_cons_succ]); (try simp only [List.set_cons_zero])))
        (refine wpAnyH_take (i := 11) (v := ?_) rfl (by kernel_rfl) (by kernel_rfl) (by kernel_rfl) (fun _ _ _ h => h) (Or.inl ⟨by rfl, ?_⟩) (by assumption) ?_; rotate_left; (intro w hSw; (try dsimp only at hSw); go_simp; try with_reducible rfl); ((try simp only [List.getElem_toArray]); (try simp only [List.getElem_cons_succ]); (try simp only [List.getElem_cons_zero]); (try simp only [Act.put]); (try simp only [List.setIfInBounds_toArray]); (try simp only [List.set_cons_succ]); (try simp only [List.set_cons_zero])))
        (refine wpAnyH_take (i := 12) (v := ?_) rfl (by kernel_rfl) (by kernel_rfl) (by kernel_rfl) (fun _ _ _ h => h) (Or.inl ⟨by rfl, ?_⟩) (by assumption) ?_; rotate_left; (intro w hSw; (try dsimp only at hSw); go_simp; try with_reducible rfl); ((try simp only [List.getElem_toArray]); (try simp only [List.getElem_cons_succ]); (try simp only [List.getElem_cons_zero]); (try simp only [Act.put]); (try simp only [List.setIfInBounds_toArray]); (try simp only [List.set_cons_succ]); (try simp only [List.set_cons_zero])))
        (refine wpAnyH_take (i := 13) (v := ?_) rfl (by kernel_rfl) (by kernel_rfl) (by kernel_rfl) (fun _ _ _ h => h) (Or.inl ⟨by rfl, ?_⟩) (by assumption) ?_; rotate_left; (intro w hSw; (try dsimp only at hSw); go_simp; try with_reducible rfl); ((try simp only [List.getElem_toArray]); (try simp only [List.getElem_cons_succ]); (try simp only [List.getElem_cons_zero]); (try simp only [Act.put]); (try simp only [List.setIfInBounds_toArray]); (try simp only [List.set_cons_succ]); (try simp only [List.set_cons_zero])))
        (refine wpAnyH_take (i := 14) (v := ?_) rfl (by kernel_rfl) (by kernel_rfl) (by kernel_rfl) (fun _ _ _ h => h) (Or.inl ⟨by rfl, ?_⟩) (by assumption) ?_; rotate_left; (intro w hSw; (try dsimp only at hSw); go_simp; try with_reducible rfl); ((try simp only [List.getElem_toArray]); (try simp only [List.getElem_cons_succ]); (try simp only [List.getElem_cons_zero]); (try simp only [Act.put]); (try simp only [List.setIfInBounds_toArray]); (try simp only [List.set_cons_succ]); (try simp only [List.set_cons_zero])))
        (refine wpAnyH_take (i := 15) (v := ?_) rfl (by kernel_rfl) (by kernel_rfl) (by kernel_rfl) (fun _ _ _ h => h) (Or.inl ⟨by rfl, ?_⟩) (by assumption) ?_; rotate_left; (intro w hSw; (try dsimp only at hSw); go_simp; try with_reducible rfl); ((try simp only [List.getElem_toArray]); (try simp only [List.getElem_cons_succ]); (try simp only [List.getElem_cons_zero]); (try simp only [Act.put]); (try simp only [List.setIfInBounds_toArray]); (try simp only [List.set_cons_succ]); (try simp only [List.set_cons_zero])))
        (refine wpAnyH_take (i := 16) (v := ?_) rfl (by kernel_rfl) (by kernel_rfl) (by kernel_rfl) (fun _ _ _ h => h) (Or.inl ⟨by rfl, ?_⟩) (by assumption) ?_; rotate_left; (intro w hSw; (try dsimp only at hSw); go_simp; try with_reducible rfl); ((try simp only [List.getElem_toArray]); (try simp only [List.getElem_cons_succ]); (try simp only [List.getElem_cons_zero]); (try simp only [Act.put]); (try simp only [List.setIfInBounds_toArray]); (try simp only [List.set_cons_succ]); (try simp only [List.set_cons_zero])))
        (refine wpAnyH_take (i := 17) (v := ?_) rfl (by kernel_rfl) (by kernel_rfl) (by kernel_rfl) (fun _ _ _ h => h) (Or.inl ⟨by rfl, ?_⟩) (by assumption) ?_; rotate_left; (intro w hSw; (try dsimp only at hSw); go_simp; try with_reducible rfl); ((try simp only [List.getElem_toArray]); (try simp only [List.getElem_cons_succ]); (try simp only [List.getElem_cons_zero]); (try simp only [Act.put]); (try simp only [List.setIfInBounds_toArray]); (try simp only [List.set_cons_succ]); (try simp only [List.set_cons_zero])))
        (refine wpAnyH_take (i := 18) (v := ?_) rfl (by kernel_rfl) (by kernel_rfl) (by kernel_rfl) (fun _ _ _ h => h) (Or.inl ⟨by rfl, ?_⟩) (by assumption) ?_; rotate_left; (intro w hSw; (try dsimp only at hSw); go_simp; try with_reducible rfl); ((try simp only [List.getElem_toArray]); (try simp only [List.getElem_cons_succ]); (try simp only [List.getElem_cons_zero]); (try simp only [Act.put]); (try simp only [List.setIfInBounds_toArray]); (try simp only [List.set_cons_succ]); (try simp only [List.set_cons_zero])))
        (refine wpAnyH_take (i := 19) (v := ?_) rfl (by kernel_rfl) (by kernel_rfl) (by kernel_rfl) (fun _ _ _ h => h) (Or.inl ⟨by rfl, ?_⟩) (by assumption) ?_; rotate_left; (intro w hSw; (try dsimp only at hSw); go_simp; try with_reducible rfl); ((try simp only [List.getElem_toArray]); (try simp only [List.getElem_cons_succ]); (try simp only [List.getElem_cons_zero]); (try simp only [Act.put]); (try simp only [List.setIfInBounds_toArray]); (try simp only [List.set_cons_succ]); (try simp only [List.set_cons_zero])))
        (refine wpAnyH_take (i := 20) (v := ?_) rfl (by kernel_rfl) (by kernel_rfl) (by kernel_rfl) (fun _ _ _ h => h) (Or.inl ⟨by rfl, ?_⟩) (by assumption) ?_; rotate_left; (intro w hSw; (try dsimp only at hSw); go_simp; try with_reducible rfl); ((try simp only [List.getElem_toArray]); (try simp only [List.getElem_cons_succ]); (try simp only [List.getElem_cons_zero]); (try simp only [Act.put]); (try simp only [List.setIfInBounds_toArray]); (try simp only [List.set_cons_succ]); (try simp only [List.set_cons_zero])))
        have hSb : (fun X : World => X.cell? ⟨b, off + k * 10, none⟩ = some (.int .i64 rk) ∧ X.cell? ⟨b, off + k * 10 + 1, none⟩ = some (.string rt) ∧ X.cell? ⟨b, off + k * 10 + 2, none⟩ = some (.slice rAr rnr rzr) ∧ X.cell? ⟨b, off + k * 10 + 3, none⟩ = some (.int .i64 rck) ∧ X.cell? ⟨b, off + k * 10 + 4, none⟩ = some (.string rct) ∧ X.cell? ⟨b, off + k * 10 + 5, none⟩ = some (.slice rA rn rc) ∧ X.cell? ⟨b, off + k * 10 + 6, none⟩ = some (.int .i64 rK) ∧ X.cell? ⟨b, off + k * 10 + 7, none⟩ = some (.string rcn) ∧ X.cell? ⟨b, off + k * 10 + 8, none⟩ = some (.int .i64 rcq) ∧ X.cell? ⟨b, off + k * 10 + 9, none⟩ = some (.bool rcb)) (wa.alloc (.cells #[.int .i64 0, .int .i64 0, .string ⟨#[]⟩, .slice none 0 0, .slice none 0 0, .int .i64 0, .string ⟨#[]⟩, .slice none 0 0, .int .i64 0, .string ⟨#[]⟩, .int .i64 0, .bool false] 33)) := ⟨keepAl (keepB hba x0), keepAl (keepB hba x1), keepAl (keepB hba x2), keepAl (keepB hba x3), keepAl (keepB hba x4), keepAl (keepB hba x5), keepAl (keepB hba x6), keepAl (keepB hba x7), keepAl (keepB hba x8), keepAl (keepB hba x9)⟩
        refine wpAnyH_ready (rs := [21]) (by kernel_rfl) (by simp) ?_
        refine AllReadyH.cons rfl (fun K2 hK2 => ?_) AllReadyH.nil
        go_simp
        refine hK2.out _ _ (by (try dsimp only); exact hSb) (fun _ => ?_)
        clear hK2 K2
        (try simp only [List.getElem_toArray]); (try simp only [List.getElem_cons_succ]); (try simp only [List.getElem_cons_zero]); (try simp only [Act.put]); (try simp only [List.setIfInBounds_toArray]); (try simp only [List.set_cons_succ]); (try simp only [List.set_cons_zero])
        refine wpAnyH_ready (rs := [22]) (by kernel_rfl) (by simp) ?_
        refine AllReadyH.cons rfl (fun K2 hK2 => ?_) AllReadyH.nil
        go_simp
        obtain ⟨wb, hwb⟩ : ∃ W, W = wa.alloc (.cells #[.int .i64 rk, .int .i64 0, .string rt, .slice none 0 0, .slice rAr rnr rzr, .int .i64 rck, .string rct, .slice rA rn rc, .int .i64 rK, .string rcn, .int .i64 rcq, .bool rcb] 33) := ⟨_, rfl⟩
        have HEB : Hid (Has wb wa.heap.size 33 #[.int .i64 rk, .int .i64 0, .string rt, .slice none 0 0, .slice rAr rnr rzr, .int .i64 rck, .string rct, .slice rA rn rc, .int .i64 rK, .string rcn, .int .i64 rcq, .bool rcb]) := by rw [hwb]; exact Has.new wa _ _
        have hbb : Below wr.heap.size wr wb := by rw [hwb]; exact hba.alloc hba.size _
        rw [← hwb]
        clear hwb hSb
        refine hK2.out _ _ (by (try dsimp only); exact ⟨keepB hbb x0, keepB hbb x1, keepB hbb x2, keepB hbb x3, keepB hbb x4, keepB hbb x5, keepB hbb x6, keepB hbb x7, keepB hbb x8, keepB hbb x9⟩) (fun _ => ?_)
        clear hK2 K2
        (try simp only [List.getElem_toArray]); (try simp only [List.getElem_cons_succ]); (try simp only [List.getElem_cons_zero]); (try simp only [Act.put]); (try simp only [List.setIfInBounds_toArray]); (try simp only [List.set_cons_succ]); (try simp only [List.set_cons_zero])
        refine wpAnyH_done (by kernel_rfl) ?_ _
        go_wp2_with fail
        obtain ⟨wc, hwc⟩ : ∃ W, W = wb.drew := ⟨_, rfl⟩
        have hbc : Below wb.heap.size wb wc := by rw [hwc]; exact (Below.refl _ wb).drew
        have HEC := Lib.hid (HEB.out.below hbc HEB.out.lt)
        have hbd := hbb.trans (hbc.mono hbb.size)
        have hSc : (fun X : World => X.cell? ⟨b', off' + k * 10, none⟩ = some (.int .i64 qk) ∧ X.cell? ⟨b', off' + k * 10 + 1, none⟩ = some (.string qt) ∧ X.cell? ⟨b', off' + k * 10 + 2, none⟩ = some (.slice qAr qnr qzr) ∧ X.cell? ⟨b', off' + k * 10 + 3, none⟩ = some (.int .i64 qck) ∧ X.cell? ⟨b', off' + k * 10 + 4, none⟩ = some (.string qct) ∧ X.cell? ⟨b', off' + k * 10 + 5, none⟩ = some (.slice qA qn qc) ∧ X.cell? ⟨b', off' + k * 10 + 6, none⟩ = some (.int .i64 qK) ∧ X.cell? ⟨b', off' + k * 10 + 7, none⟩ = some (.string qcn) ∧ X.cell? ⟨b', off' + k * 10 + 8, none⟩ = some (.int .i64 qcq) ∧ X.cell? ⟨b', off' + k * 10 + 9, none⟩ = some (.bool qcb)) wc := ⟨keepB hbd y0, keepB hbd y1, keepB hbd y2, keepB hbd y3, keepB hbd y4, keepB hbd y5, keepB hbd y6, keepB hbd y7, keepB hbd y8, keepB hbd y9⟩
        refine wp_region_held_drew (S := (fun X : World => X.cell? ⟨b', off' + k * 10, none⟩ = some (.int .i64 qk) ∧ X.cell? ⟨b', off' + k * 10 + 1, none⟩ = some (.string qt) ∧ X.cell? ⟨b', off' + k * 10 + 2, none⟩ = some (.slice qAr qnr qzr) ∧ X.cell? ⟨b', off' + k * 10 + 3, none⟩ = some (.int .i64 qck) ∧ X.cell? ⟨b', off' + k * 10 + 4, none⟩ = some (.string qct) ∧ X.cell? ⟨b', off' + k * 10 + 5, none⟩ = some (.slice qA qn qc) ∧ X.cell? ⟨b', off' + k * 10 + 6, none⟩ = some (.int .i64 qK) ∧ X.cell? ⟨b', off' + k * 10 + 7, none⟩ = some (.string qcn) ∧ X.cell? ⟨b', off' + k * 10 + 8, none⟩ = some (.int .i64 qcq) ∧ X.cell? ⟨b', off' + k * 10 + 9, none⟩ = some (.bool qcb))) (by kernel_rfl) (hwc ▸ hSc) (fun _ => ?_)
        rw [← hwc]
        clear hwc
        (refine wpAnyH_take (i := 0) (v := ?_) rfl (by kernel_rfl) (by kernel_rfl) (by kernel_rfl) (fun _ _ _ h => h) (Or.inl ⟨by rfl, ?_⟩) (by assumption) ?_; rotate_left; (intro w hSw; (try dsimp only at hSw); go_simp; try with_reducible rfl); ((try simp only [List.getElem_toArray]); (try simp only [List.getElem_cons_succ]); (try simp only [List.getElem_cons_zero]); (try simp only [Act.put]); (try simp only [List.setIfInBounds_toArray]); (try simp only [List.set_cons_succ]); (try simp only [List.set_cons_zero])))
        (refine wpAnyH_take (i := 1) (v := ?_) rfl (by kernel_rfl) (by kernel_rfl) (by kernel_rfl) (fun _ _ _ h => h) (Or.inl ⟨by rfl, ?_⟩) (by assumption) ?_; rotate_left; (intro w hSw; (try dsimp only at hSw); go_simp; try with_reducible rfl); ((try simp only [List.getElem_toArray]); (try simp only [List.getElem_cons_succ]); (try simp only [List.getElem_cons_zero]); (try simp only [Act.put]); (try simp only [List.setIfInBounds_toArray]); (try simp only [List.set_cons_succ]); (try simp only [List.set_cons_zero])))
        (refine wpAnyH_take (i := 2) (v := ?_) rfl (by kernel_rfl) (by kernel_rfl) (by kernel_rfl) (fun _ _ _ h => h) (Or.inl ⟨by rfl, ?_⟩) (by assumption) ?_; rotate_left; (intro w hSw; (try dsimp only at hSw); go_simp; try with_reducible rfl); ((try simp only [List.getElem_toArray]); (try simp only [List.getElem_cons_succ]); (try simp only [List.getElem_cons_zero]); (try simp only [Act.put]); (try simp only [List.setIfInBounds_toArray]); (try simp only [List.set_cons_succ]); (try simp only [List.set_cons_zero])))
        (refine wpAnyH_take (i := 3) (v := ?_) rfl (by kernel_rfl) (by kernel_rfl) (by kernel_rfl) (fun _ _ _ h => h) (Or.inl ⟨by rfl, ?_⟩) (by assumption) ?_; rotate_left; (intro w hSw; (try dsimp only at hSw); go_simp; try with_reducible rfl); ((try simp only [List.getElem_toArray]); (try simp only [List.getElem_cons_succ]); (try simp only [List.getElem_cons_zero]); (try simp only [Act.put]); (try simp only [List.setIfInBounds_toArray]); (try simp only [List.set_cons_succ]); (try simp only [List.set_cons_zero])))
        (refine wpAnyH_take (i := 4) (v := ?_) rfl (by kernel_rfl) (by kernel_rfl) (by kernel_rfl) (fun _ _ _ h => h) (Or.inl ⟨by rfl, ?_⟩) (by assumption) ?_; rotate_left; (intro w hSw; (try dsimp only at hSw); go_simp; try with_reducible rfl); ((try simp only [List.getElem_toArray]); (try simp only [List.getElem_cons_succ]); (try simp only [List.getElem_cons_zero]); (try simp only [Act.put]); (try simp only [List.setIfInBounds_toArray]); (try simp only [List.set_cons_succ]); (try simp only [List.set_cons_zero])))
        (refine wpAnyH_take (i := 5) (v := ?_) rfl (by kernel_rfl) (by kernel_rfl) (by kernel_rfl) (fun _ _ _ h => h) (Or.inl ⟨by rfl, ?_⟩) (by assumption) ?_; rotate_left; (intro w hSw; (try dsimp only at hSw); go_simp; try with_reducible rfl); ((try simp only [List.getElem_toArray]); (try simp only [List.getElem_cons_succ]); (try simp only [List.getElem_cons_zero]); (try simp only [Act.put]); (try simp only [List.setIfInBounds_toArray]); (try simp only [List.set_cons_succ]); (try simp only [List.set_cons_zero])))
        (refine wpAnyH_take (i := 6) (v := ?_) rfl (by kernel_rfl) (by kernel_rfl) (by kernel_rfl) (fun _ _ _ h => h) (Or.inl ⟨by rfl, ?_⟩) (by assumption) ?_; rotate_left; (intro w hSw; (try dsimp only at hSw); go_simp; try with_reducible rfl); ((try simp only [List.getElem_toArray]); (try simp only [List.getElem_cons_succ]); (try simp only [List.getElem_cons_zero]); (try simp only [Act.put]); (try simp only [List.setIfInBounds_toArray]); (try simp only [List.set_cons_succ]); (try simp only [List.set_cons_zero])))
        (refine wpAnyH_take (i := 7) (v := ?_) rfl (by kernel_rfl) (by kernel_rfl) (by kernel_rfl) (fun _ _ _ h => h) (Or.inl ⟨by rfl, ?_⟩) (by assumption) ?_; rotate_left; (intro w hSw; (try dsimp only at hSw); go_simp; try with_reducible rfl); ((try simp only [List.getElem_toArray]); (try simp only [List.getElem_cons_succ]); (try simp only [List.getElem_cons_zero]); (try simp only [Act.put]); (try simp only [List.setIfInBounds_toArray]); (try simp only [List.set_cons_succ]); (try simp only [List.set_cons_zero])))
        (refine wpAnyH_take (i := 8) (v := ?_) rfl (by kernel_rfl) (by kernel_rfl) (by kernel_rfl) (fun _ _ _ h => h) (Or.inl ⟨by rfl, ?_⟩) (by assumption) ?_; rotate_left; (intro w hSw; (try dsimp only at hSw); go_simp; try with_reducible rfl); ((try simp only [List.getElem_toArray]); (try simp only [List.getElem_cons_succ]); (try simp only [List.getElem_cons_zero]); (try simp only [Act.put]); (try simp only [List.setIfInBounds_toArray]); (try simp only [List.set_cons_succ]); (try simp only [List.set_cons_zero])))
        (refine wpAnyH_take (i := 9) (v := ?_) rfl (by kernel_rfl) (by kernel_rfl) (by kernel_rfl) (fun _ _ _ h => h) (Or.inl ⟨by rfl, ?_⟩) (by assumption) ?_; rotate_left; (intro w hSw; (try dsimp only at hSw); go_simp; try with_reducible rfl); ((try simp only [List.getElem_toArray]); (try simp only [List.getElem_cons_succ]); (try simp only [List.getElem_cons_zero]); (try simp only [Act.put]); (try simp only [List.setIfInBounds_toArray]); (try simp only [List.set_cons_succ]); (try simp only [List.set_cons_zero])))
        (refine wpAnyH_take (i := 10) (v := ?_) rfl (by kernel_rfl) (by kernel_rfl) (by kernel_rfl) (fun _ _ _ h => h) (Or.inl ⟨by rfl, ?_⟩) (by assumption) ?_; rotate_left; (intro w hSw; (try dsimp only at hSw); go_simp; try with_reducible rfl); ((try simp only [List.getElem_toArray]); (try simp only [List.getElem_cons_succ]); (try simp only [List.getElem_cons_zero]); (try simp only [Act.put]); (try simp only [List.setIfInBounds_toArray]); (try simp only [List.set_cons_succ]); (try simp only [List.set_cons_zero])))
        (refine wpAnyH_take (i := 11) (v := ?_) rfl (by kernel_rfl) (by kernel_rfl) (by kernel_rfl) (fun _ _ _ h => h) (Or.inl ⟨by rfl, ?_⟩) (by assumption) ?_; rotate_left; (intro w hSw; (try dsimp only at hSw); go_simp; try with_reducible rfl); ((try simp only [List.getElem_toArray]); (try simp only [List.getElem_cons_succ]); (try simp only [List.getElem_cons_zero]); (try simp only [Act.put]); (try simp only [List.setIfInBounds_toArray]); (try simp only [List.set_cons_succ]); (try simp only [List.set_cons_zero])))
        (refine wpAnyH_take (i := 12) (v := ?_) rfl (by kernel_rfl) (by kernel_rfl) (by kernel_rfl) (fun _ _ _ h => h) (Or.inl ⟨by rfl, ?_⟩) (by assumption) ?_; rotate_left; (intro w hSw; (try dsimp only at hSw); go_simp; try with_reducible rfl); ((try simp only [List.getElem_toArray]); (try simp only [List.getElem_cons_succ]); (try simp only [List.getElem_cons_zero]); (try simp only [Act.put]); (try simp only [List.setIfInBounds_toArray]); (try simp only [List.set_cons_succ]); (try simp only [List.set_cons_zero])))
        (refine wpAnyH_take (i := 13) (v := ?_) rfl (by kernel_rfl) (by kernel_rfl) (by kernel_rfl) (fun _ _ _ h => h) (Or.inl ⟨by rfl, ?_⟩) (by assumption) ?_; rotate_left; (intro w hSw; (try dsimp only at hSw); go_simp; try with_reducible rfl); ((try simp only [List.getElem_toArray]); (try simp only [List.getElem_cons_succ]); (try simp only [List.getElem_cons_zero]); (try simp only [Act.put]); (try simp only [List.setIfInBounds_toArray]); (try simp only [List.set_cons_succ]); (try simp only [List.set_cons_zero])))
        (refine wpAnyH_take (i := 14) (v := ?_) rfl (by kernel_rfl) (by kernel_rfl) (by kernel_rfl) (fun _ _ _ h => h) (Or.inl ⟨by rfl, ?_⟩) (by assumption) ?_; rotate_left; (intro w hSw; (try dsimp only at hSw); go_simp; try with_reducible rfl); ((try simp only [List.getElem_toArray]); (try simp only [List.getElem_cons_succ]); (try simp only [List.getElem_cons_zero]); (try simp only [Act.put]); (try simp only [List.setIfInBounds_toArray]); (try simp only [List.set_cons_succ]); (try simp only [List.set_cons_zero])))
        (refine wpAnyH_take (i := 15) (v := ?_) rfl (by kernel_rfl) (by kernel_rfl) (by kernel_rfl) (fun _ _ _ h => h) (Or.inl ⟨by rfl, ?_⟩) (by assumption) ?_; rotate_left; (intro w hSw; (try dsimp only at hSw); go_simp; try with_reducible rfl); ((try simp only [List.getElem_toArray]); (try simp only [List.getElem_cons_succ]); (try simp only [List.getElem_cons_zero]); (try simp only [Act.put]); (try simp only [List.setIfInBounds_toArray]); (try simp only [List.set_cons_succ]); (try simp only [List.set_cons_zero])))
        (refine wpAnyH_take (i := 16) (v := ?_) rfl (by kernel_rfl) (by kernel_rfl) (by kernel_rfl) (fun _ _ _ h => h) (Or.inl ⟨by rfl, ?_⟩) (by assumption) ?_; rotate_left; (intro w hSw; (try dsimp only at hSw); go_simp; try with_reducible rfl); ((try simp only [List.getElem_toArray]); (try simp only [List.getElem_cons_succ]); (try simp only [List.getElem_cons_zero]); (try simp only [Act.put]); (try simp only [List.setIfInBounds_toArray]); (try simp only [List.set_cons_succ]); (try simp only [List.set_cons_zero])))
        (refine wpAnyH_take (i := 17) (v := ?_) rfl (by kernel_rfl) (by kernel_rfl) (by kernel_rfl) (fun _ _ _ h => h) (Or.inl ⟨by rfl, ?_⟩) (by assumption) ?_; rotate_left; (intro w hSw; (try dsimp only at hSw); go_simp; try with_reducible rfl); ((try simp only [List.getElem_toArray]); (try simp only [List.getElem_cons_succ]); (try simp only [List.getElem_cons_zero]); (try simp only [Act.put]); (try simp only [List.setIfInBounds_toArray]); (try simp only [List.set_cons_succ]); (try simp only [List.set_cons_zero])))
        (refine wpAnyH_take (i := 18) (v := ?_) rfl (by kernel_rfl) (by kernel_rfl) (by kernel_rfl) (fun _ _ _ h => h) (Or.inl ⟨by rfl, ?_⟩) (by assumption) ?_; rotate_left; (intro w hSw; (try dsimp only at hSw); go_simp; try with_reducible rfl); ((try simp only [List.getElem_toArray]); (try simp only [List.getElem_cons_succ]); (try simp only [List.getElem_cons_zero]); (try simp only [Act.put]); (try simp only [List.setIfInBounds_toArray]); (try simp only [List.set_cons_succ]); (try simp only [List.set_cons_zero])))
        (refine wpAnyH_take (i := 19) (v := ?_) rfl (by kernel_rfl) (by kernel_rfl) (by kernel_rfl) (fun _ _ _ h => h) (Or.inl ⟨by rfl, ?_⟩) (by assumption) ?_; rotate_left; (intro w hSw; (try dsimp only at hSw); go_simp; try with_reducible rfl); ((try simp only [List.getElem_toArray]); (try simp only [List.getElem_cons_succ]); (try simp only [List.getElem_cons_zero]); (try simp only [Act.put]); (try simp only [List.setIfInBounds_toArray]); (try simp only [List.set_cons_succ]); (try simp only [List.set_cons_zero])))
        (refine wpAnyH_take (i := 20) (v := ?_) rfl (by kernel_rfl) (by kernel_rfl) (by kernel_rfl) (fun _ _ _ h => h) (Or.inl ⟨by rfl, ?_⟩) (by assumption) ?_; rotate_left; (intro w hSw; (try dsimp only at hSw); go_simp; try with_reducible rfl); ((try simp only [List.getElem_toArray]); (try simp only [List.getElem_cons_succ]); (try simp only [List.getElem_cons_zero]); (try simp only [Act.put]); (try simp only [List.setIfInBounds_toArray]); (try simp only [List.set_cons_succ]); (try simp only [List.set_cons_zero])))
        have hSd : (fun X : World => X.cell? ⟨b', off' + k * 10, none⟩ = some (.int .i64 qk) ∧ X.cell? ⟨b', off' + k * 10 + 1, none⟩ = some (.string qt) ∧ X.cell? ⟨b', off' + k * 10 + 2, none⟩ = some (.slice qAr qnr qzr) ∧ X.cell? ⟨b', off' + k * 10 + 3, none⟩ = some (.int .i64 qck) ∧ X.cell? ⟨b', off' + k * 10 + 4, none⟩ = some (.string qct) ∧ X.cell? ⟨b', off' + k * 10 + 5, none⟩ = some (.slice qA qn qc) ∧ X.cell? ⟨b', off' + k * 10 + 6, none⟩ = some (.int .i64 qK) ∧ X.cell? ⟨b', off' + k * 10 + 7, none⟩ = some (.string qcn) ∧ X.cell? ⟨b', off' + k * 10 + 8, none⟩ = some (.int .i64 qcq) ∧ X.cell? ⟨b', off' + k * 10 + 9, none⟩ = some (.bool qcb)) (wc.alloc (.cells #[.int .i64 0, .int .i64 0, .string ⟨#[]⟩, .slice none 0 0, .slice none 0 0, .int .i64 0, .string ⟨#[]⟩, .slice none 0 0, .int .i64 0, .string ⟨#[]⟩, .int .i64 0, .bool false] 33)) := ⟨keepAl (keepB hbd y0), keepAl (keepB hbd y1), keepAl (keepB hbd y2), keepAl (keepB hbd y3), keepAl (keepB hbd y4), keepAl (keepB hbd y5), keepAl (keepB hbd y6), keepAl (keepB hbd y7), keepAl (keepB hbd y8), keepAl (keepB hbd y9)⟩
        refine wpAnyH_ready (rs := [21]) (by kernel_rfl) (by simp) ?_
        refine AllReadyH.cons rfl (fun K2 hK2 => ?_) AllReadyH.nil
        go_simp
        refine hK2.out _ _ (by (try dsimp only); exact hSd) (fun _ => ?_)
        clear hK2 K2
        (try simp only [List.getElem_toArray]); (try simp only [List.getElem_cons_succ]); (try simp only [List.getElem_cons_zero]); (try simp only [Act.put]); (try simp only [List.setIfInBounds_toArray]); (try simp only [List.set_cons_succ]); (try simp only [List.set_cons_zero])
        refine wpAnyH_ready (rs := [22]) (by kernel_rfl) (by simp) ?_
        refine AllReadyH.cons rfl (fun K2 hK2 => ?_) AllReadyH.nil
        go_simp
        obtain ⟨we, hwe⟩ : ∃ W, W = wc.alloc (.cells #[.int .i64 qk, .int .i64 0, .string qt, .slice none 0 0, .slice qAr qnr qzr, .int .i64 qck, .string qct, .slice qA qn qc, .int .i64 qK, .string qcn, .int .i64 qcq, .bool qcb] 33) := ⟨_, rfl⟩
        have HFE : Hid (Has we wc.heap.size 33 #[.int .i64 qk, .int .i64 0, .string qt, .slice none 0 0, .slice qAr qnr qzr, .int .i64 qck, .string qct, .slice qA qn qc, .int .i64 qK, .string qcn, .int .i64 qcq, .bool qcb]) := by rw [hwe]; exact Has.new wc _ _
        have HEE : Hid (Has we wa.heap.size 33 #[.int .i64 rk, .int .i64 0, .string rt, .slice none 0 0, .slice rAr rnr rzr, .int .i64 rck, .string rct, .slice rA rn rc, .int .i64 rK, .string rcn, .int .i64 rcq, .bool rcb]) := by rw [hwe]; exact HEC.out.alloc _
        have hbe : Below wr.heap.size wr we := by rw [hwe]; exact hbd.alloc hbd.size _
        rw [← hwe]
        clear hwe hSd
        refine hK2.out _ _ (by (try dsimp only); exact ⟨keepB hbe y0, keepB hbe y1, keepB hbe y2, keepB hbe y3, keepB hbe y4, keepB hbe y5, keepB hbe y6, keepB hbe y7, keepB hbe y8, keepB hbe y9⟩) (fun _ => ?_)
        clear hK2 K2
        (try simp only [List.getElem_toArray]); (try simp only [List.getElem_cons_succ]); (try simp only [List.getElem_cons_zero]); (try simp only [Act.put]); (try simp only [List.setIfInBounds_toArray]); (try simp only [List.set_cons_succ]); (try simp only [List.set_cons_zero])
        refine wpAnyH_done (by kernel_rfl) ?_ _
        have l0 := HEE.out.cell 0
        have l1 := HEE.out.cell 1
        have l2 := HEE.out.cell 2
        have l3 := HEE.out.cell 3
        have l4 := HEE.out.cell 4
        have l5 := HEE.out.cell 5
        have l6 := HEE.out.cell 6
        have l7 := HEE.out.cell 7
        have l8 := HEE.out.cell 8
        have l9 := HEE.out.cell 9
        have l10 := HEE.out.cell 10
        have l11 := HEE.out.cell 11
        have m0 := HFE.out.cell 0
        have m1 := HFE.out.cell 1
        have m2 := HFE.out.cell 2
        have m3 := HFE.out.cell 3
        have m4 := HFE.out.cell 4
        have m5 := HFE.out.cell 5
        have m6 := HFE.out.cell 6
        have m7 := HFE.out.cell 7
        have m8 := HFE.out.cell 8
        have m9 := HFE.out.cell 9
        have m10 := HFE.out.cell 10
        have m11 := HFE.out.cell 11
        go_wp2_with fail
        refine (resame_any _ _ _ _ we (Gr.ok.at (r := ⟨⟨rk, rt, rR, rck, rct, rL, rK, ⟨rcn, rcq, rcb⟩⟩, rAr, rnr, rzr, rA, rn, rc⟩) (hr.out.below hbe)) (Gr.ok.at (r := ⟨⟨qk, qt, qR, qck, qct, qL, qK, ⟨qcn, qcq, qcb⟩⟩, qAr, qnr, qzr, qA, qn, qc⟩) (hq.out.below hbe))).mono ?_
        rintro e w2 ⟨rfl, hb2⟩
        have HB2 := Lib.hid (HB.out.trans ((hbe.trans (hb2.out.mono hbe.size)).mono HB.out.size))
        obtain ⟨g, hg⟩ : ∃ g, evF (⟨⟨rk, rt, rR, rck, rct, rL, rK, ⟨rcn, rcq, rcb⟩⟩, rAr, rnr, rzr, rA, rn, rc⟩ : Gr).x.ev (⟨⟨qk, qt, qR, qck, qct, qL, qK, ⟨qcn, qcq, qcb⟩⟩, qAr, qnr, qzr, qA, qn, qc⟩ : Gr).x.ev = g := ⟨_, rfl⟩
        have hgg : gF (⟨⟨rk, rt, rR, rck, rct, rL, rK, ⟨rcn, rcq, rcb⟩⟩, rAr, rnr, rzr, rA, rn, rc⟩ : Gr).x (⟨⟨qk, qt, qR, qck, qct, qL, qK, ⟨qcn, qcq, qcb⟩⟩, qAr, qnr, qzr, qA, qn, qc⟩ : Gr).x = g := hg
        rw [hgg] at HOK HNO
        rw [hg]
        clear hg hgg
        cases g
        · go_wp2_with fail
          go_ret
          exact ⟨by rw [HS.out, HNO.out (by first | rfl | exact True.intro)]; rfl, HB2⟩
        · go_wp2_with fail
          go_roundw
          case rel => exact ⟨k + 1, by omega, by go_num, by show _ = _; rw [HOK.out, HT.out]; rfl, HB2⟩
          case measure => simp [intOf]; omega
      · obtain rfl : k = n := by omega
        go_wp2_with fail
        go_ret
        exact ⟨by rw [HS.out, HT.out]; rfl, HB⟩
  · rw [decide_eq_false he, Bool.false_and] at HS
    have hz : ¬ ((n : Int) = (n' : Int)) := by omega
    go_enter Tryz.func27, Tryz.ntmps27
    go_wp2_with fail
    go_ret
    exact ⟨by rw [HS.out]; rfl, Below.refl _ _⟩
end Go.Proofs.YtlhfdhmmdnkojaaGreatDoor
namespace Go.Proofs.YtlhfdhmmdnkojaaGreatDoor
open Go.RowKit Dg
set_option maxRecDepth 100000
end Go.Proofs.YtlhfdhmmdnkojaaGreatDoor
namespace Go.Proofs.YtlhfdhmmdnkojaaGreatDoor
open Go.RowKit Dg
/-- A table: its name, its columns, its keys. -/
structure Td where
  nm : ByteArray
  L : List Cl
  K : Int
def Tb.td (x : Tb) : Td := ⟨x.nm, x.L, x.K⟩
end Go.Proofs.YtlhfdhmmdnkojaaGreatDoor
namespace Go.Proofs.YtlhfdhmmdnkojaaGreatDoor
open Go.RowKit Dg
/-- What a change does: the places that go, how many are new, and the error. -/
structure Dn where
  f : Nat
  t : Nat
  m : Nat
  e : Int
def Dn.val (d : Dn) : Value := .tuple #[.agg #[.int .i64 d.f, .int .i64 d.t, .int .i64 d.m], .int .i64 d.e]
def Dn.bad (e : Int) : Dn := ⟨0, 0, 0, e⟩
end Go.Proofs.YtlhfdhmmdnkojaaGreatDoor
namespace Go.Proofs.YtlhfdhmmdnkojaaGreatDoor
open Go.ChangeShapes Go.WideShapes Go.RowKit Go.Joins Go.Deep Go.Lib
set_option maxRecDepth 100000
theorem cellsI : Tryz.prog.cellsOf 3 = 1 := by kernel_rfl
theorem cellsS : Tryz.prog.cellsOf 9 = 1 := by kernel_rfl
theorem cellsB : Tryz.prog.cellsOf 4 = 1 := by kernel_rfl
theorem cellsL : Tryz.prog.cellsOf 25 = 1 := by kernel_rfl
theorem cellsV : Tryz.prog.cellsOf 113 = 3 := by kernel_rfl
theorem cellsC : Tryz.prog.cellsOf 29 = 3 := by kernel_rfl
theorem cellsH : Tryz.prog.cellsOf 27 = 2 := by kernel_rfl
section
variable {H : Type} {enc : TypeId × Value → H} {w : World} {base : Nat} {spare : Nat → Bool} {held : Bool}
/-- A datum no text of which is too long to be read. -/
def Lite (t : TypeId) (d : DataW H) : Prop := ∀ n ∈ d.weights Tryz.prog t, n ≤ reachBytes
theorem lite_of {ts : List TypeId} {ds : List (DataW H)} (h : (DataW.weightsEach Tryz.prog ts ds).all (· ≤ reachBytes) = true) {j : Nat} {t : TypeId} {d : DataW H} (ht : ts[j]? = some t) (hd : ds[j]? = some d) : Lite t d := fun n hn => by
  have := List.all_eq_true.1 h n (DataW.weights_mem_each ht hd n hn)
  simpa using this
theorem bounds_int {n : Int} (h : (Lit.int .i64 n).wf = true) : -9223372036854775808 ≤ n ∧ n ≤ 9223372036854775807 := by
  simpa [Lit.wf, IntKind.min, IntKind.max, IntKind.signed, IntKind.bits] using h
theorem bytes_size (s : ByteArray) : s.data.toList.length = s.size := rfl
theorem reach_le {n : Nat} (h : n ≤ reachBytes) : n ≤ 140737488355328 := Nat.le_trans h (Nat.le_of_lt reachBytes_lt)
set_option maxRecDepth 100000 in
theorem val_in {fuel : Nat} {cs : List Value} {x : DataW H × List MemPlace} (h : DataW.trod enc Tryz.prog w base spare held fuel 113 cs = some x) (hl : Lite 113 x.1) :
    ∃ v : Vl, cs = v.cells ∧ v.fits := by
  obtain ⟨xs, n, _, hx, hc, hxl, hf⟩ := DataW.trod_struct Tryz.underlying113 h
  rw [cellsV] at hc
  match cs, hc with
  | [c0, c1, c2], _ =>
    match xs, hxl with
    | [y0, y1, y2], _ =>
      have f0 := hf 0 _ rfl
      have f1 := hf 1 _ rfl
      have f2 := hf 2 _ rfl
      simp [cellsI, cellsS] at f0 f1 f2
      obtain ⟨k, e0, _, hk⟩ := DataW.trod_int Tryz.underlying3 f0
      obtain ⟨m, e1, _, hm⟩ := DataW.trod_int Tryz.underlying3 f1
      obtain ⟨s, e2, ey, _⟩ := DataW.trod_string Tryz.underlying9 f2
      simp at e0 e1 e2
      subst e0 e1 e2
      refine ⟨⟨k, m, s⟩, rfl, ⟨(bounds_int hm).1, (bounds_int hm).2, ?_⟩, (bounds_int hk).1, (bounds_int hk).2⟩
      have := hl s.data.toList.length (by rw [hx]; simp [DataW.weights, Tryz.underlying113, DataW.weightsEach, ey])
      rw [bytes_size] at this
      exact reach_le this
theorem weights_in {e : TypeId} : ∀ {l : List (DataW H)} {d : DataW H}, d ∈ l → ∀ n ∈ d.weights Tryz.prog e, n ∈ DataW.weightsAll Tryz.prog e l
  | d0 :: l, d, h, n, hn => by
    simp only [DataW.weightsAll, List.mem_append]
    rcases List.mem_cons.1 h with rfl | h
    · exact .inl hn
    · exact .inr (weights_in h n hn)
set_option maxRecDepth 100000 in
theorem col_in {fuel : Nat} {cs : List Value} {x : DataW H × List MemPlace} (h : DataW.trod enc Tryz.prog w base spare held fuel 29 cs = some x) (hl : Lite 29 x.1) :
    ∃ v : Cl, cs = v.cells ∧ v.fit := by
  obtain ⟨xs, n, _, hx, hc, hxl, hf⟩ := DataW.trod_struct Tryz.underlying29 h
  rw [cellsC] at hc
  match cs, hc with
  | [c0, c1, c2], _ =>
    match xs, hxl with
    | [y0, y1, y2], _ =>
      have f0 := hf 0 _ rfl
      have f1 := hf 1 _ rfl
      have f2 := hf 2 _ rfl
      simp [cellsI, cellsS, cellsB] at f0 f1 f2
      obtain ⟨s, e0, ey, _⟩ := DataW.trod_string Tryz.underlying9 f0
      obtain ⟨k, e1, _, hk⟩ := DataW.trod_int Tryz.underlying3 f1
      obtain ⟨b, e2, _⟩ := DataW.trod_bool Tryz.underlying4 f2
      simp at e0 e1 e2
      subst e0 e1 e2
      refine ⟨⟨s, k, b⟩, rfl, ?_, (bounds_int hk).1, (bounds_int hk).2⟩
      have := hl s.data.toList.length (by rw [hx]; simp [DataW.weights, Tryz.underlying29, DataW.weightsEach, ey])
      rw [bytes_size] at this
      exact reach_le this
theorem cols_in {fuel : Nat} {cs : List Value} {x : DataW H × List MemPlace} (h : DataW.trod enc Tryz.prog w base spare held fuel 25 cs = some x) (hl : Lite 25 x.1) :
    ∃ (A : Option Addr) (len cap : Nat) (L : List Cl), cs = [.slice A len cap] ∧ L.length = len ∧ len ≤ cap ∧ cap ≤ maxLen ∧ CRow w A L ∧ ∀ v ∈ L, v.fit := by
  rcases open_slice Tryz.underlying25 h with ⟨hcs, _⟩ | ⟨a, len, cap, m, n, D, Pl, hcs, _, hlc, hcm, hm, hx, hel⟩
  · exact ⟨none, 0, 0, [], hcs, rfl, Nat.le_refl _, Nat.zero_le _, fun h => absurd rfl h, fun _ h => by cases h⟩
  · have hlm : len ≤ m := by rw [hm]; split <;> omega
    have hv : ∀ i, i < len → ∃ v : Cl, v.fit ∧ ∀ j (hj : j < 3), w.cell? (a.add (i * 3 + j)) = v.cells[j]? := by
      intro i hi
      obtain ⟨cs', hc, ht⟩ := hel i (by omega)
      rw [cellsC] at hc
      obtain ⟨_, _, hat⟩ := World.cells?_some hc
      obtain ⟨v, e, hfit⟩ := col_in ht (fun n hn => hl n (by
        rw [hx]
        simp only [DataW.weights, Tryz.underlying25]
        refine List.mem_cons_of_mem _ (List.mem_append_left _ (weights_in (d := D i) ?_ n hn))
        exact List.mem_map.2 ⟨i, List.mem_range.2 hi, rfl⟩))
      refine ⟨v, hfit, fun j hj => ?_⟩
      rw [← Go.Deep.add_add, hat j hj, e]
    have hL : ∃ L : List Cl, L.length = len ∧ (∀ v ∈ L, v.fit) ∧ ∀ i (hi : i < L.length), ∀ j, j < 3 → w.cell? (a.add (i * 3 + j)) = L[i].cells[j]? := by
      clear hx hel hm hlc hlm hcs
      induction len with
      | zero => exact ⟨[], rfl, fun _ h => (by cases h), fun i hi => absurd hi (by simp)⟩
      | succ len ih =>
        obtain ⟨L, h1, h2, h3⟩ := ih (fun i hi => hv i (by omega))
        obtain ⟨v, h4, h5⟩ := hv len (by omega)
        refine ⟨L ++ [v], by simp [h1], fun u hu => ?_, fun i hi j hj => ?_⟩
        · rcases List.mem_append.1 hu with h | h
          · exact h2 u h
          · rw [List.mem_singleton.1 h]; exact h4
        · by_cases hil : i < L.length
          · rw [List.getElem_append_left hil]; exact h3 i hil j hj
          · have e : i = len := by simp at hi; omega
            subst e
            rw [List.getElem_append_right (by omega)]
            simp only [h1, Nat.sub_self, List.getElem_cons_zero]
            exact h5 j hj
    obtain ⟨L, h1, h2, h3⟩ := hL
    refine ⟨some a, len, cap, L, hcs, h1, hlc, hcm, fun hne => ?_, h2⟩
    have h0 : 0 < L.length := List.length_pos_iff.2 hne
    obtain ⟨b, off, ha⟩ : ∃ b off, a = ⟨b, off, none⟩ := by
      have := h3 0 h0 0 (by omega)
      obtain ⟨b, off, spot⟩ := a
      have hspot : spot = none := by simpa [Addr.add] using World.cell?_spot this
      exact ⟨b, off, by rw [hspot]⟩
    subst ha
    refine ⟨b, off, rfl, fun i hi => ?_⟩
    have q0 := h3 i hi 0 (by omega)
    have q1 := h3 i hi 1 (by omega)
    have q2 := h3 i hi 2 (by omega)
    rw [Addr.add_lit] at q0 q1 q2
    exact ⟨q0, q1, q2⟩
theorem cells_agg (cs : Array Value) : (Value.agg cs).cells = cs := rfl
set_option maxRecDepth 100000 in
theorem sch_in {fuel : Nat} {cs : List Value} {x : DataW H × List MemPlace} (h : DataW.trod enc Tryz.prog w base spare held fuel 27 cs = some x) (hl : Lite 27 x.1) :
    ∃ (A : Option Addr) (len cap : Nat) (L : List Cl) (K : Int), cs = [.slice A len cap, .int .i64 K] ∧ (L.length = len ∧ len ≤ cap ∧ cap ≤ maxLen ∧ CRow w A L ∧ ∀ v ∈ L, v.fit) ∧ -9223372036854775808 ≤ K ∧ K ≤ 9223372036854775807 := by
  obtain ⟨xs, n, _, hx, hc, hxl, hf⟩ := DataW.trod_struct Tryz.underlying27 h
  rw [cellsH] at hc
  match cs, hc with
  | [c0, c1], _ =>
    match xs, hxl with
    | [y0, y1], _ =>
      have f0 := hf 0 _ rfl
      have f1 := hf 1 _ rfl
      simp [cellsI, cellsL] at f0 f1
      obtain ⟨k, e1, _, hk⟩ := DataW.trod_int Tryz.underlying3 f1
      obtain ⟨A, len, cap, L, e0, hL⟩ := cols_in f0 (fun n hn => hl n (by rw [hx]; simp only [DataW.weights, Tryz.underlying27]; simp [DataW.weightsEach]; exact .inl hn))
      simp at e0 e1
      subst e0 e1
      exact ⟨A, len, cap, L, k, rfl, hL, (bounds_int hk).1, (bounds_int hk).2⟩
end
end Go.Proofs.YtlhfdhmmdnkojaaGreatDoor
namespace Go.Proofs.YtlhfdhmmdnkojaaGreatDoor
open Go.RowKit Dg
set_option linter.unusedVariables false
end Go.Proofs.YtlhfdhmmdnkojaaGreatDoor
namespace Go.Proofs.YtlhfdhmmdnkojaaGreatDoor
open Go.RowKit Dg
end Go.Proofs.YtlhfdhmmdnkojaaGreatDoor
namespace Go.Proofs.YtlhfdhmmdnkojaaGreatDoor
open Go.ChangeShapes Go.WideShapes Go.RowKit Go.Joins Go.Deep Go.Lib
set_option maxRecDepth 100000
theorem cellsG : Tryz.prog.cellsOf 31 = 7 := by kernel_rfl
section
variable {H : Type} {enc : TypeId × Value → H} {w : World} {base : Nat} {spare : Nat → Bool} {held : Bool}
end
end Go.Proofs.YtlhfdhmmdnkojaaGreatDoor
namespace Go.Proofs.YtlhfdhmmdnkojaaGreatDoor
open Go.ChangeShapes Go.WideShapes Go.RowKit Go.Joins Go.Deep Go.Lib
set_option maxRecDepth 100000
theorem cellsE : Tryz.prog.cellsOf 33 = 12 := by kernel_rfl
theorem cellsR : Tryz.prog.cellsOf 24 = 1 := by kernel_rfl
section
variable {H : Type} {enc : TypeId × Value → H} {w : World} {base : Nat} {spare : Nat → Bool} {held : Bool}
theorem rvals_in {fuel : Nat} {cs : List Value} {x : DataW H × List MemPlace} (h : DataW.trod enc Tryz.prog w base spare held fuel 24 cs = some x) (hl : Lite 24 x.1) :
    ∃ (A : Option Addr) (len cap : Nat) (L : List Vl), cs = [.slice A len cap] ∧ L.length = len ∧ len ≤ cap ∧ cap ≤ maxLen ∧ VRow w A L ∧ ∀ v ∈ L, v.fits := by
  rcases open_slice Tryz.underlying24 h with ⟨hcs, _⟩ | ⟨a, len, cap, m, n, D, Pl, hcs, _, hlc, hcm, hm, hx, hel⟩
  · exact ⟨none, 0, 0, [], hcs, rfl, Nat.le_refl _, Nat.zero_le _, fun h => absurd rfl h, fun _ h => by cases h⟩
  · have hlm : len ≤ m := by rw [hm]; split <;> omega
    have hv : ∀ i, i < len → ∃ v : Vl, v.fits ∧ ∀ j (hj : j < 3), w.cell? (a.add (i * 3 + j)) = v.cells[j]? := by
      intro i hi
      obtain ⟨cs', hc, ht⟩ := hel i (by omega)
      rw [cellsV] at hc
      obtain ⟨_, _, hat⟩ := World.cells?_some hc
      obtain ⟨v, e, hfit⟩ := val_in ht (fun n hn => hl n (by
        rw [hx]
        simp only [DataW.weights, Tryz.underlying24]
        refine List.mem_cons_of_mem _ (List.mem_append_left _ (weights_in (d := D i) ?_ n hn))
        exact List.mem_map.2 ⟨i, List.mem_range.2 hi, rfl⟩))
      refine ⟨v, hfit, fun j hj => ?_⟩
      rw [← Go.Deep.add_add, hat j hj, e]
    have hL : ∃ L : List Vl, L.length = len ∧ (∀ v ∈ L, v.fits) ∧ ∀ i (hi : i < L.length), ∀ j, j < 3 → w.cell? (a.add (i * 3 + j)) = L[i].cells[j]? := by
      clear hx hel hm hlc hlm hcs
      induction len with
      | zero => exact ⟨[], rfl, fun _ h => (by cases h), fun i hi => absurd hi (by simp)⟩
      | succ len ih =>
        obtain ⟨L, h1, h2, h3⟩ := ih (fun i hi => hv i (by omega))
        obtain ⟨v, h4, h5⟩ := hv len (by omega)
        refine ⟨L ++ [v], by simp [h1], fun u hu => ?_, fun i hi j hj => ?_⟩
        · rcases List.mem_append.1 hu with h | h
          · exact h2 u h
          · rw [List.mem_singleton.1 h]; exact h4
        · by_cases hil : i < L.length
          · rw [List.getElem_append_left hil]; exact h3 i hil j hj
          · have e : i = len := by simp at hi; omega
            subst e
            rw [List.getElem_append_right (by omega)]
            simp only [h1, Nat.sub_self, List.getElem_cons_zero]
            exact h5 j hj
    obtain ⟨L, h1, h2, h3⟩ := hL
    refine ⟨some a, len, cap, L, hcs, h1, hlc, hcm, fun hne => ?_, h2⟩
    have h0 : 0 < L.length := List.length_pos_iff.2 hne
    obtain ⟨b, off, ha⟩ : ∃ b off, a = ⟨b, off, none⟩ := by
      have := h3 0 h0 0 (by omega)
      obtain ⟨b, off, spot⟩ := a
      have hspot : spot = none := by simpa [Addr.add] using World.cell?_spot this
      exact ⟨b, off, by rw [hspot]⟩
    subst ha
    refine ⟨b, off, rfl, fun i hi => ?_⟩
    have q0 := h3 i hi 0 (by omega)
    have q1 := h3 i hi 1 (by omega)
    have q2 := h3 i hi 2 (by omega)
    rw [Addr.add_lit] at q0 q1 q2
    exact ⟨q0, q1, q2⟩

set_option maxRecDepth 100000 in
theorem chgS_in {fuel : Nat} {cs : List Value} {x : DataW H × List MemPlace} (h : DataW.trod enc Tryz.prog w base spare held fuel 31 cs = some x) (hl : Lite 31 x.1) :
    ∃ (ck : Int) (tn : ByteArray) (A : Option Addr) (len cap : Nat) (L : List Cl) (K : Int) (cl : Cl), cs = [.int .i64 ck, .string tn, .slice A len cap, .int .i64 K, .string cl.nm, .int .i64 cl.k, .bool cl.no] ∧ (L.length = len ∧ len ≤ cap ∧ cap ≤ maxLen ∧ CRow w A L ∧ ∀ v ∈ L, v.fit) ∧ cl.fit ∧ tn.size ≤ 140737488355328 := by
  obtain ⟨xs, n, _, hx, hc, hxl, hf⟩ := DataW.trod_struct Tryz.underlying31 h
  rw [cellsG] at hc
  match cs, hc with
  | [c0, c1, c2, c3, c4, c5, c6], _ =>
    match xs, hxl with
    | [y0, y1, y2, y3], _ =>
      have f0 := hf 0 _ rfl
      have f1 := hf 1 _ rfl
      have f2 := hf 2 _ rfl
      have f3 := hf 3 _ rfl
      simp [cellsI, cellsS, cellsH, cellsC] at f0 f1 f2 f3
      obtain ⟨ck, e0, _, _⟩ := DataW.trod_int Tryz.underlying3 f0
      obtain ⟨tn, e1, ey, _⟩ := DataW.trod_string Tryz.underlying9 f1
      have hsz := hl tn.data.toList.length (by rw [hx]; simp [DataW.weights, Tryz.underlying31, DataW.weightsEach, ey])
      rw [bytes_size] at hsz
      obtain ⟨A, len, cap, L, K, e2, hL, _, _⟩ := sch_in f2 (fun n hn => hl n (by rw [hx]; simp only [DataW.weights, Tryz.underlying31]; simp [DataW.weightsEach]; exact .inr (.inr (.inl hn))))
      obtain ⟨cl, e3, hcl⟩ := col_in f3 (fun n hn => hl n (by rw [hx]; simp only [DataW.weights, Tryz.underlying31]; simp [DataW.weightsEach]; exact .inr (.inr (.inr hn))))
      simp [Cl.cells] at e0 e1 e2 e3
      obtain ⟨e2, e22⟩ := e2
      obtain ⟨e3, e32, e33⟩ := e3
      subst e0 e1 e2 e22 e3 e32 e33
      exact ⟨ck, tn, A, len, cap, L, K, cl, rfl, hL, hcl, reach_le hsz⟩
/-- A row of values that came in. -/
def RowIn (w : World) (A : Option Addr) (n c : Nat) (L : List Vl) : Prop := L.length = n ∧ n ≤ c ∧ c ≤ maxLen ∧ VRow w A L ∧ ∀ v ∈ L, v.fits
set_option maxHeartbeats 1000000 in
theorem evt_in {fuel : Nat} {cs : List Value} {x : DataW H × List MemPlace} (h : DataW.trod enc Tryz.prog w base spare held fuel 33 cs = some x) (hl : Lite 33 x.1) :
    ∃ (ek en : Int) (et : ByteArray) (Ab : Option Addr) (nb cb : Nat) (Lb : List Vl) (Aa : Option Addr) (na ca : Nat) (La : List Vl) (ck : Int) (tn : ByteArray) (A : Option Addr) (len cap : Nat) (L : List Cl) (K : Int) (cl : Cl), cs = [.int .i64 ek, .int .i64 en, .string et, .slice Ab nb cb, .slice Aa na ca, .int .i64 ck, .string tn, .slice A len cap, .int .i64 K, .string cl.nm, .int .i64 cl.k, .bool cl.no] ∧ (-9223372036854775808 ≤ ek ∧ ek ≤ 9223372036854775807) ∧ (-9223372036854775808 ≤ en ∧ en ≤ 9223372036854775807) ∧ RowIn w Ab nb cb Lb ∧ RowIn w Aa na ca La ∧ (L.length = len ∧ len ≤ cap ∧ cap ≤ maxLen ∧ CRow w A L ∧ ∀ v ∈ L, v.fit) ∧ (cl.fit ∧ tn.size ≤ 140737488355328) ∧ et.size ≤ 140737488355328 := by
  obtain ⟨xs, n, _, hx, hc, hxl, hf⟩ := DataW.trod_struct Tryz.underlying33 h
  rw [cellsE] at hc
  match cs, hc with
  | [c0, c1, c2, c3, c4, c5, c6, c7, c8, c9, c10, c11], _ =>
    match xs, hxl with
    | [y0, y1, y2, y3, y4, y5], _ =>
      have f0 := hf 0 _ rfl
      have f1 := hf 1 _ rfl
      have f2 := hf 2 _ rfl
      have f3 := hf 3 _ rfl
      have f4 := hf 4 _ rfl
      have f5 := hf 5 _ rfl
      simp [cellsI, cellsS, cellsR, cellsG] at f0 f1 f2 f3 f4 f5
      obtain ⟨ek, e0, _, hek⟩ := DataW.trod_int Tryz.underlying3 f0
      obtain ⟨en, e1, _, hen⟩ := DataW.trod_int Tryz.underlying3 f1
      obtain ⟨et, e2, ey, _⟩ := DataW.trod_string Tryz.underlying9 f2
      have hsz := hl et.data.toList.length (by rw [hx]; simp [DataW.weights, Tryz.underlying33, DataW.weightsEach, ey])
      rw [bytes_size] at hsz
      obtain ⟨Ab, nb, cb, Lb, e3, hB⟩ := rvals_in f3 (fun n hn => hl n (by rw [hx]; simp only [DataW.weights, Tryz.underlying33]; simp [DataW.weightsEach]; exact .inr (.inr (.inr (.inl hn)))))
      obtain ⟨Aa, na, ca, La, e4, hA⟩ := rvals_in f4 (fun n hn => hl n (by rw [hx]; simp only [DataW.weights, Tryz.underlying33]; simp [DataW.weightsEach]; exact .inr (.inr (.inr (.inr (.inl hn))))))
      obtain ⟨ck, tn, A, len, cap, L, K, cl, e5, hL, hcl⟩ := chgS_in f5 (fun n hn => hl n (by rw [hx]; simp only [DataW.weights, Tryz.underlying33]; simp [DataW.weightsEach]; exact .inr (.inr (.inr (.inr (.inr hn))))))
      simp at e0 e1 e2 e3 e4 e5
      obtain ⟨e5, e6, e7, e8, e9, e10, e11⟩ := e5
      subst e0 e1 e2 e3 e4 e5 e6 e7 e8 e9 e10 e11
      exact ⟨ek, en, et, Ab, nb, cb, Lb, Aa, na, ca, La, ck, tn, A, len, cap, L, K, cl, rfl, bounds_int hek, bounds_int hen, hB, hA, hL, hcl, reach_le hsz⟩
end
end Go.Proofs.YtlhfdhmmdnkojaaGreatDoor
namespace Go.Proofs.YtlhfdhmmdnkojaaGreatDoor
open Go.ChangeShapes Go.WideShapes Go.RowKit Go.Joins Go.Deep Go.Lib
set_option maxRecDepth 100000
def Tb.cells (x : Tb) : List Value := [.string x.nm, .slice x.A x.n x.c, .int .i64 x.K]
section
variable {H : Type} {enc : TypeId × Value → H} {w : World} {base : Nat} {spare : Nat → Bool} {held : Bool}
end
end Go.Proofs.YtlhfdhmmdnkojaaGreatDoor
namespace Go.Proofs.YtlhfdhmmdnkojaaGreatDoor
open Go.ChangeShapes Go.WideShapes Go.RowKit Go.Joins Go.Deep Go.Lib
set_option maxRecDepth 100000
set_option linter.unusedVariables false
set_option linter.unusedSimpArgs false
section
variable {H : Type} {enc : TypeId × Value → H} {w : World} {base : Nat} {spare : Nat → Bool} {held : Bool}
theorem slice_few {t e : TypeId} {z : Nat} {fuel : Nat} {cs : List Value} {x : DataW H × List MemPlace} (ht : Tryz.prog.underlying t = some (.slice e)) (hb : Tryz.prog.bytesOf e = z) (h : DataW.trod enc Tryz.prog w base spare held fuel t cs = some x) (hl : Lite t x.1) {A : Option Addr} {n c : Nat} (hcs : cs = [.slice A n c]) : n * z ≤ 140737488355328 ∧ (A = none → c = 0) := by
  rcases open_slice ht h with ⟨hc, _⟩ | ⟨a, len, cap, m, k, D, Pl, hc, _, hlc, hcm, hm, hx, hel⟩
  · rw [hc] at hcs
    injection hcs with hcs
    injection hcs with e1 e2 e3
    subst e1 e2 e3
    exact ⟨by simp, fun _ => rfl⟩
  · rw [hc] at hcs
    injection hcs with hcs
    injection hcs with e1 e2 e3
    subst e1 e2 e3
    have q := reach_le (hl ((len + (m - len)) * z) (by
      rw [hx]
      simp only [DataW.weights, ht, hb, List.length_map, List.length_range]
      exact List.mem_cons_self))
    refine ⟨Nat.le_trans (Nat.mul_le_mul_right _ (by omega)) q, fun e => by cases e⟩
theorem bytesV : Tryz.prog.bytesOf 113 = 32 := by kernel_rfl
theorem bytesC : Tryz.prog.bytesOf 29 = 32 := by kernel_rfl
theorem chg_few {fuel : Nat} {cs : List Value} {x : DataW H × List MemPlace} (h : DataW.trod enc Tryz.prog w base spare held fuel 31 cs = some x) (hl : Lite 31 x.1) {c0 c1 c3 c4 c5 c6 : Value} {A : Option Addr} {n c : Nat} (hcs : cs = [c0, c1, .slice A n c, c3, c4, c5, c6]) : n * 32 ≤ 140737488355328 ∧ (A = none → c = 0) := by
  obtain ⟨xs, n', _, hx, hc, hxl, hf⟩ := DataW.trod_struct Tryz.underlying31 h
  match xs, hxl with
  | [y0, y1, y2, y3], _ =>
    have f2 := hf 2 _ rfl
    simp [cellsI, cellsS, cellsH, cellsC, hcs] at f2
    have l2 : Lite 27 y2.1 := fun n hn => hl n (by rw [hx]; simp only [DataW.weights, Tryz.underlying31]; simp [DataW.weightsEach]; exact .inr (.inr (.inl hn)))
    obtain ⟨zs, n2, _, hx2, hc2, hxl2, hf2⟩ := DataW.trod_struct Tryz.underlying27 f2
    match zs, hxl2 with
    | [z0, z1], _ =>
      have g0 := hf2 0 _ rfl
      simp [cellsI, cellsL] at g0
      exact slice_few Tryz.underlying25 bytesC g0 (fun n hn => l2 n (by rw [hx2]; simp only [DataW.weights, Tryz.underlying27]; simp [DataW.weightsEach]; exact .inl hn)) rfl
/-- A row of values that came in, with its bounds. -/
def RowI (w : World) (A : Option Addr) (n c : Nat) (L : List Vl) : Prop := RowIn w A n c L ∧ n ≤ 4398046511104 ∧ (A = none → c = 0)
/-- Columns that came in, with their bounds. -/
def ColI (w : World) (A : Option Addr) (n c : Nat) (L : List Cl) : Prop := (L.length = n ∧ n ≤ c ∧ c ≤ maxLen ∧ CRow w A L ∧ ∀ v ∈ L, v.fit) ∧ n ≤ 4398046511104 ∧ (A = none → c = 0)
theorem RowI.below {w w' : World} {A : Option Addr} {n c : Nat} {L : List Vl} (h : RowI w A n c L) (hb : Below w.heap.size w w') : RowI w' A n c L := ⟨⟨h.1.1, h.1.2.1, h.1.2.2.1, h.1.2.2.2.1.below hb, h.1.2.2.2.2⟩, h.2⟩
theorem ColI.below {w w' : World} {A : Option Addr} {n c : Nat} {L : List Cl} (h : ColI w A n c L) (hb : Below w.heap.size w w') : ColI w' A n c L := ⟨⟨h.1.1, h.1.2.1, h.1.2.2.1, h.1.2.2.2.1.below hb, h.1.2.2.2.2⟩, h.2⟩
/-- An event as it came in. -/
structure Ei where
  x : Ev
  Ab : Option Addr
  nb : Nat
  zb : Nat
  Aa : Option Addr
  na : Nat
  za : Nat
  A : Option Addr
  n : Nat
  c : Nat
def Ei.row (r : Ei) : List Value := [.int .i64 r.x.k, .int .i64 r.x.n, .string r.x.t, .slice r.Ab r.nb r.zb, .slice r.Aa r.na r.za, .int .i64 r.x.ck, .string r.x.ct, .slice r.A r.n r.c, .int .i64 r.x.K, .string r.x.cl.nm, .int .i64 r.x.cl.k, .bool r.x.cl.no]
structure Ei.arg (w : World) (r : Ei) : Prop where
  k : -9223372036854775808 ≤ r.x.k ∧ r.x.k ≤ 9223372036854775807
  n : -9223372036854775808 ≤ r.x.n ∧ r.x.n ≤ 9223372036854775807
  b : RowI w r.Ab r.nb r.zb r.x.B
  a : RowI w r.Aa r.na r.za r.x.A
  c : ColI w r.A r.n r.c r.x.L
  cl : r.x.cl.fit ∧ r.x.ct.size ≤ 140737488355328
  t : r.x.t.size ≤ 140737488355328
theorem Ei.arg.below {w w' : World} {r : Ei} (h : r.arg w) (hb : Below w.heap.size w w') : r.arg w' := ⟨h.k, h.n, h.b.below hb, h.a.below hb, h.c.below hb, h.cl, h.t⟩
set_option maxHeartbeats 1000000 in
theorem ei_of {fuel : Nat} {cs : List Value} {x : DataW H × List MemPlace} (h : DataW.trod enc Tryz.prog w base spare held fuel 33 cs = some x) (hl : Lite 33 x.1) :
    ∃ r : Ei, cs = r.row ∧ r.arg w := by
  obtain ⟨ek, en, et, Ab, nb, cb, Lb, Aa, na, ca, La, ck, tn, A, len, cap, L, K, cl, e, hek, hen, hB, hA, hL, hcl, het⟩ := evt_in h hl
  obtain ⟨xs, k, _, hx, hc, hxl, hf⟩ := DataW.trod_struct Tryz.underlying33 h
  subst e
  match xs, hxl with
  | [y0, y1, y2, y3, y4, y5], _ =>
    have f3 := hf 3 _ rfl
    have f4 := hf 4 _ rfl
    have f5 := hf 5 _ rfl
    simp [cellsI, cellsS, cellsR, cellsG] at f3 f4 f5
    have q3 := slice_few Tryz.underlying24 bytesV f3 (fun n hn => hl n (by rw [hx]; simp only [DataW.weights, Tryz.underlying33]; simp [DataW.weightsEach]; exact .inr (.inr (.inr (.inl hn))))) rfl
    have q4 := slice_few Tryz.underlying24 bytesV f4 (fun n hn => hl n (by rw [hx]; simp only [DataW.weights, Tryz.underlying33]; simp [DataW.weightsEach]; exact .inr (.inr (.inr (.inr (.inl hn)))))) rfl
    have q5 := chg_few f5 (fun n hn => hl n (by rw [hx]; simp only [DataW.weights, Tryz.underlying33]; simp [DataW.weightsEach]; exact .inr (.inr (.inr (.inr (.inr hn)))))) rfl
    exact ⟨⟨⟨ek, en, et, Lb, La, ck, tn, L, K, cl⟩, Ab, nb, cb, Aa, na, ca, A, len, cap⟩, rfl, hek, hen, ⟨hB, by have := q3.1; show nb ≤ _; omega, q3.2⟩, ⟨hA, by have := q4.1; show na ≤ _; omega, q4.2⟩, ⟨hL, by have := q5.1; show len ≤ _; omega, q5.2⟩, hcl, het⟩
structure Gr.arg (w : World) (r : Gr) : Prop where
  k : -9223372036854775808 ≤ r.x.k ∧ r.x.k ≤ 9223372036854775807
  a : RowI w r.Ar r.nr r.zr r.x.R
  c : ColI w r.A r.n r.c r.x.L
  cl : r.x.cl.fit ∧ r.x.ct.size ≤ 140737488355328
  t : r.x.t.size ≤ 140737488355328
theorem Gr.arg.below {w w' : World} {r : Gr} (h : r.arg w) (hb : Below w.heap.size w w') : r.arg w' := ⟨h.k, h.a.below hb, h.c.below hb, h.cl, h.t⟩
theorem ei_in {r : Reach} {b0 : Nat} {v : Value} {d : DataW H} {p : List MemPlace} (hv : Value.okWide Tryz.prog w r b0 33 v) (h : DataW.Trod enc Tryz.prog w base spare held 33 v d p) (hl : Lite 33 d) :
    ∃ r : Ei, v = .agg #[.int .i64 r.x.k, .int .i64 r.x.n, .string r.x.t, .slice r.Ab r.nb r.zb, .slice r.Aa r.na r.za, .int .i64 r.x.ck, .string r.x.ct, .slice r.A r.n r.c, .int .i64 r.x.K, .string r.x.cl.nm, .int .i64 r.x.cl.k, .bool r.x.cl.no] ∧ r.arg w := by
  obtain ⟨fuel, hf⟩ := h
  obtain ⟨cs, rfl, hsz⟩ := okWide_struct Tryz.underlying33 hv
  obtain ⟨x, e, hx⟩ := ei_of hf hl
  rw [cells_agg] at e
  refine ⟨x, ?_, hx⟩
  have : cs = x.row.toArray := by rw [← e]
  rw [this]
  rfl
end
end Go.Proofs.YtlhfdhmmdnkojaaGreatDoor
namespace Go.Proofs.YtlhfdhmmdnkojaaGreatDoor
open Go.RowKit Go.Maps Dg
set_option maxRecDepth 100000
set_option linter.unusedVariables false
def Wd.cut (x : Wd) : Wd := ⟨x.k, to40 x.t, x.R, x.ck, to40 x.ct, x.L.take 20, x.K, ⟨to40 x.cl.nm, x.cl.k, x.cl.no⟩⟩
def Gr.cut (r : Gr) : Gr := ⟨r.x.cut, r.Ar, r.nr, r.zr, r.A, min r.n 20, r.c⟩
theorem CRow.take14 {w : World} {A : Option Addr} {L : List Cl} (h : CRow w A L) (k : Nat) : CRow w A (L.take k) := fun hne => by
  obtain ⟨b, off, e, hc⟩ := h (by intro e; rw [e] at hne; simp at hne)
  refine ⟨b, off, e, fun i hi => ?_⟩
  rw [List.length_take] at hi
  have := hc i (by omega)
  simpa [List.getElem_take] using this
theorem Gr.cut_ok {w : World} {r : Gr} (h : r.arg w) : r.cut.ok w := by
  obtain ⟨⟨h1, h2, h3, h4, h5⟩, h6, h7⟩ := h.a
  obtain ⟨⟨k1, k2, k3, k4, k5⟩, k6, k7⟩ := h.c
  refine ⟨⟨h1, h6, h4⟩, ⟨?_, ?_, k4.take14 20⟩⟩
  · show (r.x.L.take 20).length = min r.n 20
    rw [List.length_take, k1]; omega
  · show min r.n 20 ≤ 1000; omega
def fewG (T : List Gr) (k : Nat) : List Gr := (T.take k).map Gr.cut
theorem fewG_succ (T : List Gr) (k : Nat) (h : k < T.length) : fewG T (k + 1) = fewG T k ++ [T[k].cut] := by
  unfold fewG; rw [List.take_succ_eq_append_getElem h, List.map_append]; rfl
theorem fewG_len (T : List Gr) (k : Nat) : (fewG T k).length ≤ k := by unfold fewG; rw [List.length_map, List.length_take]; omega
theorem fewG_all (T : List Gr) (k : Nat) (h : T.length = k) (h12 : k ≤ 12) : fewG T k = fewG T 12 := by
  unfold fewG; rw [List.take_of_length_le (by omega), List.take_of_length_le (by omega)]
set_option maxHeartbeats 8000000 in
theorem few14_any (A : Option Addr) (n c : Nat) (L : List Gr) (w : World) (hn : L.length = n) (hA : GRow w A L) (ha : ∀ r ∈ L, r.arg w) :
    Calls Tryz.prog 29 #[.slice A n c] w fun e w' => ∃ v, e = .returned v ∧ Hid (OwnG w.heap.size w' v (fewG L 12)) ∧ Hid (Below w.heap.size w w') := by
  have HN := Lib.hid hn
  have HA := Lib.hid hA
  have HG := Lib.hid ha
  clear hn hA ha
  go_enter Tryz.func29, Tryz.ntmps29
  go_wp2_with fail
  go_loopw [3, 4] (fun g i wr => ∃ (k : Nat) (u : Value), k ≤ n ∧ k ≤ 12 ∧ i = .int .i64 k ∧ u = g ∧ Hid (OwnG w.heap.size wr u (fewG L k)) ∧ Hid (Below w.heap.size w wr)) (fun _ i _ => 12 - (intOf i).toNat)
  case atStart => exact ⟨0, _, by omega, by omega, rfl, rfl, ownG_nil _ _, Below.refl _ _⟩
  case round =>
    obtain ⟨k, u, hk, hk12, rfl, rfl, HO, HB⟩ := hrel
    by_cases hlt : k < n
    · by_cases h12 : k < 12
      · have hkl : k < L.length := by rw [HN.out]; exact hlt
        obtain ⟨b, off, rfl, hcc⟩ := (HA.out.below HB.out) (by intro e; rw [e] at hkl; simp at hkl)
        have hc := hcc k hkl
        clear hcc
        have ha := Lib.hid ((HG.out _ (List.getElem_mem hkl)).below HB.out)
        have HS := Lib.hid (fewG_succ L k hkl)
        have HLE := Lib.hid (fewG_len L k)
        have hkz : (k : Int) < (n : Int) := by omega
        have hkz12 : (k : Int) < 12 := by omega
        generalize L[k] = r at *
        obtain ⟨⟨rk, rt, rR, rck, rct, rL, rK, ⟨rcn, rcq, rcb⟩⟩, rAr, rnr, rzr, rA, rn, rc⟩ := r
        have x0 : wr.cell? ⟨b, off + k * 10, none⟩ = some (.int .i64 rk) := hc 0 (by omega)
        have x1 : wr.cell? ⟨b, off + k * 10 + 1, none⟩ = some (.string rt) := hc 1 (by omega)
        have x2 : wr.cell? ⟨b, off + k * 10 + 2, none⟩ = some (.slice rAr rnr rzr) := hc 2 (by omega)
        have x3 : wr.cell? ⟨b, off + k * 10 + 3, none⟩ = some (.int .i64 rck) := hc 3 (by omega)
        have x4 : wr.cell? ⟨b, off + k * 10 + 4, none⟩ = some (.string rct) := hc 4 (by omega)
        have x5 : wr.cell? ⟨b, off + k * 10 + 5, none⟩ = some (.slice rA rn rc) := hc 5 (by omega)
        have x6 : wr.cell? ⟨b, off + k * 10 + 6, none⟩ = some (.int .i64 rK) := hc 6 (by omega)
        have x7 : wr.cell? ⟨b, off + k * 10 + 7, none⟩ = some (.string rcn) := hc 7 (by omega)
        have x8 : wr.cell? ⟨b, off + k * 10 + 8, none⟩ = some (.int .i64 rcq) := hc 8 (by omega)
        have x9 : wr.cell? ⟨b, off + k * 10 + 9, none⟩ = some (.bool rcb) := hc 9 (by omega)
        clear hc
        generalize fewG L k = M at *
        have hxl : rn ≤ rc ∧ rc ≤ maxLen ∧ rct.size ≤ 140737488355328 ∧ rcn.size ≤ 140737488355328 ∧ rt.size ≤ 140737488355328 := ⟨ha.out.c.1.2.1, ha.out.c.1.2.2.1, ha.out.cl.2, ha.out.cl.1.1, ha.out.t⟩
        obtain ⟨q1, q2, q3, q4, q5⟩ := hxl
        go_wp2_with fail
        refine (cut14_is rck rct rA rn rc rK rcn rcq rcb _ q1 q2 q3 q4).mono ?_
        rintro e w1 ⟨rfl, hw1⟩
        subst hw1
        have e40 : rt.extract 0 (min (rt.size : Int) 40).toNat = to40 rt := by unfold to40; congr 1; omega
        unfold Gr.cut Wd.cut at HS
        dsimp only at HS
        rw [← e40] at HS
        clear e40
        generalize to40 rct = sct at *
        generalize to40 rcn = scn at *
        obtain ⟨rm, hrm⟩ : ∃ m, min rn 20 = m := ⟨_, rfl⟩
        rw [hrm] at HS ⊢
        clear hrm
        have hW3 : Below wr.heap.size wr (((wr.alloc (.cells #[.int .i64 rk, .string (rt.extract 0 (min (rt.size : Int) 40).toNat), .slice rAr rnr rzr, .int .i64 rck, .string sct, .slice rA rm rc, .int .i64 rK, .string scn, .int .i64 rcq, .bool rcb] 51)).alloc (.cells #[.int .i64 rck, .string sct, .slice rA rm rc, .int .i64 rK, .string scn, .int .i64 rcq, .bool rcb] 31)).alloc (.cells #[.int .i64 rck, .string sct, .slice rA rm rc, .int .i64 rK, .string scn, .int .i64 rcq, .bool rcb] 31)) := (((Below.refl _ wr).alloc (Nat.le_refl _) _).alloc (by simp) _).alloc (by simp; omega) _
        obtain ⟨R, W4, hrun, ho4, ht4, _⟩ := appG (((wr.alloc (.cells #[.int .i64 rk, .string (rt.extract 0 (min (rt.size : Int) 40).toNat), .slice rAr rnr rzr, .int .i64 rck, .string sct, .slice rA rm rc, .int .i64 rK, .string scn, .int .i64 rcq, .bool rcb] 51)).alloc (.cells #[.int .i64 rck, .string sct, .slice rA rm rc, .int .i64 rK, .string scn, .int .i64 rcq, .bool rcb] 31)).alloc (.cells #[.int .i64 rck, .string sct, .slice rA rm rc, .int .i64 rK, .string scn, .int .i64 rcq, .bool rcb] 31)) ((((wr.alloc (.cells #[.int .i64 rk, .string (rt.extract 0 (min (rt.size : Int) 40).toNat), .slice rAr rnr rzr, .int .i64 rck, .string sct, .slice rA rm rc, .int .i64 rK, .string scn, .int .i64 rcq, .bool rcb] 51)).alloc (.cells #[.int .i64 rck, .string sct, .slice rA rm rc, .int .i64 rK, .string scn, .int .i64 rcq, .bool rcb] 31)).alloc (.cells #[.int .i64 rck, .string sct, .slice rA rm rc, .int .i64 rK, .string scn, .int .i64 rcq, .bool rcb] 31))).heap.size rfl w.heap.size u M ⟨⟨rk, rt.extract 0 (min (rt.size : Int) 40).toNat, rR, rck, sct, rL.take 20, rK, ⟨scn, rcq, rcb⟩⟩, rAr, rnr, rzr, rA, rm, rc⟩ (HO.out.below hW3) (Nat.le_trans HB.out.size hW3.size) (by have := HLE.out; omega)
        have hgs : ((((wr.alloc (.cells #[.int .i64 rk, .string (rt.extract 0 (min (rt.size : Int) 40).toNat), .slice rAr rnr rzr, .int .i64 rck, .string sct, .slice rA rm rc, .int .i64 rK, .string scn, .int .i64 rcq, .bool rcb] 51)).alloc (.cells #[.int .i64 rck, .string sct, .slice rA rm rc, .int .i64 rK, .string scn, .int .i64 rcq, .bool rcb] 31)).alloc (.cells #[.int .i64 rck, .string sct, .slice rA rm rc, .int .i64 rK, .string scn, .int .i64 rcq, .bool rcb] 31))).heap.size = wr.heap.size + 1 + 1 + 1 := by simp
        rw [hgs] at hrun
        have HB4 := Lib.hid (HB.out.trans ((hW3.mono HB.out.size).trans (ht4.below (B := w.heap.size) (fun q hq => by exact (World.ownsRow.lt HO.out q (by simpa using hq)).1) (Nat.le_trans HB.out.size hW3.size))))
        have HO4 := Lib.hid ho4
        clear ho4 ht4 hgs hW3
        go_wp2_with (at_builtin; refine wpList_app rfl _ _ 55 55 rfl u (.slice (some ⟨wr.heap.size + 1 + 1 + 1, 0, none⟩) 1 1) rfl rfl ⟨R, W4, hrun, ?_⟩)
        go_roundw
        case rel => exact ⟨k + 1, _, by omega, by omega, by go_num, rfl, by rw [HS.out]; exact HO4.out, HB4⟩
        case measure => simp [intOf]; omega
      · obtain rfl : k = 12 := by omega
        have hkz : (12 : Int) < (n : Int) := by omega
        go_wp2_with fail
        go_ret
        exact ⟨_, rfl, HO, HB⟩
    · obtain rfl : k = n := by omega
      have HE := Lib.hid (fewG_all L k HN.out hk12)
      go_wp2_with fail
      go_ret
      exact ⟨_, rfl, by rw [← HE.out]; exact HO.out, HB⟩
end Go.Proofs.YtlhfdhmmdnkojaaGreatDoor
