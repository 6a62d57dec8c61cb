/-
  Put together, as far as it is used: WRight, FewW, RAdd, GdM, RVals, RGood, NextW, PtM, RPoint.
-/
import Derived.Test.YtlhfdhmmdnkojaaGreatDoorEab
import Derived.Lib.ValidLaws
import Derived.Deep.RegionHeld3
import Derived.Deep.QuietTactic
import Derived.BigQuiet
import Derived.Laws.ResultCell
namespace Go.Proofs.YtlhfdhmmdnkojaaGreatDoor
open Go.RowKit Dg
set_option maxRecDepth 100000
/-- May a work be, whatever stands beside it? -/
def mayW (x : Wk) : Bool := nameF x.t && (x.k.size == 0 || (!x.d && isKeyB x.k))
/-- May the i-th of the works stand where it stands? -/
def wokAt (T : List Wk) (i : Nat) : Bool := match T[i]? with
  | none => true
  | some x => mayW x && (decide (i = 0) || match T[i - 1]? with | none => true | some y => Op.bytesLess y.t.toList x.t.toList)
def wrightTo (T : List Wk) (k : Nat) : Bool := (List.range k).all (wokAt T)
/-- May works be? -/
def wrightF (T : List Wk) : Bool := wrightTo T T.length
theorem wrightTo_succ (T : List Wk) (k : Nat) : wrightTo T (k + 1) = (wrightTo T k && wokAt T k) := by
  unfold wrightTo; rw [List.range_succ, List.all_append]; simp
theorem wrightTo_false (T : List Wk) (k n : Nat) (hk : k < n) (h : wokAt T k = false) : wrightTo T n = false := by
  unfold wrightTo; rw [List.all_eq_false]
  exact ⟨k, List.mem_range.2 hk, by simp [h]⟩
theorem wokAt_first (T : List Wk) (h : 0 < T.length) : wokAt T 0 = mayW T[0] := by
  unfold wokAt; rw [List.getElem?_eq_getElem h]; simp
theorem wokAt_next (T : List Wk) (k : Nat) (h : k < T.length) (h0 : 0 < k) : wokAt T k = (mayW T[k] && Op.bytesLess (T[k - 1]'(by omega)).t.toList T[k].t.toList) := by
  unfold wokAt; rw [List.getElem?_eq_getElem h, List.getElem?_eq_getElem (show k - 1 < T.length by omega)]
  simp only [decide_eq_false (show ¬ k = 0 by omega), Bool.false_or]
theorem wpartS (xs : Array Value) (i : Nat) (v : Value) (h : xs[i]? = some v) (w : World) : (part 9 xs i).run Tryz.prog w = .ok v w := by
  unfold part
  simp [Sem.run_bind, Tryz.isAgg9, h]
theorem wpartB (xs : Array Value) (i : Nat) (v : Value) (h : xs[i]? = some v) (w : World) : (part 4 xs i).run Tryz.prog w = .ok v w := by
  unfold part
  simp [Sem.run_bind, Tryz.isAgg4, h]
theorem eqW (t t' k k' : ByteArray) (d d' : Bool) (w : World) : (Op.equalIn 10000 143 (.agg #[.string t, .bool d, .string k]) (.agg #[.string t', .bool d', .string k'])).run Tryz.prog w = .ok (t.toList == t'.toList && d == d' && k.toList == k'.toList) w := by
  have es := fun (a b : ByteArray) (w : World) => run_equalIn_string (P := Tryz.prog) w 9998 9 a b Tryz.underlying9
  have eb := fun (a b : Bool) (w : World) => run_equalIn_bool (P := Tryz.prog) w 9998 4 a b Tryz.underlying4
  have p0 := fun (x0 x1 x2 : Value) => wpartS #[x0, x1, x2] 0 x0 rfl
  have p1 := fun (x0 x1 x2 : Value) => wpartB #[x0, x1, x2] 1 x1 rfl
  have p2 := fun (x0 x1 x2 : Value) => wpartS #[x0, x1, x2] 2 x2 rfl
  rw [show (10000 : Nat) = 9999 + 1 by rfl, run_equalIn_agg w 9999 143 _ _ (by kernel_rfl) (by kernel_rfl)]
  unfold Program.fieldsOf
  rw [Tryz.underlying143]
  by_cases h0 : t.toList = t'.toList <;> by_cases h1 : d = d' <;> by_cases h2 : k.toList = k'.toList <;>
  simp [Op.eqFields, Sem.run_bind, Result.andThen, p0, p1, p2, es, eb, h0, h1, h2]
theorem empty_of {s : ByteArray} (h : s.size = 0) : s = ⟨#[]⟩ := by
  obtain ⟨a⟩ := s
  have : a = #[] := Array.eq_empty_of_size_eq_zero h
  rw [this]
set_option maxHeartbeats 4000000 in
theorem pmayW_any (t k : ByteArray) (d : Bool) (w : World) (ht : t.size ≤ 140737488355328) (hk : k.size ≤ 900) (hT : Tabs w) :
    Calls Tryz.prog 180 #[.agg #[.string t, .bool d, .string k]] w fun e w' => e = .returned (.bool (mayW ⟨t, d, k⟩)) ∧ Hid (Below w.heap.size w w') := by
  have eq := eqW
  have HB := Lib.hid ((Below.refl w.heap.size w).alloc (Nat.le_refl _) (.cells #[.string t, .bool d, .string k] 143))
  have HX := Lib.hid (Has.new w 143 #[.string t, .bool d, .string k])
  have HNM := Lib.hid (fun W => name_any t W ht)
  have HKEY := Lib.hid (fun W hW => yisKey_any k W hk hW)
  have HT := Lib.hid hT
  have HM : Hid (mayW ⟨t, d, k⟩ = (nameF t && (k.size == 0 || (!d && isKeyB k)))) := rfl
  obtain ⟨m, hm⟩ : ∃ m, mayW ⟨t, d, k⟩ = m := ⟨_, rfl⟩
  rw [hm] at HM ⊢
  clear hm hT hk
  obtain ⟨nf, hnf⟩ : ∃ q, nameF t = q := ⟨_, rfl⟩
  rw [hnf] at HNM HM
  clear hnf
  by_cases hk : k.size = 0
  · obtain rfl := empty_of hk
    clear hk
    cases d
    · go_enter Tryz.func180, Tryz.ntmps180
      go_wp2_with fail
      obtain ⟨v00, hv0⟩ : ∃ W, W = (w.alloc (.cells #[.string t, .bool false, .string ⟨#[]⟩] 143)) := ⟨_, rfl⟩
      rw [← hv0] at HB HX ⊢
      clear hv0
      have x0 := HX.out.cell 0
      simp at x0
      go_wp2_with fail
      refine (HNM.out _).mono ?_
      rintro e v0 ⟨rfl, hb0⟩
      have HB0 : Hid (Below w.heap.size w v0) := HB.out.trans (hb0.out.mono HB.out.size)
      have HX0 := Lib.hid (HX.out.below hb0.out HX.out.lt)
      clear x0 hb0 HX HB
      cases nf
      · go_wp2_with fail
        go_ret
        exact ⟨by rw [HM.out]; rfl, HB0⟩
      · have y0 : v0.cell? ⟨w.heap.size, 0, none⟩ = some (.string t) := HX0.out.cell 0
        have y1 : v0.cell? ⟨w.heap.size, 1, none⟩ = some (.bool false) := HX0.out.cell 1
        have y2 : v0.cell? ⟨w.heap.size, 2, none⟩ = some (.string ⟨#[]⟩) := HX0.out.cell 2
        have hS0 : (fun X : World => Hid (Below v0.heap.size v0 X) ∧ X.cell? ⟨w.heap.size, 0, none⟩ = some (.string t) ∧ X.cell? ⟨w.heap.size, 1, none⟩ = some (.bool false) ∧ X.cell? ⟨w.heap.size, 2, none⟩ = some (.string ⟨#[]⟩)) v0.drew := ⟨(Below.refl _ v0).drew, y0, y1, y2⟩
        go_wp2_with fail
        refine wp_region_held_drew (S := (fun X : World => Hid (Below v0.heap.size v0 X) ∧ X.cell? ⟨w.heap.size, 0, none⟩ = some (.string t) ∧ X.cell? ⟨w.heap.size, 1, none⟩ = some (.bool false) ∧ X.cell? ⟨w.heap.size, 2, none⟩ = some (.string ⟨#[]⟩))) (by kernel_rfl) hS0 (fun _ => ?_)
        (refine wpAnyH_take (i := 0) (v := ?_) rfl (by kernel_rfl) (by kernel_rfl) (by kernel_rfl) (fun _ _ _ h => h) (Or.inl ⟨by rfl, ?_⟩) (by assumption) ?_; rotate_left; (intro w hSw; (try dsimp only at hSw); go_simp; try with_reducible rfl); ((try simp only [List.getElem_toArray]); (try simp only [List.getElem_cons_succ]); (try simp only [List.getElem_cons_zero]); (try simp only [Act.put]); (try simp only [List.setIfInBounds_toArray]); (try simp only [List.set_cons_succ]); (try simp only [List.set_cons_zero])))
        (refine wpAnyH_take (i := 1) (v := ?_) rfl (by kernel_rfl) (by kernel_rfl) (by kernel_rfl) (fun _ _ _ h => h) (Or.inl ⟨by rfl, ?_⟩) (by assumption) ?_; rotate_left; (intro w hSw; (try dsimp only at hSw); go_simp; try with_reducible rfl); ((try simp only [List.getElem_toArray]); (try simp only [List.getElem_cons_succ]); (try simp only [List.getElem_cons_zero]); (try simp only [Act.put]); (try simp only [List.setIfInBounds_toArray]); (try simp only [List.set_cons_succ]); (try simp only [List.set_cons_zero])))
        (refine wpAnyH_take (i := 2) (v := ?_) rfl (by kernel_rfl) (by kernel_rfl) (by kernel_rfl) (fun _ _ _ h => h) (Or.inl ⟨by rfl, ?_⟩) (by assumption) ?_; rotate_left; (intro w hSw; (try dsimp only at hSw); go_simp; try with_reducible rfl); ((try simp only [List.getElem_toArray]); (try simp only [List.getElem_cons_succ]); (try simp only [List.getElem_cons_zero]); (try simp only [Act.put]); (try simp only [List.setIfInBounds_toArray]); (try simp only [List.set_cons_succ]); (try simp only [List.set_cons_zero])))
        refine wpAnyH_ready (rs := [3]) (by kernel_rfl) (by simp) ?_
        refine AllReadyH.cons rfl (fun K2 hK2 => ?_) AllReadyH.nil
        go_simp
        refine (atFirst_any t _).mono ?_
        rintro e x3 ⟨rfl, hb3⟩
        have hS3 : (fun X : World => Hid (Below v0.heap.size v0 X) ∧ X.cell? ⟨w.heap.size, 0, none⟩ = some (.string t) ∧ X.cell? ⟨w.heap.size, 1, none⟩ = some (.bool false) ∧ X.cell? ⟨w.heap.size, 2, none⟩ = some (.string ⟨#[]⟩)) x3 := ⟨(Hid.out (And.left hS0)).trans (hb3.out.mono (Hid.out (And.left hS0)).size), keepW hb3.out hS0.2.1, keepW hb3.out hS0.2.2.1, keepW hb3.out hS0.2.2.2⟩
        go_wp2_with fail
        refine hK2.out _ _ (by (try dsimp only); exact hS3) (fun _ => ?_)
        clear hK2 K2
        (try simp only [List.getElem_toArray]); (try simp only [List.getElem_cons_succ]); (try simp only [List.getElem_cons_zero]); (try simp only [Act.put]); (try simp only [List.setIfInBounds_toArray]); (try simp only [List.set_cons_succ]); (try simp only [List.set_cons_zero])
        (refine wpAnyH_take (i := 4) (v := ?_) rfl (by kernel_rfl) (by kernel_rfl) (by kernel_rfl) (fun _ _ _ h => h) (Or.inl ⟨by rfl, ?_⟩) (by assumption) ?_; rotate_left; (intro w hSw; (try dsimp only at hSw); go_simp; try with_reducible rfl); ((try simp only [List.getElem_toArray]); (try simp only [List.getElem_cons_succ]); (try simp only [List.getElem_cons_zero]); (try simp only [Act.put]); (try simp only [List.setIfInBounds_toArray]); (try simp only [List.set_cons_succ]); (try simp only [List.set_cons_zero])))
        (refine wpAnyH_take (i := 5) (v := ?_) rfl (by kernel_rfl) (by kernel_rfl) (by kernel_rfl) (fun _ _ _ h => h) (Or.inl ⟨by rfl, ?_⟩) (by assumption) ?_; rotate_left; (intro w hSw; (try dsimp only at hSw); go_simp; try with_reducible rfl); ((try simp only [List.getElem_toArray]); (try simp only [List.getElem_cons_succ]); (try simp only [List.getElem_cons_zero]); (try simp only [Act.put]); (try simp only [List.setIfInBounds_toArray]); (try simp only [List.set_cons_succ]); (try simp only [List.set_cons_zero])))
        (refine wpAnyH_take (i := 6) (v := undef) rfl (by kernel_rfl) (by kernel_rfl) (by kernel_rfl) (fun _ _ _ h => h) (Or.inr ⟨by rfl, rfl⟩) (by assumption) ?_; ((try simp only [List.getElem_toArray]); (try simp only [List.getElem_cons_succ]); (try simp only [List.getElem_cons_zero]); (try simp only [Act.put]); (try simp only [List.setIfInBounds_toArray]); (try simp only [List.set_cons_succ]); (try simp only [List.set_cons_zero])))
        (refine wpAnyH_take (i := 7) (v := undef) rfl (by kernel_rfl) (by kernel_rfl) (by kernel_rfl) (fun _ _ _ h => h) (Or.inr ⟨by rfl, rfl⟩) (by assumption) ?_; ((try simp only [List.getElem_toArray]); (try simp only [List.getElem_cons_succ]); (try simp only [List.getElem_cons_zero]); (try simp only [Act.put]); (try simp only [List.setIfInBounds_toArray]); (try simp only [List.set_cons_succ]); (try simp only [List.set_cons_zero])))
        (refine wpAnyH_take (i := 8) (v := undef) rfl (by kernel_rfl) (by kernel_rfl) (by kernel_rfl) (fun _ _ _ h => h) (Or.inr ⟨by rfl, rfl⟩) (by assumption) ?_; ((try simp only [List.getElem_toArray]); (try simp only [List.getElem_cons_succ]); (try simp only [List.getElem_cons_zero]); (try simp only [Act.put]); (try simp only [List.setIfInBounds_toArray]); (try simp only [List.set_cons_succ]); (try simp only [List.set_cons_zero])))
        (refine wpAnyH_take (i := 9) (v := undef) rfl (by kernel_rfl) (by kernel_rfl) (by kernel_rfl) (fun _ _ _ h => h) (Or.inr ⟨by rfl, rfl⟩) (by assumption) ?_; ((try simp only [List.getElem_toArray]); (try simp only [List.getElem_cons_succ]); (try simp only [List.getElem_cons_zero]); (try simp only [Act.put]); (try simp only [List.setIfInBounds_toArray]); (try simp only [List.set_cons_succ]); (try simp only [List.set_cons_zero])))
        (refine wpAnyH_take (i := 10) (v := undef) rfl (by kernel_rfl) (by kernel_rfl) (by kernel_rfl) (fun _ _ _ h => h) (Or.inr ⟨by rfl, rfl⟩) (by assumption) ?_; ((try simp only [List.getElem_toArray]); (try simp only [List.getElem_cons_succ]); (try simp only [List.getElem_cons_zero]); (try simp only [Act.put]); (try simp only [List.setIfInBounds_toArray]); (try simp only [List.set_cons_succ]); (try simp only [List.set_cons_zero])))
        (refine wpAnyH_take (i := 11) (v := ?_) rfl (by kernel_rfl) (by kernel_rfl) (by kernel_rfl) (fun _ _ _ h => h) (Or.inl ⟨by rfl, ?_⟩) (by assumption) ?_; rotate_left; (intro w hSw; (try dsimp only at hSw); go_simp; try with_reducible rfl); ((try simp only [List.getElem_toArray]); (try simp only [List.getElem_cons_succ]); (try simp only [List.getElem_cons_zero]); (try simp only [Act.put]); (try simp only [List.setIfInBounds_toArray]); (try simp only [List.set_cons_succ]); (try simp only [List.set_cons_zero])))
        (refine wpAnyH_take (i := 12) (v := ?_) rfl (by kernel_rfl) (by kernel_rfl) (by kernel_rfl) (fun _ _ _ h => h) (Or.inl ⟨by rfl, ?_⟩) (by assumption) ?_; rotate_left; (intro w hSw; (try dsimp only at hSw); go_simp; try with_reducible rfl); ((try simp only [List.getElem_toArray]); (try simp only [List.getElem_cons_succ]); (try simp only [List.getElem_cons_zero]); (try simp only [Act.put]); (try simp only [List.setIfInBounds_toArray]); (try simp only [List.set_cons_succ]); (try simp only [List.set_cons_zero])))
        (refine wpAnyH_take (i := 13) (v := undef) rfl (by kernel_rfl) (by kernel_rfl) (by kernel_rfl) (fun _ _ _ h => h) (Or.inr ⟨by rfl, rfl⟩) (by assumption) ?_; ((try simp only [List.getElem_toArray]); (try simp only [List.getElem_cons_succ]); (try simp only [List.getElem_cons_zero]); (try simp only [Act.put]); (try simp only [List.setIfInBounds_toArray]); (try simp only [List.set_cons_succ]); (try simp only [List.set_cons_zero])))
        (refine wpAnyH_take (i := 14) (v := undef) rfl (by kernel_rfl) (by kernel_rfl) (by kernel_rfl) (fun _ _ _ h => h) (Or.inr ⟨by rfl, rfl⟩) (by assumption) ?_; ((try simp only [List.getElem_toArray]); (try simp only [List.getElem_cons_succ]); (try simp only [List.getElem_cons_zero]); (try simp only [Act.put]); (try simp only [List.setIfInBounds_toArray]); (try simp only [List.set_cons_succ]); (try simp only [List.set_cons_zero])))
        (refine wpAnyH_take (i := 15) (v := undef) rfl (by kernel_rfl) (by kernel_rfl) (by kernel_rfl) (fun _ _ _ h => h) (Or.inr ⟨by rfl, rfl⟩) (by assumption) ?_; ((try simp only [List.getElem_toArray]); (try simp only [List.getElem_cons_succ]); (try simp only [List.getElem_cons_zero]); (try simp only [Act.put]); (try simp only [List.setIfInBounds_toArray]); (try simp only [List.set_cons_succ]); (try simp only [List.set_cons_zero])))
        (refine wpAnyH_take (i := 16) (v := undef) rfl (by kernel_rfl) (by kernel_rfl) (by kernel_rfl) (fun _ _ _ h => h) (Or.inr ⟨by rfl, rfl⟩) (by assumption) ?_; ((try simp only [List.getElem_toArray]); (try simp only [List.getElem_cons_succ]); (try simp only [List.getElem_cons_zero]); (try simp only [Act.put]); (try simp only [List.setIfInBounds_toArray]); (try simp only [List.set_cons_succ]); (try simp only [List.set_cons_zero])))
        (refine wpAnyH_take (i := 17) (v := undef) rfl (by kernel_rfl) (by kernel_rfl) (by kernel_rfl) (fun _ _ _ h => h) (Or.inr ⟨by rfl, rfl⟩) (by assumption) ?_; ((try simp only [List.getElem_toArray]); (try simp only [List.getElem_cons_succ]); (try simp only [List.getElem_cons_zero]); (try simp only [Act.put]); (try simp only [List.setIfInBounds_toArray]); (try simp only [List.set_cons_succ]); (try simp only [List.set_cons_zero])))
        (refine wpAnyH_take (i := 18) (v := undef) rfl (by kernel_rfl) (by kernel_rfl) (by kernel_rfl) (fun _ _ _ h => h) (Or.inr ⟨by rfl, rfl⟩) (by assumption) ?_; ((try simp only [List.getElem_toArray]); (try simp only [List.getElem_cons_succ]); (try simp only [List.getElem_cons_zero]); (try simp only [Act.put]); (try simp only [List.setIfInBounds_toArray]); (try simp only [List.set_cons_succ]); (try simp only [List.set_cons_zero])))
        (refine wpAnyH_take (i := 19) (v := undef) rfl (by kernel_rfl) (by kernel_rfl) (by kernel_rfl) (fun _ _ _ h => h) (Or.inr ⟨by rfl, rfl⟩) (by assumption) ?_; ((try simp only [List.getElem_toArray]); (try simp only [List.getElem_cons_succ]); (try simp only [List.getElem_cons_zero]); (try simp only [Act.put]); (try simp only [List.setIfInBounds_toArray]); (try simp only [List.set_cons_succ]); (try simp only [List.set_cons_zero])))
        (refine wpAnyH_take (i := 20) (v := undef) rfl (by kernel_rfl) (by kernel_rfl) (by kernel_rfl) (fun _ _ _ h => h) (Or.inr ⟨by rfl, rfl⟩) (by assumption) ?_; ((try simp only [List.getElem_toArray]); (try simp only [List.getElem_cons_succ]); (try simp only [List.getElem_cons_zero]); (try simp only [Act.put]); (try simp only [List.setIfInBounds_toArray]); (try simp only [List.set_cons_succ]); (try simp only [List.set_cons_zero])))
        (refine wpAnyH_take (i := 21) (v := undef) rfl (by kernel_rfl) (by kernel_rfl) (by kernel_rfl) (fun _ _ _ h => h) (Or.inr ⟨by rfl, rfl⟩) (by assumption) ?_; ((try simp only [List.getElem_toArray]); (try simp only [List.getElem_cons_succ]); (try simp only [List.getElem_cons_zero]); (try simp only [Act.put]); (try simp only [List.setIfInBounds_toArray]); (try simp only [List.set_cons_succ]); (try simp only [List.set_cons_zero])))
        (refine wpAnyH_take (i := 22) (v := undef) rfl (by kernel_rfl) (by kernel_rfl) (by kernel_rfl) (fun _ _ _ h => h) (Or.inr ⟨by rfl, rfl⟩) (by assumption) ?_; ((try simp only [List.getElem_toArray]); (try simp only [List.getElem_cons_succ]); (try simp only [List.getElem_cons_zero]); (try simp only [Act.put]); (try simp only [List.setIfInBounds_toArray]); (try simp only [List.set_cons_succ]); (try simp only [List.set_cons_zero])))
        (refine wpAnyH_take (i := 23) (v := undef) rfl (by kernel_rfl) (by kernel_rfl) (by kernel_rfl) (fun _ _ _ h => h) (Or.inr ⟨by rfl, rfl⟩) (by assumption) ?_; ((try simp only [List.getElem_toArray]); (try simp only [List.getElem_cons_succ]); (try simp only [List.getElem_cons_zero]); (try simp only [Act.put]); (try simp only [List.setIfInBounds_toArray]); (try simp only [List.set_cons_succ]); (try simp only [List.set_cons_zero])))
        (refine wpAnyH_take (i := 24) (v := undef) rfl (by kernel_rfl) (by kernel_rfl) (by kernel_rfl) (fun _ _ _ h => h) (Or.inr ⟨by rfl, rfl⟩) (by assumption) ?_; ((try simp only [List.getElem_toArray]); (try simp only [List.getElem_cons_succ]); (try simp only [List.getElem_cons_zero]); (try simp only [Act.put]); (try simp only [List.setIfInBounds_toArray]); (try simp only [List.set_cons_succ]); (try simp only [List.set_cons_zero])))
        (refine wpAnyH_take (i := 25) (v := ?_) rfl (by kernel_rfl) (by kernel_rfl) (by kernel_rfl) (fun _ _ _ h => h) (Or.inl ⟨by rfl, ?_⟩) (by assumption) ?_; rotate_left; (intro w hSw; (try dsimp only at hSw); go_simp; try with_reducible rfl); ((try simp only [List.getElem_toArray]); (try simp only [List.getElem_cons_succ]); (try simp only [List.getElem_cons_zero]); (try simp only [Act.put]); (try simp only [List.setIfInBounds_toArray]); (try simp only [List.set_cons_succ]); (try simp only [List.set_cons_zero])))
        (refine wpAnyH_take (i := 26) (v := ?_) rfl (by kernel_rfl) (by kernel_rfl) (by kernel_rfl) (fun _ _ _ h => h) (Or.inl ⟨by rfl, ?_⟩) (by assumption) ?_; rotate_left; (intro w hSw; (try dsimp only at hSw); go_simp; try with_reducible rfl); ((try simp only [List.getElem_toArray]); (try simp only [List.getElem_cons_succ]); (try simp only [List.getElem_cons_zero]); (try simp only [Act.put]); (try simp only [List.setIfInBounds_toArray]); (try simp only [List.set_cons_succ]); (try simp only [List.set_cons_zero])))
        refine wpAnyH_done (by kernel_rfl) ?_ _
        go_wp2_with fail
        go_ret
        exact ⟨by rw [HM.out]; rfl, HB0.out.trans (Hid.out (And.left hS3) |>.mono HB0.out.size)⟩
    · go_enter Tryz.func180, Tryz.ntmps180
      go_wp2_with fail
      obtain ⟨v00, hv0⟩ : ∃ W, W = (w.alloc (.cells #[.string t, .bool true, .string ⟨#[]⟩] 143)) := ⟨_, rfl⟩
      rw [← hv0] at HB HX ⊢
      clear hv0
      have x0 := HX.out.cell 0
      simp at x0
      go_wp2_with fail
      refine (HNM.out _).mono ?_
      rintro e v0 ⟨rfl, hb0⟩
      have HB0 : Hid (Below w.heap.size w v0) := HB.out.trans (hb0.out.mono HB.out.size)
      have HX0 := Lib.hid (HX.out.below hb0.out HX.out.lt)
      clear x0 hb0 HX HB
      cases nf
      · go_wp2_with fail
        go_ret
        exact ⟨by rw [HM.out]; rfl, HB0⟩
      · have y0 : v0.cell? ⟨w.heap.size, 0, none⟩ = some (.string t) := HX0.out.cell 0
        have y1 : v0.cell? ⟨w.heap.size, 1, none⟩ = some (.bool true) := HX0.out.cell 1
        have y2 : v0.cell? ⟨w.heap.size, 2, none⟩ = some (.string ⟨#[]⟩) := HX0.out.cell 2
        have hS0 : (fun X : World => Hid (Below v0.heap.size v0 X) ∧ X.cell? ⟨w.heap.size, 0, none⟩ = some (.string t) ∧ X.cell? ⟨w.heap.size, 1, none⟩ = some (.bool true) ∧ X.cell? ⟨w.heap.size, 2, none⟩ = some (.string ⟨#[]⟩)) v0.drew := ⟨(Below.refl _ v0).drew, y0, y1, y2⟩
        go_wp2_with fail
        refine wp_region_held_drew (S := (fun X : World => Hid (Below v0.heap.size v0 X) ∧ X.cell? ⟨w.heap.size, 0, none⟩ = some (.string t) ∧ X.cell? ⟨w.heap.size, 1, none⟩ = some (.bool true) ∧ X.cell? ⟨w.heap.size, 2, none⟩ = some (.string ⟨#[]⟩))) (by kernel_rfl) hS0 (fun _ => ?_)
        (refine wpAnyH_take (i := 0) (v := ?_) rfl (by kernel_rfl) (by kernel_rfl) (by kernel_rfl) (fun _ _ _ h => h) (Or.inl ⟨by rfl, ?_⟩) (by assumption) ?_; rotate_left; (intro w hSw; (try dsimp only at hSw); go_simp; try with_reducible rfl); ((try simp only [List.getElem_toArray]); (try simp only [List.getElem_cons_succ]); (try simp only [List.getElem_cons_zero]); (try simp only [Act.put]); (try simp only [List.setIfInBounds_toArray]); (try simp only [List.set_cons_succ]); (try simp only [List.set_cons_zero])))
        (refine wpAnyH_take (i := 1) (v := ?_) rfl (by kernel_rfl) (by kernel_rfl) (by kernel_rfl) (fun _ _ _ h => h) (Or.inl ⟨by rfl, ?_⟩) (by assumption) ?_; rotate_left; (intro w hSw; (try dsimp only at hSw); go_simp; try with_reducible rfl); ((try simp only [List.getElem_toArray]); (try simp only [List.getElem_cons_succ]); (try simp only [List.getElem_cons_zero]); (try simp only [Act.put]); (try simp only [List.setIfInBounds_toArray]); (try simp only [List.set_cons_succ]); (try simp only [List.set_cons_zero])))
        (refine wpAnyH_take (i := 2) (v := ?_) rfl (by kernel_rfl) (by kernel_rfl) (by kernel_rfl) (fun _ _ _ h => h) (Or.inl ⟨by rfl, ?_⟩) (by assumption) ?_; rotate_left; (intro w hSw; (try dsimp only at hSw); go_simp; try with_reducible rfl); ((try simp only [List.getElem_toArray]); (try simp only [List.getElem_cons_succ]); (try simp only [List.getElem_cons_zero]); (try simp only [Act.put]); (try simp only [List.setIfInBounds_toArray]); (try simp only [List.set_cons_succ]); (try simp only [List.set_cons_zero])))
        refine wpAnyH_ready (rs := [3]) (by kernel_rfl) (by simp) ?_
        refine AllReadyH.cons rfl (fun K2 hK2 => ?_) AllReadyH.nil
        go_simp
        refine (atFirst_any t _).mono ?_
        rintro e x3 ⟨rfl, hb3⟩
        have hS3 : (fun X : World => Hid (Below v0.heap.size v0 X) ∧ X.cell? ⟨w.heap.size, 0, none⟩ = some (.string t) ∧ X.cell? ⟨w.heap.size, 1, none⟩ = some (.bool true) ∧ X.cell? ⟨w.heap.size, 2, none⟩ = some (.string ⟨#[]⟩)) x3 := ⟨(Hid.out (And.left hS0)).trans (hb3.out.mono (Hid.out (And.left hS0)).size), keepW hb3.out hS0.2.1, keepW hb3.out hS0.2.2.1, keepW hb3.out hS0.2.2.2⟩
        go_wp2_with fail
        refine hK2.out _ _ (by (try dsimp only); exact hS3) (fun _ => ?_)
        clear hK2 K2
        (try simp only [List.getElem_toArray]); (try simp only [List.getElem_cons_succ]); (try simp only [List.getElem_cons_zero]); (try simp only [Act.put]); (try simp only [List.setIfInBounds_toArray]); (try simp only [List.set_cons_succ]); (try simp only [List.set_cons_zero])
        (refine wpAnyH_take (i := 4) (v := ?_) rfl (by kernel_rfl) (by kernel_rfl) (by kernel_rfl) (fun _ _ _ h => h) (Or.inl ⟨by rfl, ?_⟩) (by assumption) ?_; rotate_left; (intro w hSw; (try dsimp only at hSw); go_simp; try with_reducible rfl); ((try simp only [List.getElem_toArray]); (try simp only [List.getElem_cons_succ]); (try simp only [List.getElem_cons_zero]); (try simp only [Act.put]); (try simp only [List.setIfInBounds_toArray]); (try simp only [List.set_cons_succ]); (try simp only [List.set_cons_zero])))
        (refine wpAnyH_take (i := 5) (v := ?_) rfl (by kernel_rfl) (by kernel_rfl) (by kernel_rfl) (fun _ _ _ h => h) (Or.inl ⟨by rfl, ?_⟩) (by assumption) ?_; rotate_left; (intro w hSw; (try dsimp only at hSw); go_simp; try with_reducible rfl); ((try simp only [List.getElem_toArray]); (try simp only [List.getElem_cons_succ]); (try simp only [List.getElem_cons_zero]); (try simp only [Act.put]); (try simp only [List.setIfInBounds_toArray]); (try simp only [List.set_cons_succ]); (try simp only [List.set_cons_zero])))
        (refine wpAnyH_take (i := 6) (v := ?_) rfl (by kernel_rfl) (by kernel_rfl) (by kernel_rfl) (fun _ _ _ h => h) (Or.inl ⟨by rfl, ?_⟩) (by assumption) ?_; rotate_left; (intro w hSw; (try dsimp only at hSw); go_simp; try with_reducible rfl); ((try simp only [List.getElem_toArray]); (try simp only [List.getElem_cons_succ]); (try simp only [List.getElem_cons_zero]); (try simp only [Act.put]); (try simp only [List.setIfInBounds_toArray]); (try simp only [List.set_cons_succ]); (try simp only [List.set_cons_zero])))
        (refine wpAnyH_take (i := 7) (v := ?_) rfl (by kernel_rfl) (by kernel_rfl) (by kernel_rfl) (fun _ _ _ h => h) (Or.inl ⟨by rfl, ?_⟩) (by assumption) ?_; rotate_left; (intro w hSw; (try dsimp only at hSw); go_simp; try with_reducible rfl); ((try simp only [List.getElem_toArray]); (try simp only [List.getElem_cons_succ]); (try simp only [List.getElem_cons_zero]); (try simp only [Act.put]); (try simp only [List.setIfInBounds_toArray]); (try simp only [List.set_cons_succ]); (try simp only [List.set_cons_zero])))
        (refine wpAnyH_take (i := 8) (v := ?_) rfl (by kernel_rfl) (by kernel_rfl) (by kernel_rfl) (fun _ _ _ h => h) (Or.inl ⟨by rfl, ?_⟩) (by assumption) ?_; rotate_left; (intro w hSw; (try dsimp only at hSw); go_simp; try with_reducible rfl); ((try simp only [List.getElem_toArray]); (try simp only [List.getElem_cons_succ]); (try simp only [List.getElem_cons_zero]); (try simp only [Act.put]); (try simp only [List.setIfInBounds_toArray]); (try simp only [List.set_cons_succ]); (try simp only [List.set_cons_zero])))
        refine wpAnyH_ready (rs := [9]) (by kernel_rfl) (by simp) ?_
        refine AllReadyH.cons rfl (fun K2 hK2 => ?_) AllReadyH.nil
        go_simp
        refine (atEnd_any t _).mono ?_
        rintro e x9 ⟨rfl, hb9⟩
        have hS9 : (fun X : World => Hid (Below v0.heap.size v0 X) ∧ X.cell? ⟨w.heap.size, 0, none⟩ = some (.string t) ∧ X.cell? ⟨w.heap.size, 1, none⟩ = some (.bool true) ∧ X.cell? ⟨w.heap.size, 2, none⟩ = some (.string ⟨#[]⟩)) x9 := ⟨(Hid.out (And.left hS3)).trans (hb9.out.mono (Hid.out (And.left hS3)).size), keepW hb9.out hS3.2.1, keepW hb9.out hS3.2.2.1, keepW hb9.out hS3.2.2.2⟩
        go_wp2_with fail
        refine hK2.out _ _ (by (try dsimp only); exact hS9) (fun _ => ?_)
        clear hK2 K2
        (try simp only [List.getElem_toArray]); (try simp only [List.getElem_cons_succ]); (try simp only [List.getElem_cons_zero]); (try simp only [Act.put]); (try simp only [List.setIfInBounds_toArray]); (try simp only [List.set_cons_succ]); (try simp only [List.set_cons_zero])
        (refine wpAnyH_take (i := 10) (v := ?_) rfl (by kernel_rfl) (by kernel_rfl) (by kernel_rfl) (fun _ _ _ h => h) (Or.inl ⟨by rfl, ?_⟩) (by assumption) ?_; rotate_left; (intro w hSw; (try dsimp only at hSw); go_simp; try with_reducible rfl); ((try simp only [List.getElem_toArray]); (try simp only [List.getElem_cons_succ]); (try simp only [List.getElem_cons_zero]); (try simp only [Act.put]); (try simp only [List.setIfInBounds_toArray]); (try simp only [List.set_cons_succ]); (try simp only [List.set_cons_zero])))
        (refine wpAnyH_take (i := 11) (v := ?_) rfl (by kernel_rfl) (by kernel_rfl) (by kernel_rfl) (fun _ _ _ h => h) (Or.inl ⟨by rfl, ?_⟩) (by assumption) ?_; rotate_left; (intro w hSw; (try dsimp only at hSw); go_simp; try with_reducible rfl); ((try simp only [List.getElem_toArray]); (try simp only [List.getElem_cons_succ]); (try simp only [List.getElem_cons_zero]); (try simp only [Act.put]); (try simp only [List.setIfInBounds_toArray]); (try simp only [List.set_cons_succ]); (try simp only [List.set_cons_zero])))
        (refine wpAnyH_take (i := 12) (v := ?_) rfl (by kernel_rfl) (by kernel_rfl) (by kernel_rfl) (fun _ _ _ h => h) (Or.inl ⟨by rfl, ?_⟩) (by assumption) ?_; rotate_left; (intro w hSw; (try dsimp only at hSw); go_simp; try with_reducible rfl); ((try simp only [List.getElem_toArray]); (try simp only [List.getElem_cons_succ]); (try simp only [List.getElem_cons_zero]); (try simp only [Act.put]); (try simp only [List.setIfInBounds_toArray]); (try simp only [List.set_cons_succ]); (try simp only [List.set_cons_zero])))
        (refine wpAnyH_take (i := 13) (v := undef) rfl (by kernel_rfl) (by kernel_rfl) (by kernel_rfl) (fun _ _ _ h => h) (Or.inr ⟨by rfl, rfl⟩) (by assumption) ?_; ((try simp only [List.getElem_toArray]); (try simp only [List.getElem_cons_succ]); (try simp only [List.getElem_cons_zero]); (try simp only [Act.put]); (try simp only [List.setIfInBounds_toArray]); (try simp only [List.set_cons_succ]); (try simp only [List.set_cons_zero])))
        (refine wpAnyH_take (i := 14) (v := undef) rfl (by kernel_rfl) (by kernel_rfl) (by kernel_rfl) (fun _ _ _ h => h) (Or.inr ⟨by rfl, rfl⟩) (by assumption) ?_; ((try simp only [List.getElem_toArray]); (try simp only [List.getElem_cons_succ]); (try simp only [List.getElem_cons_zero]); (try simp only [Act.put]); (try simp only [List.setIfInBounds_toArray]); (try simp only [List.set_cons_succ]); (try simp only [List.set_cons_zero])))
        (refine wpAnyH_take (i := 15) (v := undef) rfl (by kernel_rfl) (by kernel_rfl) (by kernel_rfl) (fun _ _ _ h => h) (Or.inr ⟨by rfl, rfl⟩) (by assumption) ?_; ((try simp only [List.getElem_toArray]); (try simp only [List.getElem_cons_succ]); (try simp only [List.getElem_cons_zero]); (try simp only [Act.put]); (try simp only [List.setIfInBounds_toArray]); (try simp only [List.set_cons_succ]); (try simp only [List.set_cons_zero])))
        (refine wpAnyH_take (i := 16) (v := undef) rfl (by kernel_rfl) (by kernel_rfl) (by kernel_rfl) (fun _ _ _ h => h) (Or.inr ⟨by rfl, rfl⟩) (by assumption) ?_; ((try simp only [List.getElem_toArray]); (try simp only [List.getElem_cons_succ]); (try simp only [List.getElem_cons_zero]); (try simp only [Act.put]); (try simp only [List.setIfInBounds_toArray]); (try simp only [List.set_cons_succ]); (try simp only [List.set_cons_zero])))
        (refine wpAnyH_take (i := 17) (v := undef) rfl (by kernel_rfl) (by kernel_rfl) (by kernel_rfl) (fun _ _ _ h => h) (Or.inr ⟨by rfl, rfl⟩) (by assumption) ?_; ((try simp only [List.getElem_toArray]); (try simp only [List.getElem_cons_succ]); (try simp only [List.getElem_cons_zero]); (try simp only [Act.put]); (try simp only [List.setIfInBounds_toArray]); (try simp only [List.set_cons_succ]); (try simp only [List.set_cons_zero])))
        (refine wpAnyH_take (i := 18) (v := undef) rfl (by kernel_rfl) (by kernel_rfl) (by kernel_rfl) (fun _ _ _ h => h) (Or.inr ⟨by rfl, rfl⟩) (by assumption) ?_; ((try simp only [List.getElem_toArray]); (try simp only [List.getElem_cons_succ]); (try simp only [List.getElem_cons_zero]); (try simp only [Act.put]); (try simp only [List.setIfInBounds_toArray]); (try simp only [List.set_cons_succ]); (try simp only [List.set_cons_zero])))
        (refine wpAnyH_take (i := 19) (v := undef) rfl (by kernel_rfl) (by kernel_rfl) (by kernel_rfl) (fun _ _ _ h => h) (Or.inr ⟨by rfl, rfl⟩) (by assumption) ?_; ((try simp only [List.getElem_toArray]); (try simp only [List.getElem_cons_succ]); (try simp only [List.getElem_cons_zero]); (try simp only [Act.put]); (try simp only [List.setIfInBounds_toArray]); (try simp only [List.set_cons_succ]); (try simp only [List.set_cons_zero])))
        (refine wpAnyH_take (i := 20) (v := undef) rfl (by kernel_rfl) (by kernel_rfl) (by kernel_rfl) (fun _ _ _ h => h) (Or.inr ⟨by rfl, rfl⟩) (by assumption) ?_; ((try simp only [List.getElem_toArray]); (try simp only [List.getElem_cons_succ]); (try simp only [List.getElem_cons_zero]); (try simp only [Act.put]); (try simp only [List.setIfInBounds_toArray]); (try simp only [List.set_cons_succ]); (try simp only [List.set_cons_zero])))
        (refine wpAnyH_take (i := 21) (v := undef) rfl (by kernel_rfl) (by kernel_rfl) (by kernel_rfl) (fun _ _ _ h => h) (Or.inr ⟨by rfl, rfl⟩) (by assumption) ?_; ((try simp only [List.getElem_toArray]); (try simp only [List.getElem_cons_succ]); (try simp only [List.getElem_cons_zero]); (try simp only [Act.put]); (try simp only [List.setIfInBounds_toArray]); (try simp only [List.set_cons_succ]); (try simp only [List.set_cons_zero])))
        (refine wpAnyH_take (i := 22) (v := undef) rfl (by kernel_rfl) (by kernel_rfl) (by kernel_rfl) (fun _ _ _ h => h) (Or.inr ⟨by rfl, rfl⟩) (by assumption) ?_; ((try simp only [List.getElem_toArray]); (try simp only [List.getElem_cons_succ]); (try simp only [List.getElem_cons_zero]); (try simp only [Act.put]); (try simp only [List.setIfInBounds_toArray]); (try simp only [List.set_cons_succ]); (try simp only [List.set_cons_zero])))
        (refine wpAnyH_take (i := 23) (v := undef) rfl (by kernel_rfl) (by kernel_rfl) (by kernel_rfl) (fun _ _ _ h => h) (Or.inr ⟨by rfl, rfl⟩) (by assumption) ?_; ((try simp only [List.getElem_toArray]); (try simp only [List.getElem_cons_succ]); (try simp only [List.getElem_cons_zero]); (try simp only [Act.put]); (try simp only [List.setIfInBounds_toArray]); (try simp only [List.set_cons_succ]); (try simp only [List.set_cons_zero])))
        (refine wpAnyH_take (i := 24) (v := undef) rfl (by kernel_rfl) (by kernel_rfl) (by kernel_rfl) (fun _ _ _ h => h) (Or.inr ⟨by rfl, rfl⟩) (by assumption) ?_; ((try simp only [List.getElem_toArray]); (try simp only [List.getElem_cons_succ]); (try simp only [List.getElem_cons_zero]); (try simp only [Act.put]); (try simp only [List.setIfInBounds_toArray]); (try simp only [List.set_cons_succ]); (try simp only [List.set_cons_zero])))
        (refine wpAnyH_take (i := 25) (v := ?_) rfl (by kernel_rfl) (by kernel_rfl) (by kernel_rfl) (fun _ _ _ h => h) (Or.inl ⟨by rfl, ?_⟩) (by assumption) ?_; rotate_left; (intro w hSw; (try dsimp only at hSw); go_simp; try with_reducible rfl); ((try simp only [List.getElem_toArray]); (try simp only [List.getElem_cons_succ]); (try simp only [List.getElem_cons_zero]); (try simp only [Act.put]); (try simp only [List.setIfInBounds_toArray]); (try simp only [List.set_cons_succ]); (try simp only [List.set_cons_zero])))
        (refine wpAnyH_take (i := 26) (v := ?_) rfl (by kernel_rfl) (by kernel_rfl) (by kernel_rfl) (fun _ _ _ h => h) (Or.inl ⟨by rfl, ?_⟩) (by assumption) ?_; rotate_left; (intro w hSw; (try dsimp only at hSw); go_simp; try with_reducible rfl); ((try simp only [List.getElem_toArray]); (try simp only [List.getElem_cons_succ]); (try simp only [List.getElem_cons_zero]); (try simp only [Act.put]); (try simp only [List.setIfInBounds_toArray]); (try simp only [List.set_cons_succ]); (try simp only [List.set_cons_zero])))
        refine wpAnyH_done (by kernel_rfl) ?_ _
        go_wp2_with fail
        go_ret
        exact ⟨by rw [HM.out]; rfl, HB0.out.trans (Hid.out (And.left hS9) |>.mono HB0.out.size)⟩
  · have hk0 : (k.size == 0) = false := by simpa using hk
    have hk1 : (k.toList == (⟨#[]⟩ : ByteArray).toList) = false := (size_ne k).trans hk0
    have hk3 : k.toList.isEmpty = false := (size_e k).trans hk0
    have hk2 : (k.toList == ([] : List UInt8)) = false := by have h := hk1; rw [emptyL] at h; exact h
    clear hk
    cases d
    · go_enter Tryz.func180, Tryz.ntmps180
      go_wp2_with fail
      obtain ⟨v00, hv0⟩ : ∃ W, W = (w.alloc (.cells #[.string t, .bool false, .string k] 143)) := ⟨_, rfl⟩
      rw [← hv0] at HB HX ⊢
      clear hv0
      have x0 := HX.out.cell 0
      simp at x0
      go_wp2_with fail
      refine (HNM.out _).mono ?_
      rintro e v0 ⟨rfl, hb0⟩
      have HB0 : Hid (Below w.heap.size w v0) := HB.out.trans (hb0.out.mono HB.out.size)
      have HX0 := Lib.hid (HX.out.below hb0.out HX.out.lt)
      clear x0 hb0 HX HB
      cases nf
      · go_wp2_with fail
        go_ret
        exact ⟨by rw [HM.out]; rfl, HB0⟩
      · have y0 : v0.cell? ⟨w.heap.size, 0, none⟩ = some (.string t) := HX0.out.cell 0
        have y1 : v0.cell? ⟨w.heap.size, 1, none⟩ = some (.bool false) := HX0.out.cell 1
        have y2 : v0.cell? ⟨w.heap.size, 2, none⟩ = some (.string k) := HX0.out.cell 2
        have hS0 : (fun X : World => Hid (Below v0.heap.size v0 X) ∧ X.cell? ⟨w.heap.size, 0, none⟩ = some (.string t) ∧ X.cell? ⟨w.heap.size, 1, none⟩ = some (.bool false) ∧ X.cell? ⟨w.heap.size, 2, none⟩ = some (.string k)) v0.drew := ⟨(Below.refl _ v0).drew, y0, y1, y2⟩
        go_wp2_with fail
        refine wp_region_held_drew (S := (fun X : World => Hid (Below v0.heap.size v0 X) ∧ X.cell? ⟨w.heap.size, 0, none⟩ = some (.string t) ∧ X.cell? ⟨w.heap.size, 1, none⟩ = some (.bool false) ∧ X.cell? ⟨w.heap.size, 2, none⟩ = some (.string k))) (by kernel_rfl) hS0 (fun _ => ?_)
        (refine wpAnyH_take (i := 0) (v := ?_) rfl (by kernel_rfl) (by kernel_rfl) (by kernel_rfl) (fun _ _ _ h => h) (Or.inl ⟨by rfl, ?_⟩) (by assumption) ?_; rotate_left; (intro w hSw; (try dsimp only at hSw); go_simp; try with_reducible rfl); ((try simp only [List.getElem_toArray]); (try simp only [List.getElem_cons_succ]); (try simp only [List.getElem_cons_zero]); (try simp only [Act.put]); (try simp only [List.setIfInBounds_toArray]); (try simp only [List.set_cons_succ]); (try simp only [List.set_cons_zero])))
        (refine wpAnyH_take (i := 1) (v := ?_) rfl (by kernel_rfl) (by kernel_rfl) (by kernel_rfl) (fun _ _ _ h => h) (Or.inl ⟨by rfl, ?_⟩) (by assumption) ?_; rotate_left; (intro w hSw; (try dsimp only at hSw); go_simp; try with_reducible rfl); ((try simp only [List.getElem_toArray]); (try simp only [List.getElem_cons_succ]); (try simp only [List.getElem_cons_zero]); (try simp only [Act.put]); (try simp only [List.setIfInBounds_toArray]); (try simp only [List.set_cons_succ]); (try simp only [List.set_cons_zero])))
        (refine wpAnyH_take (i := 2) (v := ?_) rfl (by kernel_rfl) (by kernel_rfl) (by kernel_rfl) (fun _ _ _ h => h) (Or.inl ⟨by rfl, ?_⟩) (by assumption) ?_; rotate_left; (intro w hSw; (try dsimp only at hSw); go_simp; try with_reducible rfl); ((try simp only [List.getElem_toArray]); (try simp only [List.getElem_cons_succ]); (try simp only [List.getElem_cons_zero]); (try simp only [Act.put]); (try simp only [List.setIfInBounds_toArray]); (try simp only [List.set_cons_succ]); (try simp only [List.set_cons_zero])))
        refine wpAnyH_ready (rs := [3]) (by kernel_rfl) (by simp) ?_
        refine AllReadyH.cons rfl (fun K2 hK2 => ?_) AllReadyH.nil
        go_simp
        refine (atFirst_any t _).mono ?_
        rintro e x3 ⟨rfl, hb3⟩
        have hS3 : (fun X : World => Hid (Below v0.heap.size v0 X) ∧ X.cell? ⟨w.heap.size, 0, none⟩ = some (.string t) ∧ X.cell? ⟨w.heap.size, 1, none⟩ = some (.bool false) ∧ X.cell? ⟨w.heap.size, 2, none⟩ = some (.string k)) x3 := ⟨(Hid.out (And.left hS0)).trans (hb3.out.mono (Hid.out (And.left hS0)).size), keepW hb3.out hS0.2.1, keepW hb3.out hS0.2.2.1, keepW hb3.out hS0.2.2.2⟩
        go_wp2_with fail
        refine hK2.out _ _ (by (try dsimp only); exact hS3) (fun _ => ?_)
        clear hK2 K2
        (try simp only [List.getElem_toArray]); (try simp only [List.getElem_cons_succ]); (try simp only [List.getElem_cons_zero]); (try simp only [Act.put]); (try simp only [List.setIfInBounds_toArray]); (try simp only [List.set_cons_succ]); (try simp only [List.set_cons_zero])
        (refine wpAnyH_take (i := 4) (v := ?_) rfl (by kernel_rfl) (by kernel_rfl) (by kernel_rfl) (fun _ _ _ h => h) (Or.inl ⟨by rfl, ?_⟩) (by assumption) ?_; rotate_left; (intro w hSw; (try dsimp only at hSw); go_simp; try with_reducible rfl); ((try simp only [List.getElem_toArray]); (try simp only [List.getElem_cons_succ]); (try simp only [List.getElem_cons_zero]); (try simp only [Act.put]); (try simp only [List.setIfInBounds_toArray]); (try simp only [List.set_cons_succ]); (try simp only [List.set_cons_zero])))
        (refine wpAnyH_take (i := 5) (v := ?_) rfl (by kernel_rfl) (by kernel_rfl) (by kernel_rfl) (fun _ _ _ h => h) (Or.inl ⟨by rfl, ?_⟩) (by assumption) ?_; rotate_left; (intro w hSw; (try dsimp only at hSw); go_simp; try with_reducible rfl); ((try simp only [List.getElem_toArray]); (try simp only [List.getElem_cons_succ]); (try simp only [List.getElem_cons_zero]); (try simp only [Act.put]); (try simp only [List.setIfInBounds_toArray]); (try simp only [List.set_cons_succ]); (try simp only [List.set_cons_zero])))
        (refine wpAnyH_take (i := 6) (v := ?_) rfl (by kernel_rfl) (by kernel_rfl) (by kernel_rfl) (fun _ _ _ h => h) (Or.inl ⟨by rfl, ?_⟩) (by assumption) ?_; rotate_left; (intro w hSw; (try dsimp only at hSw); go_simp; try with_reducible rfl); ((try simp only [List.getElem_toArray]); (try simp only [List.getElem_cons_succ]); (try simp only [List.getElem_cons_zero]); (try simp only [Act.put]); (try simp only [List.setIfInBounds_toArray]); (try simp only [List.set_cons_succ]); (try simp only [List.set_cons_zero])))
        (refine wpAnyH_take (i := 7) (v := ?_) rfl (by kernel_rfl) (by kernel_rfl) (by kernel_rfl) (fun _ _ _ h => h) (Or.inl ⟨by rfl, ?_⟩) (by assumption) ?_; rotate_left; (intro w hSw; (try dsimp only at hSw); go_simp; try with_reducible rfl); ((try simp only [List.getElem_toArray]); (try simp only [List.getElem_cons_succ]); (try simp only [List.getElem_cons_zero]); (try simp only [Act.put]); (try simp only [List.setIfInBounds_toArray]); (try simp only [List.set_cons_succ]); (try simp only [List.set_cons_zero])))
        (refine wpAnyH_take (i := 8) (v := ?_) rfl (by kernel_rfl) (by kernel_rfl) (by kernel_rfl) (fun _ _ _ h => h) (Or.inl ⟨by rfl, ?_⟩) (by assumption) ?_; rotate_left; (intro w hSw; (try dsimp only at hSw); go_simp; try with_reducible rfl); ((try simp only [List.getElem_toArray]); (try simp only [List.getElem_cons_succ]); (try simp only [List.getElem_cons_zero]); (try simp only [Act.put]); (try simp only [List.setIfInBounds_toArray]); (try simp only [List.set_cons_succ]); (try simp only [List.set_cons_zero])))
        refine wpAnyH_ready (rs := [9]) (by kernel_rfl) (by simp) ?_
        refine AllReadyH.cons rfl (fun K2 hK2 => ?_) AllReadyH.nil
        go_simp
        refine (atEnd_any t _).mono ?_
        rintro e x9 ⟨rfl, hb9⟩
        have hS9 : (fun X : World => Hid (Below v0.heap.size v0 X) ∧ X.cell? ⟨w.heap.size, 0, none⟩ = some (.string t) ∧ X.cell? ⟨w.heap.size, 1, none⟩ = some (.bool false) ∧ X.cell? ⟨w.heap.size, 2, none⟩ = some (.string k)) x9 := ⟨(Hid.out (And.left hS3)).trans (hb9.out.mono (Hid.out (And.left hS3)).size), keepW hb9.out hS3.2.1, keepW hb9.out hS3.2.2.1, keepW hb9.out hS3.2.2.2⟩
        go_wp2_with fail
        refine hK2.out _ _ (by (try dsimp only); exact hS9) (fun _ => ?_)
        clear hK2 K2
        (try simp only [List.getElem_toArray]); (try simp only [List.getElem_cons_succ]); (try simp only [List.getElem_cons_zero]); (try simp only [Act.put]); (try simp only [List.setIfInBounds_toArray]); (try simp only [List.set_cons_succ]); (try simp only [List.set_cons_zero])
        (refine wpAnyH_take (i := 10) (v := ?_) rfl (by kernel_rfl) (by kernel_rfl) (by kernel_rfl) (fun _ _ _ h => h) (Or.inl ⟨by rfl, ?_⟩) (by assumption) ?_; rotate_left; (intro w hSw; (try dsimp only at hSw); go_simp; try with_reducible rfl); ((try simp only [List.getElem_toArray]); (try simp only [List.getElem_cons_succ]); (try simp only [List.getElem_cons_zero]); (try simp only [Act.put]); (try simp only [List.setIfInBounds_toArray]); (try simp only [List.set_cons_succ]); (try simp only [List.set_cons_zero])))
        (refine wpAnyH_take (i := 11) (v := ?_) rfl (by kernel_rfl) (by kernel_rfl) (by kernel_rfl) (fun _ _ _ h => h) (Or.inl ⟨by rfl, ?_⟩) (by assumption) ?_; rotate_left; (intro w hSw; (try dsimp only at hSw); go_simp; try with_reducible rfl); ((try simp only [List.getElem_toArray]); (try simp only [List.getElem_cons_succ]); (try simp only [List.getElem_cons_zero]); (try simp only [Act.put]); (try simp only [List.setIfInBounds_toArray]); (try simp only [List.set_cons_succ]); (try simp only [List.set_cons_zero])))
        (refine wpAnyH_take (i := 12) (v := ?_) rfl (by kernel_rfl) (by kernel_rfl) (by kernel_rfl) (fun _ _ _ h => h) (Or.inl ⟨by rfl, ?_⟩) (by assumption) ?_; rotate_left; (intro w hSw; (try dsimp only at hSw); go_simp; try with_reducible rfl); ((try simp only [List.getElem_toArray]); (try simp only [List.getElem_cons_succ]); (try simp only [List.getElem_cons_zero]); (try simp only [Act.put]); (try simp only [List.setIfInBounds_toArray]); (try simp only [List.set_cons_succ]); (try simp only [List.set_cons_zero])))
        (refine wpAnyH_take (i := 13) (v := ?_) rfl (by kernel_rfl) (by kernel_rfl) (by kernel_rfl) (fun _ _ _ h => h) (Or.inl ⟨by rfl, ?_⟩) (by assumption) ?_; rotate_left; (intro w hSw; (try dsimp only at hSw); go_simp; try with_reducible rfl); ((try simp only [List.getElem_toArray]); (try simp only [List.getElem_cons_succ]); (try simp only [List.getElem_cons_zero]); (try simp only [Act.put]); (try simp only [List.setIfInBounds_toArray]); (try simp only [List.set_cons_succ]); (try simp only [List.set_cons_zero])))
        (refine wpAnyH_take (i := 14) (v := ?_) rfl (by kernel_rfl) (by kernel_rfl) (by kernel_rfl) (fun _ _ _ h => h) (Or.inl ⟨by rfl, ?_⟩) (by assumption) ?_; rotate_left; (intro w hSw; (try dsimp only at hSw); go_simp; try with_reducible rfl); ((try simp only [List.getElem_toArray]); (try simp only [List.getElem_cons_succ]); (try simp only [List.getElem_cons_zero]); (try simp only [Act.put]); (try simp only [List.setIfInBounds_toArray]); (try simp only [List.set_cons_succ]); (try simp only [List.set_cons_zero])))
        (refine wpAnyH_take (i := 15) (v := ?_) rfl (by kernel_rfl) (by kernel_rfl) (by kernel_rfl) (fun _ _ _ h => h) (Or.inl ⟨by rfl, ?_⟩) (by assumption) ?_; rotate_left; (intro w hSw; (try dsimp only at hSw); go_simp; try with_reducible rfl); ((try simp only [List.getElem_toArray]); (try simp only [List.getElem_cons_succ]); (try simp only [List.getElem_cons_zero]); (try simp only [Act.put]); (try simp only [List.setIfInBounds_toArray]); (try simp only [List.set_cons_succ]); (try simp only [List.set_cons_zero])))
        (refine wpAnyH_take (i := 16) (v := ?_) rfl (by kernel_rfl) (by kernel_rfl) (by kernel_rfl) (fun _ _ _ h => h) (Or.inl ⟨by rfl, ?_⟩) (by assumption) ?_; rotate_left; (intro w hSw; (try dsimp only at hSw); go_simp; try with_reducible rfl); ((try simp only [List.getElem_toArray]); (try simp only [List.getElem_cons_succ]); (try simp only [List.getElem_cons_zero]); (try simp only [Act.put]); (try simp only [List.setIfInBounds_toArray]); (try simp only [List.set_cons_succ]); (try simp only [List.set_cons_zero])))
        (refine wpAnyH_take (i := 17) (v := ?_) rfl (by kernel_rfl) (by kernel_rfl) (by kernel_rfl) (fun _ _ _ h => h) (Or.inl ⟨by rfl, ?_⟩) (by assumption) ?_; rotate_left; (intro w hSw; (try dsimp only at hSw); go_simp; try with_reducible rfl); ((try simp only [List.getElem_toArray]); (try simp only [List.getElem_cons_succ]); (try simp only [List.getElem_cons_zero]); (try simp only [Act.put]); (try simp only [List.setIfInBounds_toArray]); (try simp only [List.set_cons_succ]); (try simp only [List.set_cons_zero])))
        refine wpAnyH_ready (rs := [18]) (by kernel_rfl) (by simp) ?_
        refine AllReadyH.cons rfl (fun K2 hK2 => ?_) AllReadyH.nil
        go_simp
        refine (upTo_any t k _).mono ?_
        rintro e x18 ⟨rfl, hb18⟩
        have hS18 : (fun X : World => Hid (Below v0.heap.size v0 X) ∧ X.cell? ⟨w.heap.size, 0, none⟩ = some (.string t) ∧ X.cell? ⟨w.heap.size, 1, none⟩ = some (.bool false) ∧ X.cell? ⟨w.heap.size, 2, none⟩ = some (.string k)) x18 := ⟨(Hid.out (And.left hS9)).trans (hb18.out.mono (Hid.out (And.left hS9)).size), keepW hb18.out hS9.2.1, keepW hb18.out hS9.2.2.1, keepW hb18.out hS9.2.2.2⟩
        go_wp2_with fail
        refine hK2.out _ _ (by (try dsimp only); exact hS18) (fun _ => ?_)
        clear hK2 K2
        (try simp only [List.getElem_toArray]); (try simp only [List.getElem_cons_succ]); (try simp only [List.getElem_cons_zero]); (try simp only [Act.put]); (try simp only [List.setIfInBounds_toArray]); (try simp only [List.set_cons_succ]); (try simp only [List.set_cons_zero])
        (refine wpAnyH_take (i := 19) (v := ?_) rfl (by kernel_rfl) (by kernel_rfl) (by kernel_rfl) (fun _ _ _ h => h) (Or.inl ⟨by rfl, ?_⟩) (by assumption) ?_; rotate_left; (intro w hSw; (try dsimp only at hSw); go_simp; try with_reducible rfl); ((try simp only [List.getElem_toArray]); (try simp only [List.getElem_cons_succ]); (try simp only [List.getElem_cons_zero]); (try simp only [Act.put]); (try simp only [List.setIfInBounds_toArray]); (try simp only [List.set_cons_succ]); (try simp only [List.set_cons_zero])))
        (refine wpAnyH_take (i := 20) (v := ?_) rfl (by kernel_rfl) (by kernel_rfl) (by kernel_rfl) (fun _ _ _ h => h) (Or.inl ⟨by rfl, ?_⟩) (by assumption) ?_; rotate_left; (intro w hSw; (try dsimp only at hSw); go_simp; try with_reducible rfl); ((try simp only [List.getElem_toArray]); (try simp only [List.getElem_cons_succ]); (try simp only [List.getElem_cons_zero]); (try simp only [Act.put]); (try simp only [List.setIfInBounds_toArray]); (try simp only [List.set_cons_succ]); (try simp only [List.set_cons_zero])))
        (refine wpAnyH_take (i := 21) (v := ?_) rfl (by kernel_rfl) (by kernel_rfl) (by kernel_rfl) (fun _ _ _ h => h) (Or.inl ⟨by rfl, ?_⟩) (by assumption) ?_; rotate_left; (intro w hSw; (try dsimp only at hSw); go_simp; try with_reducible rfl); ((try simp only [List.getElem_toArray]); (try simp only [List.getElem_cons_succ]); (try simp only [List.getElem_cons_zero]); (try simp only [Act.put]); (try simp only [List.setIfInBounds_toArray]); (try simp only [List.set_cons_succ]); (try simp only [List.set_cons_zero])))
        (refine wpAnyH_take (i := 22) (v := ?_) rfl (by kernel_rfl) (by kernel_rfl) (by kernel_rfl) (fun _ _ _ h => h) (Or.inl ⟨by rfl, ?_⟩) (by assumption) ?_; rotate_left; (intro w hSw; (try dsimp only at hSw); go_simp; try with_reducible rfl); ((try simp only [List.getElem_toArray]); (try simp only [List.getElem_cons_succ]); (try simp only [List.getElem_cons_zero]); (try simp only [Act.put]); (try simp only [List.setIfInBounds_toArray]); (try simp only [List.set_cons_succ]); (try simp only [List.set_cons_zero])))
        refine wpAnyH_ready (rs := [23]) (by kernel_rfl) (by simp) ?_
        refine AllReadyH.cons rfl (fun K2 hK2 => ?_) AllReadyH.nil
        go_simp
        refine (HKEY.out _ (HT.out.below (HB0.out.trans (Hid.out (And.left hS18) |>.mono HB0.out.size)))).mono ?_
        rintro e x23 ⟨rfl, hb23⟩
        have hS23 : (fun X : World => Hid (Below v0.heap.size v0 X) ∧ X.cell? ⟨w.heap.size, 0, none⟩ = some (.string t) ∧ X.cell? ⟨w.heap.size, 1, none⟩ = some (.bool false) ∧ X.cell? ⟨w.heap.size, 2, none⟩ = some (.string k)) x23 := ⟨(Hid.out (And.left hS18)).trans (hb23.out.mono (Hid.out (And.left hS18)).size), keepW hb23.out hS18.2.1, keepW hb23.out hS18.2.2.1, keepW hb23.out hS18.2.2.2⟩
        go_wp2_with fail
        refine hK2.out _ _ (by (try dsimp only); exact hS23) (fun _ => ?_)
        clear hK2 K2
        (try simp only [List.getElem_toArray]); (try simp only [List.getElem_cons_succ]); (try simp only [List.getElem_cons_zero]); (try simp only [Act.put]); (try simp only [List.setIfInBounds_toArray]); (try simp only [List.set_cons_succ]); (try simp only [List.set_cons_zero])
        (refine wpAnyH_take (i := 24) (v := ?_) rfl (by kernel_rfl) (by kernel_rfl) (by kernel_rfl) (fun _ _ _ h => h) (Or.inl ⟨by rfl, ?_⟩) (by assumption) ?_; rotate_left; (intro w hSw; (try dsimp only at hSw); go_simp; try with_reducible rfl); ((try simp only [List.getElem_toArray]); (try simp only [List.getElem_cons_succ]); (try simp only [List.getElem_cons_zero]); (try simp only [Act.put]); (try simp only [List.setIfInBounds_toArray]); (try simp only [List.set_cons_succ]); (try simp only [List.set_cons_zero])))
        (refine wpAnyH_take (i := 25) (v := ?_) rfl (by kernel_rfl) (by kernel_rfl) (by kernel_rfl) (fun _ _ _ h => h) (Or.inl ⟨by rfl, ?_⟩) (by assumption) ?_; rotate_left; (intro w hSw; (try dsimp only at hSw); go_simp; try with_reducible rfl); ((try simp only [List.getElem_toArray]); (try simp only [List.getElem_cons_succ]); (try simp only [List.getElem_cons_zero]); (try simp only [Act.put]); (try simp only [List.setIfInBounds_toArray]); (try simp only [List.set_cons_succ]); (try simp only [List.set_cons_zero])))
        (refine wpAnyH_take (i := 26) (v := ?_) rfl (by kernel_rfl) (by kernel_rfl) (by kernel_rfl) (fun _ _ _ h => h) (Or.inl ⟨by rfl, ?_⟩) (by assumption) ?_; rotate_left; (intro w hSw; (try dsimp only at hSw); go_simp; try with_reducible rfl); ((try simp only [List.getElem_toArray]); (try simp only [List.getElem_cons_succ]); (try simp only [List.getElem_cons_zero]); (try simp only [Act.put]); (try simp only [List.setIfInBounds_toArray]); (try simp only [List.set_cons_succ]); (try simp only [List.set_cons_zero])))
        refine wpAnyH_done (by kernel_rfl) ?_ _
        go_wp2_with fail
        go_ret
        exact ⟨by rw [HM.out]; simp [hk0], HB0.out.trans (Hid.out (And.left hS23) |>.mono HB0.out.size)⟩
    · go_enter Tryz.func180, Tryz.ntmps180
      go_wp2_with fail
      obtain ⟨v00, hv0⟩ : ∃ W, W = (w.alloc (.cells #[.string t, .bool true, .string k] 143)) := ⟨_, rfl⟩
      rw [← hv0] at HB HX ⊢
      clear hv0
      have x0 := HX.out.cell 0
      simp at x0
      go_wp2_with fail
      refine (HNM.out _).mono ?_
      rintro e v0 ⟨rfl, hb0⟩
      have HB0 : Hid (Below w.heap.size w v0) := HB.out.trans (hb0.out.mono HB.out.size)
      have HX0 := Lib.hid (HX.out.below hb0.out HX.out.lt)
      clear x0 hb0 HX HB
      cases nf
      · go_wp2_with fail
        go_ret
        exact ⟨by rw [HM.out]; rfl, HB0⟩
      · have y0 : v0.cell? ⟨w.heap.size, 0, none⟩ = some (.string t) := HX0.out.cell 0
        have y1 : v0.cell? ⟨w.heap.size, 1, none⟩ = some (.bool true) := HX0.out.cell 1
        have y2 : v0.cell? ⟨w.heap.size, 2, none⟩ = some (.string k) := HX0.out.cell 2
        have hS0 : (fun X : World => Hid (Below v0.heap.size v0 X) ∧ X.cell? ⟨w.heap.size, 0, none⟩ = some (.string t) ∧ X.cell? ⟨w.heap.size, 1, none⟩ = some (.bool true) ∧ X.cell? ⟨w.heap.size, 2, none⟩ = some (.string k)) v0.drew := ⟨(Below.refl _ v0).drew, y0, y1, y2⟩
        go_wp2_with fail
        refine wp_region_held_drew (S := (fun X : World => Hid (Below v0.heap.size v0 X) ∧ X.cell? ⟨w.heap.size, 0, none⟩ = some (.string t) ∧ X.cell? ⟨w.heap.size, 1, none⟩ = some (.bool true) ∧ X.cell? ⟨w.heap.size, 2, none⟩ = some (.string k))) (by kernel_rfl) hS0 (fun _ => ?_)
        (refine wpAnyH_take (i := 0) (v := ?_) rfl (by kernel_rfl) (by kernel_rfl) (by kernel_rfl) (fun _ _ _ h => h) (Or.inl ⟨by rfl, ?_⟩) (by assumption) ?_; rotate_left; (intro w hSw; (try dsimp only at hSw); go_simp; try with_reducible rfl); ((try simp only [List.getElem_toArray]); (try simp only [List.getElem_cons_succ]); (try simp only [List.getElem_cons_zero]); (try simp only [Act.put]); (try simp only [List.setIfInBounds_toArray]); (try simp only [List.set_cons_succ]); (try simp only [List.set_cons_zero])))
        (refine wpAnyH_take (i := 1) (v := ?_) rfl (by kernel_rfl) (by kernel_rfl) (by kernel_rfl) (fun _ _ _ h => h) (Or.inl ⟨by rfl, ?_⟩) (by assumption) ?_; rotate_left; (intro w hSw; (try dsimp only at hSw); go_simp; try with_reducible rfl); ((try simp only [List.getElem_toArray]); (try simp only [List.getElem_cons_succ]); (try simp only [List.getElem_cons_zero]); (try simp only [Act.put]); (try simp only [List.setIfInBounds_toArray]); (try simp only [List.set_cons_succ]); (try simp only [List.set_cons_zero])))
        (refine wpAnyH_take (i := 2) (v := ?_) rfl (by kernel_rfl) (by kernel_rfl) (by kernel_rfl) (fun _ _ _ h => h) (Or.inl ⟨by rfl, ?_⟩) (by assumption) ?_; rotate_left; (intro w hSw; (try dsimp only at hSw); go_simp; try with_reducible rfl); ((try simp only [List.getElem_toArray]); (try simp only [List.getElem_cons_succ]); (try simp only [List.getElem_cons_zero]); (try simp only [Act.put]); (try simp only [List.setIfInBounds_toArray]); (try simp only [List.set_cons_succ]); (try simp only [List.set_cons_zero])))
        refine wpAnyH_ready (rs := [3]) (by kernel_rfl) (by simp) ?_
        refine AllReadyH.cons rfl (fun K2 hK2 => ?_) AllReadyH.nil
        go_simp
        refine (atFirst_any t _).mono ?_
        rintro e x3 ⟨rfl, hb3⟩
        have hS3 : (fun X : World => Hid (Below v0.heap.size v0 X) ∧ X.cell? ⟨w.heap.size, 0, none⟩ = some (.string t) ∧ X.cell? ⟨w.heap.size, 1, none⟩ = some (.bool true) ∧ X.cell? ⟨w.heap.size, 2, none⟩ = some (.string k)) x3 := ⟨(Hid.out (And.left hS0)).trans (hb3.out.mono (Hid.out (And.left hS0)).size), keepW hb3.out hS0.2.1, keepW hb3.out hS0.2.2.1, keepW hb3.out hS0.2.2.2⟩
        go_wp2_with fail
        refine hK2.out _ _ (by (try dsimp only); exact hS3) (fun _ => ?_)
        clear hK2 K2
        (try simp only [List.getElem_toArray]); (try simp only [List.getElem_cons_succ]); (try simp only [List.getElem_cons_zero]); (try simp only [Act.put]); (try simp only [List.setIfInBounds_toArray]); (try simp only [List.set_cons_succ]); (try simp only [List.set_cons_zero])
        (refine wpAnyH_take (i := 4) (v := ?_) rfl (by kernel_rfl) (by kernel_rfl) (by kernel_rfl) (fun _ _ _ h => h) (Or.inl ⟨by rfl, ?_⟩) (by assumption) ?_; rotate_left; (intro w hSw; (try dsimp only at hSw); go_simp; try with_reducible rfl); ((try simp only [List.getElem_toArray]); (try simp only [List.getElem_cons_succ]); (try simp only [List.getElem_cons_zero]); (try simp only [Act.put]); (try simp only [List.setIfInBounds_toArray]); (try simp only [List.set_cons_succ]); (try simp only [List.set_cons_zero])))
        (refine wpAnyH_take (i := 5) (v := ?_) rfl (by kernel_rfl) (by kernel_rfl) (by kernel_rfl) (fun _ _ _ h => h) (Or.inl ⟨by rfl, ?_⟩) (by assumption) ?_; rotate_left; (intro w hSw; (try dsimp only at hSw); go_simp; try with_reducible rfl); ((try simp only [List.getElem_toArray]); (try simp only [List.getElem_cons_succ]); (try simp only [List.getElem_cons_zero]); (try simp only [Act.put]); (try simp only [List.setIfInBounds_toArray]); (try simp only [List.set_cons_succ]); (try simp only [List.set_cons_zero])))
        (refine wpAnyH_take (i := 6) (v := ?_) rfl (by kernel_rfl) (by kernel_rfl) (by kernel_rfl) (fun _ _ _ h => h) (Or.inl ⟨by rfl, ?_⟩) (by assumption) ?_; rotate_left; (intro w hSw; (try dsimp only at hSw); go_simp; try with_reducible rfl); ((try simp only [List.getElem_toArray]); (try simp only [List.getElem_cons_succ]); (try simp only [List.getElem_cons_zero]); (try simp only [Act.put]); (try simp only [List.setIfInBounds_toArray]); (try simp only [List.set_cons_succ]); (try simp only [List.set_cons_zero])))
        (refine wpAnyH_take (i := 7) (v := ?_) rfl (by kernel_rfl) (by kernel_rfl) (by kernel_rfl) (fun _ _ _ h => h) (Or.inl ⟨by rfl, ?_⟩) (by assumption) ?_; rotate_left; (intro w hSw; (try dsimp only at hSw); go_simp; try with_reducible rfl); ((try simp only [List.getElem_toArray]); (try simp only [List.getElem_cons_succ]); (try simp only [List.getElem_cons_zero]); (try simp only [Act.put]); (try simp only [List.setIfInBounds_toArray]); (try simp only [List.set_cons_succ]); (try simp only [List.set_cons_zero])))
        (refine wpAnyH_take (i := 8) (v := ?_) rfl (by kernel_rfl) (by kernel_rfl) (by kernel_rfl) (fun _ _ _ h => h) (Or.inl ⟨by rfl, ?_⟩) (by assumption) ?_; rotate_left; (intro w hSw; (try dsimp only at hSw); go_simp; try with_reducible rfl); ((try simp only [List.getElem_toArray]); (try simp only [List.getElem_cons_succ]); (try simp only [List.getElem_cons_zero]); (try simp only [Act.put]); (try simp only [List.setIfInBounds_toArray]); (try simp only [List.set_cons_succ]); (try simp only [List.set_cons_zero])))
        refine wpAnyH_ready (rs := [9]) (by kernel_rfl) (by simp) ?_
        refine AllReadyH.cons rfl (fun K2 hK2 => ?_) AllReadyH.nil
        go_simp
        refine (atEnd_any t _).mono ?_
        rintro e x9 ⟨rfl, hb9⟩
        have hS9 : (fun X : World => Hid (Below v0.heap.size v0 X) ∧ X.cell? ⟨w.heap.size, 0, none⟩ = some (.string t) ∧ X.cell? ⟨w.heap.size, 1, none⟩ = some (.bool true) ∧ X.cell? ⟨w.heap.size, 2, none⟩ = some (.string k)) x9 := ⟨(Hid.out (And.left hS3)).trans (hb9.out.mono (Hid.out (And.left hS3)).size), keepW hb9.out hS3.2.1, keepW hb9.out hS3.2.2.1, keepW hb9.out hS3.2.2.2⟩
        go_wp2_with fail
        refine hK2.out _ _ (by (try dsimp only); exact hS9) (fun _ => ?_)
        clear hK2 K2
        (try simp only [List.getElem_toArray]); (try simp only [List.getElem_cons_succ]); (try simp only [List.getElem_cons_zero]); (try simp only [Act.put]); (try simp only [List.setIfInBounds_toArray]); (try simp only [List.set_cons_succ]); (try simp only [List.set_cons_zero])
        (refine wpAnyH_take (i := 10) (v := ?_) rfl (by kernel_rfl) (by kernel_rfl) (by kernel_rfl) (fun _ _ _ h => h) (Or.inl ⟨by rfl, ?_⟩) (by assumption) ?_; rotate_left; (intro w hSw; (try dsimp only at hSw); go_simp; try with_reducible rfl); ((try simp only [List.getElem_toArray]); (try simp only [List.getElem_cons_succ]); (try simp only [List.getElem_cons_zero]); (try simp only [Act.put]); (try simp only [List.setIfInBounds_toArray]); (try simp only [List.set_cons_succ]); (try simp only [List.set_cons_zero])))
        (refine wpAnyH_take (i := 11) (v := ?_) rfl (by kernel_rfl) (by kernel_rfl) (by kernel_rfl) (fun _ _ _ h => h) (Or.inl ⟨by rfl, ?_⟩) (by assumption) ?_; rotate_left; (intro w hSw; (try dsimp only at hSw); go_simp; try with_reducible rfl); ((try simp only [List.getElem_toArray]); (try simp only [List.getElem_cons_succ]); (try simp only [List.getElem_cons_zero]); (try simp only [Act.put]); (try simp only [List.setIfInBounds_toArray]); (try simp only [List.set_cons_succ]); (try simp only [List.set_cons_zero])))
        (refine wpAnyH_take (i := 12) (v := ?_) rfl (by kernel_rfl) (by kernel_rfl) (by kernel_rfl) (fun _ _ _ h => h) (Or.inl ⟨by rfl, ?_⟩) (by assumption) ?_; rotate_left; (intro w hSw; (try dsimp only at hSw); go_simp; try with_reducible rfl); ((try simp only [List.getElem_toArray]); (try simp only [List.getElem_cons_succ]); (try simp only [List.getElem_cons_zero]); (try simp only [Act.put]); (try simp only [List.setIfInBounds_toArray]); (try simp only [List.set_cons_succ]); (try simp only [List.set_cons_zero])))
        (refine wpAnyH_take (i := 13) (v := ?_) rfl (by kernel_rfl) (by kernel_rfl) (by kernel_rfl) (fun _ _ _ h => h) (Or.inl ⟨by rfl, ?_⟩) (by assumption) ?_; rotate_left; (intro w hSw; (try dsimp only at hSw); go_simp; try with_reducible rfl); ((try simp only [List.getElem_toArray]); (try simp only [List.getElem_cons_succ]); (try simp only [List.getElem_cons_zero]); (try simp only [Act.put]); (try simp only [List.setIfInBounds_toArray]); (try simp only [List.set_cons_succ]); (try simp only [List.set_cons_zero])))
        (refine wpAnyH_take (i := 14) (v := ?_) rfl (by kernel_rfl) (by kernel_rfl) (by kernel_rfl) (fun _ _ _ h => h) (Or.inl ⟨by rfl, ?_⟩) (by assumption) ?_; rotate_left; (intro w hSw; (try dsimp only at hSw); go_simp; try with_reducible rfl); ((try simp only [List.getElem_toArray]); (try simp only [List.getElem_cons_succ]); (try simp only [List.getElem_cons_zero]); (try simp only [Act.put]); (try simp only [List.setIfInBounds_toArray]); (try simp only [List.set_cons_succ]); (try simp only [List.set_cons_zero])))
        (refine wpAnyH_take (i := 15) (v := ?_) rfl (by kernel_rfl) (by kernel_rfl) (by kernel_rfl) (fun _ _ _ h => h) (Or.inl ⟨by rfl, ?_⟩) (by assumption) ?_; rotate_left; (intro w hSw; (try dsimp only at hSw); go_simp; try with_reducible rfl); ((try simp only [List.getElem_toArray]); (try simp only [List.getElem_cons_succ]); (try simp only [List.getElem_cons_zero]); (try simp only [Act.put]); (try simp only [List.setIfInBounds_toArray]); (try simp only [List.set_cons_succ]); (try simp only [List.set_cons_zero])))
        (refine wpAnyH_take (i := 16) (v := ?_) rfl (by kernel_rfl) (by kernel_rfl) (by kernel_rfl) (fun _ _ _ h => h) (Or.inl ⟨by rfl, ?_⟩) (by assumption) ?_; rotate_left; (intro w hSw; (try dsimp only at hSw); go_simp; try with_reducible rfl); ((try simp only [List.getElem_toArray]); (try simp only [List.getElem_cons_succ]); (try simp only [List.getElem_cons_zero]); (try simp only [Act.put]); (try simp only [List.setIfInBounds_toArray]); (try simp only [List.set_cons_succ]); (try simp only [List.set_cons_zero])))
        (refine wpAnyH_take (i := 17) (v := ?_) rfl (by kernel_rfl) (by kernel_rfl) (by kernel_rfl) (fun _ _ _ h => h) (Or.inl ⟨by rfl, ?_⟩) (by assumption) ?_; rotate_left; (intro w hSw; (try dsimp only at hSw); go_simp; try with_reducible rfl); ((try simp only [List.getElem_toArray]); (try simp only [List.getElem_cons_succ]); (try simp only [List.getElem_cons_zero]); (try simp only [Act.put]); (try simp only [List.setIfInBounds_toArray]); (try simp only [List.set_cons_succ]); (try simp only [List.set_cons_zero])))
        refine wpAnyH_ready (rs := [18]) (by kernel_rfl) (by simp) ?_
        refine AllReadyH.cons rfl (fun K2 hK2 => ?_) AllReadyH.nil
        go_simp
        refine (upTo_any t k _).mono ?_
        rintro e x18 ⟨rfl, hb18⟩
        have hS18 : (fun X : World => Hid (Below v0.heap.size v0 X) ∧ X.cell? ⟨w.heap.size, 0, none⟩ = some (.string t) ∧ X.cell? ⟨w.heap.size, 1, none⟩ = some (.bool true) ∧ X.cell? ⟨w.heap.size, 2, none⟩ = some (.string k)) x18 := ⟨(Hid.out (And.left hS9)).trans (hb18.out.mono (Hid.out (And.left hS9)).size), keepW hb18.out hS9.2.1, keepW hb18.out hS9.2.2.1, keepW hb18.out hS9.2.2.2⟩
        go_wp2_with fail
        refine hK2.out _ _ (by (try dsimp only); exact hS18) (fun _ => ?_)
        clear hK2 K2
        (try simp only [List.getElem_toArray]); (try simp only [List.getElem_cons_succ]); (try simp only [List.getElem_cons_zero]); (try simp only [Act.put]); (try simp only [List.setIfInBounds_toArray]); (try simp only [List.set_cons_succ]); (try simp only [List.set_cons_zero])
        (refine wpAnyH_take (i := 19) (v := ?_) rfl (by kernel_rfl) (by kernel_rfl) (by kernel_rfl) (fun _ _ _ h => h) (Or.inl ⟨by rfl, ?_⟩) (by assumption) ?_; rotate_left; (intro w hSw; (try dsimp only at hSw); go_simp; try with_reducible rfl); ((try simp only [List.getElem_toArray]); (try simp only [List.getElem_cons_succ]); (try simp only [List.getElem_cons_zero]); (try simp only [Act.put]); (try simp only [List.setIfInBounds_toArray]); (try simp only [List.set_cons_succ]); (try simp only [List.set_cons_zero])))
        (refine wpAnyH_take (i := 20) (v := ?_) rfl (by kernel_rfl) (by kernel_rfl) (by kernel_rfl) (fun _ _ _ h => h) (Or.inl ⟨by rfl, ?_⟩) (by assumption) ?_; rotate_left; (intro w hSw; (try dsimp only at hSw); go_simp; try with_reducible rfl); ((try simp only [List.getElem_toArray]); (try simp only [List.getElem_cons_succ]); (try simp only [List.getElem_cons_zero]); (try simp only [Act.put]); (try simp only [List.setIfInBounds_toArray]); (try simp only [List.set_cons_succ]); (try simp only [List.set_cons_zero])))
        (refine wpAnyH_take (i := 21) (v := undef) rfl (by kernel_rfl) (by kernel_rfl) (by kernel_rfl) (fun _ _ _ h => h) (Or.inr ⟨by rfl, rfl⟩) (by assumption) ?_; ((try simp only [List.getElem_toArray]); (try simp only [List.getElem_cons_succ]); (try simp only [List.getElem_cons_zero]); (try simp only [Act.put]); (try simp only [List.setIfInBounds_toArray]); (try simp only [List.set_cons_succ]); (try simp only [List.set_cons_zero])))
        (refine wpAnyH_take (i := 22) (v := undef) rfl (by kernel_rfl) (by kernel_rfl) (by kernel_rfl) (fun _ _ _ h => h) (Or.inr ⟨by rfl, rfl⟩) (by assumption) ?_; ((try simp only [List.getElem_toArray]); (try simp only [List.getElem_cons_succ]); (try simp only [List.getElem_cons_zero]); (try simp only [Act.put]); (try simp only [List.setIfInBounds_toArray]); (try simp only [List.set_cons_succ]); (try simp only [List.set_cons_zero])))
        (refine wpAnyH_take (i := 23) (v := undef) rfl (by kernel_rfl) (by kernel_rfl) (by kernel_rfl) (fun _ _ _ h => h) (Or.inr ⟨by rfl, rfl⟩) (by assumption) ?_; ((try simp only [List.getElem_toArray]); (try simp only [List.getElem_cons_succ]); (try simp only [List.getElem_cons_zero]); (try simp only [Act.put]); (try simp only [List.setIfInBounds_toArray]); (try simp only [List.set_cons_succ]); (try simp only [List.set_cons_zero])))
        (refine wpAnyH_take (i := 24) (v := ?_) rfl (by kernel_rfl) (by kernel_rfl) (by kernel_rfl) (fun _ _ _ h => h) (Or.inl ⟨by rfl, ?_⟩) (by assumption) ?_; rotate_left; (intro w hSw; (try dsimp only at hSw); go_simp; try with_reducible rfl); ((try simp only [List.getElem_toArray]); (try simp only [List.getElem_cons_succ]); (try simp only [List.getElem_cons_zero]); (try simp only [Act.put]); (try simp only [List.setIfInBounds_toArray]); (try simp only [List.set_cons_succ]); (try simp only [List.set_cons_zero])))
        (refine wpAnyH_take (i := 25) (v := ?_) rfl (by kernel_rfl) (by kernel_rfl) (by kernel_rfl) (fun _ _ _ h => h) (Or.inl ⟨by rfl, ?_⟩) (by assumption) ?_; rotate_left; (intro w hSw; (try dsimp only at hSw); go_simp; try with_reducible rfl); ((try simp only [List.getElem_toArray]); (try simp only [List.getElem_cons_succ]); (try simp only [List.getElem_cons_zero]); (try simp only [Act.put]); (try simp only [List.setIfInBounds_toArray]); (try simp only [List.set_cons_succ]); (try simp only [List.set_cons_zero])))
        (refine wpAnyH_take (i := 26) (v := ?_) rfl (by kernel_rfl) (by kernel_rfl) (by kernel_rfl) (fun _ _ _ h => h) (Or.inl ⟨by rfl, ?_⟩) (by assumption) ?_; rotate_left; (intro w hSw; (try dsimp only at hSw); go_simp; try with_reducible rfl); ((try simp only [List.getElem_toArray]); (try simp only [List.getElem_cons_succ]); (try simp only [List.getElem_cons_zero]); (try simp only [Act.put]); (try simp only [List.setIfInBounds_toArray]); (try simp only [List.set_cons_succ]); (try simp only [List.set_cons_zero])))
        refine wpAnyH_done (by kernel_rfl) ?_ _
        go_wp2_with fail
        go_ret
        exact ⟨by rw [HM.out]; simp [hk0], HB0.out.trans (Hid.out (And.left hS18) |>.mono HB0.out.size)⟩
set_option maxHeartbeats 4000000 in
theorem pwright_any {B : Nat} {v : Value} {T : List Wk} (w : World) (h : OwnW B w v T) (hl : T.length ≤ 800) (hf : ∀ x ∈ T, x.t.size ≤ 140737488355328 ∧ x.k.size ≤ 900) (hT : Tabs w) :
    Calls Tryz.prog 166 #[v] w fun e w' => e = .returned (.bool (wrightF T)) ∧ Hid (Below w.heap.size w w') := by
  obtain ⟨A, n, c, rfl, HN, hc, hm, HA, hz⟩ := ownW_open h
  have HF := Lib.hid hf
  have HTB := Lib.hid hT
  have HRF : Hid (wrightF T = wrightTo T n) := by show _ = _; unfold wrightF; rw [HN.out]
  obtain ⟨RF, hRF⟩ : ∃ x, wrightF T = x := ⟨_, rfl⟩
  rw [hRF] at HRF ⊢
  clear hz h hRF hf hT
  go_enter Tryz.func166, Tryz.ntmps166
  go_wp2_with fail
  go_loopw [7] (fun i wr => ∃ k : Nat, k ≤ n ∧ i = .int .i64 k ∧ Hid (wrightTo T k = true) ∧ Hid (Below w.heap.size w wr)) (fun i _ => n - (intOf i).toNat)
  case atStart => exact ⟨0, by omega, rfl, rfl, Below.refl _ _⟩
  case round =>
    obtain ⟨k, hk, rfl, HT, HB⟩ := hrel
    by_cases hlt : k < n
    · have hkl : k < T.length := by rw [HN.out]; exact hlt
      have HOK := Lib.hid (wrightTo_succ T k)
      have HNO := Lib.hid (wrightTo_false T k n hlt)
      obtain ⟨b, off, rfl, hc0⟩ := (HA.out.below HB.out) (by intro e; rw [e] at hkl; simp at hkl)
      obtain ⟨c0, c1, c2⟩ := hc0 k hkl
      have hkz : (k : Int) < (n : Int) := by omega
      have hxf := HF.out T[k] (List.getElem_mem hkl)
      have hpv : ∀ (h : 0 < k), ∃ s0 : ByteArray, wokAt T k = (mayW T[k] && Op.bytesLess s0.toList T[k].t.toList) ∧ wr.cell? ⟨b, off + (k - 1) * 3, none⟩ = some (.string s0) := fun h => ⟨_, wokAt_next T k hkl h, (hc0 (k - 1) (by omega)).1⟩
      have hfi : k = 0 → wokAt T k = mayW T[k] := fun h => by subst h; exact wokAt_first T hkl
      clear hc0
      generalize wokAt T k = tok at *
      generalize T[k] = x at *
      obtain ⟨s, xd, xk⟩ := x
      simp only at c0 c1 c2 hpv hfi hxf
      have HBv := Lib.hid ((Below.refl wr.heap.size wr).alloc (Nat.le_refl _) (.cells #[.string s, .bool xd, .string xk] 143))
      have HXv := Lib.hid (Has.new wr 143 #[.string s, .bool xd, .string xk])
      have HFx := Lib.hid hxf
      have HPV := Lib.hid hpv
      have HFI := Lib.hid hfi
      clear hxf hpv hfi
      obtain ⟨qm, hqm⟩ : ∃ q, mayW ⟨s, xd, xk⟩ = q := ⟨_, rfl⟩
      rw [hqm] at HPV HFI
      go_wp2_with fail
      obtain ⟨v0, hv0⟩ : ∃ W, W = (wr.alloc (.cells #[.string s, .bool xd, .string xk] 143)) := ⟨_, rfl⟩
      rw [← hv0] at HBv HXv ⊢
      clear hv0
      have y0 : v0.cell? ⟨wr.heap.size, 0, none⟩ = some (.string s) := HXv.out.cell 0
      have y1 : v0.cell? ⟨wr.heap.size, 1, none⟩ = some (.bool xd) := HXv.out.cell 1
      have y2 : v0.cell? ⟨wr.heap.size, 2, none⟩ = some (.string xk) := HXv.out.cell 2
      have HB0 := Lib.hid (HB.out.trans (HBv.out.mono HB.out.size))
      have CM := Lib.hid (fun (X : World) (hb : Hid (Below v0.heap.size v0 X)) => (pmayW_any s xk xd X HFx.out.1 HFx.out.2 (HTB.out.below (HB0.out.trans (hb.out.mono HB0.out.size)))).mono (R' := fun e w' => e = .returned (.bool qm) ∧ Hid (Below v0.heap.size v0 w')) fun e w' h => ⟨by rw [h.1, hqm], hb.out.trans (h.2.out.mono hb.out.size)⟩)
      by_cases hk0 : 0 < k
      · have hkz0 : (0 : Int) < (k : Int) := by omega
        have hkw : IntKind.i64.wrap ((k : Int) - 1) = ((k - 1 : Nat) : Int) := by rw [IntKind.wrap_i64]; omega
        have hkm1 : ((k - 1 : Nat) : Int) < (n : Int) := by omega
        have hkm2 : k - 1 < n := by omega
        obtain ⟨s0, htk, hc3⟩ := HPV.out hk0
        have e0 : v0.cell? ⟨b, off + (k - 1) * 3, none⟩ = some (.string s0) := (HBv.out.cell (World.block_lt_of_cell? _ _ hc3)).trans hc3
        obtain ⟨ql, hql⟩ : ∃ q, Op.bytesLess s0.toList s.toList = q := ⟨_, rfl⟩
        rw [hql] at htk
        have HTK := Lib.hid htk
        clear HPV HFI c0 c1 c2 hc3 htk hqm HFx HBv HXv
        have hS0 : (fun X : World => Hid (Below v0.heap.size v0 X) ∧ X.cell? ⟨wr.heap.size, 0, none⟩ = some (.string s) ∧ X.cell? ⟨wr.heap.size, 1, none⟩ = some (.bool xd) ∧ X.cell? ⟨wr.heap.size, 2, none⟩ = some (.string xk) ∧ X.cell? ⟨b, off + (k - 1) * 3, none⟩ = some (.string s0)) v0.drew := ⟨(Below.refl _ v0).drew, y0, y1, y2, e0⟩
        refine wp_region_held_drew (S := (fun X : World => Hid (Below v0.heap.size v0 X) ∧ X.cell? ⟨wr.heap.size, 0, none⟩ = some (.string s) ∧ X.cell? ⟨wr.heap.size, 1, none⟩ = some (.bool xd) ∧ X.cell? ⟨wr.heap.size, 2, none⟩ = some (.string xk) ∧ X.cell? ⟨b, off + (k - 1) * 3, none⟩ = some (.string s0))) (by kernel_rfl) hS0 (fun _ => ?_)
        (refine wpAnyH_take (i := 0) (v := ?_) rfl (by kernel_rfl) (by kernel_rfl) (by kernel_rfl) (fun _ _ _ h => h) (Or.inl ⟨by rfl, ?_⟩) (by assumption) ?_; rotate_left; (intro w hSw; (try dsimp only at hSw); go_simp; try with_reducible rfl); ((try simp only [List.getElem_toArray]); (try simp only [List.getElem_cons_succ]); (try simp only [List.getElem_cons_zero]); (try simp only [Act.put]); (try simp only [List.setIfInBounds_toArray]); (try simp only [List.set_cons_succ]); (try simp only [List.set_cons_zero])))
        refine wpAnyH_ready (rs := [1]) (by kernel_rfl) (by simp) ?_
        refine AllReadyH.cons rfl (fun K2 hK2 => ?_) AllReadyH.nil
        go_simp
        refine (CM.out _ hS0.1).mono ?_
        rintro e x1 ⟨rfl, hd⟩
        have hS1 : (fun X : World => Hid (Below v0.heap.size v0 X) ∧ X.cell? ⟨wr.heap.size, 0, none⟩ = some (.string s) ∧ X.cell? ⟨wr.heap.size, 1, none⟩ = some (.bool xd) ∧ X.cell? ⟨wr.heap.size, 2, none⟩ = some (.string xk) ∧ X.cell? ⟨b, off + (k - 1) * 3, none⟩ = some (.string s0)) x1 := ⟨hd, keepW hd.out y0, keepW hd.out y1, keepW hd.out y2, keepW hd.out e0⟩
        go_wp2_with fail
        refine hK2.out _ _ (by (try dsimp only); exact hS1) (fun _ => ?_)
        clear hK2 K2
        (try simp only [List.getElem_toArray]); (try simp only [List.getElem_cons_succ]); (try simp only [List.getElem_cons_zero]); (try simp only [Act.put]); (try simp only [List.setIfInBounds_toArray]); (try simp only [List.set_cons_succ]); (try simp only [List.set_cons_zero])
        cases qm
        · (refine wpAnyH_take (i := 2) (v := ?_) rfl (by kernel_rfl) (by kernel_rfl) (by kernel_rfl) (fun _ _ _ h => h) (Or.inl ⟨by rfl, ?_⟩) (by assumption) ?_; rotate_left; (intro w hSw; (try dsimp only at hSw); go_simp; try with_reducible rfl); ((try simp only [List.getElem_toArray]); (try simp only [List.getElem_cons_succ]); (try simp only [List.getElem_cons_zero]); (try simp only [Act.put]); (try simp only [List.setIfInBounds_toArray]); (try simp only [List.set_cons_succ]); (try simp only [List.set_cons_zero])))
          (refine wpAnyH_take (i := 3) (v := ?_) rfl (by kernel_rfl) (by kernel_rfl) (by kernel_rfl) (fun _ _ _ h => h) (Or.inl ⟨by rfl, ?_⟩) (by assumption) ?_; rotate_left; (intro w hSw; (try dsimp only at hSw); go_simp; try with_reducible rfl); ((try simp only [List.getElem_toArray]); (try simp only [List.getElem_cons_succ]); (try simp only [List.getElem_cons_zero]); (try simp only [Act.put]); (try simp only [List.setIfInBounds_toArray]); (try simp only [List.set_cons_succ]); (try simp only [List.set_cons_zero])))
          (refine wpAnyH_take (i := 4) (v := undef) rfl (by kernel_rfl) (by kernel_rfl) (by kernel_rfl) (fun _ _ _ h => h) (Or.inr ⟨by rfl, rfl⟩) (by assumption) ?_; ((try simp only [List.getElem_toArray]); (try simp only [List.getElem_cons_succ]); (try simp only [List.getElem_cons_zero]); (try simp only [Act.put]); (try simp only [List.setIfInBounds_toArray]); (try simp only [List.set_cons_succ]); (try simp only [List.set_cons_zero])))
          (refine wpAnyH_take (i := 5) (v := undef) rfl (by kernel_rfl) (by kernel_rfl) (by kernel_rfl) (fun _ _ _ h => h) (Or.inr ⟨by rfl, rfl⟩) (by assumption) ?_; ((try simp only [List.getElem_toArray]); (try simp only [List.getElem_cons_succ]); (try simp only [List.getElem_cons_zero]); (try simp only [Act.put]); (try simp only [List.setIfInBounds_toArray]); (try simp only [List.set_cons_succ]); (try simp only [List.set_cons_zero])))
          (refine wpAnyH_take (i := 6) (v := undef) rfl (by kernel_rfl) (by kernel_rfl) (by kernel_rfl) (fun _ _ _ h => h) (Or.inr ⟨by rfl, rfl⟩) (by assumption) ?_; ((try simp only [List.getElem_toArray]); (try simp only [List.getElem_cons_succ]); (try simp only [List.getElem_cons_zero]); (try simp only [Act.put]); (try simp only [List.setIfInBounds_toArray]); (try simp only [List.set_cons_succ]); (try simp only [List.set_cons_zero])))
          (refine wpAnyH_take (i := 7) (v := undef) rfl (by kernel_rfl) (by kernel_rfl) (by kernel_rfl) (fun _ _ _ h => h) (Or.inr ⟨by rfl, rfl⟩) (by assumption) ?_; ((try simp only [List.getElem_toArray]); (try simp only [List.getElem_cons_succ]); (try simp only [List.getElem_cons_zero]); (try simp only [Act.put]); (try simp only [List.setIfInBounds_toArray]); (try simp only [List.set_cons_succ]); (try simp only [List.set_cons_zero])))
          (refine wpAnyH_take (i := 8) (v := undef) rfl (by kernel_rfl) (by kernel_rfl) (by kernel_rfl) (fun _ _ _ h => h) (Or.inr ⟨by rfl, rfl⟩) (by assumption) ?_; ((try simp only [List.getElem_toArray]); (try simp only [List.getElem_cons_succ]); (try simp only [List.getElem_cons_zero]); (try simp only [Act.put]); (try simp only [List.setIfInBounds_toArray]); (try simp only [List.set_cons_succ]); (try simp only [List.set_cons_zero])))
          (refine wpAnyH_take (i := 9) (v := undef) rfl (by kernel_rfl) (by kernel_rfl) (by kernel_rfl) (fun _ _ _ h => h) (Or.inr ⟨by rfl, rfl⟩) (by assumption) ?_; ((try simp only [List.getElem_toArray]); (try simp only [List.getElem_cons_succ]); (try simp only [List.getElem_cons_zero]); (try simp only [Act.put]); (try simp only [List.setIfInBounds_toArray]); (try simp only [List.set_cons_succ]); (try simp only [List.set_cons_zero])))
          (refine wpAnyH_take (i := 10) (v := undef) rfl (by kernel_rfl) (by kernel_rfl) (by kernel_rfl) (fun _ _ _ h => h) (Or.inr ⟨by rfl, rfl⟩) (by assumption) ?_; ((try simp only [List.getElem_toArray]); (try simp only [List.getElem_cons_succ]); (try simp only [List.getElem_cons_zero]); (try simp only [Act.put]); (try simp only [List.setIfInBounds_toArray]); (try simp only [List.set_cons_succ]); (try simp only [List.set_cons_zero])))
          (refine wpAnyH_take (i := 11) (v := undef) rfl (by kernel_rfl) (by kernel_rfl) (by kernel_rfl) (fun _ _ _ h => h) (Or.inr ⟨by rfl, rfl⟩) (by assumption) ?_; ((try simp only [List.getElem_toArray]); (try simp only [List.getElem_cons_succ]); (try simp only [List.getElem_cons_zero]); (try simp only [Act.put]); (try simp only [List.setIfInBounds_toArray]); (try simp only [List.set_cons_succ]); (try simp only [List.set_cons_zero])))
          (refine wpAnyH_take (i := 12) (v := undef) rfl (by kernel_rfl) (by kernel_rfl) (by kernel_rfl) (fun _ _ _ h => h) (Or.inr ⟨by rfl, rfl⟩) (by assumption) ?_; ((try simp only [List.getElem_toArray]); (try simp only [List.getElem_cons_succ]); (try simp only [List.getElem_cons_zero]); (try simp only [Act.put]); (try simp only [List.setIfInBounds_toArray]); (try simp only [List.set_cons_succ]); (try simp only [List.set_cons_zero])))
          (refine wpAnyH_take (i := 13) (v := undef) rfl (by kernel_rfl) (by kernel_rfl) (by kernel_rfl) (fun _ _ _ h => h) (Or.inr ⟨by rfl, rfl⟩) (by assumption) ?_; ((try simp only [List.getElem_toArray]); (try simp only [List.getElem_cons_succ]); (try simp only [List.getElem_cons_zero]); (try simp only [Act.put]); (try simp only [List.setIfInBounds_toArray]); (try simp only [List.set_cons_succ]); (try simp only [List.set_cons_zero])))
          (refine wpAnyH_take (i := 14) (v := undef) rfl (by kernel_rfl) (by kernel_rfl) (by kernel_rfl) (fun _ _ _ h => h) (Or.inr ⟨by rfl, rfl⟩) (by assumption) ?_; ((try simp only [List.getElem_toArray]); (try simp only [List.getElem_cons_succ]); (try simp only [List.getElem_cons_zero]); (try simp only [Act.put]); (try simp only [List.setIfInBounds_toArray]); (try simp only [List.set_cons_succ]); (try simp only [List.set_cons_zero])))
          (refine wpAnyH_take (i := 15) (v := undef) rfl (by kernel_rfl) (by kernel_rfl) (by kernel_rfl) (fun _ _ _ h => h) (Or.inr ⟨by rfl, rfl⟩) (by assumption) ?_; ((try simp only [List.getElem_toArray]); (try simp only [List.getElem_cons_succ]); (try simp only [List.getElem_cons_zero]); (try simp only [Act.put]); (try simp only [List.setIfInBounds_toArray]); (try simp only [List.set_cons_succ]); (try simp only [List.set_cons_zero])))
          (refine wpAnyH_take (i := 16) (v := undef) rfl (by kernel_rfl) (by kernel_rfl) (by kernel_rfl) (fun _ _ _ h => h) (Or.inr ⟨by rfl, rfl⟩) (by assumption) ?_; ((try simp only [List.getElem_toArray]); (try simp only [List.getElem_cons_succ]); (try simp only [List.getElem_cons_zero]); (try simp only [Act.put]); (try simp only [List.setIfInBounds_toArray]); (try simp only [List.set_cons_succ]); (try simp only [List.set_cons_zero])))
          (refine wpAnyH_take (i := 17) (v := ?_) rfl (by kernel_rfl) (by kernel_rfl) (by kernel_rfl) (fun _ _ _ h => h) (Or.inl ⟨by rfl, ?_⟩) (by assumption) ?_; rotate_left; (intro w hSw; (try dsimp only at hSw); go_simp; try with_reducible rfl); ((try simp only [List.getElem_toArray]); (try simp only [List.getElem_cons_succ]); (try simp only [List.getElem_cons_zero]); (try simp only [Act.put]); (try simp only [List.setIfInBounds_toArray]); (try simp only [List.set_cons_succ]); (try simp only [List.set_cons_zero])))
          refine wpAnyH_done (by kernel_rfl) ?_ _
          go_wp2_with fail
          go_ret
          exact ⟨by rw [HRF.out, HNO.out (HTK.out.trans (by rfl))]; rfl, HB0.out.trans (hd.out.mono HB0.out.size)⟩
        · cases ql
          · rcases leq_is hql with hq | ⟨hq, hq2⟩
            · (refine wpAnyH_take (i := 2) (v := ?_) rfl (by kernel_rfl) (by kernel_rfl) (by kernel_rfl) (fun _ _ _ h => h) (Or.inl ⟨by rfl, ?_⟩) (by assumption) ?_; rotate_left; (intro w hSw; (try dsimp only at hSw); go_simp; try with_reducible rfl); ((try simp only [List.getElem_toArray]); (try simp only [List.getElem_cons_succ]); (try simp only [List.getElem_cons_zero]); (try simp only [Act.put]); (try simp only [List.setIfInBounds_toArray]); (try simp only [List.set_cons_succ]); (try simp only [List.set_cons_zero])))
              (refine wpAnyH_take (i := 3) (v := ?_) rfl (by kernel_rfl) (by kernel_rfl) (by kernel_rfl) (fun _ _ _ h => h) (Or.inl ⟨by rfl, ?_⟩) (by assumption) ?_; rotate_left; (intro w hSw; (try dsimp only at hSw); go_simp; try with_reducible rfl); ((try simp only [List.getElem_toArray]); (try simp only [List.getElem_cons_succ]); (try simp only [List.getElem_cons_zero]); (try simp only [Act.put]); (try simp only [List.setIfInBounds_toArray]); (try simp only [List.set_cons_succ]); (try simp only [List.set_cons_zero])))
              (refine wpAnyH_take (i := 4) (v := ?_) rfl (by kernel_rfl) (by kernel_rfl) (by kernel_rfl) (fun _ _ _ h => h) (Or.inl ⟨by rfl, ?_⟩) (by assumption) ?_; rotate_left; (intro w hSw; (try dsimp only at hSw); go_simp; try with_reducible rfl); ((try simp only [List.getElem_toArray]); (try simp only [List.getElem_cons_succ]); (try simp only [List.getElem_cons_zero]); (try simp only [Act.put]); (try simp only [List.setIfInBounds_toArray]); (try simp only [List.set_cons_succ]); (try simp only [List.set_cons_zero])))
              (refine wpAnyH_take (i := 5) (v := ?_) rfl (by kernel_rfl) (by kernel_rfl) (by kernel_rfl) (fun _ _ _ h => h) (Or.inl ⟨by rfl, ?_⟩) (by assumption) ?_; rotate_left; (intro w hSw; (try dsimp only at hSw); go_simp; try with_reducible rfl); ((try simp only [List.getElem_toArray]); (try simp only [List.getElem_cons_succ]); (try simp only [List.getElem_cons_zero]); (try simp only [Act.put]); (try simp only [List.setIfInBounds_toArray]); (try simp only [List.set_cons_succ]); (try simp only [List.set_cons_zero])))
              (refine wpAnyH_take (i := 6) (v := ?_) rfl (by kernel_rfl) (by kernel_rfl) (by kernel_rfl) (fun _ _ _ h => h) (Or.inl ⟨by rfl, ?_⟩) (by assumption) ?_; rotate_left; (intro w hSw; (try dsimp only at hSw); go_simp; try with_reducible rfl); ((try simp only [List.getElem_toArray]); (try simp only [List.getElem_cons_succ]); (try simp only [List.getElem_cons_zero]); (try simp only [Act.put]); (try simp only [List.setIfInBounds_toArray]); (try simp only [List.set_cons_succ]); (try simp only [List.set_cons_zero])))
              (refine wpAnyH_take (i := 7) (v := ?_) rfl (by kernel_rfl) (by kernel_rfl) (by kernel_rfl) (fun _ _ _ h => h) (Or.inl ⟨by rfl, ?_⟩) (by assumption) ?_; rotate_left; (intro w hSw; (try dsimp only at hSw); go_simp; try with_reducible rfl); ((try simp only [List.getElem_toArray]); (try simp only [List.getElem_cons_succ]); (try simp only [List.getElem_cons_zero]); (try simp only [Act.put]); (try simp only [List.setIfInBounds_toArray]); (try simp only [List.set_cons_succ]); (try simp only [List.set_cons_zero])))
              (refine wpAnyH_take (i := 8) (v := ?_) rfl (by kernel_rfl) (by kernel_rfl) (by kernel_rfl) (fun _ _ _ h => h) (Or.inl ⟨by rfl, ?_⟩) (by assumption) ?_; rotate_left; (intro w hSw; (try dsimp only at hSw); go_simp; try with_reducible rfl); ((try simp only [List.getElem_toArray]); (try simp only [List.getElem_cons_succ]); (try simp only [List.getElem_cons_zero]); (try simp only [Act.put]); (try simp only [List.setIfInBounds_toArray]); (try simp only [List.set_cons_succ]); (try simp only [List.set_cons_zero])))
              (refine wpAnyH_take (i := 9) (v := ?_) rfl (by kernel_rfl) (by kernel_rfl) (by kernel_rfl) (fun _ _ _ h => h) (Or.inl ⟨by rfl, ?_⟩) (by assumption) ?_; rotate_left; (intro w hSw; (try dsimp only at hSw); go_simp; try with_reducible rfl); ((try simp only [List.getElem_toArray]); (try simp only [List.getElem_cons_succ]); (try simp only [List.getElem_cons_zero]); (try simp only [Act.put]); (try simp only [List.setIfInBounds_toArray]); (try simp only [List.set_cons_succ]); (try simp only [List.set_cons_zero])))
              (refine wpAnyH_take (i := 10) (v := ?_) rfl (by kernel_rfl) (by kernel_rfl) (by kernel_rfl) (fun _ _ _ h => h) (Or.inl ⟨by rfl, ?_⟩) (by assumption) ?_; rotate_left; (intro w hSw; (try dsimp only at hSw); go_simp; try with_reducible rfl); ((try simp only [List.getElem_toArray]); (try simp only [List.getElem_cons_succ]); (try simp only [List.getElem_cons_zero]); (try simp only [Act.put]); (try simp only [List.setIfInBounds_toArray]); (try simp only [List.set_cons_succ]); (try simp only [List.set_cons_zero])))
              (refine wpAnyH_take (i := 11) (v := ?_) rfl (by kernel_rfl) (by kernel_rfl) (by kernel_rfl) (fun _ _ _ h => h) (Or.inl ⟨by rfl, ?_⟩) (by assumption) ?_; rotate_left; (intro w hSw; (try dsimp only at hSw); go_simp; try with_reducible rfl); ((try simp only [List.getElem_toArray]); (try simp only [List.getElem_cons_succ]); (try simp only [List.getElem_cons_zero]); (try simp only [Act.put]); (try simp only [List.setIfInBounds_toArray]); (try simp only [List.set_cons_succ]); (try simp only [List.set_cons_zero])))
              (refine wpAnyH_take (i := 12) (v := ?_) rfl (by kernel_rfl) (by kernel_rfl) (by kernel_rfl) (fun _ _ _ h => h) (Or.inl ⟨by rfl, ?_⟩) (by assumption) ?_; rotate_left; (intro w hSw; (try dsimp only at hSw); go_simp; try with_reducible rfl); ((try simp only [List.getElem_toArray]); (try simp only [List.getElem_cons_succ]); (try simp only [List.getElem_cons_zero]); (try simp only [Act.put]); (try simp only [List.setIfInBounds_toArray]); (try simp only [List.set_cons_succ]); (try simp only [List.set_cons_zero])))
              (refine wpAnyH_take (i := 13) (v := ?_) rfl (by kernel_rfl) (by kernel_rfl) (by kernel_rfl) (fun _ _ _ h => h) (Or.inl ⟨by rfl, ?_⟩) (by assumption) ?_; rotate_left; (intro w hSw; (try dsimp only at hSw); go_simp; try with_reducible rfl); ((try simp only [List.getElem_toArray]); (try simp only [List.getElem_cons_succ]); (try simp only [List.getElem_cons_zero]); (try simp only [Act.put]); (try simp only [List.setIfInBounds_toArray]); (try simp only [List.set_cons_succ]); (try simp only [List.set_cons_zero])))
              (refine wpAnyH_take (i := 14) (v := ?_) rfl (by kernel_rfl) (by kernel_rfl) (by kernel_rfl) (fun _ _ _ h => h) (Or.inl ⟨by rfl, ?_⟩) (by assumption) ?_; rotate_left; (intro w hSw; (try dsimp only at hSw); go_simp; try with_reducible rfl); ((try simp only [List.getElem_toArray]); (try simp only [List.getElem_cons_succ]); (try simp only [List.getElem_cons_zero]); (try simp only [Act.put]); (try simp only [List.setIfInBounds_toArray]); (try simp only [List.set_cons_succ]); (try simp only [List.set_cons_zero])))
              (refine wpAnyH_take (i := 15) (v := ?_) rfl (by kernel_rfl) (by kernel_rfl) (by kernel_rfl) (fun _ _ _ h => h) (Or.inl ⟨by rfl, ?_⟩) (by assumption) ?_; rotate_left; (intro w hSw; (try dsimp only at hSw); go_simp; try with_reducible rfl); ((try simp only [List.getElem_toArray]); (try simp only [List.getElem_cons_succ]); (try simp only [List.getElem_cons_zero]); (try simp only [Act.put]); (try simp only [List.setIfInBounds_toArray]); (try simp only [List.set_cons_succ]); (try simp only [List.set_cons_zero])))
              (refine wpAnyH_take (i := 16) (v := ?_) rfl (by kernel_rfl) (by kernel_rfl) (by kernel_rfl) (fun _ _ _ h => h) (Or.inl ⟨by rfl, ?_⟩) (by assumption) ?_; rotate_left; (intro w hSw; (try dsimp only at hSw); go_simp; try with_reducible rfl); ((try simp only [List.getElem_toArray]); (try simp only [List.getElem_cons_succ]); (try simp only [List.getElem_cons_zero]); (try simp only [Act.put]); (try simp only [List.setIfInBounds_toArray]); (try simp only [List.set_cons_succ]); (try simp only [List.set_cons_zero])))
              (refine wpAnyH_take (i := 17) (v := ?_) rfl (by kernel_rfl) (by kernel_rfl) (by kernel_rfl) (fun _ _ _ h => h) (Or.inl ⟨by rfl, ?_⟩) (by assumption) ?_; rotate_left; (intro w hSw; (try dsimp only at hSw); go_simp; try with_reducible rfl); ((try simp only [List.getElem_toArray]); (try simp only [List.getElem_cons_succ]); (try simp only [List.getElem_cons_zero]); (try simp only [Act.put]); (try simp only [List.setIfInBounds_toArray]); (try simp only [List.set_cons_succ]); (try simp only [List.set_cons_zero])))
              refine wpAnyH_done (by kernel_rfl) ?_ _
              go_wp2_with fail
              go_ret
              exact ⟨by rw [HRF.out, HNO.out (HTK.out.trans (by rfl))]; rfl, HB0.out.trans (hd.out.mono HB0.out.size)⟩
            · (refine wpAnyH_take (i := 2) (v := ?_) rfl (by kernel_rfl) (by kernel_rfl) (by kernel_rfl) (fun _ _ _ h => h) (Or.inl ⟨by rfl, ?_⟩) (by assumption) ?_; rotate_left; (intro w hSw; (try dsimp only at hSw); go_simp; try with_reducible rfl); ((try simp only [List.getElem_toArray]); (try simp only [List.getElem_cons_succ]); (try simp only [List.getElem_cons_zero]); (try simp only [Act.put]); (try simp only [List.setIfInBounds_toArray]); (try simp only [List.set_cons_succ]); (try simp only [List.set_cons_zero])))
              (refine wpAnyH_take (i := 3) (v := ?_) rfl (by kernel_rfl) (by kernel_rfl) (by kernel_rfl) (fun _ _ _ h => h) (Or.inl ⟨by rfl, ?_⟩) (by assumption) ?_; rotate_left; (intro w hSw; (try dsimp only at hSw); go_simp; try with_reducible rfl); ((try simp only [List.getElem_toArray]); (try simp only [List.getElem_cons_succ]); (try simp only [List.getElem_cons_zero]); (try simp only [Act.put]); (try simp only [List.setIfInBounds_toArray]); (try simp only [List.set_cons_succ]); (try simp only [List.set_cons_zero])))
              (refine wpAnyH_take (i := 4) (v := ?_) rfl (by kernel_rfl) (by kernel_rfl) (by kernel_rfl) (fun _ _ _ h => h) (Or.inl ⟨by rfl, ?_⟩) (by assumption) ?_; rotate_left; (intro w hSw; (try dsimp only at hSw); go_simp; try with_reducible rfl); ((try simp only [List.getElem_toArray]); (try simp only [List.getElem_cons_succ]); (try simp only [List.getElem_cons_zero]); (try simp only [Act.put]); (try simp only [List.setIfInBounds_toArray]); (try simp only [List.set_cons_succ]); (try simp only [List.set_cons_zero])))
              (refine wpAnyH_take (i := 5) (v := ?_) rfl (by kernel_rfl) (by kernel_rfl) (by kernel_rfl) (fun _ _ _ h => h) (Or.inl ⟨by rfl, ?_⟩) (by assumption) ?_; rotate_left; (intro w hSw; (try dsimp only at hSw); go_simp; try with_reducible rfl); ((try simp only [List.getElem_toArray]); (try simp only [List.getElem_cons_succ]); (try simp only [List.getElem_cons_zero]); (try simp only [Act.put]); (try simp only [List.setIfInBounds_toArray]); (try simp only [List.set_cons_succ]); (try simp only [List.set_cons_zero])))
              (refine wpAnyH_take (i := 6) (v := ?_) rfl (by kernel_rfl) (by kernel_rfl) (by kernel_rfl) (fun _ _ _ h => h) (Or.inl ⟨by rfl, ?_⟩) (by assumption) ?_; rotate_left; (intro w hSw; (try dsimp only at hSw); go_simp; try with_reducible rfl); ((try simp only [List.getElem_toArray]); (try simp only [List.getElem_cons_succ]); (try simp only [List.getElem_cons_zero]); (try simp only [Act.put]); (try simp only [List.setIfInBounds_toArray]); (try simp only [List.set_cons_succ]); (try simp only [List.set_cons_zero])))
              (refine wpAnyH_take (i := 7) (v := ?_) rfl (by kernel_rfl) (by kernel_rfl) (by kernel_rfl) (fun _ _ _ h => h) (Or.inl ⟨by rfl, ?_⟩) (by assumption) ?_; rotate_left; (intro w hSw; (try dsimp only at hSw); go_simp; try with_reducible rfl); ((try simp only [List.getElem_toArray]); (try simp only [List.getElem_cons_succ]); (try simp only [List.getElem_cons_zero]); (try simp only [Act.put]); (try simp only [List.setIfInBounds_toArray]); (try simp only [List.set_cons_succ]); (try simp only [List.set_cons_zero])))
              (refine wpAnyH_take (i := 8) (v := ?_) rfl (by kernel_rfl) (by kernel_rfl) (by kernel_rfl) (fun _ _ _ h => h) (Or.inl ⟨by rfl, ?_⟩) (by assumption) ?_; rotate_left; (intro w hSw; (try dsimp only at hSw); go_simp; try with_reducible rfl); ((try simp only [List.getElem_toArray]); (try simp only [List.getElem_cons_succ]); (try simp only [List.getElem_cons_zero]); (try simp only [Act.put]); (try simp only [List.setIfInBounds_toArray]); (try simp only [List.set_cons_succ]); (try simp only [List.set_cons_zero])))
              (refine wpAnyH_take (i := 9) (v := ?_) rfl (by kernel_rfl) (by kernel_rfl) (by kernel_rfl) (fun _ _ _ h => h) (Or.inl ⟨by rfl, ?_⟩) (by assumption) ?_; rotate_left; (intro w hSw; (try dsimp only at hSw); go_simp; try with_reducible rfl); ((try simp only [List.getElem_toArray]); (try simp only [List.getElem_cons_succ]); (try simp only [List.getElem_cons_zero]); (try simp only [Act.put]); (try simp only [List.setIfInBounds_toArray]); (try simp only [List.set_cons_succ]); (try simp only [List.set_cons_zero])))
              (refine wpAnyH_take (i := 10) (v := ?_) rfl (by kernel_rfl) (by kernel_rfl) (by kernel_rfl) (fun _ _ _ h => h) (Or.inl ⟨by rfl, ?_⟩) (by assumption) ?_; rotate_left; (intro w hSw; (try dsimp only at hSw); go_simp; try with_reducible rfl); ((try simp only [List.getElem_toArray]); (try simp only [List.getElem_cons_succ]); (try simp only [List.getElem_cons_zero]); (try simp only [Act.put]); (try simp only [List.setIfInBounds_toArray]); (try simp only [List.set_cons_succ]); (try simp only [List.set_cons_zero])))
              (refine wpAnyH_take (i := 11) (v := ?_) rfl (by kernel_rfl) (by kernel_rfl) (by kernel_rfl) (fun _ _ _ h => h) (Or.inl ⟨by rfl, ?_⟩) (by assumption) ?_; rotate_left; (intro w hSw; (try dsimp only at hSw); go_simp; try with_reducible rfl); ((try simp only [List.getElem_toArray]); (try simp only [List.getElem_cons_succ]); (try simp only [List.getElem_cons_zero]); (try simp only [Act.put]); (try simp only [List.setIfInBounds_toArray]); (try simp only [List.set_cons_succ]); (try simp only [List.set_cons_zero])))
              (refine wpAnyH_take (i := 12) (v := ?_) rfl (by kernel_rfl) (by kernel_rfl) (by kernel_rfl) (fun _ _ _ h => h) (Or.inl ⟨by rfl, ?_⟩) (by assumption) ?_; rotate_left; (intro w hSw; (try dsimp only at hSw); go_simp; try with_reducible rfl); ((try simp only [List.getElem_toArray]); (try simp only [List.getElem_cons_succ]); (try simp only [List.getElem_cons_zero]); (try simp only [Act.put]); (try simp only [List.setIfInBounds_toArray]); (try simp only [List.set_cons_succ]); (try simp only [List.set_cons_zero])))
              (refine wpAnyH_take (i := 13) (v := ?_) rfl (by kernel_rfl) (by kernel_rfl) (by kernel_rfl) (fun _ _ _ h => h) (Or.inl ⟨by rfl, ?_⟩) (by assumption) ?_; rotate_left; (intro w hSw; (try dsimp only at hSw); go_simp; try with_reducible rfl); ((try simp only [List.getElem_toArray]); (try simp only [List.getElem_cons_succ]); (try simp only [List.getElem_cons_zero]); (try simp only [Act.put]); (try simp only [List.setIfInBounds_toArray]); (try simp only [List.set_cons_succ]); (try simp only [List.set_cons_zero])))
              (refine wpAnyH_take (i := 14) (v := ?_) rfl (by kernel_rfl) (by kernel_rfl) (by kernel_rfl) (fun _ _ _ h => h) (Or.inl ⟨by rfl, ?_⟩) (by assumption) ?_; rotate_left; (intro w hSw; (try dsimp only at hSw); go_simp; try with_reducible rfl); ((try simp only [List.getElem_toArray]); (try simp only [List.getElem_cons_succ]); (try simp only [List.getElem_cons_zero]); (try simp only [Act.put]); (try simp only [List.setIfInBounds_toArray]); (try simp only [List.set_cons_succ]); (try simp only [List.set_cons_zero])))
              (refine wpAnyH_take (i := 15) (v := ?_) rfl (by kernel_rfl) (by kernel_rfl) (by kernel_rfl) (fun _ _ _ h => h) (Or.inl ⟨by rfl, ?_⟩) (by assumption) ?_; rotate_left; (intro w hSw; (try dsimp only at hSw); go_simp; try with_reducible rfl); ((try simp only [List.getElem_toArray]); (try simp only [List.getElem_cons_succ]); (try simp only [List.getElem_cons_zero]); (try simp only [Act.put]); (try simp only [List.setIfInBounds_toArray]); (try simp only [List.set_cons_succ]); (try simp only [List.set_cons_zero])))
              (refine wpAnyH_take (i := 16) (v := ?_) rfl (by kernel_rfl) (by kernel_rfl) (by kernel_rfl) (fun _ _ _ h => h) (Or.inl ⟨by rfl, ?_⟩) (by assumption) ?_; rotate_left; (intro w hSw; (try dsimp only at hSw); go_simp; try with_reducible rfl); ((try simp only [List.getElem_toArray]); (try simp only [List.getElem_cons_succ]); (try simp only [List.getElem_cons_zero]); (try simp only [Act.put]); (try simp only [List.setIfInBounds_toArray]); (try simp only [List.set_cons_succ]); (try simp only [List.set_cons_zero])))
              (refine wpAnyH_take (i := 17) (v := ?_) rfl (by kernel_rfl) (by kernel_rfl) (by kernel_rfl) (fun _ _ _ h => h) (Or.inl ⟨by rfl, ?_⟩) (by assumption) ?_; rotate_left; (intro w hSw; (try dsimp only at hSw); go_simp; try with_reducible rfl); ((try simp only [List.getElem_toArray]); (try simp only [List.getElem_cons_succ]); (try simp only [List.getElem_cons_zero]); (try simp only [Act.put]); (try simp only [List.setIfInBounds_toArray]); (try simp only [List.set_cons_succ]); (try simp only [List.set_cons_zero])))
              refine wpAnyH_done (by kernel_rfl) ?_ _
              go_wp2_with fail
              go_ret
              exact ⟨by rw [HRF.out, HNO.out (HTK.out.trans (by rfl))]; rfl, HB0.out.trans (hd.out.mono HB0.out.size)⟩
          · obtain ⟨hq, hq2⟩ := leq_not hql
            (refine wpAnyH_take (i := 2) (v := ?_) rfl (by kernel_rfl) (by kernel_rfl) (by kernel_rfl) (fun _ _ _ h => h) (Or.inl ⟨by rfl, ?_⟩) (by assumption) ?_; rotate_left; (intro w hSw; (try dsimp only at hSw); go_simp; try with_reducible rfl); ((try simp only [List.getElem_toArray]); (try simp only [List.getElem_cons_succ]); (try simp only [List.getElem_cons_zero]); (try simp only [Act.put]); (try simp only [List.setIfInBounds_toArray]); (try simp only [List.set_cons_succ]); (try simp only [List.set_cons_zero])))
            (refine wpAnyH_take (i := 3) (v := ?_) rfl (by kernel_rfl) (by kernel_rfl) (by kernel_rfl) (fun _ _ _ h => h) (Or.inl ⟨by rfl, ?_⟩) (by assumption) ?_; rotate_left; (intro w hSw; (try dsimp only at hSw); go_simp; try with_reducible rfl); ((try simp only [List.getElem_toArray]); (try simp only [List.getElem_cons_succ]); (try simp only [List.getElem_cons_zero]); (try simp only [Act.put]); (try simp only [List.setIfInBounds_toArray]); (try simp only [List.set_cons_succ]); (try simp only [List.set_cons_zero])))
            (refine wpAnyH_take (i := 4) (v := ?_) rfl (by kernel_rfl) (by kernel_rfl) (by kernel_rfl) (fun _ _ _ h => h) (Or.inl ⟨by rfl, ?_⟩) (by assumption) ?_; rotate_left; (intro w hSw; (try dsimp only at hSw); go_simp; try with_reducible rfl); ((try simp only [List.getElem_toArray]); (try simp only [List.getElem_cons_succ]); (try simp only [List.getElem_cons_zero]); (try simp only [Act.put]); (try simp only [List.setIfInBounds_toArray]); (try simp only [List.set_cons_succ]); (try simp only [List.set_cons_zero])))
            (refine wpAnyH_take (i := 5) (v := ?_) rfl (by kernel_rfl) (by kernel_rfl) (by kernel_rfl) (fun _ _ _ h => h) (Or.inl ⟨by rfl, ?_⟩) (by assumption) ?_; rotate_left; (intro w hSw; (try dsimp only at hSw); go_simp; try with_reducible rfl); ((try simp only [List.getElem_toArray]); (try simp only [List.getElem_cons_succ]); (try simp only [List.getElem_cons_zero]); (try simp only [Act.put]); (try simp only [List.setIfInBounds_toArray]); (try simp only [List.set_cons_succ]); (try simp only [List.set_cons_zero])))
            (refine wpAnyH_take (i := 6) (v := ?_) rfl (by kernel_rfl) (by kernel_rfl) (by kernel_rfl) (fun _ _ _ h => h) (Or.inl ⟨by rfl, ?_⟩) (by assumption) ?_; rotate_left; (intro w hSw; (try dsimp only at hSw); go_simp; try with_reducible rfl); ((try simp only [List.getElem_toArray]); (try simp only [List.getElem_cons_succ]); (try simp only [List.getElem_cons_zero]); (try simp only [Act.put]); (try simp only [List.setIfInBounds_toArray]); (try simp only [List.set_cons_succ]); (try simp only [List.set_cons_zero])))
            (refine wpAnyH_take (i := 7) (v := ?_) rfl (by kernel_rfl) (by kernel_rfl) (by kernel_rfl) (fun _ _ _ h => h) (Or.inl ⟨by rfl, ?_⟩) (by assumption) ?_; rotate_left; (intro w hSw; (try dsimp only at hSw); go_simp; try with_reducible rfl); ((try simp only [List.getElem_toArray]); (try simp only [List.getElem_cons_succ]); (try simp only [List.getElem_cons_zero]); (try simp only [Act.put]); (try simp only [List.setIfInBounds_toArray]); (try simp only [List.set_cons_succ]); (try simp only [List.set_cons_zero])))
            (refine wpAnyH_take (i := 8) (v := ?_) rfl (by kernel_rfl) (by kernel_rfl) (by kernel_rfl) (fun _ _ _ h => h) (Or.inl ⟨by rfl, ?_⟩) (by assumption) ?_; rotate_left; (intro w hSw; (try dsimp only at hSw); go_simp; try with_reducible rfl); ((try simp only [List.getElem_toArray]); (try simp only [List.getElem_cons_succ]); (try simp only [List.getElem_cons_zero]); (try simp only [Act.put]); (try simp only [List.setIfInBounds_toArray]); (try simp only [List.set_cons_succ]); (try simp only [List.set_cons_zero])))
            (refine wpAnyH_take (i := 9) (v := ?_) rfl (by kernel_rfl) (by kernel_rfl) (by kernel_rfl) (fun _ _ _ h => h) (Or.inl ⟨by rfl, ?_⟩) (by assumption) ?_; rotate_left; (intro w hSw; (try dsimp only at hSw); go_simp; try with_reducible rfl); ((try simp only [List.getElem_toArray]); (try simp only [List.getElem_cons_succ]); (try simp only [List.getElem_cons_zero]); (try simp only [Act.put]); (try simp only [List.setIfInBounds_toArray]); (try simp only [List.set_cons_succ]); (try simp only [List.set_cons_zero])))
            (refine wpAnyH_take (i := 10) (v := ?_) rfl (by kernel_rfl) (by kernel_rfl) (by kernel_rfl) (fun _ _ _ h => h) (Or.inl ⟨by rfl, ?_⟩) (by assumption) ?_; rotate_left; (intro w hSw; (try dsimp only at hSw); go_simp; try with_reducible rfl); ((try simp only [List.getElem_toArray]); (try simp only [List.getElem_cons_succ]); (try simp only [List.getElem_cons_zero]); (try simp only [Act.put]); (try simp only [List.setIfInBounds_toArray]); (try simp only [List.set_cons_succ]); (try simp only [List.set_cons_zero])))
            (refine wpAnyH_take (i := 11) (v := ?_) rfl (by kernel_rfl) (by kernel_rfl) (by kernel_rfl) (fun _ _ _ h => h) (Or.inl ⟨by rfl, ?_⟩) (by assumption) ?_; rotate_left; (intro w hSw; (try dsimp only at hSw); go_simp; try with_reducible rfl); ((try simp only [List.getElem_toArray]); (try simp only [List.getElem_cons_succ]); (try simp only [List.getElem_cons_zero]); (try simp only [Act.put]); (try simp only [List.setIfInBounds_toArray]); (try simp only [List.set_cons_succ]); (try simp only [List.set_cons_zero])))
            (refine wpAnyH_take (i := 12) (v := ?_) rfl (by kernel_rfl) (by kernel_rfl) (by kernel_rfl) (fun _ _ _ h => h) (Or.inl ⟨by rfl, ?_⟩) (by assumption) ?_; rotate_left; (intro w hSw; (try dsimp only at hSw); go_simp; try with_reducible rfl); ((try simp only [List.getElem_toArray]); (try simp only [List.getElem_cons_succ]); (try simp only [List.getElem_cons_zero]); (try simp only [Act.put]); (try simp only [List.setIfInBounds_toArray]); (try simp only [List.set_cons_succ]); (try simp only [List.set_cons_zero])))
            (refine wpAnyH_take (i := 13) (v := ?_) rfl (by kernel_rfl) (by kernel_rfl) (by kernel_rfl) (fun _ _ _ h => h) (Or.inl ⟨by rfl, ?_⟩) (by assumption) ?_; rotate_left; (intro w hSw; (try dsimp only at hSw); go_simp; try with_reducible rfl); ((try simp only [List.getElem_toArray]); (try simp only [List.getElem_cons_succ]); (try simp only [List.getElem_cons_zero]); (try simp only [Act.put]); (try simp only [List.setIfInBounds_toArray]); (try simp only [List.set_cons_succ]); (try simp only [List.set_cons_zero])))
            (refine wpAnyH_take (i := 14) (v := ?_) rfl (by kernel_rfl) (by kernel_rfl) (by kernel_rfl) (fun _ _ _ h => h) (Or.inl ⟨by rfl, ?_⟩) (by assumption) ?_; rotate_left; (intro w hSw; (try dsimp only at hSw); go_simp; try with_reducible rfl); ((try simp only [List.getElem_toArray]); (try simp only [List.getElem_cons_succ]); (try simp only [List.getElem_cons_zero]); (try simp only [Act.put]); (try simp only [List.setIfInBounds_toArray]); (try simp only [List.set_cons_succ]); (try simp only [List.set_cons_zero])))
            (refine wpAnyH_take (i := 15) (v := ?_) rfl (by kernel_rfl) (by kernel_rfl) (by kernel_rfl) (fun _ _ _ h => h) (Or.inl ⟨by rfl, ?_⟩) (by assumption) ?_; rotate_left; (intro w hSw; (try dsimp only at hSw); go_simp; try with_reducible rfl); ((try simp only [List.getElem_toArray]); (try simp only [List.getElem_cons_succ]); (try simp only [List.getElem_cons_zero]); (try simp only [Act.put]); (try simp only [List.setIfInBounds_toArray]); (try simp only [List.set_cons_succ]); (try simp only [List.set_cons_zero])))
            (refine wpAnyH_take (i := 16) (v := ?_) rfl (by kernel_rfl) (by kernel_rfl) (by kernel_rfl) (fun _ _ _ h => h) (Or.inl ⟨by rfl, ?_⟩) (by assumption) ?_; rotate_left; (intro w hSw; (try dsimp only at hSw); go_simp; try with_reducible rfl); ((try simp only [List.getElem_toArray]); (try simp only [List.getElem_cons_succ]); (try simp only [List.getElem_cons_zero]); (try simp only [Act.put]); (try simp only [List.setIfInBounds_toArray]); (try simp only [List.set_cons_succ]); (try simp only [List.set_cons_zero])))
            (refine wpAnyH_take (i := 17) (v := ?_) rfl (by kernel_rfl) (by kernel_rfl) (by kernel_rfl) (fun _ _ _ h => h) (Or.inl ⟨by rfl, ?_⟩) (by assumption) ?_; rotate_left; (intro w hSw; (try dsimp only at hSw); go_simp; try with_reducible rfl); ((try simp only [List.getElem_toArray]); (try simp only [List.getElem_cons_succ]); (try simp only [List.getElem_cons_zero]); (try simp only [Act.put]); (try simp only [List.setIfInBounds_toArray]); (try simp only [List.set_cons_succ]); (try simp only [List.set_cons_zero])))
            refine wpAnyH_done (by kernel_rfl) ?_ _
            go_wp2_with fail
            go_roundw
            case rel => exact ⟨k + 1, by omega, by go_num, by show _ = _; rw [HOK.out, HT.out, HTK.out]; rfl, HB0.out.trans (hd.out.mono HB0.out.size)⟩
            case measure => simp [intOf]; omega
      · have hkz0 : ¬ ((0 : Int) < (k : Int)) := by omega
        have HTK := Lib.hid (HFI.out (by omega))
        clear HPV HFI c0 c1 c2 hqm HFx HBv HXv
        have hS0 : (fun X : World => Hid (Below v0.heap.size v0 X) ∧ X.cell? ⟨wr.heap.size, 0, none⟩ = some (.string s) ∧ X.cell? ⟨wr.heap.size, 1, none⟩ = some (.bool xd) ∧ X.cell? ⟨wr.heap.size, 2, none⟩ = some (.string xk)) v0.drew := ⟨(Below.refl _ v0).drew, y0, y1, y2⟩
        refine wp_region_held_drew (S := (fun X : World => Hid (Below v0.heap.size v0 X) ∧ X.cell? ⟨wr.heap.size, 0, none⟩ = some (.string s) ∧ X.cell? ⟨wr.heap.size, 1, none⟩ = some (.bool xd) ∧ X.cell? ⟨wr.heap.size, 2, none⟩ = some (.string xk))) (by kernel_rfl) hS0 (fun _ => ?_)
        (refine wpAnyH_take (i := 0) (v := ?_) rfl (by kernel_rfl) (by kernel_rfl) (by kernel_rfl) (fun _ _ _ h => h) (Or.inl ⟨by rfl, ?_⟩) (by assumption) ?_; rotate_left; (intro w hSw; (try dsimp only at hSw); go_simp; try with_reducible rfl); ((try simp only [List.getElem_toArray]); (try simp only [List.getElem_cons_succ]); (try simp only [List.getElem_cons_zero]); (try simp only [Act.put]); (try simp only [List.setIfInBounds_toArray]); (try simp only [List.set_cons_succ]); (try simp only [List.set_cons_zero])))
        refine wpAnyH_ready (rs := [1]) (by kernel_rfl) (by simp) ?_
        refine AllReadyH.cons rfl (fun K2 hK2 => ?_) AllReadyH.nil
        go_simp
        refine (CM.out _ hS0.1).mono ?_
        rintro e x1 ⟨rfl, hd⟩
        have hS1 : (fun X : World => Hid (Below v0.heap.size v0 X) ∧ X.cell? ⟨wr.heap.size, 0, none⟩ = some (.string s) ∧ X.cell? ⟨wr.heap.size, 1, none⟩ = some (.bool xd) ∧ X.cell? ⟨wr.heap.size, 2, none⟩ = some (.string xk)) x1 := ⟨hd, keepW hd.out y0, keepW hd.out y1, keepW hd.out y2⟩
        go_wp2_with fail
        refine hK2.out _ _ (by (try dsimp only); exact hS1) (fun _ => ?_)
        clear hK2 K2
        (try simp only [List.getElem_toArray]); (try simp only [List.getElem_cons_succ]); (try simp only [List.getElem_cons_zero]); (try simp only [Act.put]); (try simp only [List.setIfInBounds_toArray]); (try simp only [List.set_cons_succ]); (try simp only [List.set_cons_zero])
        cases qm
        · (refine wpAnyH_take (i := 2) (v := ?_) rfl (by kernel_rfl) (by kernel_rfl) (by kernel_rfl) (fun _ _ _ h => h) (Or.inl ⟨by rfl, ?_⟩) (by assumption) ?_; rotate_left; (intro w hSw; (try dsimp only at hSw); go_simp; try with_reducible rfl); ((try simp only [List.getElem_toArray]); (try simp only [List.getElem_cons_succ]); (try simp only [List.getElem_cons_zero]); (try simp only [Act.put]); (try simp only [List.setIfInBounds_toArray]); (try simp only [List.set_cons_succ]); (try simp only [List.set_cons_zero])))
          (refine wpAnyH_take (i := 3) (v := ?_) rfl (by kernel_rfl) (by kernel_rfl) (by kernel_rfl) (fun _ _ _ h => h) (Or.inl ⟨by rfl, ?_⟩) (by assumption) ?_; rotate_left; (intro w hSw; (try dsimp only at hSw); go_simp; try with_reducible rfl); ((try simp only [List.getElem_toArray]); (try simp only [List.getElem_cons_succ]); (try simp only [List.getElem_cons_zero]); (try simp only [Act.put]); (try simp only [List.setIfInBounds_toArray]); (try simp only [List.set_cons_succ]); (try simp only [List.set_cons_zero])))
          (refine wpAnyH_take (i := 4) (v := undef) rfl (by kernel_rfl) (by kernel_rfl) (by kernel_rfl) (fun _ _ _ h => h) (Or.inr ⟨by rfl, rfl⟩) (by assumption) ?_; ((try simp only [List.getElem_toArray]); (try simp only [List.getElem_cons_succ]); (try simp only [List.getElem_cons_zero]); (try simp only [Act.put]); (try simp only [List.setIfInBounds_toArray]); (try simp only [List.set_cons_succ]); (try simp only [List.set_cons_zero])))
          (refine wpAnyH_take (i := 5) (v := undef) rfl (by kernel_rfl) (by kernel_rfl) (by kernel_rfl) (fun _ _ _ h => h) (Or.inr ⟨by rfl, rfl⟩) (by assumption) ?_; ((try simp only [List.getElem_toArray]); (try simp only [List.getElem_cons_succ]); (try simp only [List.getElem_cons_zero]); (try simp only [Act.put]); (try simp only [List.setIfInBounds_toArray]); (try simp only [List.set_cons_succ]); (try simp only [List.set_cons_zero])))
          (refine wpAnyH_take (i := 6) (v := undef) rfl (by kernel_rfl) (by kernel_rfl) (by kernel_rfl) (fun _ _ _ h => h) (Or.inr ⟨by rfl, rfl⟩) (by assumption) ?_; ((try simp only [List.getElem_toArray]); (try simp only [List.getElem_cons_succ]); (try simp only [List.getElem_cons_zero]); (try simp only [Act.put]); (try simp only [List.setIfInBounds_toArray]); (try simp only [List.set_cons_succ]); (try simp only [List.set_cons_zero])))
          (refine wpAnyH_take (i := 7) (v := undef) rfl (by kernel_rfl) (by kernel_rfl) (by kernel_rfl) (fun _ _ _ h => h) (Or.inr ⟨by rfl, rfl⟩) (by assumption) ?_; ((try simp only [List.getElem_toArray]); (try simp only [List.getElem_cons_succ]); (try simp only [List.getElem_cons_zero]); (try simp only [Act.put]); (try simp only [List.setIfInBounds_toArray]); (try simp only [List.set_cons_succ]); (try simp only [List.set_cons_zero])))
          (refine wpAnyH_take (i := 8) (v := undef) rfl (by kernel_rfl) (by kernel_rfl) (by kernel_rfl) (fun _ _ _ h => h) (Or.inr ⟨by rfl, rfl⟩) (by assumption) ?_; ((try simp only [List.getElem_toArray]); (try simp only [List.getElem_cons_succ]); (try simp only [List.getElem_cons_zero]); (try simp only [Act.put]); (try simp only [List.setIfInBounds_toArray]); (try simp only [List.set_cons_succ]); (try simp only [List.set_cons_zero])))
          (refine wpAnyH_take (i := 9) (v := undef) rfl (by kernel_rfl) (by kernel_rfl) (by kernel_rfl) (fun _ _ _ h => h) (Or.inr ⟨by rfl, rfl⟩) (by assumption) ?_; ((try simp only [List.getElem_toArray]); (try simp only [List.getElem_cons_succ]); (try simp only [List.getElem_cons_zero]); (try simp only [Act.put]); (try simp only [List.setIfInBounds_toArray]); (try simp only [List.set_cons_succ]); (try simp only [List.set_cons_zero])))
          (refine wpAnyH_take (i := 10) (v := undef) rfl (by kernel_rfl) (by kernel_rfl) (by kernel_rfl) (fun _ _ _ h => h) (Or.inr ⟨by rfl, rfl⟩) (by assumption) ?_; ((try simp only [List.getElem_toArray]); (try simp only [List.getElem_cons_succ]); (try simp only [List.getElem_cons_zero]); (try simp only [Act.put]); (try simp only [List.setIfInBounds_toArray]); (try simp only [List.set_cons_succ]); (try simp only [List.set_cons_zero])))
          (refine wpAnyH_take (i := 11) (v := undef) rfl (by kernel_rfl) (by kernel_rfl) (by kernel_rfl) (fun _ _ _ h => h) (Or.inr ⟨by rfl, rfl⟩) (by assumption) ?_; ((try simp only [List.getElem_toArray]); (try simp only [List.getElem_cons_succ]); (try simp only [List.getElem_cons_zero]); (try simp only [Act.put]); (try simp only [List.setIfInBounds_toArray]); (try simp only [List.set_cons_succ]); (try simp only [List.set_cons_zero])))
          (refine wpAnyH_take (i := 12) (v := undef) rfl (by kernel_rfl) (by kernel_rfl) (by kernel_rfl) (fun _ _ _ h => h) (Or.inr ⟨by rfl, rfl⟩) (by assumption) ?_; ((try simp only [List.getElem_toArray]); (try simp only [List.getElem_cons_succ]); (try simp only [List.getElem_cons_zero]); (try simp only [Act.put]); (try simp only [List.setIfInBounds_toArray]); (try simp only [List.set_cons_succ]); (try simp only [List.set_cons_zero])))
          (refine wpAnyH_take (i := 13) (v := undef) rfl (by kernel_rfl) (by kernel_rfl) (by kernel_rfl) (fun _ _ _ h => h) (Or.inr ⟨by rfl, rfl⟩) (by assumption) ?_; ((try simp only [List.getElem_toArray]); (try simp only [List.getElem_cons_succ]); (try simp only [List.getElem_cons_zero]); (try simp only [Act.put]); (try simp only [List.setIfInBounds_toArray]); (try simp only [List.set_cons_succ]); (try simp only [List.set_cons_zero])))
          (refine wpAnyH_take (i := 14) (v := undef) rfl (by kernel_rfl) (by kernel_rfl) (by kernel_rfl) (fun _ _ _ h => h) (Or.inr ⟨by rfl, rfl⟩) (by assumption) ?_; ((try simp only [List.getElem_toArray]); (try simp only [List.getElem_cons_succ]); (try simp only [List.getElem_cons_zero]); (try simp only [Act.put]); (try simp only [List.setIfInBounds_toArray]); (try simp only [List.set_cons_succ]); (try simp only [List.set_cons_zero])))
          (refine wpAnyH_take (i := 15) (v := undef) rfl (by kernel_rfl) (by kernel_rfl) (by kernel_rfl) (fun _ _ _ h => h) (Or.inr ⟨by rfl, rfl⟩) (by assumption) ?_; ((try simp only [List.getElem_toArray]); (try simp only [List.getElem_cons_succ]); (try simp only [List.getElem_cons_zero]); (try simp only [Act.put]); (try simp only [List.setIfInBounds_toArray]); (try simp only [List.set_cons_succ]); (try simp only [List.set_cons_zero])))
          (refine wpAnyH_take (i := 16) (v := undef) rfl (by kernel_rfl) (by kernel_rfl) (by kernel_rfl) (fun _ _ _ h => h) (Or.inr ⟨by rfl, rfl⟩) (by assumption) ?_; ((try simp only [List.getElem_toArray]); (try simp only [List.getElem_cons_succ]); (try simp only [List.getElem_cons_zero]); (try simp only [Act.put]); (try simp only [List.setIfInBounds_toArray]); (try simp only [List.set_cons_succ]); (try simp only [List.set_cons_zero])))
          (refine wpAnyH_take (i := 17) (v := ?_) rfl (by kernel_rfl) (by kernel_rfl) (by kernel_rfl) (fun _ _ _ h => h) (Or.inl ⟨by rfl, ?_⟩) (by assumption) ?_; rotate_left; (intro w hSw; (try dsimp only at hSw); go_simp; try with_reducible rfl); ((try simp only [List.getElem_toArray]); (try simp only [List.getElem_cons_succ]); (try simp only [List.getElem_cons_zero]); (try simp only [Act.put]); (try simp only [List.setIfInBounds_toArray]); (try simp only [List.set_cons_succ]); (try simp only [List.set_cons_zero])))
          refine wpAnyH_done (by kernel_rfl) ?_ _
          go_wp2_with fail
          go_ret
          exact ⟨by rw [HRF.out, HNO.out (HTK.out.trans (by rfl))]; rfl, HB0.out.trans (hd.out.mono HB0.out.size)⟩
        · (refine wpAnyH_take (i := 2) (v := ?_) rfl (by kernel_rfl) (by kernel_rfl) (by kernel_rfl) (fun _ _ _ h => h) (Or.inl ⟨by rfl, ?_⟩) (by assumption) ?_; rotate_left; (intro w hSw; (try dsimp only at hSw); go_simp; try with_reducible rfl); ((try simp only [List.getElem_toArray]); (try simp only [List.getElem_cons_succ]); (try simp only [List.getElem_cons_zero]); (try simp only [Act.put]); (try simp only [List.setIfInBounds_toArray]); (try simp only [List.set_cons_succ]); (try simp only [List.set_cons_zero])))
          (refine wpAnyH_take (i := 3) (v := ?_) rfl (by kernel_rfl) (by kernel_rfl) (by kernel_rfl) (fun _ _ _ h => h) (Or.inl ⟨by rfl, ?_⟩) (by assumption) ?_; rotate_left; (intro w hSw; (try dsimp only at hSw); go_simp; try with_reducible rfl); ((try simp only [List.getElem_toArray]); (try simp only [List.getElem_cons_succ]); (try simp only [List.getElem_cons_zero]); (try simp only [Act.put]); (try simp only [List.setIfInBounds_toArray]); (try simp only [List.set_cons_succ]); (try simp only [List.set_cons_zero])))
          (refine wpAnyH_take (i := 4) (v := ?_) rfl (by kernel_rfl) (by kernel_rfl) (by kernel_rfl) (fun _ _ _ h => h) (Or.inl ⟨by rfl, ?_⟩) (by assumption) ?_; rotate_left; (intro w hSw; (try dsimp only at hSw); go_simp; try with_reducible rfl); ((try simp only [List.getElem_toArray]); (try simp only [List.getElem_cons_succ]); (try simp only [List.getElem_cons_zero]); (try simp only [Act.put]); (try simp only [List.setIfInBounds_toArray]); (try simp only [List.set_cons_succ]); (try simp only [List.set_cons_zero])))
          (refine wpAnyH_take (i := 5) (v := ?_) rfl (by kernel_rfl) (by kernel_rfl) (by kernel_rfl) (fun _ _ _ h => h) (Or.inl ⟨by rfl, ?_⟩) (by assumption) ?_; rotate_left; (intro w hSw; (try dsimp only at hSw); go_simp; try with_reducible rfl); ((try simp only [List.getElem_toArray]); (try simp only [List.getElem_cons_succ]); (try simp only [List.getElem_cons_zero]); (try simp only [Act.put]); (try simp only [List.setIfInBounds_toArray]); (try simp only [List.set_cons_succ]); (try simp only [List.set_cons_zero])))
          (refine wpAnyH_take (i := 6) (v := ?_) rfl (by kernel_rfl) (by kernel_rfl) (by kernel_rfl) (fun _ _ _ h => h) (Or.inl ⟨by rfl, ?_⟩) (by assumption) ?_; rotate_left; (intro w hSw; (try dsimp only at hSw); go_simp; try with_reducible rfl); ((try simp only [List.getElem_toArray]); (try simp only [List.getElem_cons_succ]); (try simp only [List.getElem_cons_zero]); (try simp only [Act.put]); (try simp only [List.setIfInBounds_toArray]); (try simp only [List.set_cons_succ]); (try simp only [List.set_cons_zero])))
          (refine wpAnyH_take (i := 7) (v := undef) rfl (by kernel_rfl) (by kernel_rfl) (by kernel_rfl) (fun _ _ _ h => h) (Or.inr ⟨by rfl, rfl⟩) (by assumption) ?_; ((try simp only [List.getElem_toArray]); (try simp only [List.getElem_cons_succ]); (try simp only [List.getElem_cons_zero]); (try simp only [Act.put]); (try simp only [List.setIfInBounds_toArray]); (try simp only [List.set_cons_succ]); (try simp only [List.set_cons_zero])))
          (refine wpAnyH_take (i := 8) (v := undef) rfl (by kernel_rfl) (by kernel_rfl) (by kernel_rfl) (fun _ _ _ h => h) (Or.inr ⟨by rfl, rfl⟩) (by assumption) ?_; ((try simp only [List.getElem_toArray]); (try simp only [List.getElem_cons_succ]); (try simp only [List.getElem_cons_zero]); (try simp only [Act.put]); (try simp only [List.setIfInBounds_toArray]); (try simp only [List.set_cons_succ]); (try simp only [List.set_cons_zero])))
          (refine wpAnyH_take (i := 9) (v := undef) rfl (by kernel_rfl) (by kernel_rfl) (by kernel_rfl) (fun _ _ _ h => h) (Or.inr ⟨by rfl, rfl⟩) (by assumption) ?_; ((try simp only [List.getElem_toArray]); (try simp only [List.getElem_cons_succ]); (try simp only [List.getElem_cons_zero]); (try simp only [Act.put]); (try simp only [List.setIfInBounds_toArray]); (try simp only [List.set_cons_succ]); (try simp only [List.set_cons_zero])))
          (refine wpAnyH_take (i := 10) (v := undef) rfl (by kernel_rfl) (by kernel_rfl) (by kernel_rfl) (fun _ _ _ h => h) (Or.inr ⟨by rfl, rfl⟩) (by assumption) ?_; ((try simp only [List.getElem_toArray]); (try simp only [List.getElem_cons_succ]); (try simp only [List.getElem_cons_zero]); (try simp only [Act.put]); (try simp only [List.setIfInBounds_toArray]); (try simp only [List.set_cons_succ]); (try simp only [List.set_cons_zero])))
          (refine wpAnyH_take (i := 11) (v := undef) rfl (by kernel_rfl) (by kernel_rfl) (by kernel_rfl) (fun _ _ _ h => h) (Or.inr ⟨by rfl, rfl⟩) (by assumption) ?_; ((try simp only [List.getElem_toArray]); (try simp only [List.getElem_cons_succ]); (try simp only [List.getElem_cons_zero]); (try simp only [Act.put]); (try simp only [List.setIfInBounds_toArray]); (try simp only [List.set_cons_succ]); (try simp only [List.set_cons_zero])))
          (refine wpAnyH_take (i := 12) (v := undef) rfl (by kernel_rfl) (by kernel_rfl) (by kernel_rfl) (fun _ _ _ h => h) (Or.inr ⟨by rfl, rfl⟩) (by assumption) ?_; ((try simp only [List.getElem_toArray]); (try simp only [List.getElem_cons_succ]); (try simp only [List.getElem_cons_zero]); (try simp only [Act.put]); (try simp only [List.setIfInBounds_toArray]); (try simp only [List.set_cons_succ]); (try simp only [List.set_cons_zero])))
          (refine wpAnyH_take (i := 13) (v := undef) rfl (by kernel_rfl) (by kernel_rfl) (by kernel_rfl) (fun _ _ _ h => h) (Or.inr ⟨by rfl, rfl⟩) (by assumption) ?_; ((try simp only [List.getElem_toArray]); (try simp only [List.getElem_cons_succ]); (try simp only [List.getElem_cons_zero]); (try simp only [Act.put]); (try simp only [List.setIfInBounds_toArray]); (try simp only [List.set_cons_succ]); (try simp only [List.set_cons_zero])))
          (refine wpAnyH_take (i := 14) (v := undef) rfl (by kernel_rfl) (by kernel_rfl) (by kernel_rfl) (fun _ _ _ h => h) (Or.inr ⟨by rfl, rfl⟩) (by assumption) ?_; ((try simp only [List.getElem_toArray]); (try simp only [List.getElem_cons_succ]); (try simp only [List.getElem_cons_zero]); (try simp only [Act.put]); (try simp only [List.setIfInBounds_toArray]); (try simp only [List.set_cons_succ]); (try simp only [List.set_cons_zero])))
          (refine wpAnyH_take (i := 15) (v := undef) rfl (by kernel_rfl) (by kernel_rfl) (by kernel_rfl) (fun _ _ _ h => h) (Or.inr ⟨by rfl, rfl⟩) (by assumption) ?_; ((try simp only [List.getElem_toArray]); (try simp only [List.getElem_cons_succ]); (try simp only [List.getElem_cons_zero]); (try simp only [Act.put]); (try simp only [List.setIfInBounds_toArray]); (try simp only [List.set_cons_succ]); (try simp only [List.set_cons_zero])))
          (refine wpAnyH_take (i := 16) (v := ?_) rfl (by kernel_rfl) (by kernel_rfl) (by kernel_rfl) (fun _ _ _ h => h) (Or.inl ⟨by rfl, ?_⟩) (by assumption) ?_; rotate_left; (intro w hSw; (try dsimp only at hSw); go_simp; try with_reducible rfl); ((try simp only [List.getElem_toArray]); (try simp only [List.getElem_cons_succ]); (try simp only [List.getElem_cons_zero]); (try simp only [Act.put]); (try simp only [List.setIfInBounds_toArray]); (try simp only [List.set_cons_succ]); (try simp only [List.set_cons_zero])))
          (refine wpAnyH_take (i := 17) (v := ?_) rfl (by kernel_rfl) (by kernel_rfl) (by kernel_rfl) (fun _ _ _ h => h) (Or.inl ⟨by rfl, ?_⟩) (by assumption) ?_; rotate_left; (intro w hSw; (try dsimp only at hSw); go_simp; try with_reducible rfl); ((try simp only [List.getElem_toArray]); (try simp only [List.getElem_cons_succ]); (try simp only [List.getElem_cons_zero]); (try simp only [Act.put]); (try simp only [List.setIfInBounds_toArray]); (try simp only [List.set_cons_succ]); (try simp only [List.set_cons_zero])))
          refine wpAnyH_done (by kernel_rfl) ?_ _
          go_wp2_with fail
          go_roundw
          case rel => exact ⟨k + 1, by omega, by go_num, by show _ = _; rw [HOK.out, HT.out, HTK.out]; rfl, HB0.out.trans (hd.out.mono HB0.out.size)⟩
          case measure => simp [intOf]; omega
    · obtain rfl : k = n := by omega
      go_wp2_with fail
      go_ret
      exact ⟨by rw [HRF.out, HT.out]; rfl, HB⟩
end Go.Proofs.YtlhfdhmmdnkojaaGreatDoor
namespace Go.Proofs.YtlhfdhmmdnkojaaGreatDoor
open Go.RowKit Dg
set_option maxRecDepth 100000
/-- The first 40 bytes. -/
def nm40 (s : ByteArray) : ByteArray := if 40 < s.size then s.extract 0 40 else s
/-- A work of short texts; the first k of works so. -/
def Wk.few (x : Wk) : Wk := ⟨nm40 x.t, x.d, nm40 x.k⟩
/-- All texts of works are short. -/
def Short (L : List Wk) : Prop := ∀ x ∈ L, x.t.size ≤ 40 ∧ x.k.size ≤ 40
/-- Are two works the same? -/
def Wk.eqb (x y : Wk) : Bool := x.t.toList == y.t.toList && x.d == y.d && x.k.toList == y.k.toList
theorem Wk.eqb_self (x : Wk) : x.eqb x = true := by simp [Wk.eqb]
def sameTo (L M : List Wk) (k : Nat) : Bool := (List.range k).all fun i => match L[i]?, M[i]? with | some x, some y => x.eqb y | _, _ => true
def sameW (L M : List Wk) : Bool := decide (L.length = M.length) && sameTo L M L.length
theorem sameTo_succ {L M : List Wk} {k : Nat} (h : k < L.length) (h2 : k < M.length) : sameTo L M (k + 1) = (sameTo L M k && L[k].eqb M[k]) := by
  unfold sameTo; rw [List.range_succ, List.all_append]
  simp [List.getElem?_eq_getElem h, List.getElem?_eq_getElem h2]
theorem sameTo_false {L M : List Wk} {k : Nat} (h : k < L.length) (h2 : k < M.length) (he : L[k].eqb M[k] = false) : sameTo L M L.length = false := by
  unfold sameTo; rw [List.all_eq_false]
  exact ⟨k, List.mem_range.2 h, by simp [List.getElem?_eq_getElem h, List.getElem?_eq_getElem h2, he]⟩
theorem sameW_self (L : List Wk) : sameW L L = true := by
  unfold sameW sameTo
  simp only [decide_true, Bool.true_and]
  rw [List.all_eq_true]
  intro i hi
  rw [List.getElem?_eq_getElem (List.mem_range.1 hi)]
  exact Wk.eqb_self _
set_option maxHeartbeats 4000000 in
theorem sameW_any {B B' : Nat} {v v' : Value} {L M : List Wk} (w : World) (h : OwnW B w v L) (h' : OwnW B' w v' M) (hl : L.length ≤ 1000) :
    Calls Tryz.prog 90 #[v, v'] w fun e w' => e = .returned (.bool (sameW L M)) ∧ Hid (Below w.heap.size w w') := by
  have eq := eqW
  obtain ⟨A, n, c, rfl, HN, hc, hm, HA, _⟩ := ownW_open h
  obtain ⟨A', n', c', rfl, HN', hc', hm', HA', _⟩ := ownW_open h'
  have hs : sameW L M = (decide (n = n') && sameTo L M n) := by unfold sameW; rw [HN.out, HN'.out]
  have HS := Lib.hid hs
  obtain ⟨q, hq⟩ : ∃ q, sameW L M = q := ⟨_, rfl⟩
  rw [hq] at HS ⊢
  clear h h' hs hq
  unfold maxLen at hm hm'
  by_cases he : n = n'
  · subst he
    rw [decide_eq_true rfl, Bool.true_and] at HS
    go_enter Tryz.func90, Tryz.ntmps90
    go_wp2_with fail
    go_loopw [5] (fun i wr => ∃ k : Nat, k ≤ n ∧ i = .int .i64 k ∧ Hid (sameTo L M k = true) ∧ Hid (Below w.heap.size w wr)) (fun i _ => n - (intOf i).toNat)
    case atStart => exact ⟨0, by omega, rfl, rfl, Below.refl _ _⟩
    case round =>
      obtain ⟨k, hk, rfl, HT, HB⟩ := hrel
      by_cases hlt : k < n
      · have hkl : k < L.length := by rw [HN.out]; exact hlt
        have hkm : k < M.length := by rw [HN'.out]; exact hlt
        obtain ⟨b, off, rfl, hc0⟩ := (HA.out.below HB.out) (by intro e; rw [e] at hkl; simp at hkl)
        obtain ⟨b', off', rfl, hc0'⟩ := (HA'.out.below HB.out) (by intro e; rw [e] at hkm; simp at hkm)
        obtain ⟨x0, x1, x2⟩ := hc0 k hkl
        obtain ⟨y0, y1, y2⟩ := hc0' k hkm
        have HOK := Lib.hid (sameTo_succ hkl hkm)
        have HNO : Hid (L[k].eqb M[k] = false → sameTo L M n = false) := fun h => by rw [← HN.out]; exact sameTo_false hkl hkm h
        have hkz : (k : Int) < (n : Int) := by omega
        clear hc0 hc0'
        generalize L[k] = x at *
        generalize M[k] = y at *
        obtain ⟨xt, xd, xk⟩ := x
        obtain ⟨yt, yd, yk⟩ := y
        simp only at x0 x1 x2 y0 y1 y2
        have HEQ : Hid ((⟨xt, xd, xk⟩ : Wk).eqb ⟨yt, yd, yk⟩ = (xt.toList == yt.toList && xd == yd && xk.toList == yk.toList)) := rfl
        obtain ⟨qq, hqq⟩ : ∃ q, (xt.toList == yt.toList && xd == yd && xk.toList == yk.toList) = q := ⟨_, rfl⟩
        have eq2 := fun w => eqW xt yt xk yk xd yd w
        simp only [hqq] at eq2
        rw [hqq] at HEQ
        rw [HEQ.out] at HOK HNO
        clear eq hqq HEQ
        cases qq
        · go_wp2_with fail
          have hS0 : (fun X : World => (X.cell? ⟨b, off + k * 3, none⟩ = some (.string xt) ∧ X.cell? ⟨b, off + k * 3 + 1, none⟩ = some (.bool xd) ∧ X.cell? ⟨b, off + k * 3 + 2, none⟩ = some (.string xk)) ∧ X.cell? ⟨b', off' + k * 3, none⟩ = some (.string yt) ∧ X.cell? ⟨b', off' + k * 3 + 1, none⟩ = some (.bool yd) ∧ X.cell? ⟨b', off' + k * 3 + 2, none⟩ = some (.string yk)) wr.drew := ⟨⟨x0, x1, x2⟩, y0, y1, y2⟩
          refine wp_region_held_drew (S := (fun X : World => (X.cell? ⟨b, off + k * 3, none⟩ = some (.string xt) ∧ X.cell? ⟨b, off + k * 3 + 1, none⟩ = some (.bool xd) ∧ X.cell? ⟨b, off + k * 3 + 2, none⟩ = some (.string xk)) ∧ X.cell? ⟨b', off' + k * 3, none⟩ = some (.string yt) ∧ X.cell? ⟨b', off' + k * 3 + 1, none⟩ = some (.bool yd) ∧ X.cell? ⟨b', off' + k * 3 + 2, none⟩ = some (.string yk))) (by kernel_rfl) hS0 (fun _ => ?_)
          (refine wpAnyH_take (i := 0) (v := ?_) rfl (by kernel_rfl) (by kernel_rfl) (by kernel_rfl) (fun _ _ _ h => h) (Or.inl ⟨by rfl, ?_⟩) (by assumption) ?_; rotate_left; (intro w hSw; (try dsimp only at hSw); go_simp; try with_reducible rfl); ((try simp only [List.getElem_toArray]); (try simp only [List.getElem_cons_succ]); (try simp only [List.getElem_cons_zero]); (try simp only [Act.put]); (try simp only [List.setIfInBounds_toArray]); (try simp only [List.set_cons_succ]); (try simp only [List.set_cons_zero])))
          (refine wpAnyH_take (i := 1) (v := ?_) rfl (by kernel_rfl) (by kernel_rfl) (by kernel_rfl) (fun _ _ _ h => h) (Or.inl ⟨by rfl, ?_⟩) (by assumption) ?_; rotate_left; (intro w hSw; (try dsimp only at hSw); go_simp; try with_reducible rfl); ((try simp only [List.getElem_toArray]); (try simp only [List.getElem_cons_succ]); (try simp only [List.getElem_cons_zero]); (try simp only [Act.put]); (try simp only [List.setIfInBounds_toArray]); (try simp only [List.set_cons_succ]); (try simp only [List.set_cons_zero])))
          (refine wpAnyH_take (i := 2) (v := ?_) rfl (by kernel_rfl) (by kernel_rfl) (by kernel_rfl) (fun _ _ _ h => h) (Or.inl ⟨by rfl, ?_⟩) (by assumption) ?_; rotate_left; (intro w hSw; (try dsimp only at hSw); go_simp; try with_reducible rfl); ((try simp only [List.getElem_toArray]); (try simp only [List.getElem_cons_succ]); (try simp only [List.getElem_cons_zero]); (try simp only [Act.put]); (try simp only [List.setIfInBounds_toArray]); (try simp only [List.set_cons_succ]); (try simp only [List.set_cons_zero])))
          (refine wpAnyH_take (i := 3) (v := ?_) rfl (by kernel_rfl) (by kernel_rfl) (by kernel_rfl) (fun _ _ _ h => h) (Or.inl ⟨by rfl, ?_⟩) (by assumption) ?_; rotate_left; (intro w hSw; (try dsimp only at hSw); go_simp; try with_reducible rfl); ((try simp only [List.getElem_toArray]); (try simp only [List.getElem_cons_succ]); (try simp only [List.getElem_cons_zero]); (try simp only [Act.put]); (try simp only [List.setIfInBounds_toArray]); (try simp only [List.set_cons_succ]); (try simp only [List.set_cons_zero])))
          (refine wpAnyH_take (i := 4) (v := ?_) rfl (by kernel_rfl) (by kernel_rfl) (by kernel_rfl) (fun _ _ _ h => h) (Or.inl ⟨by rfl, ?_⟩) (by assumption) ?_; rotate_left; (intro w hSw; (try dsimp only at hSw); go_simp; try with_reducible rfl); ((try simp only [List.getElem_toArray]); (try simp only [List.getElem_cons_succ]); (try simp only [List.getElem_cons_zero]); (try simp only [Act.put]); (try simp only [List.setIfInBounds_toArray]); (try simp only [List.set_cons_succ]); (try simp only [List.set_cons_zero])))
          (refine wpAnyH_take (i := 5) (v := ?_) rfl (by kernel_rfl) (by kernel_rfl) (by kernel_rfl) (fun _ _ _ h => h) (Or.inl ⟨by rfl, ?_⟩) (by assumption) ?_; rotate_left; (intro w hSw; (try dsimp only at hSw); go_simp; try with_reducible rfl); ((try simp only [List.getElem_toArray]); (try simp only [List.getElem_cons_succ]); (try simp only [List.getElem_cons_zero]); (try simp only [Act.put]); (try simp only [List.setIfInBounds_toArray]); (try simp only [List.set_cons_succ]); (try simp only [List.set_cons_zero])))
          (refine wpAnyH_take (i := 6) (v := ?_) rfl (by kernel_rfl) (by kernel_rfl) (by kernel_rfl) (fun _ _ _ h => h) (Or.inl ⟨by rfl, ?_⟩) (by assumption) ?_; rotate_left; (intro w hSw; (try dsimp only at hSw); go_simp; try with_reducible rfl); ((try simp only [List.getElem_toArray]); (try simp only [List.getElem_cons_succ]); (try simp only [List.getElem_cons_zero]); (try simp only [Act.put]); (try simp only [List.setIfInBounds_toArray]); (try simp only [List.set_cons_succ]); (try simp only [List.set_cons_zero])))
          (refine wpAnyH_take (i := 7) (v := ?_) rfl (by kernel_rfl) (by kernel_rfl) (by kernel_rfl) (fun _ _ _ h => h) (Or.inl ⟨by rfl, ?_⟩) (by assumption) ?_; rotate_left; (intro w hSw; (try dsimp only at hSw); go_simp; try with_reducible rfl); ((try simp only [List.getElem_toArray]); (try simp only [List.getElem_cons_succ]); (try simp only [List.getElem_cons_zero]); (try simp only [Act.put]); (try simp only [List.setIfInBounds_toArray]); (try simp only [List.set_cons_succ]); (try simp only [List.set_cons_zero])))
          (refine wpAnyH_take (i := 8) (v := ?_) rfl (by kernel_rfl) (by kernel_rfl) (by kernel_rfl) (fun _ _ _ h => h) (Or.inl ⟨by rfl, ?_⟩) (by assumption) ?_; rotate_left; (intro w hSw; (try dsimp only at hSw); go_simp; try with_reducible rfl); ((try simp only [List.getElem_toArray]); (try simp only [List.getElem_cons_succ]); (try simp only [List.getElem_cons_zero]); (try simp only [Act.put]); (try simp only [List.setIfInBounds_toArray]); (try simp only [List.set_cons_succ]); (try simp only [List.set_cons_zero])))
          refine wpAnyH_done (by kernel_rfl) ?_ _
          go_wp2_with fail
          go_ret
          exact ⟨by rw [HS.out, HNO.out (by first | rfl | exact True.intro)]; rfl, HB.out.drew⟩
        · go_wp2_with fail
          have hS0 : (fun X : World => (X.cell? ⟨b, off + k * 3, none⟩ = some (.string xt) ∧ X.cell? ⟨b, off + k * 3 + 1, none⟩ = some (.bool xd) ∧ X.cell? ⟨b, off + k * 3 + 2, none⟩ = some (.string xk)) ∧ X.cell? ⟨b', off' + k * 3, none⟩ = some (.string yt) ∧ X.cell? ⟨b', off' + k * 3 + 1, none⟩ = some (.bool yd) ∧ X.cell? ⟨b', off' + k * 3 + 2, none⟩ = some (.string yk)) wr.drew := ⟨⟨x0, x1, x2⟩, y0, y1, y2⟩
          refine wp_region_held_drew (S := (fun X : World => (X.cell? ⟨b, off + k * 3, none⟩ = some (.string xt) ∧ X.cell? ⟨b, off + k * 3 + 1, none⟩ = some (.bool xd) ∧ X.cell? ⟨b, off + k * 3 + 2, none⟩ = some (.string xk)) ∧ X.cell? ⟨b', off' + k * 3, none⟩ = some (.string yt) ∧ X.cell? ⟨b', off' + k * 3 + 1, none⟩ = some (.bool yd) ∧ X.cell? ⟨b', off' + k * 3 + 2, none⟩ = some (.string yk))) (by kernel_rfl) hS0 (fun _ => ?_)
          (refine wpAnyH_take (i := 0) (v := ?_) rfl (by kernel_rfl) (by kernel_rfl) (by kernel_rfl) (fun _ _ _ h => h) (Or.inl ⟨by rfl, ?_⟩) (by assumption) ?_; rotate_left; (intro w hSw; (try dsimp only at hSw); go_simp; try with_reducible rfl); ((try simp only [List.getElem_toArray]); (try simp only [List.getElem_cons_succ]); (try simp only [List.getElem_cons_zero]); (try simp only [Act.put]); (try simp only [List.setIfInBounds_toArray]); (try simp only [List.set_cons_succ]); (try simp only [List.set_cons_zero])))
          (refine wpAnyH_take (i := 1) (v := ?_) rfl (by kernel_rfl) (by kernel_rfl) (by kernel_rfl) (fun _ _ _ h => h) (Or.inl ⟨by rfl, ?_⟩) (by assumption) ?_; rotate_left; (intro w hSw; (try dsimp only at hSw); go_simp; try with_reducible rfl); ((try simp only [List.getElem_toArray]); (try simp only [List.getElem_cons_succ]); (try simp only [List.getElem_cons_zero]); (try simp only [Act.put]); (try simp only [List.setIfInBounds_toArray]); (try simp only [List.set_cons_succ]); (try simp only [List.set_cons_zero])))
          (refine wpAnyH_take (i := 2) (v := ?_) rfl (by kernel_rfl) (by kernel_rfl) (by kernel_rfl) (fun _ _ _ h => h) (Or.inl ⟨by rfl, ?_⟩) (by assumption) ?_; rotate_left; (intro w hSw; (try dsimp only at hSw); go_simp; try with_reducible rfl); ((try simp only [List.getElem_toArray]); (try simp only [List.getElem_cons_succ]); (try simp only [List.getElem_cons_zero]); (try simp only [Act.put]); (try simp only [List.setIfInBounds_toArray]); (try simp only [List.set_cons_succ]); (try simp only [List.set_cons_zero])))
          (refine wpAnyH_take (i := 3) (v := ?_) rfl (by kernel_rfl) (by kernel_rfl) (by kernel_rfl) (fun _ _ _ h => h) (Or.inl ⟨by rfl, ?_⟩) (by assumption) ?_; rotate_left; (intro w hSw; (try dsimp only at hSw); go_simp; try with_reducible rfl); ((try simp only [List.getElem_toArray]); (try simp only [List.getElem_cons_succ]); (try simp only [List.getElem_cons_zero]); (try simp only [Act.put]); (try simp only [List.setIfInBounds_toArray]); (try simp only [List.set_cons_succ]); (try simp only [List.set_cons_zero])))
          (refine wpAnyH_take (i := 4) (v := ?_) rfl (by kernel_rfl) (by kernel_rfl) (by kernel_rfl) (fun _ _ _ h => h) (Or.inl ⟨by rfl, ?_⟩) (by assumption) ?_; rotate_left; (intro w hSw; (try dsimp only at hSw); go_simp; try with_reducible rfl); ((try simp only [List.getElem_toArray]); (try simp only [List.getElem_cons_succ]); (try simp only [List.getElem_cons_zero]); (try simp only [Act.put]); (try simp only [List.setIfInBounds_toArray]); (try simp only [List.set_cons_succ]); (try simp only [List.set_cons_zero])))
          (refine wpAnyH_take (i := 5) (v := ?_) rfl (by kernel_rfl) (by kernel_rfl) (by kernel_rfl) (fun _ _ _ h => h) (Or.inl ⟨by rfl, ?_⟩) (by assumption) ?_; rotate_left; (intro w hSw; (try dsimp only at hSw); go_simp; try with_reducible rfl); ((try simp only [List.getElem_toArray]); (try simp only [List.getElem_cons_succ]); (try simp only [List.getElem_cons_zero]); (try simp only [Act.put]); (try simp only [List.setIfInBounds_toArray]); (try simp only [List.set_cons_succ]); (try simp only [List.set_cons_zero])))
          (refine wpAnyH_take (i := 6) (v := ?_) rfl (by kernel_rfl) (by kernel_rfl) (by kernel_rfl) (fun _ _ _ h => h) (Or.inl ⟨by rfl, ?_⟩) (by assumption) ?_; rotate_left; (intro w hSw; (try dsimp only at hSw); go_simp; try with_reducible rfl); ((try simp only [List.getElem_toArray]); (try simp only [List.getElem_cons_succ]); (try simp only [List.getElem_cons_zero]); (try simp only [Act.put]); (try simp only [List.setIfInBounds_toArray]); (try simp only [List.set_cons_succ]); (try simp only [List.set_cons_zero])))
          (refine wpAnyH_take (i := 7) (v := ?_) rfl (by kernel_rfl) (by kernel_rfl) (by kernel_rfl) (fun _ _ _ h => h) (Or.inl ⟨by rfl, ?_⟩) (by assumption) ?_; rotate_left; (intro w hSw; (try dsimp only at hSw); go_simp; try with_reducible rfl); ((try simp only [List.getElem_toArray]); (try simp only [List.getElem_cons_succ]); (try simp only [List.getElem_cons_zero]); (try simp only [Act.put]); (try simp only [List.setIfInBounds_toArray]); (try simp only [List.set_cons_succ]); (try simp only [List.set_cons_zero])))
          (refine wpAnyH_take (i := 8) (v := ?_) rfl (by kernel_rfl) (by kernel_rfl) (by kernel_rfl) (fun _ _ _ h => h) (Or.inl ⟨by rfl, ?_⟩) (by assumption) ?_; rotate_left; (intro w hSw; (try dsimp only at hSw); go_simp; try with_reducible rfl); ((try simp only [List.getElem_toArray]); (try simp only [List.getElem_cons_succ]); (try simp only [List.getElem_cons_zero]); (try simp only [Act.put]); (try simp only [List.setIfInBounds_toArray]); (try simp only [List.set_cons_succ]); (try simp only [List.set_cons_zero])))
          refine wpAnyH_done (by kernel_rfl) ?_ _
          go_wp2_with fail
          go_roundw
          case rel => exact ⟨k + 1, by omega, by go_num, by show _ = _; rw [HOK.out, HT.out]; rfl, HB.out.drew⟩
          case measure => simp [intOf]; omega
      · obtain rfl : k = n := by omega
        go_wp2_with fail
        go_ret
        exact ⟨by rw [HS.out, HT.out]; rfl, HB⟩
  · rw [decide_eq_false he, Bool.false_and] at HS
    have hz : ¬ ((n : Int) = (n' : Int)) := by omega
    go_enter Tryz.func90, Tryz.ntmps90
    go_wp2_with fail
    go_ret
    exact ⟨by rw [HS.out]; rfl, Below.refl _ _⟩
end Go.Proofs.YtlhfdhmmdnkojaaGreatDoor
namespace Go.Proofs.YtlhfdhmmdnkojaaGreatDoor
open Go.RowKit Dg
set_option maxRecDepth 100000
set_option maxHeartbeats 2000000 in
theorem rat_any (A : Option Addr) (T : List Wk) (n c : Nat) (s : ByteArray) (w : World) (hn : T.length = n) (hl : n ≤ 1000) (hA : WRow w A T) :
    Calls Tryz.prog 132 #[.slice A n c, .string s] w fun e w' => e = .returned (.int .i64 (watI T s)) ∧ w' = w := by
  have HN := Lib.hid hn
  have HA := Lib.hid hA
  clear hn hA
  go_enter Tryz.func132, Tryz.ntmps132
  go_wp2_with fail
  go_loopw [5] (fun i wr => ∃ k : Nat, k ≤ n ∧ i = .int .i64 k ∧ Hid (∀ j (hj : j < k) (hj2 : j < T.length), (T[j].t.toList == s.toList) = false) ∧ wr = w) (fun i _ => n - (intOf i).toNat)
  case atStart => exact ⟨0, by omega, rfl, (fun j hj => absurd hj (by omega)), rfl⟩
  case round =>
    obtain ⟨k, hk, rfl, HF, rfl⟩ := hrel
    by_cases hlt : k < n
    · have hkl : k < T.length := by rw [HN.out]; exact hlt
      obtain ⟨b, off, rfl, hc⟩ := HA.out (by intro e; rw [e] at hkl; simp at hkl)
      obtain ⟨c0, c1, c2⟩ := hc k hkl
      have HAT := Lib.hid (fun he => watI_at (s := s) hkl he (fun j hj => HF.out j hj (by omega)))
      have HNX : Hid ((T[k].t.toList == s.toList) = false → ∀ j (hj : j < k + 1) (hj2 : j < T.length), (T[j].t.toList == s.toList) = false) := fun he j hj hj2 => by
        by_cases e : j = k
        · subst e; exact he
        · exact HF.out j (by omega) hj2
      clear hc c1 c2
      generalize T[k].t = xa at *
      have hkz : (k : Int) < (n : Int) := by omega
      cases q : (xa.toList == s.toList)
      · go_wp2_with fail
        go_roundw
        case rel => exact ⟨k + 1, by omega, by go_num, HNX.out q, by trivial⟩
        case measure => simp [intOf]; omega
      · go_wp2_with fail
        go_ret
        exact ⟨by rw [HAT.out q]; rfl, by trivial⟩
    · obtain rfl : k = n := by omega
      have HF2 := Lib.hid (watI_none (T := T) (s := s) (fun j hj => HF.out j (by rw [← HN.out]; exact hj) hj))
      go_wp2_with fail
      go_ret
      exact ⟨by rw [HF2.out]; rfl, by trivial⟩
/-- Where a table's work stands among works in order; -1: nowhere. -/
def watS (T : List Wk) (s : ByteArray) : Int := if plW T s = true then (lbW T s : Int) else -1
theorem watS_is {T : List Wk} {s : ByteArray} (hS : SortW T) : watI T s = watS T s := by
  unfold watS watI
  cases h : plW T s
  · rw [if_neg (plW_tat' hS h)]; simp
  · obtain ⟨h1, h2⟩ := plW_tat h
    rw [h2, if_pos h1]; simp
theorem rat11_any {B : Nat} {v : Value} {T : List Wk} (s : ByteArray) (w : World) (h : OwnW B w v T) (hl : T.length ≤ 800) (hS : SortW T) :
    Calls Tryz.prog 132 #[v, .string s] w fun e w' => e = .returned (.int .i64 (watS T s)) ∧ w' = w := by
  obtain ⟨A, n, c, rfl, hn, hc, hm, hr, hz⟩ := ownW_open h
  rw [← watS_is hS]
  exact rat_any A T n c s w hn.out (by have := hn.out; omega) hr.out
/-- The parts of a row of the call's own, cut at k, as they are handed to append. -/
theorem wcut {B : Nat} {w : World} {A : Option Addr} {n c : Nat} {T : List Wk} (h : OwnW B w (.slice A n c) T) (k : Nat) (hk : k ≤ n) :
    T.length = n ∧ (T.take k).length = k ∧ (T.drop k).length = n - k ∧ n ≤ c ∧ c ≤ maxLen ∧ WRow w A (T.take k) ∧ (A = none → c = 0) ∧ (A = none ∨ ∃ b off, A = some ⟨b, off, none⟩) ∧ ∀ b off, A = some ⟨b, off, none⟩ → WRow w (some ⟨b, off + k * 3, none⟩) (T.drop k) := by
  obtain ⟨A2, c2, e, hc, hm, hr, hz⟩ := ownW_row h
  obtain ⟨rfl, rfl, rfl⟩ := slice_inj e
  refine ⟨rfl, by rw [List.length_take]; omega, by rw [List.length_drop], hc, hm, hr.take k, hz, ownW_addr h, fun b off e => ?_⟩
  subst e
  exact hr.drop k
set_option maxHeartbeats 6000000 in
theorem radd_any {B : Nat} {v : Value} {T : List Wk} (s : ByteArray) (w : World) (h : OwnW B w v T) (hl : T.length ≤ 800) (hS : SortW T) :
    Calls Tryz.prog 131 #[v, .string s] w fun e w' => ∃ u, e = .returned (.tuple #[u, .int .i64 (addE T s)]) ∧ Hid (OwnW w.heap.size w' u (addL T s)) ∧ Hid (Below w.heap.size w w') := by
  obtain ⟨A, n, c, rfl, hn, hc, hm, hr, hz⟩ := ownW_open h
  have HO := Lib.hid h
  have HAT := Lib.hid (rat11_any s w h hl hS)
  have hlb := lw_le T s
  rw [hn.out] at hlb
  have HE1 : Hid (addE T s = if nameF s = false then 6 else if plW T s = true then 8 else 0) := rfl
  have HL1 : Hid (addL T s = if nameF s = false ∨ plW T s = true then [] else T.take (lbW T s) ++ [⟨s, false, ⟨#[]⟩⟩] ++ T.drop (lbW T s)) := rfl
  have HLO : Hid (∀ k (_ : k < lbW T s) (hk : k < T.length), Op.bytesLess T[k].t.toList s.toList = true) := fun k h1 h2 => lw_lo h1 h2
  have HHI : Hid (∀ (hk : lbW T s < T.length), Op.bytesLess T[lbW T s].t.toList s.toList = false) := fun hk => lw_hi hS (Nat.le_refl _) hk
  have HNM := Lib.hid (refName_any s w)
  have HN := Lib.hid hn.out
  have HR := Lib.hid hr.out
  have HCUT := Lib.hid (wcut h (lbW T s) hlb)
  have HWS : Hid (watS T s = if plW T s = true then (lbW T s : Int) else -1) := rfl
  clear hn hr hz h hS
  unfold maxLen at hm
  generalize addE T s = aE at *
  generalize addL T s = aL at *
  generalize watS T s = ws at *
  cases hnf : nameF s
  · rw [hnf] at HE1 HL1 HNM
    clear hnf
    go_enter Tryz.func131, Tryz.ntmps131
    go_wp2_with fail
    refine HNM.out.mono ?_
    rintro e w1 ⟨rfl, rfl⟩
    go_wp2_with fail
    go_ret2
    exact ⟨_, by rw [HE1.out]; rfl, by rw [HL1.out]; exact ownW_nil _ _, Below.refl _ _⟩
  · rw [hnf] at HE1 HL1 HNM
    clear hnf
    cases hp : plW T s
    · rw [hp] at HE1 HL1 HWS
      clear hp
      generalize lbW T s = lb at *
      obtain rfl : ws = -1 := HWS.out
      go_enter Tryz.func131, Tryz.ntmps131
      go_wp2_with fail
      refine HNM.out.mono ?_
      rintro e w1 ⟨rfl, rfl⟩
      go_wp2_with fail
      refine HAT.out.mono ?_
      rintro e w1 ⟨rfl, rfl⟩
      go_wp2_with fail
      go_loopw [7] (fun i wr => ∃ k : Nat, k ≤ lb ∧ i = .int .i64 k ∧ wr = w1) (fun i _ => lb - (intOf i).toNat)
      case atStart => exact ⟨0, by omega, rfl, rfl⟩
      case round =>
        obtain ⟨k, hk, rfl, rfl⟩ := hrel
        by_cases hlt : k < lb
        · have hkl : k < T.length := by rw [HN.out]; omega
          obtain ⟨b, off, rfl, hc0⟩ := HR.out (by intro e; rw [e] at hkl; simp at hkl)
          obtain ⟨c0, _, _⟩ := hc0 k hkl
          have hls := HLO.out k hlt hkl
          have hkz : (k : Int) < (n : Int) := by omega
          clear hc0
          generalize T[k].t = xt at *
          go_wp2_with fail
          go_roundw
          case rel => exact ⟨k + 1, by omega, by go_num, by trivial⟩
          case measure => simp [intOf]; omega
        · obtain rfl : k = lb := by omega
          obtain ⟨hq1, hq2, hq3, hq4, hq5, hq6, hq7, hq8, hq9⟩ := HCUT.out
          by_cases hn2 : k < n
          · have hkl : k < T.length := by rw [HN.out]; omega
            obtain ⟨b, off, rfl, hc0⟩ := HR.out (by intro e; rw [e] at hkl; simp at hkl)
            obtain ⟨c0, _, _⟩ := hc0 k hkl
            have hls := HHI.out hkl
            have hkz : (k : Int) < (n : Int) := by omega
            have hct : ¬ c = k := by omega
            clear hc0
            generalize T[k].t = xt at *
            have HA1 := Lib.hid (appWs wr wr.heap.size (.slice none 0 0) [] (ownW_nil _ _) (Nat.le_refl _) (some ⟨b, off, none⟩) (T.take k) k c hq2 hq6 (fun e => by cases e) (by simp <;> omega))
            obtain ⟨R1, W1, hrun1, ho1, hb1⟩ := HA1.out
            obtain ⟨A1, n1, c1, rfl, hn1, hnc1, hcm1, hrr1, hzz1⟩ := ownW_open ho1
            have HA2 := Lib.hid (appW W1 W1.heap.size rfl wr.heap.size (.slice A1 n1 c1) _ ⟨s, false, ⟨#[]⟩⟩ ho1 hb1.size (by rw [List.nil_append, hq2]; omega))
            obtain ⟨R2, W2, hrun2, ho2, hb2⟩ := HA2.out
            obtain ⟨A2, n2, c2, rfl, hn2', hnc2, hcm2, hrr2, hzz2⟩ := ownW_open ho2
            have hbb : Below wr.heap.size wr W2 := hb1.trans hb2
            have HA3 := Lib.hid (appWs W2 wr.heap.size (.slice A2 n2 c2) _ ho2 hbb.size (some ⟨b, off + k * 3, none⟩) (T.drop k) (n - k) (c - k) (by omega) ((hq9 b off rfl).below hbb) (fun e => by cases e) (by rw [List.length_append, List.nil_append, hq2]; simp only [List.length_singleton]; omega))
            obtain ⟨R3, W3, hrun3, ho3, hb3⟩ := HA3.out
            have hFIN : Hid (OwnW wr.heap.size W3 R3 aL) := by show OwnW _ _ _ _; rw [HL1.out]; simpa using ho3
            have hBEL : Hid (Below wr.heap.size wr W3) := hbb.trans hb3
            clear HA1 HA2 HA3 ho1 ho2 ho3 hb1 hb2 hb3 hbb hrr1 hrr2 hn1 hn2' HL1 HCUT hq1 hq2 hq3 hq6 hq9
            go_wp2_with (first | (at_builtin; refine wpList_app rfl _ _ 65 65 rfl (.slice none 0 0) (.slice (some ⟨b, off, none⟩) k c) rfl rfl ⟨_, _, hrun1, ?_⟩) | (at_builtin; refine wpList_app rfl _ _ 65 65 rfl (.slice A1 n1 c1) (.slice (some ⟨W1.heap.size, 0, none⟩) 1 1) rfl rfl ⟨_, _, hrun2, ?_⟩) | (at_builtin; refine wpList_app rfl _ _ 65 65 rfl (.slice A2 n2 c2) (.slice (some ⟨b, off + k * 3, none⟩) ((n - k)) ((c - k))) rfl rfl ⟨_, _, hrun3, ?_⟩))
            go_ret2
            exact ⟨_, by rw [HE1.out]; rfl, hFIN, hBEL⟩
          · obtain rfl : k = n := by omega
            have hkz : ¬ ((k : Int) < (k : Int)) := by omega
            have hkk : (k : Int) ≤ (c : Int) := by omega
            rcases hq8 with rfl | ⟨b, off, rfl⟩
            · obtain rfl := hq7 rfl
              obtain rfl : k = 0 := by omega
              have HA1 := Lib.hid (appWs wr wr.heap.size (.slice none 0 0) [] (ownW_nil _ _) (Nat.le_refl _) none (T.take 0) 0 0 hq2 hq6 (fun _ => rfl) (by simp <;> omega))
              obtain ⟨R1, W1, hrun1, ho1, hb1⟩ := HA1.out
              obtain ⟨A1, n1, c1, rfl, hn1, hnc1, hcm1, hrr1, hzz1⟩ := ownW_open ho1
              have HA2 := Lib.hid (appW W1 W1.heap.size rfl wr.heap.size (.slice A1 n1 c1) _ ⟨s, false, ⟨#[]⟩⟩ ho1 hb1.size (by rw [List.nil_append, hq2]; omega))
              obtain ⟨R2, W2, hrun2, ho2, hb2⟩ := HA2.out
              obtain ⟨A2, n2, c2, rfl, hn2', hnc2, hcm2, hrr2, hzz2⟩ := ownW_open ho2
              have hbb : Below wr.heap.size wr W2 := hb1.trans hb2
              have HA3 := Lib.hid (appWs W2 wr.heap.size (.slice A2 n2 c2) _ ho2 hbb.size none (T.drop 0) 0 0 (by omega) (by rw [List.drop_eq_nil_of_le (by omega)]; exact WRow.nil _ _) (fun _ => rfl) (by rw [List.length_append, List.nil_append, hq2]; simp only [List.length_singleton]; omega))
              obtain ⟨R3, W3, hrun3, ho3, hb3⟩ := HA3.out
              have hFIN : Hid (OwnW wr.heap.size W3 R3 aL) := by show OwnW _ _ _ _; rw [HL1.out]; simpa using ho3
              have hBEL : Hid (Below wr.heap.size wr W3) := hbb.trans hb3
              clear HA1 HA2 HA3 ho1 ho2 ho3 hb1 hb2 hb3 hbb hrr1 hrr2 hn1 hn2' HL1 HCUT hq1 hq2 hq3 hq6 hq9
              go_wp2_with (first | (at_builtin; refine wpList_app rfl _ _ 65 65 rfl (.slice none 0 0) (.slice none 0 0) rfl rfl ⟨_, _, hrun1, ?_⟩) | (at_builtin; refine wpList_app rfl _ _ 65 65 rfl (.slice A1 n1 c1) (.slice (some ⟨W1.heap.size, 0, none⟩) 1 1) rfl rfl ⟨_, _, hrun2, ?_⟩) | (at_builtin; refine wpList_app rfl _ _ 65 65 rfl (.slice A2 n2 c2) (.slice none (0) (0)) rfl rfl ⟨_, _, hrun3, ?_⟩))
              go_ret2
              exact ⟨_, by rw [HE1.out]; rfl, hFIN, hBEL⟩
            · by_cases hct : c = k
              · subst hct
                have HA1 := Lib.hid (appWs wr wr.heap.size (.slice none 0 0) [] (ownW_nil _ _) (Nat.le_refl _) (some ⟨b, off, none⟩) (T.take c) c c hq2 hq6 (fun e => by cases e) (by simp <;> omega))
                obtain ⟨R1, W1, hrun1, ho1, hb1⟩ := HA1.out
                obtain ⟨A1, n1, c1, rfl, hn1, hnc1, hcm1, hrr1, hzz1⟩ := ownW_open ho1
                have HA2 := Lib.hid (appW W1 W1.heap.size rfl wr.heap.size (.slice A1 n1 c1) _ ⟨s, false, ⟨#[]⟩⟩ ho1 hb1.size (by rw [List.nil_append, hq2]; omega))
                obtain ⟨R2, W2, hrun2, ho2, hb2⟩ := HA2.out
                obtain ⟨A2, n2, c2, rfl, hn2', hnc2, hcm2, hrr2, hzz2⟩ := ownW_open ho2
                have hbb : Below wr.heap.size wr W2 := hb1.trans hb2
                have HA3 := Lib.hid (appWs W2 wr.heap.size (.slice A2 n2 c2) _ ho2 hbb.size (some ⟨b, off, none⟩) (T.drop c) 0 0 (by omega) (by rw [List.drop_eq_nil_of_le (by omega)]; exact WRow.nil _ _) (fun e => by cases e) (by rw [List.length_append, List.nil_append, hq2]; simp only [List.length_singleton]; omega))
                obtain ⟨R3, W3, hrun3, ho3, hb3⟩ := HA3.out
                have hFIN : Hid (OwnW wr.heap.size W3 R3 aL) := by show OwnW _ _ _ _; rw [HL1.out]; simpa using ho3
                have hBEL : Hid (Below wr.heap.size wr W3) := hbb.trans hb3
                clear HA1 HA2 HA3 ho1 ho2 ho3 hb1 hb2 hb3 hbb hrr1 hrr2 hn1 hn2' HL1 HCUT hq1 hq2 hq3 hq6 hq9
                go_wp2_with (first | (at_builtin; refine wpList_app rfl _ _ 65 65 rfl (.slice none 0 0) (.slice (some ⟨b, off, none⟩) c c) rfl rfl ⟨_, _, hrun1, ?_⟩) | (at_builtin; refine wpList_app rfl _ _ 65 65 rfl (.slice A1 n1 c1) (.slice (some ⟨W1.heap.size, 0, none⟩) 1 1) rfl rfl ⟨_, _, hrun2, ?_⟩) | (at_builtin; refine wpList_app rfl _ _ 65 65 rfl (.slice A2 n2 c2) (.slice (some ⟨b, off, none⟩) (0) (0)) rfl rfl ⟨_, _, hrun3, ?_⟩))
                go_ret2
                exact ⟨_, by rw [HE1.out]; rfl, hFIN, hBEL⟩
              · have hcc : ¬ c = k := hct
                have HA1 := Lib.hid (appWs wr wr.heap.size (.slice none 0 0) [] (ownW_nil _ _) (Nat.le_refl _) (some ⟨b, off, none⟩) (T.take k) k c hq2 hq6 (fun e => by cases e) (by simp <;> omega))
                obtain ⟨R1, W1, hrun1, ho1, hb1⟩ := HA1.out
                obtain ⟨A1, n1, c1, rfl, hn1, hnc1, hcm1, hrr1, hzz1⟩ := ownW_open ho1
                have HA2 := Lib.hid (appW W1 W1.heap.size rfl wr.heap.size (.slice A1 n1 c1) _ ⟨s, false, ⟨#[]⟩⟩ ho1 hb1.size (by rw [List.nil_append, hq2]; omega))
                obtain ⟨R2, W2, hrun2, ho2, hb2⟩ := HA2.out
                obtain ⟨A2, n2, c2, rfl, hn2', hnc2, hcm2, hrr2, hzz2⟩ := ownW_open ho2
                have hbb : Below wr.heap.size wr W2 := hb1.trans hb2
                have HA3 := Lib.hid (appWs W2 wr.heap.size (.slice A2 n2 c2) _ ho2 hbb.size (some ⟨b, off + k * 3, none⟩) (T.drop k) 0 (c - k) (by omega) ((hq9 b off rfl).below hbb) (fun e => by cases e) (by rw [List.length_append, List.nil_append, hq2]; simp only [List.length_singleton]; omega))
                obtain ⟨R3, W3, hrun3, ho3, hb3⟩ := HA3.out
                have hFIN : Hid (OwnW wr.heap.size W3 R3 aL) := by show OwnW _ _ _ _; rw [HL1.out]; simpa using ho3
                have hBEL : Hid (Below wr.heap.size wr W3) := hbb.trans hb3
                clear HA1 HA2 HA3 ho1 ho2 ho3 hb1 hb2 hb3 hbb hrr1 hrr2 hn1 hn2' HL1 HCUT hq1 hq2 hq3 hq6 hq9
                go_wp2_with (first | (at_builtin; refine wpList_app rfl _ _ 65 65 rfl (.slice none 0 0) (.slice (some ⟨b, off, none⟩) k c) rfl rfl ⟨_, _, hrun1, ?_⟩) | (at_builtin; refine wpList_app rfl _ _ 65 65 rfl (.slice A1 n1 c1) (.slice (some ⟨W1.heap.size, 0, none⟩) 1 1) rfl rfl ⟨_, _, hrun2, ?_⟩) | (at_builtin; refine wpList_app rfl _ _ 65 65 rfl (.slice A2 n2 c2) (.slice (some ⟨b, off + k * 3, none⟩) (0) ((c - k))) rfl rfl ⟨_, _, hrun3, ?_⟩))
                go_ret2
                exact ⟨_, by rw [HE1.out]; rfl, hFIN, hBEL⟩
    · rw [hp] at HE1 HL1 HWS
      clear hp
      obtain rfl : ws = (lbW T s : Int) := HWS.out
      have hz0 : (0 : Int) ≤ (lbW T s : Int) := by omega
      have HLX : Hid (aL = []) := by show _ = _; rw [HL1.out]; rfl
      clear HLO HHI HCUT HL1
      generalize lbW T s = lb at *
      go_enter Tryz.func131, Tryz.ntmps131
      go_wp2_with fail
      refine HNM.out.mono ?_
      rintro e w1 ⟨rfl, rfl⟩
      go_wp2_with fail
      refine HAT.out.mono ?_
      rintro e w1 ⟨rfl, rfl⟩
      go_wp2_with fail
      go_ret2
      exact ⟨_, by rw [HE1.out]; rfl, by rw [HLX.out]; exact ownW_nil _ _, Below.refl _ _⟩
end Go.Proofs.YtlhfdhmmdnkojaaGreatDoor
namespace Go.Proofs.YtlhfdhmmdnkojaaGreatDoor
open Go.RowKit Dg
set_option maxRecDepth 100000
theorem sort_pw {T : List Wk} : SortW T ↔ T.Pairwise (fun x y => Op.bytesLess x.t.toList y.t.toList = true) := by
  rw [List.pairwise_iff_getElem]
  exact ⟨fun h i j hi hj hij => h i j hij hj, fun h i j hij hj => h i j _ hj hij⟩
theorem mem_lo {T : List Wk} {s : ByteArray} {x : Wk} (h : x ∈ T.take (lbW T s)) : Op.bytesLess x.t.toList s.toList = true := by
  obtain ⟨i, hi, rfl⟩ := List.getElem_of_mem h
  rw [List.length_take] at hi
  rw [List.getElem_take]
  exact lw_lo (by omega) (by omega)
theorem mem_hi0 {T : List Wk} {s : ByteArray} (hS : SortW T) {x : Wk} (h : x ∈ T.drop (lbW T s)) : Op.bytesLess x.t.toList s.toList = false := by
  obtain ⟨i, hi, rfl⟩ := List.getElem_of_mem h
  rw [List.length_drop] at hi
  rw [List.getElem_drop]
  exact lw_hi hS (by omega) (by omega)
theorem mem_hi {T : List Wk} {s : ByteArray} (hS : SortW T) (hp : plW T s = false) {x : Wk} (h : x ∈ T.drop (lbW T s)) : Op.bytesLess s.toList x.t.toList = true := by
  have h0 := mem_hi0 hS h
  cases h1 : Op.bytesLess s.toList x.t.toList
  · have he := yless_total _ _ h0 h1
    obtain ⟨i, hi, rfl⟩ := List.getElem_of_mem h
    rw [List.length_drop] at hi
    rw [List.getElem_drop] at he
    have hl : lbW T s < T.length := by omega
    rw [plW_at hl] at hp
    rcases Nat.eq_zero_or_pos i with rfl | hi0
    · simp only [Nat.add_zero] at he
      rw [he] at hp
      simp at hp
    · have h2 := hS (lbW T s) (lbW T s + i) (by omega) (by omega)
      rw [he] at h2
      have h3 := lw_hi (s := s) hS (Nat.le_refl _) hl
      rw [h2] at h3; cases h3
  · rfl
theorem sort_put {a b : List Wk} {x : Wk} (ha : SortW a) (hb : SortW b) (h1 : ∀ y ∈ a, Op.bytesLess y.t.toList x.t.toList = true) (h2 : ∀ y ∈ b, Op.bytesLess x.t.toList y.t.toList = true) : SortW (a ++ [x] ++ b) := by
  rw [sort_pw] at *
  rw [List.append_assoc, List.pairwise_append]
  refine ⟨ha, ?_, fun y hy z hz => ?_⟩
  · rw [List.singleton_append, List.pairwise_cons]
    exact ⟨h2, hb⟩
  · rcases List.mem_append.1 hz with hz | hz
    · rw [List.mem_singleton.1 hz]; exact h1 y hy
    · exact yless_trans _ _ _ (h1 y hy) (h2 z hz)
theorem sort_take {T : List Wk} (h : SortW T) (k : Nat) : SortW (T.take k) := by
  rw [sort_pw] at *; exact h.sublist (List.take_sublist k T)
theorem sort_drop {T : List Wk} (h : SortW T) (k : Nat) : SortW (T.drop k) := by
  rw [sort_pw] at *; exact h.sublist (List.drop_sublist k T)
/-- Works with one put in. -/
def gput (T : List Wk) (s : ByteArray) (d : Bool) (k : ByteArray) : List Wk := T.take (lbW T s) ++ [⟨s, d, k⟩] ++ T.drop (lbW T s)
theorem gput_sort {T : List Wk} {s : ByteArray} (hS : SortW T) (hp : plW T s = false) (d : Bool) (k : ByteArray) : SortW (gput T s d k) :=
  sort_put (sort_take hS _) (sort_drop hS _) (fun _ hy => mem_lo hy) (fun _ hy => mem_hi hS hp hy)
theorem gput_len (T : List Wk) (s : ByteArray) (d : Bool) (k : ByteArray) : (gput T s d k).length = T.length + 1 := by
  have := lw_le T s
  simp [gput, List.length_take, List.length_drop]; omega
theorem gput_at? (T : List Wk) (s : ByteArray) (d : Bool) (k : ByteArray) : (gput T s d k)[lbW T s]? = some ⟨s, d, k⟩ := by
  have hl : (T.take (lbW T s)).length = lbW T s := by rw [List.length_take]; exact Nat.min_eq_left (lw_le T s)
  unfold gput
  rw [List.getElem?_append_left (by simp [hl]), List.getElem?_append_right (by omega)]
  simp [hl]
theorem gput_at (T : List Wk) (s : ByteArray) (d : Bool) (k : ByteArray) (h : lbW T s < (gput T s d k).length) : (gput T s d k)[lbW T s] = ⟨s, d, k⟩ := by
  have h1 := gput_at? T s d k
  rw [List.getElem?_eq_getElem h] at h1
  exact Option.some.inj h1
theorem gput_set (T : List Wk) (s : ByteArray) (d d' : Bool) (k k' : ByteArray) : (gput T s d k).set (lbW T s) ⟨s, d', k'⟩ = gput T s d' k' := by
  have hl : (T.take (lbW T s)).length = lbW T s := by rw [List.length_take]; exact Nat.min_eq_left (lw_le T s)
  unfold gput
  rw [List.set_append_left _ _ (by simp [hl]), List.set_append_right _ _ (by omega)]
  simp [hl]
theorem lb_of {T : List Wk} {s : ByteArray} {i : Nat} (hS : SortW T) (hi : i < T.length) (he : T[i].t = s) : lbW T s = i := by
  subst he
  refine lw_is (by omega) (fun t ht => hS t i ht hi) (fun t h1 h2 => ?_)
  rcases Nat.lt_or_eq_of_le h1 with h | h
  · exact yless_asymm _ _ (hS i t h h2)
  · subst h; exact yless_irrefl _
theorem pl_of {T : List Wk} {s : ByteArray} {i : Nat} (hS : SortW T) (hi : i < T.length) (he : T[i].t = s) : plW T s = true := by
  have h := lb_of hS hi he
  rw [plW_at (by omega)]
  simp only [h, he, beq_self_eq_true]
theorem gput_lb {T : List Wk} {s : ByteArray} (hS : SortW T) (hp : plW T s = false) (d : Bool) (k : ByteArray) : lbW (gput T s d k) s = lbW T s := by
  have hl : lbW T s < (gput T s d k).length := by rw [gput_len]; have := lw_le T s; omega
  exact lb_of (gput_sort hS hp d k) hl (by rw [gput_at])
theorem gput_pl {T : List Wk} {s : ByteArray} (hS : SortW T) (hp : plW T s = false) (d : Bool) (k : ByteArray) : plW (gput T s d k) s = true := by
  have hl : lbW T s < (gput T s d k).length := by rw [gput_len]; have := lw_le T s; omega
  exact pl_of (gput_sort hS hp d k) hl (by rw [gput_at])
theorem gput_mem {T : List Wk} {s : ByteArray} {d : Bool} {k : ByteArray} {x : Wk} : x ∈ gput T s d k ↔ x = ⟨s, d, k⟩ ∨ x ∈ T := by
  have e : x ∈ T ↔ x ∈ T.take (lbW T s) ∨ x ∈ T.drop (lbW T s) := by
    rw [← List.mem_append, List.take_append_drop]
  unfold gput
  rw [List.mem_append, List.mem_append, List.mem_singleton, e]
  constructor
  · rintro ((h | h) | h)
    · exact .inr (.inl h)
    · exact .inl h
    · exact .inr (.inr h)
  · rintro (h | h | h)
    · exact .inl (.inr h)
    · exact .inl (.inl h)
    · exact .inr h
theorem add_yes {T : List Wk} {s : ByteArray} (hn : nameF s = true) (hp : plW T s = false) : addE T s = 0 ∧ addL T s = gput T s false ⟨#[]⟩ := by
  constructor
  · simp [addE, hn, hp]
  · unfold addL; rw [if_neg (by simp [hn, hp])]; rfl
theorem add_dup {T : List Wk} {s : ByteArray} (hn : nameF s = true) (hp : plW T s = true) : addE T s = 8 := by
  simp [addE, hn, hp]
/-- The pool's names. -/
def poolB (i : Nat) : ByteArray := if i = 0 then ⟨#[116]⟩ else if i = 1 then ⟨#[117]⟩ else if i = 2 then ⟨#[118]⟩ else ⟨#[119]⟩
theorem poolB_name (i : Nat) : nameF (poolB i) = true := by
  unfold poolB
  split
  · decide +kernel
  · split
    · decide +kernel
    · split <;> decide +kernel
/-- A work's name, and its key, as the document's Good makes them. -/
def gnm (x : Wk) (i : Nat) : ByteArray := if nameF x.t = true then x.t else poolB i
def gkn (x : Wk) : Nat := byteAt x.k 0 % 9
def gky (x : Wk) : ByteArray := if x.d = false ∧ 0 < x.k.size then kI (gkn x : Nat) else ⟨#[]⟩
theorem gnm_name (x : Wk) (i : Nat) : nameF (gnm x i) = true := by
  unfold gnm
  split
  · assumption
  · exact poolB_name i
theorem gnm_size (x : Wk) (i : Nat) : (gnm x i).size ≤ 32 := (nameF_size (gnm_name x i)).2
def gstep (T : List Wk) (x : Wk) (i : Nat) : List Wk := if plW T (gnm x i) = true then T else gput T (gnm x i) x.d (gky x)
def gdTo (L : List Wk) : Nat → List Wk
  | 0 => []
  | k + 1 => match L[k]? with | some x => gstep (gdTo L k) x k | none => gdTo L k
def goodW (L : List Wk) : List Wk := gdTo L (min L.length 4)
theorem gdTo_succ (L : List Wk) (k : Nat) (h : k < L.length) : gdTo L (k + 1) = gstep (gdTo L k) L[k] k := by
  conv => lhs; unfold gdTo
  rw [List.getElem?_eq_getElem h]
/-- What a good work is. -/
def GoodK (x : Wk) : Prop := nameF x.t = true ∧ (x.k = ⟨#[]⟩ ∨ x.d = false ∧ ∃ m : Nat, m < 9 ∧ x.k = kI (m : Nat))
theorem gky_good (x : Wk) (i : Nat) : GoodK ⟨gnm x i, x.d, gky x⟩ := by
  refine ⟨gnm_name x i, ?_⟩
  unfold gky
  split
  · rename_i h
    exact .inr ⟨h.1, gkn x, Nat.mod_lt _ (by omega), rfl⟩
  · exact .inl rfl
theorem gdTo_ok (L : List Wk) (k : Nat) : SortW (gdTo L k) ∧ (gdTo L k).length ≤ k ∧ ∀ x ∈ gdTo L k, GoodK x := by
  induction k with
  | zero => exact ⟨fun i j _ hj => absurd hj (by simp [gdTo]), Nat.le_refl _, fun x hx => by simp [gdTo] at hx⟩
  | succ k ih =>
    obtain ⟨h1, h2, h3⟩ := ih
    conv => enter [1, 1]; unfold gdTo
    conv => enter [2, 1, 1, 1]; unfold gdTo
    conv => enter [2, 2, x, 1]; unfold gdTo
    cases hx : L[k]? with
    | none => exact ⟨h1, Nat.le_succ_of_le h2, h3⟩
    | some x =>
      simp only
      unfold gstep
      split
      · exact ⟨h1, Nat.le_succ_of_le h2, h3⟩
      · rename_i hp
        have hp : plW (gdTo L k) (gnm x k) = false := by simpa using hp
        refine ⟨gput_sort h1 hp _ _, by rw [gput_len]; omega, fun y hy => ?_⟩
        rcases gput_mem.1 hy with rfl | hy
        · exact gky_good x k
        · exact h3 y hy
theorem goodW_sort (L : List Wk) : SortW (goodW L) := (gdTo_ok L _).1
theorem goodW_len (L : List Wk) : (goodW L).length ≤ 4 := Nat.le_trans (gdTo_ok L _).2.1 (Nat.min_le_right _ _)
theorem goodW_good (L : List Wk) : ∀ x ∈ goodW L, GoodK x := (gdTo_ok L _).2.2
theorem GoodK.sizes {x : Wk} (h : GoodK x) : x.t.size ≤ 32 ∧ x.k.size ≤ 9 := by
  refine ⟨(nameF_size h.1).2, ?_⟩
  rcases h.2 with h | ⟨_, m, _, h⟩
  · rw [h]; simp [ByteArray.size]
  · rw [h, kI_size]; omega
theorem GoodK.may {x : Wk} (h : GoodK x) : mayW x = true := by
  unfold mayW
  rw [h.1]
  rcases h.2 with h | ⟨hd, m, hm, h⟩
  · rw [h]; simp [ByteArray.size]
  · rw [hd, h, show isKeyB (kI (m : Nat)) = true from isKeyB_int _ (by omega) (by omega)]; simp
/-- Works in order each of which may be, may be. -/
theorem wright_of {T : List Wk} (hS : SortW T) (hm : ∀ x ∈ T, mayW x = true) : wrightF T = true := by
  unfold wrightF wrightTo
  rw [List.all_eq_true]
  intro k hk
  have hk := List.mem_range.1 hk
  rcases Nat.eq_zero_or_pos k with rfl | h0
  · rw [wokAt_first T hk]; exact hm _ (List.getElem_mem hk)
  · rw [wokAt_next T k hk h0, hm _ (List.getElem_mem hk), hS (k - 1) k (by omega) hk]; rfl
end Go.Proofs.YtlhfdhmmdnkojaaGreatDoor
namespace Go.Proofs.YtlhfdhmmdnkojaaGreatDoor
open Go.RowKit Dg
set_option maxRecDepth 100000
/-- What stands while a value's bytes are read: the values so far, and the box of the one that is read. -/
structure VSt (w wr W : World) (u : Value) (acc : List Vl) (k n : Int) (t : ByteArray) : Prop where
  own : OwnV w.heap.size W u acc
  bel : Below w.heap.size w W
  box : Has W wr.heap.size 113 #[.int .i64 k, .int .i64 n, .string t]
  low : ∀ g cap m, u = .slice (some ⟨g, 0, none⟩) m cap → g < wr.heap.size
  big : wr.heap.size + 1 ≤ W.heap.size
  base : w.heap.size ≤ wr.heap.size
section
variable {w wr W W' : World} {u : Value} {acc : List Vl} {k n : Int} {t : ByteArray}
theorem VSt.below (h : VSt w wr W u acc k n t) (hb : Below (wr.heap.size + 1) W W') : VSt w wr W' u acc k n t := by
  refine ⟨?_, h.bel.trans (hb.mono (by have := h.base; omega)), h.box.below hb (by omega), h.low, Nat.le_trans h.big hb.size, h.base⟩
  rcases h.own.2 with ⟨hv, hn⟩ | ⟨g, cap, cur, hv, hg, hh, hc, hcm, hsz, ht⟩
  · exact ⟨h.own.1, .inl ⟨hv, hn⟩⟩
  · exact ⟨h.own.1, .inr ⟨g, cap, cur, hv, hg, Has.below (t := 113) (cs := cur) hh hb (by have := h.low g cap _ hv; omega), hc, hcm, hsz, ht⟩⟩
theorem VSt.c0 (h : VSt w wr W u acc k n t) : W.cell? ⟨wr.heap.size, 0, none⟩ = some (.int .i64 k) := h.box.cell 0
theorem VSt.c1 (h : VSt w wr W u acc k n t) : W.cell? ⟨wr.heap.size, 1, none⟩ = some (.int .i64 n) := h.box.cell 1
theorem VSt.c2 (h : VSt w wr W u acc k n t) : W.cell? ⟨wr.heap.size, 2, none⟩ = some (.string t) := h.box.cell 2
end
end Go.Proofs.YtlhfdhmmdnkojaaGreatDoor
namespace Go.Proofs.YtlhfdhmmdnkojaaGreatDoor
open Go.RowKit Dg
set_option maxRecDepth 100000
/-- What stands while Good goes on. -/
structure GSw (w wr : World) (u : Value) (T : List Wk) : Prop where
  own : OwnW (w.heap.size + 1) wr u T
  bel : Below w.heap.size w wr
  pool : Has wr w.heap.size 9 #[.string ⟨#[116]⟩, .string ⟨#[117]⟩, .string ⟨#[118]⟩, .string ⟨#[119]⟩]
  big : w.heap.size + 1 ≤ wr.heap.size
theorem GSw.grown {w wr w' : World} {u u' : Value} {T T' : List Wk} (h : GSw w wr u T) (ho : OwnW wr.heap.size w' u' T') (hb : Below wr.heap.size wr w') : GSw w w' u' T' :=
  ⟨ownW_down ho h.big, h.bel.trans (hb.mono h.bel.size), h.pool.below hb h.pool.lt, Nat.le_trans h.big hb.size⟩
theorem GSw.below {w wr w' : World} {u : Value} {T : List Wk} (h : GSw w wr u T) (hb : Below wr.heap.size wr w') : GSw w w' u T :=
  ⟨h.own.below hb, h.bel.trans (hb.mono h.bel.size), h.pool.below hb h.pool.lt, Nat.le_trans h.big hb.size⟩
theorem GSw.put {w wr : World} {g n c : Nat} {T : List Wk} (h : GSw w wr (.slice (some ⟨g, 0, none⟩) n c) T) (i : Nat) (hi : i < T.length) (j : Nat) (hj : j < 3) (v : Value) (x : Wk) (hx : x.row = T[i].row.set j v) :
    wr.frozen? ⟨g, i * 3 + j, none⟩ = false ∧ GSw w (wr.setCell ⟨g, i * 3 + j, none⟩ v) (.slice (some ⟨g, 0, none⟩) n c) (T.set i x) := by
  obtain ⟨h1, h2, h3⟩ := ownW_put2 h.own i hi j hj v x hx
  refine ⟨h2, h3, h.bel.setCell (by show w.heap.size ≤ g; omega) _, h.pool.far (by show w.heap.size ≠ g; omega) _, by rw [size_set]; exact h.big⟩
theorem GSw.addr {w wr : World} {A : Option Addr} {n c : Nat} {T : List Wk} (h : GSw w wr (.slice A n c) T) (h0 : 0 < T.length) : ∃ g, A = some ⟨g, 0, none⟩ ∧ T.length = n ∧ n ≤ c := by
  rcases h.own.2 with ⟨hv, hn⟩ | ⟨g, cap, cur, hv, hg, hh, hc, hcm, hsz, ht⟩
  · omega
  · obtain ⟨rfl, rfl, rfl⟩ := slice_inj hv
    exact ⟨g, rfl, rfl, hc⟩
theorem ypool_cell {wr : World} {q : Nat} (h : Has wr q 9 #[.string ⟨#[116]⟩, .string ⟨#[117]⟩, .string ⟨#[118]⟩, .string ⟨#[119]⟩]) (k : Nat) (hk : k < 4) : wr.cell? ⟨q, k, none⟩ = some (.string (poolB k)) := by
  rw [h.cell]
  have : k = 0 ∨ k = 1 ∨ k = 2 ∨ k = 3 := by omega
  rcases this with rfl | rfl | rfl | rfl <;> rfl
theorem gstep_dup {T : List Wk} {x : Wk} {i : Nat} (h : plW T (gnm x i) = true) : gstep T x i = T := by unfold gstep; rw [if_pos h]
theorem gstep_new {T : List Wk} {x : Wk} {i : Nat} (h : plW T (gnm x i) = false) : gstep T x i = gput T (gnm x i) x.d (gky x) := by unfold gstep; rw [if_neg (by rw [h]; simp)]
theorem gky_no {x : Wk} (h : ¬ (x.d = false ∧ 0 < x.k.size)) : gky x = ⟨#[]⟩ := by unfold gky; rw [if_neg h]
theorem gky_yes {x : Wk} (h : x.d = false) (h0 : 0 < x.k.size) : gky x = kI (gkn x : Nat) := by unfold gky; rw [if_pos ⟨h, h0⟩]
theorem gkn_lt (x : Wk) : gkn x < 9 := Nat.mod_lt _ (by omega)
theorem gkn_tmod (x : Wk) (h : 0 < x.k.size) : ((x.k[0]'h).toNat : Int).tmod 9 = (gkn x : Int) := by
  unfold gkn
  rw [byteAt_eq _ _ h]
  rfl
set_option maxHeartbeats 2000000 in
theorem rkeyLit (W : World) (q : Nat) (hq : q = W.heap.size) (m : Int) (h0 : -9223372036854775808 ≤ m) (h1 : m ≤ 9223372036854775807) :
    Calls Tryz.prog 111 #[.slice (some ⟨q, 0, none⟩) 1 1] (W.alloc (.cells #[.int .i64 2, .int .i64 m, .string ⟨#[]⟩] 113)) fun e w' => e = .returned (.string (kI m)) ∧ Hid (Below W.heap.size W w') := by
  subst hq
  have HB := Lib.hid ((Below.refl W.heap.size W).alloc (Nat.le_refl _) (.cells #[.int .i64 2, .int .i64 m, .string ⟨#[]⟩] 113))
  have HV : Hid (VRow (W.alloc (.cells #[.int .i64 2, .int .i64 m, .string ⟨#[]⟩] 113)) (some ⟨W.heap.size, 0, none⟩) [⟨2, m, ⟨#[]⟩⟩]) := fun _ => ⟨W.heap.size, 0, rfl, fun i hi => by
    have hh := Has.new W 113 #[.int .i64 2, .int .i64 m, .string ⟨#[]⟩]
    obtain rfl : i = 0 := by simpa using hi
    exact ⟨hh.cell 0, hh.cell 1, hh.cell 2⟩⟩
  refine (refKey_any (some ⟨W.heap.size, 0, none⟩) [⟨2, m, ⟨#[]⟩⟩] 1 1 _ rfl (by omega) HV.out (fun x hx => by rw [List.mem_singleton.1 hx]; exact ⟨h0, h1, by simp [ByteArray.size]⟩) (fun x hx => by rw [List.mem_singleton.1 hx]; simp [Vl.may, mayF])).mono ?_
  rintro e w1 ⟨rfl, hb⟩
  exact ⟨rfl, HB.out.trans (hb.out.mono HB.out.size)⟩
end Go.Proofs.YtlhfdhmmdnkojaaGreatDoor
namespace Go.Proofs.YtlhfdhmmdnkojaaGreatDoor
open Go.RowKit Dg
set_option maxRecDepth 100000
theorem wEnd2 {fn : Func} {p u : Tmp} (h : fn.results = #[.cell p 143, .tmp u]) (w' : World) (g : Nat) (c0 c1 c2 : Value) (tmps : Array Value) (hp : tmps.getD p undef = .pointer (some ⟨g, 0, none⟩)) (hh : Has w' g 143 #[c0, c1, c2]) :
    (results fn tmps).run Tryz.prog w' = .ok (.tuple #[.agg #[c0, c1, c2], tmps.getD u undef]) w' := by
  rw [results_cell_tmp h, hp]
  simp only [asAddr, Sem.run_pure, Result.andThen_ok]
  rw [run_loadVar_row w' g 143 143 #[c0, c1, c2] (0, 0) _ hh Tryz.underlying143 rfl (by kernel_rfl)]
  rfl
theorem hput3 {W : World} {g : Nat} {t : TypeId} {a0 a1 a2 : Value} (h : Has W g t #[a0, a1, a2]) (u0 u1 u2 : Value) : Has (((W.setCell ⟨g, 0, none⟩ u0).setCell ⟨g, 1, none⟩ u1).setCell ⟨g, 2, none⟩ u2) g t #[u0, u1, u2] := ((h.put 0 u0).put 1 u1).put 2 u2
end Go.Proofs.YtlhfdhmmdnkojaaGreatDoor
namespace Go.Proofs.YtlhfdhmmdnkojaaGreatDoor
open Go.RowKit Dg
set_option maxRecDepth 100000
/-- May a point be? -/
def ptOk (x y z : Int) (T : List Wk) : Bool := decide (0 ≤ x) && decide (0 ≤ y) && decide (0 ≤ z) && wrightF T
set_option maxHeartbeats 8000000 in
theorem pptmay_any {B : Nat} {A : Option Addr} {n c : Nat} {T : List Wk} (x y z : Int) (w : World) (h : OwnW B w (.slice A n c) T) (hl : T.length ≤ 800) (hf : ∀ x ∈ T, x.t.size ≤ 140737488355328 ∧ x.k.size ≤ 900) (hT : Tabs w) :
    Calls Tryz.prog 133 #[.agg #[.int .i64 x, .int .i64 y, .int .i64 z, .slice A n c]] w fun e w' => e = .returned (.bool (ptOk x y z T)) ∧ Hid (Below w.heap.size w w') := by
  have hb0 : Below w.heap.size w (w.alloc (.cells #[.int .i64 x, .int .i64 y, .int .i64 z, .slice A n c] 67)) := (Below.refl _ w).alloc (Nat.le_refl _) _
  have HR := Lib.hid (pwright_any _ (h.below hb0) hl hf (hT.below hb0))
  have HB := Lib.hid hb0
  have HO : Hid (ptOk x y z T = (decide (0 ≤ x) && decide (0 ≤ y) && decide (0 ≤ z) && wrightF T)) := rfl
  clear h hf hT hb0
  generalize wrightF T = r at *
  generalize ptOk x y z T = q at *
  by_cases h0 : 0 ≤ x
  · by_cases h1 : 0 ≤ y
    · by_cases h2 : 0 ≤ z
      · have HO2 : Hid (q = r) := by show _ = _; rw [HO.out]; simp [h0, h1, h2]
        clear HO
        go_enter Tryz.func133, Tryz.ntmps133
        go_wp2_with fail
        refine HR.out.mono ?_
        rintro e w1 ⟨rfl, hb1⟩
        have HB1 := Lib.hid (HB.out.trans (hb1.out.mono HB.out.size))
        clear hb1
        go_wp2_with fail
        go_ret
        exact ⟨by rw [HO2.out]; rfl, HB1⟩
      · have HO2 : Hid (q = false) := by show _ = _; rw [HO.out]; simp [h2]
        clear HO HR
        go_enter Tryz.func133, Tryz.ntmps133
        go_wp2_with fail
        go_ret
        exact ⟨by rw [HO2.out]; rfl, HB⟩
    · have HO2 : Hid (q = false) := by show _ = _; rw [HO.out]; simp [h1]
      clear HO HR
      go_enter Tryz.func133, Tryz.ntmps133
      go_wp2_with fail
      go_ret
      exact ⟨by rw [HO2.out]; rfl, HB⟩
  · have HO2 : Hid (q = false) := by show _ = _; rw [HO.out]; simp [h0]
    clear HO HR
    go_enter Tryz.func133, Tryz.ntmps133
    go_wp2_with fail
    go_ret
    exact ⟨by rw [HO2.out]; rfl, HB⟩
/-- What Point makes of a number. -/
def absP (x : Int) : Int := if x < 0 then -(x + 1) else x
theorem absP_ge (x : Int) : 0 ≤ absP x := by unfold absP; split <;> omega
theorem ptEnd (w' : World) (g : Nat) (c0 c1 c2 c3 : Value) (tmps : Array Value) (hp : tmps.getD 2 undef = .pointer (some ⟨g, 0, none⟩)) (hh : Has w' g 67 #[c0, c1, c2, c3]) :
    (results Tryz.f34 tmps).run Tryz.prog w' = .ok (.agg #[c0, c1, c2, c3]) w' :=
  results_cell_row rfl _ _ g 67 #[c0, c1, c2, c3] (0, 0) _ hp hh Tryz.underlying67 rfl (by kernel_rfl)
end Go.Proofs.YtlhfdhmmdnkojaaGreatDoor
namespace Go.Proofs.YtlhfdhmmdnkojaaGreatDoor
open Go.RowKit Dg
set_option maxRecDepth 100000
theorem ownW_apart {B : Nat} {w : World} {v : Value} {L : List Wk} {q : Nat} {t : TypeId} {cs : Array Value} (h : OwnW B w v L) (hh : Has w q t cs) (ht : t ≠ 143) (p : Addr) (hp : p.block = q) (u : Value) : OwnW B (w.setCell p u) v L := by
  rcases h.2 with ⟨hv, hn⟩ | ⟨g, cap, cur, hv, hg, hg2, hc, hcm, hsz, ht2⟩
  · exact ⟨h.1, .inl ⟨hv, hn⟩⟩
  · refine ⟨h.1, .inr ⟨g, cap, cur, hv, hg, Has.far (t := 143) (cs := cur) hg2 (fun e => ?_) u, hc, hcm, hsz, ht2⟩⟩
    rw [hp] at e
    subst e
    unfold Has at hh
    rw [hh] at hg2
    simp at hg2
    exact ht hg2.2
/-- What stands while Point goes on. -/
structure PtS (w W : World) (q : Nat) (x y z : Int) (v : Value) (G : List Wk) : Prop where
  own : OwnW w.heap.size W v G
  bel : Below w.heap.size w W
  box : Has W q 67 #[.int .i64 x, .int .i64 y, .int .i64 z, v]
  res : Has W (w.heap.size + 1) 67 #[.int .i64 0, .int .i64 0, .int .i64 0, .slice none 0 0]
  ne : q ≠ w.heap.size + 1
  ge : w.heap.size ≤ q
section
variable {w W : World} {q : Nat} {x y z : Int} {v : Value} {G : List Wk}
theorem PtS.put0 (h : PtS w W q x y z v G) (x' : Int) : PtS w (W.setCell ⟨q, 0, none⟩ (.int .i64 x')) q x' y z v G :=
  ⟨ownW_apart h.own h.box (by decide) _ rfl _, h.bel.setCell (p := ⟨q, 0, none⟩) h.ge _, h.box.put 0 _, h.res.far (p := ⟨q, 0, none⟩) (fun e => h.ne e.symm) _, h.ne, h.ge⟩
theorem PtS.put1 (h : PtS w W q x y z v G) (y' : Int) : PtS w (W.setCell ⟨q, 1, none⟩ (.int .i64 y')) q x y' z v G :=
  ⟨ownW_apart h.own h.box (by decide) _ rfl _, h.bel.setCell (p := ⟨q, 1, none⟩) h.ge _, h.box.put 1 _, h.res.far (p := ⟨q, 1, none⟩) (fun e => h.ne e.symm) _, h.ne, h.ge⟩
theorem PtS.put2 (h : PtS w W q x y z v G) (z' : Int) : PtS w (W.setCell ⟨q, 2, none⟩ (.int .i64 z')) q x y z' v G :=
  ⟨ownW_apart h.own h.box (by decide) _ rfl _, h.bel.setCell (p := ⟨q, 2, none⟩) h.ge _, h.box.put 2 _, h.res.far (p := ⟨q, 2, none⟩) (fun e => h.ne e.symm) _, h.ne, h.ge⟩
theorem PtS.fin (h : PtS w W q x y z v G) : Has ((((W.setCell ⟨w.heap.size + 1, 0, none⟩ (.int .i64 x)).setCell ⟨w.heap.size + 1, 1, none⟩ (.int .i64 y)).setCell ⟨w.heap.size + 1, 2, none⟩ (.int .i64 z)).setCell ⟨w.heap.size + 1, 3, none⟩ v) (w.heap.size + 1) 67 #[.int .i64 x, .int .i64 y, .int .i64 z, v] ∧
    OwnW w.heap.size ((((W.setCell ⟨w.heap.size + 1, 0, none⟩ (.int .i64 x)).setCell ⟨w.heap.size + 1, 1, none⟩ (.int .i64 y)).setCell ⟨w.heap.size + 1, 2, none⟩ (.int .i64 z)).setCell ⟨w.heap.size + 1, 3, none⟩ v) v G ∧
    Below w.heap.size w ((((W.setCell ⟨w.heap.size + 1, 0, none⟩ (.int .i64 x)).setCell ⟨w.heap.size + 1, 1, none⟩ (.int .i64 y)).setCell ⟨w.heap.size + 1, 2, none⟩ (.int .i64 z)).setCell ⟨w.heap.size + 1, 3, none⟩ v) := by
  have h0 := h.res.put 0 (.int .i64 x)
  have h1 := h0.put 1 (.int .i64 y)
  have h2 := h1.put 2 (.int .i64 z)
  have o0 := ownW_apart h.own h.res (by decide) ⟨w.heap.size + 1, 0, none⟩ rfl (.int .i64 x)
  have o1 := ownW_apart o0 h0 (by decide) ⟨w.heap.size + 1, 1, none⟩ rfl (.int .i64 y)
  have o2 := ownW_apart o1 h1 (by decide) ⟨w.heap.size + 1, 2, none⟩ rfl (.int .i64 z)
  have b0 := h.bel.setCell (p := ⟨w.heap.size + 1, 0, none⟩) (by show w.heap.size ≤ w.heap.size + 1; omega) (.int .i64 x)
  have b1 := b0.setCell (p := ⟨w.heap.size + 1, 1, none⟩) (by show w.heap.size ≤ w.heap.size + 1; omega) (.int .i64 y)
  have b2 := b1.setCell (p := ⟨w.heap.size + 1, 2, none⟩) (by show w.heap.size ≤ w.heap.size + 1; omega) (.int .i64 z)
  exact ⟨h2.put 3 v, ownW_apart o2 h2 (by decide) ⟨w.heap.size + 1, 3, none⟩ rfl v, b2.setCell (p := ⟨w.heap.size + 1, 3, none⟩) (by show w.heap.size ≤ w.heap.size + 1; omega) v⟩
end
theorem put4 {W : World} {q : Nat} {t : TypeId} {a0 a1 a2 a3 : Value} (h : Has W q t #[a0, a1, a2, a3]) (u0 u1 u2 u3 : Value) : Has ((((W.setCell ⟨q, 0, none⟩ u0).setCell ⟨q, 1, none⟩ u1).setCell ⟨q, 2, none⟩ u2).setCell ⟨q, 3, none⟩ u3) q t #[u0, u1, u2, u3] := (((h.put 0 u0).put 1 u1).put 2 u2).put 3 u3
theorem absP_neg {x : Int} (h : x < 0) : absP x = -(x + 1) := by unfold absP; rw [if_pos h]
theorem absP_pos {x : Int} (h : ¬ x < 0) : absP x = x := by unfold absP; rw [if_neg h]
end Go.Proofs.YtlhfdhmmdnkojaaGreatDoor
