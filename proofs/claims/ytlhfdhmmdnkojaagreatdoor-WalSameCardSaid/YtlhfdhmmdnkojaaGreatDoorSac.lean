/-
  Put together, as far as it is used: WRight, FewW, GdM, RVals, RGood, NextW, PtM, RPoint, Ma, Conc.
-/
import Derived.Test.YtlhfdhmmdnkojaaGreatDoorSab
import Derived.Lib.ValidLaws
import Derived.Deep.RegionHeld3
import Derived.Deep.QuietTactic
import Derived.BigQuiet
import Derived.Laws.ResultCell
import Derived.Test.YtlhfdhmmdnkojaaGreatDoorSaa
import Derived.Test.YtlhfdhmmdnkojaaGreatDoorShelf
import Derived.OpenShut
import Derived.Lib.AppendStr
import Derived.Lib.AppendZerosOnto
import Derived.Laws.AppendOwnNone
namespace Go.Proofs.YtlhfdhmmdnkojaaGreatDoor
open Go.RowKit Dg
set_option maxRecDepth 100000
/-- May a work be, whatever stands beside it? -/
def mayW (x : Wk) : Bool := nameF x.t && (x.k.size == 0 || (!x.d && isKeyB x.k))
/-- May the i-th of the works stand where it stands? -/
def wokAt (T : List Wk) (i : Nat) : Bool := match T[i]? with
  | none => true
  | some x => mayW x && (decide (i = 0) || match T[i - 1]? with | none => true | some y => Op.bytesLess y.t.toList x.t.toList)
def wrightTo (T : List Wk) (k : Nat) : Bool := (List.range k).all (wokAt T)
/-- May works be? -/
def wrightF (T : List Wk) : Bool := wrightTo T T.length
theorem wrightTo_succ (T : List Wk) (k : Nat) : wrightTo T (k + 1) = (wrightTo T k && wokAt T k) := by
  unfold wrightTo; rw [List.range_succ, List.all_append]; simp
theorem wrightTo_false (T : List Wk) (k n : Nat) (hk : k < n) (h : wokAt T k = false) : wrightTo T n = false := by
  unfold wrightTo; rw [List.all_eq_false]
  exact ⟨k, List.mem_range.2 hk, by simp [h]⟩
theorem wokAt_first (T : List Wk) (h : 0 < T.length) : wokAt T 0 = mayW T[0] := by
  unfold wokAt; rw [List.getElem?_eq_getElem h]; simp
theorem wokAt_next (T : List Wk) (k : Nat) (h : k < T.length) (h0 : 0 < k) : wokAt T k = (mayW T[k] && Op.bytesLess (T[k - 1]'(by omega)).t.toList T[k].t.toList) := by
  unfold wokAt; rw [List.getElem?_eq_getElem h, List.getElem?_eq_getElem (show k - 1 < T.length by omega)]
  simp only [decide_eq_false (show ¬ k = 0 by omega), Bool.false_or]
theorem wpartS (xs : Array Value) (i : Nat) (v : Value) (h : xs[i]? = some v) (w : World) : (part 9 xs i).run Tryz.prog w = .ok v w := by
  unfold part
  simp [Sem.run_bind, Tryz.isAgg9, h]
theorem wpartB (xs : Array Value) (i : Nat) (v : Value) (h : xs[i]? = some v) (w : World) : (part 4 xs i).run Tryz.prog w = .ok v w := by
  unfold part
  simp [Sem.run_bind, Tryz.isAgg4, h]
theorem eqW (t t' k k' : ByteArray) (d d' : Bool) (w : World) : (Op.equalIn 10000 143 (.agg #[.string t, .bool d, .string k]) (.agg #[.string t', .bool d', .string k'])).run Tryz.prog w = .ok (t.toList == t'.toList && d == d' && k.toList == k'.toList) w := by
  have es := fun (a b : ByteArray) (w : World) => run_equalIn_string (P := Tryz.prog) w 9998 9 a b Tryz.underlying9
  have eb := fun (a b : Bool) (w : World) => run_equalIn_bool (P := Tryz.prog) w 9998 4 a b Tryz.underlying4
  have p0 := fun (x0 x1 x2 : Value) => wpartS #[x0, x1, x2] 0 x0 rfl
  have p1 := fun (x0 x1 x2 : Value) => wpartB #[x0, x1, x2] 1 x1 rfl
  have p2 := fun (x0 x1 x2 : Value) => wpartS #[x0, x1, x2] 2 x2 rfl
  rw [show (10000 : Nat) = 9999 + 1 by rfl, run_equalIn_agg w 9999 143 _ _ (by kernel_rfl) (by kernel_rfl)]
  unfold Program.fieldsOf
  rw [Tryz.underlying143]
  by_cases h0 : t.toList = t'.toList <;> by_cases h1 : d = d' <;> by_cases h2 : k.toList = k'.toList <;>
  simp [Op.eqFields, Sem.run_bind, Result.andThen, p0, p1, p2, es, eb, h0, h1, h2]
theorem empty_of {s : ByteArray} (h : s.size = 0) : s = ⟨#[]⟩ := by
  obtain ⟨a⟩ := s
  have : a = #[] := Array.eq_empty_of_size_eq_zero h
  rw [this]
set_option maxHeartbeats 4000000 in
theorem pmayW_any (t k : ByteArray) (d : Bool) (w : World) (ht : t.size ≤ 140737488355328) (hk : k.size ≤ 900) (hT : Tabs w) :
    Calls Tryz.prog 180 #[.agg #[.string t, .bool d, .string k]] w fun e w' => e = .returned (.bool (mayW ⟨t, d, k⟩)) ∧ Hid (Below w.heap.size w w') := by
  have eq := eqW
  have HB := Lib.hid ((Below.refl w.heap.size w).alloc (Nat.le_refl _) (.cells #[.string t, .bool d, .string k] 143))
  have HX := Lib.hid (Has.new w 143 #[.string t, .bool d, .string k])
  have HNM := Lib.hid (fun W => name_any t W ht)
  have HKEY := Lib.hid (fun W hW => yisKey_any k W hk hW)
  have HT := Lib.hid hT
  have HM : Hid (mayW ⟨t, d, k⟩ = (nameF t && (k.size == 0 || (!d && isKeyB k)))) := rfl
  obtain ⟨m, hm⟩ : ∃ m, mayW ⟨t, d, k⟩ = m := ⟨_, rfl⟩
  rw [hm] at HM ⊢
  clear hm hT hk
  obtain ⟨nf, hnf⟩ : ∃ q, nameF t = q := ⟨_, rfl⟩
  rw [hnf] at HNM HM
  clear hnf
  by_cases hk : k.size = 0
  · obtain rfl := empty_of hk
    clear hk
    cases d
    · go_enter Tryz.func180, Tryz.ntmps180
      go_wp2_with fail
      obtain ⟨v00, hv0⟩ : ∃ W, W = (w.alloc (.cells #[.string t, .bool false, .string ⟨#[]⟩] 143)) := ⟨_, rfl⟩
      rw [← hv0] at HB HX ⊢
      clear hv0
      have x0 := HX.out.cell 0
      simp at x0
      go_wp2_with fail
      refine (HNM.out _).mono ?_
      rintro e v0 ⟨rfl, hb0⟩
      have HB0 : Hid (Below w.heap.size w v0) := HB.out.trans (hb0.out.mono HB.out.size)
      have HX0 := Lib.hid (HX.out.below hb0.out HX.out.lt)
      clear x0 hb0 HX HB
      cases nf
      · go_wp2_with fail
        go_ret
        exact ⟨by rw [HM.out]; rfl, HB0⟩
      · have y0 : v0.cell? ⟨w.heap.size, 0, none⟩ = some (.string t) := HX0.out.cell 0
        have y1 : v0.cell? ⟨w.heap.size, 1, none⟩ = some (.bool false) := HX0.out.cell 1
        have y2 : v0.cell? ⟨w.heap.size, 2, none⟩ = some (.string ⟨#[]⟩) := HX0.out.cell 2
        have hS0 : (fun X : World => Hid (Below v0.heap.size v0 X) ∧ X.cell? ⟨w.heap.size, 0, none⟩ = some (.string t) ∧ X.cell? ⟨w.heap.size, 1, none⟩ = some (.bool false) ∧ X.cell? ⟨w.heap.size, 2, none⟩ = some (.string ⟨#[]⟩)) v0.drew := ⟨(Below.refl _ v0).drew, y0, y1, y2⟩
        go_wp2_with fail
        refine wp_region_held_drew (S := (fun X : World => Hid (Below v0.heap.size v0 X) ∧ X.cell? ⟨w.heap.size, 0, none⟩ = some (.string t) ∧ X.cell? ⟨w.heap.size, 1, none⟩ = some (.bool false) ∧ X.cell? ⟨w.heap.size, 2, none⟩ = some (.string ⟨#[]⟩))) (by kernel_rfl) hS0 (fun _ => ?_)
        (refine wpAnyH_take (i := 0) (v := ?_) rfl (by kernel_rfl) (by kernel_rfl) (by kernel_rfl) (fun _ _ _ h => h) (Or.inl ⟨by rfl, ?_⟩) (by assumption) ?_; rotate_left; (intro w hSw; (try dsimp only at hSw); go_simp; try with_reducible rfl); ((try simp only [List.getElem_toArray]); (try simp only [List.getElem_cons_succ]); (try simp only [List.getElem_cons_zero]); (try simp only [Act.put]); (try simp only [List.setIfInBounds_toArray]); (try simp only [List.set_cons_succ]); (try simp only [List.set_cons_zero])))
        (refine wpAnyH_take (i := 1) (v := ?_) rfl (by kernel_rfl) (by kernel_rfl) (by kernel_rfl) (fun _ _ _ h => h) (Or.inl ⟨by rfl, ?_⟩) (by assumption) ?_; rotate_left; (intro w hSw; (try dsimp only at hSw); go_simp; try with_reducible rfl); ((try simp only [List.getElem_toArray]); (try simp only [List.getElem_cons_succ]); (try simp only [List.getElem_cons_zero]); (try simp only [Act.put]); (try simp only [List.setIfInBounds_toArray]); (try simp only [List.set_cons_succ]); (try simp only [List.set_cons_zero])))
        (refine wpAnyH_take (i := 2) (v := ?_) rfl (by kernel_rfl) (by kernel_rfl) (by kernel_rfl) (fun _ _ _ h => h) (Or.inl ⟨by rfl, ?_⟩) (by assumption) ?_; rotate_left; (intro w hSw; (try dsimp only at hSw); go_simp; try with_reducible rfl); ((try simp only [List.getElem_toArray]); (try simp only [List.getElem_cons_succ]); (try simp only [List.getElem_cons_zero]); (try simp only [Act.put]); (try simp only [List.setIfInBounds_toArray]); (try simp only [List.set_cons_succ]); (try simp only [List.set_cons_zero])))
        refine wpAnyH_ready (rs := [3]) (by kernel_rfl) (by simp) ?_
        refine AllReadyH.cons rfl (fun K2 hK2 => ?_) AllReadyH.nil
        go_simp
        refine (atFirst_any t _).mono ?_
        rintro e x3 ⟨rfl, hb3⟩
        have hS3 : (fun X : World => Hid (Below v0.heap.size v0 X) ∧ X.cell? ⟨w.heap.size, 0, none⟩ = some (.string t) ∧ X.cell? ⟨w.heap.size, 1, none⟩ = some (.bool false) ∧ X.cell? ⟨w.heap.size, 2, none⟩ = some (.string ⟨#[]⟩)) x3 := ⟨(Hid.out (And.left hS0)).trans (hb3.out.mono (Hid.out (And.left hS0)).size), keepW hb3.out hS0.2.1, keepW hb3.out hS0.2.2.1, keepW hb3.out hS0.2.2.2⟩
        go_wp2_with fail
        refine hK2.out _ _ (by (try dsimp only); exact hS3) (fun _ => ?_)
        clear hK2 K2
        (try simp only [List.getElem_toArray]); (try simp only [List.getElem_cons_succ]); (try simp only [List.getElem_cons_zero]); (try simp only [Act.put]); (try simp only [List.setIfInBounds_toArray]); (try simp only [List.set_cons_succ]); (try simp only [List.set_cons_zero])
        (refine wpAnyH_take (i := 4) (v := ?_) rfl (by kernel_rfl) (by kernel_rfl) (by kernel_rfl) (fun _ _ _ h => h) (Or.inl ⟨by rfl, ?_⟩) (by assumption) ?_; rotate_left; (intro w hSw; (try dsimp only at hSw); go_simp; try with_reducible rfl); ((try simp only [List.getElem_toArray]); (try simp only [List.getElem_cons_succ]); (try simp only [List.getElem_cons_zero]); (try simp only [Act.put]); (try simp only [List.setIfInBounds_toArray]); (try simp only [List.set_cons_succ]); (try simp only [List.set_cons_zero])))
        (refine wpAnyH_take (i := 5) (v := ?_) rfl (by kernel_rfl) (by kernel_rfl) (by kernel_rfl) (fun _ _ _ h => h) (Or.inl ⟨by rfl, ?_⟩) (by assumption) ?_; rotate_left; (intro w hSw; (try dsimp only at hSw); go_simp; try with_reducible rfl); ((try simp only [List.getElem_toArray]); (try simp only [List.getElem_cons_succ]); (try simp only [List.getElem_cons_zero]); (try simp only [Act.put]); (try simp only [List.setIfInBounds_toArray]); (try simp only [List.set_cons_succ]); (try simp only [List.set_cons_zero])))
        (refine wpAnyH_take (i := 6) (v := undef) rfl (by kernel_rfl) (by kernel_rfl) (by kernel_rfl) (fun _ _ _ h => h) (Or.inr ⟨by rfl, rfl⟩) (by assumption) ?_; ((try simp only [List.getElem_toArray]); (try simp only [List.getElem_cons_succ]); (try simp only [List.getElem_cons_zero]); (try simp only [Act.put]); (try simp only [List.setIfInBounds_toArray]); (try simp only [List.set_cons_succ]); (try simp only [List.set_cons_zero])))
        (refine wpAnyH_take (i := 7) (v := undef) rfl (by kernel_rfl) (by kernel_rfl) (by kernel_rfl) (fun _ _ _ h => h) (Or.inr ⟨by rfl, rfl⟩) (by assumption) ?_; ((try simp only [List.getElem_toArray]); (try simp only [List.getElem_cons_succ]); (try simp only [List.getElem_cons_zero]); (try simp only [Act.put]); (try simp only [List.setIfInBounds_toArray]); (try simp only [List.set_cons_succ]); (try simp only [List.set_cons_zero])))
        (refine wpAnyH_take (i := 8) (v := undef) rfl (by kernel_rfl) (by kernel_rfl) (by kernel_rfl) (fun _ _ _ h => h) (Or.inr ⟨by rfl, rfl⟩) (by assumption) ?_; ((try simp only [List.getElem_toArray]); (try simp only [List.getElem_cons_succ]); (try simp only [List.getElem_cons_zero]); (try simp only [Act.put]); (try simp only [List.setIfInBounds_toArray]); (try simp only [List.set_cons_succ]); (try simp only [List.set_cons_zero])))
        (refine wpAnyH_take (i := 9) (v := undef) rfl (by kernel_rfl) (by kernel_rfl) (by kernel_rfl) (fun _ _ _ h => h) (Or.inr ⟨by rfl, rfl⟩) (by assumption) ?_; ((try simp only [List.getElem_toArray]); (try simp only [List.getElem_cons_succ]); (try simp only [List.getElem_cons_zero]); (try simp only [Act.put]); (try simp only [List.setIfInBounds_toArray]); (try simp only [List.set_cons_succ]); (try simp only [List.set_cons_zero])))
        (refine wpAnyH_take (i := 10) (v := undef) rfl (by kernel_rfl) (by kernel_rfl) (by kernel_rfl) (fun _ _ _ h => h) (Or.inr ⟨by rfl, rfl⟩) (by assumption) ?_; ((try simp only [List.getElem_toArray]); (try simp only [List.getElem_cons_succ]); (try simp only [List.getElem_cons_zero]); (try simp only [Act.put]); (try simp only [List.setIfInBounds_toArray]); (try simp only [List.set_cons_succ]); (try simp only [List.set_cons_zero])))
        (refine wpAnyH_take (i := 11) (v := ?_) rfl (by kernel_rfl) (by kernel_rfl) (by kernel_rfl) (fun _ _ _ h => h) (Or.inl ⟨by rfl, ?_⟩) (by assumption) ?_; rotate_left; (intro w hSw; (try dsimp only at hSw); go_simp; try with_reducible rfl); ((try simp only [List.getElem_toArray]); (try simp only [List.getElem_cons_succ]); (try simp only [List.getElem_cons_zero]); (try simp only [Act.put]); (try simp only [List.setIfInBounds_toArray]); (try simp only [List.set_cons_succ]); (try simp only [List.set_cons_zero])))
        (refine wpAnyH_take (i := 12) (v := ?_) rfl (by kernel_rfl) (by kernel_rfl) (by kernel_rfl) (fun _ _ _ h => h) (Or.inl ⟨by rfl, ?_⟩) (by assumption) ?_; rotate_left; (intro w hSw; (try dsimp only at hSw); go_simp; try with_reducible rfl); ((try simp only [List.getElem_toArray]); (try simp only [List.getElem_cons_succ]); (try simp only [List.getElem_cons_zero]); (try simp only [Act.put]); (try simp only [List.setIfInBounds_toArray]); (try simp only [List.set_cons_succ]); (try simp only [List.set_cons_zero])))
        (refine wpAnyH_take (i := 13) (v := undef) rfl (by kernel_rfl) (by kernel_rfl) (by kernel_rfl) (fun _ _ _ h => h) (Or.inr ⟨by rfl, rfl⟩) (by assumption) ?_; ((try simp only [List.getElem_toArray]); (try simp only [List.getElem_cons_succ]); (try simp only [List.getElem_cons_zero]); (try simp only [Act.put]); (try simp only [List.setIfInBounds_toArray]); (try simp only [List.set_cons_succ]); (try simp only [List.set_cons_zero])))
        (refine wpAnyH_take (i := 14) (v := undef) rfl (by kernel_rfl) (by kernel_rfl) (by kernel_rfl) (fun _ _ _ h => h) (Or.inr ⟨by rfl, rfl⟩) (by assumption) ?_; ((try simp only [List.getElem_toArray]); (try simp only [List.getElem_cons_succ]); (try simp only [List.getElem_cons_zero]); (try simp only [Act.put]); (try simp only [List.setIfInBounds_toArray]); (try simp only [List.set_cons_succ]); (try simp only [List.set_cons_zero])))
        (refine wpAnyH_take (i := 15) (v := undef) rfl (by kernel_rfl) (by kernel_rfl) (by kernel_rfl) (fun _ _ _ h => h) (Or.inr ⟨by rfl, rfl⟩) (by assumption) ?_; ((try simp only [List.getElem_toArray]); (try simp only [List.getElem_cons_succ]); (try simp only [List.getElem_cons_zero]); (try simp only [Act.put]); (try simp only [List.setIfInBounds_toArray]); (try simp only [List.set_cons_succ]); (try simp only [List.set_cons_zero])))
        (refine wpAnyH_take (i := 16) (v := undef) rfl (by kernel_rfl) (by kernel_rfl) (by kernel_rfl) (fun _ _ _ h => h) (Or.inr ⟨by rfl, rfl⟩) (by assumption) ?_; ((try simp only [List.getElem_toArray]); (try simp only [List.getElem_cons_succ]); (try simp only [List.getElem_cons_zero]); (try simp only [Act.put]); (try simp only [List.setIfInBounds_toArray]); (try simp only [List.set_cons_succ]); (try simp only [List.set_cons_zero])))
        (refine wpAnyH_take (i := 17) (v := undef) rfl (by kernel_rfl) (by kernel_rfl) (by kernel_rfl) (fun _ _ _ h => h) (Or.inr ⟨by rfl, rfl⟩) (by assumption) ?_; ((try simp only [List.getElem_toArray]); (try simp only [List.getElem_cons_succ]); (try simp only [List.getElem_cons_zero]); (try simp only [Act.put]); (try simp only [List.setIfInBounds_toArray]); (try simp only [List.set_cons_succ]); (try simp only [List.set_cons_zero])))
        (refine wpAnyH_take (i := 18) (v := undef) rfl (by kernel_rfl) (by kernel_rfl) (by kernel_rfl) (fun _ _ _ h => h) (Or.inr ⟨by rfl, rfl⟩) (by assumption) ?_; ((try simp only [List.getElem_toArray]); (try simp only [List.getElem_cons_succ]); (try simp only [List.getElem_cons_zero]); (try simp only [Act.put]); (try simp only [List.setIfInBounds_toArray]); (try simp only [List.set_cons_succ]); (try simp only [List.set_cons_zero])))
        (refine wpAnyH_take (i := 19) (v := undef) rfl (by kernel_rfl) (by kernel_rfl) (by kernel_rfl) (fun _ _ _ h => h) (Or.inr ⟨by rfl, rfl⟩) (by assumption) ?_; ((try simp only [List.getElem_toArray]); (try simp only [List.getElem_cons_succ]); (try simp only [List.getElem_cons_zero]); (try simp only [Act.put]); (try simp only [List.setIfInBounds_toArray]); (try simp only [List.set_cons_succ]); (try simp only [List.set_cons_zero])))
        (refine wpAnyH_take (i := 20) (v := undef) rfl (by kernel_rfl) (by kernel_rfl) (by kernel_rfl) (fun _ _ _ h => h) (Or.inr ⟨by rfl, rfl⟩) (by assumption) ?_; ((try simp only [List.getElem_toArray]); (try simp only [List.getElem_cons_succ]); (try simp only [List.getElem_cons_zero]); (try simp only [Act.put]); (try simp only [List.setIfInBounds_toArray]); (try simp only [List.set_cons_succ]); (try simp only [List.set_cons_zero])))
        (refine wpAnyH_take (i := 21) (v := undef) rfl (by kernel_rfl) (by kernel_rfl) (by kernel_rfl) (fun _ _ _ h => h) (Or.inr ⟨by rfl, rfl⟩) (by assumption) ?_; ((try simp only [List.getElem_toArray]); (try simp only [List.getElem_cons_succ]); (try simp only [List.getElem_cons_zero]); (try simp only [Act.put]); (try simp only [List.setIfInBounds_toArray]); (try simp only [List.set_cons_succ]); (try simp only [List.set_cons_zero])))
        (refine wpAnyH_take (i := 22) (v := undef) rfl (by kernel_rfl) (by kernel_rfl) (by kernel_rfl) (fun _ _ _ h => h) (Or.inr ⟨by rfl, rfl⟩) (by assumption) ?_; ((try simp only [List.getElem_toArray]); (try simp only [List.getElem_cons_succ]); (try simp only [List.getElem_cons_zero]); (try simp only [Act.put]); (try simp only [List.setIfInBounds_toArray]); (try simp only [List.set_cons_succ]); (try simp only [List.set_cons_zero])))
        (refine wpAnyH_take (i := 23) (v := undef) rfl (by kernel_rfl) (by kernel_rfl) (by kernel_rfl) (fun _ _ _ h => h) (Or.inr ⟨by rfl, rfl⟩) (by assumption) ?_; ((try simp only [List.getElem_toArray]); (try simp only [List.getElem_cons_succ]); (try simp only [List.getElem_cons_zero]); (try simp only [Act.put]); (try simp only [List.setIfInBounds_toArray]); (try simp only [List.set_cons_succ]); (try simp only [List.set_cons_zero])))
        (refine wpAnyH_take (i := 24) (v := undef) rfl (by kernel_rfl) (by kernel_rfl) (by kernel_rfl) (fun _ _ _ h => h) (Or.inr ⟨by rfl, rfl⟩) (by assumption) ?_; ((try simp only [List.getElem_toArray]); (try simp only [List.getElem_cons_succ]); (try simp only [List.getElem_cons_zero]); (try simp only [Act.put]); (try simp only [List.setIfInBounds_toArray]); (try simp only [List.set_cons_succ]); (try simp only [List.set_cons_zero])))
        (refine wpAnyH_take (i := 25) (v := ?_) rfl (by kernel_rfl) (by kernel_rfl) (by kernel_rfl) (fun _ _ _ h => h) (Or.inl ⟨by rfl, ?_⟩) (by assumption) ?_; rotate_left; (intro w hSw; (try dsimp only at hSw); go_simp; try with_reducible rfl); ((try simp only [List.getElem_toArray]); (try simp only [List.getElem_cons_succ]); (try simp only [List.getElem_cons_zero]); (try simp only [Act.put]); (try simp only [List.setIfInBounds_toArray]); (try simp only [List.set_cons_succ]); (try simp only [List.set_cons_zero])))
        (refine wpAnyH_take (i := 26) (v := ?_) rfl (by kernel_rfl) (by kernel_rfl) (by kernel_rfl) (fun _ _ _ h => h) (Or.inl ⟨by rfl, ?_⟩) (by assumption) ?_; rotate_left; (intro w hSw; (try dsimp only at hSw); go_simp; try with_reducible rfl); ((try simp only [List.getElem_toArray]); (try simp only [List.getElem_cons_succ]); (try simp only [List.getElem_cons_zero]); (try simp only [Act.put]); (try simp only [List.setIfInBounds_toArray]); (try simp only [List.set_cons_succ]); (try simp only [List.set_cons_zero])))
        refine wpAnyH_done (by kernel_rfl) ?_ _
        go_wp2_with fail
        go_ret
        exact ⟨by rw [HM.out]; rfl, HB0.out.trans (Hid.out (And.left hS3) |>.mono HB0.out.size)⟩
    · go_enter Tryz.func180, Tryz.ntmps180
      go_wp2_with fail
      obtain ⟨v00, hv0⟩ : ∃ W, W = (w.alloc (.cells #[.string t, .bool true, .string ⟨#[]⟩] 143)) := ⟨_, rfl⟩
      rw [← hv0] at HB HX ⊢
      clear hv0
      have x0 := HX.out.cell 0
      simp at x0
      go_wp2_with fail
      refine (HNM.out _).mono ?_
      rintro e v0 ⟨rfl, hb0⟩
      have HB0 : Hid (Below w.heap.size w v0) := HB.out.trans (hb0.out.mono HB.out.size)
      have HX0 := Lib.hid (HX.out.below hb0.out HX.out.lt)
      clear x0 hb0 HX HB
      cases nf
      · go_wp2_with fail
        go_ret
        exact ⟨by rw [HM.out]; rfl, HB0⟩
      · have y0 : v0.cell? ⟨w.heap.size, 0, none⟩ = some (.string t) := HX0.out.cell 0
        have y1 : v0.cell? ⟨w.heap.size, 1, none⟩ = some (.bool true) := HX0.out.cell 1
        have y2 : v0.cell? ⟨w.heap.size, 2, none⟩ = some (.string ⟨#[]⟩) := HX0.out.cell 2
        have hS0 : (fun X : World => Hid (Below v0.heap.size v0 X) ∧ X.cell? ⟨w.heap.size, 0, none⟩ = some (.string t) ∧ X.cell? ⟨w.heap.size, 1, none⟩ = some (.bool true) ∧ X.cell? ⟨w.heap.size, 2, none⟩ = some (.string ⟨#[]⟩)) v0.drew := ⟨(Below.refl _ v0).drew, y0, y1, y2⟩
        go_wp2_with fail
        refine wp_region_held_drew (S := (fun X : World => Hid (Below v0.heap.size v0 X) ∧ X.cell? ⟨w.heap.size, 0, none⟩ = some (.string t) ∧ X.cell? ⟨w.heap.size, 1, none⟩ = some (.bool true) ∧ X.cell? ⟨w.heap.size, 2, none⟩ = some (.string ⟨#[]⟩))) (by kernel_rfl) hS0 (fun _ => ?_)
        (refine wpAnyH_take (i := 0) (v := ?_) rfl (by kernel_rfl) (by kernel_rfl) (by kernel_rfl) (fun _ _ _ h => h) (Or.inl ⟨by rfl, ?_⟩) (by assumption) ?_; rotate_left; (intro w hSw; (try dsimp only at hSw); go_simp; try with_reducible rfl); ((try simp only [List.getElem_toArray]); (try simp only [List.getElem_cons_succ]); (try simp only [List.getElem_cons_zero]); (try simp only [Act.put]); (try simp only [List.setIfInBounds_toArray]); (try simp only [List.set_cons_succ]); (try simp only [List.set_cons_zero])))
        (refine wpAnyH_take (i := 1) (v := ?_) rfl (by kernel_rfl) (by kernel_rfl) (by kernel_rfl) (fun _ _ _ h => h) (Or.inl ⟨by rfl, ?_⟩) (by assumption) ?_; rotate_left; (intro w hSw; (try dsimp only at hSw); go_simp; try with_reducible rfl); ((try simp only [List.getElem_toArray]); (try simp only [List.getElem_cons_succ]); (try simp only [List.getElem_cons_zero]); (try simp only [Act.put]); (try simp only [List.setIfInBounds_toArray]); (try simp only [List.set_cons_succ]); (try simp only [List.set_cons_zero])))
        (refine wpAnyH_take (i := 2) (v := ?_) rfl (by kernel_rfl) (by kernel_rfl) (by kernel_rfl) (fun _ _ _ h => h) (Or.inl ⟨by rfl, ?_⟩) (by assumption) ?_; rotate_left; (intro w hSw; (try dsimp only at hSw); go_simp; try with_reducible rfl); ((try simp only [List.getElem_toArray]); (try simp only [List.getElem_cons_succ]); (try simp only [List.getElem_cons_zero]); (try simp only [Act.put]); (try simp only [List.setIfInBounds_toArray]); (try simp only [List.set_cons_succ]); (try simp only [List.set_cons_zero])))
        refine wpAnyH_ready (rs := [3]) (by kernel_rfl) (by simp) ?_
        refine AllReadyH.cons rfl (fun K2 hK2 => ?_) AllReadyH.nil
        go_simp
        refine (atFirst_any t _).mono ?_
        rintro e x3 ⟨rfl, hb3⟩
        have hS3 : (fun X : World => Hid (Below v0.heap.size v0 X) ∧ X.cell? ⟨w.heap.size, 0, none⟩ = some (.string t) ∧ X.cell? ⟨w.heap.size, 1, none⟩ = some (.bool true) ∧ X.cell? ⟨w.heap.size, 2, none⟩ = some (.string ⟨#[]⟩)) x3 := ⟨(Hid.out (And.left hS0)).trans (hb3.out.mono (Hid.out (And.left hS0)).size), keepW hb3.out hS0.2.1, keepW hb3.out hS0.2.2.1, keepW hb3.out hS0.2.2.2⟩
        go_wp2_with fail
        refine hK2.out _ _ (by (try dsimp only); exact hS3) (fun _ => ?_)
        clear hK2 K2
        (try simp only [List.getElem_toArray]); (try simp only [List.getElem_cons_succ]); (try simp only [List.getElem_cons_zero]); (try simp only [Act.put]); (try simp only [List.setIfInBounds_toArray]); (try simp only [List.set_cons_succ]); (try simp only [List.set_cons_zero])
        (refine wpAnyH_take (i := 4) (v := ?_) rfl (by kernel_rfl) (by kernel_rfl) (by kernel_rfl) (fun _ _ _ h => h) (Or.inl ⟨by rfl, ?_⟩) (by assumption) ?_; rotate_left; (intro w hSw; (try dsimp only at hSw); go_simp; try with_reducible rfl); ((try simp only [List.getElem_toArray]); (try simp only [List.getElem_cons_succ]); (try simp only [List.getElem_cons_zero]); (try simp only [Act.put]); (try simp only [List.setIfInBounds_toArray]); (try simp only [List.set_cons_succ]); (try simp only [List.set_cons_zero])))
        (refine wpAnyH_take (i := 5) (v := ?_) rfl (by kernel_rfl) (by kernel_rfl) (by kernel_rfl) (fun _ _ _ h => h) (Or.inl ⟨by rfl, ?_⟩) (by assumption) ?_; rotate_left; (intro w hSw; (try dsimp only at hSw); go_simp; try with_reducible rfl); ((try simp only [List.getElem_toArray]); (try simp only [List.getElem_cons_succ]); (try simp only [List.getElem_cons_zero]); (try simp only [Act.put]); (try simp only [List.setIfInBounds_toArray]); (try simp only [List.set_cons_succ]); (try simp only [List.set_cons_zero])))
        (refine wpAnyH_take (i := 6) (v := ?_) rfl (by kernel_rfl) (by kernel_rfl) (by kernel_rfl) (fun _ _ _ h => h) (Or.inl ⟨by rfl, ?_⟩) (by assumption) ?_; rotate_left; (intro w hSw; (try dsimp only at hSw); go_simp; try with_reducible rfl); ((try simp only [List.getElem_toArray]); (try simp only [List.getElem_cons_succ]); (try simp only [List.getElem_cons_zero]); (try simp only [Act.put]); (try simp only [List.setIfInBounds_toArray]); (try simp only [List.set_cons_succ]); (try simp only [List.set_cons_zero])))
        (refine wpAnyH_take (i := 7) (v := ?_) rfl (by kernel_rfl) (by kernel_rfl) (by kernel_rfl) (fun _ _ _ h => h) (Or.inl ⟨by rfl, ?_⟩) (by assumption) ?_; rotate_left; (intro w hSw; (try dsimp only at hSw); go_simp; try with_reducible rfl); ((try simp only [List.getElem_toArray]); (try simp only [List.getElem_cons_succ]); (try simp only [List.getElem_cons_zero]); (try simp only [Act.put]); (try simp only [List.setIfInBounds_toArray]); (try simp only [List.set_cons_succ]); (try simp only [List.set_cons_zero])))
        (refine wpAnyH_take (i := 8) (v := ?_) rfl (by kernel_rfl) (by kernel_rfl) (by kernel_rfl) (fun _ _ _ h => h) (Or.inl ⟨by rfl, ?_⟩) (by assumption) ?_; rotate_left; (intro w hSw; (try dsimp only at hSw); go_simp; try with_reducible rfl); ((try simp only [List.getElem_toArray]); (try simp only [List.getElem_cons_succ]); (try simp only [List.getElem_cons_zero]); (try simp only [Act.put]); (try simp only [List.setIfInBounds_toArray]); (try simp only [List.set_cons_succ]); (try simp only [List.set_cons_zero])))
        refine wpAnyH_ready (rs := [9]) (by kernel_rfl) (by simp) ?_
        refine AllReadyH.cons rfl (fun K2 hK2 => ?_) AllReadyH.nil
        go_simp
        refine (atEnd_any t _).mono ?_
        rintro e x9 ⟨rfl, hb9⟩
        have hS9 : (fun X : World => Hid (Below v0.heap.size v0 X) ∧ X.cell? ⟨w.heap.size, 0, none⟩ = some (.string t) ∧ X.cell? ⟨w.heap.size, 1, none⟩ = some (.bool true) ∧ X.cell? ⟨w.heap.size, 2, none⟩ = some (.string ⟨#[]⟩)) x9 := ⟨(Hid.out (And.left hS3)).trans (hb9.out.mono (Hid.out (And.left hS3)).size), keepW hb9.out hS3.2.1, keepW hb9.out hS3.2.2.1, keepW hb9.out hS3.2.2.2⟩
        go_wp2_with fail
        refine hK2.out _ _ (by (try dsimp only); exact hS9) (fun _ => ?_)
        clear hK2 K2
        (try simp only [List.getElem_toArray]); (try simp only [List.getElem_cons_succ]); (try simp only [List.getElem_cons_zero]); (try simp only [Act.put]); (try simp only [List.setIfInBounds_toArray]); (try simp only [List.set_cons_succ]); (try simp only [List.set_cons_zero])
        (refine wpAnyH_take (i := 10) (v := ?_) rfl (by kernel_rfl) (by kernel_rfl) (by kernel_rfl) (fun _ _ _ h => h) (Or.inl ⟨by rfl, ?_⟩) (by assumption) ?_; rotate_left; (intro w hSw; (try dsimp only at hSw); go_simp; try with_reducible rfl); ((try simp only [List.getElem_toArray]); (try simp only [List.getElem_cons_succ]); (try simp only [List.getElem_cons_zero]); (try simp only [Act.put]); (try simp only [List.setIfInBounds_toArray]); (try simp only [List.set_cons_succ]); (try simp only [List.set_cons_zero])))
        (refine wpAnyH_take (i := 11) (v := ?_) rfl (by kernel_rfl) (by kernel_rfl) (by kernel_rfl) (fun _ _ _ h => h) (Or.inl ⟨by rfl, ?_⟩) (by assumption) ?_; rotate_left; (intro w hSw; (try dsimp only at hSw); go_simp; try with_reducible rfl); ((try simp only [List.getElem_toArray]); (try simp only [List.getElem_cons_succ]); (try simp only [List.getElem_cons_zero]); (try simp only [Act.put]); (try simp only [List.setIfInBounds_toArray]); (try simp only [List.set_cons_succ]); (try simp only [List.set_cons_zero])))
        (refine wpAnyH_take (i := 12) (v := ?_) rfl (by kernel_rfl) (by kernel_rfl) (by kernel_rfl) (fun _ _ _ h => h) (Or.inl ⟨by rfl, ?_⟩) (by assumption) ?_; rotate_left; (intro w hSw; (try dsimp only at hSw); go_simp; try with_reducible rfl); ((try simp only [List.getElem_toArray]); (try simp only [List.getElem_cons_succ]); (try simp only [List.getElem_cons_zero]); (try simp only [Act.put]); (try simp only [List.setIfInBounds_toArray]); (try simp only [List.set_cons_succ]); (try simp only [List.set_cons_zero])))
        (refine wpAnyH_take (i := 13) (v := undef) rfl (by kernel_rfl) (by kernel_rfl) (by kernel_rfl) (fun _ _ _ h => h) (Or.inr ⟨by rfl, rfl⟩) (by assumption) ?_; ((try simp only [List.getElem_toArray]); (try simp only [List.getElem_cons_succ]); (try simp only [List.getElem_cons_zero]); (try simp only [Act.put]); (try simp only [List.setIfInBounds_toArray]); (try simp only [List.set_cons_succ]); (try simp only [List.set_cons_zero])))
        (refine wpAnyH_take (i := 14) (v := undef) rfl (by kernel_rfl) (by kernel_rfl) (by kernel_rfl) (fun _ _ _ h => h) (Or.inr ⟨by rfl, rfl⟩) (by assumption) ?_; ((try simp only [List.getElem_toArray]); (try simp only [List.getElem_cons_succ]); (try simp only [List.getElem_cons_zero]); (try simp only [Act.put]); (try simp only [List.setIfInBounds_toArray]); (try simp only [List.set_cons_succ]); (try simp only [List.set_cons_zero])))
        (refine wpAnyH_take (i := 15) (v := undef) rfl (by kernel_rfl) (by kernel_rfl) (by kernel_rfl) (fun _ _ _ h => h) (Or.inr ⟨by rfl, rfl⟩) (by assumption) ?_; ((try simp only [List.getElem_toArray]); (try simp only [List.getElem_cons_succ]); (try simp only [List.getElem_cons_zero]); (try simp only [Act.put]); (try simp only [List.setIfInBounds_toArray]); (try simp only [List.set_cons_succ]); (try simp only [List.set_cons_zero])))
        (refine wpAnyH_take (i := 16) (v := undef) rfl (by kernel_rfl) (by kernel_rfl) (by kernel_rfl) (fun _ _ _ h => h) (Or.inr ⟨by rfl, rfl⟩) (by assumption) ?_; ((try simp only [List.getElem_toArray]); (try simp only [List.getElem_cons_succ]); (try simp only [List.getElem_cons_zero]); (try simp only [Act.put]); (try simp only [List.setIfInBounds_toArray]); (try simp only [List.set_cons_succ]); (try simp only [List.set_cons_zero])))
        (refine wpAnyH_take (i := 17) (v := undef) rfl (by kernel_rfl) (by kernel_rfl) (by kernel_rfl) (fun _ _ _ h => h) (Or.inr ⟨by rfl, rfl⟩) (by assumption) ?_; ((try simp only [List.getElem_toArray]); (try simp only [List.getElem_cons_succ]); (try simp only [List.getElem_cons_zero]); (try simp only [Act.put]); (try simp only [List.setIfInBounds_toArray]); (try simp only [List.set_cons_succ]); (try simp only [List.set_cons_zero])))
        (refine wpAnyH_take (i := 18) (v := undef) rfl (by kernel_rfl) (by kernel_rfl) (by kernel_rfl) (fun _ _ _ h => h) (Or.inr ⟨by rfl, rfl⟩) (by assumption) ?_; ((try simp only [List.getElem_toArray]); (try simp only [List.getElem_cons_succ]); (try simp only [List.getElem_cons_zero]); (try simp only [Act.put]); (try simp only [List.setIfInBounds_toArray]); (try simp only [List.set_cons_succ]); (try simp only [List.set_cons_zero])))
        (refine wpAnyH_take (i := 19) (v := undef) rfl (by kernel_rfl) (by kernel_rfl) (by kernel_rfl) (fun _ _ _ h => h) (Or.inr ⟨by rfl, rfl⟩) (by assumption) ?_; ((try simp only [List.getElem_toArray]); (try simp only [List.getElem_cons_succ]); (try simp only [List.getElem_cons_zero]); (try simp only [Act.put]); (try simp only [List.setIfInBounds_toArray]); (try simp only [List.set_cons_succ]); (try simp only [List.set_cons_zero])))
        (refine wpAnyH_take (i := 20) (v := undef) rfl (by kernel_rfl) (by kernel_rfl) (by kernel_rfl) (fun _ _ _ h => h) (Or.inr ⟨by rfl, rfl⟩) (by assumption) ?_; ((try simp only [List.getElem_toArray]); (try simp only [List.getElem_cons_succ]); (try simp only [List.getElem_cons_zero]); (try simp only [Act.put]); (try simp only [List.setIfInBounds_toArray]); (try simp only [List.set_cons_succ]); (try simp only [List.set_cons_zero])))
        (refine wpAnyH_take (i := 21) (v := undef) rfl (by kernel_rfl) (by kernel_rfl) (by kernel_rfl) (fun _ _ _ h => h) (Or.inr ⟨by rfl, rfl⟩) (by assumption) ?_; ((try simp only [List.getElem_toArray]); (try simp only [List.getElem_cons_succ]); (try simp only [List.getElem_cons_zero]); (try simp only [Act.put]); (try simp only [List.setIfInBounds_toArray]); (try simp only [List.set_cons_succ]); (try simp only [List.set_cons_zero])))
        (refine wpAnyH_take (i := 22) (v := undef) rfl (by kernel_rfl) (by kernel_rfl) (by kernel_rfl) (fun _ _ _ h => h) (Or.inr ⟨by rfl, rfl⟩) (by assumption) ?_; ((try simp only [List.getElem_toArray]); (try simp only [List.getElem_cons_succ]); (try simp only [List.getElem_cons_zero]); (try simp only [Act.put]); (try simp only [List.setIfInBounds_toArray]); (try simp only [List.set_cons_succ]); (try simp only [List.set_cons_zero])))
        (refine wpAnyH_take (i := 23) (v := undef) rfl (by kernel_rfl) (by kernel_rfl) (by kernel_rfl) (fun _ _ _ h => h) (Or.inr ⟨by rfl, rfl⟩) (by assumption) ?_; ((try simp only [List.getElem_toArray]); (try simp only [List.getElem_cons_succ]); (try simp only [List.getElem_cons_zero]); (try simp only [Act.put]); (try simp only [List.setIfInBounds_toArray]); (try simp only [List.set_cons_succ]); (try simp only [List.set_cons_zero])))
        (refine wpAnyH_take (i := 24) (v := undef) rfl (by kernel_rfl) (by kernel_rfl) (by kernel_rfl) (fun _ _ _ h => h) (Or.inr ⟨by rfl, rfl⟩) (by assumption) ?_; ((try simp only [List.getElem_toArray]); (try simp only [List.getElem_cons_succ]); (try simp only [List.getElem_cons_zero]); (try simp only [Act.put]); (try simp only [List.setIfInBounds_toArray]); (try simp only [List.set_cons_succ]); (try simp only [List.set_cons_zero])))
        (refine wpAnyH_take (i := 25) (v := ?_) rfl (by kernel_rfl) (by kernel_rfl) (by kernel_rfl) (fun _ _ _ h => h) (Or.inl ⟨by rfl, ?_⟩) (by assumption) ?_; rotate_left; (intro w hSw; (try dsimp only at hSw); go_simp; try with_reducible rfl); ((try simp only [List.getElem_toArray]); (try simp only [List.getElem_cons_succ]); (try simp only [List.getElem_cons_zero]); (try simp only [Act.put]); (try simp only [List.setIfInBounds_toArray]); (try simp only [List.set_cons_succ]); (try simp only [List.set_cons_zero])))
        (refine wpAnyH_take (i := 26) (v := ?_) rfl (by kernel_rfl) (by kernel_rfl) (by kernel_rfl) (fun _ _ _ h => h) (Or.inl ⟨by rfl, ?_⟩) (by assumption) ?_; rotate_left; (intro w hSw; (try dsimp only at hSw); go_simp; try with_reducible rfl); ((try simp only [List.getElem_toArray]); (try simp only [List.getElem_cons_succ]); (try simp only [List.getElem_cons_zero]); (try simp only [Act.put]); (try simp only [List.setIfInBounds_toArray]); (try simp only [List.set_cons_succ]); (try simp only [List.set_cons_zero])))
        refine wpAnyH_done (by kernel_rfl) ?_ _
        go_wp2_with fail
        go_ret
        exact ⟨by rw [HM.out]; rfl, HB0.out.trans (Hid.out (And.left hS9) |>.mono HB0.out.size)⟩
  · have hk0 : (k.size == 0) = false := by simpa using hk
    have hk1 : (k.toList == (⟨#[]⟩ : ByteArray).toList) = false := (size_ne k).trans hk0
    have hk3 : k.toList.isEmpty = false := (size_e k).trans hk0
    have hk2 : (k.toList == ([] : List UInt8)) = false := by have h := hk1; rw [emptyL] at h; exact h
    clear hk
    cases d
    · go_enter Tryz.func180, Tryz.ntmps180
      go_wp2_with fail
      obtain ⟨v00, hv0⟩ : ∃ W, W = (w.alloc (.cells #[.string t, .bool false, .string k] 143)) := ⟨_, rfl⟩
      rw [← hv0] at HB HX ⊢
      clear hv0
      have x0 := HX.out.cell 0
      simp at x0
      go_wp2_with fail
      refine (HNM.out _).mono ?_
      rintro e v0 ⟨rfl, hb0⟩
      have HB0 : Hid (Below w.heap.size w v0) := HB.out.trans (hb0.out.mono HB.out.size)
      have HX0 := Lib.hid (HX.out.below hb0.out HX.out.lt)
      clear x0 hb0 HX HB
      cases nf
      · go_wp2_with fail
        go_ret
        exact ⟨by rw [HM.out]; rfl, HB0⟩
      · have y0 : v0.cell? ⟨w.heap.size, 0, none⟩ = some (.string t) := HX0.out.cell 0
        have y1 : v0.cell? ⟨w.heap.size, 1, none⟩ = some (.bool false) := HX0.out.cell 1
        have y2 : v0.cell? ⟨w.heap.size, 2, none⟩ = some (.string k) := HX0.out.cell 2
        have hS0 : (fun X : World => Hid (Below v0.heap.size v0 X) ∧ X.cell? ⟨w.heap.size, 0, none⟩ = some (.string t) ∧ X.cell? ⟨w.heap.size, 1, none⟩ = some (.bool false) ∧ X.cell? ⟨w.heap.size, 2, none⟩ = some (.string k)) v0.drew := ⟨(Below.refl _ v0).drew, y0, y1, y2⟩
        go_wp2_with fail
        refine wp_region_held_drew (S := (fun X : World => Hid (Below v0.heap.size v0 X) ∧ X.cell? ⟨w.heap.size, 0, none⟩ = some (.string t) ∧ X.cell? ⟨w.heap.size, 1, none⟩ = some (.bool false) ∧ X.cell? ⟨w.heap.size, 2, none⟩ = some (.string k))) (by kernel_rfl) hS0 (fun _ => ?_)
        (refine wpAnyH_take (i := 0) (v := ?_) rfl (by kernel_rfl) (by kernel_rfl) (by kernel_rfl) (fun _ _ _ h => h) (Or.inl ⟨by rfl, ?_⟩) (by assumption) ?_; rotate_left; (intro w hSw; (try dsimp only at hSw); go_simp; try with_reducible rfl); ((try simp only [List.getElem_toArray]); (try simp only [List.getElem_cons_succ]); (try simp only [List.getElem_cons_zero]); (try simp only [Act.put]); (try simp only [List.setIfInBounds_toArray]); (try simp only [List.set_cons_succ]); (try simp only [List.set_cons_zero])))
        (refine wpAnyH_take (i := 1) (v := ?_) rfl (by kernel_rfl) (by kernel_rfl) (by kernel_rfl) (fun _ _ _ h => h) (Or.inl ⟨by rfl, ?_⟩) (by assumption) ?_; rotate_left; (intro w hSw; (try dsimp only at hSw); go_simp; try with_reducible rfl); ((try simp only [List.getElem_toArray]); (try simp only [List.getElem_cons_succ]); (try simp only [List.getElem_cons_zero]); (try simp only [Act.put]); (try simp only [List.setIfInBounds_toArray]); (try simp only [List.set_cons_succ]); (try simp only [List.set_cons_zero])))
        (refine wpAnyH_take (i := 2) (v := ?_) rfl (by kernel_rfl) (by kernel_rfl) (by kernel_rfl) (fun _ _ _ h => h) (Or.inl ⟨by rfl, ?_⟩) (by assumption) ?_; rotate_left; (intro w hSw; (try dsimp only at hSw); go_simp; try with_reducible rfl); ((try simp only [List.getElem_toArray]); (try simp only [List.getElem_cons_succ]); (try simp only [List.getElem_cons_zero]); (try simp only [Act.put]); (try simp only [List.setIfInBounds_toArray]); (try simp only [List.set_cons_succ]); (try simp only [List.set_cons_zero])))
        refine wpAnyH_ready (rs := [3]) (by kernel_rfl) (by simp) ?_
        refine AllReadyH.cons rfl (fun K2 hK2 => ?_) AllReadyH.nil
        go_simp
        refine (atFirst_any t _).mono ?_
        rintro e x3 ⟨rfl, hb3⟩
        have hS3 : (fun X : World => Hid (Below v0.heap.size v0 X) ∧ X.cell? ⟨w.heap.size, 0, none⟩ = some (.string t) ∧ X.cell? ⟨w.heap.size, 1, none⟩ = some (.bool false) ∧ X.cell? ⟨w.heap.size, 2, none⟩ = some (.string k)) x3 := ⟨(Hid.out (And.left hS0)).trans (hb3.out.mono (Hid.out (And.left hS0)).size), keepW hb3.out hS0.2.1, keepW hb3.out hS0.2.2.1, keepW hb3.out hS0.2.2.2⟩
        go_wp2_with fail
        refine hK2.out _ _ (by (try dsimp only); exact hS3) (fun _ => ?_)
        clear hK2 K2
        (try simp only [List.getElem_toArray]); (try simp only [List.getElem_cons_succ]); (try simp only [List.getElem_cons_zero]); (try simp only [Act.put]); (try simp only [List.setIfInBounds_toArray]); (try simp only [List.set_cons_succ]); (try simp only [List.set_cons_zero])
        (refine wpAnyH_take (i := 4) (v := ?_) rfl (by kernel_rfl) (by kernel_rfl) (by kernel_rfl) (fun _ _ _ h => h) (Or.inl ⟨by rfl, ?_⟩) (by assumption) ?_; rotate_left; (intro w hSw; (try dsimp only at hSw); go_simp; try with_reducible rfl); ((try simp only [List.getElem_toArray]); (try simp only [List.getElem_cons_succ]); (try simp only [List.getElem_cons_zero]); (try simp only [Act.put]); (try simp only [List.setIfInBounds_toArray]); (try simp only [List.set_cons_succ]); (try simp only [List.set_cons_zero])))
        (refine wpAnyH_take (i := 5) (v := ?_) rfl (by kernel_rfl) (by kernel_rfl) (by kernel_rfl) (fun _ _ _ h => h) (Or.inl ⟨by rfl, ?_⟩) (by assumption) ?_; rotate_left; (intro w hSw; (try dsimp only at hSw); go_simp; try with_reducible rfl); ((try simp only [List.getElem_toArray]); (try simp only [List.getElem_cons_succ]); (try simp only [List.getElem_cons_zero]); (try simp only [Act.put]); (try simp only [List.setIfInBounds_toArray]); (try simp only [List.set_cons_succ]); (try simp only [List.set_cons_zero])))
        (refine wpAnyH_take (i := 6) (v := ?_) rfl (by kernel_rfl) (by kernel_rfl) (by kernel_rfl) (fun _ _ _ h => h) (Or.inl ⟨by rfl, ?_⟩) (by assumption) ?_; rotate_left; (intro w hSw; (try dsimp only at hSw); go_simp; try with_reducible rfl); ((try simp only [List.getElem_toArray]); (try simp only [List.getElem_cons_succ]); (try simp only [List.getElem_cons_zero]); (try simp only [Act.put]); (try simp only [List.setIfInBounds_toArray]); (try simp only [List.set_cons_succ]); (try simp only [List.set_cons_zero])))
        (refine wpAnyH_take (i := 7) (v := ?_) rfl (by kernel_rfl) (by kernel_rfl) (by kernel_rfl) (fun _ _ _ h => h) (Or.inl ⟨by rfl, ?_⟩) (by assumption) ?_; rotate_left; (intro w hSw; (try dsimp only at hSw); go_simp; try with_reducible rfl); ((try simp only [List.getElem_toArray]); (try simp only [List.getElem_cons_succ]); (try simp only [List.getElem_cons_zero]); (try simp only [Act.put]); (try simp only [List.setIfInBounds_toArray]); (try simp only [List.set_cons_succ]); (try simp only [List.set_cons_zero])))
        (refine wpAnyH_take (i := 8) (v := ?_) rfl (by kernel_rfl) (by kernel_rfl) (by kernel_rfl) (fun _ _ _ h => h) (Or.inl ⟨by rfl, ?_⟩) (by assumption) ?_; rotate_left; (intro w hSw; (try dsimp only at hSw); go_simp; try with_reducible rfl); ((try simp only [List.getElem_toArray]); (try simp only [List.getElem_cons_succ]); (try simp only [List.getElem_cons_zero]); (try simp only [Act.put]); (try simp only [List.setIfInBounds_toArray]); (try simp only [List.set_cons_succ]); (try simp only [List.set_cons_zero])))
        refine wpAnyH_ready (rs := [9]) (by kernel_rfl) (by simp) ?_
        refine AllReadyH.cons rfl (fun K2 hK2 => ?_) AllReadyH.nil
        go_simp
        refine (atEnd_any t _).mono ?_
        rintro e x9 ⟨rfl, hb9⟩
        have hS9 : (fun X : World => Hid (Below v0.heap.size v0 X) ∧ X.cell? ⟨w.heap.size, 0, none⟩ = some (.string t) ∧ X.cell? ⟨w.heap.size, 1, none⟩ = some (.bool false) ∧ X.cell? ⟨w.heap.size, 2, none⟩ = some (.string k)) x9 := ⟨(Hid.out (And.left hS3)).trans (hb9.out.mono (Hid.out (And.left hS3)).size), keepW hb9.out hS3.2.1, keepW hb9.out hS3.2.2.1, keepW hb9.out hS3.2.2.2⟩
        go_wp2_with fail
        refine hK2.out _ _ (by (try dsimp only); exact hS9) (fun _ => ?_)
        clear hK2 K2
        (try simp only [List.getElem_toArray]); (try simp only [List.getElem_cons_succ]); (try simp only [List.getElem_cons_zero]); (try simp only [Act.put]); (try simp only [List.setIfInBounds_toArray]); (try simp only [List.set_cons_succ]); (try simp only [List.set_cons_zero])
        (refine wpAnyH_take (i := 10) (v := ?_) rfl (by kernel_rfl) (by kernel_rfl) (by kernel_rfl) (fun _ _ _ h => h) (Or.inl ⟨by rfl, ?_⟩) (by assumption) ?_; rotate_left; (intro w hSw; (try dsimp only at hSw); go_simp; try with_reducible rfl); ((try simp only [List.getElem_toArray]); (try simp only [List.getElem_cons_succ]); (try simp only [List.getElem_cons_zero]); (try simp only [Act.put]); (try simp only [List.setIfInBounds_toArray]); (try simp only [List.set_cons_succ]); (try simp only [List.set_cons_zero])))
        (refine wpAnyH_take (i := 11) (v := ?_) rfl (by kernel_rfl) (by kernel_rfl) (by kernel_rfl) (fun _ _ _ h => h) (Or.inl ⟨by rfl, ?_⟩) (by assumption) ?_; rotate_left; (intro w hSw; (try dsimp only at hSw); go_simp; try with_reducible rfl); ((try simp only [List.getElem_toArray]); (try simp only [List.getElem_cons_succ]); (try simp only [List.getElem_cons_zero]); (try simp only [Act.put]); (try simp only [List.setIfInBounds_toArray]); (try simp only [List.set_cons_succ]); (try simp only [List.set_cons_zero])))
        (refine wpAnyH_take (i := 12) (v := ?_) rfl (by kernel_rfl) (by kernel_rfl) (by kernel_rfl) (fun _ _ _ h => h) (Or.inl ⟨by rfl, ?_⟩) (by assumption) ?_; rotate_left; (intro w hSw; (try dsimp only at hSw); go_simp; try with_reducible rfl); ((try simp only [List.getElem_toArray]); (try simp only [List.getElem_cons_succ]); (try simp only [List.getElem_cons_zero]); (try simp only [Act.put]); (try simp only [List.setIfInBounds_toArray]); (try simp only [List.set_cons_succ]); (try simp only [List.set_cons_zero])))
        (refine wpAnyH_take (i := 13) (v := ?_) rfl (by kernel_rfl) (by kernel_rfl) (by kernel_rfl) (fun _ _ _ h => h) (Or.inl ⟨by rfl, ?_⟩) (by assumption) ?_; rotate_left; (intro w hSw; (try dsimp only at hSw); go_simp; try with_reducible rfl); ((try simp only [List.getElem_toArray]); (try simp only [List.getElem_cons_succ]); (try simp only [List.getElem_cons_zero]); (try simp only [Act.put]); (try simp only [List.setIfInBounds_toArray]); (try simp only [List.set_cons_succ]); (try simp only [List.set_cons_zero])))
        (refine wpAnyH_take (i := 14) (v := ?_) rfl (by kernel_rfl) (by kernel_rfl) (by kernel_rfl) (fun _ _ _ h => h) (Or.inl ⟨by rfl, ?_⟩) (by assumption) ?_; rotate_left; (intro w hSw; (try dsimp only at hSw); go_simp; try with_reducible rfl); ((try simp only [List.getElem_toArray]); (try simp only [List.getElem_cons_succ]); (try simp only [List.getElem_cons_zero]); (try simp only [Act.put]); (try simp only [List.setIfInBounds_toArray]); (try simp only [List.set_cons_succ]); (try simp only [List.set_cons_zero])))
        (refine wpAnyH_take (i := 15) (v := ?_) rfl (by kernel_rfl) (by kernel_rfl) (by kernel_rfl) (fun _ _ _ h => h) (Or.inl ⟨by rfl, ?_⟩) (by assumption) ?_; rotate_left; (intro w hSw; (try dsimp only at hSw); go_simp; try with_reducible rfl); ((try simp only [List.getElem_toArray]); (try simp only [List.getElem_cons_succ]); (try simp only [List.getElem_cons_zero]); (try simp only [Act.put]); (try simp only [List.setIfInBounds_toArray]); (try simp only [List.set_cons_succ]); (try simp only [List.set_cons_zero])))
        (refine wpAnyH_take (i := 16) (v := ?_) rfl (by kernel_rfl) (by kernel_rfl) (by kernel_rfl) (fun _ _ _ h => h) (Or.inl ⟨by rfl, ?_⟩) (by assumption) ?_; rotate_left; (intro w hSw; (try dsimp only at hSw); go_simp; try with_reducible rfl); ((try simp only [List.getElem_toArray]); (try simp only [List.getElem_cons_succ]); (try simp only [List.getElem_cons_zero]); (try simp only [Act.put]); (try simp only [List.setIfInBounds_toArray]); (try simp only [List.set_cons_succ]); (try simp only [List.set_cons_zero])))
        (refine wpAnyH_take (i := 17) (v := ?_) rfl (by kernel_rfl) (by kernel_rfl) (by kernel_rfl) (fun _ _ _ h => h) (Or.inl ⟨by rfl, ?_⟩) (by assumption) ?_; rotate_left; (intro w hSw; (try dsimp only at hSw); go_simp; try with_reducible rfl); ((try simp only [List.getElem_toArray]); (try simp only [List.getElem_cons_succ]); (try simp only [List.getElem_cons_zero]); (try simp only [Act.put]); (try simp only [List.setIfInBounds_toArray]); (try simp only [List.set_cons_succ]); (try simp only [List.set_cons_zero])))
        refine wpAnyH_ready (rs := [18]) (by kernel_rfl) (by simp) ?_
        refine AllReadyH.cons rfl (fun K2 hK2 => ?_) AllReadyH.nil
        go_simp
        refine (upTo_any t k _).mono ?_
        rintro e x18 ⟨rfl, hb18⟩
        have hS18 : (fun X : World => Hid (Below v0.heap.size v0 X) ∧ X.cell? ⟨w.heap.size, 0, none⟩ = some (.string t) ∧ X.cell? ⟨w.heap.size, 1, none⟩ = some (.bool false) ∧ X.cell? ⟨w.heap.size, 2, none⟩ = some (.string k)) x18 := ⟨(Hid.out (And.left hS9)).trans (hb18.out.mono (Hid.out (And.left hS9)).size), keepW hb18.out hS9.2.1, keepW hb18.out hS9.2.2.1, keepW hb18.out hS9.2.2.2⟩
        go_wp2_with fail
        refine hK2.out _ _ (by (try dsimp only); exact hS18) (fun _ => ?_)
        clear hK2 K2
        (try simp only [List.getElem_toArray]); (try simp only [List.getElem_cons_succ]); (try simp only [List.getElem_cons_zero]); (try simp only [Act.put]); (try simp only [List.setIfInBounds_toArray]); (try simp only [List.set_cons_succ]); (try simp only [List.set_cons_zero])
        (refine wpAnyH_take (i := 19) (v := ?_) rfl (by kernel_rfl) (by kernel_rfl) (by kernel_rfl) (fun _ _ _ h => h) (Or.inl ⟨by rfl, ?_⟩) (by assumption) ?_; rotate_left; (intro w hSw; (try dsimp only at hSw); go_simp; try with_reducible rfl); ((try simp only [List.getElem_toArray]); (try simp only [List.getElem_cons_succ]); (try simp only [List.getElem_cons_zero]); (try simp only [Act.put]); (try simp only [List.setIfInBounds_toArray]); (try simp only [List.set_cons_succ]); (try simp only [List.set_cons_zero])))
        (refine wpAnyH_take (i := 20) (v := ?_) rfl (by kernel_rfl) (by kernel_rfl) (by kernel_rfl) (fun _ _ _ h => h) (Or.inl ⟨by rfl, ?_⟩) (by assumption) ?_; rotate_left; (intro w hSw; (try dsimp only at hSw); go_simp; try with_reducible rfl); ((try simp only [List.getElem_toArray]); (try simp only [List.getElem_cons_succ]); (try simp only [List.getElem_cons_zero]); (try simp only [Act.put]); (try simp only [List.setIfInBounds_toArray]); (try simp only [List.set_cons_succ]); (try simp only [List.set_cons_zero])))
        (refine wpAnyH_take (i := 21) (v := ?_) rfl (by kernel_rfl) (by kernel_rfl) (by kernel_rfl) (fun _ _ _ h => h) (Or.inl ⟨by rfl, ?_⟩) (by assumption) ?_; rotate_left; (intro w hSw; (try dsimp only at hSw); go_simp; try with_reducible rfl); ((try simp only [List.getElem_toArray]); (try simp only [List.getElem_cons_succ]); (try simp only [List.getElem_cons_zero]); (try simp only [Act.put]); (try simp only [List.setIfInBounds_toArray]); (try simp only [List.set_cons_succ]); (try simp only [List.set_cons_zero])))
        (refine wpAnyH_take (i := 22) (v := ?_) rfl (by kernel_rfl) (by kernel_rfl) (by kernel_rfl) (fun _ _ _ h => h) (Or.inl ⟨by rfl, ?_⟩) (by assumption) ?_; rotate_left; (intro w hSw; (try dsimp only at hSw); go_simp; try with_reducible rfl); ((try simp only [List.getElem_toArray]); (try simp only [List.getElem_cons_succ]); (try simp only [List.getElem_cons_zero]); (try simp only [Act.put]); (try simp only [List.setIfInBounds_toArray]); (try simp only [List.set_cons_succ]); (try simp only [List.set_cons_zero])))
        refine wpAnyH_ready (rs := [23]) (by kernel_rfl) (by simp) ?_
        refine AllReadyH.cons rfl (fun K2 hK2 => ?_) AllReadyH.nil
        go_simp
        refine (HKEY.out _ (HT.out.below (HB0.out.trans (Hid.out (And.left hS18) |>.mono HB0.out.size)))).mono ?_
        rintro e x23 ⟨rfl, hb23⟩
        have hS23 : (fun X : World => Hid (Below v0.heap.size v0 X) ∧ X.cell? ⟨w.heap.size, 0, none⟩ = some (.string t) ∧ X.cell? ⟨w.heap.size, 1, none⟩ = some (.bool false) ∧ X.cell? ⟨w.heap.size, 2, none⟩ = some (.string k)) x23 := ⟨(Hid.out (And.left hS18)).trans (hb23.out.mono (Hid.out (And.left hS18)).size), keepW hb23.out hS18.2.1, keepW hb23.out hS18.2.2.1, keepW hb23.out hS18.2.2.2⟩
        go_wp2_with fail
        refine hK2.out _ _ (by (try dsimp only); exact hS23) (fun _ => ?_)
        clear hK2 K2
        (try simp only [List.getElem_toArray]); (try simp only [List.getElem_cons_succ]); (try simp only [List.getElem_cons_zero]); (try simp only [Act.put]); (try simp only [List.setIfInBounds_toArray]); (try simp only [List.set_cons_succ]); (try simp only [List.set_cons_zero])
        (refine wpAnyH_take (i := 24) (v := ?_) rfl (by kernel_rfl) (by kernel_rfl) (by kernel_rfl) (fun _ _ _ h => h) (Or.inl ⟨by rfl, ?_⟩) (by assumption) ?_; rotate_left; (intro w hSw; (try dsimp only at hSw); go_simp; try with_reducible rfl); ((try simp only [List.getElem_toArray]); (try simp only [List.getElem_cons_succ]); (try simp only [List.getElem_cons_zero]); (try simp only [Act.put]); (try simp only [List.setIfInBounds_toArray]); (try simp only [List.set_cons_succ]); (try simp only [List.set_cons_zero])))
        (refine wpAnyH_take (i := 25) (v := ?_) rfl (by kernel_rfl) (by kernel_rfl) (by kernel_rfl) (fun _ _ _ h => h) (Or.inl ⟨by rfl, ?_⟩) (by assumption) ?_; rotate_left; (intro w hSw; (try dsimp only at hSw); go_simp; try with_reducible rfl); ((try simp only [List.getElem_toArray]); (try simp only [List.getElem_cons_succ]); (try simp only [List.getElem_cons_zero]); (try simp only [Act.put]); (try simp only [List.setIfInBounds_toArray]); (try simp only [List.set_cons_succ]); (try simp only [List.set_cons_zero])))
        (refine wpAnyH_take (i := 26) (v := ?_) rfl (by kernel_rfl) (by kernel_rfl) (by kernel_rfl) (fun _ _ _ h => h) (Or.inl ⟨by rfl, ?_⟩) (by assumption) ?_; rotate_left; (intro w hSw; (try dsimp only at hSw); go_simp; try with_reducible rfl); ((try simp only [List.getElem_toArray]); (try simp only [List.getElem_cons_succ]); (try simp only [List.getElem_cons_zero]); (try simp only [Act.put]); (try simp only [List.setIfInBounds_toArray]); (try simp only [List.set_cons_succ]); (try simp only [List.set_cons_zero])))
        refine wpAnyH_done (by kernel_rfl) ?_ _
        go_wp2_with fail
        go_ret
        exact ⟨by rw [HM.out]; simp [hk0], HB0.out.trans (Hid.out (And.left hS23) |>.mono HB0.out.size)⟩
    · go_enter Tryz.func180, Tryz.ntmps180
      go_wp2_with fail
      obtain ⟨v00, hv0⟩ : ∃ W, W = (w.alloc (.cells #[.string t, .bool true, .string k] 143)) := ⟨_, rfl⟩
      rw [← hv0] at HB HX ⊢
      clear hv0
      have x0 := HX.out.cell 0
      simp at x0
      go_wp2_with fail
      refine (HNM.out _).mono ?_
      rintro e v0 ⟨rfl, hb0⟩
      have HB0 : Hid (Below w.heap.size w v0) := HB.out.trans (hb0.out.mono HB.out.size)
      have HX0 := Lib.hid (HX.out.below hb0.out HX.out.lt)
      clear x0 hb0 HX HB
      cases nf
      · go_wp2_with fail
        go_ret
        exact ⟨by rw [HM.out]; rfl, HB0⟩
      · have y0 : v0.cell? ⟨w.heap.size, 0, none⟩ = some (.string t) := HX0.out.cell 0
        have y1 : v0.cell? ⟨w.heap.size, 1, none⟩ = some (.bool true) := HX0.out.cell 1
        have y2 : v0.cell? ⟨w.heap.size, 2, none⟩ = some (.string k) := HX0.out.cell 2
        have hS0 : (fun X : World => Hid (Below v0.heap.size v0 X) ∧ X.cell? ⟨w.heap.size, 0, none⟩ = some (.string t) ∧ X.cell? ⟨w.heap.size, 1, none⟩ = some (.bool true) ∧ X.cell? ⟨w.heap.size, 2, none⟩ = some (.string k)) v0.drew := ⟨(Below.refl _ v0).drew, y0, y1, y2⟩
        go_wp2_with fail
        refine wp_region_held_drew (S := (fun X : World => Hid (Below v0.heap.size v0 X) ∧ X.cell? ⟨w.heap.size, 0, none⟩ = some (.string t) ∧ X.cell? ⟨w.heap.size, 1, none⟩ = some (.bool true) ∧ X.cell? ⟨w.heap.size, 2, none⟩ = some (.string k))) (by kernel_rfl) hS0 (fun _ => ?_)
        (refine wpAnyH_take (i := 0) (v := ?_) rfl (by kernel_rfl) (by kernel_rfl) (by kernel_rfl) (fun _ _ _ h => h) (Or.inl ⟨by rfl, ?_⟩) (by assumption) ?_; rotate_left; (intro w hSw; (try dsimp only at hSw); go_simp; try with_reducible rfl); ((try simp only [List.getElem_toArray]); (try simp only [List.getElem_cons_succ]); (try simp only [List.getElem_cons_zero]); (try simp only [Act.put]); (try simp only [List.setIfInBounds_toArray]); (try simp only [List.set_cons_succ]); (try simp only [List.set_cons_zero])))
        (refine wpAnyH_take (i := 1) (v := ?_) rfl (by kernel_rfl) (by kernel_rfl) (by kernel_rfl) (fun _ _ _ h => h) (Or.inl ⟨by rfl, ?_⟩) (by assumption) ?_; rotate_left; (intro w hSw; (try dsimp only at hSw); go_simp; try with_reducible rfl); ((try simp only [List.getElem_toArray]); (try simp only [List.getElem_cons_succ]); (try simp only [List.getElem_cons_zero]); (try simp only [Act.put]); (try simp only [List.setIfInBounds_toArray]); (try simp only [List.set_cons_succ]); (try simp only [List.set_cons_zero])))
        (refine wpAnyH_take (i := 2) (v := ?_) rfl (by kernel_rfl) (by kernel_rfl) (by kernel_rfl) (fun _ _ _ h => h) (Or.inl ⟨by rfl, ?_⟩) (by assumption) ?_; rotate_left; (intro w hSw; (try dsimp only at hSw); go_simp; try with_reducible rfl); ((try simp only [List.getElem_toArray]); (try simp only [List.getElem_cons_succ]); (try simp only [List.getElem_cons_zero]); (try simp only [Act.put]); (try simp only [List.setIfInBounds_toArray]); (try simp only [List.set_cons_succ]); (try simp only [List.set_cons_zero])))
        refine wpAnyH_ready (rs := [3]) (by kernel_rfl) (by simp) ?_
        refine AllReadyH.cons rfl (fun K2 hK2 => ?_) AllReadyH.nil
        go_simp
        refine (atFirst_any t _).mono ?_
        rintro e x3 ⟨rfl, hb3⟩
        have hS3 : (fun X : World => Hid (Below v0.heap.size v0 X) ∧ X.cell? ⟨w.heap.size, 0, none⟩ = some (.string t) ∧ X.cell? ⟨w.heap.size, 1, none⟩ = some (.bool true) ∧ X.cell? ⟨w.heap.size, 2, none⟩ = some (.string k)) x3 := ⟨(Hid.out (And.left hS0)).trans (hb3.out.mono (Hid.out (And.left hS0)).size), keepW hb3.out hS0.2.1, keepW hb3.out hS0.2.2.1, keepW hb3.out hS0.2.2.2⟩
        go_wp2_with fail
        refine hK2.out _ _ (by (try dsimp only); exact hS3) (fun _ => ?_)
        clear hK2 K2
        (try simp only [List.getElem_toArray]); (try simp only [List.getElem_cons_succ]); (try simp only [List.getElem_cons_zero]); (try simp only [Act.put]); (try simp only [List.setIfInBounds_toArray]); (try simp only [List.set_cons_succ]); (try simp only [List.set_cons_zero])
        (refine wpAnyH_take (i := 4) (v := ?_) rfl (by kernel_rfl) (by kernel_rfl) (by kernel_rfl) (fun _ _ _ h => h) (Or.inl ⟨by rfl, ?_⟩) (by assumption) ?_; rotate_left; (intro w hSw; (try dsimp only at hSw); go_simp; try with_reducible rfl); ((try simp only [List.getElem_toArray]); (try simp only [List.getElem_cons_succ]); (try simp only [List.getElem_cons_zero]); (try simp only [Act.put]); (try simp only [List.setIfInBounds_toArray]); (try simp only [List.set_cons_succ]); (try simp only [List.set_cons_zero])))
        (refine wpAnyH_take (i := 5) (v := ?_) rfl (by kernel_rfl) (by kernel_rfl) (by kernel_rfl) (fun _ _ _ h => h) (Or.inl ⟨by rfl, ?_⟩) (by assumption) ?_; rotate_left; (intro w hSw; (try dsimp only at hSw); go_simp; try with_reducible rfl); ((try simp only [List.getElem_toArray]); (try simp only [List.getElem_cons_succ]); (try simp only [List.getElem_cons_zero]); (try simp only [Act.put]); (try simp only [List.setIfInBounds_toArray]); (try simp only [List.set_cons_succ]); (try simp only [List.set_cons_zero])))
        (refine wpAnyH_take (i := 6) (v := ?_) rfl (by kernel_rfl) (by kernel_rfl) (by kernel_rfl) (fun _ _ _ h => h) (Or.inl ⟨by rfl, ?_⟩) (by assumption) ?_; rotate_left; (intro w hSw; (try dsimp only at hSw); go_simp; try with_reducible rfl); ((try simp only [List.getElem_toArray]); (try simp only [List.getElem_cons_succ]); (try simp only [List.getElem_cons_zero]); (try simp only [Act.put]); (try simp only [List.setIfInBounds_toArray]); (try simp only [List.set_cons_succ]); (try simp only [List.set_cons_zero])))
        (refine wpAnyH_take (i := 7) (v := ?_) rfl (by kernel_rfl) (by kernel_rfl) (by kernel_rfl) (fun _ _ _ h => h) (Or.inl ⟨by rfl, ?_⟩) (by assumption) ?_; rotate_left; (intro w hSw; (try dsimp only at hSw); go_simp; try with_reducible rfl); ((try simp only [List.getElem_toArray]); (try simp only [List.getElem_cons_succ]); (try simp only [List.getElem_cons_zero]); (try simp only [Act.put]); (try simp only [List.setIfInBounds_toArray]); (try simp only [List.set_cons_succ]); (try simp only [List.set_cons_zero])))
        (refine wpAnyH_take (i := 8) (v := ?_) rfl (by kernel_rfl) (by kernel_rfl) (by kernel_rfl) (fun _ _ _ h => h) (Or.inl ⟨by rfl, ?_⟩) (by assumption) ?_; rotate_left; (intro w hSw; (try dsimp only at hSw); go_simp; try with_reducible rfl); ((try simp only [List.getElem_toArray]); (try simp only [List.getElem_cons_succ]); (try simp only [List.getElem_cons_zero]); (try simp only [Act.put]); (try simp only [List.setIfInBounds_toArray]); (try simp only [List.set_cons_succ]); (try simp only [List.set_cons_zero])))
        refine wpAnyH_ready (rs := [9]) (by kernel_rfl) (by simp) ?_
        refine AllReadyH.cons rfl (fun K2 hK2 => ?_) AllReadyH.nil
        go_simp
        refine (atEnd_any t _).mono ?_
        rintro e x9 ⟨rfl, hb9⟩
        have hS9 : (fun X : World => Hid (Below v0.heap.size v0 X) ∧ X.cell? ⟨w.heap.size, 0, none⟩ = some (.string t) ∧ X.cell? ⟨w.heap.size, 1, none⟩ = some (.bool true) ∧ X.cell? ⟨w.heap.size, 2, none⟩ = some (.string k)) x9 := ⟨(Hid.out (And.left hS3)).trans (hb9.out.mono (Hid.out (And.left hS3)).size), keepW hb9.out hS3.2.1, keepW hb9.out hS3.2.2.1, keepW hb9.out hS3.2.2.2⟩
        go_wp2_with fail
        refine hK2.out _ _ (by (try dsimp only); exact hS9) (fun _ => ?_)
        clear hK2 K2
        (try simp only [List.getElem_toArray]); (try simp only [List.getElem_cons_succ]); (try simp only [List.getElem_cons_zero]); (try simp only [Act.put]); (try simp only [List.setIfInBounds_toArray]); (try simp only [List.set_cons_succ]); (try simp only [List.set_cons_zero])
        (refine wpAnyH_take (i := 10) (v := ?_) rfl (by kernel_rfl) (by kernel_rfl) (by kernel_rfl) (fun _ _ _ h => h) (Or.inl ⟨by rfl, ?_⟩) (by assumption) ?_; rotate_left; (intro w hSw; (try dsimp only at hSw); go_simp; try with_reducible rfl); ((try simp only [List.getElem_toArray]); (try simp only [List.getElem_cons_succ]); (try simp only [List.getElem_cons_zero]); (try simp only [Act.put]); (try simp only [List.setIfInBounds_toArray]); (try simp only [List.set_cons_succ]); (try simp only [List.set_cons_zero])))
        (refine wpAnyH_take (i := 11) (v := ?_) rfl (by kernel_rfl) (by kernel_rfl) (by kernel_rfl) (fun _ _ _ h => h) (Or.inl ⟨by rfl, ?_⟩) (by assumption) ?_; rotate_left; (intro w hSw; (try dsimp only at hSw); go_simp; try with_reducible rfl); ((try simp only [List.getElem_toArray]); (try simp only [List.getElem_cons_succ]); (try simp only [List.getElem_cons_zero]); (try simp only [Act.put]); (try simp only [List.setIfInBounds_toArray]); (try simp only [List.set_cons_succ]); (try simp only [List.set_cons_zero])))
        (refine wpAnyH_take (i := 12) (v := ?_) rfl (by kernel_rfl) (by kernel_rfl) (by kernel_rfl) (fun _ _ _ h => h) (Or.inl ⟨by rfl, ?_⟩) (by assumption) ?_; rotate_left; (intro w hSw; (try dsimp only at hSw); go_simp; try with_reducible rfl); ((try simp only [List.getElem_toArray]); (try simp only [List.getElem_cons_succ]); (try simp only [List.getElem_cons_zero]); (try simp only [Act.put]); (try simp only [List.setIfInBounds_toArray]); (try simp only [List.set_cons_succ]); (try simp only [List.set_cons_zero])))
        (refine wpAnyH_take (i := 13) (v := ?_) rfl (by kernel_rfl) (by kernel_rfl) (by kernel_rfl) (fun _ _ _ h => h) (Or.inl ⟨by rfl, ?_⟩) (by assumption) ?_; rotate_left; (intro w hSw; (try dsimp only at hSw); go_simp; try with_reducible rfl); ((try simp only [List.getElem_toArray]); (try simp only [List.getElem_cons_succ]); (try simp only [List.getElem_cons_zero]); (try simp only [Act.put]); (try simp only [List.setIfInBounds_toArray]); (try simp only [List.set_cons_succ]); (try simp only [List.set_cons_zero])))
        (refine wpAnyH_take (i := 14) (v := ?_) rfl (by kernel_rfl) (by kernel_rfl) (by kernel_rfl) (fun _ _ _ h => h) (Or.inl ⟨by rfl, ?_⟩) (by assumption) ?_; rotate_left; (intro w hSw; (try dsimp only at hSw); go_simp; try with_reducible rfl); ((try simp only [List.getElem_toArray]); (try simp only [List.getElem_cons_succ]); (try simp only [List.getElem_cons_zero]); (try simp only [Act.put]); (try simp only [List.setIfInBounds_toArray]); (try simp only [List.set_cons_succ]); (try simp only [List.set_cons_zero])))
        (refine wpAnyH_take (i := 15) (v := ?_) rfl (by kernel_rfl) (by kernel_rfl) (by kernel_rfl) (fun _ _ _ h => h) (Or.inl ⟨by rfl, ?_⟩) (by assumption) ?_; rotate_left; (intro w hSw; (try dsimp only at hSw); go_simp; try with_reducible rfl); ((try simp only [List.getElem_toArray]); (try simp only [List.getElem_cons_succ]); (try simp only [List.getElem_cons_zero]); (try simp only [Act.put]); (try simp only [List.setIfInBounds_toArray]); (try simp only [List.set_cons_succ]); (try simp only [List.set_cons_zero])))
        (refine wpAnyH_take (i := 16) (v := ?_) rfl (by kernel_rfl) (by kernel_rfl) (by kernel_rfl) (fun _ _ _ h => h) (Or.inl ⟨by rfl, ?_⟩) (by assumption) ?_; rotate_left; (intro w hSw; (try dsimp only at hSw); go_simp; try with_reducible rfl); ((try simp only [List.getElem_toArray]); (try simp only [List.getElem_cons_succ]); (try simp only [List.getElem_cons_zero]); (try simp only [Act.put]); (try simp only [List.setIfInBounds_toArray]); (try simp only [List.set_cons_succ]); (try simp only [List.set_cons_zero])))
        (refine wpAnyH_take (i := 17) (v := ?_) rfl (by kernel_rfl) (by kernel_rfl) (by kernel_rfl) (fun _ _ _ h => h) (Or.inl ⟨by rfl, ?_⟩) (by assumption) ?_; rotate_left; (intro w hSw; (try dsimp only at hSw); go_simp; try with_reducible rfl); ((try simp only [List.getElem_toArray]); (try simp only [List.getElem_cons_succ]); (try simp only [List.getElem_cons_zero]); (try simp only [Act.put]); (try simp only [List.setIfInBounds_toArray]); (try simp only [List.set_cons_succ]); (try simp only [List.set_cons_zero])))
        refine wpAnyH_ready (rs := [18]) (by kernel_rfl) (by simp) ?_
        refine AllReadyH.cons rfl (fun K2 hK2 => ?_) AllReadyH.nil
        go_simp
        refine (upTo_any t k _).mono ?_
        rintro e x18 ⟨rfl, hb18⟩
        have hS18 : (fun X : World => Hid (Below v0.heap.size v0 X) ∧ X.cell? ⟨w.heap.size, 0, none⟩ = some (.string t) ∧ X.cell? ⟨w.heap.size, 1, none⟩ = some (.bool true) ∧ X.cell? ⟨w.heap.size, 2, none⟩ = some (.string k)) x18 := ⟨(Hid.out (And.left hS9)).trans (hb18.out.mono (Hid.out (And.left hS9)).size), keepW hb18.out hS9.2.1, keepW hb18.out hS9.2.2.1, keepW hb18.out hS9.2.2.2⟩
        go_wp2_with fail
        refine hK2.out _ _ (by (try dsimp only); exact hS18) (fun _ => ?_)
        clear hK2 K2
        (try simp only [List.getElem_toArray]); (try simp only [List.getElem_cons_succ]); (try simp only [List.getElem_cons_zero]); (try simp only [Act.put]); (try simp only [List.setIfInBounds_toArray]); (try simp only [List.set_cons_succ]); (try simp only [List.set_cons_zero])
        (refine wpAnyH_take (i := 19) (v := ?_) rfl (by kernel_rfl) (by kernel_rfl) (by kernel_rfl) (fun _ _ _ h => h) (Or.inl ⟨by rfl, ?_⟩) (by assumption) ?_; rotate_left; (intro w hSw; (try dsimp only at hSw); go_simp; try with_reducible rfl); ((try simp only [List.getElem_toArray]); (try simp only [List.getElem_cons_succ]); (try simp only [List.getElem_cons_zero]); (try simp only [Act.put]); (try simp only [List.setIfInBounds_toArray]); (try simp only [List.set_cons_succ]); (try simp only [List.set_cons_zero])))
        (refine wpAnyH_take (i := 20) (v := ?_) rfl (by kernel_rfl) (by kernel_rfl) (by kernel_rfl) (fun _ _ _ h => h) (Or.inl ⟨by rfl, ?_⟩) (by assumption) ?_; rotate_left; (intro w hSw; (try dsimp only at hSw); go_simp; try with_reducible rfl); ((try simp only [List.getElem_toArray]); (try simp only [List.getElem_cons_succ]); (try simp only [List.getElem_cons_zero]); (try simp only [Act.put]); (try simp only [List.setIfInBounds_toArray]); (try simp only [List.set_cons_succ]); (try simp only [List.set_cons_zero])))
        (refine wpAnyH_take (i := 21) (v := undef) rfl (by kernel_rfl) (by kernel_rfl) (by kernel_rfl) (fun _ _ _ h => h) (Or.inr ⟨by rfl, rfl⟩) (by assumption) ?_; ((try simp only [List.getElem_toArray]); (try simp only [List.getElem_cons_succ]); (try simp only [List.getElem_cons_zero]); (try simp only [Act.put]); (try simp only [List.setIfInBounds_toArray]); (try simp only [List.set_cons_succ]); (try simp only [List.set_cons_zero])))
        (refine wpAnyH_take (i := 22) (v := undef) rfl (by kernel_rfl) (by kernel_rfl) (by kernel_rfl) (fun _ _ _ h => h) (Or.inr ⟨by rfl, rfl⟩) (by assumption) ?_; ((try simp only [List.getElem_toArray]); (try simp only [List.getElem_cons_succ]); (try simp only [List.getElem_cons_zero]); (try simp only [Act.put]); (try simp only [List.setIfInBounds_toArray]); (try simp only [List.set_cons_succ]); (try simp only [List.set_cons_zero])))
        (refine wpAnyH_take (i := 23) (v := undef) rfl (by kernel_rfl) (by kernel_rfl) (by kernel_rfl) (fun _ _ _ h => h) (Or.inr ⟨by rfl, rfl⟩) (by assumption) ?_; ((try simp only [List.getElem_toArray]); (try simp only [List.getElem_cons_succ]); (try simp only [List.getElem_cons_zero]); (try simp only [Act.put]); (try simp only [List.setIfInBounds_toArray]); (try simp only [List.set_cons_succ]); (try simp only [List.set_cons_zero])))
        (refine wpAnyH_take (i := 24) (v := ?_) rfl (by kernel_rfl) (by kernel_rfl) (by kernel_rfl) (fun _ _ _ h => h) (Or.inl ⟨by rfl, ?_⟩) (by assumption) ?_; rotate_left; (intro w hSw; (try dsimp only at hSw); go_simp; try with_reducible rfl); ((try simp only [List.getElem_toArray]); (try simp only [List.getElem_cons_succ]); (try simp only [List.getElem_cons_zero]); (try simp only [Act.put]); (try simp only [List.setIfInBounds_toArray]); (try simp only [List.set_cons_succ]); (try simp only [List.set_cons_zero])))
        (refine wpAnyH_take (i := 25) (v := ?_) rfl (by kernel_rfl) (by kernel_rfl) (by kernel_rfl) (fun _ _ _ h => h) (Or.inl ⟨by rfl, ?_⟩) (by assumption) ?_; rotate_left; (intro w hSw; (try dsimp only at hSw); go_simp; try with_reducible rfl); ((try simp only [List.getElem_toArray]); (try simp only [List.getElem_cons_succ]); (try simp only [List.getElem_cons_zero]); (try simp only [Act.put]); (try simp only [List.setIfInBounds_toArray]); (try simp only [List.set_cons_succ]); (try simp only [List.set_cons_zero])))
        (refine wpAnyH_take (i := 26) (v := ?_) rfl (by kernel_rfl) (by kernel_rfl) (by kernel_rfl) (fun _ _ _ h => h) (Or.inl ⟨by rfl, ?_⟩) (by assumption) ?_; rotate_left; (intro w hSw; (try dsimp only at hSw); go_simp; try with_reducible rfl); ((try simp only [List.getElem_toArray]); (try simp only [List.getElem_cons_succ]); (try simp only [List.getElem_cons_zero]); (try simp only [Act.put]); (try simp only [List.setIfInBounds_toArray]); (try simp only [List.set_cons_succ]); (try simp only [List.set_cons_zero])))
        refine wpAnyH_done (by kernel_rfl) ?_ _
        go_wp2_with fail
        go_ret
        exact ⟨by rw [HM.out]; simp [hk0], HB0.out.trans (Hid.out (And.left hS18) |>.mono HB0.out.size)⟩
set_option maxHeartbeats 4000000 in
theorem pwright_any {B : Nat} {v : Value} {T : List Wk} (w : World) (h : OwnW B w v T) (hl : T.length ≤ 800) (hf : ∀ x ∈ T, x.t.size ≤ 140737488355328 ∧ x.k.size ≤ 900) (hT : Tabs w) :
    Calls Tryz.prog 166 #[v] w fun e w' => e = .returned (.bool (wrightF T)) ∧ Hid (Below w.heap.size w w') := by
  obtain ⟨A, n, c, rfl, HN, hc, hm, HA, hz⟩ := ownW_open h
  have HF := Lib.hid hf
  have HTB := Lib.hid hT
  have HRF : Hid (wrightF T = wrightTo T n) := by show _ = _; unfold wrightF; rw [HN.out]
  obtain ⟨RF, hRF⟩ : ∃ x, wrightF T = x := ⟨_, rfl⟩
  rw [hRF] at HRF ⊢
  clear hz h hRF hf hT
  go_enter Tryz.func166, Tryz.ntmps166
  go_wp2_with fail
  go_loopw [7] (fun i wr => ∃ k : Nat, k ≤ n ∧ i = .int .i64 k ∧ Hid (wrightTo T k = true) ∧ Hid (Below w.heap.size w wr)) (fun i _ => n - (intOf i).toNat)
  case atStart => exact ⟨0, by omega, rfl, rfl, Below.refl _ _⟩
  case round =>
    obtain ⟨k, hk, rfl, HT, HB⟩ := hrel
    by_cases hlt : k < n
    · have hkl : k < T.length := by rw [HN.out]; exact hlt
      have HOK := Lib.hid (wrightTo_succ T k)
      have HNO := Lib.hid (wrightTo_false T k n hlt)
      obtain ⟨b, off, rfl, hc0⟩ := (HA.out.below HB.out) (by intro e; rw [e] at hkl; simp at hkl)
      obtain ⟨c0, c1, c2⟩ := hc0 k hkl
      have hkz : (k : Int) < (n : Int) := by omega
      have hxf := HF.out T[k] (List.getElem_mem hkl)
      have hpv : ∀ (h : 0 < k), ∃ s0 : ByteArray, wokAt T k = (mayW T[k] && Op.bytesLess s0.toList T[k].t.toList) ∧ wr.cell? ⟨b, off + (k - 1) * 3, none⟩ = some (.string s0) := fun h => ⟨_, wokAt_next T k hkl h, (hc0 (k - 1) (by omega)).1⟩
      have hfi : k = 0 → wokAt T k = mayW T[k] := fun h => by subst h; exact wokAt_first T hkl
      clear hc0
      generalize wokAt T k = tok at *
      generalize T[k] = x at *
      obtain ⟨s, xd, xk⟩ := x
      simp only at c0 c1 c2 hpv hfi hxf
      have HBv := Lib.hid ((Below.refl wr.heap.size wr).alloc (Nat.le_refl _) (.cells #[.string s, .bool xd, .string xk] 143))
      have HXv := Lib.hid (Has.new wr 143 #[.string s, .bool xd, .string xk])
      have HFx := Lib.hid hxf
      have HPV := Lib.hid hpv
      have HFI := Lib.hid hfi
      clear hxf hpv hfi
      obtain ⟨qm, hqm⟩ : ∃ q, mayW ⟨s, xd, xk⟩ = q := ⟨_, rfl⟩
      rw [hqm] at HPV HFI
      go_wp2_with fail
      obtain ⟨v0, hv0⟩ : ∃ W, W = (wr.alloc (.cells #[.string s, .bool xd, .string xk] 143)) := ⟨_, rfl⟩
      rw [← hv0] at HBv HXv ⊢
      clear hv0
      have y0 : v0.cell? ⟨wr.heap.size, 0, none⟩ = some (.string s) := HXv.out.cell 0
      have y1 : v0.cell? ⟨wr.heap.size, 1, none⟩ = some (.bool xd) := HXv.out.cell 1
      have y2 : v0.cell? ⟨wr.heap.size, 2, none⟩ = some (.string xk) := HXv.out.cell 2
      have HB0 := Lib.hid (HB.out.trans (HBv.out.mono HB.out.size))
      have CM := Lib.hid (fun (X : World) (hb : Hid (Below v0.heap.size v0 X)) => (pmayW_any s xk xd X HFx.out.1 HFx.out.2 (HTB.out.below (HB0.out.trans (hb.out.mono HB0.out.size)))).mono (R' := fun e w' => e = .returned (.bool qm) ∧ Hid (Below v0.heap.size v0 w')) fun e w' h => ⟨by rw [h.1, hqm], hb.out.trans (h.2.out.mono hb.out.size)⟩)
      by_cases hk0 : 0 < k
      · have hkz0 : (0 : Int) < (k : Int) := by omega
        have hkw : IntKind.i64.wrap ((k : Int) - 1) = ((k - 1 : Nat) : Int) := by rw [IntKind.wrap_i64]; omega
        have hkm1 : ((k - 1 : Nat) : Int) < (n : Int) := by omega
        have hkm2 : k - 1 < n := by omega
        obtain ⟨s0, htk, hc3⟩ := HPV.out hk0
        have e0 : v0.cell? ⟨b, off + (k - 1) * 3, none⟩ = some (.string s0) := (HBv.out.cell (World.block_lt_of_cell? _ _ hc3)).trans hc3
        obtain ⟨ql, hql⟩ : ∃ q, Op.bytesLess s0.toList s.toList = q := ⟨_, rfl⟩
        rw [hql] at htk
        have HTK := Lib.hid htk
        clear HPV HFI c0 c1 c2 hc3 htk hqm HFx HBv HXv
        have hS0 : (fun X : World => Hid (Below v0.heap.size v0 X) ∧ X.cell? ⟨wr.heap.size, 0, none⟩ = some (.string s) ∧ X.cell? ⟨wr.heap.size, 1, none⟩ = some (.bool xd) ∧ X.cell? ⟨wr.heap.size, 2, none⟩ = some (.string xk) ∧ X.cell? ⟨b, off + (k - 1) * 3, none⟩ = some (.string s0)) v0.drew := ⟨(Below.refl _ v0).drew, y0, y1, y2, e0⟩
        refine wp_region_held_drew (S := (fun X : World => Hid (Below v0.heap.size v0 X) ∧ X.cell? ⟨wr.heap.size, 0, none⟩ = some (.string s) ∧ X.cell? ⟨wr.heap.size, 1, none⟩ = some (.bool xd) ∧ X.cell? ⟨wr.heap.size, 2, none⟩ = some (.string xk) ∧ X.cell? ⟨b, off + (k - 1) * 3, none⟩ = some (.string s0))) (by kernel_rfl) hS0 (fun _ => ?_)
        (refine wpAnyH_take (i := 0) (v := ?_) rfl (by kernel_rfl) (by kernel_rfl) (by kernel_rfl) (fun _ _ _ h => h) (Or.inl ⟨by rfl, ?_⟩) (by assumption) ?_; rotate_left; (intro w hSw; (try dsimp only at hSw); go_simp; try with_reducible rfl); ((try simp only [List.getElem_toArray]); (try simp only [List.getElem_cons_succ]); (try simp only [List.getElem_cons_zero]); (try simp only [Act.put]); (try simp only [List.setIfInBounds_toArray]); (try simp only [List.set_cons_succ]); (try simp only [List.set_cons_zero])))
        refine wpAnyH_ready (rs := [1]) (by kernel_rfl) (by simp) ?_
        refine AllReadyH.cons rfl (fun K2 hK2 => ?_) AllReadyH.nil
        go_simp
        refine (CM.out _ hS0.1).mono ?_
        rintro e x1 ⟨rfl, hd⟩
        have hS1 : (fun X : World => Hid (Below v0.heap.size v0 X) ∧ X.cell? ⟨wr.heap.size, 0, none⟩ = some (.string s) ∧ X.cell? ⟨wr.heap.size, 1, none⟩ = some (.bool xd) ∧ X.cell? ⟨wr.heap.size, 2, none⟩ = some (.string xk) ∧ X.cell? ⟨b, off + (k - 1) * 3, none⟩ = some (.string s0)) x1 := ⟨hd, keepW hd.out y0, keepW hd.out y1, keepW hd.out y2, keepW hd.out e0⟩
        go_wp2_with fail
        refine hK2.out _ _ (by (try dsimp only); exact hS1) (fun _ => ?_)
        clear hK2 K2
        (try simp only [List.getElem_toArray]); (try simp only [List.getElem_cons_succ]); (try simp only [List.getElem_cons_zero]); (try simp only [Act.put]); (try simp only [List.setIfInBounds_toArray]); (try simp only [List.set_cons_succ]); (try simp only [List.set_cons_zero])
        cases qm
        · (refine wpAnyH_take (i := 2) (v := ?_) rfl (by kernel_rfl) (by kernel_rfl) (by kernel_rfl) (fun _ _ _ h => h) (Or.inl ⟨by rfl, ?_⟩) (by assumption) ?_; rotate_left; (intro w hSw; (try dsimp only at hSw); go_simp; try with_reducible rfl); ((try simp only [List.getElem_toArray]); (try simp only [List.getElem_cons_succ]); (try simp only [List.getElem_cons_zero]); (try simp only [Act.put]); (try simp only [List.setIfInBounds_toArray]); (try simp only [List.set_cons_succ]); (try simp only [List.set_cons_zero])))
          (refine wpAnyH_take (i := 3) (v := ?_) rfl (by kernel_rfl) (by kernel_rfl) (by kernel_rfl) (fun _ _ _ h => h) (Or.inl ⟨by rfl, ?_⟩) (by assumption) ?_; rotate_left; (intro w hSw; (try dsimp only at hSw); go_simp; try with_reducible rfl); ((try simp only [List.getElem_toArray]); (try simp only [List.getElem_cons_succ]); (try simp only [List.getElem_cons_zero]); (try simp only [Act.put]); (try simp only [List.setIfInBounds_toArray]); (try simp only [List.set_cons_succ]); (try simp only [List.set_cons_zero])))
          (refine wpAnyH_take (i := 4) (v := undef) rfl (by kernel_rfl) (by kernel_rfl) (by kernel_rfl) (fun _ _ _ h => h) (Or.inr ⟨by rfl, rfl⟩) (by assumption) ?_; ((try simp only [List.getElem_toArray]); (try simp only [List.getElem_cons_succ]); (try simp only [List.getElem_cons_zero]); (try simp only [Act.put]); (try simp only [List.setIfInBounds_toArray]); (try simp only [List.set_cons_succ]); (try simp only [List.set_cons_zero])))
          (refine wpAnyH_take (i := 5) (v := undef) rfl (by kernel_rfl) (by kernel_rfl) (by kernel_rfl) (fun _ _ _ h => h) (Or.inr ⟨by rfl, rfl⟩) (by assumption) ?_; ((try simp only [List.getElem_toArray]); (try simp only [List.getElem_cons_succ]); (try simp only [List.getElem_cons_zero]); (try simp only [Act.put]); (try simp only [List.setIfInBounds_toArray]); (try simp only [List.set_cons_succ]); (try simp only [List.set_cons_zero])))
          (refine wpAnyH_take (i := 6) (v := undef) rfl (by kernel_rfl) (by kernel_rfl) (by kernel_rfl) (fun _ _ _ h => h) (Or.inr ⟨by rfl, rfl⟩) (by assumption) ?_; ((try simp only [List.getElem_toArray]); (try simp only [List.getElem_cons_succ]); (try simp only [List.getElem_cons_zero]); (try simp only [Act.put]); (try simp only [List.setIfInBounds_toArray]); (try simp only [List.set_cons_succ]); (try simp only [List.set_cons_zero])))
          (refine wpAnyH_take (i := 7) (v := undef) rfl (by kernel_rfl) (by kernel_rfl) (by kernel_rfl) (fun _ _ _ h => h) (Or.inr ⟨by rfl, rfl⟩) (by assumption) ?_; ((try simp only [List.getElem_toArray]); (try simp only [List.getElem_cons_succ]); (try simp only [List.getElem_cons_zero]); (try simp only [Act.put]); (try simp only [List.setIfInBounds_toArray]); (try simp only [List.set_cons_succ]); (try simp only [List.set_cons_zero])))
          (refine wpAnyH_take (i := 8) (v := undef) rfl (by kernel_rfl) (by kernel_rfl) (by kernel_rfl) (fun _ _ _ h => h) (Or.inr ⟨by rfl, rfl⟩) (by assumption) ?_; ((try simp only [List.getElem_toArray]); (try simp only [List.getElem_cons_succ]); (try simp only [List.getElem_cons_zero]); (try simp only [Act.put]); (try simp only [List.setIfInBounds_toArray]); (try simp only [List.set_cons_succ]); (try simp only [List.set_cons_zero])))
          (refine wpAnyH_take (i := 9) (v := undef) rfl (by kernel_rfl) (by kernel_rfl) (by kernel_rfl) (fun _ _ _ h => h) (Or.inr ⟨by rfl, rfl⟩) (by assumption) ?_; ((try simp only [List.getElem_toArray]); (try simp only [List.getElem_cons_succ]); (try simp only [List.getElem_cons_zero]); (try simp only [Act.put]); (try simp only [List.setIfInBounds_toArray]); (try simp only [List.set_cons_succ]); (try simp only [List.set_cons_zero])))
          (refine wpAnyH_take (i := 10) (v := undef) rfl (by kernel_rfl) (by kernel_rfl) (by kernel_rfl) (fun _ _ _ h => h) (Or.inr ⟨by rfl, rfl⟩) (by assumption) ?_; ((try simp only [List.getElem_toArray]); (try simp only [List.getElem_cons_succ]); (try simp only [List.getElem_cons_zero]); (try simp only [Act.put]); (try simp only [List.setIfInBounds_toArray]); (try simp only [List.set_cons_succ]); (try simp only [List.set_cons_zero])))
          (refine wpAnyH_take (i := 11) (v := undef) rfl (by kernel_rfl) (by kernel_rfl) (by kernel_rfl) (fun _ _ _ h => h) (Or.inr ⟨by rfl, rfl⟩) (by assumption) ?_; ((try simp only [List.getElem_toArray]); (try simp only [List.getElem_cons_succ]); (try simp only [List.getElem_cons_zero]); (try simp only [Act.put]); (try simp only [List.setIfInBounds_toArray]); (try simp only [List.set_cons_succ]); (try simp only [List.set_cons_zero])))
          (refine wpAnyH_take (i := 12) (v := undef) rfl (by kernel_rfl) (by kernel_rfl) (by kernel_rfl) (fun _ _ _ h => h) (Or.inr ⟨by rfl, rfl⟩) (by assumption) ?_; ((try simp only [List.getElem_toArray]); (try simp only [List.getElem_cons_succ]); (try simp only [List.getElem_cons_zero]); (try simp only [Act.put]); (try simp only [List.setIfInBounds_toArray]); (try simp only [List.set_cons_succ]); (try simp only [List.set_cons_zero])))
          (refine wpAnyH_take (i := 13) (v := undef) rfl (by kernel_rfl) (by kernel_rfl) (by kernel_rfl) (fun _ _ _ h => h) (Or.inr ⟨by rfl, rfl⟩) (by assumption) ?_; ((try simp only [List.getElem_toArray]); (try simp only [List.getElem_cons_succ]); (try simp only [List.getElem_cons_zero]); (try simp only [Act.put]); (try simp only [List.setIfInBounds_toArray]); (try simp only [List.set_cons_succ]); (try simp only [List.set_cons_zero])))
          (refine wpAnyH_take (i := 14) (v := undef) rfl (by kernel_rfl) (by kernel_rfl) (by kernel_rfl) (fun _ _ _ h => h) (Or.inr ⟨by rfl, rfl⟩) (by assumption) ?_; ((try simp only [List.getElem_toArray]); (try simp only [List.getElem_cons_succ]); (try simp only [List.getElem_cons_zero]); (try simp only [Act.put]); (try simp only [List.setIfInBounds_toArray]); (try simp only [List.set_cons_succ]); (try simp only [List.set_cons_zero])))
          (refine wpAnyH_take (i := 15) (v := undef) rfl (by kernel_rfl) (by kernel_rfl) (by kernel_rfl) (fun _ _ _ h => h) (Or.inr ⟨by rfl, rfl⟩) (by assumption) ?_; ((try simp only [List.getElem_toArray]); (try simp only [List.getElem_cons_succ]); (try simp only [List.getElem_cons_zero]); (try simp only [Act.put]); (try simp only [List.setIfInBounds_toArray]); (try simp only [List.set_cons_succ]); (try simp only [List.set_cons_zero])))
          (refine wpAnyH_take (i := 16) (v := undef) rfl (by kernel_rfl) (by kernel_rfl) (by kernel_rfl) (fun _ _ _ h => h) (Or.inr ⟨by rfl, rfl⟩) (by assumption) ?_; ((try simp only [List.getElem_toArray]); (try simp only [List.getElem_cons_succ]); (try simp only [List.getElem_cons_zero]); (try simp only [Act.put]); (try simp only [List.setIfInBounds_toArray]); (try simp only [List.set_cons_succ]); (try simp only [List.set_cons_zero])))
          (refine wpAnyH_take (i := 17) (v := ?_) rfl (by kernel_rfl) (by kernel_rfl) (by kernel_rfl) (fun _ _ _ h => h) (Or.inl ⟨by rfl, ?_⟩) (by assumption) ?_; rotate_left; (intro w hSw; (try dsimp only at hSw); go_simp; try with_reducible rfl); ((try simp only [List.getElem_toArray]); (try simp only [List.getElem_cons_succ]); (try simp only [List.getElem_cons_zero]); (try simp only [Act.put]); (try simp only [List.setIfInBounds_toArray]); (try simp only [List.set_cons_succ]); (try simp only [List.set_cons_zero])))
          refine wpAnyH_done (by kernel_rfl) ?_ _
          go_wp2_with fail
          go_ret
          exact ⟨by rw [HRF.out, HNO.out (HTK.out.trans (by rfl))]; rfl, HB0.out.trans (hd.out.mono HB0.out.size)⟩
        · cases ql
          · rcases leq_is hql with hq | ⟨hq, hq2⟩
            · (refine wpAnyH_take (i := 2) (v := ?_) rfl (by kernel_rfl) (by kernel_rfl) (by kernel_rfl) (fun _ _ _ h => h) (Or.inl ⟨by rfl, ?_⟩) (by assumption) ?_; rotate_left; (intro w hSw; (try dsimp only at hSw); go_simp; try with_reducible rfl); ((try simp only [List.getElem_toArray]); (try simp only [List.getElem_cons_succ]); (try simp only [List.getElem_cons_zero]); (try simp only [Act.put]); (try simp only [List.setIfInBounds_toArray]); (try simp only [List.set_cons_succ]); (try simp only [List.set_cons_zero])))
              (refine wpAnyH_take (i := 3) (v := ?_) rfl (by kernel_rfl) (by kernel_rfl) (by kernel_rfl) (fun _ _ _ h => h) (Or.inl ⟨by rfl, ?_⟩) (by assumption) ?_; rotate_left; (intro w hSw; (try dsimp only at hSw); go_simp; try with_reducible rfl); ((try simp only [List.getElem_toArray]); (try simp only [List.getElem_cons_succ]); (try simp only [List.getElem_cons_zero]); (try simp only [Act.put]); (try simp only [List.setIfInBounds_toArray]); (try simp only [List.set_cons_succ]); (try simp only [List.set_cons_zero])))
              (refine wpAnyH_take (i := 4) (v := ?_) rfl (by kernel_rfl) (by kernel_rfl) (by kernel_rfl) (fun _ _ _ h => h) (Or.inl ⟨by rfl, ?_⟩) (by assumption) ?_; rotate_left; (intro w hSw; (try dsimp only at hSw); go_simp; try with_reducible rfl); ((try simp only [List.getElem_toArray]); (try simp only [List.getElem_cons_succ]); (try simp only [List.getElem_cons_zero]); (try simp only [Act.put]); (try simp only [List.setIfInBounds_toArray]); (try simp only [List.set_cons_succ]); (try simp only [List.set_cons_zero])))
              (refine wpAnyH_take (i := 5) (v := ?_) rfl (by kernel_rfl) (by kernel_rfl) (by kernel_rfl) (fun _ _ _ h => h) (Or.inl ⟨by rfl, ?_⟩) (by assumption) ?_; rotate_left; (intro w hSw; (try dsimp only at hSw); go_simp; try with_reducible rfl); ((try simp only [List.getElem_toArray]); (try simp only [List.getElem_cons_succ]); (try simp only [List.getElem_cons_zero]); (try simp only [Act.put]); (try simp only [List.setIfInBounds_toArray]); (try simp only [List.set_cons_succ]); (try simp only [List.set_cons_zero])))
              (refine wpAnyH_take (i := 6) (v := ?_) rfl (by kernel_rfl) (by kernel_rfl) (by kernel_rfl) (fun _ _ _ h => h) (Or.inl ⟨by rfl, ?_⟩) (by assumption) ?_; rotate_left; (intro w hSw; (try dsimp only at hSw); go_simp; try with_reducible rfl); ((try simp only [List.getElem_toArray]); (try simp only [List.getElem_cons_succ]); (try simp only [List.getElem_cons_zero]); (try simp only [Act.put]); (try simp only [List.setIfInBounds_toArray]); (try simp only [List.set_cons_succ]); (try simp only [List.set_cons_zero])))
              (refine wpAnyH_take (i := 7) (v := ?_) rfl (by kernel_rfl) (by kernel_rfl) (by kernel_rfl) (fun _ _ _ h => h) (Or.inl ⟨by rfl, ?_⟩) (by assumption) ?_; rotate_left; (intro w hSw; (try dsimp only at hSw); go_simp; try with_reducible rfl); ((try simp only [List.getElem_toArray]); (try simp only [List.getElem_cons_succ]); (try simp only [List.getElem_cons_zero]); (try simp only [Act.put]); (try simp only [List.setIfInBounds_toArray]); (try simp only [List.set_cons_succ]); (try simp only [List.set_cons_zero])))
              (refine wpAnyH_take (i := 8) (v := ?_) rfl (by kernel_rfl) (by kernel_rfl) (by kernel_rfl) (fun _ _ _ h => h) (Or.inl ⟨by rfl, ?_⟩) (by assumption) ?_; rotate_left; (intro w hSw; (try dsimp only at hSw); go_simp; try with_reducible rfl); ((try simp only [List.getElem_toArray]); (try simp only [List.getElem_cons_succ]); (try simp only [List.getElem_cons_zero]); (try simp only [Act.put]); (try simp only [List.setIfInBounds_toArray]); (try simp only [List.set_cons_succ]); (try simp only [List.set_cons_zero])))
              (refine wpAnyH_take (i := 9) (v := ?_) rfl (by kernel_rfl) (by kernel_rfl) (by kernel_rfl) (fun _ _ _ h => h) (Or.inl ⟨by rfl, ?_⟩) (by assumption) ?_; rotate_left; (intro w hSw; (try dsimp only at hSw); go_simp; try with_reducible rfl); ((try simp only [List.getElem_toArray]); (try simp only [List.getElem_cons_succ]); (try simp only [List.getElem_cons_zero]); (try simp only [Act.put]); (try simp only [List.setIfInBounds_toArray]); (try simp only [List.set_cons_succ]); (try simp only [List.set_cons_zero])))
              (refine wpAnyH_take (i := 10) (v := ?_) rfl (by kernel_rfl) (by kernel_rfl) (by kernel_rfl) (fun _ _ _ h => h) (Or.inl ⟨by rfl, ?_⟩) (by assumption) ?_; rotate_left; (intro w hSw; (try dsimp only at hSw); go_simp; try with_reducible rfl); ((try simp only [List.getElem_toArray]); (try simp only [List.getElem_cons_succ]); (try simp only [List.getElem_cons_zero]); (try simp only [Act.put]); (try simp only [List.setIfInBounds_toArray]); (try simp only [List.set_cons_succ]); (try simp only [List.set_cons_zero])))
              (refine wpAnyH_take (i := 11) (v := ?_) rfl (by kernel_rfl) (by kernel_rfl) (by kernel_rfl) (fun _ _ _ h => h) (Or.inl ⟨by rfl, ?_⟩) (by assumption) ?_; rotate_left; (intro w hSw; (try dsimp only at hSw); go_simp; try with_reducible rfl); ((try simp only [List.getElem_toArray]); (try simp only [List.getElem_cons_succ]); (try simp only [List.getElem_cons_zero]); (try simp only [Act.put]); (try simp only [List.setIfInBounds_toArray]); (try simp only [List.set_cons_succ]); (try simp only [List.set_cons_zero])))
              (refine wpAnyH_take (i := 12) (v := ?_) rfl (by kernel_rfl) (by kernel_rfl) (by kernel_rfl) (fun _ _ _ h => h) (Or.inl ⟨by rfl, ?_⟩) (by assumption) ?_; rotate_left; (intro w hSw; (try dsimp only at hSw); go_simp; try with_reducible rfl); ((try simp only [List.getElem_toArray]); (try simp only [List.getElem_cons_succ]); (try simp only [List.getElem_cons_zero]); (try simp only [Act.put]); (try simp only [List.setIfInBounds_toArray]); (try simp only [List.set_cons_succ]); (try simp only [List.set_cons_zero])))
              (refine wpAnyH_take (i := 13) (v := ?_) rfl (by kernel_rfl) (by kernel_rfl) (by kernel_rfl) (fun _ _ _ h => h) (Or.inl ⟨by rfl, ?_⟩) (by assumption) ?_; rotate_left; (intro w hSw; (try dsimp only at hSw); go_simp; try with_reducible rfl); ((try simp only [List.getElem_toArray]); (try simp only [List.getElem_cons_succ]); (try simp only [List.getElem_cons_zero]); (try simp only [Act.put]); (try simp only [List.setIfInBounds_toArray]); (try simp only [List.set_cons_succ]); (try simp only [List.set_cons_zero])))
              (refine wpAnyH_take (i := 14) (v := ?_) rfl (by kernel_rfl) (by kernel_rfl) (by kernel_rfl) (fun _ _ _ h => h) (Or.inl ⟨by rfl, ?_⟩) (by assumption) ?_; rotate_left; (intro w hSw; (try dsimp only at hSw); go_simp; try with_reducible rfl); ((try simp only [List.getElem_toArray]); (try simp only [List.getElem_cons_succ]); (try simp only [List.getElem_cons_zero]); (try simp only [Act.put]); (try simp only [List.setIfInBounds_toArray]); (try simp only [List.set_cons_succ]); (try simp only [List.set_cons_zero])))
              (refine wpAnyH_take (i := 15) (v := ?_) rfl (by kernel_rfl) (by kernel_rfl) (by kernel_rfl) (fun _ _ _ h => h) (Or.inl ⟨by rfl, ?_⟩) (by assumption) ?_; rotate_left; (intro w hSw; (try dsimp only at hSw); go_simp; try with_reducible rfl); ((try simp only [List.getElem_toArray]); (try simp only [List.getElem_cons_succ]); (try simp only [List.getElem_cons_zero]); (try simp only [Act.put]); (try simp only [List.setIfInBounds_toArray]); (try simp only [List.set_cons_succ]); (try simp only [List.set_cons_zero])))
              (refine wpAnyH_take (i := 16) (v := ?_) rfl (by kernel_rfl) (by kernel_rfl) (by kernel_rfl) (fun _ _ _ h => h) (Or.inl ⟨by rfl, ?_⟩) (by assumption) ?_; rotate_left; (intro w hSw; (try dsimp only at hSw); go_simp; try with_reducible rfl); ((try simp only [List.getElem_toArray]); (try simp only [List.getElem_cons_succ]); (try simp only [List.getElem_cons_zero]); (try simp only [Act.put]); (try simp only [List.setIfInBounds_toArray]); (try simp only [List.set_cons_succ]); (try simp only [List.set_cons_zero])))
              (refine wpAnyH_take (i := 17) (v := ?_) rfl (by kernel_rfl) (by kernel_rfl) (by kernel_rfl) (fun _ _ _ h => h) (Or.inl ⟨by rfl, ?_⟩) (by assumption) ?_; rotate_left; (intro w hSw; (try dsimp only at hSw); go_simp; try with_reducible rfl); ((try simp only [List.getElem_toArray]); (try simp only [List.getElem_cons_succ]); (try simp only [List.getElem_cons_zero]); (try simp only [Act.put]); (try simp only [List.setIfInBounds_toArray]); (try simp only [List.set_cons_succ]); (try simp only [List.set_cons_zero])))
              refine wpAnyH_done (by kernel_rfl) ?_ _
              go_wp2_with fail
              go_ret
              exact ⟨by rw [HRF.out, HNO.out (HTK.out.trans (by rfl))]; rfl, HB0.out.trans (hd.out.mono HB0.out.size)⟩
            · (refine wpAnyH_take (i := 2) (v := ?_) rfl (by kernel_rfl) (by kernel_rfl) (by kernel_rfl) (fun _ _ _ h => h) (Or.inl ⟨by rfl, ?_⟩) (by assumption) ?_; rotate_left; (intro w hSw; (try dsimp only at hSw); go_simp; try with_reducible rfl); ((try simp only [List.getElem_toArray]); (try simp only [List.getElem_cons_succ]); (try simp only [List.getElem_cons_zero]); (try simp only [Act.put]); (try simp only [List.setIfInBounds_toArray]); (try simp only [List.set_cons_succ]); (try simp only [List.set_cons_zero])))
              (refine wpAnyH_take (i := 3) (v := ?_) rfl (by kernel_rfl) (by kernel_rfl) (by kernel_rfl) (fun _ _ _ h => h) (Or.inl ⟨by rfl, ?_⟩) (by assumption) ?_; rotate_left; (intro w hSw; (try dsimp only at hSw); go_simp; try with_reducible rfl); ((try simp only [List.getElem_toArray]); (try simp only [List.getElem_cons_succ]); (try simp only [List.getElem_cons_zero]); (try simp only [Act.put]); (try simp only [List.setIfInBounds_toArray]); (try simp only [List.set_cons_succ]); (try simp only [List.set_cons_zero])))
              (refine wpAnyH_take (i := 4) (v := ?_) rfl (by kernel_rfl) (by kernel_rfl) (by kernel_rfl) (fun _ _ _ h => h) (Or.inl ⟨by rfl, ?_⟩) (by assumption) ?_; rotate_left; (intro w hSw; (try dsimp only at hSw); go_simp; try with_reducible rfl); ((try simp only [List.getElem_toArray]); (try simp only [List.getElem_cons_succ]); (try simp only [List.getElem_cons_zero]); (try simp only [Act.put]); (try simp only [List.setIfInBounds_toArray]); (try simp only [List.set_cons_succ]); (try simp only [List.set_cons_zero])))
              (refine wpAnyH_take (i := 5) (v := ?_) rfl (by kernel_rfl) (by kernel_rfl) (by kernel_rfl) (fun _ _ _ h => h) (Or.inl ⟨by rfl, ?_⟩) (by assumption) ?_; rotate_left; (intro w hSw; (try dsimp only at hSw); go_simp; try with_reducible rfl); ((try simp only [List.getElem_toArray]); (try simp only [List.getElem_cons_succ]); (try simp only [List.getElem_cons_zero]); (try simp only [Act.put]); (try simp only [List.setIfInBounds_toArray]); (try simp only [List.set_cons_succ]); (try simp only [List.set_cons_zero])))
              (refine wpAnyH_take (i := 6) (v := ?_) rfl (by kernel_rfl) (by kernel_rfl) (by kernel_rfl) (fun _ _ _ h => h) (Or.inl ⟨by rfl, ?_⟩) (by assumption) ?_; rotate_left; (intro w hSw; (try dsimp only at hSw); go_simp; try with_reducible rfl); ((try simp only [List.getElem_toArray]); (try simp only [List.getElem_cons_succ]); (try simp only [List.getElem_cons_zero]); (try simp only [Act.put]); (try simp only [List.setIfInBounds_toArray]); (try simp only [List.set_cons_succ]); (try simp only [List.set_cons_zero])))
              (refine wpAnyH_take (i := 7) (v := ?_) rfl (by kernel_rfl) (by kernel_rfl) (by kernel_rfl) (fun _ _ _ h => h) (Or.inl ⟨by rfl, ?_⟩) (by assumption) ?_; rotate_left; (intro w hSw; (try dsimp only at hSw); go_simp; try with_reducible rfl); ((try simp only [List.getElem_toArray]); (try simp only [List.getElem_cons_succ]); (try simp only [List.getElem_cons_zero]); (try simp only [Act.put]); (try simp only [List.setIfInBounds_toArray]); (try simp only [List.set_cons_succ]); (try simp only [List.set_cons_zero])))
              (refine wpAnyH_take (i := 8) (v := ?_) rfl (by kernel_rfl) (by kernel_rfl) (by kernel_rfl) (fun _ _ _ h => h) (Or.inl ⟨by rfl, ?_⟩) (by assumption) ?_; rotate_left; (intro w hSw; (try dsimp only at hSw); go_simp; try with_reducible rfl); ((try simp only [List.getElem_toArray]); (try simp only [List.getElem_cons_succ]); (try simp only [List.getElem_cons_zero]); (try simp only [Act.put]); (try simp only [List.setIfInBounds_toArray]); (try simp only [List.set_cons_succ]); (try simp only [List.set_cons_zero])))
              (refine wpAnyH_take (i := 9) (v := ?_) rfl (by kernel_rfl) (by kernel_rfl) (by kernel_rfl) (fun _ _ _ h => h) (Or.inl ⟨by rfl, ?_⟩) (by assumption) ?_; rotate_left; (intro w hSw; (try dsimp only at hSw); go_simp; try with_reducible rfl); ((try simp only [List.getElem_toArray]); (try simp only [List.getElem_cons_succ]); (try simp only [List.getElem_cons_zero]); (try simp only [Act.put]); (try simp only [List.setIfInBounds_toArray]); (try simp only [List.set_cons_succ]); (try simp only [List.set_cons_zero])))
              (refine wpAnyH_take (i := 10) (v := ?_) rfl (by kernel_rfl) (by kernel_rfl) (by kernel_rfl) (fun _ _ _ h => h) (Or.inl ⟨by rfl, ?_⟩) (by assumption) ?_; rotate_left; (intro w hSw; (try dsimp only at hSw); go_simp; try with_reducible rfl); ((try simp only [List.getElem_toArray]); (try simp only [List.getElem_cons_succ]); (try simp only [List.getElem_cons_zero]); (try simp only [Act.put]); (try simp only [List.setIfInBounds_toArray]); (try simp only [List.set_cons_succ]); (try simp only [List.set_cons_zero])))
              (refine wpAnyH_take (i := 11) (v := ?_) rfl (by kernel_rfl) (by kernel_rfl) (by kernel_rfl) (fun _ _ _ h => h) (Or.inl ⟨by rfl, ?_⟩) (by assumption) ?_; rotate_left; (intro w hSw; (try dsimp only at hSw); go_simp; try with_reducible rfl); ((try simp only [List.getElem_toArray]); (try simp only [List.getElem_cons_succ]); (try simp only [List.getElem_cons_zero]); (try simp only [Act.put]); (try simp only [List.setIfInBounds_toArray]); (try simp only [List.set_cons_succ]); (try simp only [List.set_cons_zero])))
              (refine wpAnyH_take (i := 12) (v := ?_) rfl (by kernel_rfl) (by kernel_rfl) (by kernel_rfl) (fun _ _ _ h => h) (Or.inl ⟨by rfl, ?_⟩) (by assumption) ?_; rotate_left; (intro w hSw; (try dsimp only at hSw); go_simp; try with_reducible rfl); ((try simp only [List.getElem_toArray]); (try simp only [List.getElem_cons_succ]); (try simp only [List.getElem_cons_zero]); (try simp only [Act.put]); (try simp only [List.setIfInBounds_toArray]); (try simp only [List.set_cons_succ]); (try simp only [List.set_cons_zero])))
              (refine wpAnyH_take (i := 13) (v := ?_) rfl (by kernel_rfl) (by kernel_rfl) (by kernel_rfl) (fun _ _ _ h => h) (Or.inl ⟨by rfl, ?_⟩) (by assumption) ?_; rotate_left; (intro w hSw; (try dsimp only at hSw); go_simp; try with_reducible rfl); ((try simp only [List.getElem_toArray]); (try simp only [List.getElem_cons_succ]); (try simp only [List.getElem_cons_zero]); (try simp only [Act.put]); (try simp only [List.setIfInBounds_toArray]); (try simp only [List.set_cons_succ]); (try simp only [List.set_cons_zero])))
              (refine wpAnyH_take (i := 14) (v := ?_) rfl (by kernel_rfl) (by kernel_rfl) (by kernel_rfl) (fun _ _ _ h => h) (Or.inl ⟨by rfl, ?_⟩) (by assumption) ?_; rotate_left; (intro w hSw; (try dsimp only at hSw); go_simp; try with_reducible rfl); ((try simp only [List.getElem_toArray]); (try simp only [List.getElem_cons_succ]); (try simp only [List.getElem_cons_zero]); (try simp only [Act.put]); (try simp only [List.setIfInBounds_toArray]); (try simp only [List.set_cons_succ]); (try simp only [List.set_cons_zero])))
              (refine wpAnyH_take (i := 15) (v := ?_) rfl (by kernel_rfl) (by kernel_rfl) (by kernel_rfl) (fun _ _ _ h => h) (Or.inl ⟨by rfl, ?_⟩) (by assumption) ?_; rotate_left; (intro w hSw; (try dsimp only at hSw); go_simp; try with_reducible rfl); ((try simp only [List.getElem_toArray]); (try simp only [List.getElem_cons_succ]); (try simp only [List.getElem_cons_zero]); (try simp only [Act.put]); (try simp only [List.setIfInBounds_toArray]); (try simp only [List.set_cons_succ]); (try simp only [List.set_cons_zero])))
              (refine wpAnyH_take (i := 16) (v := ?_) rfl (by kernel_rfl) (by kernel_rfl) (by kernel_rfl) (fun _ _ _ h => h) (Or.inl ⟨by rfl, ?_⟩) (by assumption) ?_; rotate_left; (intro w hSw; (try dsimp only at hSw); go_simp; try with_reducible rfl); ((try simp only [List.getElem_toArray]); (try simp only [List.getElem_cons_succ]); (try simp only [List.getElem_cons_zero]); (try simp only [Act.put]); (try simp only [List.setIfInBounds_toArray]); (try simp only [List.set_cons_succ]); (try simp only [List.set_cons_zero])))
              (refine wpAnyH_take (i := 17) (v := ?_) rfl (by kernel_rfl) (by kernel_rfl) (by kernel_rfl) (fun _ _ _ h => h) (Or.inl ⟨by rfl, ?_⟩) (by assumption) ?_; rotate_left; (intro w hSw; (try dsimp only at hSw); go_simp; try with_reducible rfl); ((try simp only [List.getElem_toArray]); (try simp only [List.getElem_cons_succ]); (try simp only [List.getElem_cons_zero]); (try simp only [Act.put]); (try simp only [List.setIfInBounds_toArray]); (try simp only [List.set_cons_succ]); (try simp only [List.set_cons_zero])))
              refine wpAnyH_done (by kernel_rfl) ?_ _
              go_wp2_with fail
              go_ret
              exact ⟨by rw [HRF.out, HNO.out (HTK.out.trans (by rfl))]; rfl, HB0.out.trans (hd.out.mono HB0.out.size)⟩
          · obtain ⟨hq, hq2⟩ := leq_not hql
            (refine wpAnyH_take (i := 2) (v := ?_) rfl (by kernel_rfl) (by kernel_rfl) (by kernel_rfl) (fun _ _ _ h => h) (Or.inl ⟨by rfl, ?_⟩) (by assumption) ?_; rotate_left; (intro w hSw; (try dsimp only at hSw); go_simp; try with_reducible rfl); ((try simp only [List.getElem_toArray]); (try simp only [List.getElem_cons_succ]); (try simp only [List.getElem_cons_zero]); (try simp only [Act.put]); (try simp only [List.setIfInBounds_toArray]); (try simp only [List.set_cons_succ]); (try simp only [List.set_cons_zero])))
            (refine wpAnyH_take (i := 3) (v := ?_) rfl (by kernel_rfl) (by kernel_rfl) (by kernel_rfl) (fun _ _ _ h => h) (Or.inl ⟨by rfl, ?_⟩) (by assumption) ?_; rotate_left; (intro w hSw; (try dsimp only at hSw); go_simp; try with_reducible rfl); ((try simp only [List.getElem_toArray]); (try simp only [List.getElem_cons_succ]); (try simp only [List.getElem_cons_zero]); (try simp only [Act.put]); (try simp only [List.setIfInBounds_toArray]); (try simp only [List.set_cons_succ]); (try simp only [List.set_cons_zero])))
            (refine wpAnyH_take (i := 4) (v := ?_) rfl (by kernel_rfl) (by kernel_rfl) (by kernel_rfl) (fun _ _ _ h => h) (Or.inl ⟨by rfl, ?_⟩) (by assumption) ?_; rotate_left; (intro w hSw; (try dsimp only at hSw); go_simp; try with_reducible rfl); ((try simp only [List.getElem_toArray]); (try simp only [List.getElem_cons_succ]); (try simp only [List.getElem_cons_zero]); (try simp only [Act.put]); (try simp only [List.setIfInBounds_toArray]); (try simp only [List.set_cons_succ]); (try simp only [List.set_cons_zero])))
            (refine wpAnyH_take (i := 5) (v := ?_) rfl (by kernel_rfl) (by kernel_rfl) (by kernel_rfl) (fun _ _ _ h => h) (Or.inl ⟨by rfl, ?_⟩) (by assumption) ?_; rotate_left; (intro w hSw; (try dsimp only at hSw); go_simp; try with_reducible rfl); ((try simp only [List.getElem_toArray]); (try simp only [List.getElem_cons_succ]); (try simp only [List.getElem_cons_zero]); (try simp only [Act.put]); (try simp only [List.setIfInBounds_toArray]); (try simp only [List.set_cons_succ]); (try simp only [List.set_cons_zero])))
            (refine wpAnyH_take (i := 6) (v := ?_) rfl (by kernel_rfl) (by kernel_rfl) (by kernel_rfl) (fun _ _ _ h => h) (Or.inl ⟨by rfl, ?_⟩) (by assumption) ?_; rotate_left; (intro w hSw; (try dsimp only at hSw); go_simp; try with_reducible rfl); ((try simp only [List.getElem_toArray]); (try simp only [List.getElem_cons_succ]); (try simp only [List.getElem_cons_zero]); (try simp only [Act.put]); (try simp only [List.setIfInBounds_toArray]); (try simp only [List.set_cons_succ]); (try simp only [List.set_cons_zero])))
            (refine wpAnyH_take (i := 7) (v := ?_) rfl (by kernel_rfl) (by kernel_rfl) (by kernel_rfl) (fun _ _ _ h => h) (Or.inl ⟨by rfl, ?_⟩) (by assumption) ?_; rotate_left; (intro w hSw; (try dsimp only at hSw); go_simp; try with_reducible rfl); ((try simp only [List.getElem_toArray]); (try simp only [List.getElem_cons_succ]); (try simp only [List.getElem_cons_zero]); (try simp only [Act.put]); (try simp only [List.setIfInBounds_toArray]); (try simp only [List.set_cons_succ]); (try simp only [List.set_cons_zero])))
            (refine wpAnyH_take (i := 8) (v := ?_) rfl (by kernel_rfl) (by kernel_rfl) (by kernel_rfl) (fun _ _ _ h => h) (Or.inl ⟨by rfl, ?_⟩) (by assumption) ?_; rotate_left; (intro w hSw; (try dsimp only at hSw); go_simp; try with_reducible rfl); ((try simp only [List.getElem_toArray]); (try simp only [List.getElem_cons_succ]); (try simp only [List.getElem_cons_zero]); (try simp only [Act.put]); (try simp only [List.setIfInBounds_toArray]); (try simp only [List.set_cons_succ]); (try simp only [List.set_cons_zero])))
            (refine wpAnyH_take (i := 9) (v := ?_) rfl (by kernel_rfl) (by kernel_rfl) (by kernel_rfl) (fun _ _ _ h => h) (Or.inl ⟨by rfl, ?_⟩) (by assumption) ?_; rotate_left; (intro w hSw; (try dsimp only at hSw); go_simp; try with_reducible rfl); ((try simp only [List.getElem_toArray]); (try simp only [List.getElem_cons_succ]); (try simp only [List.getElem_cons_zero]); (try simp only [Act.put]); (try simp only [List.setIfInBounds_toArray]); (try simp only [List.set_cons_succ]); (try simp only [List.set_cons_zero])))
            (refine wpAnyH_take (i := 10) (v := ?_) rfl (by kernel_rfl) (by kernel_rfl) (by kernel_rfl) (fun _ _ _ h => h) (Or.inl ⟨by rfl, ?_⟩) (by assumption) ?_; rotate_left; (intro w hSw; (try dsimp only at hSw); go_simp; try with_reducible rfl); ((try simp only [List.getElem_toArray]); (try simp only [List.getElem_cons_succ]); (try simp only [List.getElem_cons_zero]); (try simp only [Act.put]); (try simp only [List.setIfInBounds_toArray]); (try simp only [List.set_cons_succ]); (try simp only [List.set_cons_zero])))
            (refine wpAnyH_take (i := 11) (v := ?_) rfl (by kernel_rfl) (by kernel_rfl) (by kernel_rfl) (fun _ _ _ h => h) (Or.inl ⟨by rfl, ?_⟩) (by assumption) ?_; rotate_left; (intro w hSw; (try dsimp only at hSw); go_simp; try with_reducible rfl); ((try simp only [List.getElem_toArray]); (try simp only [List.getElem_cons_succ]); (try simp only [List.getElem_cons_zero]); (try simp only [Act.put]); (try simp only [List.setIfInBounds_toArray]); (try simp only [List.set_cons_succ]); (try simp only [List.set_cons_zero])))
            (refine wpAnyH_take (i := 12) (v := ?_) rfl (by kernel_rfl) (by kernel_rfl) (by kernel_rfl) (fun _ _ _ h => h) (Or.inl ⟨by rfl, ?_⟩) (by assumption) ?_; rotate_left; (intro w hSw; (try dsimp only at hSw); go_simp; try with_reducible rfl); ((try simp only [List.getElem_toArray]); (try simp only [List.getElem_cons_succ]); (try simp only [List.getElem_cons_zero]); (try simp only [Act.put]); (try simp only [List.setIfInBounds_toArray]); (try simp only [List.set_cons_succ]); (try simp only [List.set_cons_zero])))
            (refine wpAnyH_take (i := 13) (v := ?_) rfl (by kernel_rfl) (by kernel_rfl) (by kernel_rfl) (fun _ _ _ h => h) (Or.inl ⟨by rfl, ?_⟩) (by assumption) ?_; rotate_left; (intro w hSw; (try dsimp only at hSw); go_simp; try with_reducible rfl); ((try simp only [List.getElem_toArray]); (try simp only [List.getElem_cons_succ]); (try simp only [List.getElem_cons_zero]); (try simp only [Act.put]); (try simp only [List.setIfInBounds_toArray]); (try simp only [List.set_cons_succ]); (try simp only [List.set_cons_zero])))
            (refine wpAnyH_take (i := 14) (v := ?_) rfl (by kernel_rfl) (by kernel_rfl) (by kernel_rfl) (fun _ _ _ h => h) (Or.inl ⟨by rfl, ?_⟩) (by assumption) ?_; rotate_left; (intro w hSw; (try dsimp only at hSw); go_simp; try with_reducible rfl); ((try simp only [List.getElem_toArray]); (try simp only [List.getElem_cons_succ]); (try simp only [List.getElem_cons_zero]); (try simp only [Act.put]); (try simp only [List.setIfInBounds_toArray]); (try simp only [List.set_cons_succ]); (try simp only [List.set_cons_zero])))
            (refine wpAnyH_take (i := 15) (v := ?_) rfl (by kernel_rfl) (by kernel_rfl) (by kernel_rfl) (fun _ _ _ h => h) (Or.inl ⟨by rfl, ?_⟩) (by assumption) ?_; rotate_left; (intro w hSw; (try dsimp only at hSw); go_simp; try with_reducible rfl); ((try simp only [List.getElem_toArray]); (try simp only [List.getElem_cons_succ]); (try simp only [List.getElem_cons_zero]); (try simp only [Act.put]); (try simp only [List.setIfInBounds_toArray]); (try simp only [List.set_cons_succ]); (try simp only [List.set_cons_zero])))
            (refine wpAnyH_take (i := 16) (v := ?_) rfl (by kernel_rfl) (by kernel_rfl) (by kernel_rfl) (fun _ _ _ h => h) (Or.inl ⟨by rfl, ?_⟩) (by assumption) ?_; rotate_left; (intro w hSw; (try dsimp only at hSw); go_simp; try with_reducible rfl); ((try simp only [List.getElem_toArray]); (try simp only [List.getElem_cons_succ]); (try simp only [List.getElem_cons_zero]); (try simp only [Act.put]); (try simp only [List.setIfInBounds_toArray]); (try simp only [List.set_cons_succ]); (try simp only [List.set_cons_zero])))
            (refine wpAnyH_take (i := 17) (v := ?_) rfl (by kernel_rfl) (by kernel_rfl) (by kernel_rfl) (fun _ _ _ h => h) (Or.inl ⟨by rfl, ?_⟩) (by assumption) ?_; rotate_left; (intro w hSw; (try dsimp only at hSw); go_simp; try with_reducible rfl); ((try simp only [List.getElem_toArray]); (try simp only [List.getElem_cons_succ]); (try simp only [List.getElem_cons_zero]); (try simp only [Act.put]); (try simp only [List.setIfInBounds_toArray]); (try simp only [List.set_cons_succ]); (try simp only [List.set_cons_zero])))
            refine wpAnyH_done (by kernel_rfl) ?_ _
            go_wp2_with fail
            go_roundw
            case rel => exact ⟨k + 1, by omega, by go_num, by show _ = _; rw [HOK.out, HT.out, HTK.out]; rfl, HB0.out.trans (hd.out.mono HB0.out.size)⟩
            case measure => simp [intOf]; omega
      · have hkz0 : ¬ ((0 : Int) < (k : Int)) := by omega
        have HTK := Lib.hid (HFI.out (by omega))
        clear HPV HFI c0 c1 c2 hqm HFx HBv HXv
        have hS0 : (fun X : World => Hid (Below v0.heap.size v0 X) ∧ X.cell? ⟨wr.heap.size, 0, none⟩ = some (.string s) ∧ X.cell? ⟨wr.heap.size, 1, none⟩ = some (.bool xd) ∧ X.cell? ⟨wr.heap.size, 2, none⟩ = some (.string xk)) v0.drew := ⟨(Below.refl _ v0).drew, y0, y1, y2⟩
        refine wp_region_held_drew (S := (fun X : World => Hid (Below v0.heap.size v0 X) ∧ X.cell? ⟨wr.heap.size, 0, none⟩ = some (.string s) ∧ X.cell? ⟨wr.heap.size, 1, none⟩ = some (.bool xd) ∧ X.cell? ⟨wr.heap.size, 2, none⟩ = some (.string xk))) (by kernel_rfl) hS0 (fun _ => ?_)
        (refine wpAnyH_take (i := 0) (v := ?_) rfl (by kernel_rfl) (by kernel_rfl) (by kernel_rfl) (fun _ _ _ h => h) (Or.inl ⟨by rfl, ?_⟩) (by assumption) ?_; rotate_left; (intro w hSw; (try dsimp only at hSw); go_simp; try with_reducible rfl); ((try simp only [List.getElem_toArray]); (try simp only [List.getElem_cons_succ]); (try simp only [List.getElem_cons_zero]); (try simp only [Act.put]); (try simp only [List.setIfInBounds_toArray]); (try simp only [List.set_cons_succ]); (try simp only [List.set_cons_zero])))
        refine wpAnyH_ready (rs := [1]) (by kernel_rfl) (by simp) ?_
        refine AllReadyH.cons rfl (fun K2 hK2 => ?_) AllReadyH.nil
        go_simp
        refine (CM.out _ hS0.1).mono ?_
        rintro e x1 ⟨rfl, hd⟩
        have hS1 : (fun X : World => Hid (Below v0.heap.size v0 X) ∧ X.cell? ⟨wr.heap.size, 0, none⟩ = some (.string s) ∧ X.cell? ⟨wr.heap.size, 1, none⟩ = some (.bool xd) ∧ X.cell? ⟨wr.heap.size, 2, none⟩ = some (.string xk)) x1 := ⟨hd, keepW hd.out y0, keepW hd.out y1, keepW hd.out y2⟩
        go_wp2_with fail
        refine hK2.out _ _ (by (try dsimp only); exact hS1) (fun _ => ?_)
        clear hK2 K2
        (try simp only [List.getElem_toArray]); (try simp only [List.getElem_cons_succ]); (try simp only [List.getElem_cons_zero]); (try simp only [Act.put]); (try simp only [List.setIfInBounds_toArray]); (try simp only [List.set_cons_succ]); (try simp only [List.set_cons_zero])
        cases qm
        · (refine wpAnyH_take (i := 2) (v := ?_) rfl (by kernel_rfl) (by kernel_rfl) (by kernel_rfl) (fun _ _ _ h => h) (Or.inl ⟨by rfl, ?_⟩) (by assumption) ?_; rotate_left; (intro w hSw; (try dsimp only at hSw); go_simp; try with_reducible rfl); ((try simp only [List.getElem_toArray]); (try simp only [List.getElem_cons_succ]); (try simp only [List.getElem_cons_zero]); (try simp only [Act.put]); (try simp only [List.setIfInBounds_toArray]); (try simp only [List.set_cons_succ]); (try simp only [List.set_cons_zero])))
          (refine wpAnyH_take (i := 3) (v := ?_) rfl (by kernel_rfl) (by kernel_rfl) (by kernel_rfl) (fun _ _ _ h => h) (Or.inl ⟨by rfl, ?_⟩) (by assumption) ?_; rotate_left; (intro w hSw; (try dsimp only at hSw); go_simp; try with_reducible rfl); ((try simp only [List.getElem_toArray]); (try simp only [List.getElem_cons_succ]); (try simp only [List.getElem_cons_zero]); (try simp only [Act.put]); (try simp only [List.setIfInBounds_toArray]); (try simp only [List.set_cons_succ]); (try simp only [List.set_cons_zero])))
          (refine wpAnyH_take (i := 4) (v := undef) rfl (by kernel_rfl) (by kernel_rfl) (by kernel_rfl) (fun _ _ _ h => h) (Or.inr ⟨by rfl, rfl⟩) (by assumption) ?_; ((try simp only [List.getElem_toArray]); (try simp only [List.getElem_cons_succ]); (try simp only [List.getElem_cons_zero]); (try simp only [Act.put]); (try simp only [List.setIfInBounds_toArray]); (try simp only [List.set_cons_succ]); (try simp only [List.set_cons_zero])))
          (refine wpAnyH_take (i := 5) (v := undef) rfl (by kernel_rfl) (by kernel_rfl) (by kernel_rfl) (fun _ _ _ h => h) (Or.inr ⟨by rfl, rfl⟩) (by assumption) ?_; ((try simp only [List.getElem_toArray]); (try simp only [List.getElem_cons_succ]); (try simp only [List.getElem_cons_zero]); (try simp only [Act.put]); (try simp only [List.setIfInBounds_toArray]); (try simp only [List.set_cons_succ]); (try simp only [List.set_cons_zero])))
          (refine wpAnyH_take (i := 6) (v := undef) rfl (by kernel_rfl) (by kernel_rfl) (by kernel_rfl) (fun _ _ _ h => h) (Or.inr ⟨by rfl, rfl⟩) (by assumption) ?_; ((try simp only [List.getElem_toArray]); (try simp only [List.getElem_cons_succ]); (try simp only [List.getElem_cons_zero]); (try simp only [Act.put]); (try simp only [List.setIfInBounds_toArray]); (try simp only [List.set_cons_succ]); (try simp only [List.set_cons_zero])))
          (refine wpAnyH_take (i := 7) (v := undef) rfl (by kernel_rfl) (by kernel_rfl) (by kernel_rfl) (fun _ _ _ h => h) (Or.inr ⟨by rfl, rfl⟩) (by assumption) ?_; ((try simp only [List.getElem_toArray]); (try simp only [List.getElem_cons_succ]); (try simp only [List.getElem_cons_zero]); (try simp only [Act.put]); (try simp only [List.setIfInBounds_toArray]); (try simp only [List.set_cons_succ]); (try simp only [List.set_cons_zero])))
          (refine wpAnyH_take (i := 8) (v := undef) rfl (by kernel_rfl) (by kernel_rfl) (by kernel_rfl) (fun _ _ _ h => h) (Or.inr ⟨by rfl, rfl⟩) (by assumption) ?_; ((try simp only [List.getElem_toArray]); (try simp only [List.getElem_cons_succ]); (try simp only [List.getElem_cons_zero]); (try simp only [Act.put]); (try simp only [List.setIfInBounds_toArray]); (try simp only [List.set_cons_succ]); (try simp only [List.set_cons_zero])))
          (refine wpAnyH_take (i := 9) (v := undef) rfl (by kernel_rfl) (by kernel_rfl) (by kernel_rfl) (fun _ _ _ h => h) (Or.inr ⟨by rfl, rfl⟩) (by assumption) ?_; ((try simp only [List.getElem_toArray]); (try simp only [List.getElem_cons_succ]); (try simp only [List.getElem_cons_zero]); (try simp only [Act.put]); (try simp only [List.setIfInBounds_toArray]); (try simp only [List.set_cons_succ]); (try simp only [List.set_cons_zero])))
          (refine wpAnyH_take (i := 10) (v := undef) rfl (by kernel_rfl) (by kernel_rfl) (by kernel_rfl) (fun _ _ _ h => h) (Or.inr ⟨by rfl, rfl⟩) (by assumption) ?_; ((try simp only [List.getElem_toArray]); (try simp only [List.getElem_cons_succ]); (try simp only [List.getElem_cons_zero]); (try simp only [Act.put]); (try simp only [List.setIfInBounds_toArray]); (try simp only [List.set_cons_succ]); (try simp only [List.set_cons_zero])))
          (refine wpAnyH_take (i := 11) (v := undef) rfl (by kernel_rfl) (by kernel_rfl) (by kernel_rfl) (fun _ _ _ h => h) (Or.inr ⟨by rfl, rfl⟩) (by assumption) ?_; ((try simp only [List.getElem_toArray]); (try simp only [List.getElem_cons_succ]); (try simp only [List.getElem_cons_zero]); (try simp only [Act.put]); (try simp only [List.setIfInBounds_toArray]); (try simp only [List.set_cons_succ]); (try simp only [List.set_cons_zero])))
          (refine wpAnyH_take (i := 12) (v := undef) rfl (by kernel_rfl) (by kernel_rfl) (by kernel_rfl) (fun _ _ _ h => h) (Or.inr ⟨by rfl, rfl⟩) (by assumption) ?_; ((try simp only [List.getElem_toArray]); (try simp only [List.getElem_cons_succ]); (try simp only [List.getElem_cons_zero]); (try simp only [Act.put]); (try simp only [List.setIfInBounds_toArray]); (try simp only [List.set_cons_succ]); (try simp only [List.set_cons_zero])))
          (refine wpAnyH_take (i := 13) (v := undef) rfl (by kernel_rfl) (by kernel_rfl) (by kernel_rfl) (fun _ _ _ h => h) (Or.inr ⟨by rfl, rfl⟩) (by assumption) ?_; ((try simp only [List.getElem_toArray]); (try simp only [List.getElem_cons_succ]); (try simp only [List.getElem_cons_zero]); (try simp only [Act.put]); (try simp only [List.setIfInBounds_toArray]); (try simp only [List.set_cons_succ]); (try simp only [List.set_cons_zero])))
          (refine wpAnyH_take (i := 14) (v := undef) rfl (by kernel_rfl) (by kernel_rfl) (by kernel_rfl) (fun _ _ _ h => h) (Or.inr ⟨by rfl, rfl⟩) (by assumption) ?_; ((try simp only [List.getElem_toArray]); (try simp only [List.getElem_cons_succ]); (try simp only [List.getElem_cons_zero]); (try simp only [Act.put]); (try simp only [List.setIfInBounds_toArray]); (try simp only [List.set_cons_succ]); (try simp only [List.set_cons_zero])))
          (refine wpAnyH_take (i := 15) (v := undef) rfl (by kernel_rfl) (by kernel_rfl) (by kernel_rfl) (fun _ _ _ h => h) (Or.inr ⟨by rfl, rfl⟩) (by assumption) ?_; ((try simp only [List.getElem_toArray]); (try simp only [List.getElem_cons_succ]); (try simp only [List.getElem_cons_zero]); (try simp only [Act.put]); (try simp only [List.setIfInBounds_toArray]); (try simp only [List.set_cons_succ]); (try simp only [List.set_cons_zero])))
          (refine wpAnyH_take (i := 16) (v := undef) rfl (by kernel_rfl) (by kernel_rfl) (by kernel_rfl) (fun _ _ _ h => h) (Or.inr ⟨by rfl, rfl⟩) (by assumption) ?_; ((try simp only [List.getElem_toArray]); (try simp only [List.getElem_cons_succ]); (try simp only [List.getElem_cons_zero]); (try simp only [Act.put]); (try simp only [List.setIfInBounds_toArray]); (try simp only [List.set_cons_succ]); (try simp only [List.set_cons_zero])))
          (refine wpAnyH_take (i := 17) (v := ?_) rfl (by kernel_rfl) (by kernel_rfl) (by kernel_rfl) (fun _ _ _ h => h) (Or.inl ⟨by rfl, ?_⟩) (by assumption) ?_; rotate_left; (intro w hSw; (try dsimp only at hSw); go_simp; try with_reducible rfl); ((try simp only [List.getElem_toArray]); (try simp only [List.getElem_cons_succ]); (try simp only [List.getElem_cons_zero]); (try simp only [Act.put]); (try simp only [List.setIfInBounds_toArray]); (try simp only [List.set_cons_succ]); (try simp only [List.set_cons_zero])))
          refine wpAnyH_done (by kernel_rfl) ?_ _
          go_wp2_with fail
          go_ret
          exact ⟨by rw [HRF.out, HNO.out (HTK.out.trans (by rfl))]; rfl, HB0.out.trans (hd.out.mono HB0.out.size)⟩
        · (refine wpAnyH_take (i := 2) (v := ?_) rfl (by kernel_rfl) (by kernel_rfl) (by kernel_rfl) (fun _ _ _ h => h) (Or.inl ⟨by rfl, ?_⟩) (by assumption) ?_; rotate_left; (intro w hSw; (try dsimp only at hSw); go_simp; try with_reducible rfl); ((try simp only [List.getElem_toArray]); (try simp only [List.getElem_cons_succ]); (try simp only [List.getElem_cons_zero]); (try simp only [Act.put]); (try simp only [List.setIfInBounds_toArray]); (try simp only [List.set_cons_succ]); (try simp only [List.set_cons_zero])))
          (refine wpAnyH_take (i := 3) (v := ?_) rfl (by kernel_rfl) (by kernel_rfl) (by kernel_rfl) (fun _ _ _ h => h) (Or.inl ⟨by rfl, ?_⟩) (by assumption) ?_; rotate_left; (intro w hSw; (try dsimp only at hSw); go_simp; try with_reducible rfl); ((try simp only [List.getElem_toArray]); (try simp only [List.getElem_cons_succ]); (try simp only [List.getElem_cons_zero]); (try simp only [Act.put]); (try simp only [List.setIfInBounds_toArray]); (try simp only [List.set_cons_succ]); (try simp only [List.set_cons_zero])))
          (refine wpAnyH_take (i := 4) (v := ?_) rfl (by kernel_rfl) (by kernel_rfl) (by kernel_rfl) (fun _ _ _ h => h) (Or.inl ⟨by rfl, ?_⟩) (by assumption) ?_; rotate_left; (intro w hSw; (try dsimp only at hSw); go_simp; try with_reducible rfl); ((try simp only [List.getElem_toArray]); (try simp only [List.getElem_cons_succ]); (try simp only [List.getElem_cons_zero]); (try simp only [Act.put]); (try simp only [List.setIfInBounds_toArray]); (try simp only [List.set_cons_succ]); (try simp only [List.set_cons_zero])))
          (refine wpAnyH_take (i := 5) (v := ?_) rfl (by kernel_rfl) (by kernel_rfl) (by kernel_rfl) (fun _ _ _ h => h) (Or.inl ⟨by rfl, ?_⟩) (by assumption) ?_; rotate_left; (intro w hSw; (try dsimp only at hSw); go_simp; try with_reducible rfl); ((try simp only [List.getElem_toArray]); (try simp only [List.getElem_cons_succ]); (try simp only [List.getElem_cons_zero]); (try simp only [Act.put]); (try simp only [List.setIfInBounds_toArray]); (try simp only [List.set_cons_succ]); (try simp only [List.set_cons_zero])))
          (refine wpAnyH_take (i := 6) (v := ?_) rfl (by kernel_rfl) (by kernel_rfl) (by kernel_rfl) (fun _ _ _ h => h) (Or.inl ⟨by rfl, ?_⟩) (by assumption) ?_; rotate_left; (intro w hSw; (try dsimp only at hSw); go_simp; try with_reducible rfl); ((try simp only [List.getElem_toArray]); (try simp only [List.getElem_cons_succ]); (try simp only [List.getElem_cons_zero]); (try simp only [Act.put]); (try simp only [List.setIfInBounds_toArray]); (try simp only [List.set_cons_succ]); (try simp only [List.set_cons_zero])))
          (refine wpAnyH_take (i := 7) (v := undef) rfl (by kernel_rfl) (by kernel_rfl) (by kernel_rfl) (fun _ _ _ h => h) (Or.inr ⟨by rfl, rfl⟩) (by assumption) ?_; ((try simp only [List.getElem_toArray]); (try simp only [List.getElem_cons_succ]); (try simp only [List.getElem_cons_zero]); (try simp only [Act.put]); (try simp only [List.setIfInBounds_toArray]); (try simp only [List.set_cons_succ]); (try simp only [List.set_cons_zero])))
          (refine wpAnyH_take (i := 8) (v := undef) rfl (by kernel_rfl) (by kernel_rfl) (by kernel_rfl) (fun _ _ _ h => h) (Or.inr ⟨by rfl, rfl⟩) (by assumption) ?_; ((try simp only [List.getElem_toArray]); (try simp only [List.getElem_cons_succ]); (try simp only [List.getElem_cons_zero]); (try simp only [Act.put]); (try simp only [List.setIfInBounds_toArray]); (try simp only [List.set_cons_succ]); (try simp only [List.set_cons_zero])))
          (refine wpAnyH_take (i := 9) (v := undef) rfl (by kernel_rfl) (by kernel_rfl) (by kernel_rfl) (fun _ _ _ h => h) (Or.inr ⟨by rfl, rfl⟩) (by assumption) ?_; ((try simp only [List.getElem_toArray]); (try simp only [List.getElem_cons_succ]); (try simp only [List.getElem_cons_zero]); (try simp only [Act.put]); (try simp only [List.setIfInBounds_toArray]); (try simp only [List.set_cons_succ]); (try simp only [List.set_cons_zero])))
          (refine wpAnyH_take (i := 10) (v := undef) rfl (by kernel_rfl) (by kernel_rfl) (by kernel_rfl) (fun _ _ _ h => h) (Or.inr ⟨by rfl, rfl⟩) (by assumption) ?_; ((try simp only [List.getElem_toArray]); (try simp only [List.getElem_cons_succ]); (try simp only [List.getElem_cons_zero]); (try simp only [Act.put]); (try simp only [List.setIfInBounds_toArray]); (try simp only [List.set_cons_succ]); (try simp only [List.set_cons_zero])))
          (refine wpAnyH_take (i := 11) (v := undef) rfl (by kernel_rfl) (by kernel_rfl) (by kernel_rfl) (fun _ _ _ h => h) (Or.inr ⟨by rfl, rfl⟩) (by assumption) ?_; ((try simp only [List.getElem_toArray]); (try simp only [List.getElem_cons_succ]); (try simp only [List.getElem_cons_zero]); (try simp only [Act.put]); (try simp only [List.setIfInBounds_toArray]); (try simp only [List.set_cons_succ]); (try simp only [List.set_cons_zero])))
          (refine wpAnyH_take (i := 12) (v := undef) rfl (by kernel_rfl) (by kernel_rfl) (by kernel_rfl) (fun _ _ _ h => h) (Or.inr ⟨by rfl, rfl⟩) (by assumption) ?_; ((try simp only [List.getElem_toArray]); (try simp only [List.getElem_cons_succ]); (try simp only [List.getElem_cons_zero]); (try simp only [Act.put]); (try simp only [List.setIfInBounds_toArray]); (try simp only [List.set_cons_succ]); (try simp only [List.set_cons_zero])))
          (refine wpAnyH_take (i := 13) (v := undef) rfl (by kernel_rfl) (by kernel_rfl) (by kernel_rfl) (fun _ _ _ h => h) (Or.inr ⟨by rfl, rfl⟩) (by assumption) ?_; ((try simp only [List.getElem_toArray]); (try simp only [List.getElem_cons_succ]); (try simp only [List.getElem_cons_zero]); (try simp only [Act.put]); (try simp only [List.setIfInBounds_toArray]); (try simp only [List.set_cons_succ]); (try simp only [List.set_cons_zero])))
          (refine wpAnyH_take (i := 14) (v := undef) rfl (by kernel_rfl) (by kernel_rfl) (by kernel_rfl) (fun _ _ _ h => h) (Or.inr ⟨by rfl, rfl⟩) (by assumption) ?_; ((try simp only [List.getElem_toArray]); (try simp only [List.getElem_cons_succ]); (try simp only [List.getElem_cons_zero]); (try simp only [Act.put]); (try simp only [List.setIfInBounds_toArray]); (try simp only [List.set_cons_succ]); (try simp only [List.set_cons_zero])))
          (refine wpAnyH_take (i := 15) (v := undef) rfl (by kernel_rfl) (by kernel_rfl) (by kernel_rfl) (fun _ _ _ h => h) (Or.inr ⟨by rfl, rfl⟩) (by assumption) ?_; ((try simp only [List.getElem_toArray]); (try simp only [List.getElem_cons_succ]); (try simp only [List.getElem_cons_zero]); (try simp only [Act.put]); (try simp only [List.setIfInBounds_toArray]); (try simp only [List.set_cons_succ]); (try simp only [List.set_cons_zero])))
          (refine wpAnyH_take (i := 16) (v := ?_) rfl (by kernel_rfl) (by kernel_rfl) (by kernel_rfl) (fun _ _ _ h => h) (Or.inl ⟨by rfl, ?_⟩) (by assumption) ?_; rotate_left; (intro w hSw; (try dsimp only at hSw); go_simp; try with_reducible rfl); ((try simp only [List.getElem_toArray]); (try simp only [List.getElem_cons_succ]); (try simp only [List.getElem_cons_zero]); (try simp only [Act.put]); (try simp only [List.setIfInBounds_toArray]); (try simp only [List.set_cons_succ]); (try simp only [List.set_cons_zero])))
          (refine wpAnyH_take (i := 17) (v := ?_) rfl (by kernel_rfl) (by kernel_rfl) (by kernel_rfl) (fun _ _ _ h => h) (Or.inl ⟨by rfl, ?_⟩) (by assumption) ?_; rotate_left; (intro w hSw; (try dsimp only at hSw); go_simp; try with_reducible rfl); ((try simp only [List.getElem_toArray]); (try simp only [List.getElem_cons_succ]); (try simp only [List.getElem_cons_zero]); (try simp only [Act.put]); (try simp only [List.setIfInBounds_toArray]); (try simp only [List.set_cons_succ]); (try simp only [List.set_cons_zero])))
          refine wpAnyH_done (by kernel_rfl) ?_ _
          go_wp2_with fail
          go_roundw
          case rel => exact ⟨k + 1, by omega, by go_num, by show _ = _; rw [HOK.out, HT.out, HTK.out]; rfl, HB0.out.trans (hd.out.mono HB0.out.size)⟩
          case measure => simp [intOf]; omega
    · obtain rfl : k = n := by omega
      go_wp2_with fail
      go_ret
      exact ⟨by rw [HRF.out, HT.out]; rfl, HB⟩
end Go.Proofs.YtlhfdhmmdnkojaaGreatDoor
namespace Go.Proofs.YtlhfdhmmdnkojaaGreatDoor
open Go.RowKit Dg
set_option maxRecDepth 100000
/-- The first 40 bytes. -/
def nm40 (s : ByteArray) : ByteArray := if 40 < s.size then s.extract 0 40 else s
/-- A work of short texts; the first k of works so. -/
def Wk.few (x : Wk) : Wk := ⟨nm40 x.t, x.d, nm40 x.k⟩
/-- All texts of works are short. -/
def Short (L : List Wk) : Prop := ∀ x ∈ L, x.t.size ≤ 40 ∧ x.k.size ≤ 40
/-- Are two works the same? -/
def Wk.eqb (x y : Wk) : Bool := x.t.toList == y.t.toList && x.d == y.d && x.k.toList == y.k.toList
theorem ytoList_inj {s t : ByteArray} (h : s.toList = t.toList) : s = t := by
  rw [ByteArray.toList_eq, ByteArray.toList_eq] at h
  obtain ⟨⟨a⟩⟩ := s
  obtain ⟨⟨b⟩⟩ := t
  simp at h
  rw [h]
theorem Wk.eqb_self (x : Wk) : x.eqb x = true := by simp [Wk.eqb]
theorem Wk.eqb_iff (x y : Wk) : x.eqb y = true ↔ x = y := by
  constructor
  · intro h
    simp only [Wk.eqb, Bool.and_eq_true, beq_iff_eq] at h
    obtain ⟨⟨h1, h2⟩, h3⟩ := h
    obtain ⟨xt, xd, xk⟩ := x
    obtain ⟨yt, yd, yk⟩ := y
    simp only at h1 h2 h3
    rw [ytoList_inj h1, h2, ytoList_inj h3]
  · rintro rfl; exact Wk.eqb_self x
def sameTo (L M : List Wk) (k : Nat) : Bool := (List.range k).all fun i => match L[i]?, M[i]? with | some x, some y => x.eqb y | _, _ => true
def sameW (L M : List Wk) : Bool := decide (L.length = M.length) && sameTo L M L.length
theorem sameTo_succ {L M : List Wk} {k : Nat} (h : k < L.length) (h2 : k < M.length) : sameTo L M (k + 1) = (sameTo L M k && L[k].eqb M[k]) := by
  unfold sameTo; rw [List.range_succ, List.all_append]
  simp [List.getElem?_eq_getElem h, List.getElem?_eq_getElem h2]
theorem sameTo_false {L M : List Wk} {k : Nat} (h : k < L.length) (h2 : k < M.length) (he : L[k].eqb M[k] = false) : sameTo L M L.length = false := by
  unfold sameTo; rw [List.all_eq_false]
  exact ⟨k, List.mem_range.2 h, by simp [List.getElem?_eq_getElem h, List.getElem?_eq_getElem h2, he]⟩
theorem sameW_self (L : List Wk) : sameW L L = true := by
  unfold sameW sameTo
  simp only [decide_true, Bool.true_and]
  rw [List.all_eq_true]
  intro i hi
  rw [List.getElem?_eq_getElem (List.mem_range.1 hi)]
  exact Wk.eqb_self _
set_option maxHeartbeats 4000000 in
theorem sameW_any {B B' : Nat} {v v' : Value} {L M : List Wk} (w : World) (h : OwnW B w v L) (h' : OwnW B' w v' M) (hl : L.length ≤ 1000) :
    Calls Tryz.prog 90 #[v, v'] w fun e w' => e = .returned (.bool (sameW L M)) ∧ Hid (Below w.heap.size w w') := by
  have eq := eqW
  obtain ⟨A, n, c, rfl, HN, hc, hm, HA, _⟩ := ownW_open h
  obtain ⟨A', n', c', rfl, HN', hc', hm', HA', _⟩ := ownW_open h'
  have hs : sameW L M = (decide (n = n') && sameTo L M n) := by unfold sameW; rw [HN.out, HN'.out]
  have HS := Lib.hid hs
  obtain ⟨q, hq⟩ : ∃ q, sameW L M = q := ⟨_, rfl⟩
  rw [hq] at HS ⊢
  clear h h' hs hq
  unfold maxLen at hm hm'
  by_cases he : n = n'
  · subst he
    rw [decide_eq_true rfl, Bool.true_and] at HS
    go_enter Tryz.func90, Tryz.ntmps90
    go_wp2_with fail
    go_loopw [5] (fun i wr => ∃ k : Nat, k ≤ n ∧ i = .int .i64 k ∧ Hid (sameTo L M k = true) ∧ Hid (Below w.heap.size w wr)) (fun i _ => n - (intOf i).toNat)
    case atStart => exact ⟨0, by omega, rfl, rfl, Below.refl _ _⟩
    case round =>
      obtain ⟨k, hk, rfl, HT, HB⟩ := hrel
      by_cases hlt : k < n
      · have hkl : k < L.length := by rw [HN.out]; exact hlt
        have hkm : k < M.length := by rw [HN'.out]; exact hlt
        obtain ⟨b, off, rfl, hc0⟩ := (HA.out.below HB.out) (by intro e; rw [e] at hkl; simp at hkl)
        obtain ⟨b', off', rfl, hc0'⟩ := (HA'.out.below HB.out) (by intro e; rw [e] at hkm; simp at hkm)
        obtain ⟨x0, x1, x2⟩ := hc0 k hkl
        obtain ⟨y0, y1, y2⟩ := hc0' k hkm
        have HOK := Lib.hid (sameTo_succ hkl hkm)
        have HNO : Hid (L[k].eqb M[k] = false → sameTo L M n = false) := fun h => by rw [← HN.out]; exact sameTo_false hkl hkm h
        have hkz : (k : Int) < (n : Int) := by omega
        clear hc0 hc0'
        generalize L[k] = x at *
        generalize M[k] = y at *
        obtain ⟨xt, xd, xk⟩ := x
        obtain ⟨yt, yd, yk⟩ := y
        simp only at x0 x1 x2 y0 y1 y2
        have HEQ : Hid ((⟨xt, xd, xk⟩ : Wk).eqb ⟨yt, yd, yk⟩ = (xt.toList == yt.toList && xd == yd && xk.toList == yk.toList)) := rfl
        obtain ⟨qq, hqq⟩ : ∃ q, (xt.toList == yt.toList && xd == yd && xk.toList == yk.toList) = q := ⟨_, rfl⟩
        have eq2 := fun w => eqW xt yt xk yk xd yd w
        simp only [hqq] at eq2
        rw [hqq] at HEQ
        rw [HEQ.out] at HOK HNO
        clear eq hqq HEQ
        cases qq
        · go_wp2_with fail
          have hS0 : (fun X : World => (X.cell? ⟨b, off + k * 3, none⟩ = some (.string xt) ∧ X.cell? ⟨b, off + k * 3 + 1, none⟩ = some (.bool xd) ∧ X.cell? ⟨b, off + k * 3 + 2, none⟩ = some (.string xk)) ∧ X.cell? ⟨b', off' + k * 3, none⟩ = some (.string yt) ∧ X.cell? ⟨b', off' + k * 3 + 1, none⟩ = some (.bool yd) ∧ X.cell? ⟨b', off' + k * 3 + 2, none⟩ = some (.string yk)) wr.drew := ⟨⟨x0, x1, x2⟩, y0, y1, y2⟩
          refine wp_region_held_drew (S := (fun X : World => (X.cell? ⟨b, off + k * 3, none⟩ = some (.string xt) ∧ X.cell? ⟨b, off + k * 3 + 1, none⟩ = some (.bool xd) ∧ X.cell? ⟨b, off + k * 3 + 2, none⟩ = some (.string xk)) ∧ X.cell? ⟨b', off' + k * 3, none⟩ = some (.string yt) ∧ X.cell? ⟨b', off' + k * 3 + 1, none⟩ = some (.bool yd) ∧ X.cell? ⟨b', off' + k * 3 + 2, none⟩ = some (.string yk))) (by kernel_rfl) hS0 (fun _ => ?_)
          (refine wpAnyH_take (i := 0) (v := ?_) rfl (by kernel_rfl) (by kernel_rfl) (by kernel_rfl) (fun _ _ _ h => h) (Or.inl ⟨by rfl, ?_⟩) (by assumption) ?_; rotate_left; (intro w hSw; (try dsimp only at hSw); go_simp; try with_reducible rfl); ((try simp only [List.getElem_toArray]); (try simp only [List.getElem_cons_succ]); (try simp only [List.getElem_cons_zero]); (try simp only [Act.put]); (try simp only [List.setIfInBounds_toArray]); (try simp only [List.set_cons_succ]); (try simp only [List.set_cons_zero])))
          (refine wpAnyH_take (i := 1) (v := ?_) rfl (by kernel_rfl) (by kernel_rfl) (by kernel_rfl) (fun _ _ _ h => h) (Or.inl ⟨by rfl, ?_⟩) (by assumption) ?_; rotate_left; (intro w hSw; (try dsimp only at hSw); go_simp; try with_reducible rfl); ((try simp only [List.getElem_toArray]); (try simp only [List.getElem_cons_succ]); (try simp only [List.getElem_cons_zero]); (try simp only [Act.put]); (try simp only [List.setIfInBounds_toArray]); (try simp only [List.set_cons_succ]); (try simp only [List.set_cons_zero])))
          (refine wpAnyH_take (i := 2) (v := ?_) rfl (by kernel_rfl) (by kernel_rfl) (by kernel_rfl) (fun _ _ _ h => h) (Or.inl ⟨by rfl, ?_⟩) (by assumption) ?_; rotate_left; (intro w hSw; (try dsimp only at hSw); go_simp; try with_reducible rfl); ((try simp only [List.getElem_toArray]); (try simp only [List.getElem_cons_succ]); (try simp only [List.getElem_cons_zero]); (try simp only [Act.put]); (try simp only [List.setIfInBounds_toArray]); (try simp only [List.set_cons_succ]); (try simp only [List.set_cons_zero])))
          (refine wpAnyH_take (i := 3) (v := ?_) rfl (by kernel_rfl) (by kernel_rfl) (by kernel_rfl) (fun _ _ _ h => h) (Or.inl ⟨by rfl, ?_⟩) (by assumption) ?_; rotate_left; (intro w hSw; (try dsimp only at hSw); go_simp; try with_reducible rfl); ((try simp only [List.getElem_toArray]); (try simp only [List.getElem_cons_succ]); (try simp only [List.getElem_cons_zero]); (try simp only [Act.put]); (try simp only [List.setIfInBounds_toArray]); (try simp only [List.set_cons_succ]); (try simp only [List.set_cons_zero])))
          (refine wpAnyH_take (i := 4) (v := ?_) rfl (by kernel_rfl) (by kernel_rfl) (by kernel_rfl) (fun _ _ _ h => h) (Or.inl ⟨by rfl, ?_⟩) (by assumption) ?_; rotate_left; (intro w hSw; (try dsimp only at hSw); go_simp; try with_reducible rfl); ((try simp only [List.getElem_toArray]); (try simp only [List.getElem_cons_succ]); (try simp only [List.getElem_cons_zero]); (try simp only [Act.put]); (try simp only [List.setIfInBounds_toArray]); (try simp only [List.set_cons_succ]); (try simp only [List.set_cons_zero])))
          (refine wpAnyH_take (i := 5) (v := ?_) rfl (by kernel_rfl) (by kernel_rfl) (by kernel_rfl) (fun _ _ _ h => h) (Or.inl ⟨by rfl, ?_⟩) (by assumption) ?_; rotate_left; (intro w hSw; (try dsimp only at hSw); go_simp; try with_reducible rfl); ((try simp only [List.getElem_toArray]); (try simp only [List.getElem_cons_succ]); (try simp only [List.getElem_cons_zero]); (try simp only [Act.put]); (try simp only [List.setIfInBounds_toArray]); (try simp only [List.set_cons_succ]); (try simp only [List.set_cons_zero])))
          (refine wpAnyH_take (i := 6) (v := ?_) rfl (by kernel_rfl) (by kernel_rfl) (by kernel_rfl) (fun _ _ _ h => h) (Or.inl ⟨by rfl, ?_⟩) (by assumption) ?_; rotate_left; (intro w hSw; (try dsimp only at hSw); go_simp; try with_reducible rfl); ((try simp only [List.getElem_toArray]); (try simp only [List.getElem_cons_succ]); (try simp only [List.getElem_cons_zero]); (try simp only [Act.put]); (try simp only [List.setIfInBounds_toArray]); (try simp only [List.set_cons_succ]); (try simp only [List.set_cons_zero])))
          (refine wpAnyH_take (i := 7) (v := ?_) rfl (by kernel_rfl) (by kernel_rfl) (by kernel_rfl) (fun _ _ _ h => h) (Or.inl ⟨by rfl, ?_⟩) (by assumption) ?_; rotate_left; (intro w hSw; (try dsimp only at hSw); go_simp; try with_reducible rfl); ((try simp only [List.getElem_toArray]); (try simp only [List.getElem_cons_succ]); (try simp only [List.getElem_cons_zero]); (try simp only [Act.put]); (try simp only [List.setIfInBounds_toArray]); (try simp only [List.set_cons_succ]); (try simp only [List.set_cons_zero])))
          (refine wpAnyH_take (i := 8) (v := ?_) rfl (by kernel_rfl) (by kernel_rfl) (by kernel_rfl) (fun _ _ _ h => h) (Or.inl ⟨by rfl, ?_⟩) (by assumption) ?_; rotate_left; (intro w hSw; (try dsimp only at hSw); go_simp; try with_reducible rfl); ((try simp only [List.getElem_toArray]); (try simp only [List.getElem_cons_succ]); (try simp only [List.getElem_cons_zero]); (try simp only [Act.put]); (try simp only [List.setIfInBounds_toArray]); (try simp only [List.set_cons_succ]); (try simp only [List.set_cons_zero])))
          refine wpAnyH_done (by kernel_rfl) ?_ _
          go_wp2_with fail
          go_ret
          exact ⟨by rw [HS.out, HNO.out (by first | rfl | exact True.intro)]; rfl, HB.out.drew⟩
        · go_wp2_with fail
          have hS0 : (fun X : World => (X.cell? ⟨b, off + k * 3, none⟩ = some (.string xt) ∧ X.cell? ⟨b, off + k * 3 + 1, none⟩ = some (.bool xd) ∧ X.cell? ⟨b, off + k * 3 + 2, none⟩ = some (.string xk)) ∧ X.cell? ⟨b', off' + k * 3, none⟩ = some (.string yt) ∧ X.cell? ⟨b', off' + k * 3 + 1, none⟩ = some (.bool yd) ∧ X.cell? ⟨b', off' + k * 3 + 2, none⟩ = some (.string yk)) wr.drew := ⟨⟨x0, x1, x2⟩, y0, y1, y2⟩
          refine wp_region_held_drew (S := (fun X : World => (X.cell? ⟨b, off + k * 3, none⟩ = some (.string xt) ∧ X.cell? ⟨b, off + k * 3 + 1, none⟩ = some (.bool xd) ∧ X.cell? ⟨b, off + k * 3 + 2, none⟩ = some (.string xk)) ∧ X.cell? ⟨b', off' + k * 3, none⟩ = some (.string yt) ∧ X.cell? ⟨b', off' + k * 3 + 1, none⟩ = some (.bool yd) ∧ X.cell? ⟨b', off' + k * 3 + 2, none⟩ = some (.string yk))) (by kernel_rfl) hS0 (fun _ => ?_)
          (refine wpAnyH_take (i := 0) (v := ?_) rfl (by kernel_rfl) (by kernel_rfl) (by kernel_rfl) (fun _ _ _ h => h) (Or.inl ⟨by rfl, ?_⟩) (by assumption) ?_; rotate_left; (intro w hSw; (try dsimp only at hSw); go_simp; try with_reducible rfl); ((try simp only [List.getElem_toArray]); (try simp only [List.getElem_cons_succ]); (try simp only [List.getElem_cons_zero]); (try simp only [Act.put]); (try simp only [List.setIfInBounds_toArray]); (try simp only [List.set_cons_succ]); (try simp only [List.set_cons_zero])))
          (refine wpAnyH_take (i := 1) (v := ?_) rfl (by kernel_rfl) (by kernel_rfl) (by kernel_rfl) (fun _ _ _ h => h) (Or.inl ⟨by rfl, ?_⟩) (by assumption) ?_; rotate_left; (intro w hSw; (try dsimp only at hSw); go_simp; try with_reducible rfl); ((try simp only [List.getElem_toArray]); (try simp only [List.getElem_cons_succ]); (try simp only [List.getElem_cons_zero]); (try simp only [Act.put]); (try simp only [List.setIfInBounds_toArray]); (try simp only [List.set_cons_succ]); (try simp only [List.set_cons_zero])))
          (refine wpAnyH_take (i := 2) (v := ?_) rfl (by kernel_rfl) (by kernel_rfl) (by kernel_rfl) (fun _ _ _ h => h) (Or.inl ⟨by rfl, ?_⟩) (by assumption) ?_; rotate_left; (intro w hSw; (try dsimp only at hSw); go_simp; try with_reducible rfl); ((try simp only [List.getElem_toArray]); (try simp only [List.getElem_cons_succ]); (try simp only [List.getElem_cons_zero]); (try simp only [Act.put]); (try simp only [List.setIfInBounds_toArray]); (try simp only [List.set_cons_succ]); (try simp only [List.set_cons_zero])))
          (refine wpAnyH_take (i := 3) (v := ?_) rfl (by kernel_rfl) (by kernel_rfl) (by kernel_rfl) (fun _ _ _ h => h) (Or.inl ⟨by rfl, ?_⟩) (by assumption) ?_; rotate_left; (intro w hSw; (try dsimp only at hSw); go_simp; try with_reducible rfl); ((try simp only [List.getElem_toArray]); (try simp only [List.getElem_cons_succ]); (try simp only [List.getElem_cons_zero]); (try simp only [Act.put]); (try simp only [List.setIfInBounds_toArray]); (try simp only [List.set_cons_succ]); (try simp only [List.set_cons_zero])))
          (refine wpAnyH_take (i := 4) (v := ?_) rfl (by kernel_rfl) (by kernel_rfl) (by kernel_rfl) (fun _ _ _ h => h) (Or.inl ⟨by rfl, ?_⟩) (by assumption) ?_; rotate_left; (intro w hSw; (try dsimp only at hSw); go_simp; try with_reducible rfl); ((try simp only [List.getElem_toArray]); (try simp only [List.getElem_cons_succ]); (try simp only [List.getElem_cons_zero]); (try simp only [Act.put]); (try simp only [List.setIfInBounds_toArray]); (try simp only [List.set_cons_succ]); (try simp only [List.set_cons_zero])))
          (refine wpAnyH_take (i := 5) (v := ?_) rfl (by kernel_rfl) (by kernel_rfl) (by kernel_rfl) (fun _ _ _ h => h) (Or.inl ⟨by rfl, ?_⟩) (by assumption) ?_; rotate_left; (intro w hSw; (try dsimp only at hSw); go_simp; try with_reducible rfl); ((try simp only [List.getElem_toArray]); (try simp only [List.getElem_cons_succ]); (try simp only [List.getElem_cons_zero]); (try simp only [Act.put]); (try simp only [List.setIfInBounds_toArray]); (try simp only [List.set_cons_succ]); (try simp only [List.set_cons_zero])))
          (refine wpAnyH_take (i := 6) (v := ?_) rfl (by kernel_rfl) (by kernel_rfl) (by kernel_rfl) (fun _ _ _ h => h) (Or.inl ⟨by rfl, ?_⟩) (by assumption) ?_; rotate_left; (intro w hSw; (try dsimp only at hSw); go_simp; try with_reducible rfl); ((try simp only [List.getElem_toArray]); (try simp only [List.getElem_cons_succ]); (try simp only [List.getElem_cons_zero]); (try simp only [Act.put]); (try simp only [List.setIfInBounds_toArray]); (try simp only [List.set_cons_succ]); (try simp only [List.set_cons_zero])))
          (refine wpAnyH_take (i := 7) (v := ?_) rfl (by kernel_rfl) (by kernel_rfl) (by kernel_rfl) (fun _ _ _ h => h) (Or.inl ⟨by rfl, ?_⟩) (by assumption) ?_; rotate_left; (intro w hSw; (try dsimp only at hSw); go_simp; try with_reducible rfl); ((try simp only [List.getElem_toArray]); (try simp only [List.getElem_cons_succ]); (try simp only [List.getElem_cons_zero]); (try simp only [Act.put]); (try simp only [List.setIfInBounds_toArray]); (try simp only [List.set_cons_succ]); (try simp only [List.set_cons_zero])))
          (refine wpAnyH_take (i := 8) (v := ?_) rfl (by kernel_rfl) (by kernel_rfl) (by kernel_rfl) (fun _ _ _ h => h) (Or.inl ⟨by rfl, ?_⟩) (by assumption) ?_; rotate_left; (intro w hSw; (try dsimp only at hSw); go_simp; try with_reducible rfl); ((try simp only [List.getElem_toArray]); (try simp only [List.getElem_cons_succ]); (try simp only [List.getElem_cons_zero]); (try simp only [Act.put]); (try simp only [List.setIfInBounds_toArray]); (try simp only [List.set_cons_succ]); (try simp only [List.set_cons_zero])))
          refine wpAnyH_done (by kernel_rfl) ?_ _
          go_wp2_with fail
          go_roundw
          case rel => exact ⟨k + 1, by omega, by go_num, by show _ = _; rw [HOK.out, HT.out]; rfl, HB.out.drew⟩
          case measure => simp [intOf]; omega
      · obtain rfl : k = n := by omega
        go_wp2_with fail
        go_ret
        exact ⟨by rw [HS.out, HT.out]; rfl, HB⟩
  · rw [decide_eq_false he, Bool.false_and] at HS
    have hz : ¬ ((n : Int) = (n' : Int)) := by omega
    go_enter Tryz.func90, Tryz.ntmps90
    go_wp2_with fail
    go_ret
    exact ⟨by rw [HS.out]; rfl, Below.refl _ _⟩
end Go.Proofs.YtlhfdhmmdnkojaaGreatDoor
namespace Go.Proofs.YtlhfdhmmdnkojaaGreatDoor
open Go.RowKit Dg
set_option maxRecDepth 100000
/-- What a good work is. -/
def GoodK (x : Wk) : Prop := nameF x.t = true ∧ (x.k = ⟨#[]⟩ ∨ x.d = false ∧ ∃ m : Nat, m < 9 ∧ x.k = kI (m : Nat))
theorem GoodK.may {x : Wk} (h : GoodK x) : mayW x = true := by
  unfold mayW
  rw [h.1]
  rcases h.2 with h | ⟨hd, m, hm, h⟩
  · rw [h]; simp [ByteArray.size]
  · rw [hd, h, show isKeyB (kI (m : Nat)) = true from isKeyB_int _ (by omega) (by omega)]; simp
end Go.Proofs.YtlhfdhmmdnkojaaGreatDoor
namespace Go.Proofs.YtlhfdhmmdnkojaaGreatDoor
open Go.RowKit Dg
set_option maxRecDepth 100000
/-- What stands while a value's bytes are read: the values so far, and the box of the one that is read. -/
structure VSt (w wr W : World) (u : Value) (acc : List Vl) (k n : Int) (t : ByteArray) : Prop where
  own : OwnV w.heap.size W u acc
  bel : Below w.heap.size w W
  box : Has W wr.heap.size 113 #[.int .i64 k, .int .i64 n, .string t]
  low : ∀ g cap m, u = .slice (some ⟨g, 0, none⟩) m cap → g < wr.heap.size
  big : wr.heap.size + 1 ≤ W.heap.size
  base : w.heap.size ≤ wr.heap.size
section
variable {w wr W W' : World} {u : Value} {acc : List Vl} {k n : Int} {t : ByteArray}
theorem VSt.below (h : VSt w wr W u acc k n t) (hb : Below (wr.heap.size + 1) W W') : VSt w wr W' u acc k n t := by
  refine ⟨?_, h.bel.trans (hb.mono (by have := h.base; omega)), h.box.below hb (by omega), h.low, Nat.le_trans h.big hb.size, h.base⟩
  rcases h.own.2 with ⟨hv, hn⟩ | ⟨g, cap, cur, hv, hg, hh, hc, hcm, hsz, ht⟩
  · exact ⟨h.own.1, .inl ⟨hv, hn⟩⟩
  · exact ⟨h.own.1, .inr ⟨g, cap, cur, hv, hg, Has.below (t := 113) (cs := cur) hh hb (by have := h.low g cap _ hv; omega), hc, hcm, hsz, ht⟩⟩
theorem VSt.c0 (h : VSt w wr W u acc k n t) : W.cell? ⟨wr.heap.size, 0, none⟩ = some (.int .i64 k) := h.box.cell 0
theorem VSt.c1 (h : VSt w wr W u acc k n t) : W.cell? ⟨wr.heap.size, 1, none⟩ = some (.int .i64 n) := h.box.cell 1
theorem VSt.c2 (h : VSt w wr W u acc k n t) : W.cell? ⟨wr.heap.size, 2, none⟩ = some (.string t) := h.box.cell 2
end
end Go.Proofs.YtlhfdhmmdnkojaaGreatDoor
namespace Go.Proofs.YtlhfdhmmdnkojaaGreatDoor
open Go.RowKit Dg
set_option maxRecDepth 100000
/-- What stands while Good goes on. -/
structure GSw (w wr : World) (u : Value) (T : List Wk) : Prop where
  own : OwnW (w.heap.size + 1) wr u T
  bel : Below w.heap.size w wr
  pool : Has wr w.heap.size 9 #[.string ⟨#[116]⟩, .string ⟨#[117]⟩, .string ⟨#[118]⟩, .string ⟨#[119]⟩]
  big : w.heap.size + 1 ≤ wr.heap.size
theorem GSw.grown {w wr w' : World} {u u' : Value} {T T' : List Wk} (h : GSw w wr u T) (ho : OwnW wr.heap.size w' u' T') (hb : Below wr.heap.size wr w') : GSw w w' u' T' :=
  ⟨ownW_down ho h.big, h.bel.trans (hb.mono h.bel.size), h.pool.below hb h.pool.lt, Nat.le_trans h.big hb.size⟩
theorem GSw.below {w wr w' : World} {u : Value} {T : List Wk} (h : GSw w wr u T) (hb : Below wr.heap.size wr w') : GSw w w' u T :=
  ⟨h.own.below hb, h.bel.trans (hb.mono h.bel.size), h.pool.below hb h.pool.lt, Nat.le_trans h.big hb.size⟩
theorem GSw.put {w wr : World} {g n c : Nat} {T : List Wk} (h : GSw w wr (.slice (some ⟨g, 0, none⟩) n c) T) (i : Nat) (hi : i < T.length) (j : Nat) (hj : j < 3) (v : Value) (x : Wk) (hx : x.row = T[i].row.set j v) :
    wr.frozen? ⟨g, i * 3 + j, none⟩ = false ∧ GSw w (wr.setCell ⟨g, i * 3 + j, none⟩ v) (.slice (some ⟨g, 0, none⟩) n c) (T.set i x) := by
  obtain ⟨h1, h2, h3⟩ := ownW_put2 h.own i hi j hj v x hx
  refine ⟨h2, h3, h.bel.setCell (by show w.heap.size ≤ g; omega) _, h.pool.far (by show w.heap.size ≠ g; omega) _, by rw [size_set]; exact h.big⟩
end Go.Proofs.YtlhfdhmmdnkojaaGreatDoor
namespace Go.Proofs.YtlhfdhmmdnkojaaGreatDoor
open Go.RowKit Dg
set_option maxRecDepth 100000
theorem wEnd2 {fn : Func} {p u : Tmp} (h : fn.results = #[.cell p 143, .tmp u]) (w' : World) (g : Nat) (c0 c1 c2 : Value) (tmps : Array Value) (hp : tmps.getD p undef = .pointer (some ⟨g, 0, none⟩)) (hh : Has w' g 143 #[c0, c1, c2]) :
    (results fn tmps).run Tryz.prog w' = .ok (.tuple #[.agg #[c0, c1, c2], tmps.getD u undef]) w' := by
  rw [results_cell_tmp h, hp]
  simp only [asAddr, Sem.run_pure, Result.andThen_ok]
  rw [run_loadVar_row w' g 143 143 #[c0, c1, c2] (0, 0) _ hh Tryz.underlying143 rfl (by kernel_rfl)]
  rfl
theorem hput3 {W : World} {g : Nat} {t : TypeId} {a0 a1 a2 : Value} (h : Has W g t #[a0, a1, a2]) (u0 u1 u2 : Value) : Has (((W.setCell ⟨g, 0, none⟩ u0).setCell ⟨g, 1, none⟩ u1).setCell ⟨g, 2, none⟩ u2) g t #[u0, u1, u2] := ((h.put 0 u0).put 1 u1).put 2 u2
end Go.Proofs.YtlhfdhmmdnkojaaGreatDoor
namespace Go.Proofs.YtlhfdhmmdnkojaaGreatDoor
open Go.RowKit Dg
set_option maxRecDepth 100000
/-- May a point be? -/
def ptOk (x y z : Int) (T : List Wk) : Bool := decide (0 ≤ x) && decide (0 ≤ y) && decide (0 ≤ z) && wrightF T
set_option maxHeartbeats 8000000 in
theorem pptmay_any {B : Nat} {A : Option Addr} {n c : Nat} {T : List Wk} (x y z : Int) (w : World) (h : OwnW B w (.slice A n c) T) (hl : T.length ≤ 800) (hf : ∀ x ∈ T, x.t.size ≤ 140737488355328 ∧ x.k.size ≤ 900) (hT : Tabs w) :
    Calls Tryz.prog 133 #[.agg #[.int .i64 x, .int .i64 y, .int .i64 z, .slice A n c]] w fun e w' => e = .returned (.bool (ptOk x y z T)) ∧ Hid (Below w.heap.size w w') := by
  have hb0 : Below w.heap.size w (w.alloc (.cells #[.int .i64 x, .int .i64 y, .int .i64 z, .slice A n c] 67)) := (Below.refl _ w).alloc (Nat.le_refl _) _
  have HR := Lib.hid (pwright_any _ (h.below hb0) hl hf (hT.below hb0))
  have HB := Lib.hid hb0
  have HO : Hid (ptOk x y z T = (decide (0 ≤ x) && decide (0 ≤ y) && decide (0 ≤ z) && wrightF T)) := rfl
  clear h hf hT hb0
  generalize wrightF T = r at *
  generalize ptOk x y z T = q at *
  by_cases h0 : 0 ≤ x
  · by_cases h1 : 0 ≤ y
    · by_cases h2 : 0 ≤ z
      · have HO2 : Hid (q = r) := by show _ = _; rw [HO.out]; simp [h0, h1, h2]
        clear HO
        go_enter Tryz.func133, Tryz.ntmps133
        go_wp2_with fail
        refine HR.out.mono ?_
        rintro e w1 ⟨rfl, hb1⟩
        have HB1 := Lib.hid (HB.out.trans (hb1.out.mono HB.out.size))
        clear hb1
        go_wp2_with fail
        go_ret
        exact ⟨by rw [HO2.out]; rfl, HB1⟩
      · have HO2 : Hid (q = false) := by show _ = _; rw [HO.out]; simp [h2]
        clear HO HR
        go_enter Tryz.func133, Tryz.ntmps133
        go_wp2_with fail
        go_ret
        exact ⟨by rw [HO2.out]; rfl, HB⟩
    · have HO2 : Hid (q = false) := by show _ = _; rw [HO.out]; simp [h1]
      clear HO HR
      go_enter Tryz.func133, Tryz.ntmps133
      go_wp2_with fail
      go_ret
      exact ⟨by rw [HO2.out]; rfl, HB⟩
  · have HO2 : Hid (q = false) := by show _ = _; rw [HO.out]; simp [h0]
    clear HO HR
    go_enter Tryz.func133, Tryz.ntmps133
    go_wp2_with fail
    go_ret
    exact ⟨by rw [HO2.out]; rfl, HB⟩
end Go.Proofs.YtlhfdhmmdnkojaaGreatDoor
namespace Go.Proofs.YtlhfdhmmdnkojaaGreatDoor
open Go.RowKit Dg
set_option maxRecDepth 100000
theorem ownW_apart {B : Nat} {w : World} {v : Value} {L : List Wk} {q : Nat} {t : TypeId} {cs : Array Value} (h : OwnW B w v L) (hh : Has w q t cs) (ht : t ≠ 143) (p : Addr) (hp : p.block = q) (u : Value) : OwnW B (w.setCell p u) v L := by
  rcases h.2 with ⟨hv, hn⟩ | ⟨g, cap, cur, hv, hg, hg2, hc, hcm, hsz, ht2⟩
  · exact ⟨h.1, .inl ⟨hv, hn⟩⟩
  · refine ⟨h.1, .inr ⟨g, cap, cur, hv, hg, Has.far (t := 143) (cs := cur) hg2 (fun e => ?_) u, hc, hcm, hsz, ht2⟩⟩
    rw [hp] at e
    subst e
    unfold Has at hh
    rw [hh] at hg2
    simp at hg2
    exact ht hg2.2
/-- What stands while Point goes on. -/
structure PtS (w W : World) (q : Nat) (x y z : Int) (v : Value) (G : List Wk) : Prop where
  own : OwnW w.heap.size W v G
  bel : Below w.heap.size w W
  box : Has W q 67 #[.int .i64 x, .int .i64 y, .int .i64 z, v]
  res : Has W (w.heap.size + 1) 67 #[.int .i64 0, .int .i64 0, .int .i64 0, .slice none 0 0]
  ne : q ≠ w.heap.size + 1
  ge : w.heap.size ≤ q
section
variable {w W : World} {q : Nat} {x y z : Int} {v : Value} {G : List Wk}
theorem PtS.fin (h : PtS w W q x y z v G) : Has ((((W.setCell ⟨w.heap.size + 1, 0, none⟩ (.int .i64 x)).setCell ⟨w.heap.size + 1, 1, none⟩ (.int .i64 y)).setCell ⟨w.heap.size + 1, 2, none⟩ (.int .i64 z)).setCell ⟨w.heap.size + 1, 3, none⟩ v) (w.heap.size + 1) 67 #[.int .i64 x, .int .i64 y, .int .i64 z, v] ∧
    OwnW w.heap.size ((((W.setCell ⟨w.heap.size + 1, 0, none⟩ (.int .i64 x)).setCell ⟨w.heap.size + 1, 1, none⟩ (.int .i64 y)).setCell ⟨w.heap.size + 1, 2, none⟩ (.int .i64 z)).setCell ⟨w.heap.size + 1, 3, none⟩ v) v G ∧
    Below w.heap.size w ((((W.setCell ⟨w.heap.size + 1, 0, none⟩ (.int .i64 x)).setCell ⟨w.heap.size + 1, 1, none⟩ (.int .i64 y)).setCell ⟨w.heap.size + 1, 2, none⟩ (.int .i64 z)).setCell ⟨w.heap.size + 1, 3, none⟩ v) := by
  have h0 := h.res.put 0 (.int .i64 x)
  have h1 := h0.put 1 (.int .i64 y)
  have h2 := h1.put 2 (.int .i64 z)
  have o0 := ownW_apart h.own h.res (by decide) ⟨w.heap.size + 1, 0, none⟩ rfl (.int .i64 x)
  have o1 := ownW_apart o0 h0 (by decide) ⟨w.heap.size + 1, 1, none⟩ rfl (.int .i64 y)
  have o2 := ownW_apart o1 h1 (by decide) ⟨w.heap.size + 1, 2, none⟩ rfl (.int .i64 z)
  have b0 := h.bel.setCell (p := ⟨w.heap.size + 1, 0, none⟩) (by show w.heap.size ≤ w.heap.size + 1; omega) (.int .i64 x)
  have b1 := b0.setCell (p := ⟨w.heap.size + 1, 1, none⟩) (by show w.heap.size ≤ w.heap.size + 1; omega) (.int .i64 y)
  have b2 := b1.setCell (p := ⟨w.heap.size + 1, 2, none⟩) (by show w.heap.size ≤ w.heap.size + 1; omega) (.int .i64 z)
  exact ⟨h2.put 3 v, ownW_apart o2 h2 (by decide) ⟨w.heap.size + 1, 3, none⟩ rfl v, b2.setCell (p := ⟨w.heap.size + 1, 3, none⟩) (by show w.heap.size ≤ w.heap.size + 1; omega) v⟩
end
end Go.Proofs.YtlhfdhmmdnkojaaGreatDoor
namespace Go.Proofs.YtlhfdhmmdnkojaaGreatDoor.Dg

/-- n with one more digit d at place i, in 64 bits. -/
def join (i n d : Nat) : Nat := n + d * 128 ^ i % 18446744073709551616

/-- The number at the head of l, how many bytes it has, the error: f rounds are left, i bytes have been read, they come to n. -/
def yheadF (most : Nat) : Nat → Nat → Nat → List Nat → Nat × Nat × Nat
  | 0, _, _, _ => (0, 0, 2)
  | _ + 1, _, _, [] => (0, 0, 4)
  | f + 1, i, n, b :: l =>
    if 128 ≤ b then yheadF most f (i + 1) (join i n (b % 128)) l
    else if (0 < i ∧ b % 128 = 0) ∨ join i n (b % 128) / 128 ^ i ≠ b % 128 ∨ most < join i n (b % 128) then (0, 0, 2)
    else (join i n (b % 128), i + 1, 0)

section
variable {most f i n b : Nat} {l : List Nat} {R : Nat × Nat × Nat}
theorem head_over (h : yheadF most 0 i n l = R) : R = (0, 0, 2) := by rw [← h]; simp [yheadF]
theorem head_end (h : yheadF most (f + 1) i n [] = R) : R = (0, 0, 4) := by rw [← h]; simp [yheadF]
theorem head_more (h : yheadF most (f + 1) i n (b :: l) = R) (hb : 128 ≤ b) : yheadF most f (i + 1) (join i n (b % 128)) l = R := by
  rw [← h, yheadF, if_pos hb]
theorem head_form (h : yheadF most (f + 1) i n (b :: l) = R) (hb : b < 128) (hc : (0 < i ∧ b % 128 = 0) ∨ join i n (b % 128) / 128 ^ i ≠ b % 128 ∨ most < join i n (b % 128)) : R = (0, 0, 2) := by
  rw [← h, yheadF, if_neg (by omega), if_pos hc]
theorem head_good (h : yheadF most (f + 1) i n (b :: l) = R) (hb : b < 128) (hc : ¬ ((0 < i ∧ b % 128 = 0) ∨ join i n (b % 128) / 128 ^ i ≠ b % 128 ∨ most < join i n (b % 128))) : R = (join i n (b % 128), i + 1, 0) := by
  rw [← h, yheadF, if_neg (by omega), if_neg hc]
end

theorem pow_le_nine : ∀ i, i ≤ 9 → 128 ^ i ≤ 9223372036854775808 := by
  intro i hi
  have := Nat.pow_le_pow_right (n := 128) (by omega) hi
  have e : (128 : Nat) ^ 9 = 9223372036854775808 := by decide
  omega
theorem join_lt {i n d : Nat} (hi : i < 9) (hn : n < 128 ^ i) (hd : d < 128) : join i n d < 128 ^ (i + 1) := by
  have hp := pow_le_nine (i + 1) (by omega)
  have he : (128 : Nat) ^ (i + 1) = 128 ^ i * 128 := Nat.pow_succ ..
  have h1 : d * 128 ^ i ≤ 127 * 128 ^ i := Nat.mul_le_mul_right _ (by omega)
  unfold join
  rw [Nat.mod_eq_of_lt (by omega)]
  omega
theorem join_big {n d : Nat} (i : Nat) (hi : i ≤ 9) (hn : n < 128 ^ i) : join i n d < 18446744073709551616 := by
  have hp := pow_le_nine i hi
  unfold join
  rcases Nat.lt_or_ge i 9 with h | h
  · have h2 : d * 128 ^ i % 18446744073709551616 = 128 ^ i * (d % (18446744073709551616 / 128 ^ i)) := by
      have e : (18446744073709551616 : Nat) = 128 ^ i * (18446744073709551616 / 128 ^ i) := by
        have : i = 0 ∨ i = 1 ∨ i = 2 ∨ i = 3 ∨ i = 4 ∨ i = 5 ∨ i = 6 ∨ i = 7 ∨ i = 8 := by omega
        rcases this with rfl | rfl | rfl | rfl | rfl | rfl | rfl | rfl | rfl <;> decide
      conv => lhs; rw [e]
      rw [Nat.mul_comm d, Nat.mul_mod_mul_left]
    have e : (18446744073709551616 : Nat) = 128 ^ i * (18446744073709551616 / 128 ^ i) := by
      have : i = 0 ∨ i = 1 ∨ i = 2 ∨ i = 3 ∨ i = 4 ∨ i = 5 ∨ i = 6 ∨ i = 7 ∨ i = 8 := by omega
      rcases this with rfl | rfl | rfl | rfl | rfl | rfl | rfl | rfl | rfl <;> decide
    have hq : 0 < 18446744073709551616 / 128 ^ i := Nat.div_pos (by omega) (Nat.pow_pos (by omega))
    have hm := Nat.mod_lt d hq
    rw [h2]
    have h3 : 128 ^ i * (d % (18446744073709551616 / 128 ^ i) + 1) ≤ 128 ^ i * (18446744073709551616 / 128 ^ i) := Nat.mul_le_mul_left _ (by omega)
    rw [Nat.mul_add] at h3
    omega
  · obtain rfl : i = 9 := by omega
    have e9 : (128 : Nat) ^ 9 = 9223372036854775808 := by decide
    rw [e9] at hn ⊢
    omega

/-- A number that is written is read as it was; one above 'most' is refused. -/
theorem head_digs (most : Nat) (rest : List Nat) : ∀ (m f i n : Nat), n < 128 ^ i → (0 < i → 0 < m) → n + m * 128 ^ i < 18446744073709551616 → (digs m).length ≤ f →
    yheadF most f i n (digs m ++ rest) = if most < n + m * 128 ^ i then (0, 0, 2) else (n + m * 128 ^ i, i + (digs m).length, 0) := by
  intro m
  induction m using Nat.strongRecOn with
  | ind m ih =>
    intro f i n hn hm hlt hf
    obtain ⟨f, rfl⟩ : ∃ g, f = g + 1 := ⟨f - 1, by have := digs_pos m; omega⟩
    rcases Nat.lt_or_ge m 128 with h | h
    · have hj : join i n (m % 128) = n + m * 128 ^ i := by
        unfold join
        rw [Nat.mod_eq_of_lt h, Nat.mod_eq_of_lt (by omega)]
      have hd : (n + m * 128 ^ i) / 128 ^ i = m := by
        rw [Nat.add_mul_div_right _ _ (Nat.pow_pos (by omega)), Nat.div_eq_of_lt hn, Nat.zero_add]
      rw [digs_lt h, List.singleton_append, yheadF, if_neg (by omega), hj, hd, Nat.mod_eq_of_lt h]
      by_cases hmost : most < n + m * 128 ^ i
      · rw [if_pos (Or.inr (Or.inr hmost)), if_pos hmost]
      · rw [if_neg (by omega), if_neg hmost]; simp
    · have hj : join i n ((m % 128 + 128) % 128) = n + m % 128 * 128 ^ i := by
        unfold join
        rw [show (m % 128 + 128) % 128 = m % 128 by omega]
        rw [Nat.mod_eq_of_lt]
        have : m % 128 * 128 ^ i ≤ m * 128 ^ i := Nat.mul_le_mul_right _ (by omega)
        omega
      have he : n + m % 128 * 128 ^ i + m / 128 * 128 ^ (i + 1) = n + m * 128 ^ i := by
        rw [Nat.pow_succ, ← Nat.mul_assoc, Nat.mul_right_comm, Nat.add_assoc, ← Nat.add_mul]
        congr 2
        omega
      have hn' : n + m % 128 * 128 ^ i < 128 ^ (i + 1) := by
        have h1 : m % 128 * 128 ^ i ≤ 127 * 128 ^ i := Nat.mul_le_mul_right _ (by omega)
        rw [Nat.pow_succ]
        omega
      rw [digs_ge h, List.cons_append, yheadF, if_pos (by omega), hj, ih (m / 128) (by omega) f (i + 1) _ hn' (fun _ => by omega) (by rw [he]; exact hlt) (by rw [digs_ge h, List.length_cons] at hf; omega), he]
      rw [List.length_cons, show i + 1 + (digs (m / 128)).length = i + ((digs (m / 128)).length + 1) by omega]

/-- It goes on by no more bytes than there are. -/
theorem head_len (most : Nat) : ∀ (f i n : Nat) (l : List Nat), (yheadF most f i n l).2.1 ≤ i + l.length := by
  intro f
  induction f with
  | zero => intro i n l; simp [yheadF]
  | succ f ih =>
    intro i n l
    rcases l with _ | ⟨b, l⟩
    · simp [yheadF]
    · rw [yheadF, List.length_cons]
      by_cases hb : 128 ≤ b
      · rw [if_pos hb]
        have := ih (i + 1) (join i n (b % 128)) l
        omega
      · rw [if_neg hb]
        split
        · simp
        · simp only; omega
theorem head_big (most : Nat) : ∀ (f i n : Nat) (l : List Nat), (yheadF most f i n l).1 ≤ most := by
  intro f
  induction f with
  | zero => intro i n l; simp [yheadF]
  | succ f ih =>
    intro i n l
    rcases l with _ | ⟨b, l⟩
    · simp [yheadF]
    · rw [yheadF]
      by_cases hb : 128 ≤ b
      · rw [if_pos hb]; exact ih _ _ _
      · rw [if_neg hb]
        split
        · simp
        · simp only; omega
/-- What a reader's number is, what is left, and the error. -/
def numF (most : Nat) (l : List Nat) (e : Nat) : Nat × List Nat × Nat :=
  if e ≠ 0 then (0, l, e) else if (yheadF most 10 0 0 l).2.2 ≠ 0 then (0, l, (yheadF most 10 0 0 l).2.2) else ((yheadF most 10 0 0 l).1, l.drop (yheadF most 10 0 0 l).2.1, 0)
theorem numF_le (most : Nat) (l : List Nat) (e : Nat) : (numF most l e).1 ≤ most := by
  unfold numF
  split
  · simp
  · split
    · simp
    · exact head_big ..
end Go.Proofs.YtlhfdhmmdnkojaaGreatDoor.Dg
namespace Go.Proofs.YtlhfdhmmdnkojaaGreatDoor
open Go.RowKit Dg
set_option maxRecDepth 100000
def ybig : Nat := 18446744073709551616
theorem ylen64_any (x : Nat) (w : World) (h : x < ybig) :
    Calls Tryz.prog 151 #[.int .u64 x] w fun e w' => e = .returned (.int .i64 (Lib.bitLen x)) ∧ w = w' :=
  (Tryz.bits_Len64 x w (by omega) (by unfold ybig at h; omega)).mono fun e w' ⟨he, hw⟩ => ⟨by rw [he, Int.toNat_natCast], hw.symm⟩

/-- What 'digits' leaves: a new block, the last one, with the digits. -/
def yDigs (n : Nat) (w : World) (e : Ending) (w' : World) : Prop :=
  e = .returned (.slice (some ⟨w.heap.size, 0, none⟩) (digs n).length (digs n).length) ∧ Has w' w.heap.size 5 ((digs n).map bv).toArray ∧ w'.heap.size = w.heap.size + 1 ∧ Below w.heap.size w w'

set_option maxHeartbeats 400000 in
theorem ydigits_any (n : Nat) (w : World) (h1 : n < ybig) : Calls Tryz.prog 107 #[.int .u64 n] w (yDigs n w) := by
  have hor : bits .or .u64 (n : Int) 1 = ((n ||| 1 : Nat) : Int) := u64_or_nat n 1 (by unfold ybig at h1; exact h1) (by omega)
  have hsz : size n = (digs n).length := size_eq n h1
  have hp := digs_pos n
  have ht := digs_le_ten n h1
  obtain ⟨i0, hi, hz0, hz1, hz2⟩ := info_parts info5
  have hor2 : (n ||| 1) < ybig := by rw [or_one]; unfold ybig at h1 ⊢; split <;> omega
  have hb : ((Lib.bitLen (n ||| 1) : Nat) : Int) ≤ 70 := by unfold size at hsz; omega
  have HQ : Hid ((((Lib.bitLen (n ||| 1) : Nat) : Int) + 6) / 7 = ((digs n).length : Int)) := by show _ = _; unfold size at hsz; omega
  have HO := Lib.hid hor
  have hmk := fun (k : Nat) (hk : k ≤ 10) (W : World) => run_make (P := Tryz.prog) W 37 5 i0 (.int .u8 0) Tryz.underlying37 hi hz0 .i64 .i64 k k (by omega) (by omega) (by rw [hz2]; omega) (by omega)
  have HM := Lib.hid hmk
  have Hz1 := Lib.hid hz1
  clear hsz hor hmk hz1
  go_enter Tryz.func107, Tryz.ntmps107
  go_wp2_with fail
  rw [HO.out]
  refine (ylen64_any _ _ hor2).mono ?_
  rintro e w' ⟨rfl, rfl⟩
  go_wp2_with fail
  rw [HQ.out, HM.out _ ht]
  simp only [Int.toNat_natCast, Hz1.out]
  rw [arr_zero n]
  clear HM HQ HO Hz1
  generalize hL : (digs n).length = L at *
  have HL := Lib.hid hL
  clear hL
  go_wp2_with fail
  go_loopw [14] (fun i wr => ∃ k : Nat, k ≤ L ∧ i = .int .i64 k ∧ Has wr w.heap.size 5 (arr n L k) ∧ wr.heap.size = w.heap.size + 1 ∧ Below w.heap.size w wr) (fun i _ => L - (intOf i).toNat)
  case atStart => exact ⟨0, by omega, rfl, Has.new _ _ _, by simp, (Below.refl _ _).alloc (Nat.le_refl _) _⟩
  case round =>
    obtain ⟨k, hk, rfl, hblk, hsz, hbel⟩ := hrel
    have HB := Lib.hid hblk
    have HS := Lib.hid hsz
    clear hblk hsz
    by_cases hlt : k < L
    · have hc : wr.cell? ⟨w.heap.size, k, none⟩ = some (if k < k then Value.int .u8 ((n / 128 ^ k % 128 + 128 : Nat) : Int) else .int .u8 0) := by
        rw [HB.out.cell, arr_get n L k k hlt]
      have hf := HB.out.free k
      go_wp2_with fail
      go_roundw
      case rel =>
        refine ⟨k + 1, by omega, by go_num, ?_, ?_, ?_⟩
        · rw [bits_or128, ← arr_put]; exact HB.out.put k _
        · rw [size_set]; exact HS.out
        · exact hbel.setCell (Nat.le_refl _) _
      case measure => simp [intOf]; omega
    · obtain rfl : k = L := by omega
      have hc : wr.cell? ⟨w.heap.size, k - 1, none⟩ = some (Value.int .u8 ((n / 128 ^ (k - 1) % 128 + 128 : Nat) : Int)) := by
        rw [HB.out.cell, arr_get n k k (k - 1) (by omega), if_pos (by omega)]
      have hf := HB.out.free (k - 1)
      go_wp2_with fail
      have e : bits .and .u8 ((n : Int) / 128 ^ (k - 1) % 128 + 128) 127 = ((n / 128 ^ (k - 1) % 128 : Nat) : Int) := by
        rw [← bits_and127]; simp
      rw [e]
      go_ret
      refine ⟨by rw [HL.out]; rfl, ?_, ?_, ?_⟩
      · rw [← arr_end n k HL.out hp]; exact HB.out.put (k - 1) _
      · rw [size_set]; exact HS.out
      · exact hbel.setCell (Nat.le_refl _) _

theorem yDigs.made {n : Nat} {w : World} {e : Ending} {w' : World} (h : yDigs n w e w') : ∃ v, e = .returned v ∧ Made w (digs n) v w' := by
  obtain ⟨he, hh, _, hb⟩ := h
  refine ⟨_, he, _, _, rfl, Nat.le_refl _, Rd.of_has hh fun i hi => ?_, hb⟩
  simp [hi]

/-- A slice comes back, with the bytes l, in memory of the call's own. -/
def yOut (w : World) (l : List Nat) (e : Ending) (w' : World) : Prop := ∃ v, e = .returned v ∧ Made w l v w'

set_option maxHeartbeats 400000 in
theorem ybehind_any (A : Option Addr) (l : List Nat) (c : Nat) (A' : Option Addr) (m : List Nat) (d : Nat) (w : World) (hn : l.length ≤ c) (hA : Rd w A l) (hA' : Rd w A' m) (hm : 0 < m.length) (hb : l.length + m.length ≤ 1000000) :
    Calls Tryz.prog 106 #[.slice A l.length c, .slice A' m.length d] w (yOut w (l ++ m)) := by
  obtain ⟨i0, hi, hz0, hz1, hz2⟩ := info_parts info5
  have hr := run_app_grow (P := Tryz.prog) w (t := 37) (tx := 37) 37 Tryz.underlying37 hi hz0 hz1 hz2 A l l.length hA _ m (src_rd w Tryz.underlying37 A' m d hA') (by omega) hb
  have HR := Lib.hid hr
  clear hr
  go_enter Tryz.func106, Tryz.ntmps106
  go_wp2_with (at_builtin; refine wpList_app rfl _ _ 37 37 rfl (.slice A l.length l.length) (.slice A' m.length d) rfl rfl ?_; obtain ⟨R, W', hrun, hmade⟩ := HR.out; refine ⟨R, W', hrun, ?_⟩; have HM := Lib.hid hmade; clear hrun hmade)
  go_ret
  exact ⟨R, rfl, HM.out⟩

theorem Made.yafter {w w1 w2 : World} {l : List Nat} {v : Value} (hb : Below w.heap.size w w1) (h : Made w1 l v w2) : Made w l v w2 := by
  obtain ⟨A, c, e, hc, hr, hb2⟩ := h
  exact ⟨A, c, e, hc, hr, hb.trans (hb2.mono hb.size)⟩
theorem yDigs.out {n : Nat} {w : World} {e : Ending} {w' : World} (h : yDigs n w e w') : ∃ A c, e = .returned (.slice A (digs n).length c) ∧ Rd w' A (digs n) ∧ Below w.heap.size w w' := by
  obtain ⟨v, he, A, c, rfl, _, hr, hb⟩ := h.made
  exact ⟨A, c, he, hr, hb⟩
theorem ybyteCells_sb (s : ByteArray) : byteCells s = (sb s).map bv := by
  simp [byteCells, sb, bv, List.map_map, Function.comp]
theorem ysrc_string (w : World) (s : ByteArray) : Src Tryz.prog 1 9 (.string s) (sb s).length ((sb s).map bv) w := by
  rw [← ybyteCells_sb, sb_length]
  exact Src.ofString w Tryz.underlying9 s
theorem ytext_run (w : World) (b off : Nat) (l : List Nat) (s : ByteArray) (hl : Rd w (some ⟨b, off, none⟩) l) (hb : l.length + s.size ≤ 1000000) :
    ∃ R W', (Builtin.append_ #[37, 9] 37 #[.slice (some ⟨b, off, none⟩) l.length l.length, .string s]).run Tryz.prog w = .ok R W' ∧ Made w (l ++ sb s) R W' := by
  obtain ⟨i0, hi, hz0, hz1, hz2⟩ := info_parts info5
  have hs := ysrc_string w s
  rcases Nat.eq_zero_or_pos s.size with h0 | h0
  · have e : sb s = [] := List.eq_nil_of_length_eq_zero (by rw [sb_length, h0])
    rw [e] at hs ⊢
    refine ⟨_, _, run_app_none w 37 Tryz.underlying37 hi hz1 b off l.length l.length (.string s) hs (Nat.le_refl _), ?_⟩
    rw [List.append_nil]
    exact ⟨_, _, rfl, Nat.le_refl _, hl, Below.refl _ _⟩
  · exact run_app_grow w 37 Tryz.underlying37 hi hz0 hz1 hz2 _ l l.length hl (.string s) (sb s) hs (by rw [sb_length]; omega) (by rw [sb_length]; omega)
set_option maxHeartbeats 400000 in
theorem yText_any (A : Option Addr) (l : List Nat) (c : Nat) (s : ByteArray) (w : World) (hn : l.length ≤ c) (hA : Rd w A l) (hb : l.length ≤ 900000) (h0 : s.size ≤ 1000) :
    Calls Tryz.prog 51 #[.slice A l.length c, .string s] w (yOut w (l ++ (digs s.size ++ sb s))) := by
  have hbig : s.size < ybig := by unfold ybig; omega
  have ht := digs_le_ten s.size hbig
  have hp := digs_pos s.size
  go_enter Tryz.func51, Tryz.ntmps51
  go_wp2_with fail
  refine (ydigits_any s.size _ hbig).mono ?_
  intro e w1 hd
  obtain ⟨rfl, hh, _, hb1⟩ := hd
  have hr : Rd w1 (some ⟨w.heap.size, 0, none⟩) (digs s.size) := Rd.of_has hh fun i hi => by simp [hi]
  have HR := Lib.hid (ytext_run w1 w.heap.size 0 (digs s.size) s hr (by omega))
  clear hh hr
  go_wp2_with (at_builtin; refine wpList_app rfl _ _ 37 9 rfl (.slice (some ⟨w.heap.size, 0, none⟩) (digs s.size).length (digs s.size).length) (.string s) rfl rfl ?_; obtain ⟨R, W', hrun, hmade⟩ := HR.out; refine ⟨R, W', hrun, ?_⟩; have HM := Lib.hid hmade; clear hrun hmade)
  obtain ⟨A', d, rfl, hd, hr2, hb2⟩ := HM.out
  have HR2 := Lib.hid hr2
  clear hr2
  go_wp2_with fail
  refine (ybehind_any A l c A' (digs s.size ++ sb s) d _ hn ((hA.below hb1).below (hb2.mono (Nat.le_refl _))) HR2.out (by rw [List.length_append]; omega) (by rw [List.length_append, sb_length]; omega)).mono ?_
  intro e w2 ho
  have HO := Lib.hid ho
  clear ho
  obtain ⟨v, rfl, hv⟩ := HO.out
  have HV := Lib.hid hv
  clear hv
  go_wp2_with fail
  go_ret
  exact ⟨v, rfl, HV.out.yafter (hb1.trans (hb2.mono hb1.size))⟩

end Go.Proofs.YtlhfdhmmdnkojaaGreatDoor
namespace Go.Proofs.YtlhfdhmmdnkojaaGreatDoor
open Go.RowKit Dg
set_option maxRecDepth 100000

theorem and127_any (x : Nat) (h : x < 256) : bits .and .u8 (x : Int) 127 = ((x % 128 : Nat) : Int) := by
  have hh := u8_and_nat x 127 h (by omega)
  have o := and127 ⟨x, h⟩
  simp only at o
  rw [o] at hh
  exact hh
theorem pow_split : ∀ k, k ≤ 9 → (18446744073709551616 : Nat) = 128 ^ k * (18446744073709551616 / 128 ^ k) := by
  intro i hi
  have : i = 0 ∨ i = 1 ∨ i = 2 ∨ i = 3 ∨ i = 4 ∨ i = 5 ∨ i = 6 ∨ i = 7 ∨ i = 8 ∨ i = 9 := by omega
  rcases this with rfl | rfl | rfl | rfl | rfl | rfl | rfl | rfl | rfl | rfl <;> decide
theorem bits_join (k N d : Nat) (hk : k ≤ 9) (hN : N < 128 ^ k) :
    bits .or .u64 (N : Int) (IntKind.u64.wrap ((d : Int) * 2 ^ (7 * k))) = ((join k N d : Nat) : Int) := by
  have e : IntKind.u64.wrap ((d : Int) * 2 ^ (7 * k)) = ((d * 128 ^ k % 18446744073709551616 : Nat) : Int) := by
    rw [IntKind.wrap_u64, ← pow7, Int.natCast_emod, Int.natCast_mul, Int.natCast_pow]; rfl
  have hp := pow_le_nine k hk
  have hs : d * 128 ^ k % 18446744073709551616 = 2 ^ (7 * k) * (d % (18446744073709551616 / 128 ^ k)) := by
    rw [pow7]
    conv => lhs; rw [pow_split k hk]
    rw [Nat.mul_comm d, Nat.mul_mod_mul_left]
  rw [e, u64_or_nat _ _ (by omega) (Nat.mod_lt _ (by omega))]
  have ho := Nat.two_pow_add_eq_or_of_lt (i := 7 * k) (b := N) (by rw [pow7]; exact hN) (d % (18446744073709551616 / 128 ^ k))
  unfold join
  rw [hs, Nat.or_comm, ← ho, Nat.add_comm]

/-- What 'head' answers. -/
def HeadOut (R : Nat × Nat × Nat) (w : World) (e : Ending) (w' : World) : Prop :=
  e = .returned (.tuple #[.int .u64 (R.1 : Int), .int .i64 (R.2.1 : Int), .int .i64 (R.2.2 : Int)]) ∧ w = w'

set_option maxHeartbeats 1000000 in
theorem yhead_some (b off : Nat) (l : List Nat) (c most : Nat) (w : World) (hn : l.length ≤ 1000000) (hl : ∀ x ∈ l, x < 256) (hc : ∀ i (h : i < l.length), w.cell? ⟨b, off + i, none⟩ = some (bv l[i])) :
    Calls Tryz.prog 168 #[.slice (some ⟨b, off, none⟩) l.length c, .int .u64 most] w (HeadOut (yheadF most 10 0 0 l) w) := by
  have HC := Lib.hid hc
  clear hc
  generalize hR : yheadF most 10 0 0 l = R
  have HR0 := Lib.hid hR
  clear hR
  go_enter Tryz.func168, Tryz.ntmps168
  go_wp2_with fail
  go_loop [7, 10] (fun n i => ∃ k N : Nat, k ≤ 10 ∧ i = .int .i64 k ∧ n = .int .u64 N ∧ Hid (k ≤ 9 → N < 128 ^ k) ∧ k ≤ l.length ∧ Hid (yheadF most (10 - k) k N (l.drop k) = R)) (fun _ i => 10 - (intOf i).toNat)
  case atStart => exact ⟨0, 0, by omega, rfl, rfl, fun _ => by simp, by omega, HR0.out⟩
  case round =>
    clear HR0
    obtain ⟨k, N, hk, rfl, rfl, hN, hkl, HR⟩ := hrel
    by_cases h10 : k < 10
    · obtain ⟨f, hf⟩ : ∃ f, f + 1 = 10 - k := ⟨9 - k, by omega⟩
      have HF := Lib.hid hf
      clear hf
      by_cases hlen : k < l.length
      · have hcell := HC.out k hlen
        have hb := hl l[k] (List.getElem_mem hlen)
        have HD := Lib.hid (List.drop_eq_getElem_cons hlen)
        generalize l[k] = x at *
        unfold bv at hcell
        have hj := bits_join k N (x % 128) (by omega) (hN.out (by omega))
        have hq := int_div_pow (join k N (x % 128)) k
        have HJ9 : Hid (k + 1 ≤ 9 → join k N (x % 128) < 128 ^ (k + 1)) := fun h => join_lt (by omega) (hN.out (by omega)) (by omega)
        have HR1 : Hid (yheadF most (f + 1) k N (x :: l.drop (k + 1)) = R) := by show _ = _; rw [HF.out, ← HD.out]; exact HR.out
        obtain ⟨d, hd⟩ : ∃ d, d = x % 128 := ⟨_, rfl⟩
        have ha := and127_any x hb
        rw [← hd] at hj hq ha
        have HX := Lib.hid hd
        clear hd
        obtain ⟨M, hM⟩ : ∃ M, M = join k N d := ⟨_, rfl⟩
        rw [← hM] at hj hq
        have HM := Lib.hid hM
        clear hM
        obtain ⟨q, hq'⟩ : ∃ q, q = M / 128 ^ k := ⟨_, rfl⟩
        rw [← hq'] at hq
        have HQ := Lib.hid hq'
        clear hq' HR HD
        have hdb : d < 128 := by rw [HX.out]; omega
        have hMb : M < 18446744073709551616 := by rw [HM.out]; exact join_big k (by omega) (hN.out (by omega))
        by_cases h128 : x < 128
        · have g : decide (128 ≤ (x : Int)) = false := by simp; omega
          have bad : ((0 < k ∧ d = 0) ∨ q ≠ d ∨ most < M) → R = (0, 0, 2) := fun hh => head_form HR1.out h128 (by rw [← HX.out, ← HM.out, ← HQ.out]; exact hh)
          have good : ¬ ((0 < k ∧ d = 0) ∨ q ≠ d ∨ most < M) → R = (M, k + 1, 0) := fun hh => by
            have := head_good HR1.out h128 (by rw [← HX.out, ← HM.out, ← HQ.out]; exact hh)
            rw [← HX.out, ← HM.out] at this
            exact this
          have BAD := Lib.hid bad
          have GOOD := Lib.hid good
          clear bad good
          by_cases c1 : 0 < k <;> by_cases c2 : d = 0
          all_goals
            have C2 := Lib.hid c2
            first | (have td : ((d : Int) == 0) = true := by simp; omega) | (have td : ((d : Int) == 0) = false := by simp; omega)
            clear c2
            by_cases c3 : q = d
            all_goals
              have C3 := Lib.hid c3
              first | (have tq : ((q : Int) != (d : Int)) = true := by simp; omega) | (have tq : ((q : Int) != (d : Int)) = false := by simp; omega)
              clear c3
              by_cases c4 : most < M
              all_goals
                go_wp2_with fail
                go_ret3
                first
                  | (have e := BAD.out (by have := C2.out; have := C3.out; omega); exact ⟨by rw [e]; rfl, rfl⟩)
                  | (have e := GOOD.out (by have := C2.out; have := C3.out; omega); exact ⟨by rw [e]; simp, rfl⟩)
        · have g : decide (128 ≤ (x : Int)) = true := by simp; omega
          go_wp2_with fail
          go_round
          case rel => exact ⟨k + 1, M, by omega, by go_num, rfl, (by rw [HM.out, HX.out]; exact HJ9), by omega, by show _ = _; rw [show 10 - (k + 1) = f by have := HF.out; omega, HM.out, HX.out]; exact head_more HR1.out (by omega)⟩
          case measure => simp [intOf]; omega
      · obtain rfl : k = l.length := by omega
        have e : R = (0, 0, 4) := head_end (most := most) (f := f) (i := l.length) (n := N) (by rw [HF.out, ← HR.out, List.drop_length])
        have H := Lib.hid e
        clear e
        go_wp2_with fail
        go_ret3
        exact ⟨by rw [H.out]; rfl, rfl⟩
    · obtain rfl : k = 10 := by omega
      have e : R = (0, 0, 2) := head_over HR.out
      have H := Lib.hid e
      clear e
      go_wp2_with fail
      go_ret3
      exact ⟨by rw [H.out]; rfl, rfl⟩

set_option maxHeartbeats 400000 in
theorem head_none (A : Option Addr) (c most : Nat) (w : World) :
    Calls Tryz.prog 168 #[.slice A 0 c, .int .u64 most] w (HeadOut (0, 0, 4) w) := by
  go_enter Tryz.func168, Tryz.ntmps168
  go_wp2_with fail
  go_loop [7, 10] (fun n i => i = .int .i64 0 ∧ n = .int .u64 0) (fun _ _ => 0)
  case atStart => exact ⟨rfl, rfl⟩
  case round =>
    obtain ⟨rfl, rfl⟩ := hrel
    go_wp2_with fail
    go_ret3
    exact ⟨rfl, rfl⟩
theorem yhead_any (A : Option Addr) (l : List Nat) (c most : Nat) (w : World) (hn : l.length ≤ 1000000) (hl : ∀ x ∈ l, x < 256) (h : Rd w A l) :
    Calls Tryz.prog 168 #[.slice A l.length c, .int .u64 most] w (HeadOut (yheadF most 10 0 0 l) w) := by
  rcases l with _ | ⟨x, l⟩
  · exact head_none A c most w
  · obtain ⟨b, off, rfl, hc⟩ := h (by simp)
    exact yhead_some b off _ c most w hn hl hc
end Go.Proofs.YtlhfdhmmdnkojaaGreatDoor
namespace Go.Proofs.YtlhfdhmmdnkojaaGreatDoor
open Go.RowKit Dg
set_option maxRecDepth 100000
/-- The reader at block g has the bytes l left, and the error e. -/
def Rdr (w : World) (g : Nat) (l : List Nat) (e : Nat) : Prop :=
  ∃ A c, Has w g 165 #[.slice A l.length c, .int .i64 (e : Int)] ∧ l.length ≤ c ∧ Rd w A l
theorem rdr_cells (A : Option Addr) (n c : Nat) (e : Int) : ∀ (i x : Nat), (#[Value.slice A n c, .int .i64 e] : Array Value)[i]? ≠ some (bv x) := by
  intro i x h
  rcases i with _ | _ | i
  · simp [bv] at h
  · simp [bv] at h
  · simp at h
theorem Rd.turn {w w' : World} {A : Option Addr} {l : List Nat} {g : Nat} {t : TypeId} {cs : Array Value} (h : Rd w A l) (hg : w.grownBy w' (some g)) (hh : Has w g t cs) (hcs : ∀ (i x : Nat), cs[i]? ≠ some (bv x)) : Rd w' A l := fun hl => by
  obtain ⟨b, off, e, hc⟩ := h hl
  refine ⟨b, off, e, fun i hi => ?_⟩
  refine hg.cell (hc i hi) fun hb => ?_
  injection hb with hb
  have hx := hc i hi
  rw [show b = g from hb, hh.cell] at hx
  exact hcs _ _ hx
theorem grown_set (w : World) (g i : Nat) (u : Value) : w.grownBy (w.setCell ⟨g, i, none⟩ u) (some g) :=
  ⟨rfl, rfl, rfl, by rw [size_set]; exact Nat.le_refl _, fun k _ hne => Below.heap_setCell w _ u k (fun e => hne (by rw [e]))⟩
theorem grown_trans {a b c : World} {g : Nat} (h : a.grownBy b (some g)) (k : b.grownBy c (some g)) : a.grownBy c (some g) :=
  ⟨k.os.trans h.os, k.tape.trans h.tape, k.output.trans h.output, Nat.le_trans h.size k.size, fun i hi hne => (k.block i (Nat.lt_of_lt_of_le hi h.size) hne).trans (h.block i hi hne)⟩
theorem grown_refl (a : World) (g : Nat) : a.grownBy a (some g) := ⟨rfl, rfl, rfl, Nat.le_refl _, fun _ _ _ => rfl⟩

section
variable (g : Nat) (l : List Nat) (e : Nat) (w : World)
set_option maxHeartbeats 400000 in
theorem pass_err (k : Int) (r : Int) (h : Rdr w g l e) (he : e ≠ 0) :
    Calls Tryz.prog 116 #[.pointer (some ⟨g, 0, none⟩), .int .i64 k, .int .i64 r] w fun x w' => x = .returned (.bool false) ∧ w = w' := by
  obtain ⟨A, c, hh, hn, hr⟩ := h
  have c1 : w.cell? ⟨g, 1, none⟩ = some (.int .i64 e) := hh.cell 1
  have g1 : ((e : Int) == 0) = false := by simp; omega
  have g2 : ((e : Int) != 0) = true := by simp; omega
  have HE := Lib.hid he
  clear hh hr he
  go_enter Tryz.func116, Tryz.ntmps116
  go_wp2_with fail
  go_ret
  exact ⟨rfl, rfl⟩
set_option maxHeartbeats 400000 in
theorem Errno_get (h : Rdr w g l e) :
    Calls Tryz.prog 87 #[.pointer (some ⟨g, 0, none⟩)] w fun x w' => x = .returned (.int .i64 (e : Int)) ∧ w = w' := by
  obtain ⟨A, c, hh, hn, hr⟩ := h
  have c1 : w.cell? ⟨g, 1, none⟩ = some (.int .i64 e) := hh.cell 1
  clear hh hr
  go_enter Tryz.func87, Tryz.ntmps87
  go_wp2_with fail
  go_ret
  exact ⟨rfl, rfl⟩
def endF (l : List Nat) (e : Nat) : Nat := if e = 0 ∧ 0 < l.length then 2 else e
set_option maxHeartbeats 400000 in
theorem End_get (h : Rdr w g l e) (hb : l.length ≤ 1000000) :
    Calls Tryz.prog 63 #[.pointer (some ⟨g, 0, none⟩)] w fun x w' => x = .returned (.int .i64 (endF l e : Int)) ∧ w = w' := by
  obtain ⟨A, c, hh, hn, hr⟩ := h
  have c0 : w.cell? ⟨g, 0, none⟩ = some (.slice A l.length c) := hh.cell 0
  have c1 : w.cell? ⟨g, 1, none⟩ = some (.int .i64 e) := hh.cell 1
  clear hh hr
  obtain ⟨E, hE⟩ : ∃ E, E = endF l e := ⟨_, rfl⟩
  rw [← hE]
  have HE := Lib.hid hE
  clear hE
  by_cases he : e = 0
  · have h0 : ((e : Int) == 0) = true := by simp; omega
    by_cases hp : 0 < l.length
    · have H : Hid (E = 2) := by show _ = _; rw [HE.out]; unfold endF; rw [if_pos ⟨he, hp⟩]
      clear he
      go_enter Tryz.func63, Tryz.ntmps63
      go_wp2_with fail
      go_ret
      exact ⟨by rw [H.out]; rfl, rfl⟩
    · have H : Hid (E = e) := by show _ = _; rw [HE.out]; unfold endF; rw [if_neg (by omega)]
      clear he
      go_enter Tryz.func63, Tryz.ntmps63
      go_wp2_with fail
      go_ret
      exact ⟨by rw [H.out]; rfl, rfl⟩
  · have h0 : ((e : Int) == 0) = false := by simp; omega
    have H : Hid (E = e) := by show _ = _; rw [HE.out]; unfold endF; rw [if_neg (by omega)]
    clear he
    go_enter Tryz.func63, Tryz.ntmps63
    go_wp2_with fail
    go_ret
    exact ⟨by rw [H.out]; rfl, rfl⟩
def byteF (l : List Nat) (e : Nat) : Nat × List Nat × Nat := if e ≠ 0 then (0, l, e) else match l with | [] => (0, [], 4) | x :: t => (x, t, 0)
theorem byteF_err {e : Nat} (l : List Nat) (h : e ≠ 0) : byteF l e = (0, l, e) := by unfold byteF; rw [if_pos h]
end
end Go.Proofs.YtlhfdhmmdnkojaaGreatDoor
namespace Go.Proofs.YtlhfdhmmdnkojaaGreatDoor
open Go.RowKit Dg
set_option maxRecDepth 100000
theorem yrd_none {w : World} {l : List Nat} (h : Rd w none l) : l = [] := by
  rcases l with _ | ⟨x, l⟩
  · rfl
  · obtain ⟨b, off, e, _⟩ := h (by simp)
    cases e
theorem yrd_owned {w : World} {base c : Nat} {l : List Nat} {A : Option Addr} (h : w.ownsRow base 5 1 (.slice A l.length c) l.length (l.map bv)) : l.length ≤ c ∧ Rd w A l := by
  rcases h.2 with ⟨e, hn⟩ | ⟨g, cap, cur, e, _, hh, hc, _, _, ht⟩
  · injection e with e1 e2 e3
    refine ⟨by omega, ?_⟩
    rw [List.eq_nil_of_length_eq_zero hn]
    exact Rd.nil _ _
  · injection e with e1 e2 e3
    subst e1; subst e3
    refine ⟨hc, Rd.of_has (t := 5) (cs := cur) hh fun i hi => ?_⟩
    have h1 : (l.map bv)[i]? = some (bv l[i]) := by simp [hi]
    rw [← ht, List.getElem?_take, if_pos (by omega)] at h1
    simpa using h1
theorem clone_any (A : Option Addr) (l : List Nat) (c : Nat) (w : World) (h : Rd w A l) (hb : l.length ≤ 1000000) :
    Calls Tryz.prog 115 #[.slice A l.length c] w (yOut w l) := by
  rcases A with _ | a
  · obtain rfl := yrd_none h
    exact (Any.bytes_Clone_nil Tryz.laysSlK4 0 c w).mono fun e w' ⟨he, hw⟩ => ⟨_, he, none, 0, rfl, Nat.le_refl _, Rd.nil _ _, by rw [hw]; exact Below.refl _ _⟩
  · refine (Tryz.bytes_Clone_at a l.length c (l.map Int.ofNat) w (by simp) (by omega) ?_).mono ?_
    · intro i hi
      obtain ⟨b, off, e, hc⟩ := h (by rintro rfl; simp at hi)
      injection e with e
      subst e
      rw [Addr.add_lit, hc i hi]
      simp [bv, hi]
    · rintro e w' ⟨v', rfl, hown, hne, hb'⟩
      have hm : (l.map Int.ofNat).map (Value.int .u8) = l.map bv := by rw [List.map_map]; rfl
      rw [hm] at hown
      rcases hown.2 with ⟨e, hn⟩ | ⟨g, cap, cur, e, _, _⟩
      · exact absurd e hne
      · subst e
        obtain ⟨h1, h2⟩ := yrd_owned hown
        exact ⟨_, rfl, _, _, rfl, h1, h2, hb'⟩

set_option maxHeartbeats 400000 in
theorem Read_any (A : Option Addr) (l : List Nat) (c : Nat) (w : World) (h : Rd w A l) (hb : l.length ≤ 1000000) :
    Calls Tryz.prog 60 #[.slice A l.length c] w fun e w' => ∃ g, e = .returned (.pointer (some ⟨g, 0, none⟩)) ∧ w.heap.size ≤ g ∧ Rdr w' g l 0 ∧ Below w.heap.size w w' := by
  have HC := Lib.hid (clone_any A l c w h hb)
  go_enter Tryz.func60, Tryz.ntmps60
  go_wp2_with fail
  refine HC.out.mono ?_
  rintro e w1 ⟨v, rfl, A', c', rfl, hc', hr, hbl⟩
  have HR := Lib.hid hr
  have HB := Lib.hid hbl
  clear hr hbl
  go_wp2_with fail
  go_ret
  exact ⟨_, rfl, HB.out.size, ⟨A', c', Has.new w1 165 _, hc', HR.out.below ((Below.refl _ _).alloc (Nat.le_refl _) _)⟩, HB.out.alloc HB.out.size _⟩

/-- What a reader's text is, what is left, and the error. -/
def textF (most : Int) (l : List Nat) (e : Nat) : List Nat × List Nat × Nat :=
  if e ≠ 0 then ([], l, e) else
  let R := yheadF 9223372036854775807 10 0 0 l
  if R.2.2 ≠ 0 then ([], l, R.2.2) else if most < R.1 then ([], l, 2) else if (l.length : Int) - R.2.1 < R.1 then ([], l, 4) else ((l.drop R.2.1).take R.1, l.drop (R.2.1 + R.1), 0)
theorem Rd.cut {w : World} {A : Option Addr} {l : List Nat} (h : Rd w A l) (k m : Nat) : Rd w (A.map (fun x => x.add k)) ((l.drop k).take m) := fun hl => by
  have hne : l ≠ [] := by rintro rfl; simp at hl
  obtain ⟨b, off, rfl, hc⟩ := h hne
  rw [Option.map_some, Addr.add_lit]
  exact ((Rd.drop h k).take m) hl
section
variable (g : Nat) (l : List Nat) (e : Nat) (w : World)
end
end Go.Proofs.YtlhfdhmmdnkojaaGreatDoor
namespace Go.Proofs.YtlhfdhmmdnkojaaGreatDoor
open Go.RowKit Dg
set_option maxRecDepth 100000
theorem Rdr.far {w w' : World} {g g' : Nat} {l l' : List Nat} {e e' : Nat} (h : Rdr w g l e) (hg : w.grownBy w' (some g')) (hh : Rdr w g' l' e') (hne : g ≠ g') : Rdr w' g l e := by
  obtain ⟨A, c, h1, h2, h3⟩ := h
  obtain ⟨A', c', h1', _, _⟩ := hh
  exact ⟨A, c, (hg.block g h1.lt (fun e => hne (by injection e))).trans h1, h2, h3.turn hg h1' (rdr_cells _ _ _ _)⟩
theorem Rdr.lt {w : World} {g : Nat} {l : List Nat} {e : Nat} (h : Rdr w g l e) : g < w.heap.size := by
  obtain ⟨A, c, h1, _, _⟩ := h
  exact h1.lt
theorem Rdr.below {w w' : World} {g : Nat} {l : List Nat} {e : Nat} (h : Rdr w g l e) (hb : Below w.heap.size w w') : Rdr w' g l e := by
  obtain ⟨A, c, h1, h2, h3⟩ := h
  exact ⟨A, c, h1.below hb h1.lt, h2, h3.below hb⟩
theorem Below.turn {w w1 w2 : World} {g : Nat} (h : Below w.heap.size w w1) (hg : w1.grownBy w2 (some g)) (hl : w.heap.size ≤ g) : Below w.heap.size w w2 :=
  h.grown hg h.size (fun k hk => by injection hk with hk; omega)

theorem Rdr.drew {w : World} {g : Nat} {l : List Nat} {e : Nat} (h : Rdr w g l e) : Rdr w.drew g l e := h
theorem head_whole (most n : Nat) (rest : List Nat) (hn : n < 18446744073709551616) (hm : n ≤ most) : yheadF most 10 0 0 (digs n ++ rest) = (n, (digs n).length, 0) := by
  have h := head_digs most rest n 10 0 0 (by omega) (fun h => absurd h (by omega)) (by omega) (digs_le_ten n hn)
  rw [h, if_neg (by simp; omega)]
  simp
theorem numF_whole (most n : Nat) (rest : List Nat) (hn : n < 18446744073709551616) (hm : n ≤ most) : numF most (digs n ++ rest) 0 = (n, rest, 0) := by
  unfold numF
  rw [head_whole most n rest hn hm]
  simp
/-- A text's bytes. -/
def ytxt (s : ByteArray) : List Nat := digs s.size ++ sb s
theorem ytxt_pos (s : ByteArray) : 0 < (ytxt s).length := by
  unfold ytxt; rw [List.length_append]; have := digs_pos s.size; omega
theorem ytxt_byte (s : ByteArray) : ∀ x ∈ ytxt s, x < 256 := by
  intro x hx
  rcases List.mem_append.1 hx with h | h
  · exact digs_byte _ x h
  · exact sb_byte s x h
theorem Read_len (A : Option Addr) (l : List Nat) (n c : Nat) (w : World) (hn : l.length = n) (h : Rd w A l) (hb : n ≤ 1000000) :
    Calls Tryz.prog 60 #[.slice A n c] w fun e w' => ∃ g, e = .returned (.pointer (some ⟨g, 0, none⟩)) ∧ w.heap.size ≤ g ∧ Hid (Rdr w' g l 0) ∧ Hid (Below w.heap.size w w') := by
  rw [← hn] at hb ⊢
  exact Read_any A l c w h hb
end Go.Proofs.YtlhfdhmmdnkojaaGreatDoor
namespace Go.Proofs.YtlhfdhmmdnkojaaGreatDoor
open Go.RowKit Dg
set_option maxRecDepth 100000
theorem OutO.out {w w' : World} {l : List Nat} {e : Ending} (h : OutO w l e w') : yOut w l e w' := by
  obtain ⟨v, he, ho, hb⟩ := h
  rcases ho.2 with ⟨hv, hn⟩ | ⟨g, cap, cur, hv, _⟩
  · obtain rfl := List.eq_nil_of_length_eq_zero hn
    exact ⟨v, he, none, 0, hv, Nat.le_refl _, Rd.nil _ _, hb⟩
  · subst hv
    obtain ⟨h1, h2⟩ := yrd_owned ho
    exact ⟨_, he, _, _, rfl, h1, h2, hb⟩
end Go.Proofs.YtlhfdhmmdnkojaaGreatDoor
namespace Go.Proofs.YtlhfdhmmdnkojaaGreatDoor
open Go.RowKit Dg
set_option maxRecDepth 100000
/-- As Rdr; and the bytes lie in a block below D. -/
def RdrD (D : Nat) (w : World) (g : Nat) (l : List Nat) (e : Nat) : Prop :=
  ∃ A c, Has w g 165 #[.slice A l.length c, .int .i64 (e : Int)] ∧ l.length ≤ c ∧ Rd w A l ∧ (l ≠ [] → ∀ a, A = some a → a.block < D)
theorem RdrD.rdr {D : Nat} {w : World} {g : Nat} {l : List Nat} {e : Nat} (h : RdrD D w g l e) : Rdr w g l e := by
  obtain ⟨A, c, h1, h2, h3, _⟩ := h
  exact ⟨A, c, h1, h2, h3⟩
theorem Rdr.dd {w : World} {g : Nat} {l : List Nat} {e : Nat} (h : Rdr w g l e) : RdrD w.heap.size w g l e := by
  obtain ⟨A, c, h1, h2, h3⟩ := h
  refine ⟨A, c, h1, h2, h3, fun hne a ha => ?_⟩
  obtain ⟨b, off, e, hc⟩ := h3 hne
  rw [e] at ha
  injection ha with ha
  subst ha
  exact World.block_lt_of_cell? w _ (hc 0 (List.length_pos_iff.2 hne))
theorem RdrD.keep {D : Nat} {w w' : World} {g : Nat} {l : List Nat} {e : Nat} (h : RdrD D w g l e) (hg : g < D) (hb : Below D w w') : RdrD D w' g l e := by
  obtain ⟨A, c, h1, h2, h3, h4⟩ := h
  refine ⟨A, c, (hb.block g hg).trans h1, h2, fun hne => ?_, h4⟩
  obtain ⟨b, off, e, hc⟩ := h3 hne
  have hlt : b < D := h4 hne _ e
  refine ⟨b, off, e, fun i hi => ?_⟩
  rw [← hc i hi]
  exact World.cell?_of_block (w := w) (hb.block b hlt)
def StepD (D : Nat) (w : World) (g : Nat) (v : Value) (l : List Nat) (e : Nat) (x : Ending) (w' : World) : Prop :=
  x = .returned v ∧ RdrD D w' g l e ∧ w.grownBy w' (some g)
section
variable {D : Nat} (g : Nat) (l : List Nat) (e : Nat) (w : World)
set_option maxHeartbeats 400000 in
theorem passD_bad (k : Int) (r : Nat) (h : RdrD D w g l 0) (he : r ≠ 0) :
    Calls Tryz.prog 116 #[.pointer (some ⟨g, 0, none⟩), .int .i64 k, .int .i64 r] w (StepD D w g (.bool false) l r) := by
  obtain ⟨A, c, hh, hn, hr, hdd⟩ := h
  have HDD := Lib.hid hdd
  clear hdd
  have c1 : w.cell? ⟨g, 1, none⟩ = some (.int .i64 0) := hh.cell 1
  have f1 := hh.free 1
  have g2 : ((r : Int) != 0) = true := by simp; omega
  have HE := Lib.hid he
  have HH := Lib.hid hh
  have HR := Lib.hid hr
  clear hh hr he
  go_enter Tryz.func116, Tryz.ntmps116
  go_wp2_with fail
  go_ret
  exact ⟨rfl, ⟨A, c, HH.out.put 1 _, hn, HR.out.turn (grown_set w g 1 _) HH.out (rdr_cells _ _ _ _), HDD.out⟩, grown_set w g 1 _⟩
set_option maxHeartbeats 400000 in
theorem passD_good (k : Nat) (h : RdrD D w g l 0) (hk : k ≤ l.length) (hb : l.length ≤ 1000000) :
    Calls Tryz.prog 116 #[.pointer (some ⟨g, 0, none⟩), .int .i64 k, .int .i64 0] w (StepD D w g (.bool true) (l.drop k) 0) := by
  obtain ⟨A, c, hh, hn, hr, hdd⟩ := h
  have HDD := Lib.hid hdd
  clear hdd
  have c0 : w.cell? ⟨g, 0, none⟩ = some (.slice A l.length c) := hh.cell 0
  have c1 : w.cell? ⟨g, 1, none⟩ = some (.int .i64 0) := hh.cell 1
  have f0 := hh.free 0
  have f1 := hh.free 1
  have HH := Lib.hid hh
  have HR := Lib.hid hr
  clear hh hr
  go_enter Tryz.func116, Tryz.ntmps116
  go_wp2_with fail
  all_goals
    go_ret
    have h1 : Has (w.setCell ⟨g, 1, none⟩ (.int .i64 0)) g 165 #[.slice A l.length c, .int .i64 0] := HH.out.put 1 (.int .i64 0)
    have r1 := HR.out.turn (grown_set w g 1 (.int .i64 0)) HH.out (rdr_cells _ _ _ _)
    refine ⟨rfl, ⟨_, _, (by rw [List.length_drop]; exact h1.put 0 _), (by rw [List.length_drop]; omega), ?_, fun hne a ha => by
      have hl0 : l ≠ [] := by rintro rfl; simp at hne
      have h0 := HDD.out hl0
      obtain ⟨b, off, rfl, _⟩ := r1 hl0
      have h2 := h0 _ rfl
      first | (exfalso; omega) | (rw [Option.map_some, Addr.add_lit] at ha; injection ha with ha; subst ha; exact h2) | (simp at ha; subst ha; exact h2)⟩, grown_trans (grown_set w g 1 (.int .i64 0)) (grown_set (w.setCell ⟨g, 1, none⟩ (.int .i64 0)) g 0 _)⟩
    refine Rd.turn ?_ (grown_set (w.setCell ⟨g, 1, none⟩ (.int .i64 0)) g 0 _) h1 (rdr_cells _ _ _ _)
    intro hl
    have hne : l ≠ [] := by rintro rfl; simp at hl
    have hlt : k < l.length := by
      rcases Nat.lt_or_ge k l.length with h | h
      · exact h
      · exact absurd (List.drop_eq_nil_of_le h) hl
    obtain ⟨b, off, rfl, hc⟩ := r1 hne
    first
      | (exfalso; omega)
      | (have r2 := Rd.drop r1 k hl
         rw [Option.map_some, Addr.add_lit]
         exact r2)
set_option maxHeartbeats 400000 in
theorem numberD_any (most : Nat) (h : RdrD D w g l e) (hl : ∀ x ∈ l, x < 256) (hb : l.length ≤ 1000000) :
    Calls Tryz.prog 136 #[.pointer (some ⟨g, 0, none⟩), .int .u64 most] w (StepD D w g (.int .u64 ((numF most l e).1 : Int)) (numF most l e).2.1 (numF most l e).2.2) := by
  have H := Lib.hid h
  obtain ⟨A, c, hh, hn, hr, hdd⟩ := h
  have HDD := Lib.hid hdd
  clear hdd
  have c0 : w.cell? ⟨g, 0, none⟩ = some (.slice A l.length c) := hh.cell 0
  have HR := Lib.hid hr
  have HH := yhead_any A l c most w hb hl hr
  have hle := head_len most 10 0 0 l
  obtain ⟨R, hR⟩ : ∃ R, R = yheadF most 10 0 0 l := ⟨_, rfl⟩
  have hnum : numF most l e = if e ≠ 0 then (0, l, e) else if R.2.2 ≠ 0 then (0, l, R.2.2) else (R.1, l.drop R.2.1, 0) := by rw [hR]; rfl
  rw [hnum]
  rw [← hR] at HH hle
  obtain ⟨r1, r2, r3⟩ := R
  simp only at hle hnum ⊢
  have HE := Lib.hid hnum
  have HHH := Lib.hid HH
  have HL := Lib.hid hle
  clear hh hr hR hnum HH hle hn
  by_cases he : e = 0
  · subst he
    by_cases h3 : r3 = 0
    · subst h3
      rw [if_neg (by simp), if_neg (by simp)]
      have hk : r2 ≤ l.length := by have := HL.out; omega
      go_enter Tryz.func136, Tryz.ntmps136
      go_wp2_with fail
      refine HHH.out.mono ?_
      rintro x w1 ⟨rfl, rfl⟩
      go_wp2_with fail
      refine (passD_good g l w r2 H.out hk hb).mono ?_
      rintro x w1 ⟨rfl, hd, hg⟩
      have HD := Lib.hid hd
      have HG := Lib.hid hg
      clear hd hg
      go_wp2_with fail
      go_ret
      exact ⟨rfl, HD.out, HG.out⟩
    · have HN := Lib.hid h3
      rw [if_neg (by simp), if_pos h3]
      clear h3
      go_enter Tryz.func136, Tryz.ntmps136
      go_wp2_with fail
      refine HHH.out.mono ?_
      rintro x w1 ⟨rfl, rfl⟩
      go_wp2_with fail
      refine (passD_bad g l w _ r3 H.out HN.out).mono ?_
      rintro x w1 ⟨rfl, hd, hg⟩
      have HD := Lib.hid hd
      have HG := Lib.hid hg
      clear hd hg
      go_wp2_with fail
      go_ret
      exact ⟨rfl, HD.out, HG.out⟩
  · have HN := Lib.hid he
    rw [if_pos he]
    clear he
    go_enter Tryz.func136, Tryz.ntmps136
    go_wp2_with fail
    refine HHH.out.mono ?_
    rintro x w1 ⟨rfl, rfl⟩
    go_wp2_with fail
    refine (pass_err g l e w _ _ H.out.rdr HN.out).mono ?_
    rintro x w1 ⟨rfl, rfl⟩
    go_wp2_with fail
    go_ret
    exact ⟨rfl, H.out, grown_refl _ _⟩
set_option maxHeartbeats 400000 in
theorem ByteD_end (h : RdrD D w g [] 0) :
    Calls Tryz.prog 61 #[.pointer (some ⟨g, 0, none⟩)] w (StepD D w g (.int .i64 0) [] 4) := by
  have H := Lib.hid h
  obtain ⟨A, c, hh, hn, hr, hdd⟩ := h
  have HDD := Lib.hid hdd
  clear hdd
  have c0 : w.cell? ⟨g, 0, none⟩ = some (.slice A 0 c) := hh.cell 0
  clear hh hr hn
  go_enter Tryz.func61, Tryz.ntmps61
  go_wp2_with fail
  refine (passD_bad g [] w _ 4 H.out (by omega)).mono ?_
  rintro x w1 ⟨rfl, hd, hg⟩
  have HD := Lib.hid hd
  have HG := Lib.hid hg
  clear hd hg
  go_wp2_with fail
  go_ret
  exact ⟨rfl, HD.out, HG.out⟩
set_option maxHeartbeats 400000 in
theorem ByteD_go (y : Nat) (t : List Nat) (h : RdrD D w g (y :: t) 0) (hy : y < 256) (hb : (y :: t).length ≤ 1000000) :
    Calls Tryz.prog 61 #[.pointer (some ⟨g, 0, none⟩)] w (StepD D w g (.int .i64 y) t 0) := by
  have H := Lib.hid h
  obtain ⟨A, c, hh, hn, hr, hdd⟩ := h
  have HDD := Lib.hid hdd
  clear hdd
  have c0 : w.cell? ⟨g, 0, none⟩ = some (.slice A (y :: t).length c) := hh.cell 0
  have HR := Lib.hid hr
  have HH := Lib.hid hh
  obtain ⟨b, off, rfl, hx⟩ := hr (by simp)
  clear hx hr
  have hp : (((y :: t).length : Int) == 0) = false := by simp; omega
  have hp2 : 0 < (y :: t).length := by simp
  clear hh hn
  generalize hL : (y :: t).length = L at *
  have HL := Lib.hid hL
  clear hL
  go_enter Tryz.func61, Tryz.ntmps61
  go_wp2_with fail
  refine (passD_good g (y :: t) w 1 H.out (by simp) (by rw [HL.out]; exact hb)).mono ?_
  rintro x w1 ⟨rfl, hd, hg⟩
  have cy : w1.cell? ⟨b, off, none⟩ = some (.int .u8 y) := by
    obtain ⟨b', off', e', hc⟩ := (HR.out.turn hg HH.out (rdr_cells _ _ _ _)) (by simp)
    injection e' with e'
    injection e' with e1 e2
    subst e1; subst e2
    exact hc 0 (by simp)
  have HD := Lib.hid hd
  have HG := Lib.hid hg
  clear hd hg
  go_wp2_with fail
  go_ret
  exact ⟨rfl, HD.out, HG.out⟩
set_option maxHeartbeats 400000 in
theorem ByteD_err (h : RdrD D w g l e) (he : e ≠ 0) :
    Calls Tryz.prog 61 #[.pointer (some ⟨g, 0, none⟩)] w (StepD D w g (.int .i64 0) l e) := by
  have H := Lib.hid h
  obtain ⟨A, c, hh, hn, hr, hdd⟩ := h
  have HDD := Lib.hid hdd
  clear hdd
  have c0 : w.cell? ⟨g, 0, none⟩ = some (.slice A l.length c) := hh.cell 0
  have HN := Lib.hid he
  clear hh hr hn he
  by_cases hp : l.length = 0
  all_goals
    have HP := Lib.hid hp
    first | (have hq : ((l.length : Int) == 0) = true := beq_iff_eq.2 (by omega)) | (have hq : ((l.length : Int) == 0) = false := beq_eq_false_iff_ne.2 (by omega))
    clear hp
    go_enter Tryz.func61, Tryz.ntmps61
    go_wp2_with fail
    refine (pass_err g l e w _ _ H.out.rdr HN.out).mono ?_
    rintro x w1 ⟨rfl, rfl⟩
    go_wp2_with fail
    go_ret
    exact ⟨rfl, H.out, grown_refl _ _⟩
theorem ByteD_get (h : RdrD D w g l e) (hl : ∀ x ∈ l, x < 256) (hb : l.length ≤ 1000000) :
    Calls Tryz.prog 61 #[.pointer (some ⟨g, 0, none⟩)] w (StepD D w g (.int .i64 (byteF l e).1) (byteF l e).2.1 (byteF l e).2.2) := by
  by_cases he : e = 0
  · subst he
    rcases l with _ | ⟨y, t⟩
    · exact ByteD_end g w h
    · exact ByteD_go g w y t h (hl y (by simp)) hb
  · rw [byteF_err l he]
    exact ByteD_err g l e w h he
set_option maxHeartbeats 800000 in
theorem TextD_get (most : Int) (h : RdrD D w g l e) (hl : ∀ x ∈ l, x < 256) (hb : l.length ≤ 1000000) :
    Calls Tryz.prog 138 #[.pointer (some ⟨g, 0, none⟩), .int .i64 most] w (StepD D w g (.string (bs (textF most l e).1)) (textF most l e).2.1 (textF most l e).2.2) := by
  have H := Lib.hid h
  obtain ⟨A, c, hh, hn, hr, hdd⟩ := h
  have HDD := Lib.hid hdd
  clear hdd
  have c0 : w.cell? ⟨g, 0, none⟩ = some (.slice A l.length c) := hh.cell 0
  have HR := Lib.hid hr
  have HAS := Lib.hid hh
  have HH := yhead_any A l c 9223372036854775807 w hb hl hr
  have hle := head_len 9223372036854775807 10 0 0 l
  have hbg := head_big 9223372036854775807 10 0 0 l
  obtain ⟨R, hR⟩ : ∃ R, R = yheadF 9223372036854775807 10 0 0 l := ⟨_, rfl⟩
  have hnum : textF most l e = if e ≠ 0 then ([], l, e) else if R.2.2 ≠ 0 then ([], l, R.2.2) else if most < R.1 then ([], l, 2) else if (l.length : Int) - R.2.1 < R.1 then ([], l, 4) else ((l.drop R.2.1).take R.1, l.drop (R.2.1 + R.1), 0) := by rw [hR]; rfl
  rw [hnum]
  rw [← hR] at HH hle hbg
  obtain ⟨r1, r2, r3⟩ := R
  simp only at hle hnum hbg ⊢
  have HHH := Lib.hid HH
  have hk : r2 ≤ l.length := by omega
  clear hh hr hR hnum HH hle
  by_cases he : e = 0
  · subst he
    rw [if_neg (by simp)]
    by_cases h3 : r3 = 0
    · subst h3
      rw [if_neg (by simp)]
      by_cases hm : most < r1
      · rw [if_pos hm]
        go_enter Tryz.func138, Tryz.ntmps138
        go_wp2_with fail
        refine HHH.out.mono ?_
        rintro x w1 ⟨rfl, rfl⟩
        go_wp2_with fail
        refine (passD_bad g l w _ 2 H.out (by omega)).mono ?_
        rintro x w1 ⟨rfl, hd, hg⟩
        have HD := Lib.hid hd
        have HG := Lib.hid hg
        clear hd hg
        go_wp2_with fail
        go_ret
        exact ⟨rfl, HD.out, HG.out⟩
      · rw [if_neg hm]
        by_cases hs : (l.length : Int) - r2 < r1
        · rw [if_pos hs]
          go_enter Tryz.func138, Tryz.ntmps138
          go_wp2_with fail
          refine HHH.out.mono ?_
          rintro x w1 ⟨rfl, rfl⟩
          go_wp2_with fail
          refine (passD_bad g l w _ 4 H.out (by omega)).mono ?_
          rintro x w1 ⟨rfl, hd, hg⟩
          have HD := Lib.hid hd
          have HG := Lib.hid hg
          clear hd hg
          go_wp2_with fail
          go_ret
          exact ⟨rfl, HD.out, HG.out⟩
        · rw [if_neg hs]
          go_enter Tryz.func138, Tryz.ntmps138
          go_wp2_with fail
          refine HHH.out.mono ?_
          rintro x w1 ⟨rfl, rfl⟩
          go_wp2_with fail
          refine (passD_good g l w (r2 + r1) H.out (by omega) hb).mono ?_
          rintro x w1 ⟨rfl, hd, hg⟩
          have HD := Lib.hid hd
          have HG := Lib.hid hg
          have HT := Lib.hid (HR.out.turn hg HAS.out (rdr_cells _ _ _ _))
          clear hd hg
          go_wp2_with fail
          · rw [conv_len w1 _ ((l.drop r2).take r1) r1 _ (by rw [List.length_take, List.length_drop]; omega) (by rw [List.drop_eq_nil_of_le (by omega), List.take_nil]; exact Rd.nil _ _)]
            go_wp2_with fail
            go_ret
            exact ⟨rfl, HD.out, HG.out⟩
          · rw [conv_len w1 _ ((l.drop r2).take r1) r1 _ (by rw [List.length_take, List.length_drop]; omega) (HT.out.cut r2 r1)]
            go_wp2_with fail
            go_ret
            exact ⟨rfl, HD.out, HG.out⟩
    · have HN := Lib.hid h3
      rw [if_pos h3]
      have q3 : ((r3 : Int) != 0) = true := by rw [bne_iff_ne]; omega
      clear h3
      go_enter Tryz.func138, Tryz.ntmps138
      go_wp2_with fail
      refine HHH.out.mono ?_
      rintro x w1 ⟨rfl, rfl⟩
      go_wp2_with fail
      refine (passD_bad g l w _ r3 H.out HN.out).mono ?_
      rintro x w1 ⟨rfl, hd, hg⟩
      have HD := Lib.hid hd
      have HG := Lib.hid hg
      clear hd hg
      go_wp2_with fail
      go_ret
      exact ⟨rfl, HD.out, HG.out⟩
  · have HN := Lib.hid he
    rw [if_pos he]
    clear he
    by_cases hm : most < r1 <;> by_cases hs : (l.length : Int) - r2 < r1 <;> by_cases h3 : r3 = 0
    all_goals
      have H3 := Lib.hid h3
      first | (have q3 : ((r3 : Int) != 0) = true := by rw [bne_iff_ne]; omega) | (have q3 : ((r3 : Int) != 0) = false := by rw [bne_eq_false_iff_eq]; omega)
      clear h3
      go_enter Tryz.func138, Tryz.ntmps138
      go_wp2_with fail
      refine HHH.out.mono ?_
      rintro x w1 ⟨rfl, rfl⟩
      go_wp2_with fail
      all_goals
        refine (pass_err g l e w _ _ H.out.rdr HN.out).mono ?_
        rintro x w1 ⟨rfl, rfl⟩
        go_wp2_with fail
        go_ret
        exact ⟨rfl, H.out, grown_refl _ _⟩
end
end Go.Proofs.YtlhfdhmmdnkojaaGreatDoor
namespace Go.Proofs.YtlhfdhmmdnkojaaGreatDoor
open Go.RowKit Dg
set_option maxRecDepth 100000
set_option maxHeartbeats 400000 in
theorem yNumber_any (A : Option Addr) (l : List Nat) (c : Nat) (n : Nat) (w : World) (hn : l.length ≤ c) (hA : Rd w A l) (hb : l.length ≤ 900000) (hn63 : (n : Int) ≤ 9223372036854775807) :
    Calls Tryz.prog 54 #[.slice A l.length c, .int .i64 n] w (yOut w (l ++ digs n)) := by
  have hbig : n < ybig := by unfold ybig; omega
  have ht := digs_le_ten n hbig
  have hp := digs_pos n
  go_enter Tryz.func54, Tryz.ntmps54
  go_wp2_with fail
  refine (ydigits_any n _ hbig).mono ?_
  intro e w1 hd
  obtain ⟨A', d, rfl, hr, hb1⟩ := hd.out
  have HR := Lib.hid hr
  clear hr hd
  go_wp2_with fail
  refine (ybehind_any A l c A' (digs n) d _ hn (hA.below hb1) HR.out hp (by omega)).mono ?_
  intro e w2 ho
  have HO := Lib.hid ho
  clear ho
  obtain ⟨v, rfl, hv⟩ := HO.out
  have HV := Lib.hid hv
  clear hv
  go_wp2_with fail
  go_ret
  exact ⟨v, rfl, HV.out.yafter hb1⟩
end Go.Proofs.YtlhfdhmmdnkojaaGreatDoor
namespace Go.Proofs.YtlhfdhmmdnkojaaGreatDoor
open Go.RowKit Dg
set_option maxRecDepth 100000
theorem own_down {B B' : Nat} {w : World} {v : Value} {l : List Nat} (h : Own B w v l) (hb : B' ≤ B) : Own B' w v l := by
  obtain ⟨h1, h2⟩ := h
  refine ⟨h1, ?_⟩
  rcases h2 with h2 | ⟨g, cap, cur, e, hg, r⟩
  · exact .inl h2
  · exact .inr ⟨g, cap, cur, e, Nat.le_trans hb hg, r⟩
end Go.Proofs.YtlhfdhmmdnkojaaGreatDoor
