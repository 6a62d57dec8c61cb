/-
  The law's few works, and whether works are the same.
-/
import Derived.Test.YtjkmbggaoinkdaaDoorWRight
namespace Go.Proofs.YtjkmbggaoinkdaaDoor
open Go.RowKit Dg
set_option maxRecDepth 100000
theorem wstep_app {P : Program} {ops : Array Oper} {o : Oper} {a : Act} {w : World} {K : Act → World → Prop} {Q : Exit → Act → World → Prop} {E : Prop} (hgd : o.guard = none) (s x : Operand) (t tx : TypeId)
    (ho : o.op = .call { callee := .builtin .append, args := #[s, x], argTypes := #[t, tx] }) (v xv : Value) (hs : a.eval s = v) (hx : a.eval x = xv)
    (hrun : ∃ R W', (Builtin.append_ #[t, tx] o.type #[v, xv]).run P w = .ok R W' ∧ K (a.put o.dst R) W') :
    if Region.wanted o (yielded ops a.tmps) = true then Oper.wp P o a w K Q else E := by
  have hw : Region.wanted o (yielded ops a.tmps) = true := by simp [Region.wanted, hgd]
  rw [if_pos hw]
  obtain ⟨R, W', hrun, h⟩ := hrun
  unfold Oper.wp execOp
  simp only [ho, resolve, invoke, builtin, Sem.run_bind, Sem.run_pure, Result.andThen_ok, List.map_toArray, List.map_cons, List.map_nil, hs, hx, hrun]
  exact h
/-- The first 40 bytes. -/
def nm40 (s : ByteArray) : ByteArray := if 40 < s.size then s.extract 0 40 else s
theorem nm40_size (s : ByteArray) : (nm40 s).size ≤ 40 := by
  unfold nm40
  split
  · simp; omega
  · omega
set_option maxHeartbeats 400000 in
theorem name11_any (s : ByteArray) (w : World) (hs : s.size ≤ 140737488355328) :
    Calls Tryd.prog 37 #[.string s] w fun e w' => e = .returned (.string (nm40 s)) ∧ w' = w := by
  by_cases hz : 40 < s.size
  · have HF : Hid (s.extract 0 40 = nm40 s) := by show _ = _; unfold nm40; rw [if_pos hz]
    go_enter Tryd.func37, Tryd.ntmps37
    go_wp2_with fail
    go_ret
    exact ⟨by rw [← HF.out]; rfl, rfl⟩
  · have HF : Hid (nm40 s = s) := by show _ = _; unfold nm40; rw [if_neg hz]
    go_enter Tryd.func37, Tryd.ntmps37
    go_wp2_with fail
    go_ret
    exact ⟨by rw [HF.out]; rfl, rfl⟩
/-- A work of short texts; the first k of works so. -/
def Wk.few (x : Wk) : Wk := ⟨nm40 x.t, x.d, nm40 x.k⟩
def fewTo (L : List Wk) (k : Nat) : List Wk := (L.take k).map Wk.few
theorem fewTo_succ (L : List Wk) (k : Nat) (h : k < L.length) : fewTo L (k + 1) = fewTo L k ++ [L[k].few] := by
  unfold fewTo
  rw [List.take_succ_eq_append_getElem h, List.map_append]
  rfl
theorem fewTo_len (L : List Wk) (k : Nat) : (fewTo L k).length ≤ k := by
  unfold fewTo; rw [List.length_map, List.length_take]; omega
def fewL (L : List Wk) : List Wk := fewTo L 6
theorem fewTo_all (L : List Wk) (k : Nat) (h : k = L.length) (h6 : k ≤ 6) : fewTo L k = fewL L := by
  unfold fewL fewTo
  rw [List.take_of_length_le (by omega), List.take_of_length_le (by omega)]
/-- All texts of works are short. -/
def Short (L : List Wk) : Prop := ∀ x ∈ L, x.t.size ≤ 40 ∧ x.k.size ≤ 40
theorem fewL_short (L : List Wk) : Short (fewL L) := fun x hx => by
  unfold fewL fewTo at hx
  obtain ⟨y, _, rfl⟩ := List.mem_map.1 hx
  exact ⟨nm40_size _, nm40_size _⟩
theorem fewL_len (L : List Wk) : (fewL L).length ≤ 6 := fewTo_len L 6
set_option maxHeartbeats 4000000 in
theorem few_any (A : Option Addr) (L : List Wk) (n c : Nat) (w : World) (hn : L.length = n) (hnc : n ≤ c) (_hcm : c ≤ maxLen) (hA : WRow w A L) (hf : ∀ x ∈ L, x.t.size ≤ 140737488355328 ∧ x.k.size ≤ 140737488355328) :
    Calls Tryd.prog 12 #[.slice A n c] w fun e w' => ∃ v, e = .returned v ∧ Hid (OwnW w.heap.size w' v (fewL L)) ∧ Hid (Below w.heap.size w w') := by
  have HN := Lib.hid hn
  have HA := Lib.hid hA
  have HF := Lib.hid hf
  clear hn hA hf
  go_enter Tryd.func12, Tryd.ntmps12
  go_wp2_with fail
  go_loopw [3, 4] (fun g i wr => ∃ (k : Nat) (u : Value), k ≤ n ∧ k ≤ 6 ∧ i = .int .i64 k ∧ u = g ∧ Hid (OwnW w.heap.size wr u (fewTo L k)) ∧ Hid (Below w.heap.size w wr)) (fun _ i _ => 6 - (intOf i).toNat)
  case atStart => exact ⟨0, _, by omega, by omega, rfl, rfl, ownW_nil _ _, Below.refl _ _⟩
  case round =>
    obtain ⟨k, u, hk, hk6, rfl, rfl, HO, HB⟩ := hrel
    by_cases hlt : k < n
    · by_cases h6 : k < 6
      · have hkl : k < L.length := by rw [HN.out]; exact hlt
        obtain ⟨b, off, rfl, hc⟩ := (HA.out.below HB.out) (by intro e; rw [e] at hkl; simp at hkl)
        obtain ⟨c0, c1, c2⟩ := hc k hkl
        have hx := HF.out L[k] (List.getElem_mem hkl)
        have HS := Lib.hid (fewTo_succ L k hkl)
        have hkz : (k : Int) < (n : Int) := by omega
        have hkz6 : (k : Int) < 6 := by omega
        have HLE := Lib.hid (fewTo_len L k)
        have HC3 : Hid (∀ W, Below w.heap.size w W → W.cell? ⟨b, off + k * 3, none⟩ = some (.string L[k].t) ∧ W.cell? ⟨b, off + k * 3 + 1, none⟩ = some (.bool L[k].d) ∧ W.cell? ⟨b, off + k * 3 + 2, none⟩ = some (.string L[k].k)) := fun W hW => by
          obtain ⟨b2, off2, e2, hc2⟩ := (HA.out.below hW) (by intro e; rw [e] at hkl; simp at hkl)
          cases e2
          exact hc2 k hkl
        clear hc
        generalize L[k] = x at *
        obtain ⟨xt, xd, xk⟩ := x
        simp only [Wk.few] at c0 c1 c2 hx HS HC3
        generalize fewTo L k = M at *
        have HNA := Lib.hid (fun W => name11_any xt W hx.1)
        have HNB := Lib.hid (fun W => name11_any xk W hx.2)
        generalize nm40 xt = nt at *
        generalize nm40 xk = nk at *
        have HAP := Lib.hid (appW wr.drew wr.drew.heap.size rfl w.heap.size u M ⟨nt, xd, nk⟩ (HO.out.drew) (HB.out.drew).size (by have := HLE.out; omega))
        have hb0 : Hid (Below wr.heap.size wr (wr.drew.alloc (.cells #[.string nt, .bool xd, .string nk] 75))) := ((Below.refl _ wr).drew).alloc (by simp) _
        clear hx
        have hS0 : (fun X : World => X.cell? ⟨b, off + k * 3, none⟩ = some (.string xt) ∧ X.cell? ⟨b, off + k * 3 + 1, none⟩ = some (.bool xd) ∧ X.cell? ⟨b, off + k * 3 + 2, none⟩ = some (.string xk)) wr.drew := ⟨c0, c1, c2⟩
        go_wp2_with fail
        refine wp_region_held_drew (S := (fun X : World => X.cell? ⟨b, off + k * 3, none⟩ = some (.string xt) ∧ X.cell? ⟨b, off + k * 3 + 1, none⟩ = some (.bool xd) ∧ X.cell? ⟨b, off + k * 3 + 2, none⟩ = some (.string xk))) (by kernel_rfl) hS0 (fun _ => ?_)
        (refine wpAnyH_take (i := 0) (v := ?_) rfl (by kernel_rfl) (by kernel_rfl) (by kernel_rfl) (fun _ _ _ h => h) (Or.inl ⟨by rfl, ?_⟩) (by assumption) ?_; rotate_left; (intro w hSw; (try dsimp only at hSw); go_simp; try with_reducible rfl); ((try simp only [List.getElem_toArray]); (try simp only [List.getElem_cons_succ]); (try simp only [List.getElem_cons_zero]); (try simp only [Act.put]); (try simp only [List.setIfInBounds_toArray]); (try simp only [List.set_cons_succ]); (try simp only [List.set_cons_zero])))
        (refine wpAnyH_take (i := 1) (v := ?_) rfl (by kernel_rfl) (by kernel_rfl) (by kernel_rfl) (fun _ _ _ h => h) (Or.inl ⟨by rfl, ?_⟩) (by assumption) ?_; rotate_left; (intro w hSw; (try dsimp only at hSw); go_simp; try with_reducible rfl); ((try simp only [List.getElem_toArray]); (try simp only [List.getElem_cons_succ]); (try simp only [List.getElem_cons_zero]); (try simp only [Act.put]); (try simp only [List.setIfInBounds_toArray]); (try simp only [List.set_cons_succ]); (try simp only [List.set_cons_zero])))
        (refine wpAnyH_take (i := 2) (v := ?_) rfl (by kernel_rfl) (by kernel_rfl) (by kernel_rfl) (fun _ _ _ h => h) (Or.inl ⟨by rfl, ?_⟩) (by assumption) ?_; rotate_left; (intro w hSw; (try dsimp only at hSw); go_simp; try with_reducible rfl); ((try simp only [List.getElem_toArray]); (try simp only [List.getElem_cons_succ]); (try simp only [List.getElem_cons_zero]); (try simp only [Act.put]); (try simp only [List.setIfInBounds_toArray]); (try simp only [List.set_cons_succ]); (try simp only [List.set_cons_zero])))
        (refine wpAnyH_take (i := 3) (v := ?_) rfl (by kernel_rfl) (by kernel_rfl) (by kernel_rfl) (fun _ _ _ h => h) (Or.inl ⟨by rfl, ?_⟩) (by assumption) ?_; rotate_left; (intro w hSw; (try dsimp only at hSw); go_simp; try with_reducible rfl); ((try simp only [List.getElem_toArray]); (try simp only [List.getElem_cons_succ]); (try simp only [List.getElem_cons_zero]); (try simp only [Act.put]); (try simp only [List.setIfInBounds_toArray]); (try simp only [List.set_cons_succ]); (try simp only [List.set_cons_zero])))
        (refine wpAnyH_take (i := 4) (v := ?_) rfl (by kernel_rfl) (by kernel_rfl) (by kernel_rfl) (fun _ _ _ h => h) (Or.inl ⟨by rfl, ?_⟩) (by assumption) ?_; rotate_left; (intro w hSw; (try dsimp only at hSw); go_simp; try with_reducible rfl); ((try simp only [List.getElem_toArray]); (try simp only [List.getElem_cons_succ]); (try simp only [List.getElem_cons_zero]); (try simp only [Act.put]); (try simp only [List.setIfInBounds_toArray]); (try simp only [List.set_cons_succ]); (try simp only [List.set_cons_zero])))
        (refine wpAnyH_take (i := 5) (v := ?_) rfl (by kernel_rfl) (by kernel_rfl) (by kernel_rfl) (fun _ _ _ h => h) (Or.inl ⟨by rfl, ?_⟩) (by assumption) ?_; rotate_left; (intro w hSw; (try dsimp only at hSw); go_simp; try with_reducible rfl); ((try simp only [List.getElem_toArray]); (try simp only [List.getElem_cons_succ]); (try simp only [List.getElem_cons_zero]); (try simp only [Act.put]); (try simp only [List.setIfInBounds_toArray]); (try simp only [List.set_cons_succ]); (try simp only [List.set_cons_zero])))
        (refine wpAnyH_take (i := 7) (v := ?_) rfl (by kernel_rfl) (by kernel_rfl) (by kernel_rfl) (fun _ _ _ h => h) (Or.inl ⟨by rfl, ?_⟩) (by assumption) ?_; rotate_left; (intro w hSw; (try dsimp only at hSw); go_simp; try with_reducible rfl); ((try simp only [List.getElem_toArray]); (try simp only [List.getElem_cons_succ]); (try simp only [List.getElem_cons_zero]); (try simp only [Act.put]); (try simp only [List.setIfInBounds_toArray]); (try simp only [List.set_cons_succ]); (try simp only [List.set_cons_zero])))
        (refine wpAnyH_take (i := 8) (v := ?_) rfl (by kernel_rfl) (by kernel_rfl) (by kernel_rfl) (fun _ _ _ h => h) (Or.inl ⟨by rfl, ?_⟩) (by assumption) ?_; rotate_left; (intro w hSw; (try dsimp only at hSw); go_simp; try with_reducible rfl); ((try simp only [List.getElem_toArray]); (try simp only [List.getElem_cons_succ]); (try simp only [List.getElem_cons_zero]); (try simp only [Act.put]); (try simp only [List.setIfInBounds_toArray]); (try simp only [List.set_cons_succ]); (try simp only [List.set_cons_zero])))
        (refine wpAnyH_take (i := 9) (v := ?_) rfl (by kernel_rfl) (by kernel_rfl) (by kernel_rfl) (fun _ _ _ h => h) (Or.inl ⟨by rfl, ?_⟩) (by assumption) ?_; rotate_left; (intro w hSw; (try dsimp only at hSw); go_simp; try with_reducible rfl); ((try simp only [List.getElem_toArray]); (try simp only [List.getElem_cons_succ]); (try simp only [List.getElem_cons_zero]); (try simp only [Act.put]); (try simp only [List.setIfInBounds_toArray]); (try simp only [List.set_cons_succ]); (try simp only [List.set_cons_zero])))
        (refine wpAnyH_take (i := 10) (v := ?_) rfl (by kernel_rfl) (by kernel_rfl) (by kernel_rfl) (fun _ _ _ h => h) (Or.inl ⟨by rfl, ?_⟩) (by assumption) ?_; rotate_left; (intro w hSw; (try dsimp only at hSw); go_simp; try with_reducible rfl); ((try simp only [List.getElem_toArray]); (try simp only [List.getElem_cons_succ]); (try simp only [List.getElem_cons_zero]); (try simp only [Act.put]); (try simp only [List.setIfInBounds_toArray]); (try simp only [List.set_cons_succ]); (try simp only [List.set_cons_zero])))
        (refine wpAnyH_take (i := 11) (v := ?_) rfl (by kernel_rfl) (by kernel_rfl) (by kernel_rfl) (fun _ _ _ h => h) (Or.inl ⟨by rfl, ?_⟩) (by assumption) ?_; rotate_left; (intro w hSw; (try dsimp only at hSw); go_simp; try with_reducible rfl); ((try simp only [List.getElem_toArray]); (try simp only [List.getElem_cons_succ]); (try simp only [List.getElem_cons_zero]); (try simp only [Act.put]); (try simp only [List.setIfInBounds_toArray]); (try simp only [List.set_cons_succ]); (try simp only [List.set_cons_zero])))
        (refine wpAnyH_take (i := 12) (v := ?_) rfl (by kernel_rfl) (by kernel_rfl) (by kernel_rfl) (fun _ _ _ h => h) (Or.inl ⟨by rfl, ?_⟩) (by assumption) ?_; rotate_left; (intro w hSw; (try dsimp only at hSw); go_simp; try with_reducible rfl); ((try simp only [List.getElem_toArray]); (try simp only [List.getElem_cons_succ]); (try simp only [List.getElem_cons_zero]); (try simp only [Act.put]); (try simp only [List.setIfInBounds_toArray]); (try simp only [List.set_cons_succ]); (try simp only [List.set_cons_zero])))
        (refine wpAnyH_take (i := 13) (v := ?_) rfl (by kernel_rfl) (by kernel_rfl) (by kernel_rfl) (fun _ _ _ h => h) (Or.inl ⟨by rfl, ?_⟩) (by assumption) ?_; rotate_left; (intro w hSw; (try dsimp only at hSw); go_simp; try with_reducible rfl); ((try simp only [List.getElem_toArray]); (try simp only [List.getElem_cons_succ]); (try simp only [List.getElem_cons_zero]); (try simp only [Act.put]); (try simp only [List.setIfInBounds_toArray]); (try simp only [List.set_cons_succ]); (try simp only [List.set_cons_zero])))
        (refine wpAnyH_take (i := 14) (v := ?_) rfl (by kernel_rfl) (by kernel_rfl) (by kernel_rfl) (fun _ _ _ h => h) (Or.inl ⟨by rfl, ?_⟩) (by assumption) ?_; rotate_left; (intro w hSw; (try dsimp only at hSw); go_simp; try with_reducible rfl); ((try simp only [List.getElem_toArray]); (try simp only [List.getElem_cons_succ]); (try simp only [List.getElem_cons_zero]); (try simp only [Act.put]); (try simp only [List.setIfInBounds_toArray]); (try simp only [List.set_cons_succ]); (try simp only [List.set_cons_zero])))
        (refine wpAnyH_take (i := 15) (v := ?_) rfl (by kernel_rfl) (by kernel_rfl) (by kernel_rfl) (fun _ _ _ h => h) (Or.inl ⟨by rfl, ?_⟩) (by assumption) ?_; rotate_left; (intro w hSw; (try dsimp only at hSw); go_simp; try with_reducible rfl); ((try simp only [List.getElem_toArray]); (try simp only [List.getElem_cons_succ]); (try simp only [List.getElem_cons_zero]); (try simp only [Act.put]); (try simp only [List.setIfInBounds_toArray]); (try simp only [List.set_cons_succ]); (try simp only [List.set_cons_zero])))
        (refine wpAnyH_take (i := 16) (v := ?_) rfl (by kernel_rfl) (by kernel_rfl) (by kernel_rfl) (fun _ _ _ h => h) (Or.inl ⟨by rfl, ?_⟩) (by assumption) ?_; rotate_left; (intro w hSw; (try dsimp only at hSw); go_simp; try with_reducible rfl); ((try simp only [List.getElem_toArray]); (try simp only [List.getElem_cons_succ]); (try simp only [List.getElem_cons_zero]); (try simp only [Act.put]); (try simp only [List.setIfInBounds_toArray]); (try simp only [List.set_cons_succ]); (try simp only [List.set_cons_zero])))
        refine wpAnyH_ready (rs := [6]) (by kernel_rfl) (by simp) ?_
        refine AllReadyH.cons rfl (fun K2 hK2 => ?_) AllReadyH.nil
        go_simp
        refine (HNA.out _).mono ?_
        rintro e x6 ⟨rfl, rfl⟩
        go_wp2_with fail
        refine hK2.out _ _ (by (try dsimp only); exact hS0) (fun _ => ?_)
        clear hK2 K2
        (try simp only [List.getElem_toArray]); (try simp only [List.getElem_cons_succ]); (try simp only [List.getElem_cons_zero]); (try simp only [Act.put]); (try simp only [List.setIfInBounds_toArray]); (try simp only [List.set_cons_succ]); (try simp only [List.set_cons_zero])
        refine wpAnyH_ready (rs := [17]) (by kernel_rfl) (by simp) ?_
        refine AllReadyH.cons rfl (fun K2 hK2 => ?_) AllReadyH.nil
        go_simp
        refine (HNB.out _).mono ?_
        rintro e x17 ⟨rfl, rfl⟩
        go_wp2_with fail
        refine hK2.out _ _ (by (try dsimp only); exact hS0) (fun _ => ?_)
        clear hK2 K2
        (try simp only [List.getElem_toArray]); (try simp only [List.getElem_cons_succ]); (try simp only [List.getElem_cons_zero]); (try simp only [Act.put]); (try simp only [List.setIfInBounds_toArray]); (try simp only [List.set_cons_succ]); (try simp only [List.set_cons_zero])
        (refine wpAnyH_take (i := 18) (v := ?_) rfl (by kernel_rfl) (by kernel_rfl) (by kernel_rfl) (fun _ _ _ h => h) (Or.inl ⟨by rfl, ?_⟩) (by assumption) ?_; rotate_left; (intro w hSw; (try dsimp only at hSw); go_simp; try with_reducible rfl); ((try simp only [List.getElem_toArray]); (try simp only [List.getElem_cons_succ]); (try simp only [List.getElem_cons_zero]); (try simp only [Act.put]); (try simp only [List.setIfInBounds_toArray]); (try simp only [List.set_cons_succ]); (try simp only [List.set_cons_zero])))
        have hS1 : (fun X : World => X.cell? ⟨b, off + k * 3, none⟩ = some (.string xt) ∧ X.cell? ⟨b, off + k * 3 + 1, none⟩ = some (.bool xd) ∧ X.cell? ⟨b, off + k * 3 + 2, none⟩ = some (.string xk)) (wr.drew.alloc (.cells #[.string nt, .bool xd, .string nk] 75)) := ⟨keepW hb0.out c0, keepW hb0.out c1, keepW hb0.out c2⟩
        refine wpAnyH_ready (rs := [19]) (by kernel_rfl) (by simp) ?_
        refine AllReadyH.cons rfl (fun K2 hK2 => ?_) AllReadyH.nil
        go_simp
        refine hK2.out _ _ (by (try dsimp only); exact hS1) (fun _ => ?_)
        clear hK2 K2
        (try simp only [List.getElem_toArray]); (try simp only [List.getElem_cons_succ]); (try simp only [List.getElem_cons_zero]); (try simp only [Act.put]); (try simp only [List.setIfInBounds_toArray]); (try simp only [List.set_cons_succ]); (try simp only [List.set_cons_zero])
        refine wpAnyH_ready (rs := [20]) (by kernel_rfl) (by simp) ?_
        refine AllReadyH.cons rfl (fun K2 hK2 => ?_) AllReadyH.nil
        obtain ⟨R20, W20, hrun20, ho20, hb20⟩ := HAP.out
        refine wstep_app (by rfl) _ _ _ _ (by rfl) (u) (.slice (some ⟨wr.drew.heap.size, 0, none⟩) 1 1) (by rfl) (by rfl) ⟨R20, W20, hrun20, ?_⟩
        have HB20 : Hid (Below w.heap.size w W20) := HB.out.drew.trans hb20
        have hS2 : (fun X : World => X.cell? ⟨b, off + k * 3, none⟩ = some (.string xt) ∧ X.cell? ⟨b, off + k * 3 + 1, none⟩ = some (.bool xd) ∧ X.cell? ⟨b, off + k * 3 + 2, none⟩ = some (.string xk)) W20 := ⟨(HC3.out W20 HB20.out).1, (HC3.out W20 HB20.out).2.1, (HC3.out W20 HB20.out).2.2⟩
        refine hK2.out _ _ (by (try dsimp only); exact hS2) (fun _ => ?_)
        clear hK2 K2 hrun20
        (try simp only [List.getElem_toArray]); (try simp only [List.getElem_cons_succ]); (try simp only [List.getElem_cons_zero]); (try simp only [Act.put]); (try simp only [List.setIfInBounds_toArray]); (try simp only [List.set_cons_succ]); (try simp only [List.set_cons_zero])
        (refine wpAnyH_take (i := 21) (v := ?_) rfl (by kernel_rfl) (by kernel_rfl) (by kernel_rfl) (fun _ _ _ h => h) (Or.inl ⟨by rfl, ?_⟩) (by assumption) ?_; rotate_left; (intro w hSw; (try dsimp only at hSw); go_simp; try with_reducible rfl); ((try simp only [List.getElem_toArray]); (try simp only [List.getElem_cons_succ]); (try simp only [List.getElem_cons_zero]); (try simp only [Act.put]); (try simp only [List.setIfInBounds_toArray]); (try simp only [List.set_cons_succ]); (try simp only [List.set_cons_zero])))
        refine wpAnyH_done (by kernel_rfl) ?_ _
        go_wp2_with fail
        go_roundw
        case rel => exact ⟨k + 1, _, by omega, by omega, by go_num, rfl, by rw [HS.out]; exact ho20, HB20⟩
        case measure => simp [intOf]; omega
      · obtain rfl : k = 6 := by omega
        have hkz : (6 : Int) < (n : Int) := by omega
        go_wp2_with fail
        go_ret
        exact ⟨_, rfl, HO, HB⟩
    · obtain rfl : k = n := by omega
      have HE := Lib.hid (fewTo_all L k (by rw [HN.out]) hk6)
      go_wp2_with fail
      go_ret
      exact ⟨_, rfl, by rw [← HE.out]; exact HO.out, HB⟩
/-- Are two works the same? -/
def Wk.eqb (x y : Wk) : Bool := x.t.toList == y.t.toList && x.d == y.d && x.k.toList == y.k.toList
theorem toList_inj {s t : ByteArray} (h : s.toList = t.toList) : s = t := by
  rw [ByteArray.toList_eq, ByteArray.toList_eq] at h
  obtain ⟨⟨a⟩⟩ := s
  obtain ⟨⟨b⟩⟩ := t
  simp at h
  rw [h]
theorem Wk.eqb_self (x : Wk) : x.eqb x = true := by simp [Wk.eqb]
theorem Wk.eqb_iff (x y : Wk) : x.eqb y = true ↔ x = y := by
  constructor
  · intro h
    simp only [Wk.eqb, Bool.and_eq_true, beq_iff_eq] at h
    obtain ⟨⟨h1, h2⟩, h3⟩ := h
    obtain ⟨xt, xd, xk⟩ := x
    obtain ⟨yt, yd, yk⟩ := y
    simp only at h1 h2 h3
    rw [toList_inj h1, h2, toList_inj h3]
  · rintro rfl; exact Wk.eqb_self x
def sameTo (L M : List Wk) (k : Nat) : Bool := (List.range k).all fun i => match L[i]?, M[i]? with | some x, some y => x.eqb y | _, _ => true
def sameW (L M : List Wk) : Bool := decide (L.length = M.length) && sameTo L M L.length
theorem sameTo_succ {L M : List Wk} {k : Nat} (h : k < L.length) (h2 : k < M.length) : sameTo L M (k + 1) = (sameTo L M k && L[k].eqb M[k]) := by
  unfold sameTo; rw [List.range_succ, List.all_append]
  simp [List.getElem?_eq_getElem h, List.getElem?_eq_getElem h2]
theorem sameTo_false {L M : List Wk} {k : Nat} (h : k < L.length) (h2 : k < M.length) (he : L[k].eqb M[k] = false) : sameTo L M L.length = false := by
  unfold sameTo; rw [List.all_eq_false]
  exact ⟨k, List.mem_range.2 h, by simp [List.getElem?_eq_getElem h, List.getElem?_eq_getElem h2, he]⟩
theorem sameW_self (L : List Wk) : sameW L L = true := by
  unfold sameW sameTo
  simp only [decide_true, Bool.true_and]
  rw [List.all_eq_true]
  intro i hi
  rw [List.getElem?_eq_getElem (List.mem_range.1 hi)]
  exact Wk.eqb_self _
set_option maxHeartbeats 4000000 in
theorem sameW_any {B B' : Nat} {v v' : Value} {L M : List Wk} (w : World) (h : OwnW B w v L) (h' : OwnW B' w v' M) (hl : L.length ≤ 1000) :
    Calls Tryd.prog 51 #[v, v'] w fun e w' => e = .returned (.bool (sameW L M)) ∧ Hid (Below w.heap.size w w') := by
  have eq := eqW
  obtain ⟨A, n, c, rfl, HN, hc, hm, HA, _⟩ := ownW_open h
  obtain ⟨A', n', c', rfl, HN', hc', hm', HA', _⟩ := ownW_open h'
  have hs : sameW L M = (decide (n = n') && sameTo L M n) := by unfold sameW; rw [HN.out, HN'.out]
  have HS := Lib.hid hs
  obtain ⟨q, hq⟩ : ∃ q, sameW L M = q := ⟨_, rfl⟩
  rw [hq] at HS ⊢
  clear h h' hs hq
  unfold maxLen at hm hm'
  by_cases he : n = n'
  · subst he
    rw [decide_eq_true rfl, Bool.true_and] at HS
    go_enter Tryd.func51, Tryd.ntmps51
    go_wp2_with fail
    go_loopw [5] (fun i wr => ∃ k : Nat, k ≤ n ∧ i = .int .i64 k ∧ Hid (sameTo L M k = true) ∧ Hid (Below w.heap.size w wr)) (fun i _ => n - (intOf i).toNat)
    case atStart => exact ⟨0, by omega, rfl, rfl, Below.refl _ _⟩
    case round =>
      obtain ⟨k, hk, rfl, HT, HB⟩ := hrel
      by_cases hlt : k < n
      · have hkl : k < L.length := by rw [HN.out]; exact hlt
        have hkm : k < M.length := by rw [HN'.out]; exact hlt
        obtain ⟨b, off, rfl, hc0⟩ := (HA.out.below HB.out) (by intro e; rw [e] at hkl; simp at hkl)
        obtain ⟨b', off', rfl, hc0'⟩ := (HA'.out.below HB.out) (by intro e; rw [e] at hkm; simp at hkm)
        obtain ⟨x0, x1, x2⟩ := hc0 k hkl
        obtain ⟨y0, y1, y2⟩ := hc0' k hkm
        have HOK := Lib.hid (sameTo_succ hkl hkm)
        have HNO : Hid (L[k].eqb M[k] = false → sameTo L M n = false) := fun h => by rw [← HN.out]; exact sameTo_false hkl hkm h
        have hkz : (k : Int) < (n : Int) := by omega
        clear hc0 hc0'
        generalize L[k] = x at *
        generalize M[k] = y at *
        obtain ⟨xt, xd, xk⟩ := x
        obtain ⟨yt, yd, yk⟩ := y
        simp only at x0 x1 x2 y0 y1 y2
        have HEQ : Hid ((⟨xt, xd, xk⟩ : Wk).eqb ⟨yt, yd, yk⟩ = (xt.toList == yt.toList && xd == yd && xk.toList == yk.toList)) := rfl
        obtain ⟨qq, hqq⟩ : ∃ q, (xt.toList == yt.toList && xd == yd && xk.toList == yk.toList) = q := ⟨_, rfl⟩
        have eq2 := fun w => eqW xt yt xk yk xd yd w
        simp only [hqq] at eq2
        rw [hqq] at HEQ
        rw [HEQ.out] at HOK HNO
        clear eq hqq HEQ
        cases qq
        · go_wp2_with fail
          have hS0 : (fun X : World => (X.cell? ⟨b, off + k * 3, none⟩ = some (.string xt) ∧ X.cell? ⟨b, off + k * 3 + 1, none⟩ = some (.bool xd) ∧ X.cell? ⟨b, off + k * 3 + 2, none⟩ = some (.string xk)) ∧ X.cell? ⟨b', off' + k * 3, none⟩ = some (.string yt) ∧ X.cell? ⟨b', off' + k * 3 + 1, none⟩ = some (.bool yd) ∧ X.cell? ⟨b', off' + k * 3 + 2, none⟩ = some (.string yk)) wr.drew := ⟨⟨x0, x1, x2⟩, y0, y1, y2⟩
          refine wp_region_held_drew (S := (fun X : World => (X.cell? ⟨b, off + k * 3, none⟩ = some (.string xt) ∧ X.cell? ⟨b, off + k * 3 + 1, none⟩ = some (.bool xd) ∧ X.cell? ⟨b, off + k * 3 + 2, none⟩ = some (.string xk)) ∧ X.cell? ⟨b', off' + k * 3, none⟩ = some (.string yt) ∧ X.cell? ⟨b', off' + k * 3 + 1, none⟩ = some (.bool yd) ∧ X.cell? ⟨b', off' + k * 3 + 2, none⟩ = some (.string yk))) (by kernel_rfl) hS0 (fun _ => ?_)
          (refine wpAnyH_take (i := 0) (v := ?_) rfl (by kernel_rfl) (by kernel_rfl) (by kernel_rfl) (fun _ _ _ h => h) (Or.inl ⟨by rfl, ?_⟩) (by assumption) ?_; rotate_left; (intro w hSw; (try dsimp only at hSw); go_simp; try with_reducible rfl); ((try simp only [List.getElem_toArray]); (try simp only [List.getElem_cons_succ]); (try simp only [List.getElem_cons_zero]); (try simp only [Act.put]); (try simp only [List.setIfInBounds_toArray]); (try simp only [List.set_cons_succ]); (try simp only [List.set_cons_zero])))
          (refine wpAnyH_take (i := 1) (v := ?_) rfl (by kernel_rfl) (by kernel_rfl) (by kernel_rfl) (fun _ _ _ h => h) (Or.inl ⟨by rfl, ?_⟩) (by assumption) ?_; rotate_left; (intro w hSw; (try dsimp only at hSw); go_simp; try with_reducible rfl); ((try simp only [List.getElem_toArray]); (try simp only [List.getElem_cons_succ]); (try simp only [List.getElem_cons_zero]); (try simp only [Act.put]); (try simp only [List.setIfInBounds_toArray]); (try simp only [List.set_cons_succ]); (try simp only [List.set_cons_zero])))
          (refine wpAnyH_take (i := 2) (v := ?_) rfl (by kernel_rfl) (by kernel_rfl) (by kernel_rfl) (fun _ _ _ h => h) (Or.inl ⟨by rfl, ?_⟩) (by assumption) ?_; rotate_left; (intro w hSw; (try dsimp only at hSw); go_simp; try with_reducible rfl); ((try simp only [List.getElem_toArray]); (try simp only [List.getElem_cons_succ]); (try simp only [List.getElem_cons_zero]); (try simp only [Act.put]); (try simp only [List.setIfInBounds_toArray]); (try simp only [List.set_cons_succ]); (try simp only [List.set_cons_zero])))
          (refine wpAnyH_take (i := 3) (v := ?_) rfl (by kernel_rfl) (by kernel_rfl) (by kernel_rfl) (fun _ _ _ h => h) (Or.inl ⟨by rfl, ?_⟩) (by assumption) ?_; rotate_left; (intro w hSw; (try dsimp only at hSw); go_simp; try with_reducible rfl); ((try simp only [List.getElem_toArray]); (try simp only [List.getElem_cons_succ]); (try simp only [List.getElem_cons_zero]); (try simp only [Act.put]); (try simp only [List.setIfInBounds_toArray]); (try simp only [List.set_cons_succ]); (try simp only [List.set_cons_zero])))
          (refine wpAnyH_take (i := 4) (v := ?_) rfl (by kernel_rfl) (by kernel_rfl) (by kernel_rfl) (fun _ _ _ h => h) (Or.inl ⟨by rfl, ?_⟩) (by assumption) ?_; rotate_left; (intro w hSw; (try dsimp only at hSw); go_simp; try with_reducible rfl); ((try simp only [List.getElem_toArray]); (try simp only [List.getElem_cons_succ]); (try simp only [List.getElem_cons_zero]); (try simp only [Act.put]); (try simp only [List.setIfInBounds_toArray]); (try simp only [List.set_cons_succ]); (try simp only [List.set_cons_zero])))
          (refine wpAnyH_take (i := 5) (v := ?_) rfl (by kernel_rfl) (by kernel_rfl) (by kernel_rfl) (fun _ _ _ h => h) (Or.inl ⟨by rfl, ?_⟩) (by assumption) ?_; rotate_left; (intro w hSw; (try dsimp only at hSw); go_simp; try with_reducible rfl); ((try simp only [List.getElem_toArray]); (try simp only [List.getElem_cons_succ]); (try simp only [List.getElem_cons_zero]); (try simp only [Act.put]); (try simp only [List.setIfInBounds_toArray]); (try simp only [List.set_cons_succ]); (try simp only [List.set_cons_zero])))
          (refine wpAnyH_take (i := 6) (v := ?_) rfl (by kernel_rfl) (by kernel_rfl) (by kernel_rfl) (fun _ _ _ h => h) (Or.inl ⟨by rfl, ?_⟩) (by assumption) ?_; rotate_left; (intro w hSw; (try dsimp only at hSw); go_simp; try with_reducible rfl); ((try simp only [List.getElem_toArray]); (try simp only [List.getElem_cons_succ]); (try simp only [List.getElem_cons_zero]); (try simp only [Act.put]); (try simp only [List.setIfInBounds_toArray]); (try simp only [List.set_cons_succ]); (try simp only [List.set_cons_zero])))
          (refine wpAnyH_take (i := 7) (v := ?_) rfl (by kernel_rfl) (by kernel_rfl) (by kernel_rfl) (fun _ _ _ h => h) (Or.inl ⟨by rfl, ?_⟩) (by assumption) ?_; rotate_left; (intro w hSw; (try dsimp only at hSw); go_simp; try with_reducible rfl); ((try simp only [List.getElem_toArray]); (try simp only [List.getElem_cons_succ]); (try simp only [List.getElem_cons_zero]); (try simp only [Act.put]); (try simp only [List.setIfInBounds_toArray]); (try simp only [List.set_cons_succ]); (try simp only [List.set_cons_zero])))
          (refine wpAnyH_take (i := 8) (v := ?_) rfl (by kernel_rfl) (by kernel_rfl) (by kernel_rfl) (fun _ _ _ h => h) (Or.inl ⟨by rfl, ?_⟩) (by assumption) ?_; rotate_left; (intro w hSw; (try dsimp only at hSw); go_simp; try with_reducible rfl); ((try simp only [List.getElem_toArray]); (try simp only [List.getElem_cons_succ]); (try simp only [List.getElem_cons_zero]); (try simp only [Act.put]); (try simp only [List.setIfInBounds_toArray]); (try simp only [List.set_cons_succ]); (try simp only [List.set_cons_zero])))
          refine wpAnyH_done (by kernel_rfl) ?_ _
          go_wp2_with fail
          go_ret
          exact ⟨by rw [HS.out, HNO.out (by first | rfl | exact True.intro)]; rfl, HB.out.drew⟩
        · go_wp2_with fail
          have hS0 : (fun X : World => (X.cell? ⟨b, off + k * 3, none⟩ = some (.string xt) ∧ X.cell? ⟨b, off + k * 3 + 1, none⟩ = some (.bool xd) ∧ X.cell? ⟨b, off + k * 3 + 2, none⟩ = some (.string xk)) ∧ X.cell? ⟨b', off' + k * 3, none⟩ = some (.string yt) ∧ X.cell? ⟨b', off' + k * 3 + 1, none⟩ = some (.bool yd) ∧ X.cell? ⟨b', off' + k * 3 + 2, none⟩ = some (.string yk)) wr.drew := ⟨⟨x0, x1, x2⟩, y0, y1, y2⟩
          refine wp_region_held_drew (S := (fun X : World => (X.cell? ⟨b, off + k * 3, none⟩ = some (.string xt) ∧ X.cell? ⟨b, off + k * 3 + 1, none⟩ = some (.bool xd) ∧ X.cell? ⟨b, off + k * 3 + 2, none⟩ = some (.string xk)) ∧ X.cell? ⟨b', off' + k * 3, none⟩ = some (.string yt) ∧ X.cell? ⟨b', off' + k * 3 + 1, none⟩ = some (.bool yd) ∧ X.cell? ⟨b', off' + k * 3 + 2, none⟩ = some (.string yk))) (by kernel_rfl) hS0 (fun _ => ?_)
          (refine wpAnyH_take (i := 0) (v := ?_) rfl (by kernel_rfl) (by kernel_rfl) (by kernel_rfl) (fun _ _ _ h => h) (Or.inl ⟨by rfl, ?_⟩) (by assumption) ?_; rotate_left; (intro w hSw; (try dsimp only at hSw); go_simp; try with_reducible rfl); ((try simp only [List.getElem_toArray]); (try simp only [List.getElem_cons_succ]); (try simp only [List.getElem_cons_zero]); (try simp only [Act.put]); (try simp only [List.setIfInBounds_toArray]); (try simp only [List.set_cons_succ]); (try simp only [List.set_cons_zero])))
          (refine wpAnyH_take (i := 1) (v := ?_) rfl (by kernel_rfl) (by kernel_rfl) (by kernel_rfl) (fun _ _ _ h => h) (Or.inl ⟨by rfl, ?_⟩) (by assumption) ?_; rotate_left; (intro w hSw; (try dsimp only at hSw); go_simp; try with_reducible rfl); ((try simp only [List.getElem_toArray]); (try simp only [List.getElem_cons_succ]); (try simp only [List.getElem_cons_zero]); (try simp only [Act.put]); (try simp only [List.setIfInBounds_toArray]); (try simp only [List.set_cons_succ]); (try simp only [List.set_cons_zero])))
          (refine wpAnyH_take (i := 2) (v := ?_) rfl (by kernel_rfl) (by kernel_rfl) (by kernel_rfl) (fun _ _ _ h => h) (Or.inl ⟨by rfl, ?_⟩) (by assumption) ?_; rotate_left; (intro w hSw; (try dsimp only at hSw); go_simp; try with_reducible rfl); ((try simp only [List.getElem_toArray]); (try simp only [List.getElem_cons_succ]); (try simp only [List.getElem_cons_zero]); (try simp only [Act.put]); (try simp only [List.setIfInBounds_toArray]); (try simp only [List.set_cons_succ]); (try simp only [List.set_cons_zero])))
          (refine wpAnyH_take (i := 3) (v := ?_) rfl (by kernel_rfl) (by kernel_rfl) (by kernel_rfl) (fun _ _ _ h => h) (Or.inl ⟨by rfl, ?_⟩) (by assumption) ?_; rotate_left; (intro w hSw; (try dsimp only at hSw); go_simp; try with_reducible rfl); ((try simp only [List.getElem_toArray]); (try simp only [List.getElem_cons_succ]); (try simp only [List.getElem_cons_zero]); (try simp only [Act.put]); (try simp only [List.setIfInBounds_toArray]); (try simp only [List.set_cons_succ]); (try simp only [List.set_cons_zero])))
          (refine wpAnyH_take (i := 4) (v := ?_) rfl (by kernel_rfl) (by kernel_rfl) (by kernel_rfl) (fun _ _ _ h => h) (Or.inl ⟨by rfl, ?_⟩) (by assumption) ?_; rotate_left; (intro w hSw; (try dsimp only at hSw); go_simp; try with_reducible rfl); ((try simp only [List.getElem_toArray]); (try simp only [List.getElem_cons_succ]); (try simp only [List.getElem_cons_zero]); (try simp only [Act.put]); (try simp only [List.setIfInBounds_toArray]); (try simp only [List.set_cons_succ]); (try simp only [List.set_cons_zero])))
          (refine wpAnyH_take (i := 5) (v := ?_) rfl (by kernel_rfl) (by kernel_rfl) (by kernel_rfl) (fun _ _ _ h => h) (Or.inl ⟨by rfl, ?_⟩) (by assumption) ?_; rotate_left; (intro w hSw; (try dsimp only at hSw); go_simp; try with_reducible rfl); ((try simp only [List.getElem_toArray]); (try simp only [List.getElem_cons_succ]); (try simp only [List.getElem_cons_zero]); (try simp only [Act.put]); (try simp only [List.setIfInBounds_toArray]); (try simp only [List.set_cons_succ]); (try simp only [List.set_cons_zero])))
          (refine wpAnyH_take (i := 6) (v := ?_) rfl (by kernel_rfl) (by kernel_rfl) (by kernel_rfl) (fun _ _ _ h => h) (Or.inl ⟨by rfl, ?_⟩) (by assumption) ?_; rotate_left; (intro w hSw; (try dsimp only at hSw); go_simp; try with_reducible rfl); ((try simp only [List.getElem_toArray]); (try simp only [List.getElem_cons_succ]); (try simp only [List.getElem_cons_zero]); (try simp only [Act.put]); (try simp only [List.setIfInBounds_toArray]); (try simp only [List.set_cons_succ]); (try simp only [List.set_cons_zero])))
          (refine wpAnyH_take (i := 7) (v := ?_) rfl (by kernel_rfl) (by kernel_rfl) (by kernel_rfl) (fun _ _ _ h => h) (Or.inl ⟨by rfl, ?_⟩) (by assumption) ?_; rotate_left; (intro w hSw; (try dsimp only at hSw); go_simp; try with_reducible rfl); ((try simp only [List.getElem_toArray]); (try simp only [List.getElem_cons_succ]); (try simp only [List.getElem_cons_zero]); (try simp only [Act.put]); (try simp only [List.setIfInBounds_toArray]); (try simp only [List.set_cons_succ]); (try simp only [List.set_cons_zero])))
          (refine wpAnyH_take (i := 8) (v := ?_) rfl (by kernel_rfl) (by kernel_rfl) (by kernel_rfl) (fun _ _ _ h => h) (Or.inl ⟨by rfl, ?_⟩) (by assumption) ?_; rotate_left; (intro w hSw; (try dsimp only at hSw); go_simp; try with_reducible rfl); ((try simp only [List.getElem_toArray]); (try simp only [List.getElem_cons_succ]); (try simp only [List.getElem_cons_zero]); (try simp only [Act.put]); (try simp only [List.setIfInBounds_toArray]); (try simp only [List.set_cons_succ]); (try simp only [List.set_cons_zero])))
          refine wpAnyH_done (by kernel_rfl) ?_ _
          go_wp2_with fail
          go_roundw
          case rel => exact ⟨k + 1, by omega, by go_num, by show _ = _; rw [HOK.out, HT.out]; rfl, HB.out.drew⟩
          case measure => simp [intOf]; omega
      · obtain rfl : k = n := by omega
        go_wp2_with fail
        go_ret
        exact ⟨by rw [HS.out, HT.out]; rfl, HB⟩
  · rw [decide_eq_false he, Bool.false_and] at HS
    have hz : ¬ ((n : Int) = (n' : Int)) := by omega
    go_enter Tryd.func51, Tryd.ntmps51
    go_wp2_with fail
    go_ret
    exact ⟨by rw [HS.out]; rfl, Below.refl _ _⟩
end Go.Proofs.YtjkmbggaoinkdaaDoor
