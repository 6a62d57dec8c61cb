/-
  Put together: gather, what a tree has, build, over.
-/
import Derived.Test.YtcdjeibcnkpadaaDoorWa2
namespace Go.Proofs.YtcdjeibcnkpadaaDoor
open Go.RowKit Go.Maps Dg
set_option linter.unusedVariables false
theorem infoP : (Tryd.prog.info? 105).map (fun i => (i.zero, i.size, i.bytes)) = some (some (.pointer none), 1, 8) := by kernel_rfl
def pv (x : Nd) : Value := .pointer (some ⟨x.b, 0, none⟩)
/-- Nodes in a row of the call's own. -/
def OwnP (B : Nat) (w : World) (v : Value) (ps : List Nd) : Prop := w.ownsRow B 105 1 v ps.length (ps.map pv)
theorem ownP_nil (B : Nat) (w : World) : OwnP B w (.slice none 0 0) [] := World.ownsRow_nil _ _ _ _
theorem OwnP.keep {B : Nat} {w w' : World} {v : Value} {L : List Nd} (h : OwnP B w v L) (hb : ∀ g, v.ownBlock = some g → w'.heap[g]? = w.heap[g]?) : OwnP B w' v L := by
  refine ⟨h.1, ?_⟩
  rcases h.2 with hn | ⟨g, cap, cur, rfl, hge, hh, r⟩
  · exact .inl hn
  · exact .inr ⟨g, cap, cur, rfl, hge, (hb g rfl).trans hh, r⟩
theorem OwnP.lt {B : Nat} {w : World} {v : Value} {L : List Nd} (h : OwnP B w v L) {g : Nat} (hg : v.ownBlock = some g) : B ≤ g ∧ g < w.heap.size := World.ownsRow.lt h g hg
/-- Nodes that can be read from an address on. -/
def RdP (w : World) (A : Option Addr) (L : List Nd) : Prop := ∀ i (_ : i < L.length), ∃ b off, A = some ⟨b, off, none⟩ ∧ w.cell? ⟨b, off + i, none⟩ = some (pv L[i])
theorem ownP_row {B : Nat} {w : World} {v : Value} {L : List Nd} (h : OwnP B w v L) : ∃ A n c, v = .slice A n c ∧ L.length = n ∧ n ≤ c ∧ c ≤ maxLen ∧ RdP w A L ∧ (A = none → c = 0) := by
  rcases h.2 with ⟨hv, hn⟩ | ⟨g, cap, cur, hv, _, hh, hc, hcm, hsz, ht⟩
  · obtain rfl := List.eq_nil_of_length_eq_zero hn
    exact ⟨none, 0, 0, hv, rfl, Nat.le_refl _, Nat.zero_le _, (fun i hi => by simp at hi), fun _ => rfl⟩
  · refine ⟨_, _, _, hv, rfl, hc, hcm, fun i hi => ⟨g, 0, rfl, ?_⟩, fun e => by cases e⟩
    rw [Has.cell (t := 105) (cs := cur) hh, Nat.zero_add]
    have h1 : (L.map pv)[i]? = some (pv L[i]) := by simp [hi]
    rw [← ht, List.getElem?_take, if_pos (by omega)] at h1
    simpa using h1
/-- What a call leaves that puts nodes behind a row. -/
def OutP (B : Nat) (v : Value) (w : World) (L : List Nd) (v' : Value) (w' : World) : Prop := OwnP B w' v' L ∧ Tur v.ownBlock.toList w w' ∧ ∀ k, v'.ownBlock = some k → v.ownBlock = some k ∨ w.heap.size ≤ k
theorem OutP.trans {B : Nat} {v v1 v2 : Value} {w w1 w2 : World} {L L2 : List Nd} (h : OutP B v w L v1 w1) (h2 : OutP B v1 w1 L2 v2 w2) : OutP B v w L2 v2 w2 := by
  refine ⟨h2.1, h.2.1.trans h2.2.1 fun c hc => ?_, fun k hk => ?_⟩
  · rcases h.2.2 c (by simpa using hc) with e | e
    · exact .inl (by simp [e])
    · exact .inr e
  · rcases h2.2.2 k hk with e | e
    · exact h.2.2 k e
    · exact .inr (Nat.le_trans h.2.1.size e)
theorem OutP.pre {B : Nat} {v v1 : Value} {w0 w w1 : World} {L : List Nd} (h : OutP B v w L v1 w1) (ht : Tur v.ownBlock.toList w0 w) : OutP B v w0 L v1 w1 :=
  ⟨h.1, ht.trans h.2.1 (Fre.refl _ _), fun k hk => (h.2.2 k hk).imp id fun e => Nat.le_trans ht.size e⟩
theorem OutP.below {B : Nat} {v v1 : Value} {w w1 : World} {L L0 : List Nd} (h : OutP B v w L v1 w1) (hv : OwnP B w v L0) (hB : B ≤ w.heap.size) : Below B w w1 := h.2.1.below (fun c hc => (hv.lt (by simpa using hc)).1) hB
theorem appP (w : World) (g : Nat) (B : Nat) (v : Value) (L : List Nd) (x : Nd) (hg : w.cell? ⟨g, 0, none⟩ = some (pv x)) (h : OwnP B w v L) (hB : B ≤ w.heap.size) (hl : L.length ≤ 1000000) :
    ∃ R W', (Builtin.append_ #[139, 139] 139 #[v, .slice (some ⟨g, 0, none⟩) 1 1]).run Tryd.prog w = .ok R W' ∧ OutP B v w (L ++ [x]) R W' := by
  obtain ⟨i0, hi, hz0, hz1, hz2⟩ := info_parts infoP
  obtain ⟨R, W', hrun, hown, hgr, _, hx⟩ := run_append_own_at (P := Tryd.prog) w B 139 139 105 i0 _ 1 8 Tryd.underlying139 hi hz0 hz1 hz2 rfl (by decide) v L.length (L.map pv) h
    ⟨g, 0, none⟩ 1 1 [pv x] rfl (fun j u hj => by
      rcases j with _ | j
      · simp at hj
        subst hj
        exact hg
      · simp at hj) (fun u hu => by simp at hu; subst hu; rfl) (by unfold maxLen; omega) (by omega) hB
  refine ⟨R, W', hrun, ?_, Tur.grown hgr fun k hk => by rw [hk]; simp, fun k hk => ?_⟩
  · unfold OwnP; rw [List.map_append, List.length_append]; simpa using hown
  · rcases hx with hx | hx
    · exact .inl (hx ▸ hk)
    · rw [hx] at hk
      injection hk with hk
      exact .inr (by omega)
/-- An append whose run is known, in a walk that draws. -/
theorem wpOp_appG {P : Program} {o : Oper} {a : Act} {w W' : World} {K : Act → World → Prop} {Q : Exit → Act → World → Prop} (s x : Operand) (t tx : TypeId)
    (ho : o.op = .call { callee := .builtin .append, args := #[s, x], argTypes := #[t, tx] }) (v xv R : Value) (hs : a.eval s = v) (hx : a.eval x = xv)
    (hrun : (Builtin.append_ #[t, tx] o.type #[v, xv]).run P w = .ok R W') (h : K (a.put o.dst R) W') : Oper.wp P o a w K Q := by
  unfold Oper.wp execOp
  simp only [ho, resolve, invoke, builtin, Sem.run_bind, Sem.run_pure, Result.andThen_ok, List.map_toArray, List.map_cons, List.map_nil, hs, hx, hrun]
  exact h
/-- All nodes of a tree, in order. -/
def Tr.nds : Tr → List Nd
  | .nil => []
  | .node b l k v _ _ r => l.nds ++ (⟨b, k, v⟩ :: r.nds)
theorem nds_len : ∀ T : Tr, T.nds.length = T.size
  | .nil => rfl
  | .node b l k v lo le r => by simp only [Tr.nds, Tr.size, List.length_append, List.length_cons, nds_len l, nds_len r]; omega
set_option maxHeartbeats 4000000 in
set_option maxRecDepth 100000 in
theorem gather_any (T : Tr) : ∀ (n B : Nat) (w : World) (v : Value) (L : List Nd), IsTr n w T → n ≤ B → B ≤ w.heap.size → OwnP B w v L → L.length + T.size ≤ 1000000 →
    Calls Tryd.prog 89 #[v, .pointer T.ptr] w fun e w' => ∃ v', e = .returned v' ∧ OutP B v w (L ++ T.nds) v' w' := by
  induction T with
  | nil =>
    intro n B w v L hT hnB hB hv hl
    obtain ⟨A, m, c, rfl, -⟩ := ownP_row hv
    have hp : (Tr.nil).ptr = none := rfl
    rw [hp]
    go_enter Tryd.func89, Tryd.ntmps89
    go_wp2_with fail
    go_ret
    exact ⟨_, rfl, by simpa [Tr.nds] using hv, Tur.refl _ _, fun k hk => .inl hk⟩
  | node b l k v0 lo le r ihl ihr =>
    intro n B w v L hT hnB hB hv hl
    obtain ⟨A, m, c, rfl, -⟩ := ownP_row hv
    have hT' := hT
    obtain ⟨h1, h2, h3, h4⟩ := hT
    have hsz : (Tr.node b l k v0 lo le r).size = l.size + 1 + r.size := rfl
    rw [hsz] at hl
    have hp : (Tr.node b l k v0 lo le r).ptr = some ⟨b, 0, none⟩ := rfl
    rw [hp]
    have c2 : w.cell? ⟨b, 2, none⟩ = some (.pointer l.ptr) := h2.cell 2
    have c3 : w.cell? ⟨b, 3, none⟩ = some (.pointer r.ptr) := h2.cell 3
    go_enter Tryd.func89, Tryd.ntmps89
    go_wp2_with fail
    refine wp_region_held_drew (S := fun X => X.cell? ⟨b, 2, none⟩ = some (.pointer l.ptr) ∧ X.cell? ⟨b, 3, none⟩ = some (.pointer r.ptr)) (by kernel_rfl) (by exact ⟨c2, c3⟩) (fun _ => ?_)
    (refine wpAnyH_take (i := 0) (v := ?_) rfl (by kernel_rfl) (by kernel_rfl) (by kernel_rfl) (fun _ _ _ h => h) (Or.inl ⟨by rfl, ?_⟩) (by assumption) ?_; rotate_left; (intro w hSw; (try dsimp only at hSw); go_simp; try with_reducible rfl); ((try simp only [List.getElem_toArray]); (try simp only [List.getElem_cons_succ]); (try simp only [List.getElem_cons_zero]); (try simp only [Act.put]); (try simp only [List.setIfInBounds_toArray]); (try simp only [List.set_cons_succ]); (try simp only [List.set_cons_zero])))
    (refine wpAnyH_take (i := 1) (v := ?_) rfl (by kernel_rfl) (by kernel_rfl) (by kernel_rfl) (fun _ _ _ h => h) (Or.inl ⟨by rfl, ?_⟩) (by assumption) ?_; rotate_left; (intro w hSw; (try dsimp only at hSw); go_simp; try with_reducible rfl); ((try simp only [List.getElem_toArray]); (try simp only [List.getElem_cons_succ]); (try simp only [List.getElem_cons_zero]); (try simp only [Act.put]); (try simp only [List.setIfInBounds_toArray]); (try simp only [List.set_cons_succ]); (try simp only [List.set_cons_zero])))
    (refine wpAnyH_take (i := 2) (v := ?_) rfl (by kernel_rfl) (by kernel_rfl) (by kernel_rfl) (fun _ _ _ h => h) (Or.inl ⟨by rfl, ?_⟩) (by assumption) ?_; rotate_left; (intro w hSw; (try dsimp only at hSw); go_simp; try with_reducible rfl); ((try simp only [List.getElem_toArray]); (try simp only [List.getElem_cons_succ]); (try simp only [List.getElem_cons_zero]); (try simp only [Act.put]); (try simp only [List.setIfInBounds_toArray]); (try simp only [List.set_cons_succ]); (try simp only [List.set_cons_zero])))
    (refine wpAnyH_take (i := 3) (v := ?_) rfl (by kernel_rfl) (by kernel_rfl) (by kernel_rfl) (fun _ _ _ h => h) (Or.inl ⟨by rfl, ?_⟩) (by assumption) ?_; rotate_left; (intro w hSw; (try dsimp only at hSw); go_simp; try with_reducible rfl); ((try simp only [List.getElem_toArray]); (try simp only [List.getElem_cons_succ]); (try simp only [List.getElem_cons_zero]); (try simp only [Act.put]); (try simp only [List.setIfInBounds_toArray]); (try simp only [List.set_cons_succ]); (try simp only [List.set_cons_zero])))
    (refine wpAnyH_take (i := 4) (v := ?_) rfl (by kernel_rfl) (by kernel_rfl) (by kernel_rfl) (fun _ _ _ h => h) (Or.inl ⟨by rfl, ?_⟩) (by assumption) ?_; rotate_left; (intro w hSw; (try dsimp only at hSw); go_simp; try with_reducible rfl); ((try simp only [List.getElem_toArray]); (try simp only [List.getElem_cons_succ]); (try simp only [List.getElem_cons_zero]); (try simp only [Act.put]); (try simp only [List.setIfInBounds_toArray]); (try simp only [List.set_cons_succ]); (try simp only [List.set_cons_zero])))
    (refine wpAnyH_take (i := 6) (v := ?_) rfl (by kernel_rfl) (by kernel_rfl) (by kernel_rfl) (fun _ _ _ h => h) (Or.inl ⟨by rfl, ?_⟩) (by assumption) ?_; rotate_left; (intro w hSw; (try dsimp only at hSw); go_simp; try with_reducible rfl); ((try simp only [List.getElem_toArray]); (try simp only [List.getElem_cons_succ]); (try simp only [List.getElem_cons_zero]); (try simp only [Act.put]); (try simp only [List.setIfInBounds_toArray]); (try simp only [List.set_cons_succ]); (try simp only [List.set_cons_zero])))
    (refine wpAnyH_take (i := 9) (v := ?_) rfl (by kernel_rfl) (by kernel_rfl) (by kernel_rfl) (fun _ _ _ h => h) (Or.inl ⟨by rfl, ?_⟩) (by assumption) ?_; rotate_left; (intro w hSw; (try dsimp only at hSw); go_simp; try with_reducible rfl); ((try simp only [List.getElem_toArray]); (try simp only [List.getElem_cons_succ]); (try simp only [List.getElem_cons_zero]); (try simp only [Act.put]); (try simp only [List.setIfInBounds_toArray]); (try simp only [List.set_cons_succ]); (try simp only [List.set_cons_zero])))
    (refine wpAnyH_take (i := 10) (v := ?_) rfl (by kernel_rfl) (by kernel_rfl) (by kernel_rfl) (fun _ _ _ h => h) (Or.inl ⟨by rfl, ?_⟩) (by assumption) ?_; rotate_left; (intro w hSw; (try dsimp only at hSw); go_simp; try with_reducible rfl); ((try simp only [List.getElem_toArray]); (try simp only [List.getElem_cons_succ]); (try simp only [List.getElem_cons_zero]); (try simp only [Act.put]); (try simp only [List.setIfInBounds_toArray]); (try simp only [List.set_cons_succ]); (try simp only [List.set_cons_zero])))
    (refine wpAnyH_take (i := 11) (v := ?_) rfl (by kernel_rfl) (by kernel_rfl) (by kernel_rfl) (fun _ _ _ h => h) (Or.inl ⟨by rfl, ?_⟩) (by assumption) ?_; rotate_left; (intro w hSw; (try dsimp only at hSw); go_simp; try with_reducible rfl); ((try simp only [List.getElem_toArray]); (try simp only [List.getElem_cons_succ]); (try simp only [List.getElem_cons_zero]); (try simp only [Act.put]); (try simp only [List.setIfInBounds_toArray]); (try simp only [List.set_cons_succ]); (try simp only [List.set_cons_zero])))
    (refine wpAnyH_take (i := 12) (v := ?_) rfl (by kernel_rfl) (by kernel_rfl) (by kernel_rfl) (fun _ _ _ h => h) (Or.inl ⟨by rfl, ?_⟩) (by assumption) ?_; rotate_left; (intro w hSw; (try dsimp only at hSw); go_simp; try with_reducible rfl); ((try simp only [List.getElem_toArray]); (try simp only [List.getElem_cons_succ]); (try simp only [List.getElem_cons_zero]); (try simp only [Act.put]); (try simp only [List.setIfInBounds_toArray]); (try simp only [List.set_cons_succ]); (try simp only [List.set_cons_zero])))
    refine wpAnyH_ready (rs := [5, 7]) (by kernel_rfl) (by simp) ?_
    refine AllReadyH.cons rfl (fun K2 hK2 => ?_) (AllReadyH.cons rfl (fun K2 hK2 => ?_) AllReadyH.nil)
    · go_simp
      have hv0 : OwnP B w.drew (.slice A m c) L := hv.keep fun _ _ => rfl
      refine (ihl n B w.drew (.slice A m c) L (h3.hp rfl) hnB hB hv0 (by omega)).mono ?_
      rintro e w1 ⟨v1, rfl, ho1⟩
      have b1 := ho1.below hv0 hB
      have d2 : w1.cell? ⟨b, 2, none⟩ = some (.pointer l.ptr) := (b1.cell (p := ⟨b, 2, none⟩) (by show b < B; omega)).trans c2
      have d3 : w1.cell? ⟨b, 3, none⟩ = some (.pointer r.ptr) := (b1.cell (p := ⟨b, 3, none⟩) (by show b < B; omega)).trans c3
      have r1 : IsTr n w1 r := (h4.hp (w' := w.drew) rfl).below (b1.mono hnB)
      have s1 : B ≤ w1.heap.size := Nat.le_trans hB b1.size
      obtain ⟨A1, m1, k1, rfl, -⟩ := ownP_row ho1.1
      go_wp2_with fail
      refine hK2.out _ _ (by exact ⟨d2, d3⟩) (fun hq => ?_)
      clear hK2 K2
      ((try simp only [List.getElem_toArray]); (try simp only [List.getElem_cons_succ]); (try simp only [List.getElem_cons_zero]); (try simp only [Act.put]); (try simp only [List.setIfInBounds_toArray]); (try simp only [List.set_cons_succ]); (try simp only [List.set_cons_zero]))
      refine wpAnyH_ready (rs := [7]) (by kernel_rfl) (by simp) ?_
      refine AllReadyH.cons rfl (fun K2 hK2 => ?_) AllReadyH.nil
      go_simp
      have gx : (w1.alloc (.cells #[.pointer (some ⟨b, 0, none⟩)] 105)).cell? ⟨w1.heap.size, 0, none⟩ = some (pv ⟨b, k, v0⟩) := (Has.new w1 105 #[.pointer (some ⟨b, 0, none⟩)]).cell 0
      have tx : Tur (Value.slice A1 m1 k1).ownBlock.toList w1 (w1.alloc (.cells #[.pointer (some ⟨b, 0, none⟩)] 105)) := Tur.alloc _ w1 _
      have bx : Below B w1 (w1.alloc (.cells #[.pointer (some ⟨b, 0, none⟩)] 105)) := (Below.refl B w1).alloc s1 _
      have ox : OwnP B (w1.alloc (.cells #[.pointer (some ⟨b, 0, none⟩)] 105)) (.slice A1 m1 k1) (L ++ l.nds) := ho1.1.keep fun g hg => Below.heap_alloc w1 _ g (ho1.1.lt hg).2
      have d2 : (w1.alloc (.cells #[.pointer (some ⟨b, 0, none⟩)] 105)).cell? ⟨b, 2, none⟩ = some (.pointer l.ptr) := (bx.cell (p := ⟨b, 2, none⟩) (by show b < B; omega)).trans d2
      have d3 : (w1.alloc (.cells #[.pointer (some ⟨b, 0, none⟩)] 105)).cell? ⟨b, 3, none⟩ = some (.pointer r.ptr) := (bx.cell (p := ⟨b, 3, none⟩) (by show b < B; omega)).trans d3
      have r2 : IsTr n (w1.alloc (.cells #[.pointer (some ⟨b, 0, none⟩)] 105)) r := r1.below (bx.mono hnB)
      obtain ⟨R3, w3, hrun3, ho3⟩ := appP (w1.alloc (.cells #[.pointer (some ⟨b, 0, none⟩)] 105)) w1.heap.size B (.slice A1 m1 k1) (L ++ l.nds) ⟨b, k, v0⟩ gx ox (by have := bx.size; omega) (by simp only [List.length_append, nds_len]; omega)
      refine hK2.out _ _ (by exact ⟨d2, d3⟩) (fun hq => ?_)
      clear hK2 K2
      ((try simp only [List.getElem_toArray]); (try simp only [List.getElem_cons_succ]); (try simp only [List.getElem_cons_zero]); (try simp only [Act.put]); (try simp only [List.setIfInBounds_toArray]); (try simp only [List.set_cons_succ]); (try simp only [List.set_cons_zero]))
      refine wpAnyH_ready (rs := [8]) (by kernel_rfl) (by simp) ?_
      refine AllReadyH.cons rfl (fun K2 hK2 => ?_) AllReadyH.nil
      rw [if_pos (by rfl)]
      refine wpOp_appG _ _ _ _ rfl _ _ _ (by rfl) (by rfl) hrun3 ?_
      obtain ⟨A3, m3, k3, rfl, -⟩ := ownP_row ho3.1
      have b3 := ho3.below ox (by have := bx.size; omega)
      have s3 : B ≤ w3.heap.size := by have := b3.size; have := bx.size; omega
      have d2 : w3.cell? ⟨b, 2, none⟩ = some (.pointer l.ptr) := (b3.cell (p := ⟨b, 2, none⟩) (by show b < B; omega)).trans d2
      have d3 : w3.cell? ⟨b, 3, none⟩ = some (.pointer r.ptr) := (b3.cell (p := ⟨b, 3, none⟩) (by show b < B; omega)).trans d3
      have r3 : IsTr n w3 r := r2.below (b3.mono hnB)
      refine hK2.out _ _ (by exact ⟨d2, d3⟩) (fun hq => ?_)
      clear hK2 K2
      ((try simp only [List.getElem_toArray]); (try simp only [List.getElem_cons_succ]); (try simp only [List.getElem_cons_zero]); (try simp only [Act.put]); (try simp only [List.setIfInBounds_toArray]); (try simp only [List.set_cons_succ]); (try simp only [List.set_cons_zero]))
      refine wpAnyH_ready (rs := [13]) (by kernel_rfl) (by simp) ?_
      refine AllReadyH.cons rfl (fun K2 hK2 => ?_) AllReadyH.nil
      go_simp
      refine (ihr n B w3 (.slice A3 m3 k3) (L ++ l.nds ++ [⟨b, k, v0⟩]) r3 hnB s3 ho3.1 (by simp only [List.length_append, List.length_singleton, nds_len]; omega)).mono ?_
      rintro e w4 ⟨v4, rfl, ho4⟩
      have hfin := ((ho1.pre (Tur.drew _ w)).trans (ho3.pre tx)).trans ho4
      have hL : L ++ l.nds ++ [⟨b, k, v0⟩] ++ r.nds = L ++ (Tr.node b l k v0 lo le r).nds := by simp [Tr.nds]
      rw [hL] at hfin
      have b4 := ho4.below ho3.1 s3
      have d2 : w4.cell? ⟨b, 2, none⟩ = some (.pointer l.ptr) := (b4.cell (p := ⟨b, 2, none⟩) (by show b < B; omega)).trans d2
      have d3 : w4.cell? ⟨b, 3, none⟩ = some (.pointer r.ptr) := (b4.cell (p := ⟨b, 3, none⟩) (by show b < B; omega)).trans d3
      have HFIN := Lib.hid hfin
      obtain ⟨A4, m4, k4, rfl, -⟩ := ownP_row ho4.1
      clear hfin ho4 ho3 b4
      go_wp2_with fail
      refine hK2.out _ _ (by exact ⟨d2, d3⟩) (fun hq => ?_)
      clear hK2 K2
      ((try simp only [List.getElem_toArray]); (try simp only [List.getElem_cons_succ]); (try simp only [List.getElem_cons_zero]); (try simp only [Act.put]); (try simp only [List.setIfInBounds_toArray]); (try simp only [List.set_cons_succ]); (try simp only [List.set_cons_zero]))
      (refine wpAnyH_take (i := 14) (v := ?_) rfl (by kernel_rfl) (by kernel_rfl) (by kernel_rfl) (fun _ _ _ h => h) (Or.inl ⟨by rfl, ?_⟩) (by assumption) ?_; rotate_left; (intro w hSw; (try dsimp only at hSw); go_simp; try with_reducible rfl); ((try simp only [List.getElem_toArray]); (try simp only [List.getElem_cons_succ]); (try simp only [List.getElem_cons_zero]); (try simp only [Act.put]); (try simp only [List.setIfInBounds_toArray]); (try simp only [List.set_cons_succ]); (try simp only [List.set_cons_zero])))
      refine wpAnyH_done (by kernel_rfl) ?_ _
      go_wp2_with fail
      go_ret
      exact ⟨_, rfl, HFIN.out⟩
    · go_simp
      have gx : ((w.alloc (.cells #[.pointer (some ⟨b, 0, none⟩)] 105)).drew).cell? ⟨w.heap.size, 0, none⟩ = some (pv ⟨b, k, v0⟩) := (Has.new w 105 #[.pointer (some ⟨b, 0, none⟩)]).cell 0
      have tx : Tur (Value.slice A m c).ownBlock.toList w ((w.alloc (.cells #[.pointer (some ⟨b, 0, none⟩)] 105)).drew) := (Tur.alloc _ w _).trans (Tur.drew _ _) (Fre.refl _ _)
      have bx : Below B w ((w.alloc (.cells #[.pointer (some ⟨b, 0, none⟩)] 105)).drew) := ((Below.refl B w).alloc hB _).drew
      have ox : OwnP B ((w.alloc (.cells #[.pointer (some ⟨b, 0, none⟩)] 105)).drew) (.slice A m c) L := hv.keep fun g hg => Below.heap_alloc w _ g (hv.lt hg).2
      have lg : w.heap.size < ((w.alloc (.cells #[.pointer (some ⟨b, 0, none⟩)] 105)).drew).heap.size := by simp [World.drew]
      have d2 : ((w.alloc (.cells #[.pointer (some ⟨b, 0, none⟩)] 105)).drew).cell? ⟨b, 2, none⟩ = some (.pointer l.ptr) := (bx.cell (p := ⟨b, 2, none⟩) (by show b < B; omega)).trans c2
      have d3 : ((w.alloc (.cells #[.pointer (some ⟨b, 0, none⟩)] 105)).drew).cell? ⟨b, 3, none⟩ = some (.pointer r.ptr) := (bx.cell (p := ⟨b, 3, none⟩) (by show b < B; omega)).trans c3
      have l1 : IsTr n ((w.alloc (.cells #[.pointer (some ⟨b, 0, none⟩)] 105)).drew) l := h3.below (bx.mono hnB)
      have r1 : IsTr n ((w.alloc (.cells #[.pointer (some ⟨b, 0, none⟩)] 105)).drew) r := h4.below (bx.mono hnB)
      have sx := bx.size
      refine hK2.out _ _ (by exact ⟨d2, d3⟩) (fun hq => ?_)
      clear hK2 K2
      ((try simp only [List.getElem_toArray]); (try simp only [List.getElem_cons_succ]); (try simp only [List.getElem_cons_zero]); (try simp only [Act.put]); (try simp only [List.setIfInBounds_toArray]); (try simp only [List.set_cons_succ]); (try simp only [List.set_cons_zero]))
      refine wpAnyH_ready (rs := [5]) (by kernel_rfl) (by simp) ?_
      refine AllReadyH.cons rfl (fun K2 hK2 => ?_) AllReadyH.nil
      go_simp
      refine (ihl n B _ (.slice A m c) L l1 hnB (by omega) ox (by omega)).mono ?_
      rintro e w2 ⟨v1, rfl, ho1⟩
      have b1 := ho1.below ox (by omega)
      have d2 : w2.cell? ⟨b, 2, none⟩ = some (.pointer l.ptr) := (b1.cell (p := ⟨b, 2, none⟩) (by show b < B; omega)).trans d2
      have d3 : w2.cell? ⟨b, 3, none⟩ = some (.pointer r.ptr) := (b1.cell (p := ⟨b, 3, none⟩) (by show b < B; omega)).trans d3
      have r2 : IsTr n w2 r := r1.below (b1.mono hnB)
      have gx2 : w2.cell? ⟨w.heap.size, 0, none⟩ = some (pv ⟨b, k, v0⟩) := (World.cell?_of_block (a := ⟨w.heap.size, 0, none⟩) (ho1.2.1.block w.heap.size lg (fun hh => by have := (hv.lt (by simpa using hh)).2; omega))).trans gx
      obtain ⟨A1, m1, k1, rfl, -⟩ := ownP_row ho1.1
      have s2 : B ≤ w2.heap.size := by have := b1.size; omega
      obtain ⟨R3, w3, hrun3, ho3⟩ := appP w2 w.heap.size B (.slice A1 m1 k1) (L ++ l.nds) ⟨b, k, v0⟩ gx2 ho1.1 s2 (by simp only [List.length_append, nds_len]; omega)
      go_wp2_with fail
      refine hK2.out _ _ (by exact ⟨d2, d3⟩) (fun hq => ?_)
      clear hK2 K2
      ((try simp only [List.getElem_toArray]); (try simp only [List.getElem_cons_succ]); (try simp only [List.getElem_cons_zero]); (try simp only [Act.put]); (try simp only [List.setIfInBounds_toArray]); (try simp only [List.set_cons_succ]); (try simp only [List.set_cons_zero]))
      refine wpAnyH_ready (rs := [8]) (by kernel_rfl) (by simp) ?_
      refine AllReadyH.cons rfl (fun K2 hK2 => ?_) AllReadyH.nil
      rw [if_pos (by rfl)]
      refine wpOp_appG _ _ _ _ rfl _ _ _ (by rfl) (by rfl) hrun3 ?_
      obtain ⟨A3, m3, k3, rfl, -⟩ := ownP_row ho3.1
      have b3 := ho3.below ho1.1 s2
      have s3 : B ≤ w3.heap.size := Nat.le_trans s2 b3.size
      have d2 : w3.cell? ⟨b, 2, none⟩ = some (.pointer l.ptr) := (b3.cell (p := ⟨b, 2, none⟩) (by show b < B; omega)).trans d2
      have d3 : w3.cell? ⟨b, 3, none⟩ = some (.pointer r.ptr) := (b3.cell (p := ⟨b, 3, none⟩) (by show b < B; omega)).trans d3
      have r3 : IsTr n w3 r := r2.below (b3.mono hnB)
      refine hK2.out _ _ (by exact ⟨d2, d3⟩) (fun hq => ?_)
      clear hK2 K2
      ((try simp only [List.getElem_toArray]); (try simp only [List.getElem_cons_succ]); (try simp only [List.getElem_cons_zero]); (try simp only [Act.put]); (try simp only [List.setIfInBounds_toArray]); (try simp only [List.set_cons_succ]); (try simp only [List.set_cons_zero]))
      refine wpAnyH_ready (rs := [13]) (by kernel_rfl) (by simp) ?_
      refine AllReadyH.cons rfl (fun K2 hK2 => ?_) AllReadyH.nil
      go_simp
      refine (ihr n B w3 (.slice A3 m3 k3) (L ++ l.nds ++ [⟨b, k, v0⟩]) r3 hnB s3 ho3.1 (by simp only [List.length_append, List.length_singleton, nds_len]; omega)).mono ?_
      rintro e w4 ⟨v4, rfl, ho4⟩
      have hfin := ((ho1.pre tx).trans ho3).trans ho4
      have hL : L ++ l.nds ++ [⟨b, k, v0⟩] ++ r.nds = L ++ (Tr.node b l k v0 lo le r).nds := by simp [Tr.nds]
      rw [hL] at hfin
      have b4 := ho4.below ho3.1 s3
      have d2 : w4.cell? ⟨b, 2, none⟩ = some (.pointer l.ptr) := (b4.cell (p := ⟨b, 2, none⟩) (by show b < B; omega)).trans d2
      have d3 : w4.cell? ⟨b, 3, none⟩ = some (.pointer r.ptr) := (b4.cell (p := ⟨b, 3, none⟩) (by show b < B; omega)).trans d3
      have HFIN := Lib.hid hfin
      obtain ⟨A4, m4, k4, rfl, -⟩ := ownP_row ho4.1
      clear hfin ho4 ho3 b4
      go_wp2_with fail
      refine hK2.out _ _ (by exact ⟨d2, d3⟩) (fun hq => ?_)
      clear hK2 K2
      ((try simp only [List.getElem_toArray]); (try simp only [List.getElem_cons_succ]); (try simp only [List.getElem_cons_zero]); (try simp only [Act.put]); (try simp only [List.setIfInBounds_toArray]); (try simp only [List.set_cons_succ]); (try simp only [List.set_cons_zero]))
      (refine wpAnyH_take (i := 14) (v := ?_) rfl (by kernel_rfl) (by kernel_rfl) (by kernel_rfl) (fun _ _ _ h => h) (Or.inl ⟨by rfl, ?_⟩) (by assumption) ?_; rotate_left; (intro w hSw; (try dsimp only at hSw); go_simp; try with_reducible rfl); ((try simp only [List.getElem_toArray]); (try simp only [List.getElem_cons_succ]); (try simp only [List.getElem_cons_zero]); (try simp only [Act.put]); (try simp only [List.setIfInBounds_toArray]); (try simp only [List.set_cons_succ]); (try simp only [List.set_cons_zero])))
      refine wpAnyH_done (by kernel_rfl) ?_ _
      go_wp2_with fail
      go_ret
      exact ⟨_, rfl, HFIN.out⟩
end Go.Proofs.YtcdjeibcnkpadaaDoor
namespace Go.Proofs.YtcdjeibcnkpadaaDoor
open Go.RowKit Go.Maps Dg
set_option linter.unusedVariables false
/-- Keys and things, in order. -/
def Tr.con : Tr → List (ByteArray × Sl)
  | .nil => []
  | .node _ l k v _ _ r => l.con ++ ((k, v) :: r.con)
/-- No side has too many. -/
def Bal : Tr → Prop
  | .nil => True
  | .node _ l _ _ _ _ r => (l.size + 1 + r.size) / 3 ≤ l.size ∧ l.size < (l.size + 1 + r.size) - (l.size + 1 + r.size) / 3 ∧ Bal l ∧ Bal r
theorem con_len : ∀ T : Tr, T.con.length = T.size
  | .nil => rfl
  | .node b l k v lo le r => by simp only [Tr.con, Tr.size, List.length_append, List.length_cons, con_len l, con_len r]; omega
theorem con_nds : ∀ T : Tr, T.nds.map (fun x => (x.k, x.v)) = T.con
  | .nil => rfl
  | .node b l k v lo le r => by simp only [Tr.nds, Tr.con, List.map_append, List.map_cons, con_nds l, con_nds r]
theorem ht_size : ∀ T : Tr, T.ht ≤ T.size
  | .nil => Nat.le_refl _
  | .node b l k v lo le r => by
    have h1 := ht_size l
    have h2 := ht_size r
    simp only [Tr.ht, Tr.size]
    omega
/-- Two digits more for each half. -/
theorem bal_ht2 : ∀ (m : Nat) (T : Tr), T.size ≤ m → Bal T → ∀ d, T.size + 1 < 2 ^ d → T.ht ≤ 2 * d := by
  intro m
  induction m using Nat.strongRecOn with
  | _ m ih =>
    intro T hm hB d hd
    -- a tree's height from those two levels below it
    have key : ∀ S : Tr, S.size < m → Bal S → ∀ e, S.size + 1 < 2 ^ e → S.ht ≤ 2 * e := fun S hS hb e he => ih S.size hS S (Nat.le_refl _) hb e he
    cases T with
    | nil => exact Nat.zero_le _
    | node b l k v lo le r =>
      obtain ⟨p1, p2, hl, hr⟩ := hB
      simp only [Tr.size] at hm hd
      rcases d with _ | _ | d
      · simp at hd
      · simp at hd
        omega
      · have hP : 2 ^ (d + 1 + 1) = 4 * 2 ^ d := by rw [Nat.pow_succ, Nat.pow_succ]; omega
        rw [hP] at hd
        have hP1 : 2 ^ (d + 1) = 2 * 2 ^ d := by rw [Nat.pow_succ]; omega
        have hpos : 1 ≤ 2 ^ d := Nat.one_le_two_pow
        -- each side's height is at most one more than twice the digits less one
        have side : ∀ S : Tr, Bal S → S.size ≤ (l.size + 1 + r.size) - (l.size + 1 + r.size) / 3 - 1 → S.ht ≤ 1 + 2 * (d + 1) := by
          intro S hS hsz
          cases S with
          | nil => exact Nat.zero_le _
          | node b' l' k' v' lo' le' r' =>
            obtain ⟨q1, q2, hl', hr'⟩ := hS
            simp only [Tr.size] at hsz
            have g1 : l'.ht ≤ 2 * (d + 1) := by
              by_cases hs : l'.size + 1 < 2 ^ (d + 1)
              · exact key l' (by omega) hl' _ hs
              · rw [hP1] at hs
                have := ht_size l'
                omega
            have g2 : r'.ht ≤ 2 * (d + 1) := by
              by_cases hs : r'.size + 1 < 2 ^ (d + 1)
              · exact key r' (by omega) hr' _ hs
              · rw [hP1] at hs
                have := ht_size r'
                omega
            simp only [Tr.ht]
            omega
        have a1 := side l hl (by omega)
        have a2 := side r hr (by omega)
        simp only [Tr.ht]
        omega
end Go.Proofs.YtcdjeibcnkpadaaDoor
namespace Go.Proofs.YtcdjeibcnkpadaaDoor
open Go.RowKit Go.Maps Dg
set_option linter.unusedVariables false
/-- A node's key, thing and lot lie there. -/
def NdAt (w : World) (x : Nd) : Prop := ∃ lo : Int, w.cell? ⟨x.b, 0, none⟩ = some (.string x.k) ∧ w.cell? ⟨x.b, 1, none⟩ = some (.slice x.v.a x.v.n x.v.c) ∧ w.cell? ⟨x.b, 6, none⟩ = some (.int .i64 lo)
theorem NdAt.below {w w' : World} {x : Nd} (h : NdAt w x) (hb : Below w.heap.size w w') : NdAt w' x := by
  obtain ⟨lo, h0, h1, h6⟩ := h
  have e : ∀ (j : Nat) u, w.cell? ⟨x.b, j, none⟩ = some u → w'.cell? ⟨x.b, j, none⟩ = some u := fun j u hu => (hb.cell (p := ⟨x.b, j, none⟩) (World.block_lt_of_cell? w _ hu)).trans hu
  exact ⟨lo, e _ _ h0, e _ _ h1, e _ _ h6⟩
theorem RdP.below {w w' : World} {A : Option Addr} {L : List Nd} (h : RdP w A L) (hb : Below w.heap.size w w') : RdP w' A L := fun i hi => by
  obtain ⟨b, off, e, hc⟩ := h i hi
  exact ⟨b, off, e, (hb.cell (p := ⟨b, off + i, none⟩) (World.block_lt_of_cell? w _ hc)).trans hc⟩
theorem RdP.take {w : World} {A : Option Addr} {L : List Nd} (h : RdP w A L) (k : Nat) : RdP w A (L.take k) := fun i hi => by
  rw [List.length_take] at hi
  obtain ⟨b, off, e, hc⟩ := h i (by omega)
  exact ⟨b, off, e, by rw [List.getElem_take]; exact hc⟩
theorem RdP.drop {w : World} {b off : Nat} {L : List Nd} (h : RdP w (some ⟨b, off, none⟩) L) (k : Nat) : RdP w (some ⟨b, off + k, none⟩) (L.drop k) := fun i hi => by
  rw [List.length_drop] at hi
  obtain ⟨b', off', e, hc⟩ := h (k + i) (by omega)
  cases e
  exact ⟨b, off + k, rfl, by rw [List.getElem_drop, Nat.add_assoc]; exact hc⟩
theorem nds_at {n : Nat} {w : World} : ∀ {T : Tr}, IsTr n w T → ∀ x ∈ T.nds, NdAt w x
  | .nil, _, x, hx => by cases hx
  | .node b l k v lo le r, ⟨h1, h2, h3, h4⟩, x, hx => by
    rcases List.mem_append.1 hx with hx | hx
    · exact nds_at h3 x hx
    · rcases List.mem_cons.1 hx with rfl | hx
      · exact ⟨lo, h2.cell 0, h2.cell 1, h2.cell 6⟩
      · exact nds_at h4 x hx
def conL (L : List Nd) : List (ByteArray × Sl) := L.map fun x => (x.k, x.v)
/-- What a call leaves that makes a tree. -/
def OutT (w : World) (C : List (ByteArray × Sl)) (e : Ending) (w' : World) : Prop := ∃ T : Tr, e = .returned (.pointer T.ptr) ∧ IsTr w'.heap.size w' T ∧ T.con = C ∧ Bal T ∧ Below w.heap.size w w'
set_option maxHeartbeats 4000000 in
set_option maxRecDepth 100000 in
theorem build_any (m : Nat) : ∀ (L : List Nd) (w : World) (A : Option Addr) (n c : Nat), L.length ≤ m → L.length = n → n ≤ c → c ≤ maxLen → RdP w A L → (∀ x ∈ L, NdAt w x) → n ≤ 1000000 →
    Calls Tryd.prog 88 #[.slice A n c] w fun e w' => OutT w (conL L) e w' := by
  induction m with
  | zero =>
    intro L w A n c hm hn hnc hcm hr hx hz
    have hL : L = [] := List.eq_nil_of_length_eq_zero (by omega)
    subst hL
    subst hn
    go_enter Tryd.func88, Tryd.ntmps88
    go_wp2_with fail
    go_ret
    exact ⟨.nil, rfl, trivial, rfl, trivial, Below.refl _ _⟩
  | succ m ih =>
    intro L w A n c hm hn hnc hcm hr hx hz
    by_cases h0 : n = 0
    · subst h0
      have hL : L = [] := List.eq_nil_of_length_eq_zero hn
      subst hL
      go_enter Tryd.func88, Tryd.ntmps88
      go_wp2_with fail
      go_ret
      exact ⟨.nil, rfl, trivial, rfl, trivial, Below.refl _ _⟩
    · obtain ⟨b, off, rfl, -⟩ := hr 0 (by omega)
      have hcI : (c : Int) ≤ 9223372036854775807 := by unfold maxLen at hcm; omega
      have hnI : ¬ (n : Int) = 0 := by omega
      have HR := Lib.hid hr
      have HX := Lib.hid hx
      have HM := Lib.hid (middle_any w n hz)
      have HN := Lib.hid hn
      obtain ⟨f, hf⟩ : ∃ f : Nat, Hid (f = n / 3) := ⟨_, rfl⟩
      obtain ⟨g, hg⟩ : ∃ g : Nat, Hid (g = n - f) := ⟨_, rfl⟩
      have hft : f < g := by have := hf.out; have := hg.out; omega
      have hgn : g ≤ n := by have := hg.out; omega
      rw [show (n : Int) / 3 = (f : Int) by have := hf.out; omega, show (n : Int) - (f : Int) = (g : Int) by have := hf.out; have := hg.out; omega] at HM
      clear hr hx hn
      go_enter Tryd.func88, Tryd.ntmps88
      go_wp2_with fail
      refine HM.out.mono ?_
      rintro e w1 ⟨rfl, rfl⟩
      go_wp2_with fail
      go_loopw [5, 6] (fun p i wr => ∃ (t k j : Nat), f ≤ t ∧ t < g ∧ f ≤ k ∧ k ≤ g ∧ p = .int .i64 t ∧ i = .int .i64 k ∧ wr = w1.drewN j) (fun _ i _ => g - (intOf i).toNat)
      case atStart => exact ⟨f, f, 0, by omega, by omega, by omega, by omega, rfl, rfl, rfl⟩
      case round =>
        obtain ⟨t, k, j, ht1, ht2, hk1, hk2, rfl, rfl, rfl⟩ := hrel
        have htL : t < L.length := by rw [HN.out]; omega
        obtain ⟨bt, ot, ebt, ct⟩ := HR.out t htL
        cases ebt
        obtain ⟨lt, xt0, xt1, xt6⟩ := HX.out _ (List.getElem_mem htL)
        by_cases hlt : k < g
        · have hkL : k < L.length := by rw [HN.out]; omega
          obtain ⟨bk, ok, ebk, ck⟩ := HR.out k hkL
          cases ebk
          obtain ⟨lk, xk0, xk1, xk6⟩ := HX.out _ (List.getElem_mem hkL)
          have hki : (k : Int) < (n : Int) := by omega
          have hti : (t : Int) < (n : Int) := by omega
          have hkf : (k : Int) < (g : Int) := by omega
          generalize L[t] = nt at *
          generalize L[k] = nk at *
          have ct' : (w1.drewN j).cell? ⟨b, off + t, none⟩ = some (.pointer (some ⟨nt.b, 0, none⟩)) := ct
          have ck' : (w1.drewN j).cell? ⟨b, off + k, none⟩ = some (.pointer (some ⟨nk.b, 0, none⟩)) := ck
          have xt' : (w1.drewN j).cell? ⟨nt.b, 6, none⟩ = some (.int .i64 lt) := xt6
          have xk' : (w1.drewN j).cell? ⟨nk.b, 6, none⟩ = some (.int .i64 lk) := xk6
          by_cases hll : lk < lt
          · go_wp2_with fail
            go_region_held3 (fun X => X.cell? ⟨b, off + t, none⟩ = some (.pointer (some ⟨nt.b, 0, none⟩)) ∧ X.cell? ⟨b, off + k, none⟩ = some (.pointer (some ⟨nk.b, 0, none⟩)) ∧ X.cell? ⟨nt.b, 6, none⟩ = some (.int .i64 lt) ∧ X.cell? ⟨nk.b, 6, none⟩ = some (.int .i64 lk)) (exact ⟨ct', ck', xt', xk'⟩) (first | fail)
            go_wp2_with fail
            go_roundw
            case rel => exact ⟨k, k + 1, _, by omega, by omega, by omega, by omega, rfl, by go_num, rfl⟩
            case measure => simp [intOf]; omega
          · go_wp2_with fail
            go_region_held3 (fun X => X.cell? ⟨b, off + t, none⟩ = some (.pointer (some ⟨nt.b, 0, none⟩)) ∧ X.cell? ⟨b, off + k, none⟩ = some (.pointer (some ⟨nk.b, 0, none⟩)) ∧ X.cell? ⟨nt.b, 6, none⟩ = some (.int .i64 lt) ∧ X.cell? ⟨nk.b, 6, none⟩ = some (.int .i64 lk)) (exact ⟨ct', ck', xt', xk'⟩) (first | fail)
            go_wp2_with fail
            go_roundw
            case rel => exact ⟨t, k + 1, _, by omega, by omega, by omega, by omega, rfl, by go_num, rfl⟩
            case measure => simp [intOf]; omega
        · have hmem := List.getElem_mem htL
          have htc : t + 1 ≤ c := by omega
          have HLT : Hid (L.take t ++ L[t] :: L.drop (t + 1) = L) := by
            show _ = _
            rw [← List.drop_eq_getElem_cons htL]
            exact List.take_append_drop t L
          have HLl : Hid (L.length = n) := HN
          have hB0 : Below w1.heap.size w1 (w1.drewN j).drew := (Below.drewN (Below.refl _ w1) j).drew
          have HRW := Lib.hid (HR.out.below hB0)
          have HXW := Lib.hid (fun x hx => (HX.out x hx).below hB0)
          have hRtk := HRW.out.take t
          have hRdr := HRW.out.drop (t + 1)
          have hdl : (L.drop (t + 1)).length = n - (t + 1) := by rw [List.length_drop, HN.out]
          have htl : (L.take t).length = t := by rw [List.length_take, HN.out]; omega
          generalize L[t] = nt at *
          have ct' : (w1.drewN j).drew.cell? ⟨b, off + t, none⟩ = some (.pointer (some ⟨nt.b, 0, none⟩)) := ct
          have hti : (t : Int) < (n : Int) := by omega
          have htc2 : (t : Int) + 1 ≤ (c : Int) := by omega
          have htn2 : (t : Int) + 1 ≤ (n : Int) := by omega
          have htci : (t : Int) ≤ (c : Int) := by omega
          have hnci : (n : Int) ≤ (c : Int) := by omega
          go_wp2_with fail
          refine wp_region_held_drew (S := fun X => X.cell? ⟨b, off + t, none⟩ = some (.pointer (some ⟨nt.b, 0, none⟩))) (by kernel_rfl) (by exact ct') (fun _ => ?_)
          (refine wpAnyH_take (i := 0) (v := ?_) rfl (by kernel_rfl) (by kernel_rfl) (by kernel_rfl) (fun _ _ _ h => h) (Or.inl ⟨by rfl, ?_⟩) (by assumption) ?_; rotate_left; (intro w hSw; (try dsimp only at hSw); go_simp; try with_reducible rfl); ((try simp only [List.getElem_toArray]); (try simp only [List.getElem_cons_succ]); (try simp only [List.getElem_cons_zero]); (try simp only [Act.put]); (try simp only [List.setIfInBounds_toArray]); (try simp only [List.set_cons_succ]); (try simp only [List.set_cons_zero])))
          (refine wpAnyH_take (i := 1) (v := ?_) rfl (by kernel_rfl) (by kernel_rfl) (by kernel_rfl) (fun _ _ _ h => h) (Or.inl ⟨by rfl, ?_⟩) (by assumption) ?_; rotate_left; (intro w hSw; (try dsimp only at hSw); go_simp; try with_reducible rfl); ((try simp only [List.getElem_toArray]); (try simp only [List.getElem_cons_succ]); (try simp only [List.getElem_cons_zero]); (try simp only [Act.put]); (try simp only [List.setIfInBounds_toArray]); (try simp only [List.set_cons_succ]); (try simp only [List.set_cons_zero])))
          (refine wpAnyH_take (i := 2) (v := ?_) rfl (by kernel_rfl) (by kernel_rfl) (by kernel_rfl) (fun _ _ _ h => h) (Or.inl ⟨by rfl, ?_⟩) (by assumption) ?_; rotate_left; (intro w hSw; (try dsimp only at hSw); go_simp; try with_reducible rfl); ((try simp only [List.getElem_toArray]); (try simp only [List.getElem_cons_succ]); (try simp only [List.getElem_cons_zero]); (try simp only [Act.put]); (try simp only [List.setIfInBounds_toArray]); (try simp only [List.set_cons_succ]); (try simp only [List.set_cons_zero])))
          (refine wpAnyH_take (i := 4) (v := ?_) rfl (by kernel_rfl) (by kernel_rfl) (by kernel_rfl) (fun _ _ _ h => h) (Or.inl ⟨by rfl, ?_⟩) (by assumption) ?_; rotate_left; (intro w hSw; (try dsimp only at hSw); go_simp; try with_reducible rfl); ((try simp only [List.getElem_toArray]); (try simp only [List.getElem_cons_succ]); (try simp only [List.getElem_cons_zero]); (try simp only [Act.put]); (try simp only [List.setIfInBounds_toArray]); (try simp only [List.set_cons_succ]); (try simp only [List.set_cons_zero])))
          (refine wpAnyH_take (i := 5) (v := ?_) rfl (by kernel_rfl) (by kernel_rfl) (by kernel_rfl) (fun _ _ _ h => h) (Or.inl ⟨by rfl, ?_⟩) (by assumption) ?_; rotate_left; (intro w hSw; (try dsimp only at hSw); go_simp; try with_reducible rfl); ((try simp only [List.getElem_toArray]); (try simp only [List.getElem_cons_succ]); (try simp only [List.getElem_cons_zero]); (try simp only [Act.put]); (try simp only [List.setIfInBounds_toArray]); (try simp only [List.set_cons_succ]); (try simp only [List.set_cons_zero])))
          (refine wpAnyH_take (i := 6) (v := ?_) rfl (by kernel_rfl) (by kernel_rfl) (by kernel_rfl) (fun _ _ _ h => h) (Or.inl ⟨by rfl, ?_⟩) (by assumption) ?_; rotate_left; (intro w hSw; (try dsimp only at hSw); go_simp; try with_reducible rfl); ((try simp only [List.getElem_toArray]); (try simp only [List.getElem_cons_succ]); (try simp only [List.getElem_cons_zero]); (try simp only [Act.put]); (try simp only [List.setIfInBounds_toArray]); (try simp only [List.set_cons_succ]); (try simp only [List.set_cons_zero])))
          (refine wpAnyH_take (i := 7) (v := ?_) rfl (by kernel_rfl) (by kernel_rfl) (by kernel_rfl) (fun _ _ _ h => h) (Or.inl ⟨by rfl, ?_⟩) (by assumption) ?_; rotate_left; (intro w hSw; (try dsimp only at hSw); go_simp; try with_reducible rfl); ((try simp only [List.getElem_toArray]); (try simp only [List.getElem_cons_succ]); (try simp only [List.getElem_cons_zero]); (try simp only [Act.put]); (try simp only [List.setIfInBounds_toArray]); (try simp only [List.set_cons_succ]); (try simp only [List.set_cons_zero])))
          (refine wpAnyH_take (i := 8) (v := ?_) rfl (by kernel_rfl) (by kernel_rfl) (by kernel_rfl) (fun _ _ _ h => h) (Or.inl ⟨by rfl, ?_⟩) (by assumption) ?_; rotate_left; (intro w hSw; (try dsimp only at hSw); go_simp; try with_reducible rfl); ((try simp only [List.getElem_toArray]); (try simp only [List.getElem_cons_succ]); (try simp only [List.getElem_cons_zero]); (try simp only [Act.put]); (try simp only [List.setIfInBounds_toArray]); (try simp only [List.set_cons_succ]); (try simp only [List.set_cons_zero])))
          (refine wpAnyH_take (i := 9) (v := ?_) rfl (by kernel_rfl) (by kernel_rfl) (by kernel_rfl) (fun _ _ _ h => h) (Or.inl ⟨by rfl, ?_⟩) (by assumption) ?_; rotate_left; (intro w hSw; (try dsimp only at hSw); go_simp; try with_reducible rfl); ((try simp only [List.getElem_toArray]); (try simp only [List.getElem_cons_succ]); (try simp only [List.getElem_cons_zero]); (try simp only [Act.put]); (try simp only [List.setIfInBounds_toArray]); (try simp only [List.set_cons_succ]); (try simp only [List.set_cons_zero])))
          (refine wpAnyH_take (i := 10) (v := ?_) rfl (by kernel_rfl) (by kernel_rfl) (by kernel_rfl) (fun _ _ _ h => h) (Or.inl ⟨by rfl, ?_⟩) (by assumption) ?_; rotate_left; (intro w hSw; (try dsimp only at hSw); go_simp; try with_reducible rfl); ((try simp only [List.getElem_toArray]); (try simp only [List.getElem_cons_succ]); (try simp only [List.getElem_cons_zero]); (try simp only [Act.put]); (try simp only [List.setIfInBounds_toArray]); (try simp only [List.set_cons_succ]); (try simp only [List.set_cons_zero])))
          have hwr : IntKind.i64.wrap ((t : Int) + 1) = ((t + 1 : Nat) : Int) := by rw [IntKind.wrap_i64]; omega
          obtain ⟨A2, hA2⟩ : ∃ A2, Hid (A2 = if c = t + 1 then some ⟨b, off, none⟩ else some (⟨b, off + (t + 1), none⟩ : Addr)) := ⟨_, rfl⟩
          have hR2 : RdP (w1.drewN j).drew A2 (L.drop (t + 1)) := by
            rw [hA2.out]
            split
            · have hnil : L.drop (t + 1) = [] := List.eq_nil_of_length_eq_zero (by omega)
              rw [hnil]
              intro i hi
              cases hi
            · exact hRdr
          refine wpAnyH_take (i := 11) (v := .slice A2 (n - (t + 1)) (c - (t + 1))) rfl (by kernel_rfl) (by kernel_rfl) (by kernel_rfl) (fun _ _ _ h => h) (Or.inl ⟨by rfl, ?_⟩) (by assumption) ?_
          · intro w hSw
            go_simp
            rw [if_pos (by omega), hA2.out]
          ((try simp only [List.getElem_toArray]); (try simp only [List.getElem_cons_succ]); (try simp only [List.getElem_cons_zero]); (try simp only [Act.put]); (try simp only [List.setIfInBounds_toArray]); (try simp only [List.set_cons_succ]); (try simp only [List.set_cons_zero]))
          refine wpAnyH_ready (rs := [3]) (by kernel_rfl) (by simp) ?_
          refine AllReadyH.cons rfl (fun K2 hK2 => ?_) AllReadyH.nil
          go_simp
          refine (ih (L.take t) _ (some ⟨b, off, none⟩) t c (by rw [List.length_take]; omega) htl (by omega) hcm hRtk (fun x hx => HXW.out x (List.mem_of_mem_take hx)) (by omega)).mono ?_
          rintro e w2 ⟨T1, rfl, i1, con1, bal1, b1⟩
          have B1 := Lib.hid b1
          have I1 := Lib.hid i1
          have ct2 : w2.cell? ⟨b, off + t, none⟩ = some (.pointer (some ⟨nt.b, 0, none⟩)) := (b1.cell (p := ⟨b, off + t, none⟩) (World.block_lt_of_cell? _ _ ct')).trans ct'
          have hR3 := Lib.hid (hR2.below b1)
          have HX3 := Lib.hid (fun x hx => (HXW.out x hx).below b1)
          clear b1 i1
          go_wp2_with fail
          refine hK2.out _ _ (by exact ct2) (fun hq => ?_)
          clear hK2 K2
          ((try simp only [List.getElem_toArray]); (try simp only [List.getElem_cons_succ]); (try simp only [List.getElem_cons_zero]); (try simp only [Act.put]); (try simp only [List.setIfInBounds_toArray]); (try simp only [List.set_cons_succ]); (try simp only [List.set_cons_zero]))
          refine wpAnyH_ready (rs := [12]) (by kernel_rfl) (by simp) ?_
          refine AllReadyH.cons rfl (fun K2 hK2 => ?_) AllReadyH.nil
          go_simp
          refine (ih (L.drop (t + 1)) w2 A2 (n - (t + 1)) (c - (t + 1)) (by have := HN.out; omega) hdl (by omega) (by omega) hR3.out (fun x hx => HX3.out x (List.mem_of_mem_drop hx)) (by omega)).mono ?_
          rintro e w3 ⟨T2, rfl, i2, con2, bal2, b2⟩
          have B2 := Lib.hid b2
          have I2 := Lib.hid i2
          have I1b := Lib.hid ((I1.out.below b2).mono b2.size)
          have ct3 : w3.cell? ⟨b, off + t, none⟩ = some (.pointer (some ⟨nt.b, 0, none⟩)) := (b2.cell (p := ⟨b, off + t, none⟩) (World.block_lt_of_cell? _ _ ct2)).trans ct2
          have X4 : NdAt w3 nt := ((HXW.out nt hmem).below B1.out).below b2
          obtain ⟨lo4, x0, x1, x6⟩ := X4
          clear b2 i2
          go_wp2_with fail
          refine hK2.out _ _ (by exact ct3) (fun hq => ?_)
          clear hK2 K2
          ((try simp only [List.getElem_toArray]); (try simp only [List.getElem_cons_succ]); (try simp only [List.getElem_cons_zero]); (try simp only [Act.put]); (try simp only [List.setIfInBounds_toArray]); (try simp only [List.set_cons_succ]); (try simp only [List.set_cons_zero]))
          refine wpAnyH_ready (rs := [13]) (by kernel_rfl) (by simp) ?_
          refine AllReadyH.cons rfl (fun K2 hK2 => ?_) AllReadyH.nil
          go_simp
          have z1 : T1.size = t := by rw [← con_len, con1, conL, List.length_map, htl]
          have z2 : T2.size = n - (t + 1) := by rw [← con_len, con2, conL, List.length_map, hdl]
          have y1 := ht_size T1
          have y2 := ht_size T2
          refine (atop_any T1 T2 nt.b nt.k nt.v lo4 w3 I1b.out I2.out (by omega) (by omega) (by omega) x0 x1 x6).mono ?_
          rintro e w4 ⟨rfl, ⟨le4, h4⟩, b4, s4⟩
          have ct4 : w4.cell? ⟨b, off + t, none⟩ = some (.pointer (some ⟨nt.b, 0, none⟩)) := (b4.cell (p := ⟨b, off + t, none⟩) (World.block_lt_of_cell? _ _ ct3)).trans ct3
          have hfin : OutT w1 (conL L) (.returned (.pointer (some ⟨w3.heap.size, 0, none⟩))) w4 := by
            refine ⟨.node w3.heap.size T1 nt.k nt.v lo4 le4 T2, rfl, ⟨by omega, h4, (I1b.out.below b4).mono b4.size, (I2.out.below b4).mono b4.size⟩, ?_, ⟨?_, ?_, bal1, bal2⟩, ?_⟩
            · have hcl := congrArg conL HLT.out
              rw [Tr.con, con1, con2, ← hcl]
              unfold conL
              rw [List.map_append, List.map_cons]
            · rw [z1, z2]
              have := hf.out
              have := hg.out
              omega
            · rw [z1, z2]
              have := hf.out
              have := hg.out
              omega
            · exact hB0.trans ((B1.out.trans (B2.out.mono B1.out.size)).trans (b4.mono (Nat.le_trans B1.out.size B2.out.size)))
          have HFIN := Lib.hid hfin
          clear hfin b4 h4
          go_wp2_with fail
          refine hK2.out _ _ (by exact ct4) (fun hq => ?_)
          clear hK2 K2
          ((try simp only [List.getElem_toArray]); (try simp only [List.getElem_cons_succ]); (try simp only [List.getElem_cons_zero]); (try simp only [Act.put]); (try simp only [List.setIfInBounds_toArray]); (try simp only [List.set_cons_succ]); (try simp only [List.set_cons_zero]))
          (refine wpAnyH_take (i := 14) (v := ?_) rfl (by kernel_rfl) (by kernel_rfl) (by kernel_rfl) (fun _ _ _ h => h) (Or.inl ⟨by rfl, ?_⟩) (by assumption) ?_; rotate_left; (intro w hSw; (try dsimp only at hSw); go_simp; try with_reducible rfl); ((try simp only [List.getElem_toArray]); (try simp only [List.getElem_cons_succ]); (try simp only [List.getElem_cons_zero]); (try simp only [Act.put]); (try simp only [List.setIfInBounds_toArray]); (try simp only [List.set_cons_succ]); (try simp only [List.set_cons_zero])))
          refine wpAnyH_done (by kernel_rfl) ?_ _
          go_wp2_with fail
          go_ret
          exact HFIN.out
end Go.Proofs.YtcdjeibcnkpadaaDoor
namespace Go.Proofs.YtcdjeibcnkpadaaDoor
open Go.RowKit Go.Maps Dg
set_option linter.unusedVariables false
theorem conL_nds (T : Tr) : conL T.nds = T.con := con_nds T
theorem conL_app (a b : List Nd) : conL (a ++ b) = conL a ++ conL b := List.map_append
set_option maxHeartbeats 4000000 in
set_option maxRecDepth 100000 in
theorem over_any (L R : Tr) (x : Nd) (n : Nat) (w : World) (hL : IsTr n w L) (hR : IsTr n w R) (hn : n ≤ w.heap.size) (hx : NdAt w x) (hz : L.size + 1 + R.size ≤ 100000) (bL : Bal L) (bR : Bal R) :
    Calls Tryd.prog 84 #[.pointer L.ptr, .pointer (some ⟨x.b, 0, none⟩), .pointer R.ptr] w fun e w' => OutT w (L.con ++ ((x.k, x.v) :: R.con)) e w' := by
  obtain ⟨lo, x0, x1, x6⟩ := hx
  have hlL := ht_size L
  have hlR := ht_size R
  go_enter Tryd.func84, Tryd.ntmps84
  go_wp2_with fail
  refine (mayStand_any L R x.b lo w hL hR (by omega) x6).mono ?_
  rintro e w1 ⟨⟨bb, rfl, hbb⟩, j, rfl⟩
  cases bb with
  | true =>
    have hq := hbb rfl
    go_wp2_with fail
    refine (atop_any L R x.b x.k x.v lo (w.drewN j) (hL.hp rfl) (hR.hp rfl) (by omega) (by omega) (by omega) x0 x1 x6).mono ?_
    rintro e w2 ⟨rfl, ⟨le, h2⟩, b2, s2⟩
    have hfin : OutT w (L.con ++ ((x.k, x.v) :: R.con)) (.returned (.pointer (some ⟨(w.drewN j).heap.size, 0, none⟩))) w2 := by
      have b3 : Below w.heap.size w w2 := (Below.drewN (Below.refl _ w) j).trans b2
      exact ⟨.node (w.drewN j).heap.size L x.k x.v lo le R, rfl, ⟨by omega, h2, (hL.below (b3.mono hn)).mono (by have := b3.size; omega), (hR.below (b3.mono hn)).mono (by have := b3.size; omega)⟩, rfl, ⟨hq.1, hq.2, bL, bR⟩, b3⟩
    have HFIN := Lib.hid hfin
    clear hfin h2 b2 hbb
    go_wp2_with fail
    go_ret
    exact HFIN.out
  | false =>
    clear hbb
    have b0 : Below w.heap.size w (w.drewN j) := Below.drewN (Below.refl _ w) j
    have hsw : (w.drewN j).heap.size = w.heap.size := rfl
    go_wp2_with fail
    refine (gather_any L n w.heap.size (w.drewN j) (.slice none 0 0) [] (hL.hp rfl) hn (by rw [hsw]; exact Nat.le_refl _) (ownP_nil _ _) (by simp; omega)).mono ?_
    rintro e w1 ⟨v1, rfl, o1⟩
    rw [List.nil_append] at o1
    have b1 : Below w.heap.size (w.drewN j) w1 := o1.below (ownP_nil _ _) (by rw [hsw]; exact Nat.le_refl _)
    have B1 : Below w.heap.size w w1 := b0.trans b1
    obtain ⟨A1, m1, k1, rfl, -⟩ := ownP_row o1.1
    have O1 := Lib.hid o1.1
    have gx : (w1.alloc (.cells #[.pointer (some ⟨x.b, 0, none⟩)] 105)).cell? ⟨w1.heap.size, 0, none⟩ = some (pv x) := (Has.new w1 105 #[.pointer (some ⟨x.b, 0, none⟩)]).cell 0
    have ox : OwnP w.heap.size (w1.alloc (.cells #[.pointer (some ⟨x.b, 0, none⟩)] 105)) (.slice A1 m1 k1) L.nds := o1.1.keep fun g hg => Below.heap_alloc w1 _ g (o1.1.lt hg).2
    have bx : Below w.heap.size w1 (w1.alloc (.cells #[.pointer (some ⟨x.b, 0, none⟩)] 105)) := (Below.refl _ w1).alloc B1.size _
    have sx : w.heap.size ≤ (w1.alloc (.cells #[.pointer (some ⟨x.b, 0, none⟩)] 105)).heap.size := Nat.le_trans B1.size bx.size
    obtain ⟨R2, w2, hrun2, o2⟩ := appP (w1.alloc (.cells #[.pointer (some ⟨x.b, 0, none⟩)] 105)) w1.heap.size w.heap.size (.slice A1 m1 k1) L.nds x gx ox sx (by rw [nds_len]; omega)
    have B2 : Below w.heap.size w w2 := (B1.trans bx).trans (o2.below ox sx)
    obtain ⟨A2, m2, k2, rfl, -⟩ := ownP_row o2.1
    clear o1 ox gx b1
    have O2 := Lib.hid o2.1
    clear o2
    go_wp2_with (at_builtin; refine wpList_app rfl _ _ 139 139 rfl (.slice A1 m1 k1) (.slice (some ⟨w1.heap.size, 0, none⟩) 1 1) rfl rfl ⟨_, _, hrun2, ?_⟩)
    refine (gather_any R n w.heap.size w2 (.slice A2 m2 k2) (L.nds ++ [x]) (hR.below (B2.mono hn)) hn B2.size O2.out (by rw [List.length_append, List.length_singleton, nds_len]; omega)).mono ?_
    rintro e w3 ⟨v3, rfl, o3⟩
    have B3 : Below w.heap.size w w3 := B2.trans (o3.below O2.out B2.size)
    obtain ⟨A3, m3, k3, rfl, e3, e4, e5, r3, -⟩ := ownP_row o3.1
    have hx3 : ∀ y ∈ L.nds ++ [x] ++ R.nds, NdAt w3 y := by
      intro y hy
      rcases List.mem_append.1 hy with hy | hy
      · rcases List.mem_append.1 hy with hy | hy
        · exact (nds_at hL y hy).below B3
        · rw [List.mem_singleton.1 hy]
          exact NdAt.below (w := w) ⟨lo, x0, x1, x6⟩ B3
      · exact (nds_at hR y hy).below B3
    have HB := Lib.hid (build_any m3 _ w3 A3 m3 k3 (by omega) e3 e4 e5 r3 hx3 (by rw [← e3, List.length_append, List.length_append, List.length_singleton, nds_len, nds_len]; omega))
    clear o3 hx3 r3 hrun2
    go_wp2_with fail
    refine HB.out.mono ?_
    rintro e w4 ⟨T, rfl, i4, c4, q4, b4⟩
    have hfin : OutT w (L.con ++ ((x.k, x.v) :: R.con)) (.returned (.pointer T.ptr)) w4 := by
      refine ⟨T, rfl, i4, ?_, q4, B3.trans (b4.mono B3.size)⟩
      rw [c4, conL_app, conL_app, conL_nds, conL_nds, List.append_assoc]
      rfl
    have HFIN := Lib.hid hfin
    clear hfin i4 c4 b4
    go_wp2_with fail
    go_ret
    exact HFIN.out
end Go.Proofs.YtcdjeibcnkpadaaDoor
