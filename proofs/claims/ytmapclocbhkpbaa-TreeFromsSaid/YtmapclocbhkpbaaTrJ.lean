/-
  gather: a tree's nodes, in a row behind others.
-/
import Derived.Test.YtmapclocbhkpbaaTrH
namespace Go.Proofs.Ytmapclocbhkpbaa
open Go.RowKit Go.Maps Dg
set_option linter.unusedVariables false
theorem infoP : (Try.prog.info? 47).map (fun i => (i.zero, i.size, i.bytes)) = some (some (.pointer none), 1, 8) := by kernel_rfl
def pv (x : Nd) : Value := .pointer (some ⟨x.b, 0, none⟩)
/-- Nodes in a row of the call's own. -/
def OwnP (B : Nat) (w : World) (v : Value) (ps : List Nd) : Prop := w.ownsRow B 47 1 v ps.length (ps.map pv)
theorem ownP_nil (B : Nat) (w : World) : OwnP B w (.slice none 0 0) [] := World.ownsRow_nil _ _ _ _
theorem OwnP.keep {B : Nat} {w w' : World} {v : Value} {L : List Nd} (h : OwnP B w v L) (hb : ∀ g, v.ownBlock = some g → w'.heap[g]? = w.heap[g]?) : OwnP B w' v L := by
  refine ⟨h.1, ?_⟩
  rcases h.2 with hn | ⟨g, cap, cur, rfl, hge, hh, r⟩
  · exact .inl hn
  · exact .inr ⟨g, cap, cur, rfl, hge, (hb g rfl).trans hh, r⟩
theorem OwnP.lt {B : Nat} {w : World} {v : Value} {L : List Nd} (h : OwnP B w v L) {g : Nat} (hg : v.ownBlock = some g) : B ≤ g ∧ g < w.heap.size := World.ownsRow.lt h g hg
/-- Nodes that can be read from an address on. -/
def RdP (w : World) (A : Option Addr) (L : List Nd) : Prop := ∀ i (_ : i < L.length), ∃ b off, A = some ⟨b, off, none⟩ ∧ w.cell? ⟨b, off + i, none⟩ = some (pv L[i])
theorem ownP_row {B : Nat} {w : World} {v : Value} {L : List Nd} (h : OwnP B w v L) : ∃ A n c, v = .slice A n c ∧ L.length = n ∧ n ≤ c ∧ c ≤ maxLen ∧ RdP w A L ∧ (A = none → c = 0) := by
  rcases h.2 with ⟨hv, hn⟩ | ⟨g, cap, cur, hv, _, hh, hc, hcm, hsz, ht⟩
  · obtain rfl := List.eq_nil_of_length_eq_zero hn
    exact ⟨none, 0, 0, hv, rfl, Nat.le_refl _, Nat.zero_le _, (fun i hi => by simp at hi), fun _ => rfl⟩
  · refine ⟨_, _, _, hv, rfl, hc, hcm, fun i hi => ⟨g, 0, rfl, ?_⟩, fun e => by cases e⟩
    rw [Has.cell (t := 47) (cs := cur) hh, Nat.zero_add]
    have h1 : (L.map pv)[i]? = some (pv L[i]) := by simp [hi]
    rw [← ht, List.getElem?_take, if_pos (by omega)] at h1
    simpa using h1
/-- What a call leaves that puts nodes behind a row. -/
def OutP (B : Nat) (v : Value) (w : World) (L : List Nd) (v' : Value) (w' : World) : Prop := OwnP B w' v' L ∧ Tur v.ownBlock.toList w w' ∧ ∀ k, v'.ownBlock = some k → v.ownBlock = some k ∨ w.heap.size ≤ k
theorem OutP.trans {B : Nat} {v v1 v2 : Value} {w w1 w2 : World} {L L2 : List Nd} (h : OutP B v w L v1 w1) (h2 : OutP B v1 w1 L2 v2 w2) : OutP B v w L2 v2 w2 := by
  refine ⟨h2.1, h.2.1.trans h2.2.1 fun c hc => ?_, fun k hk => ?_⟩
  · rcases h.2.2 c (by simpa using hc) with e | e
    · exact .inl (by simp [e])
    · exact .inr e
  · rcases h2.2.2 k hk with e | e
    · exact h.2.2 k e
    · exact .inr (Nat.le_trans h.2.1.size e)
theorem OutP.pre {B : Nat} {v v1 : Value} {w0 w w1 : World} {L : List Nd} (h : OutP B v w L v1 w1) (ht : Tur v.ownBlock.toList w0 w) : OutP B v w0 L v1 w1 :=
  ⟨h.1, ht.trans h.2.1 (Fre.refl _ _), fun k hk => (h.2.2 k hk).imp id fun e => Nat.le_trans ht.size e⟩
theorem OutP.below {B : Nat} {v v1 : Value} {w w1 : World} {L L0 : List Nd} (h : OutP B v w L v1 w1) (hv : OwnP B w v L0) (hB : B ≤ w.heap.size) : Below B w w1 := h.2.1.below (fun c hc => (hv.lt (by simpa using hc)).1) hB
theorem appP (w : World) (g : Nat) (B : Nat) (v : Value) (L : List Nd) (x : Nd) (hg : w.cell? ⟨g, 0, none⟩ = some (pv x)) (h : OwnP B w v L) (hB : B ≤ w.heap.size) (hl : L.length ≤ 1000000) :
    ∃ R W', (Builtin.append_ #[66, 66] 66 #[v, .slice (some ⟨g, 0, none⟩) 1 1]).run Try.prog w = .ok R W' ∧ OutP B v w (L ++ [x]) R W' := by
  obtain ⟨i0, hi, hz0, hz1, hz2⟩ := info_parts infoP
  obtain ⟨R, W', hrun, hown, hgr, _, hx⟩ := run_append_own_at (P := Try.prog) w B 66 66 47 i0 _ 1 8 Try.underlying66 hi hz0 hz1 hz2 rfl (by decide) v L.length (L.map pv) h
    ⟨g, 0, none⟩ 1 1 [pv x] rfl (fun j u hj => by
      rcases j with _ | j
      · simp at hj
        subst hj
        exact hg
      · simp at hj) (fun u hu => by simp at hu; subst hu; rfl) (by unfold maxLen; omega) (by omega) hB
  refine ⟨R, W', hrun, ?_, Tur.grown hgr fun k hk => by rw [hk]; simp, fun k hk => ?_⟩
  · unfold OwnP; rw [List.map_append, List.length_append]; simpa using hown
  · rcases hx with hx | hx
    · exact .inl (hx ▸ hk)
    · rw [hx] at hk
      injection hk with hk
      exact .inr (by omega)
/-- An append whose run is known, in a walk that draws. -/
theorem wpOp_appG {P : Program} {o : Oper} {a : Act} {w W' : World} {K : Act → World → Prop} {Q : Exit → Act → World → Prop} (s x : Operand) (t tx : TypeId)
    (ho : o.op = .call { callee := .builtin .append, args := #[s, x], argTypes := #[t, tx] }) (v xv R : Value) (hs : a.eval s = v) (hx : a.eval x = xv)
    (hrun : (Builtin.append_ #[t, tx] o.type #[v, xv]).run P w = .ok R W') (h : K (a.put o.dst R) W') : Oper.wp P o a w K Q := by
  unfold Oper.wp execOp
  simp only [ho, resolve, invoke, builtin, Sem.run_bind, Sem.run_pure, Result.andThen_ok, List.map_toArray, List.map_cons, List.map_nil, hs, hx, hrun]
  exact h
/-- All nodes of a tree, in order. -/
def Tr.nds : Tr → List Nd
  | .nil => []
  | .node b l k v _ _ r => l.nds ++ (⟨b, k, v⟩ :: r.nds)
theorem nds_len : ∀ T : Tr, T.nds.length = T.size
  | .nil => rfl
  | .node b l k v lo le r => by simp only [Tr.nds, Tr.size, List.length_append, List.length_cons, nds_len l, nds_len r]; omega
set_option maxHeartbeats 4000000 in
set_option maxRecDepth 100000 in
theorem gather_any (T : Tr) : ∀ (n B : Nat) (w : World) (v : Value) (L : List Nd), IsTr n w T → n ≤ B → B ≤ w.heap.size → OwnP B w v L → L.length + T.size ≤ 1000000 →
    Calls Try.prog 39 #[v, .pointer T.ptr] w fun e w' => ∃ v', e = .returned v' ∧ OutP B v w (L ++ T.nds) v' w' := by
  induction T with
  | nil =>
    intro n B w v L hT hnB hB hv hl
    obtain ⟨A, m, c, rfl, -⟩ := ownP_row hv
    have hp : (Tr.nil).ptr = none := rfl
    rw [hp]
    go_enter Try.func39, Try.ntmps39
    go_wp2_with fail
    go_ret
    exact ⟨_, rfl, by simpa [Tr.nds] using hv, Tur.refl _ _, fun k hk => .inl hk⟩
  | node b l k v0 lo le r ihl ihr =>
    intro n B w v L hT hnB hB hv hl
    obtain ⟨A, m, c, rfl, -⟩ := ownP_row hv
    have hT' := hT
    obtain ⟨h1, h2, h3, h4⟩ := hT
    have hsz : (Tr.node b l k v0 lo le r).size = l.size + 1 + r.size := rfl
    rw [hsz] at hl
    have hp : (Tr.node b l k v0 lo le r).ptr = some ⟨b, 0, none⟩ := rfl
    rw [hp]
    have c2 : w.cell? ⟨b, 2, none⟩ = some (.pointer l.ptr) := h2.cell 2
    have c3 : w.cell? ⟨b, 3, none⟩ = some (.pointer r.ptr) := h2.cell 3
    go_enter Try.func39, Try.ntmps39
    go_wp2_with fail
    refine wp_region_held_drew (S := fun X => X.cell? ⟨b, 2, none⟩ = some (.pointer l.ptr) ∧ X.cell? ⟨b, 3, none⟩ = some (.pointer r.ptr)) (by kernel_rfl) (by exact ⟨c2, c3⟩) (fun _ => ?_)
    (refine wpAnyH_take (i := 0) (v := ?_) rfl (by kernel_rfl) (by kernel_rfl) (by kernel_rfl) (fun _ _ _ h => h) (Or.inl ⟨by rfl, ?_⟩) (by assumption) ?_; rotate_left; (intro w hSw; (try dsimp only at hSw); go_simp; try with_reducible rfl); ((try simp only [List.getElem_toArray]); (try simp only [List.getElem_cons_succ]); (try simp only [List.getElem_cons_zero]); (try simp only [Act.put]); (try simp only [List.setIfInBounds_toArray]); (try simp only [List.set_cons_succ]); (try simp only [List.set_cons_zero])))
    (refine wpAnyH_take (i := 1) (v := ?_) rfl (by kernel_rfl) (by kernel_rfl) (by kernel_rfl) (fun _ _ _ h => h) (Or.inl ⟨by rfl, ?_⟩) (by assumption) ?_; rotate_left; (intro w hSw; (try dsimp only at hSw); go_simp; try with_reducible rfl); ((try simp only [List.getElem_toArray]); (try simp only [List.getElem_cons_succ]); (try simp only [List.getElem_cons_zero]); (try simp only [Act.put]); (try simp only [List.setIfInBounds_toArray]); (try simp only [List.set_cons_succ]); (try simp only [List.set_cons_zero])))
    (refine wpAnyH_take (i := 2) (v := ?_) rfl (by kernel_rfl) (by kernel_rfl) (by kernel_rfl) (fun _ _ _ h => h) (Or.inl ⟨by rfl, ?_⟩) (by assumption) ?_; rotate_left; (intro w hSw; (try dsimp only at hSw); go_simp; try with_reducible rfl); ((try simp only [List.getElem_toArray]); (try simp only [List.getElem_cons_succ]); (try simp only [List.getElem_cons_zero]); (try simp only [Act.put]); (try simp only [List.setIfInBounds_toArray]); (try simp only [List.set_cons_succ]); (try simp only [List.set_cons_zero])))
    (refine wpAnyH_take (i := 3) (v := ?_) rfl (by kernel_rfl) (by kernel_rfl) (by kernel_rfl) (fun _ _ _ h => h) (Or.inl ⟨by rfl, ?_⟩) (by assumption) ?_; rotate_left; (intro w hSw; (try dsimp only at hSw); go_simp; try with_reducible rfl); ((try simp only [List.getElem_toArray]); (try simp only [List.getElem_cons_succ]); (try simp only [List.getElem_cons_zero]); (try simp only [Act.put]); (try simp only [List.setIfInBounds_toArray]); (try simp only [List.set_cons_succ]); (try simp only [List.set_cons_zero])))
    (refine wpAnyH_take (i := 4) (v := ?_) rfl (by kernel_rfl) (by kernel_rfl) (by kernel_rfl) (fun _ _ _ h => h) (Or.inl ⟨by rfl, ?_⟩) (by assumption) ?_; rotate_left; (intro w hSw; (try dsimp only at hSw); go_simp; try with_reducible rfl); ((try simp only [List.getElem_toArray]); (try simp only [List.getElem_cons_succ]); (try simp only [List.getElem_cons_zero]); (try simp only [Act.put]); (try simp only [List.setIfInBounds_toArray]); (try simp only [List.set_cons_succ]); (try simp only [List.set_cons_zero])))
    (refine wpAnyH_take (i := 6) (v := ?_) rfl (by kernel_rfl) (by kernel_rfl) (by kernel_rfl) (fun _ _ _ h => h) (Or.inl ⟨by rfl, ?_⟩) (by assumption) ?_; rotate_left; (intro w hSw; (try dsimp only at hSw); go_simp; try with_reducible rfl); ((try simp only [List.getElem_toArray]); (try simp only [List.getElem_cons_succ]); (try simp only [List.getElem_cons_zero]); (try simp only [Act.put]); (try simp only [List.setIfInBounds_toArray]); (try simp only [List.set_cons_succ]); (try simp only [List.set_cons_zero])))
    (refine wpAnyH_take (i := 9) (v := ?_) rfl (by kernel_rfl) (by kernel_rfl) (by kernel_rfl) (fun _ _ _ h => h) (Or.inl ⟨by rfl, ?_⟩) (by assumption) ?_; rotate_left; (intro w hSw; (try dsimp only at hSw); go_simp; try with_reducible rfl); ((try simp only [List.getElem_toArray]); (try simp only [List.getElem_cons_succ]); (try simp only [List.getElem_cons_zero]); (try simp only [Act.put]); (try simp only [List.setIfInBounds_toArray]); (try simp only [List.set_cons_succ]); (try simp only [List.set_cons_zero])))
    (refine wpAnyH_take (i := 10) (v := ?_) rfl (by kernel_rfl) (by kernel_rfl) (by kernel_rfl) (fun _ _ _ h => h) (Or.inl ⟨by rfl, ?_⟩) (by assumption) ?_; rotate_left; (intro w hSw; (try dsimp only at hSw); go_simp; try with_reducible rfl); ((try simp only [List.getElem_toArray]); (try simp only [List.getElem_cons_succ]); (try simp only [List.getElem_cons_zero]); (try simp only [Act.put]); (try simp only [List.setIfInBounds_toArray]); (try simp only [List.set_cons_succ]); (try simp only [List.set_cons_zero])))
    (refine wpAnyH_take (i := 11) (v := ?_) rfl (by kernel_rfl) (by kernel_rfl) (by kernel_rfl) (fun _ _ _ h => h) (Or.inl ⟨by rfl, ?_⟩) (by assumption) ?_; rotate_left; (intro w hSw; (try dsimp only at hSw); go_simp; try with_reducible rfl); ((try simp only [List.getElem_toArray]); (try simp only [List.getElem_cons_succ]); (try simp only [List.getElem_cons_zero]); (try simp only [Act.put]); (try simp only [List.setIfInBounds_toArray]); (try simp only [List.set_cons_succ]); (try simp only [List.set_cons_zero])))
    (refine wpAnyH_take (i := 12) (v := ?_) rfl (by kernel_rfl) (by kernel_rfl) (by kernel_rfl) (fun _ _ _ h => h) (Or.inl ⟨by rfl, ?_⟩) (by assumption) ?_; rotate_left; (intro w hSw; (try dsimp only at hSw); go_simp; try with_reducible rfl); ((try simp only [List.getElem_toArray]); (try simp only [List.getElem_cons_succ]); (try simp only [List.getElem_cons_zero]); (try simp only [Act.put]); (try simp only [List.setIfInBounds_toArray]); (try simp only [List.set_cons_succ]); (try simp only [List.set_cons_zero])))
    refine wpAnyH_ready (rs := [5, 7]) (by kernel_rfl) (by simp) ?_
    refine AllReadyH.cons rfl (fun K2 hK2 => ?_) (AllReadyH.cons rfl (fun K2 hK2 => ?_) AllReadyH.nil)
    · go_simp
      have hv0 : OwnP B w.drew (.slice A m c) L := hv.keep fun _ _ => rfl
      refine (ihl n B w.drew (.slice A m c) L (h3.hp rfl) hnB hB hv0 (by omega)).mono ?_
      rintro e w1 ⟨v1, rfl, ho1⟩
      have b1 := ho1.below hv0 hB
      have d2 : w1.cell? ⟨b, 2, none⟩ = some (.pointer l.ptr) := (b1.cell (p := ⟨b, 2, none⟩) (by show b < B; omega)).trans c2
      have d3 : w1.cell? ⟨b, 3, none⟩ = some (.pointer r.ptr) := (b1.cell (p := ⟨b, 3, none⟩) (by show b < B; omega)).trans c3
      have r1 : IsTr n w1 r := (h4.hp (w' := w.drew) rfl).below (b1.mono hnB)
      have s1 : B ≤ w1.heap.size := Nat.le_trans hB b1.size
      obtain ⟨A1, m1, k1, rfl, -⟩ := ownP_row ho1.1
      go_wp2_with fail
      refine hK2.out _ _ (by exact ⟨d2, d3⟩) (fun hq => ?_)
      clear hK2 K2
      ((try simp only [List.getElem_toArray]); (try simp only [List.getElem_cons_succ]); (try simp only [List.getElem_cons_zero]); (try simp only [Act.put]); (try simp only [List.setIfInBounds_toArray]); (try simp only [List.set_cons_succ]); (try simp only [List.set_cons_zero]))
      refine wpAnyH_ready (rs := [7]) (by kernel_rfl) (by simp) ?_
      refine AllReadyH.cons rfl (fun K2 hK2 => ?_) AllReadyH.nil
      go_simp
      have gx : (w1.alloc (.cells #[.pointer (some ⟨b, 0, none⟩)] 47)).cell? ⟨w1.heap.size, 0, none⟩ = some (pv ⟨b, k, v0⟩) := (Has.new w1 47 #[.pointer (some ⟨b, 0, none⟩)]).cell 0
      have tx : Tur (Value.slice A1 m1 k1).ownBlock.toList w1 (w1.alloc (.cells #[.pointer (some ⟨b, 0, none⟩)] 47)) := Tur.alloc _ w1 _
      have bx : Below B w1 (w1.alloc (.cells #[.pointer (some ⟨b, 0, none⟩)] 47)) := (Below.refl B w1).alloc s1 _
      have ox : OwnP B (w1.alloc (.cells #[.pointer (some ⟨b, 0, none⟩)] 47)) (.slice A1 m1 k1) (L ++ l.nds) := ho1.1.keep fun g hg => Below.heap_alloc w1 _ g (ho1.1.lt hg).2
      have d2 : (w1.alloc (.cells #[.pointer (some ⟨b, 0, none⟩)] 47)).cell? ⟨b, 2, none⟩ = some (.pointer l.ptr) := (bx.cell (p := ⟨b, 2, none⟩) (by show b < B; omega)).trans d2
      have d3 : (w1.alloc (.cells #[.pointer (some ⟨b, 0, none⟩)] 47)).cell? ⟨b, 3, none⟩ = some (.pointer r.ptr) := (bx.cell (p := ⟨b, 3, none⟩) (by show b < B; omega)).trans d3
      have r2 : IsTr n (w1.alloc (.cells #[.pointer (some ⟨b, 0, none⟩)] 47)) r := r1.below (bx.mono hnB)
      obtain ⟨R3, w3, hrun3, ho3⟩ := appP (w1.alloc (.cells #[.pointer (some ⟨b, 0, none⟩)] 47)) w1.heap.size B (.slice A1 m1 k1) (L ++ l.nds) ⟨b, k, v0⟩ gx ox (by have := bx.size; omega) (by simp only [List.length_append, nds_len]; omega)
      refine hK2.out _ _ (by exact ⟨d2, d3⟩) (fun hq => ?_)
      clear hK2 K2
      ((try simp only [List.getElem_toArray]); (try simp only [List.getElem_cons_succ]); (try simp only [List.getElem_cons_zero]); (try simp only [Act.put]); (try simp only [List.setIfInBounds_toArray]); (try simp only [List.set_cons_succ]); (try simp only [List.set_cons_zero]))
      refine wpAnyH_ready (rs := [8]) (by kernel_rfl) (by simp) ?_
      refine AllReadyH.cons rfl (fun K2 hK2 => ?_) AllReadyH.nil
      rw [if_pos (by rfl)]
      refine wpOp_appG _ _ _ _ rfl _ _ _ (by rfl) (by rfl) hrun3 ?_
      obtain ⟨A3, m3, k3, rfl, -⟩ := ownP_row ho3.1
      have b3 := ho3.below ox (by have := bx.size; omega)
      have s3 : B ≤ w3.heap.size := by have := b3.size; have := bx.size; omega
      have d2 : w3.cell? ⟨b, 2, none⟩ = some (.pointer l.ptr) := (b3.cell (p := ⟨b, 2, none⟩) (by show b < B; omega)).trans d2
      have d3 : w3.cell? ⟨b, 3, none⟩ = some (.pointer r.ptr) := (b3.cell (p := ⟨b, 3, none⟩) (by show b < B; omega)).trans d3
      have r3 : IsTr n w3 r := r2.below (b3.mono hnB)
      refine hK2.out _ _ (by exact ⟨d2, d3⟩) (fun hq => ?_)
      clear hK2 K2
      ((try simp only [List.getElem_toArray]); (try simp only [List.getElem_cons_succ]); (try simp only [List.getElem_cons_zero]); (try simp only [Act.put]); (try simp only [List.setIfInBounds_toArray]); (try simp only [List.set_cons_succ]); (try simp only [List.set_cons_zero]))
      refine wpAnyH_ready (rs := [13]) (by kernel_rfl) (by simp) ?_
      refine AllReadyH.cons rfl (fun K2 hK2 => ?_) AllReadyH.nil
      go_simp
      refine (ihr n B w3 (.slice A3 m3 k3) (L ++ l.nds ++ [⟨b, k, v0⟩]) r3 hnB s3 ho3.1 (by simp only [List.length_append, List.length_singleton, nds_len]; omega)).mono ?_
      rintro e w4 ⟨v4, rfl, ho4⟩
      have hfin := ((ho1.pre (Tur.drew _ w)).trans (ho3.pre tx)).trans ho4
      have hL : L ++ l.nds ++ [⟨b, k, v0⟩] ++ r.nds = L ++ (Tr.node b l k v0 lo le r).nds := by simp [Tr.nds]
      rw [hL] at hfin
      have b4 := ho4.below ho3.1 s3
      have d2 : w4.cell? ⟨b, 2, none⟩ = some (.pointer l.ptr) := (b4.cell (p := ⟨b, 2, none⟩) (by show b < B; omega)).trans d2
      have d3 : w4.cell? ⟨b, 3, none⟩ = some (.pointer r.ptr) := (b4.cell (p := ⟨b, 3, none⟩) (by show b < B; omega)).trans d3
      have HFIN := Lib.hid hfin
      obtain ⟨A4, m4, k4, rfl, -⟩ := ownP_row ho4.1
      clear hfin ho4 ho3 b4
      go_wp2_with fail
      refine hK2.out _ _ (by exact ⟨d2, d3⟩) (fun hq => ?_)
      clear hK2 K2
      ((try simp only [List.getElem_toArray]); (try simp only [List.getElem_cons_succ]); (try simp only [List.getElem_cons_zero]); (try simp only [Act.put]); (try simp only [List.setIfInBounds_toArray]); (try simp only [List.set_cons_succ]); (try simp only [List.set_cons_zero]))
      (refine wpAnyH_take (i := 14) (v := ?_) rfl (by kernel_rfl) (by kernel_rfl) (by kernel_rfl) (fun _ _ _ h => h) (Or.inl ⟨by rfl, ?_⟩) (by assumption) ?_; rotate_left; (intro w hSw; (try dsimp only at hSw); go_simp; try with_reducible rfl); ((try simp only [List.getElem_toArray]); (try simp only [List.getElem_cons_succ]); (try simp only [List.getElem_cons_zero]); (try simp only [Act.put]); (try simp only [List.setIfInBounds_toArray]); (try simp only [List.set_cons_succ]); (try simp only [List.set_cons_zero])))
      refine wpAnyH_done (by kernel_rfl) ?_ _
      go_wp2_with fail
      go_ret
      exact ⟨_, rfl, HFIN.out⟩
    · go_simp
      have gx : ((w.alloc (.cells #[.pointer (some ⟨b, 0, none⟩)] 47)).drew).cell? ⟨w.heap.size, 0, none⟩ = some (pv ⟨b, k, v0⟩) := (Has.new w 47 #[.pointer (some ⟨b, 0, none⟩)]).cell 0
      have tx : Tur (Value.slice A m c).ownBlock.toList w ((w.alloc (.cells #[.pointer (some ⟨b, 0, none⟩)] 47)).drew) := (Tur.alloc _ w _).trans (Tur.drew _ _) (Fre.refl _ _)
      have bx : Below B w ((w.alloc (.cells #[.pointer (some ⟨b, 0, none⟩)] 47)).drew) := ((Below.refl B w).alloc hB _).drew
      have ox : OwnP B ((w.alloc (.cells #[.pointer (some ⟨b, 0, none⟩)] 47)).drew) (.slice A m c) L := hv.keep fun g hg => Below.heap_alloc w _ g (hv.lt hg).2
      have lg : w.heap.size < ((w.alloc (.cells #[.pointer (some ⟨b, 0, none⟩)] 47)).drew).heap.size := by simp [World.drew]
      have d2 : ((w.alloc (.cells #[.pointer (some ⟨b, 0, none⟩)] 47)).drew).cell? ⟨b, 2, none⟩ = some (.pointer l.ptr) := (bx.cell (p := ⟨b, 2, none⟩) (by show b < B; omega)).trans c2
      have d3 : ((w.alloc (.cells #[.pointer (some ⟨b, 0, none⟩)] 47)).drew).cell? ⟨b, 3, none⟩ = some (.pointer r.ptr) := (bx.cell (p := ⟨b, 3, none⟩) (by show b < B; omega)).trans c3
      have l1 : IsTr n ((w.alloc (.cells #[.pointer (some ⟨b, 0, none⟩)] 47)).drew) l := h3.below (bx.mono hnB)
      have r1 : IsTr n ((w.alloc (.cells #[.pointer (some ⟨b, 0, none⟩)] 47)).drew) r := h4.below (bx.mono hnB)
      have sx := bx.size
      refine hK2.out _ _ (by exact ⟨d2, d3⟩) (fun hq => ?_)
      clear hK2 K2
      ((try simp only [List.getElem_toArray]); (try simp only [List.getElem_cons_succ]); (try simp only [List.getElem_cons_zero]); (try simp only [Act.put]); (try simp only [List.setIfInBounds_toArray]); (try simp only [List.set_cons_succ]); (try simp only [List.set_cons_zero]))
      refine wpAnyH_ready (rs := [5]) (by kernel_rfl) (by simp) ?_
      refine AllReadyH.cons rfl (fun K2 hK2 => ?_) AllReadyH.nil
      go_simp
      refine (ihl n B _ (.slice A m c) L l1 hnB (by omega) ox (by omega)).mono ?_
      rintro e w2 ⟨v1, rfl, ho1⟩
      have b1 := ho1.below ox (by omega)
      have d2 : w2.cell? ⟨b, 2, none⟩ = some (.pointer l.ptr) := (b1.cell (p := ⟨b, 2, none⟩) (by show b < B; omega)).trans d2
      have d3 : w2.cell? ⟨b, 3, none⟩ = some (.pointer r.ptr) := (b1.cell (p := ⟨b, 3, none⟩) (by show b < B; omega)).trans d3
      have r2 : IsTr n w2 r := r1.below (b1.mono hnB)
      have gx2 : w2.cell? ⟨w.heap.size, 0, none⟩ = some (pv ⟨b, k, v0⟩) := (World.cell?_of_block (a := ⟨w.heap.size, 0, none⟩) (ho1.2.1.block w.heap.size lg (fun hh => by have := (hv.lt (by simpa using hh)).2; omega))).trans gx
      obtain ⟨A1, m1, k1, rfl, -⟩ := ownP_row ho1.1
      have s2 : B ≤ w2.heap.size := by have := b1.size; omega
      obtain ⟨R3, w3, hrun3, ho3⟩ := appP w2 w.heap.size B (.slice A1 m1 k1) (L ++ l.nds) ⟨b, k, v0⟩ gx2 ho1.1 s2 (by simp only [List.length_append, nds_len]; omega)
      go_wp2_with fail
      refine hK2.out _ _ (by exact ⟨d2, d3⟩) (fun hq => ?_)
      clear hK2 K2
      ((try simp only [List.getElem_toArray]); (try simp only [List.getElem_cons_succ]); (try simp only [List.getElem_cons_zero]); (try simp only [Act.put]); (try simp only [List.setIfInBounds_toArray]); (try simp only [List.set_cons_succ]); (try simp only [List.set_cons_zero]))
      refine wpAnyH_ready (rs := [8]) (by kernel_rfl) (by simp) ?_
      refine AllReadyH.cons rfl (fun K2 hK2 => ?_) AllReadyH.nil
      rw [if_pos (by rfl)]
      refine wpOp_appG _ _ _ _ rfl _ _ _ (by rfl) (by rfl) hrun3 ?_
      obtain ⟨A3, m3, k3, rfl, -⟩ := ownP_row ho3.1
      have b3 := ho3.below ho1.1 s2
      have s3 : B ≤ w3.heap.size := Nat.le_trans s2 b3.size
      have d2 : w3.cell? ⟨b, 2, none⟩ = some (.pointer l.ptr) := (b3.cell (p := ⟨b, 2, none⟩) (by show b < B; omega)).trans d2
      have d3 : w3.cell? ⟨b, 3, none⟩ = some (.pointer r.ptr) := (b3.cell (p := ⟨b, 3, none⟩) (by show b < B; omega)).trans d3
      have r3 : IsTr n w3 r := r2.below (b3.mono hnB)
      refine hK2.out _ _ (by exact ⟨d2, d3⟩) (fun hq => ?_)
      clear hK2 K2
      ((try simp only [List.getElem_toArray]); (try simp only [List.getElem_cons_succ]); (try simp only [List.getElem_cons_zero]); (try simp only [Act.put]); (try simp only [List.setIfInBounds_toArray]); (try simp only [List.set_cons_succ]); (try simp only [List.set_cons_zero]))
      refine wpAnyH_ready (rs := [13]) (by kernel_rfl) (by simp) ?_
      refine AllReadyH.cons rfl (fun K2 hK2 => ?_) AllReadyH.nil
      go_simp
      refine (ihr n B w3 (.slice A3 m3 k3) (L ++ l.nds ++ [⟨b, k, v0⟩]) r3 hnB s3 ho3.1 (by simp only [List.length_append, List.length_singleton, nds_len]; omega)).mono ?_
      rintro e w4 ⟨v4, rfl, ho4⟩
      have hfin := ((ho1.pre tx).trans ho3).trans ho4
      have hL : L ++ l.nds ++ [⟨b, k, v0⟩] ++ r.nds = L ++ (Tr.node b l k v0 lo le r).nds := by simp [Tr.nds]
      rw [hL] at hfin
      have b4 := ho4.below ho3.1 s3
      have d2 : w4.cell? ⟨b, 2, none⟩ = some (.pointer l.ptr) := (b4.cell (p := ⟨b, 2, none⟩) (by show b < B; omega)).trans d2
      have d3 : w4.cell? ⟨b, 3, none⟩ = some (.pointer r.ptr) := (b4.cell (p := ⟨b, 3, none⟩) (by show b < B; omega)).trans d3
      have HFIN := Lib.hid hfin
      obtain ⟨A4, m4, k4, rfl, -⟩ := ownP_row ho4.1
      clear hfin ho4 ho3 b4
      go_wp2_with fail
      refine hK2.out _ _ (by exact ⟨d2, d3⟩) (fun hq => ?_)
      clear hK2 K2
      ((try simp only [List.getElem_toArray]); (try simp only [List.getElem_cons_succ]); (try simp only [List.getElem_cons_zero]); (try simp only [Act.put]); (try simp only [List.setIfInBounds_toArray]); (try simp only [List.set_cons_succ]); (try simp only [List.set_cons_zero]))
      (refine wpAnyH_take (i := 14) (v := ?_) rfl (by kernel_rfl) (by kernel_rfl) (by kernel_rfl) (fun _ _ _ h => h) (Or.inl ⟨by rfl, ?_⟩) (by assumption) ?_; rotate_left; (intro w hSw; (try dsimp only at hSw); go_simp; try with_reducible rfl); ((try simp only [List.getElem_toArray]); (try simp only [List.getElem_cons_succ]); (try simp only [List.getElem_cons_zero]); (try simp only [Act.put]); (try simp only [List.setIfInBounds_toArray]); (try simp only [List.set_cons_succ]); (try simp only [List.set_cons_zero])))
      refine wpAnyH_done (by kernel_rfl) ?_ _
      go_wp2_with fail
      go_ret
      exact ⟨_, rfl, HFIN.out⟩
end Go.Proofs.Ytmapclocbhkpbaa
