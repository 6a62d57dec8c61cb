/-
  Put together: Cut, StepA, PutT.
-/
import Derived.Test.YtjkmbggaoinkdaaDoorGood4
import Derived.Test.YtjkmbggaoinkdaaDoorQb
import Derived.Test.YtjkmbggaoinkdaaDoorQi
import Derived.Lib.LazyBuf
import Derived.Test.YtjkmbggaoinkdaaDoorQa
import Derived.Test.YtjkmbggaoinkdaaDoorQc
import Derived.Deep.RegionHeld3
import Derived.IntWalk
import Derived.Test.YtjkmbggaoinkdaaDoorQj
import Derived.Test.YtjkmbggaoinkdaaDoorQh
namespace Go.Proofs.YtjkmbggaoinkdaaDoor
open Go.RowKit Dg
def cutC (x : Cl) : Cl := ⟨forty x.nm, x.k, x.no⟩
def cutTo (L : List Cl) (k : Nat) : List Cl := (L.take k).map cutC
def cutL (L : List Cl) : List Cl := cutTo L 20
theorem cutTo_succ (L : List Cl) (k : Nat) (h : k < L.length) : cutTo L (k + 1) = cutTo L k ++ [cutC L[k]] := by
  unfold cutTo; rw [List.take_succ_eq_append_getElem h, List.map_append]; rfl
theorem cutTo_len (L : List Cl) (k : Nat) : (cutTo L k).length ≤ k := by unfold cutTo; rw [List.length_map, List.length_take]; omega
theorem cutTo_end (L : List Cl) (k : Nat) (h : k = L.length ∨ k = 20) (hk : k ≤ 20) : cutTo L k = cutL L := by
  unfold cutL
  rcases h with h | h
  · unfold cutTo; rw [List.take_of_length_le (by omega), List.take_of_length_le (by omega)]
  · rw [h]
theorem cutL_fit (L : List Cl) (h : ∀ x ∈ L, x.fit) : ∀ x ∈ cutL L, x.fit := fun x hx => by
  unfold cutL cutTo at hx
  obtain ⟨y, hy, rfl⟩ := List.mem_map.1 hx
  obtain ⟨h1, h2, h3⟩ := h y (List.mem_of_mem_take hy)
  exact ⟨by show (forty y.nm).size ≤ _; have := forty_size y.nm; omega, h2, h3⟩
structure CSt (w : World) (A : Option Addr) (n c : Nat) (K : Int) (wr : World) (v : Value) (M : List Cl) : Prop where
  own : OwnC (w.heap.size + 3) wr v M
  bel : Below w.heap.size w wr
  prm : Has wr w.heap.size 27 #[.slice A n c, .int .i64 K]
  res : Has wr (w.heap.size + 1) 27 #[.slice none 0 0, .int .i64 0]
  out : Has wr (w.heap.size + 2) 27 #[v, .int .i64 K]
  big : w.heap.size + 3 ≤ wr.heap.size
section
variable {w wr w' : World} {A : Option Addr} {n c : Nat} {K : Int} {v : Value} {M : List Cl}
theorem CSt.below (h : CSt w A n c K wr v M) (hb : Below wr.heap.size wr w') : CSt w A n c K w' v M :=
  ⟨h.own.below hb, h.bel.trans (hb.mono h.bel.size), h.prm.below hb h.prm.lt, h.res.below hb h.res.lt, h.out.below hb h.out.lt, Nat.le_trans h.big hb.size⟩
theorem CSt.stored (h : CSt w A n c K wr v M) {R : Value} {M' : List Cl} (ho : OwnC (w.heap.size + 3) w' R M') (hb : Below (w.heap.size + 3) wr w') : CSt w A n c K (w'.setCell ⟨w.heap.size + 2, 0, none⟩ R) R M' := by
  refine ⟨ho.far (by show w.heap.size + 2 < _; omega) R, (h.bel.trans (hb.mono (by omega))).setCell (by show w.heap.size ≤ w.heap.size + 2; omega) _, ?_, ?_, ?_, ?_⟩
  · exact (h.prm.below hb (by omega)).far (by show w.heap.size ≠ w.heap.size + 2; omega) _
  · exact (h.res.below hb (by omega)).far (by show w.heap.size + 1 ≠ w.heap.size + 2; omega) _
  · exact (h.out.below hb (by omega)).put 0 R
  · rw [size_set]; exact Nat.le_trans h.big hb.size
end
theorem sliceNil (a : Option Addr) (l c : Nat) (w : World) : (binOp .eql 25 (.slice a l c) (.slice none 0 0)).run Tryd.prog w = .ok (.bool a.isNone) w := Lib.run_eql_slice_nil (h := Tryd.underlying25) ..
theorem cell_s2' {W : World} {p : Nat} {u u' : Value} {a : Addr} {v : Value} (hne : p ≠ a.block) (h : W.cell? a = some v) : ((W.setCell ⟨p, 0, none⟩ u).setCell ⟨p, 1, none⟩ u').cell? a = some v := cell_s2 hne h
theorem own_empty (w : World) : OwnC w.heap.size (w.alloc (.cells #[] 29)) (.slice (some ⟨w.heap.size, 0, none⟩) 0 0) [] :=
  ⟨rfl, .inr ⟨w.heap.size, 0, #[], rfl, Nat.le_refl _, Has.new w 29 #[], Nat.le_refl _, Nat.zero_le _, rfl, rfl⟩⟩
end Go.Proofs.YtjkmbggaoinkdaaDoor
namespace Go.Proofs.YtjkmbggaoinkdaaDoor
open Go.RowKit Dg
theorem step_appA {P : Program} {ops : Array Oper} {o : Oper} {a : Act} {w : World} {K : Act → World → Prop} {Q : Exit → Act → World → Prop} {E : Prop} (hgd : o.guard = none) (s x : Operand) (t tx : TypeId)
    (ho : o.op = .call { callee := .builtin .append, args := #[s, x], argTypes := #[t, tx] }) (v xv : Value) (hs : a.eval s = v) (hx : a.eval x = xv)
    (hrun : ∃ R W', (Builtin.append_ #[t, tx] o.type #[v, xv]).run P w = .ok R W' ∧ K (a.put o.dst R) W') :
    if Region.wanted o (yielded ops a.tmps) = true then Oper.wp P o a w K Q else E := by
  have hw : Region.wanted o (yielded ops a.tmps) = true := by simp [Region.wanted, hgd]
  rw [if_pos hw]
  obtain ⟨R, W', hrun, h⟩ := hrun
  unfold Oper.wp execOp
  simp only [ho, resolve, invoke, builtin, Sem.run_bind, Sem.run_pure, Result.andThen_ok, List.map_toArray, List.map_cons, List.map_nil, hs, hx, hrun]
  exact h
theorem OwnC.drew {B : Nat} {w : World} {v : Value} {L : List Cl} (h : OwnC B w v L) : OwnC B w.drew v L := h.below ((Below.refl _ w).drew)
theorem cflat_take (L : List Cl) (i : Nat) (h : i ≤ L.length) : (L.flatMap Cl.cells).take (i * 3) = (L.take i).flatMap Cl.cells := by
  have e : L.flatMap Cl.cells = (L.take i).flatMap Cl.cells ++ (L.drop i).flatMap Cl.cells := by rw [← List.flatMap_append, List.take_append_drop]
  rw [e, List.take_append_of_le_length (by rw [cflat_len, List.length_take]; omega), List.take_of_length_le (by rw [cflat_len, List.length_take]; omega)]
theorem OwnC.takeV {B : Nat} {w : World} {a : Addr} {n c : Nat} {L : List Cl} (h : OwnC B w (.slice (some a) n c) L) (i : Nat) (hi : i ≤ L.length) : OwnC B w (.slice (some a) i c) (L.take i) := by
  rcases h.2 with ⟨hv, _⟩ | ⟨g, cap, cur, hv, hB, hh, hc, hcm, hsz, ht⟩
  · cases hv
  · injection hv with e1 e2 e3
    subst e3
    have hl : (L.take i).length = i := by rw [List.length_take]; omega
    refine ⟨cflat_len _, .inr ⟨g, c, cur, by rw [e1, hl], hB, hh, by rw [hl]; omega, hcm, hsz, ?_⟩⟩
    rw [hl, ← cflat_take L i hi, ← ht, List.take_take, Nat.min_eq_left (by omega)]
theorem OwnC.off0 {B : Nat} {w : World} {g off n c : Nat} {L : List Cl} (h : OwnC B w (.slice (some ⟨g, off, none⟩) n c) L) : off = 0 := by
  rcases h.2 with ⟨hv, _⟩ | ⟨g2, cap, cur, hv, _⟩
  · cases hv
  · injection hv with e1 _ _
    injection e1 with e1
    injection e1
theorem ownC_put2 {B : Nat} {w : World} {g n c : Nat} {L : List Cl} (h : OwnC B w (.slice (some ⟨g, 0, none⟩) n c) L) (i : Nat) (hi : i < L.length) (j : Nat) (hj : j < 3) (u : Value) (x : Cl) (hx : x.cells = L[i].cells.set j u) :
    B ≤ g ∧ w.frozen? ⟨g, i * 3 + j, none⟩ = false ∧ OwnC B (w.setCell ⟨g, i * 3 + j, none⟩ u) (.slice (some ⟨g, 0, none⟩) n c) (L.set i x) := by
  obtain ⟨g2, c2, hv, hB, _, hf, _, ho⟩ := ownC_put h i hi j hj u x hx
  injection hv with e1 e2 e3
  injection e1 with e1
  injection e1 with e1
  subst e1
  exact ⟨hB, hf, ho⟩
theorem OwnC.row {B : Nat} {w : World} {v : Value} {L : List Cl} (h : OwnC B w v L) {A : Option Addr} {n c : Nat} (hv : v = .slice A n c) : CRow w A L := by
  obtain ⟨A2, c2, e, _, _, hr, _⟩ := ownC_row h
  rw [hv] at e
  injection e with e1 _ _
  rw [e1]; exact hr
end Go.Proofs.YtjkmbggaoinkdaaDoor
namespace Go.Proofs.YtjkmbggaoinkdaaDoor
open Go.RowKit Dg
set_option maxRecDepth 100000
/-- A table's columns lie where they should; they are few. -/
structure TOk (w : World) (x : Tb) : Prop where
  len : x.L.length = x.n
  cap : x.n ≤ x.c
  max : x.c ≤ maxLen
  row : CRow w x.A x.L
  nil : x.A = none → x.c = 0
  few : x.n ≤ 900
theorem TOk.below {w w' : World} {x : Tb} (h : TOk w x) (hb : Below w.heap.size w w') : TOk w' x := ⟨h.len, h.cap, h.max, h.row.below hb, h.nil, h.few⟩
def TOks (w : World) (T : List Tb) : Prop := ∀ x ∈ T, TOk w x
theorem TOks.below {w w' : World} {T : List Tb} (h : TOks w T) (hb : Below w.heap.size w w') : TOks w' T := fun x hx => (h x hx).below hb
theorem TOks.tin {w : World} {T : List Tb} (h : TOks w T) : TIn w T := fun x hx => ⟨(h x hx).len, (h x hx).cap, (h x hx).max, (h x hx).row⟩
/-- A table is another one's clone, in memory of its own. -/
structure Cln (B : Nat) (w : World) (x y : Tb) : Prop where
  td : y.td = x.td
  own : OwnC B w (.slice y.A y.n y.c) y.L
theorem Cln.ok {B : Nat} {w : World} {x y : Tb} (h : Cln B w x y) (hx : x.L.length ≤ 900) : TOk w y := by
  obtain ⟨A, c, e, h1, h2, h3, h4⟩ := ownC_row h.own
  injection e with e1 e2 e3
  have hL : y.L = x.L := congrArg Td.L h.td
  subst e1 e3
  exact ⟨e2.symm, by omega, h2, h3, h4, by rw [e2, hL]; exact hx⟩
def Clns (B : Nat) (w : World) (T T' : List Tb) : Prop := T'.length = T.length ∧ ∀ i (h : i < T.length) (h' : i < T'.length), Cln B w T[i] T'[i]
theorem Clns.td {B : Nat} {w : World} {T T' : List Tb} (h : Clns B w T T') : tds T' = tds T := by
  apply List.ext_getElem
  · rw [tds_len, tds_len]; exact h.1
  · intro i h1 h2
    rw [tds_len] at h1 h2
    rw [tds_get T' i h1, tds_get T i h2]
    exact (h.2 i h2 h1).td
theorem Clns.ok {B : Nat} {w : World} {T T' : List Tb} (h : Clns B w T T') (hx : ∀ x ∈ T, x.L.length ≤ 900) : TOks w T' := fun y hy => by
  obtain ⟨i, hi, rfl⟩ := List.getElem_of_mem hy
  have hi' : i < T.length := by rw [← h.1]; exact hi
  exact (h.2 i hi' hi).ok (hx _ (List.getElem_mem hi'))
theorem Cln.below {B : Nat} {w w' : World} {x y : Tb} (h : Cln B w x y) (hb : Below w.heap.size w w') : Cln B w' x y := ⟨h.td, h.own.below hb⟩
theorem Clns.below {B : Nat} {w w' : World} {T T' : List Tb} (h : Clns B w T T') (hb : Below w.heap.size w w') : Clns B w' T T' := ⟨h.1, fun i h1 h2 => (h.2 i h1 h2).below hb⟩
/-- How the memory stands while clones are made: the row, and what is in it. -/
structure PSt (w : World) (D : Nat) (A9 : Option Addr) (n9 c9 : Nat) (T0 : List Tb) (k : Nat) (wr : World) (T1 : List Tb) : Prop where
  own : OwnT w.heap.size wr (.slice A9 n9 c9) T1
  dom : ∀ g, A9 = some ⟨g, 0, none⟩ → g < D
  len : T1.length = T0.length
  lo : ∀ i (h : i < T0.length) (h' : i < T1.length), i < k → Cln D wr T0[i] T1[i]
  hi : ∀ i (h : i < T0.length) (h' : i < T1.length), k ≤ i → T1[i] = T0[i]
  bel : Below w.heap.size w wr
  big : D ≤ wr.heap.size
theorem PSt.cells {w : World} {D g n9 c9 : Nat} {T0 : List Tb} {k : Nat} {wr : World} {T1 : List Tb} (h : PSt w D (some ⟨g, 0, none⟩) n9 c9 T0 k wr T1) (hk : k < T0.length) :
    wr.cell? ⟨g, k * 3 + 1, none⟩ = some (.slice T0[k].A T0[k].n T0[k].c) ∧ wr.cell? ⟨g, k * 3 + 2, none⟩ = some (.int .i64 T0[k].K) ∧ k < n9 ∧ w.heap.size ≤ g := by
  have hk1 : k < T1.length := by rw [h.len]; exact hk
  obtain ⟨g2, c2, hv, hg, hc, hf, hcell, _⟩ := ownT_put h.own k hk1 1 (by omega) (.slice T1[k].A T1[k].n T1[k].c) T1[k] rfl
  obtain ⟨_, _, hv', _, _, _, hcell2, _⟩ := ownT_put h.own k hk1 2 (by omega) (.int .i64 T1[k].K) T1[k] rfl
  injection hv with e1 e2 _
  injection e1 with e1
  injection e1 with e1
  injection hv' with e1' _ _
  injection e1' with e1'
  injection e1' with e1'
  subst e1 e1'
  rw [h.hi k hk hk1 (Nat.le_refl _)] at hcell hcell2
  exact ⟨hcell, hcell2, by omega, hg⟩
theorem PSt.step {w : World} {D g n9 c9 : Nat} {T0 : List Tb} {k : Nat} {wr : World} {T1 : List Tb} (h : PSt w D (some ⟨g, 0, none⟩) n9 c9 T0 k wr T1) (hk : k < T0.length) {w2 : World} {A8 : Option Addr} {n8 c8 : Nat} (ho : OwnC wr.heap.size w2 (.slice A8 n8 c8) T0[k].L) (hb : Below wr.heap.size wr w2) :
    w2.frozen? ⟨g, k * 3 + 1, none⟩ = false ∧ (w2.setCell ⟨g, k * 3 + 1, none⟩ (.slice A8 n8 c8)).frozen? ⟨g, k * 3 + 2, none⟩ = false ∧
    PSt w D (some ⟨g, 0, none⟩) n9 c9 T0 (k + 1) ((w2.setCell ⟨g, k * 3 + 1, none⟩ (.slice A8 n8 c8)).setCell ⟨g, k * 3 + 2, none⟩ (.int .i64 T0[k].K)) (T1.set k ⟨T0[k].nm, A8, n8, c8, T0[k].L, T0[k].K⟩) := by
  have hg : g < D := h.dom g rfl
  have hk1 : k < T1.length := by rw [h.len]; exact hk
  have hT := h.hi k hk hk1 (Nat.le_refl _)
  obtain ⟨hgB, hf1, ho1⟩ := ownT_put2 (h.own.below hb) k hk1 1 (by omega) (.slice A8 n8 c8) ⟨T0[k].nm, A8, n8, c8, T0[k].L, T0[k].K⟩ (by rw [hT]; rfl)
  have hk2 : k < (T1.set k ⟨T0[k].nm, A8, n8, c8, T0[k].L, T0[k].K⟩).length := by rw [List.length_set]; exact hk1
  obtain ⟨_, hf2, ho2⟩ := ownT_put2 ho1 k hk2 2 (by omega) (.int .i64 T0[k].K) ⟨T0[k].nm, A8, n8, c8, T0[k].L, T0[k].K⟩ (by rw [List.getElem_set_self]; rfl)
  rw [List.set_set] at ho2
  refine ⟨hf1, hf2, ho2, h.dom, by rw [List.length_set]; exact h.len, fun i h1 h2 hik => ?_, fun i h1 h2 hik => ?_, ?_, ?_⟩
  · rw [List.length_set] at h2
    by_cases e : k = i
    · subst e
      rw [List.getElem_set_self]
      exact ⟨rfl, ((ownC_down ho h.big).far (p := ⟨g, k * 3 + 1, none⟩) hg _).far (p := ⟨g, k * 3 + 2, none⟩) hg _⟩
    · rw [List.getElem_set_ne e]
      have hc := h.lo i h1 h2 (by omega)
      exact ⟨hc.td, ((hc.own.below hb).far (p := ⟨g, k * 3 + 1, none⟩) hg _).far (p := ⟨g, k * 3 + 2, none⟩) hg _⟩
  · rw [List.length_set] at h2
    rw [List.getElem_set_ne (by omega)]
    exact h.hi i h1 h2 (by omega)
  · exact ((h.bel.trans (hb.mono h.bel.size)).setCell hgB _).setCell hgB _
  · have h1 := h.big
    have h2 := hb.size
    simp
    omega
theorem PSt.open_ {w : World} {D : Nat} {A9 : Option Addr} {n9 c9 : Nat} {T0 : List Tb} {k : Nat} {wr : World} {T1 : List Tb} (h : PSt w D A9 n9 c9 T0 k wr T1) : n9 = T0.length ∧ (k < n9 → ∃ g, A9 = some ⟨g, 0, none⟩) := by
  have hn : n9 = T1.length := by
    obtain ⟨A, c, e, _⟩ := ownT_row h.own
    injection e
  refine ⟨by rw [hn, h.len], fun hk => ?_⟩
  obtain ⟨g2, c2, hv, _⟩ := ownT_put h.own k (by omega) 1 (by omega) (.slice T1[k].A T1[k].n T1[k].c) T1[k] rfl
  injection hv with e1 _ _
  exact ⟨g2, e1⟩
theorem PSt.start {w w1 W : World} {A9 : Option Addr} {n9 c9 : Nat} {T0 : List Tb} (ho : OwnT W.heap.size w1 (.slice A9 n9 c9) T0) (hb : Below w.heap.size w w1) (hW : w.heap.size ≤ W.heap.size) : PSt w w1.heap.size A9 n9 c9 T0 0 w1 T0 := by
  refine ⟨ownT_down ho hW, fun g e => ?_, rfl, fun i _ _ h => absurd h (by omega), fun i _ _ _ => rfl, hb, Nat.le_refl _⟩
  subst e
  rcases ho.2 with ⟨hv, _⟩ | ⟨g2, cap, cur, hv, _, hh, _⟩
  · cases hv
  · injection hv with e1 _ _
    injection e1 with e1
    injection e1 with e1
    subst e1
    exact Has.lt (t := 57) (cs := cur) hh
theorem PSt.done {w wr : World} {D : Nat} {A9 : Option Addr} {n9 c9 : Nat} {T0 T1 : List Tb} (h : PSt w D A9 n9 c9 T0 T0.length wr T1) (hD : w.heap.size ≤ D) : Clns w.heap.size wr T0 T1 :=
  ⟨h.len, fun i h1 h2 => ⟨(h.lo i h1 h2 h1).td, ownC_down (h.lo i h1 h2 h1).own hD⟩⟩
end Go.Proofs.YtjkmbggaoinkdaaDoor
