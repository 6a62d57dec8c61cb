/-
  Steps of a region, and rows, that more than one text wants.
-/
import Derived.Test.YticfhjimbochlaaGmath
import Derived.Test.YticfhjimbochlaaPutC
import Derived.Deep.RegionHeld3
import Derived.IntWalk
namespace Go.Proofs.Yticfhjimbochlaa
open Go.RowKit Dg
theorem step_appA {P : Program} {ops : Array Oper} {o : Oper} {a : Act} {w : World} {K : Act → World → Prop} {Q : Exit → Act → World → Prop} {E : Prop} (hgd : o.guard = none) (s x : Operand) (t tx : TypeId)
    (ho : o.op = .call { callee := .builtin .append, args := #[s, x], argTypes := #[t, tx] }) (v xv : Value) (hs : a.eval s = v) (hx : a.eval x = xv)
    (hrun : ∃ R W', (Builtin.append_ #[t, tx] o.type #[v, xv]).run P w = .ok R W' ∧ K (a.put o.dst R) W') :
    if Region.wanted o (yielded ops a.tmps) = true then Oper.wp P o a w K Q else E := by
  have hw : Region.wanted o (yielded ops a.tmps) = true := by simp [Region.wanted, hgd]
  rw [if_pos hw]
  obtain ⟨R, W', hrun, h⟩ := hrun
  unfold Oper.wp execOp
  simp only [ho, resolve, invoke, builtin, Sem.run_bind, Sem.run_pure, Result.andThen_ok, List.map_toArray, List.map_cons, List.map_nil, hs, hx, hrun]
  exact h
theorem OwnC.drew {B : Nat} {w : World} {v : Value} {L : List Cl} (h : OwnC B w v L) : OwnC B w.drew v L := h.below ((Below.refl _ w).drew)
theorem cflat_take (L : List Cl) (i : Nat) (h : i ≤ L.length) : (L.flatMap Cl.cells).take (i * 3) = (L.take i).flatMap Cl.cells := by
  have e : L.flatMap Cl.cells = (L.take i).flatMap Cl.cells ++ (L.drop i).flatMap Cl.cells := by rw [← List.flatMap_append, List.take_append_drop]
  rw [e, List.take_append_of_le_length (by rw [cflat_len, List.length_take]; omega), List.take_of_length_le (by rw [cflat_len, List.length_take]; omega)]
theorem OwnC.takeV {B : Nat} {w : World} {a : Addr} {n c : Nat} {L : List Cl} (h : OwnC B w (.slice (some a) n c) L) (i : Nat) (hi : i ≤ L.length) : OwnC B w (.slice (some a) i c) (L.take i) := by
  rcases h.2 with ⟨hv, _⟩ | ⟨g, cap, cur, hv, hB, hh, hc, hcm, hsz, ht⟩
  · cases hv
  · injection hv with e1 e2 e3
    subst e3
    have hl : (L.take i).length = i := by rw [List.length_take]; omega
    refine ⟨cflat_len _, .inr ⟨g, c, cur, by rw [e1, hl], hB, hh, by rw [hl]; omega, hcm, hsz, ?_⟩⟩
    rw [hl, ← cflat_take L i hi, ← ht, List.take_take, Nat.min_eq_left (by omega)]
theorem OwnC.off0 {B : Nat} {w : World} {g off n c : Nat} {L : List Cl} (h : OwnC B w (.slice (some ⟨g, off, none⟩) n c) L) : off = 0 := by
  rcases h.2 with ⟨hv, _⟩ | ⟨g2, cap, cur, hv, _⟩
  · cases hv
  · injection hv with e1 _ _
    injection e1 with e1
    injection e1
theorem ownC_put2 {B : Nat} {w : World} {g n c : Nat} {L : List Cl} (h : OwnC B w (.slice (some ⟨g, 0, none⟩) n c) L) (i : Nat) (hi : i < L.length) (j : Nat) (hj : j < 3) (u : Value) (x : Cl) (hx : x.cells = L[i].cells.set j u) :
    B ≤ g ∧ w.frozen? ⟨g, i * 3 + j, none⟩ = false ∧ OwnC B (w.setCell ⟨g, i * 3 + j, none⟩ u) (.slice (some ⟨g, 0, none⟩) n c) (L.set i x) := by
  obtain ⟨g2, c2, hv, hB, _, hf, _, ho⟩ := ownC_put h i hi j hj u x hx
  injection hv with e1 e2 e3
  injection e1 with e1
  injection e1 with e1
  subst e1
  exact ⟨hB, hf, ho⟩
theorem OwnC.row {B : Nat} {w : World} {v : Value} {L : List Cl} (h : OwnC B w v L) {A : Option Addr} {n c : Nat} (hv : v = .slice A n c) : CRow w A L := by
  obtain ⟨A2, c2, e, _, _, hr, _⟩ := ownC_row h
  rw [hv] at e
  injection e with e1 _ _
  rw [e1]; exact hr
end Go.Proofs.Yticfhjimbochlaa
