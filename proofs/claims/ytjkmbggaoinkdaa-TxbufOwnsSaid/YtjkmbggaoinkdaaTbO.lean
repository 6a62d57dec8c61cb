/-
  Rows of values of the call's own, by the blocks that turn.
-/
import Derived.Test.YtjkmbggaoinkdaaTbC
namespace Go.Proofs.Ytjkmbggaoinkdaa
open Go.RowKit Go.Maps Dg
set_option maxRecDepth 100000
set_option linter.unusedVariables false
theorem append_tx {P : Program} {t tx e e' ty : TypeId} {a : Option Addr} {n c : Nat} {y : Value} (w : World) (ht : P.underlying t = some (.slice e)) (hx : P.underlying tx = some (.slice e')) : (Builtin.append_ #[t, tx] ty #[.slice a n c, y]).run P w = (Builtin.append_ #[t, t] ty #[.slice a n c, y]).run P w := by
  simp [Builtin.append_, run_underlying ht, run_underlying hx]
theorem OwnV.tur {X : List Nat} {B : Nat} {w w' : World} {v : Value} {L : List Vl} (h : OwnV B w v L) (ht : Tur X w w') (hx : ∀ g, v.ownBlock = some g → g ∉ X) : OwnV B w' v L := by
  rcases h.2 with ⟨hv, hn⟩ | ⟨g, cap, cur, hv, hg, hh, hc, hcm, hsz, htk⟩
  · exact ⟨h.1, .inl ⟨hv, hn⟩⟩
  · exact ⟨h.1, .inr ⟨g, cap, cur, hv, hg, Has.tur (t := 51) (cs := cur) hh ht (hx g (by rw [hv]; rfl)), hc, hcm, hsz, htk⟩⟩
theorem appVt (w : World) (B : Nat) (v : Value) (L : List Vl) (A : Option Addr) (n c : Nat) (M : List Vl) (h : OwnV B w v L) (hB : B ≤ w.heap.size) (hM : M.length = n) (hr : VRow w A M) (hA : A = none → c = 0) (hl : L.length + n ≤ 1000000) :
    ∃ R W', (Builtin.append_ #[29, 29] 29 #[v, .slice A n c]).run Try.prog w = .ok R W' ∧ OwnV B W' R (L ++ M) ∧ Tur v.ownBlock.toList w W' ∧ (∀ k, R.ownBlock = some k → v.ownBlock = some k ∨ w.heap.size ≤ k) := by
  obtain ⟨i0, hi, hz0, hz1, hz2⟩ := info_parts infoV
  subst hM
  cases A with
  | none =>
    obtain rfl : M = [] := Classical.byContradiction fun hne => by obtain ⟨b, off, e, _⟩ := hr hne; cases e
    obtain rfl := hA rfl
    refine ⟨v, w, run_append_owned_none w B 29 29 51 i0 3 Try.underlying29 hi v _ _ h, ?_, Tur.refl _ _, fun k hk => .inl hk⟩
    rw [List.append_nil]
    exact h
  | some a =>
    obtain ⟨R, W', hrun, hown, hg, _, hx⟩ := run_append_own_at (P := Try.prog) w B 29 29 51 i0 _ 3 32 Try.underlying29 hi hz0 hz1 hz2 rfl (by decide) v L.length (L.flatMap Vl.cells) h
      a M.length c (M.flatMap Vl.cells) (flat_len M) (fun j u hj => by
        have hjl : j < M.length * 3 := by
          have := (List.getElem?_eq_some_iff.1 hj).1
          rwa [flat_len] at this
        have hne : M ≠ [] := fun e => by rw [e] at hjl; simp at hjl
        obtain ⟨b, off, e, hc⟩ := hr hne
        injection e with e
        subst e
        rw [Addr.add_lit]
        exact vrow_cell hc j u hj) (fun u hu => by
        obtain ⟨r, _, hu⟩ := List.mem_flatMap.1 hu
        simp [Vl.cells] at hu; rcases hu with rfl | rfl | rfl <;> rfl) (by unfold maxLen; omega) (by omega) hB
    refine ⟨R, W', hrun, ?_, ?_, ?_⟩
    · unfold OwnV; rw [List.flatMap_append, List.length_append]; exact hown
    · exact Tur.grown hg fun k hk => by rw [hk]; simp
    · intro k hk
      rcases hx with hx | hx
      · exact .inl (hx ▸ hk)
      · rw [hx] at hk
        injection hk with hk
        exact .inr (by omega)
theorem vflat_set (L : List Vl) (i j : Nat) (u : Value) (x : Vl) (hi : i < L.length) (hj : j < 3) (hx : x.cells = L[i].cells.set j u) : (L.flatMap Vl.cells).set (i * 3 + j) u = (L.set i x).flatMap Vl.cells := by
  induction L generalizing i with
  | nil => simp at hi
  | cons y L ih =>
    rcases i with _ | i
    · simp only [List.getElem_cons_zero] at hx
      rw [List.flatMap_cons, List.set_cons_zero, List.flatMap_cons, hx, Nat.zero_mul, Nat.zero_add]
      rw [List.set_append_left _ _ (by simp [Vl.cells]; omega)]
    · simp only [List.getElem_cons_succ] at hx
      rw [List.flatMap_cons, List.set_cons_succ, List.flatMap_cons, ← ih i (by simpa using hi) hx]
      rw [List.set_append_right _ _ (by simp [Vl.cells]; omega)]
      have e : (i + 1) * 3 + j - y.cells.length = i * 3 + j := by simp [Vl.cells]; omega
      rw [e]
theorem ownV_put {B : Nat} {w : World} {v : Value} {L : List Vl} (h : OwnV B w v L) (i : Nat) (hi : i < L.length) (j : Nat) (hj : j < 3) (u : Value) (x : Vl) (hx : x.cells = L[i].cells.set j u) :
    ∃ g c, v = .slice (some ⟨g, 0, none⟩) L.length c ∧ B ≤ g ∧ L.length ≤ c ∧ w.frozen? ⟨g, i * 3 + j, none⟩ = false ∧ w.cell? ⟨g, i * 3 + j, none⟩ = L[i].cells[j]? ∧ OwnV B (w.setCell ⟨g, i * 3 + j, none⟩ u) v (L.set i x) := by
  rcases h.2 with ⟨hv, hn⟩ | ⟨g, cap, cur, hv, hg, hh, hc, hcm, hsz, ht⟩
  · omega
  · refine ⟨g, cap, hv, hg, hc, Has.free (t := 51) (cs := cur) hh _, ?_, ?_⟩
    · rw [Has.cell (t := 51) (cs := cur) hh, ← flat_get L i j hi hj, ← ht, List.getElem?_take, if_pos (by omega)]
      simp
    · refine ⟨by rw [flat_len], .inr ⟨g, cap, cur.setIfInBounds (i * 3 + j) u, by rw [List.length_set]; exact hv, hg, Has.put (t := 51) (cs := cur) hh (i * 3 + j) u, by rw [List.length_set]; exact hc, hcm, by simpa using hsz, ?_⟩⟩
      rw [List.length_set, ← vflat_set L i j u x hi hj hx, ← ht, Array.toList_setIfInBounds, List.take_set]
end Go.Proofs.Ytjkmbggaoinkdaa
