/-
  Rows of texts of the call's own.
-/
import Derived.Test.YtmapclocbhkpbaaTrT
import Derived.Maps.AppendAt
namespace Go.Proofs.Ytmapclocbhkpbaa
open Go.RowKit Go.Maps Dg
set_option linter.unusedVariables false
theorem infoS : (Try.prog.info? 9).map (fun i => (i.zero, i.size, i.bytes)) = some (some (.string ⟨#[]⟩), 1, 16) := by kernel_rfl
/-- Texts in a row of the call's own. -/
def OwnS (B : Nat) (w : World) (v : Value) (L : List ByteArray) : Prop := w.ownsRow B 9 1 v L.length (L.map Value.string)
theorem ownS_nil (B : Nat) (w : World) : OwnS B w (.slice none 0 0) [] := World.ownsRow_nil _ _ _ _
theorem OwnS.keep {B : Nat} {w w' : World} {v : Value} {L : List ByteArray} (h : OwnS B w v L) (hb : ∀ g, v.ownBlock = some g → w'.heap[g]? = w.heap[g]?) : OwnS B w' v L := by
  refine ⟨h.1, ?_⟩
  rcases h.2 with hn | ⟨g, cap, cur, rfl, hge, hh, r⟩
  · exact .inl hn
  · exact .inr ⟨g, cap, cur, rfl, hge, (hb g rfl).trans hh, r⟩
theorem OwnS.lt {B : Nat} {w : World} {v : Value} {L : List ByteArray} (h : OwnS B w v L) {g : Nat} (hg : v.ownBlock = some g) : B ≤ g ∧ g < w.heap.size := World.ownsRow.lt h g hg
theorem OwnS.below {B : Nat} {w w' : World} {v : Value} {L : List ByteArray} (h : OwnS B w v L) (hb : Below w.heap.size w w') : OwnS B w' v L := h.keep fun g hg => hb.block g (h.lt hg).2
theorem ownS_row {B : Nat} {w : World} {v : Value} {L : List ByteArray} (h : OwnS B w v L) : ∃ A n c, v = .slice A n c ∧ L.length = n ∧ n ≤ c ∧ c ≤ maxLen ∧ (∀ i (_ : i < L.length), ∃ b off, A = some ⟨b, off, none⟩ ∧ w.cell? ⟨b, off + i, none⟩ = some (.string L[i])) ∧ (A = none → c = 0) := by
  rcases h.2 with ⟨hv, hn⟩ | ⟨g, cap, cur, hv, _, hh, hc, hcm, hsz, ht⟩
  · obtain rfl := List.eq_nil_of_length_eq_zero hn
    exact ⟨none, 0, 0, hv, rfl, Nat.le_refl _, Nat.zero_le _, fun i hi => by simp at hi, fun _ => rfl⟩
  · refine ⟨_, _, _, hv, rfl, hc, hcm, fun i hi => ⟨g, 0, rfl, ?_⟩, fun e => by cases e⟩
    rw [Has.cell (t := 9) (cs := cur) hh, Nat.zero_add]
    have h1 : (L.map Value.string)[i]? = some (.string L[i]) := by simp [hi]
    rw [← ht, List.getElem?_take, if_pos (by omega)] at h1
    simpa using h1
/-- One text is put behind a row of the call's own. -/
theorem appS (w : World) (g : Nat) (hg0 : g = w.heap.size) (B : Nat) (v : Value) (L : List ByteArray) (s : ByteArray) (h : OwnS B w v L) (hB : B ≤ w.heap.size) (hl : L.length ≤ 1000000) :
    ∃ R W', (Builtin.append_ #[26, 26] 26 #[v, .slice (some ⟨g, 0, none⟩) 1 1]).run Try.prog (w.alloc (.cells #[.string s] 9)) = .ok R W' ∧ OwnS B W' R (L ++ [s]) ∧ Tur v.ownBlock.toList w W' ∧ (∀ k, R.ownBlock = some k → v.ownBlock = some k ∨ w.heap.size ≤ k) := by
  subst hg0
  obtain ⟨i0, hi, hz0, hz1, hz2⟩ := info_parts infoS
  obtain ⟨R, W', hrun, hown, hg, _, hx⟩ := run_append_own_at (P := Try.prog) (w.alloc (.cells #[.string s] 9)) B 26 26 9 i0 _ 1 16 Try.underlying26 hi hz0 hz1 hz2 rfl (by decide) v L.length (L.map Value.string) (World.ownsRow.alloc h _)
    ⟨w.heap.size, 0, none⟩ 1 1 [.string s] rfl (fun j u hj => by
      have := (Has.new w 9 #[.string s]).cell j
      rw [List.getElem?_toArray] at this
      rw [Addr.add_lit, Nat.zero_add]
      exact this.trans hj) (fun u hu => by simp at hu; subst hu; rfl) (by unfold maxLen; omega) (by omega) (by simp; omega)
  refine ⟨R, W', hrun, ?_, ?_, ?_⟩
  · unfold OwnS; rw [List.map_append, List.length_append]; simpa using hown
  · exact (Tur.alloc _ w _).trans (Tur.grown hg fun k hk => by rw [hk]; simp) (Fre.refl _ _)
  · intro k hk
    rcases hx with hx | hx
    · exact .inl (hx ▸ hk)
    · rw [hx] at hk
      injection hk with hk
      have : (w.alloc (.cells #[.string s] 9)).heap.size = w.heap.size + 1 := by simp
      exact .inr (by omega)
/-- An append whose run is known. -/
theorem wpOp_app {F : Fence} {n : Nat} {P : Program} {o : Oper} {a : Act} {w W' : World} {K : Act → World → Prop} {Q : Exit → Act → World → Prop} (s x : Operand) (t tx : TypeId)
    (ho : o.op = .call { callee := .builtin .append, args := #[s, x], argTypes := #[t, tx] }) (v xv R : Value) (hs : a.eval s = v) (hx : a.eval x = xv)
    (hrun : (Builtin.append_ #[t, tx] o.type #[v, xv]).run P w = .ok R W') (h : K (a.put o.dst R) W') : Oper.wpIn F n P o a w K Q := by
  unfold Oper.wpIn
  refine ⟨by simp [Oper.about, ho, resolve, Target.leads, Sem.run_pure], ?_⟩
  rw [Oper.semAt_plain F _ _ (by rw [ho]; intro c hc'; cases hc')]
  unfold execOp
  simp only [ho, resolve, invoke, builtin, Sem.run_bind, Sem.run_pure, Result.andThen_ok, List.map_toArray, List.map_cons, List.map_nil, hs, hx, hrun]
  exact h
end Go.Proofs.Ytmapclocbhkpbaa
