/-
  Rows of numbers of the call's own, as rows of texts; parts of rows.
-/
import Derived.Test.YtmapclocbhkpbaaTrPg
namespace Go.Proofs.Ytmapclocbhkpbaa
open Go.RowKit Go.Maps Dg
set_option linter.unusedVariables false
theorem cell_same {w w' : World} {b off : Nat} (h : w'.heap[b]? = w.heap[b]?) : w'.cell? ⟨b, off, none⟩ = w.cell? ⟨b, off, none⟩ := by
  unfold World.cell?
  rw [h]
theorem infoI9 : (Try.prog.info? 3).map (fun i => (i.zero, i.size, i.bytes)) = some (some (.int .i64 0), 1, 8) := by kernel_rfl
/-- Numbers in a row of the call's own. -/
def OwnI (B : Nat) (w : World) (v : Value) (L : List Int) : Prop := w.ownsRow B 3 1 v L.length (L.map (Value.int .i64))
theorem ownI_nil (B : Nat) (w : World) : OwnI B w (.slice none 0 0) [] := World.ownsRow_nil _ _ _ _
theorem OwnI.keep {B : Nat} {w w' : World} {v : Value} {L : List Int} (h : OwnI B w v L) (hb : ∀ g, v.ownBlock = some g → w'.heap[g]? = w.heap[g]?) : OwnI B w' v L := by
  refine ⟨h.1, ?_⟩
  rcases h.2 with hn | ⟨g, cap, cur, rfl, hge, hh, r⟩
  · exact .inl hn
  · exact .inr ⟨g, cap, cur, rfl, hge, (hb g rfl).trans hh, r⟩
theorem OwnI.lt {B : Nat} {w : World} {v : Value} {L : List Int} (h : OwnI B w v L) {g : Nat} (hg : v.ownBlock = some g) : B ≤ g ∧ g < w.heap.size := World.ownsRow.lt h g hg
theorem OwnI.below {B : Nat} {w w' : World} {v : Value} {L : List Int} (h : OwnI B w v L) (hb : Below w.heap.size w w') : OwnI B w' v L := h.keep fun g hg => hb.block g (h.lt hg).2
theorem ownI_row {B : Nat} {w : World} {v : Value} {L : List Int} (h : OwnI B w v L) : ∃ A n c, v = .slice A n c ∧ L.length = n ∧ n ≤ c ∧ c ≤ maxLen ∧ (∀ i (_ : i < L.length), ∃ b off, A = some ⟨b, off, none⟩ ∧ w.cell? ⟨b, off + i, none⟩ = some (.int .i64 L[i])) ∧ (A = none → c = 0) := by
  rcases h.2 with ⟨hv, hn⟩ | ⟨g, cap, cur, hv, _, hh, hc, hcm, hsz, ht⟩
  · obtain rfl := List.eq_nil_of_length_eq_zero hn
    exact ⟨none, 0, 0, hv, rfl, Nat.le_refl _, Nat.zero_le _, fun i hi => by simp at hi, fun _ => rfl⟩
  · refine ⟨_, _, _, hv, rfl, hc, hcm, fun i hi => ⟨g, 0, rfl, ?_⟩, fun e => by cases e⟩
    rw [Has.cell (t := 3) (cs := cur) hh, Nat.zero_add]
    have h1 : (L.map (Value.int .i64))[i]? = some (.int .i64 L[i]) := by simp [hi]
    rw [← ht, List.getElem?_take, if_pos (by omega)] at h1
    simpa using h1
/-- Numbers that can be read from an address on. -/
def RdI (w : World) (A : Option Addr) (L : List Int) : Prop := ∀ i (_ : i < L.length), ∃ b off, A = some ⟨b, off, none⟩ ∧ w.cell? ⟨b, off + i, none⟩ = some (.int .i64 L[i])
theorem RdI.hp {w w' : World} {A : Option Addr} {L : List Int} (h : RdI w A L) (e : ∀ p u, w.cell? p = some u → w'.cell? p = some u) : RdI w' A L := fun i hi => by
  obtain ⟨b, off, ea, hc⟩ := h i hi
  exact ⟨b, off, ea, e _ _ hc⟩
theorem OwnI.tur {B : Nat} {w w' : World} {v : Value} {L : List Int} {X : List Nat} (h : OwnI B w v L) (ht : Tur X w w') (hx : ∀ g, v.ownBlock = some g → g ∉ X) : OwnI B w' v L :=
  h.keep fun g hg => ht.block g (h.lt hg).2 (hx g hg)
/-- The block of a row of numbers holds numbers. -/
theorem OwnI.has {B : Nat} {w : World} {v : Value} {L : List Int} (h : OwnI B w v L) {g : Nat} (hg : v.ownBlock = some g) : ∃ cs, Has w g 3 cs := by
  rcases h.2 with ⟨hv, _⟩ | ⟨g', cap, cur, hv, _, hh, _⟩
  · rw [hv] at hg; cases hg
  · rw [hv] at hg
    injection hg with hg
    subst hg
    exact ⟨cur, hh⟩
/-- A row of numbers is put behind one of the call's own. -/
theorem appII (w : World) (B : Nat) (v : Value) (L : List Int) (A : Option Addr) (n c : Nat) (M : List Int) (h : OwnI B w v L) (hB : B ≤ w.heap.size) (hM : M.length = n) (hr : RdI w A M) (hA : A = none → n = 0 ∧ c = 0) (hl : L.length + n ≤ 1000000) :
    ∃ R W', (Builtin.append_ #[27, 27] 27 #[v, .slice A n c]).run Try.prog w = .ok R W' ∧ OwnI B W' R (L ++ M) ∧ Tur v.ownBlock.toList w W' ∧ (∀ k, R.ownBlock = some k → v.ownBlock = some k ∨ w.heap.size ≤ k) := by
  obtain ⟨i0, hi, hz0, hz1, hz2⟩ := info_parts infoI9
  subst hM
  cases A with
  | none =>
    obtain ⟨h0, rfl⟩ := hA rfl
    obtain rfl := List.eq_nil_of_length_eq_zero h0
    refine ⟨v, w, run_append_owned_none w B 27 27 3 i0 1 Try.underlying27 hi v _ _ h, ?_, Tur.refl _ _, fun k hk => .inl hk⟩
    rw [List.append_nil]
    exact h
  | some a =>
    obtain ⟨R, W', hrun, hown, hg, _, hx⟩ := run_append_own_at (P := Try.prog) w B 27 27 3 i0 _ 1 8 Try.underlying27 hi hz0 hz1 hz2 rfl (by decide) v L.length (L.map (Value.int .i64)) h
      a M.length c (M.map (Value.int .i64)) (by simp) (fun j u hj => by
        rw [List.getElem?_map] at hj
        have hjl : j < M.length := by
          apply Classical.byContradiction
          intro hn
          rw [List.getElem?_eq_none (by omega)] at hj
          cases hj
        rw [List.getElem?_eq_getElem hjl] at hj
        simp only [Option.map_some, Option.some.injEq] at hj
        obtain ⟨b, off, e, hc⟩ := hr j hjl
        injection e with e
        subst e
        subst hj
        rw [Addr.add_lit]
        exact hc) (fun u hu => by
        rw [List.mem_map] at hu
        obtain ⟨s, _, rfl⟩ := hu
        rfl) (by unfold maxLen; omega) (by omega) hB
    refine ⟨R, W', hrun, ?_, ?_, ?_⟩
    · unfold OwnI; rw [List.map_append, List.length_append]; exact hown
    · exact Tur.grown hg fun k hk => by rw [hk]; simp
    · intro k hk
      rcases hx with hx | hx
      · exact .inl (hx ▸ hk)
      · rw [hx] at hk
        injection hk with hk
        exact .inr (by omega)
theorem RdS.take {w : World} {A : Option Addr} {L : List ByteArray} (h : RdS w A L) (k : Nat) : RdS w A (L.take k) := fun i hi => by
  rw [List.length_take] at hi
  rw [List.getElem_take]
  exact h i (by omega)
theorem RdS.drop {w : World} {b off : Nat} {L : List ByteArray} (h : RdS w (some ⟨b, off, none⟩) L) (k : Nat) : RdS w (some ⟨b, off + k, none⟩) (L.drop k) := fun i hi => by
  rw [List.length_drop] at hi
  obtain ⟨b', off', e, hc⟩ := h (k + i) (by omega)
  cases e
  rw [List.getElem_drop]
  exact ⟨b, off + k, rfl, by rw [Nat.add_assoc]; exact hc⟩
theorem RdS.nil (w : World) (A : Option Addr) : RdS w A [] := fun i hi => by simp at hi
theorem RdS.new (w : World) (s : ByteArray) : RdS (w.alloc (.cells #[Value.string s] 9)) (some ⟨w.heap.size, 0, none⟩) [s] := fun i hi => by
  have hi0 : i = 0 := by simp at hi; omega
  subst hi0
  exact ⟨w.heap.size, 0, rfl, (Has.new w 9 #[Value.string s]).cell 0⟩
theorem RdS.below {w w' : World} {A : Option Addr} {L : List ByteArray} (h : RdS w A L) (hb : Below w.heap.size w w') : RdS w' A L :=
  h.hp fun p u hu => (hb.cell (World.block_lt_of_cell? w p hu)).trans hu
theorem RdS.tur {w w' : World} {A : Option Addr} {L : List ByteArray} {X : List Nat} (h : RdS w A L) (ht : Tur X w w') (hx : ∀ a, A = some a → a.block ∉ X) : RdS w' A L := fun i hi => by
  obtain ⟨b, off, e, hc⟩ := h i hi
  refine ⟨b, off, e, ?_⟩
  have hlt : b < w.heap.size := World.block_lt_of_cell? w _ hc
  have hb := ht.block b hlt (hx _ e)
  rw [← hc]
  exact cell_same hb
theorem OwnS.rd {B : Nat} {w : World} {A : Option Addr} {n c : Nat} {L : List ByteArray} (h : OwnS B w (.slice A n c) L) : L.length = n ∧ n ≤ c ∧ c ≤ maxLen ∧ RdS w A L ∧ (A = none → c = 0) := by
  obtain ⟨A', n', c', e, h1, h2, h3, h4, h5⟩ := ownS_row h
  injection e with e1 e2 e3
  subst e1 e2 e3
  exact ⟨h1, h2, h3, h4, h5⟩
theorem RdI.take {w : World} {A : Option Addr} {L : List Int} (h : RdI w A L) (k : Nat) : RdI w A (L.take k) := fun i hi => by
  rw [List.length_take] at hi
  rw [List.getElem_take]
  exact h i (by omega)
theorem RdI.drop {w : World} {b off : Nat} {L : List Int} (h : RdI w (some ⟨b, off, none⟩) L) (k : Nat) : RdI w (some ⟨b, off + k, none⟩) (L.drop k) := fun i hi => by
  rw [List.length_drop] at hi
  obtain ⟨b', off', e, hc⟩ := h (k + i) (by omega)
  cases e
  rw [List.getElem_drop]
  exact ⟨b, off + k, rfl, by rw [Nat.add_assoc]; exact hc⟩
theorem RdI.nil (w : World) (A : Option Addr) : RdI w A [] := fun i hi => by simp at hi
theorem RdI.new (w : World) (s : Int) : RdI (w.alloc (.cells #[(Value.int .i64) s] 3)) (some ⟨w.heap.size, 0, none⟩) [s] := fun i hi => by
  have hi0 : i = 0 := by simp at hi; omega
  subst hi0
  exact ⟨w.heap.size, 0, rfl, (Has.new w 3 #[(Value.int .i64) s]).cell 0⟩
theorem RdI.below {w w' : World} {A : Option Addr} {L : List Int} (h : RdI w A L) (hb : Below w.heap.size w w') : RdI w' A L :=
  h.hp fun p u hu => (hb.cell (World.block_lt_of_cell? w p hu)).trans hu
theorem RdI.tur {w w' : World} {A : Option Addr} {L : List Int} {X : List Nat} (h : RdI w A L) (ht : Tur X w w') (hx : ∀ a, A = some a → a.block ∉ X) : RdI w' A L := fun i hi => by
  obtain ⟨b, off, e, hc⟩ := h i hi
  refine ⟨b, off, e, ?_⟩
  have hlt : b < w.heap.size := World.block_lt_of_cell? w _ hc
  have hb := ht.block b hlt (hx _ e)
  rw [← hc]
  exact cell_same hb
theorem OwnI.rd {B : Nat} {w : World} {A : Option Addr} {n c : Nat} {L : List Int} (h : OwnI B w (.slice A n c) L) : L.length = n ∧ n ≤ c ∧ c ≤ maxLen ∧ RdI w A L ∧ (A = none → c = 0) := by
  obtain ⟨A', n', c', e, h1, h2, h3, h4, h5⟩ := ownI_row h
  injection e with e1 e2 e3
  subst e1 e2 e3
  exact ⟨h1, h2, h3, h4, h5⟩
end Go.Proofs.Ytmapclocbhkpbaa
