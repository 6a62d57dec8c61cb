/-
  Values that may be, made of any: a row of them.
-/
import Derived.Test.YtiefogofiajmnaaDoorMg3
import Derived.Test.YtiefogofiajmnaaDoorGood
namespace Go.Proofs.YtiefogofiajmnaaDoor
open Go.RowKit Dg
theorem ext_some (L : List Vl) (k : Nat) (h : k < L.length) : L.take (k + 1) = L.take k ++ [L[k]] := List.take_succ_eq_append_getElem h
/-! ### what is made of any may be -/
theorem kind5_cases (k : Int) : kind5 k = 0 ∨ kind5 k = 1 ∨ kind5 k = 2 ∨ kind5 k = 3 ∨ kind5 k = 4 := by
  unfold kind5; split <;> omega
theorem short_forty (s : ByteArray) : short 0 (forty s) = true := by
  have := forty_size s
  simp [short]; omega
theorem good_may (x : Vl) : x.good.may = true := by
  unfold Vl.good Vl.may
  rcases kind5_cases x.k with h | h | h | h | h <;> simp [h]
  · simp [mayF]
  · split <;> simp [mayF]
  · simp [mayF]
  · split
    · rename_i hv
      simp [mayF, short_forty, hv]
    · have h0 : short 0 ⟨#[]⟩ = true := by decide +kernel
      have h1 : Lib.validD [] = true := rfl
      simp [mayF, h0, h1]
  · simp [mayF, short_forty]
theorem empty_zero : (⟨#[]⟩ : ByteArray).size = 0 := rfl
theorem good_size (x : Vl) : x.good.s.size ≤ 40 := by
  have h40 := forty_size x.s
  unfold Vl.good
  rcases kind5_cases x.k with h | h | h | h | h <;> simp only [h] <;> simp [empty_zero]
  · split
    · exact h40
    · rw [empty_zero]; omega
  · exact h40
theorem good_fits (x : Vl) (h : x.fits) : x.good.fits := by
  have h40 := good_size x
  obtain ⟨⟨h1, h2, h3⟩, h4, h5⟩ := h
  refine ⟨⟨?_, ?_, by omega⟩, ?_, ?_⟩
  all_goals
    unfold Vl.good
    rcases kind5_cases x.k with h | h | h | h | h <;> simp only [h] <;> simp
    all_goals first | omega | (split <;> omega)
/-- So many of them. -/
def goods (L : List Vl) (m : Nat) : List Vl := (L.take m).map Vl.good
theorem goods_len (L : List Vl) (m : Nat) : (goods L m).length = min m L.length := by unfold goods; rw [List.length_map, List.length_take]
theorem goods_may (L : List Vl) (m : Nat) : ∀ x ∈ goods L m, x.may = true := fun x hx => by
  obtain ⟨y, _, rfl⟩ := List.mem_map.1 hx
  exact good_may y
theorem goods_fits (L : List Vl) (m : Nat) (h : ∀ x ∈ L, x.fits) : ∀ x ∈ goods L m, x.fits := fun x hx => by
  obtain ⟨y, hy, rfl⟩ := List.mem_map.1 hx
  exact good_fits y (h y (List.mem_of_mem_take hy))
theorem row_cell {w : World} {b off : Nat} {M : List Vl} (h : ∀ i (h : i < M.length), w.cell? ⟨b, off + i * 3, none⟩ = some (.int .i64 M[i].k) ∧ w.cell? ⟨b, off + i * 3 + 1, none⟩ = some (.int .i64 M[i].n) ∧ w.cell? ⟨b, off + i * 3 + 2, none⟩ = some (.string M[i].s)) (j : Nat) (u : Value) (hj : (M.flatMap Vl.cells)[j]? = some u) : w.cell? ⟨b, off + j, none⟩ = some u := by
  have hjl : j < M.length * 3 := by
    have := (List.getElem?_eq_some_iff.1 hj).1
    rwa [flat_len] at this
  have hi : j / 3 < M.length := by omega
  have e : j = j / 3 * 3 + j % 3 := by omega
  have hr : j % 3 = 0 ∨ j % 3 = 1 ∨ j % 3 = 2 := by omega
  rw [e, flat_get M (j / 3) (j % 3) hi (by omega)] at hj
  obtain ⟨h0, h1, h2⟩ := h (j / 3) hi
  rw [e]
  rcases hr with hr | hr | hr <;> rw [hr] at hj ⊢
  · rw [← hj]; exact h0
  · rw [← hj]; exact h1
  · rw [← hj]; exact h2
/-- A row of values is put behind one of the call's own. -/
theorem appVs (w : World) (B : Nat) (v : Value) (L : List Vl) (h : OwnV B w v L) (hB : B ≤ w.heap.size) (A : Option Addr) (M : List Vl) (n c : Nat) (hn : M.length = n) (hA : VRow w A M) (h0 : A = none → c = 0) (hl : L.length + n ≤ 1000) :
    ∃ R W', (Builtin.append_ #[49, 49] 49 #[v, .slice A n c]).run Tryd.prog w = .ok R W' ∧ OwnV B W' R (L ++ M) ∧ Below B w W' := by
  subst hn
  obtain ⟨i0, hi, hz0, hz1, hz2⟩ := info_parts infoV
  by_cases hM : M = []
  · subst hM
    rcases A with _ | a
    · rw [h0 rfl, List.append_nil]
      exact ⟨v, w, run_append_owned_none w B 49 49 93 i0 3 Tryd.underlying49 hi v _ _ h, h, Below.refl _ _⟩
    · obtain ⟨R, W', hrun, hown, hg, _⟩ := run_append_own (P := Tryd.prog) w B 49 49 93 i0 _ 3 32 Tryd.underlying49 hi hz0 hz1 hz2 rfl (by decide) v L.length (L.flatMap Vl.cells) h
        a 0 c [] rfl (fun j u hj => by simp at hj) (fun u hu => by cases hu) (by unfold maxLen; omega) (by omega) hB
      refine ⟨R, W', hrun, ?_, (Below.refl B w).grown hg hB fun k hk => (World.ownsRow.lt h k hk).1⟩
      unfold OwnV; simpa using hown
  · obtain ⟨b, off, rfl, hc⟩ := hA hM
    obtain ⟨R, W', hrun, hown, hg, _⟩ := run_append_own (P := Tryd.prog) w B 49 49 93 i0 _ 3 32 Tryd.underlying49 hi hz0 hz1 hz2 rfl (by decide) v L.length (L.flatMap Vl.cells) h
      ⟨b, off, none⟩ M.length c (M.flatMap Vl.cells) (by rw [flat_len]) (fun j u hj => by rw [Addr.add_lit]; exact row_cell hc j u hj) (fun u hu => by
        obtain ⟨x, _, hx⟩ := List.mem_flatMap.1 hu
        simp [Vl.cells] at hx; rcases hx with rfl | rfl | rfl <;> rfl) (by unfold maxLen; omega) (by omega) hB
    refine ⟨R, W', hrun, ?_, (Below.refl B w).grown hg hB fun k hk => (World.ownsRow.lt h k hk).1⟩
    unfold OwnV; rw [List.flatMap_append, List.length_append]; exact hown
/-- A row of the call's own, its length under a letter. -/
theorem ownV_open {B : Nat} {w : World} {v : Value} {L : List Vl} (h : OwnV B w v L) : ∃ A n c, v = .slice A n c ∧ Hid (L.length = n) ∧ n ≤ c ∧ c ≤ maxLen ∧ Hid (VRow w A L) ∧ Hid (A = none → c = 0) := by
  obtain ⟨A, c, e, h1, h2, h3, h4⟩ := ownV_row h
  exact ⟨A, L.length, c, e, rfl, h1, h2, h3, h4⟩
end Go.Proofs.YtiefogofiajmnaaDoor
