/-
  Lists of values that come in, read as data.
-/
import Derived.Test.YtcdjeibcnkpadaaDoorArgs
import Derived.Test.YtcdjeibcnkpadaaDoorWxR
namespace Go.Proofs.YtcdjeibcnkpadaaDoor
open Go.ChangeShapes Go.WideShapes Go.RowKit Go.Joins Go.Deep Go.Lib
set_option maxRecDepth 100000
set_option linter.unusedVariables false
theorem cellsVs : Tryd.prog.cellsOf 44 = 1 := by kernel_rfl
section
variable {H : Type} {enc : TypeId × Value → H} {w : World} {base : Nat} {spare : Nat → Bool} {held : Bool}
theorem vals0_in {fuel : Nat} {cs : List Value} {x : DataW H × List MemPlace} (h : DataW.trod enc Tryd.prog w base spare held fuel 44 cs = some x) (hl : Lite 44 x.1) :
    ∃ (A : Option Addr) (len cap : Nat) (L : List Vl), cs = [.slice A len cap] ∧ L.length = len ∧ len ≤ cap ∧ cap ≤ maxLen ∧ VRow w A L ∧ (∀ v ∈ L, v.fits) ∧ (A = none → cap = 0) := by
  rcases open_slice Tryd.underlying44 h with ⟨hcs, _⟩ | ⟨a, len, cap, m, n, D, Pl, hcs, _, hlc, hcm, hm, hx, hel⟩
  · exact ⟨none, 0, 0, [], hcs, rfl, Nat.le_refl _, Nat.zero_le _, fun h => absurd rfl h, fun _ h => (by cases h), fun _ => rfl⟩
  · have hlm : len ≤ m := by rw [hm]; split <;> omega
    have hv : ∀ i, i < len → ∃ v : Vl, v.fits ∧ ∀ j (hj : j < 3), w.cell? (a.add (i * 3 + j)) = v.cells[j]? := by
      intro i hi
      obtain ⟨cs', hc, ht⟩ := hel i (by omega)
      rw [cellsV] at hc
      obtain ⟨_, _, hat⟩ := World.cells?_some hc
      obtain ⟨v, e, hfit⟩ := val_in ht (fun n hn => hl n (by
        rw [hx]
        simp only [DataW.weights, Tryd.underlying44]
        refine List.mem_cons_of_mem _ (List.mem_append_left _ (weights_in (d := D i) ?_ n hn))
        exact List.mem_map.2 ⟨i, List.mem_range.2 hi, rfl⟩))
      refine ⟨v, hfit, fun j hj => ?_⟩
      rw [← Go.Deep.add_add, hat j hj, e]
    have hL : ∃ L : List Vl, L.length = len ∧ (∀ v ∈ L, v.fits) ∧ ∀ i (hi : i < L.length), ∀ j, j < 3 → w.cell? (a.add (i * 3 + j)) = L[i].cells[j]? := by
      clear hx hel hm hlc hlm hcs
      induction len with
      | zero => exact ⟨[], rfl, fun _ h => (by cases h), fun i hi => absurd hi (by simp)⟩
      | succ len ih =>
        obtain ⟨L, h1, h2, h3⟩ := ih (fun i hi => hv i (by omega))
        obtain ⟨v, h4, h5⟩ := hv len (by omega)
        refine ⟨L ++ [v], by simp [h1], fun u hu => ?_, fun i hi j hj => ?_⟩
        · rcases List.mem_append.1 hu with h | h
          · exact h2 u h
          · rw [List.mem_singleton.1 h]; exact h4
        · by_cases hil : i < L.length
          · rw [List.getElem_append_left hil]; exact h3 i hil j hj
          · have e : i = len := by simp at hi; omega
            subst e
            rw [List.getElem_append_right (by omega)]
            simp only [h1, Nat.sub_self, List.getElem_cons_zero]
            exact h5 j hj
    obtain ⟨L, h1, h2, h3⟩ := hL
    refine ⟨some a, len, cap, L, hcs, h1, hlc, hcm, fun hne => ?_, h2, fun e => (by cases e)⟩
    have h0 : 0 < L.length := List.length_pos_iff.2 hne
    obtain ⟨b, off, ha⟩ : ∃ b off, a = ⟨b, off, none⟩ := by
      have := h3 0 h0 0 (by omega)
      obtain ⟨b, off, spot⟩ := a
      have hspot : spot = none := by simpa [Addr.add] using World.cell?_spot this
      exact ⟨b, off, by rw [hspot]⟩
    subst ha
    refine ⟨b, off, rfl, fun i hi => ?_⟩
    have q0 := h3 i hi 0 (by omega)
    have q1 := h3 i hi 1 (by omega)
    have q2 := h3 i hi 2 (by omega)
    rw [Addr.add_lit] at q0 q1 q2
    exact ⟨q0, q1, q2⟩
theorem vlss_in {fuel : Nat} {cs : List Value} {x : DataW H × List MemPlace} (h : DataW.trod enc Tryd.prog w base spare held fuel 40 cs = some x) (hl : Lite 40 x.1) :
    ∃ (A : Option Addr) (len cap : Nat) (S : List Sl) (L : List (List Vl)), cs = [.slice A len cap] ∧ VsIn w A len cap S L := by
  rcases open_slice Tryd.underlying40 h with ⟨hcs, _⟩ | ⟨a, len, cap, m, n, D, Pl, hcs, _, hlc, hcm, hm, hx, hel⟩
  · exact ⟨none, 0, 0, [], [], hcs, rsIn_nil w, fun l hl => (by cases hl), fun s hs => (by cases hs)⟩
  · have hlm : len ≤ m := by rw [hm]; split <;> omega
    have hv : ∀ i, i < len → ∃ (s : Sl) (r : List Vl), (RwAt w s.a s.n s.c r ∧ (∀ x ∈ r, x.fits) ∧ s.c ≤ maxLen) ∧ w.cell? (a.add i) = some (.slice s.a s.n s.c) := by
      intro i hi
      obtain ⟨cs', hc, ht⟩ := hel i (by omega)
      rw [cellsVs] at hc
      obtain ⟨_, _, hat⟩ := World.cells?_some hc
      obtain ⟨A, l, c, L, e, h1, h2, h2m, h4, h5, h6⟩ := vals0_in ht (fun n hn => hl n (by
        rw [hx]
        simp only [DataW.weights, Tryd.underlying40]
        refine List.mem_cons_of_mem _ (List.mem_append_left _ (weights_in (d := D i) ?_ n hn))
        exact List.mem_map.2 ⟨i, List.mem_range.2 hi, rfl⟩))
      refine ⟨⟨A, l, c⟩, L, ⟨⟨h1, h2, h4, fun x hx => (h5 x hx).1, h6⟩, h5, h2m⟩, ?_⟩
      have := hat 0 (by omega)
      rw [e] at this
      rw [Go.Deep.add_add] at this
      simpa using this
    have hL : ∃ (S : List Sl) (L : List (List Vl)), S.length = len ∧ L.length = len ∧ (∀ i (hi : i < S.length) (hj : i < L.length), RwAt w S[i].a S[i].n S[i].c L[i] ∧ (∀ x ∈ L[i], x.fits) ∧ S[i].c ≤ maxLen) ∧ ∀ i (hi : i < S.length), w.cell? (a.add i) = some (.slice S[i].a S[i].n S[i].c) := by
      clear hx hel hm hlc hlm hcs
      induction len with
      | zero => exact ⟨[], [], rfl, rfl, fun i hi => absurd hi (by simp), fun i hi => absurd hi (by simp)⟩
      | succ len ih =>
        obtain ⟨S, L, h1, h2, h3, h4⟩ := ih (fun i hi => hv i (by omega))
        obtain ⟨s, r, h5, h6⟩ := hv len (by omega)
        refine ⟨S ++ [s], L ++ [r], by simp [h1], by simp [h2], fun i hi hj => ?_, fun i hi => ?_⟩
        · by_cases hil : i < S.length
          · rw [List.getElem_append_left hil, List.getElem_append_left (by omega)]; exact h3 i hil (by omega)
          · have e : i = len := by simp at hi; omega
            subst e
            rw [List.getElem_append_right (by omega), List.getElem_append_right (by omega)]
            simp only [h1, h2, Nat.sub_self, List.getElem_cons_zero]
            exact h5
        · by_cases hil : i < S.length
          · rw [List.getElem_append_left hil]; exact h4 i hil
          · have e : i = len := by simp at hi; omega
            subst e
            rw [List.getElem_append_right (by omega)]
            simp only [h1, Nat.sub_self, List.getElem_cons_zero]
            exact h6
    obtain ⟨S, L, h1, h2, h3, h4⟩ := hL
    refine ⟨some a, len, cap, S, L, hcs, ⟨h1, hlc, fun hne => ?_, h2, fun i hi hj => (h3 i hi hj).1⟩, fun l hl => ?_, fun s hs => ?_⟩
    rotate_left
    · obtain ⟨i, hi, rfl⟩ := List.getElem_of_mem hl
      exact (h3 i (by omega) hi).2.1
    · obtain ⟨i, hi, rfl⟩ := List.getElem_of_mem hs
      exact (h3 i hi (by omega)).2.2
    have h0 : 0 < S.length := List.length_pos_iff.2 hne
    obtain ⟨b, off, ha⟩ : ∃ b off, a = ⟨b, off, none⟩ := by
      have := h4 0 h0
      obtain ⟨b, off, spot⟩ := a
      have hspot : spot = none := by simpa [Addr.add] using World.cell?_spot this
      exact ⟨b, off, by rw [hspot]⟩
    subst ha
    refine ⟨b, off, rfl, fun i hi => ?_⟩
    have q0 := h4 i hi
    rw [Addr.add_lit] at q0
    exact q0
/-- Lists of values that came in. -/
theorem vss_in {r : Reach} {b0 : Nat} {v : Value} {d : DataW H} {p : List MemPlace} (hv : Value.okWide Tryd.prog w r b0 40 v) (h : DataW.Trod enc Tryd.prog w base spare held 40 v d p) (hl : Lite 40 d) :
    ∃ (A : Option Addr) (len cap : Nat) (S : List Sl) (L : List (List Vl)), v = .slice A len cap ∧ VsIn w A len cap S L := by
  obtain ⟨a, l, c, rfl⟩ := okWide_slice Tryd.underlying40 hv
  obtain ⟨fuel, hf⟩ := h
  obtain ⟨A, len, cap, S, L, hcs, h⟩ := vlss_in hf hl
  simp [Value.cells] at hcs
  obtain ⟨rfl, rfl, rfl⟩ := hcs
  exact ⟨_, _, _, S, L, rfl, h⟩
end
end Go.Proofs.YtcdjeibcnkpadaaDoor
