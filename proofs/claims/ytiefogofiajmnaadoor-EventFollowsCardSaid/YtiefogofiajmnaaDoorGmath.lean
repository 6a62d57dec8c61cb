/-
  Schemas that may be, made of any: what the document's Good comes to. A column of a row of the call's own is changed.
-/
import Derived.Test.YtiefogofiajmnaaDoorSmay
namespace Go.Proofs.YtiefogofiajmnaaDoor
open Go.RowKit Dg
theorem cflat_set (L : List Cl) (i j : Nat) (u : Value) (x : Cl) (hi : i < L.length) (hj : j < 3) (hx : x.cells = L[i].cells.set j u) : (L.flatMap Cl.cells).set (i * 3 + j) u = (L.set i x).flatMap Cl.cells := by
  induction L generalizing i with
  | nil => simp at hi
  | cons y L ih =>
    rcases i with _ | i
    · simp only [List.getElem_cons_zero] at hx
      rw [List.flatMap_cons, List.set_cons_zero, List.flatMap_cons, hx, Nat.zero_mul, Nat.zero_add]
      rw [List.set_append_left _ _ (by simp [Cl.cells]; omega)]
    · simp only [List.getElem_cons_succ] at hx
      rw [List.flatMap_cons, List.set_cons_succ, List.flatMap_cons, ← ih i (by simpa using hi) hx]
      rw [List.set_append_right _ _ (by simp [Cl.cells]; omega)]
      have e : (i + 1) * 3 + j - y.cells.length = i * 3 + j := by simp [Cl.cells]; omega
      rw [e]
theorem ownC_put {B : Nat} {w : World} {v : Value} {L : List Cl} (h : OwnC B w v L) (i : Nat) (hi : i < L.length) (j : Nat) (hj : j < 3) (u : Value) (x : Cl) (hx : x.cells = L[i].cells.set j u) :
    ∃ g c, v = .slice (some ⟨g, 0, none⟩) L.length c ∧ B ≤ g ∧ L.length ≤ c ∧ w.frozen? ⟨g, i * 3 + j, none⟩ = false ∧ w.cell? ⟨g, i * 3 + j, none⟩ = L[i].cells[j]? ∧ OwnC B (w.setCell ⟨g, i * 3 + j, none⟩ u) v (L.set i x) := by
  rcases h.2 with ⟨hv, hn⟩ | ⟨g, cap, cur, hv, hg, hh, hc, hcm, hsz, ht⟩
  · omega
  · refine ⟨g, cap, hv, hg, hc, Has.free (t := 38) (cs := cur) hh _, ?_, ?_⟩
    · rw [Has.cell (t := 38) (cs := cur) hh, ← cflat_get L i j hi hj, ← ht, List.getElem?_take, if_pos (by omega)]
      simp
    · refine ⟨by rw [cflat_len], .inr ⟨g, cap, cur.setIfInBounds (i * 3 + j) u, by rw [List.length_set]; exact hv, hg, Has.put (t := 38) (cs := cur) hh (i * 3 + j) u, by rw [List.length_set]; exact hc, hcm, by simpa using hsz, ?_⟩⟩
      rw [List.length_set, ← cflat_set L i j u x hi hj hx, ← ht, Array.toList_setIfInBounds, List.take_set]
theorem findI_lt0 (L : List Cl) (s : ByteArray) : findI L s < L.length := by
  unfold findI; split <;> omega
/-! ### what Good comes to -/
def pool (i : Nat) : ByteArray := if i = 0 then ⟨#[105, 100]⟩ else if i = 1 then ⟨#[110, 97, 109, 101]⟩ else if i = 2 then ⟨#[110]⟩ else if i = 3 then ⟨#[102, 108, 97, 103]⟩ else if i = 4 then ⟨#[114, 97, 119]⟩ else ⟨#[120]⟩
theorem pool_name (i : Nat) : nameF (pool i) = true := by
  unfold pool
  split
  · decide +kernel
  split
  · decide +kernel
  split
  · decide +kernel
  split
  · decide +kernel
  split
  · decide +kernel
  · decide +kernel
def kind4 (k : Int) : Int := (if k < 0 then -(k + 1) else k) % 4
theorem kind4_range (k : Int) : 0 ≤ kind4 k ∧ kind4 k ≤ 3 := by unfold kind4; split <;> omega
theorem kind4_neg {k : Int} (h : k < 0) : -((k + 1).tmod 4) = kind4 k := by
  unfold kind4
  rw [if_pos h, ← Int.neg_tmod, Int.tmod_eq_emod_of_nonneg (by omega)]
theorem kind4_pos {k : Int} (h : ¬ k < 0) : k.tmod 4 = kind4 k := by
  unfold kind4
  rw [if_neg h, Int.tmod_eq_emod_of_nonneg (by omega)]
def gName (out : List Cl) (c : Cl) (i : Nat) : ByteArray := if nameF c.nm = true ∧ findI out c.nm < 0 then c.nm else pool i
def gStep (out : List Cl) (c : Cl) (i : Nat) : List Cl := if findI out (gName out c i) < 0 then out ++ [⟨gName out c i, 1 + kind4 c.k, c.no⟩] else out
def gTo (L : List Cl) : Nat → List Cl
  | 0 => []
  | k + 1 => match L[k]? with
    | some c => gStep (gTo L k) c k
    | none => gTo L k
theorem gTo_succ (L : List Cl) (k : Nat) (h : k < L.length) : gTo L (k + 1) = gStep (gTo L k) L[k] k := by
  have e : gTo L (k + 1) = match L[k]? with | some c => gStep (gTo L k) c k | none => gTo L k := rfl
  rw [e, List.getElem?_eq_getElem h]
def gOne : List Cl := [⟨⟨#[105, 100]⟩, 2, false⟩]
def gCols (L : List Cl) : List Cl := if (gTo L (min L.length 6)).length = 0 then gOne else gTo L (min L.length 6)
def absK (K : Int) : Int := if K < 0 then -(K + 1) else K
def gKeys (m : Nat) (K : Int) : Nat := (1 + absK K % (min m 3 : Nat)).toNat
def clr (M : List Cl) (k : Nat) : List Cl := (M.take k).map (fun c => ⟨c.nm, c.k, false⟩) ++ M.drop k
def gdC (L : List Cl) (K : Int) : List Cl := clr (gCols L) (gKeys (gCols L).length K)
def gdK (L : List Cl) (K : Int) : Nat := gKeys (gCols L).length K
theorem clr_zero (M : List Cl) : clr M 0 = M := by simp [clr]
theorem clr_len (M : List Cl) (k : Nat) : (clr M k).length = M.length := by simp [clr]; omega
theorem clr_get (M : List Cl) (k i : Nat) (h : i < M.length) : (clr M k)[i]'(by rw [clr_len]; exact h) = if i < k then ⟨M[i].nm, M[i].k, false⟩ else M[i] := by
  unfold clr
  by_cases hk : i < k
  · rw [if_pos hk, List.getElem_append_left (by simp; omega)]
    simp
  · rw [if_neg hk, List.getElem_append_right (by simp; omega)]
    simp only [List.getElem_drop, List.length_map, List.length_take]
    congr 1
    omega
theorem clr_set (M : List Cl) (k : Nat) (h : k < M.length) : (clr M k).set k ⟨M[k].nm, M[k].k, false⟩ = clr M (k + 1) := by
  apply List.ext_getElem
  · rw [List.length_set, clr_len, clr_len]
  · intro i h1 h2
    rw [List.length_set, clr_len] at h1
    rw [List.getElem_set, clr_get M (k + 1) i h1]
    by_cases e : k = i
    · subst e; rw [if_pos rfl, if_pos (by omega)]
    · rw [if_neg e, clr_get M k i h1]
      by_cases hk : i < k
      · rw [if_pos hk, if_pos (by omega)]
      · rw [if_neg hk, if_neg (by omega)]
theorem findI_neg {L : List Cl} {s : ByteArray} (h : findI L s < 0) (j : Nat) (hj : j < L.length) : (L[j].nm.toList == s.toList) = false := by
  unfold findI at h
  split at h
  · omega
  · rename_i hn
    have e : L.findIdx (fun c => c.nm.toList == s.toList) = L.length := by
      have := List.findIdx_le_length (p := fun c : Cl => c.nm.toList == s.toList) (xs := L)
      unfold findN at hn; omega
    exact List.findIdx_eq_length.1 e L[j] (List.getElem_mem hj)
theorem findI_first {L : List Cl} {i : Nat} (hi : i < L.length) (h : findI L L[i].nm = i) (j : Nat) (hj : j < i) : (L[j].nm.toList == L[i].nm.toList) = false := by
  cases hh : (L[j].nm.toList == L[i].nm.toList)
  · rfl
  · have := findI_early hj hi hh
    rw [h] at this; simp at this
/-- All columns' names are names, unlike one another, and their kinds kinds. -/
def Cols (M : List Cl) : Prop := ∀ i (h : i < M.length), nameF M[i].nm = true ∧ findI M M[i].nm = i ∧ kindF M[i].k = true
theorem cols_snoc {M : List Cl} {x : Cl} (h : Cols M) (hn : nameF x.nm = true) (hf : findI M x.nm < 0) (hk : kindF x.k = true) : Cols (M ++ [x]) := by
  intro i hi
  by_cases hl : i < M.length
  · rw [List.getElem_append_left hl]
    obtain ⟨h1, h2, h3⟩ := h i hl
    refine ⟨h1, ?_, h3⟩
    have e : (M ++ [x])[i].nm = M[i].nm := by rw [List.getElem_append_left hl]
    refine findI_at (by simp; omega) (by rw [e]; simp) fun j hj => ?_
    rw [List.getElem_append_left (by omega)]
    exact findI_first hl h2 j hj
  · have e : i = M.length := by simp at hi; omega
    subst e
    rw [List.getElem_append_right (by omega)]
    simp only [Nat.sub_self, List.getElem_cons_zero]
    refine ⟨hn, ?_, hk⟩
    refine findI_at (by simp) (by rw [List.getElem_append_right (by omega)]; simp) fun j hj => ?_
    rw [List.getElem_append_left hj]
    exact findI_neg hf j hj
theorem kind_ok (k : Int) : kindF (1 + kind4 k) = true := by
  have := kind4_range k
  simp [kindF]; omega
theorem gTo_cols (L : List Cl) : ∀ k, Cols (gTo L k) ∧ (gTo L k).length ≤ k
  | 0 => ⟨fun i h => absurd h (by simp [gTo]), by simp [gTo]⟩
  | k + 1 => by
    obtain ⟨h1, h2⟩ := gTo_cols L k
    unfold gTo
    cases L[k]? with
    | none => exact ⟨h1, by simp only; omega⟩
    | some c =>
      simp only
      unfold gStep
      split
      · rename_i hf
        refine ⟨cols_snoc h1 ?_ hf (kind_ok _), by simp; omega⟩
        simp only
        unfold gName
        split
        · rename_i hh; exact hh.1
        · exact pool_name k
      · exact ⟨h1, by omega⟩
theorem gOne_cols : Cols gOne := fun i h => by
  obtain rfl : i = 0 := by simp [gOne] at h; omega
  show nameF (⟨#[105, 100]⟩ : ByteArray) = true ∧ findI gOne ⟨#[105, 100]⟩ = (0 : Nat) ∧ kindF 2 = true
  exact ⟨by decide +kernel, by decide +kernel, by decide +kernel⟩
theorem gCols_cols (L : List Cl) : Cols (gCols L) ∧ 1 ≤ (gCols L).length ∧ (gCols L).length ≤ 6 := by
  have h := gTo_cols L (min L.length 6)
  unfold gCols
  split
  · exact ⟨gOne_cols, by simp [gOne], by simp [gOne]⟩
  · exact ⟨h.1, by omega, by omega⟩
theorem gKeys_range (m : Nat) (K : Int) (h : 1 ≤ m) : 1 ≤ gKeys m K ∧ gKeys m K ≤ m ∧ gKeys m K ≤ 3 := by
  unfold gKeys
  have h1 := Int.emod_nonneg (absK K) (b := ((min m 3 : Nat) : Int)) (by omega)
  have h2 := Int.emod_lt_of_pos (absK K) (b := ((min m 3 : Nat) : Int)) (by omega)
  omega
theorem findI_congr {L M : List Cl} (hl : L.length = M.length) (h : ∀ i (h1 : i < L.length) (h2 : i < M.length), L[i].nm = M[i].nm) (s : ByteArray) : findI L s = findI M s := by
  by_cases hh : findI M s < 0
  · rw [findI_none (L := L) (s := s) fun j hj => by rw [h j hj (by omega)]; exact findI_neg hh j (by omega)]
    have := findI_neg hh
    rw [findI_none fun j hj => this j hj]
  · have hlt := findI_lt0 M s
    obtain ⟨k, hk⟩ : ∃ k : Nat, findI M s = k := ⟨(findI M s).toNat, by omega⟩
    have hkl : k < M.length := by omega
    rw [hk]
    refine findI_at (by omega) ?_ fun j hj => ?_
    · rw [h k (by omega) hkl]
      have : findN M s = k := by
        unfold findI at hk; split at hk <;> omega
      unfold findN at this
      have h3 := List.findIdx_getElem (p := fun c : Cl => c.nm.toList == s.toList) (xs := M) (w := by omega)
      simp only [this] at h3
      exact h3
    · rw [h j (by omega) (by omega)]
      have : findN M s = k := by
        unfold findI at hk; split at hk <;> omega
      exact List.not_of_lt_findIdx (p := fun c : Cl => c.nm.toList == s.toList) (xs := M) (by unfold findN at this; omega)
theorem gd_get (L : List Cl) (K : Int) (i : Nat) (h : i < (gdC L K).length) (h' : i < (gCols L).length) : (gdC L K)[i] = if i < gdK L K then ⟨(gCols L)[i].nm, (gCols L)[i].k, false⟩ else (gCols L)[i] := clr_get _ _ _ h'
/-- A schema that may be, with few columns. -/
structure GoodS (M : List Cl) (k : Nat) : Prop where
  cols : Cols M
  len : 1 ≤ M.length ∧ M.length ≤ 6
  keys : 1 ≤ k ∧ k ≤ M.length ∧ k ≤ 3
  none : ∀ i (h : i < M.length), i < k → M[i].no = false
theorem goodS_is (L : List Cl) (K : Int) : GoodS (gdC L K) (gdK L K) := by
  obtain ⟨h1, h2, h3⟩ := gCols_cols L
  have hk := gKeys_range (gCols L).length K h2
  have hn : ∀ i (h1 : i < (gdC L K).length) (h2 : i < (gCols L).length), (gdC L K)[i].nm = (gCols L)[i].nm := fun i h h' => by
    rw [gd_get L K i h h']; split <;> rfl
  have hl : (gdC L K).length = (gCols L).length := clr_len _ _
  refine ⟨fun i h => ?_, by rw [hl]; exact ⟨h2, h3⟩, by rw [hl]; exact hk, fun i h hik => ?_⟩
  · have h' : i < (gCols L).length := by omega
    obtain ⟨q1, q2, q3⟩ := h1 i h'
    rw [findI_congr hl hn, hn i h h']
    refine ⟨q1, q2, ?_⟩
    have e : (gdC L K)[i].k = (gCols L)[i].k := by rw [gd_get L K i h h']; split <;> rfl
    rw [e]; exact q3
  · have h' : i < (gCols L).length := by omega
    rw [gd_get L K i h h', if_pos hik]
theorem goodS_may (M : List Cl) (k : Nat) (h : GoodS M k) : smayF M k = true := by
  have h1 := h.len
  have h2 := h.keys
  rw [smayF_yes h1.1 (by omega) (by omega) (by omega) (by omega)]
  unfold colsTo
  rw [List.all_eq_true]
  intro i hi
  have hi' : i < M.length := List.mem_range.1 hi
  obtain ⟨q1, q2, q3⟩ := h.cols i hi'
  rw [colOk_at M k i hi', q1, q2, q3]
  by_cases hk : i < k
  · rw [h.none i hi' hk]; simp
  · simp; omega
theorem goodS_fit (M : List Cl) (k : Nat) (h : GoodS M k) : ∀ x ∈ M, x.nm.size ≤ 32 ∧ 1 ≤ x.k ∧ x.k ≤ 4 ∧ x.fit := fun x hx => by
  obtain ⟨i, hi, rfl⟩ := List.getElem_of_mem hx
  obtain ⟨q1, q2, q3⟩ := h.cols i hi
  have hs := nameF_size q1
  have hk : 1 ≤ M[i].k ∧ M[i].k ≤ 4 := by simpa [kindF] using q3
  exact ⟨hs.2, hk.1, hk.2, by omega, by omega, by omega⟩
end Go.Proofs.YtiefogofiajmnaaDoor
