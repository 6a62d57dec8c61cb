/-
  What is covered stays so behind Add and Go. Mathematics.
-/
import Derived.Test.YtjkmbggaoinkdaaDoorRGo
namespace Go.Proofs.YtjkmbggaoinkdaaDoor
open Go.RowKit Dg
set_option maxRecDepth 100000
theorem cov_iff {T : List Wk} {s k : ByteArray} (hS : SortW T) : covB T s k = true ↔ ∃ x ∈ T, x.t = s ∧ (x.d = true ∨ ¬ x.k.size = 0 ∧ Op.bytesLess x.k.toList k.toList = false) := by
  constructor
  · intro h
    unfold covB at h
    rw [Bool.and_eq_true] at h
    obtain ⟨hp, h⟩ := h
    have hl := plW_lt hp
    have hw := wel hp hl
    refine ⟨T[lbW T s], List.getElem_mem hl, by rw [hw], ?_⟩
    rw [hw]
    simp only [Bool.or_eq_true, Bool.and_eq_true, Bool.not_eq_true', beq_eq_false_iff_ne] at h
    exact h
  · rintro ⟨x, hx, rfl, h⟩
    obtain ⟨i, hi, rfl⟩ := List.getElem_of_mem hx
    have hp := pl_of hS hi rfl
    have hlb := lb_of hS hi rfl
    unfold covB
    rw [hp, wdF_at (by omega), wkF_at (by omega)]
    simp only [hlb]
    simp only [Bool.true_and, Bool.or_eq_true, Bool.and_eq_true, Bool.not_eq_true', beq_eq_false_iff_ne]
    exact h
theorem add_cases (T : List Wk) (z : ByteArray) : addL T z = [] ∨ plW T z = false ∧ addL T z = gput T z false ⟨#[]⟩ := by
  unfold addL
  split
  · exact .inl rfl
  · rename_i h
    refine .inr ⟨?_, rfl⟩
    cases hp : plW T z
    · rfl
    · exact absurd (.inr hp) h
theorem addL_sort {T : List Wk} {z : ByteArray} (hS : SortW T) : SortW (addL T z) := by
  rcases add_cases T z with h | ⟨hp, h⟩
  · rw [h]; exact fun i j hij hj => absurd hj (by simp)
  · rw [h]; exact gput_sort hS hp _ _
theorem addL_len (T : List Wk) (z : ByteArray) : (addL T z).length ≤ T.length + 1 := by
  rcases add_cases T z with h | ⟨_, h⟩
  · rw [h]; simp
  · rw [h, gput_len]; exact Nat.le_refl _
theorem cov_add {T : List Wk} {s k z : ByteArray} (hS : SortW T) (h : covB T s k = true) (h0 : 0 < (addL T z).length) : covB (addL T z) s k = true := by
  rcases add_cases T z with h1 | ⟨hp, h1⟩
  · rw [h1] at h0; simp at h0
  · rw [h1]
    rw [cov_iff (gput_sort hS hp _ _)]
    obtain ⟨x, hx, r⟩ := (cov_iff hS).1 h
    exact ⟨x, gput_mem.2 (.inr hx), r⟩
theorem go_zero {T : List Wk} {q kk : ByteArray} {dn : Bool} (h : goE T q kk dn = 0) : plW T q = true ∧ wdF T q = false ∧ (dn = true ∨ dn = false ∧ isKeyB kk = true ∧ Op.bytesLess (wkF T q).toList kk.toList = true) := by
  unfold goE at h
  split at h
  · omega
  rename_i hp
  split at h
  · omega
  rename_i hd
  refine ⟨by simpa using hp, by simpa using hd, ?_⟩
  split at h
  · rename_i h1; exact .inl h1
  rename_i h1
  split at h
  · omega
  rename_i h2
  split at h
  · omega
  rename_i h3
  exact .inr ⟨by simpa using h1, by simpa using h2, by simpa using h3⟩
theorem goW_zero {T : List Wk} {q kk : ByteArray} {dn : Bool} (h : goE T q kk dn = 0) : goW T q kk dn = setW T q dn (if dn then ⟨#[]⟩ else kk) := by
  obtain ⟨hp, _, _⟩ := go_zero h
  rw [setW_is hp]
  unfold goW
  rw [if_pos h]
theorem setW_sort {T : List Wk} {q : ByteArray} (hS : SortW T) (hp : plW T q = true) (d : Bool) (k : ByteArray) : SortW (setW T q d k) := by
  rw [setW_is hp]
  exact sort_put (sort_take hS _) (sort_drop hS _) (fun y hy => mem_lo hy) (fun y hy => mem_hi1 hS hp hy)
theorem goW_sort {T : List Wk} {q kk : ByteArray} {dn : Bool} (hS : SortW T) : SortW (goW T q kk dn) := by
  by_cases h : goE T q kk dn = 0
  · rw [goW_zero h]; exact setW_sort hS (go_zero h).1 _ _
  · unfold goW; rw [if_neg h]; exact fun i j hij hj => absurd hj (by simp)
theorem goW_len (T : List Wk) (q kk : ByteArray) (dn : Bool) : (goW T q kk dn).length ≤ T.length := by
  by_cases h : goE T q kk dn = 0
  · rw [goW_zero h, setW_len]; exact Nat.le_refl _
  · unfold goW; rw [if_neg h]; simp
theorem mem_setW {T : List Wk} {q : ByteArray} (hp : plW T q = true) (d : Bool) (k : ByteArray) : (⟨q, d, k⟩ : Wk) ∈ setW T q d k := by
  rw [setW_is hp]; simp
theorem mem_setW_old {T : List Wk} {q : ByteArray} (hp : plW T q = true) {x : Wk} (hx : x ∈ T) (hne : x.t ≠ q) (d : Bool) (k : ByteArray) : x ∈ setW T q d k := by
  have hl := plW_lt hp
  obtain ⟨i, hi, rfl⟩ := List.getElem_of_mem hx
  have hil : i ≠ lbW T q := by
    rintro rfl
    exact hne (plW_eq hp hl)
  have : (setW T q d k)[i]? = some T[i] := by
    unfold setW
    rw [List.getElem?_set_ne (by omega), List.getElem?_eq_getElem hi]
  exact List.mem_of_getElem? this
theorem less_nonempty {x y : ByteArray} (h : Op.bytesLess x.toList y.toList = true) : ¬ y.size = 0 := fun h0 => by
  rw [empty_of h0, emptyL] at h
  cases hx : x.toList with
  | nil => rw [hx] at h; simp [Op.bytesLess] at h
  | cons a b => rw [hx] at h; simp [Op.bytesLess] at h
theorem cov_go {T : List Wk} {s k q kk : ByteArray} {dn : Bool} (hS : SortW T) (h : covB T s k = true) (hg : goE T q kk dn = 0) : covB (goW T q kk dn) s k = true := by
  obtain ⟨hp, hd, hc⟩ := go_zero hg
  rw [goW_zero hg, cov_iff (setW_sort hS hp _ _)]
  obtain ⟨x, hx, hxt, r⟩ := (cov_iff hS).1 h
  by_cases he : x.t = q
  · refine ⟨_, mem_setW hp dn _, by rw [← hxt, he], ?_⟩
    obtain ⟨i, hi, rfl⟩ := List.getElem_of_mem hx
    have hlb := lb_of hS hi he
    have hwd : wdF T q = T[i].d := by rw [wdF_at (by omega)]; simp only [hlb]
    have hwk : wkF T q = T[i].k := by rw [wkF_at (by omega)]; simp only [hlb]
    rcases hc with rfl | ⟨rfl, hkey, hl⟩
    · exact .inl rfl
    · refine .inr ⟨less_nonempty hl, ?_⟩
      rcases r with r | ⟨_, r⟩
      · rw [← hwd, hd] at r; cases r
      · rw [hwk] at hl
        cases h2 : Op.bytesLess kk.toList k.toList
        · simpa using h2
        · rw [less_trans _ _ _ hl h2] at r; cases r
  · exact ⟨x, mem_setW_old hp hx he _ _, hxt, r⟩
end Go.Proofs.YtjkmbggaoinkdaaDoor
