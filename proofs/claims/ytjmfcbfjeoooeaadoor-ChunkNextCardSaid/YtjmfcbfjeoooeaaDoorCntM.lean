/-
  How many works are not done; a work that goes to its end. Mathematics.
-/
import Derived.Test.YtjmfcbfjeoooeaaDoorNextW
namespace Go.Proofs.YtjmfcbfjeoooeaaDoor
open Go.RowKit Dg
set_option maxRecDepth 100000
/-- How many of works are not done. -/
def cntN (T : List Wk) : Nat := T.countP fun x => !x.d
theorem cntN_take (T : List Wk) (k : Nat) (h : k < T.length) : cntN (T.take (k + 1)) = cntN (T.take k) + if T[k].d then 0 else 1 := by
  unfold cntN
  rw [List.take_succ_eq_append_getElem h, List.countP_append]
  cases hd : T[k].d <;> simp [hd]
theorem cntN_le (T : List Wk) : cntN T ≤ T.length := List.countP_le_length
/-- The first work that is not done, where there is one. -/
theorem first_of {T : List Wk} (h : 0 < cntN T) : ∃ k, ∃ hk : k < T.length, T[k].d = false ∧ (∀ j (hj : j < k), (T[j]'(by omega)).d = true) ∧ fstN T = k := by
  have hx : ∃ x ∈ T, (!x.d) = true := by
    obtain ⟨x, h1, h2⟩ := List.countP_pos_iff.1 h
    exact ⟨x, h1, h2⟩
  have hl : fstN T < T.length := List.findIdx_lt_length_of_exists hx
  refine ⟨fstN T, hl, ?_, fun j hj => ?_, rfl⟩
  · have : (!T[fstN T].d) = true := List.findIdx_getElem (w := hl)
    simpa using this
  · have := List.not_of_lt_findIdx hj
    simpa using this
theorem none_of {T : List Wk} (h : cntN T = 0) : ∀ j (hj : j < T.length), T[j].d = true := fun j hj => by
  unfold cntN at h
  rw [List.countP_eq_zero] at h
  have := h T[j] (List.getElem_mem hj)
  simpa using this
/-- Works with one that has gone to its end. -/
def endW (T : List Wk) (k : Nat) : List Wk := match T[k]? with | some x => T.take k ++ [⟨x.t, true, ⟨#[]⟩⟩] ++ T.drop (k + 1) | none => T
theorem endW_at {T : List Wk} {k : Nat} (h : k < T.length) : endW T k = T.take k ++ [⟨T[k].t, true, ⟨#[]⟩⟩] ++ T.drop (k + 1) := by
  unfold endW; rw [List.getElem?_eq_getElem h]
theorem goW_end {T : List Wk} {k : Nat} (hS : SortW T) (h : k < T.length) (hd : T[k].d = false) (q : ByteArray) : goE T T[k].t q true = 0 ∧ goW T T[k].t q true = endW T k := by
  have hlb := lb_of hS h rfl
  have hp := pl_of hS h rfl
  have hwd : wdF T T[k].t = false := by rw [wdF_at (by omega)]; simp only [hlb, hd]
  obtain ⟨e1, e2⟩ := go_of_end (k := q) hp hwd
  exact ⟨e1, by rw [e2, hlb, endW_at h]⟩
theorem endW_sort {T : List Wk} {k : Nat} (hS : SortW T) (h : k < T.length) : SortW (endW T k) := by
  rw [endW_at h]
  have hlb := lb_of hS h rfl
  have hp := pl_of hS h rfl
  refine sort_put (sort_take hS _) (sort_drop hS _) (fun y hy => ?_) (fun y hy => ?_)
  · exact mem_lo (T := T) (s := T[k].t) (by rw [hlb]; exact hy)
  · exact mem_hi1 (T := T) (s := T[k].t) hS hp (by rw [hlb]; exact hy)
theorem endW_len {T : List Wk} {k : Nat} (h : k < T.length) : (endW T k).length = T.length := by
  rw [endW_at h]
  simp only [List.length_append, List.length_take, List.length_drop, List.length_singleton]
  omega
theorem endW_cnt {T : List Wk} {k : Nat} (h : k < T.length) (hd : T[k].d = false) : cntN (endW T k) + 1 = cntN T := by
  rw [endW_at h]
  have e : T = T.take k ++ T[k] :: T.drop (k + 1) := by rw [← List.drop_eq_getElem_cons h, List.take_append_drop]
  conv => rhs; rw [e]
  unfold cntN
  simp only [List.countP_append, List.countP_cons, List.countP_nil, hd]
  simp
  omega
theorem endW_cov {T : List Wk} {k : Nat} (hS : SortW T) (h : k < T.length) (q : ByteArray) : covB (endW T k) T[k].t q = true := by
  have hS2 := endW_sort hS h
  have hl : (T.take k).length = k := by rw [List.length_take]; omega
  have hk2 : k < (endW T k).length := by rw [endW_len h]; exact h
  have he : (endW T k)[k]? = some ⟨T[k].t, true, ⟨#[]⟩⟩ := by
    rw [endW_at h, List.getElem?_append_left (by simp [hl]), List.getElem?_append_right (by omega)]
    simp [hl]
  rw [List.getElem?_eq_getElem hk2] at he
  have he := Option.some.inj he
  have hlb := lb_of (s := T[k].t) hS2 hk2 (by rw [he])
  have hp := pl_of (s := T[k].t) hS2 hk2 (by rw [he])
  unfold covB
  rw [hp, wdF_at (by omega)]
  simp only [hlb, he]
  rfl
end Go.Proofs.YtjmfcbfjeoooeaaDoor
