/-
  Schemas behind changes: plain mathematics.
-/
import Derived.Test.YticfhjimbochlaaTurnM
namespace Go.Proofs.Yticfhjimbochlaa
open Go.RowKit Dg
def Apart (M : List Cl) : Prop := (M.map fun c => c.nm.toList).Pairwise (· ≠ ·)
def Each (M : List Cl) : Prop := ∀ c ∈ M, nameF c.nm = true ∧ kindF c.k = true
theorem cols_parts {M : List Cl} (h : Cols M) : Each M ∧ Apart M := by
  constructor
  · intro c hc
    obtain ⟨i, hi, rfl⟩ := List.getElem_of_mem hc
    obtain ⟨h1, _, h3⟩ := h i hi
    exact ⟨h1, h3⟩
  · unfold Apart
    rw [List.pairwise_iff_getElem]
    intro i j hi hj hij e
    rw [List.length_map] at hi hj
    rw [List.getElem_map, List.getElem_map] at e
    have := findI_first hj (h j hj).2.1 i hij
    rw [e] at this
    simp at this
theorem cols_of {M : List Cl} (h : Each M) (ha : Apart M) : Cols M := by
  intro i hi
  obtain ⟨h1, h3⟩ := h M[i] (List.getElem_mem hi)
  refine ⟨h1, findI_at hi (by simp) fun j hj => ?_, h3⟩
  unfold Apart at ha
  rw [List.pairwise_iff_getElem] at ha
  have := ha j i (by rw [List.length_map]; omega) (by rw [List.length_map]; omega) hj
  rw [List.getElem_map, List.getElem_map] at this
  simpa using this
theorem may_of {M : List Cl} {k : Nat} (hc : Cols M) (h0 : 1 ≤ M.length) (h1 : M.length ≤ 16) (h2 : 1 ≤ k) (h3 : k ≤ 4) (h4 : k ≤ M.length) (hn : ∀ i (h : i < M.length), i < k → M[i].no = false) : smayF M k = true := by
  rw [smayF_yes h0 h1 (by omega) (by omega) (by omega)]
  unfold colsTo
  rw [List.all_eq_true]
  intro i hi
  have hi' : i < M.length := List.mem_range.1 hi
  obtain ⟨q1, q2, q3⟩ := hc i hi'
  rw [colOk_at M k i hi', q1, q2, q3]
  by_cases hk : i < k
  · rw [hn i hi' hk]; simp
  · simp; omega
theorem apply_may {M : List Cl} {k : Nat} (hg : GoodS M k) {ck : Int} {nm : ByteArray} {kd : Int} {no : Bool} (h : (doesF M k ck nm kd no).e = 0) : smayF (applyL M (doesF M k ck nm kd no) nm kd) k = true := by
  have hl := hg.len
  have hk := hg.keys
  obtain ⟨hE, hA⟩ := cols_parts hg.cols
  rcases does_cases hk.2.1 h with ⟨rfl, hf, hkd, hnm, _, hd⟩ | ⟨i, hf, hki, hil, ⟨rfl, hd⟩ | ⟨rfl, hkd, hd⟩⟩
  · rw [hd]
    have e2 : applyL M ⟨M.length, M.length, 1, 0⟩ nm kd = M ++ [⟨nm, kd, true⟩] := by simp [applyL]
    rw [e2]
    refine may_of (cols_snoc hg.cols hnm hf hkd) (by simp) (by simp; omega) hk.1 (by omega) (by simp; omega) fun j hj hjk => ?_
    rw [List.getElem_append_left (by omega)]
    exact hg.none j (by omega) hjk
  · rw [hd]
    have e2 : applyL M ⟨i, i + 1, 0, 0⟩ nm kd = M.take i ++ M.drop (i + 1) := by simp [applyL]
    rw [e2]
    have hE2 : Each (M.take i ++ M.drop (i + 1)) := fun c hc => by
      rcases List.mem_append.1 hc with h | h
      · exact hE c (List.mem_of_mem_take h)
      · exact hE c (List.mem_of_mem_drop h)
    have hs : (M.take i ++ M.drop (i + 1)).Sublist M := by
      have h1 : (M.take i ++ M.drop (i + 1)).Sublist (M.take i ++ M.drop i) := List.Sublist.append_left (List.drop_sublist_drop_left M (Nat.le_succ i)) _
      rwa [List.take_append_drop] at h1
    have hA2 : Apart (M.take i ++ M.drop (i + 1)) := List.Pairwise.sublist (hs.map _) hA
    refine may_of (cols_of hE2 hA2) (by simp; omega) (by simp; omega) hk.1 (by omega) (by simp; omega) fun j hj hjk => ?_
    rw [List.getElem_append_left (by rw [List.length_take]; omega), List.getElem_take]
    exact hg.none j (by omega) hjk
  · rw [hd]
    have e2 : applyL M ⟨i, i + 1, 1, 0⟩ nm kd = M.set i ⟨nm, kd, true⟩ := by rw [set_mid M i _ hil]; simp [applyL]
    rw [e2]
    have hnm := findI_nm hf hil
    have hm : (M.set i ⟨nm, kd, true⟩).map (fun c => c.nm.toList) = M.map fun c => c.nm.toList := by
      rw [List.map_set]
      apply List.ext_getElem (by simp)
      intro j h1 h2
      rw [List.getElem_set]
      split
      · rename_i hij; subst hij; rw [List.getElem_map, hnm]
      · rfl
    have hA2 : Apart (M.set i ⟨nm, kd, true⟩) := by unfold Apart; rw [hm]; exact hA
    have hE2 : Each (M.set i ⟨nm, kd, true⟩) := fun c hc => by
      rcases List.mem_or_eq_of_mem_set hc with h | rfl
      · exact hE c h
      · exact ⟨by rw [← hnm]; exact (hE _ (List.getElem_mem hil)).1, hkd⟩
    refine may_of (cols_of hE2 hA2) (by simp; omega) (by simp; omega) hk.1 (by omega) (by simp; omega) fun j hj hjk => ?_
    rw [List.getElem_set_ne (by omega)]
    exact hg.none j (by simpa using hj) hjk
end Go.Proofs.Yticfhjimbochlaa
