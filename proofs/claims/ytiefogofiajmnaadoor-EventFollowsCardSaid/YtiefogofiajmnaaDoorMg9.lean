/-
  Two texts in one.
-/
import Derived.Test.YtiefogofiajmnaaDoorPlc
import Derived.Test.YtiefogofiajmnaaDoorApply
namespace Go.Proofs.YtiefogofiajmnaaDoor
open Go.RowKit Dg
/-- A table: its name, its columns, its keys. -/
structure Td where
  nm : ByteArray
  L : List Cl
  K : Int
def Tb.td (x : Tb) : Td := ⟨x.nm, x.L, x.K⟩
def tds (T : List Tb) : List Td := T.map Tb.td
/-- Where a table of that name would stand. -/
def lbD (D : List Td) (s : ByteArray) : Nat := D.findIdx fun x => !Op.bytesLess x.nm.toList s.toList
def plD (D : List Td) (s : ByteArray) : Bool := match D[lbD D s]? with | some x => x.nm.toList == s.toList | none => false
theorem lbN_d (T : List Tb) (s : ByteArray) : lbN T s = lbD (tds T) s := by
  unfold lbN lbD tds
  rw [List.findIdx_map]
  rfl
theorem plF_d (T : List Tb) (s : ByteArray) : plF T s = plD (tds T) s := by
  unfold plF plD
  rw [lbN_d]
  unfold tds
  rw [List.getElem?_map]
  cases T[lbD (T.map Tb.td) s]? <;> rfl
theorem tds_len (T : List Tb) : (tds T).length = T.length := List.length_map _
theorem tds_get (T : List Tb) (i : Nat) (h : i < T.length) : (tds T)[i]'(by rw [tds_len]; exact h) = T[i].td := List.getElem_map _
theorem tds_ins (T : List Tb) (x : Tb) (i j : Nat) : tds (T.take i ++ [x] ++ T.drop j) = (tds T).take i ++ [x.td] ++ (tds T).drop j := by
  unfold tds; simp [List.map_append, List.map_take, List.map_drop]
theorem tds_del (T : List Tb) (i j : Nat) : tds (T.take i ++ T.drop j) = (tds T).take i ++ (tds T).drop j := by
  unfold tds; simp [List.map_append, List.map_take, List.map_drop]
/-- Tables in order. -/
def SortD (D : List Td) : Prop := D.Pairwise fun x y => Op.bytesLess x.nm.toList y.nm.toList = true
theorem sort_d (T : List Tb) : SortT T ↔ SortD (tds T) := by
  unfold SortT SortD
  rw [List.pairwise_iff_getElem]
  constructor
  · intro h i j hi hj hij
    rw [tds_len] at hi hj
    rw [tds_get T i hi, tds_get T j hj]
    exact h i j hij hj
  · intro h i j hij hj
    have := h i j (by rw [tds_len]; omega) (by rw [tds_len]; exact hj) hij
    rw [tds_get T i (by omega), tds_get T j hj] at this
    exact this
theorem sort_nil : SortT [] := fun i j _ hj => by simp at hj
theorem sortD_ins {D : List Td} {x : Td} (h : SortD D) (hp : plD D x.nm = false) : SortD (D.take (lbD D x.nm) ++ [x] ++ D.drop (lbD D x.nm)) := by
  have hlo : ∀ y ∈ D.take (lbD D x.nm), Op.bytesLess y.nm.toList x.nm.toList = true := fun y hy => by
    obtain ⟨i, hi, rfl⟩ := List.getElem_of_mem hy
    rw [List.length_take] at hi
    rw [List.getElem_take]
    have := List.not_of_lt_findIdx (xs := D) (p := fun y => !Op.bytesLess y.nm.toList x.nm.toList) (show i < lbD D x.nm by omega)
    simpa using this
  have hhi : ∀ y ∈ D.drop (lbD D x.nm), Op.bytesLess x.nm.toList y.nm.toList = true := fun y hy => by
    obtain ⟨i, hi, rfl⟩ := List.getElem_of_mem hy
    rw [List.length_drop] at hi
    rw [List.getElem_drop]
    have hk : lbD D x.nm < D.length := by omega
    have h0 : (!Op.bytesLess (D[lbD D x.nm]'hk).nm.toList x.nm.toList) = true := List.findIdx_getElem (w := hk)
    rw [Bool.not_eq_true'] at h0
    have h1 : ((D[lbD D x.nm]'hk).nm.toList == x.nm.toList) = false := by
      unfold plD at hp; rw [List.getElem?_eq_getElem hk] at hp; exact hp
    have h2 : Op.bytesLess x.nm.toList (D[lbD D x.nm]'hk).nm.toList = true := by
      cases h3 : Op.bytesLess x.nm.toList (D[lbD D x.nm]'hk).nm.toList
      · have := less_total _ _ h0 h3
        rw [this] at h1; simp at h1
      · rfl
    rcases Nat.eq_zero_or_pos i with rfl | hi0
    · simpa using h2
    · exact less_trans _ _ _ h2 ((List.pairwise_iff_getElem.1 h) _ _ hk (by omega) (by omega))
  unfold SortD at *
  rw [List.append_assoc, List.pairwise_append]
  refine ⟨h.sublist (List.take_sublist _ _), ?_, ?_⟩
  · rw [List.singleton_append, List.pairwise_cons]
    exact ⟨hhi, h.sublist (List.drop_sublist _ _)⟩
  · intro a ha b hb
    rw [List.singleton_append, List.mem_cons] at hb
    rcases hb with rfl | hb
    · exact hlo a ha
    · exact less_trans _ _ _ (hlo a ha) (hhi b hb)
theorem sortD_del {D : List Td} (h : SortD D) (i : Nat) : SortD (D.take i ++ D.drop (i + 1)) := by
  unfold SortD at *
  refine h.sublist ?_
  conv => rhs; rw [← List.take_append_drop i D]
  exact List.Sublist.append_left (by rw [← List.drop_drop]; exact List.drop_sublist _ _) _
theorem sortD_rep {D : List Td} (h : SortD D) {i : Nat} (hi : i < D.length) {x : Td} (hx : x.nm = D[i].nm) : SortD (D.take i ++ [x] ++ D.drop (i + 1)) := by
  have e : D.take i ++ [x] ++ D.drop (i + 1) = D.set i x := by
    apply List.ext_getElem
    · simp; omega
    · intro j h1 h2
      rw [List.getElem_set]
      by_cases hj : i = j
      · subst hj
        rw [if_pos rfl]
        have : (D.take i ++ [x]).length = i + 1 := by simp; omega
        rw [List.getElem_append_left (by omega), List.getElem_append_right (by simp; omega)]
        simp
      · rw [if_neg hj]
        by_cases hji : j < i
        · rw [List.getElem_append_left (by simp; omega), List.getElem_append_left (by simp; omega), List.getElem_take]
        · rw [List.getElem_append_right (by simp; omega), List.getElem_drop]
          congr 1
          simp; omega
  rw [e]
  unfold SortD at *
  rw [List.pairwise_iff_getElem] at *
  intro a b ha hb hab
  rw [List.length_set] at ha hb
  have key := h a b ha hb hab
  rw [List.getElem_set, List.getElem_set]
  split <;> split
  · omega
  · next h1 _ => subst h1; rw [hx]; exact key
  · next h1 => subst h1; rw [hx]; exact key
  · exact key
/-- The first so many tables may be: those that are in order, named, and of schemas that may be. -/
theorem right_is {T : List Tb} (hS : SortT T) (hg : ∀ x ∈ T, nameF x.nm = true ∧ smayF x.L x.K = true) (hn : T.length ≤ 64) : rightF T = true := by
  unfold rightF
  rw [decide_eq_true hn, Bool.and_true]
  have h : ∀ k, k ≤ T.length → rightTo T k = true := fun k => by
    induction k with
    | zero => intro _; rfl
    | succ k ih =>
      intro hk
      rw [rightTo_succ, ih (by omega), Bool.true_and]
      obtain ⟨h1, h2⟩ := hg T[k] (List.getElem_mem (by omega))
      by_cases h0 : 0 < k
      · rw [tokAt_next T k (by omega) h0, h1, h2, hS (k - 1) k (by omega) (by omega)]; rfl
      · obtain rfl : k = 0 := by omega
        rw [tokAt_first T (by omega), h1, h2]; rfl
  exact h _ (Nat.le_refl _)
/-- Are tables the same? -/
def tsD : List Td → List Td → Bool
  | [], [] => true
  | x :: D, y :: E => (x.nm.toList == y.nm.toList) && ssF x.L x.K y.L y.K && tsD D E
  | _, _ => false
theorem tsD_refl : ∀ D, tsD D D = true
  | [] => rfl
  | x :: D => by simp [tsD, ssF_refl, tsD_refl D]
end Go.Proofs.YtiefogofiajmnaaDoor
namespace Go.Proofs.YtiefogofiajmnaaDoor
open Go.RowKit Dg
/-- The error of a table that is made. -/
def fcE (T : List Tb) (tn : ByteArray) (L' : List Cl) (K' : Int) : Int :=
  if nameF tn = false then 6 else if plF T tn = true then 8 else if smayF L' K' = false then 1 else if 64 ≤ T.length then 13 else 0
/-- The error of a change. -/
def foE (T : List Tb) (ck : Int) (tn : ByteArray) (L' : List Cl) (K' : Int) (cn : ByteArray) (kd : Int) (no : Bool) : Int :=
  if ck = 1 then fcE T tn L' K' else match T[lbN T tn]? with
    | none => 7
    | some x => if plF T tn = false then 7 else if ck = 2 then 0 else (doesF x.L x.K ck cn kd no).e
/-- The tables behind it, where there is none. -/
def foD (T : List Tb) (ck : Int) (tn : ByteArray) (L' : List Cl) (K' : Int) (cn : ByteArray) (kd : Int) (no : Bool) : List Td :=
  if foE T ck tn L' K' cn kd no ≠ 0 then [] else if ck = 1 then (tds T).take (lbN T tn) ++ [⟨tn, L', K'⟩] ++ (tds T).drop (lbN T tn)
  else if ck = 2 then (tds T).take (lbN T tn) ++ (tds T).drop (lbN T tn + 1) else match T[lbN T tn]? with
    | none => []
    | some x => (tds T).take (lbN T tn) ++ [⟨tn, applyL x.L (doesF x.L x.K ck cn kd no) cn kd, applyK x.K (doesF x.L x.K ck cn kd no)⟩] ++ (tds T).drop (lbN T tn + 1)
section
variable {T : List Tb} {tn : ByteArray} {L' : List Cl} {K' : Int} {cn : ByteArray} {kd : Int} {no : Bool} {ck : Int}
theorem foE_c : foE T 1 tn L' K' cn kd no = fcE T tn L' K' := by unfold foE; rw [if_pos rfl]
theorem foE_none (h1 : ck ≠ 1) (hp : plF T tn = false) : foE T ck tn L' K' cn kd no = 7 := by
  unfold foE; rw [if_neg h1]
  split
  · rfl
  · rw [if_pos hp]
theorem plF_lt (h : plF T tn = true) : lbN T tn < T.length := by
  apply Decidable.byContradiction
  intro hl
  rw [plF_out hl] at h; cases h
theorem foE_drop (hp : plF T tn = true) : foE T 2 tn L' K' cn kd no = 0 := by
  have hl := plF_lt hp
  unfold foE; rw [if_neg (by omega), List.getElem?_eq_getElem hl]
  simp [hp]
theorem foE_alter (h1 : ck ≠ 1) (h2 : ck ≠ 2) (hp : plF T tn = true) (hl : lbN T tn < T.length) : foE T ck tn L' K' cn kd no = (doesF T[lbN T tn].L T[lbN T tn].K ck cn kd no).e := by
  unfold foE; rw [if_neg h1, List.getElem?_eq_getElem hl]
  simp [hp, h2]
theorem foD_bad (h : foE T ck tn L' K' cn kd no ≠ 0) : foD T ck tn L' K' cn kd no = [] := by unfold foD; rw [if_pos h]
theorem foD_c (h : fcE T tn L' K' = 0) : foD T 1 tn L' K' cn kd no = (tds T).take (lbN T tn) ++ [⟨tn, L', K'⟩] ++ (tds T).drop (lbN T tn) := by
  unfold foD; rw [foE_c, h]; simp
theorem foD_drop (hp : plF T tn = true) : foD T 2 tn L' K' cn kd no = (tds T).take (lbN T tn) ++ (tds T).drop (lbN T tn + 1) := by
  unfold foD; rw [foE_drop hp]; simp
theorem foD_alter (h1 : ck ≠ 1) (h2 : ck ≠ 2) (hp : plF T tn = true) (hl : lbN T tn < T.length) (he : (doesF T[lbN T tn].L T[lbN T tn].K ck cn kd no).e = 0) :
    foD T ck tn L' K' cn kd no = (tds T).take (lbN T tn) ++ [⟨tn, applyL T[lbN T tn].L (doesF T[lbN T tn].L T[lbN T tn].K ck cn kd no) cn kd, applyK T[lbN T tn].K (doesF T[lbN T tn].L T[lbN T tn].K ck cn kd no)⟩] ++ (tds T).drop (lbN T tn + 1) := by
  unfold foD; rw [foE_alter h1 h2 hp hl, he, List.getElem?_eq_getElem hl]; simp [h1, h2]
theorem fcE_name (h : nameF tn = false) : fcE T tn L' K' = 6 := by unfold fcE; rw [if_pos h]
theorem fcE_there (h : nameF tn = true) (hp : plF T tn = true) : fcE T tn L' K' = 8 := by unfold fcE; rw [if_neg (by rw [h]; simp), if_pos hp]
theorem fcE_may (h : nameF tn = true) (hp : plF T tn = false) (hm : smayF L' K' = false) : fcE T tn L' K' = 1 := by unfold fcE; rw [if_neg (by rw [h]; simp), if_neg (by rw [hp]; simp), if_pos hm]
theorem fcE_many (h : nameF tn = true) (hp : plF T tn = false) (hm : smayF L' K' = true) (h6 : 64 ≤ T.length) : fcE T tn L' K' = 13 := by unfold fcE; rw [if_neg (by rw [h]; simp), if_neg (by rw [hp]; simp), if_neg (by rw [hm]; simp), if_pos h6]
theorem fcE_ok (h : nameF tn = true) (hp : plF T tn = false) (hm : smayF L' K' = true) (h6 : T.length < 64) : fcE T tn L' K' = 0 := by unfold fcE; rw [if_neg (by rw [h]; simp), if_neg (by rw [hp]; simp), if_neg (by rw [hm]; simp), if_neg (by omega)]
end
end Go.Proofs.YtiefogofiajmnaaDoor
