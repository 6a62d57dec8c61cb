/-
  Works in order: what stands where behind a put. Mathematics.
-/
import Derived.Test.YtjkmbggaoinkdaaDoorRAdd
namespace Go.Proofs.YtjkmbggaoinkdaaDoor
open Go.RowKit Dg
set_option maxRecDepth 100000
theorem sort_pw {T : List Wk} : SortW T ↔ T.Pairwise (fun x y => Op.bytesLess x.t.toList y.t.toList = true) := by
  rw [List.pairwise_iff_getElem]
  exact ⟨fun h i j hi hj hij => h i j hij hj, fun h i j hij hj => h i j _ hj hij⟩
theorem mem_lo {T : List Wk} {s : ByteArray} {x : Wk} (h : x ∈ T.take (lbW T s)) : Op.bytesLess x.t.toList s.toList = true := by
  obtain ⟨i, hi, rfl⟩ := List.getElem_of_mem h
  rw [List.length_take] at hi
  rw [List.getElem_take]
  exact lw_lo (by omega) (by omega)
theorem mem_hi0 {T : List Wk} {s : ByteArray} (hS : SortW T) {x : Wk} (h : x ∈ T.drop (lbW T s)) : Op.bytesLess x.t.toList s.toList = false := by
  obtain ⟨i, hi, rfl⟩ := List.getElem_of_mem h
  rw [List.length_drop] at hi
  rw [List.getElem_drop]
  exact lw_hi hS (by omega) (by omega)
theorem plW_eq {T : List Wk} {s : ByteArray} (h : plW T s = true) (hl : lbW T s < T.length) : T[lbW T s].t = s := by
  rw [plW_at hl] at h
  exact toList_inj (eq_of_beq h)
theorem mem_hi {T : List Wk} {s : ByteArray} (hS : SortW T) (hp : plW T s = false) {x : Wk} (h : x ∈ T.drop (lbW T s)) : Op.bytesLess s.toList x.t.toList = true := by
  have h0 := mem_hi0 hS h
  cases h1 : Op.bytesLess s.toList x.t.toList
  · have he := less_total _ _ h0 h1
    obtain ⟨i, hi, rfl⟩ := List.getElem_of_mem h
    rw [List.length_drop] at hi
    rw [List.getElem_drop] at he
    have hl : lbW T s < T.length := by omega
    rw [plW_at hl] at hp
    rcases Nat.eq_zero_or_pos i with rfl | hi0
    · simp only [Nat.add_zero] at he
      rw [he] at hp
      simp at hp
    · have h2 := hS (lbW T s) (lbW T s + i) (by omega) (by omega)
      rw [he] at h2
      have h3 := lw_hi (s := s) hS (Nat.le_refl _) hl
      rw [h2] at h3; cases h3
  · rfl
theorem mem_hi1 {T : List Wk} {s : ByteArray} (hS : SortW T) (hp : plW T s = true) {x : Wk} (h : x ∈ T.drop (lbW T s + 1)) : Op.bytesLess s.toList x.t.toList = true := by
  have hl := plW_lt hp
  obtain ⟨i, hi, rfl⟩ := List.getElem_of_mem h
  rw [List.length_drop] at hi
  rw [List.getElem_drop]
  have h2 := hS (lbW T s) (lbW T s + 1 + i) (by omega) (by omega)
  rw [plW_eq hp hl] at h2
  exact h2
theorem sort_put {a b : List Wk} {x : Wk} (ha : SortW a) (hb : SortW b) (h1 : ∀ y ∈ a, Op.bytesLess y.t.toList x.t.toList = true) (h2 : ∀ y ∈ b, Op.bytesLess x.t.toList y.t.toList = true) : SortW (a ++ [x] ++ b) := by
  rw [sort_pw] at *
  rw [List.append_assoc, List.pairwise_append]
  refine ⟨ha, ?_, fun y hy z hz => ?_⟩
  · rw [List.singleton_append, List.pairwise_cons]
    exact ⟨h2, hb⟩
  · rcases List.mem_append.1 hz with hz | hz
    · rw [List.mem_singleton.1 hz]; exact h1 y hy
    · exact less_trans _ _ _ (h1 y hy) (h2 z hz)
theorem sort_take {T : List Wk} (h : SortW T) (k : Nat) : SortW (T.take k) := by
  rw [sort_pw] at *; exact h.sublist (List.take_sublist k T)
theorem sort_drop {T : List Wk} (h : SortW T) (k : Nat) : SortW (T.drop k) := by
  rw [sort_pw] at *; exact h.sublist (List.drop_sublist k T)
/-- Works with one put in. -/
def gput (T : List Wk) (s : ByteArray) (d : Bool) (k : ByteArray) : List Wk := T.take (lbW T s) ++ [⟨s, d, k⟩] ++ T.drop (lbW T s)
theorem gput_sort {T : List Wk} {s : ByteArray} (hS : SortW T) (hp : plW T s = false) (d : Bool) (k : ByteArray) : SortW (gput T s d k) :=
  sort_put (sort_take hS _) (sort_drop hS _) (fun _ hy => mem_lo hy) (fun _ hy => mem_hi hS hp hy)
theorem gput_len (T : List Wk) (s : ByteArray) (d : Bool) (k : ByteArray) : (gput T s d k).length = T.length + 1 := by
  have := lw_le T s
  simp [gput, List.length_take, List.length_drop]; omega
theorem gput_at? (T : List Wk) (s : ByteArray) (d : Bool) (k : ByteArray) : (gput T s d k)[lbW T s]? = some ⟨s, d, k⟩ := by
  have hl : (T.take (lbW T s)).length = lbW T s := by rw [List.length_take]; exact Nat.min_eq_left (lw_le T s)
  unfold gput
  rw [List.getElem?_append_left (by simp [hl]), List.getElem?_append_right (by omega)]
  simp [hl]
theorem gput_at (T : List Wk) (s : ByteArray) (d : Bool) (k : ByteArray) (h : lbW T s < (gput T s d k).length) : (gput T s d k)[lbW T s] = ⟨s, d, k⟩ := by
  have h1 := gput_at? T s d k
  rw [List.getElem?_eq_getElem h] at h1
  exact Option.some.inj h1
theorem gput_set (T : List Wk) (s : ByteArray) (d d' : Bool) (k k' : ByteArray) : (gput T s d k).set (lbW T s) ⟨s, d', k'⟩ = gput T s d' k' := by
  have hl : (T.take (lbW T s)).length = lbW T s := by rw [List.length_take]; exact Nat.min_eq_left (lw_le T s)
  unfold gput
  rw [List.set_append_left _ _ (by simp [hl]), List.set_append_right _ _ (by omega)]
  simp [hl]
theorem lb_of {T : List Wk} {s : ByteArray} {i : Nat} (hS : SortW T) (hi : i < T.length) (he : T[i].t = s) : lbW T s = i := by
  subst he
  refine lw_is (by omega) (fun t ht => hS t i ht hi) (fun t h1 h2 => ?_)
  rcases Nat.lt_or_eq_of_le h1 with h | h
  · exact less_asymm _ _ (hS i t h h2)
  · subst h; exact less_irrefl _
theorem pl_of {T : List Wk} {s : ByteArray} {i : Nat} (hS : SortW T) (hi : i < T.length) (he : T[i].t = s) : plW T s = true := by
  have h := lb_of hS hi he
  rw [plW_at (by omega)]
  simp only [h, he, beq_self_eq_true]
theorem gput_lb {T : List Wk} {s : ByteArray} (hS : SortW T) (hp : plW T s = false) (d : Bool) (k : ByteArray) : lbW (gput T s d k) s = lbW T s := by
  have hl : lbW T s < (gput T s d k).length := by rw [gput_len]; have := lw_le T s; omega
  exact lb_of (gput_sort hS hp d k) hl (by rw [gput_at])
theorem gput_pl {T : List Wk} {s : ByteArray} (hS : SortW T) (hp : plW T s = false) (d : Bool) (k : ByteArray) : plW (gput T s d k) s = true := by
  have hl : lbW T s < (gput T s d k).length := by rw [gput_len]; have := lw_le T s; omega
  exact pl_of (gput_sort hS hp d k) hl (by rw [gput_at])
theorem gput_mem {T : List Wk} {s : ByteArray} {d : Bool} {k : ByteArray} {x : Wk} : x ∈ gput T s d k ↔ x = ⟨s, d, k⟩ ∨ x ∈ T := by
  have e : x ∈ T ↔ x ∈ T.take (lbW T s) ∨ x ∈ T.drop (lbW T s) := by
    rw [← List.mem_append, List.take_append_drop]
  unfold gput
  rw [List.mem_append, List.mem_append, List.mem_singleton, e]
  constructor
  · rintro ((h | h) | h)
    · exact .inr (.inl h)
    · exact .inl h
    · exact .inr (.inr h)
  · rintro (h | h | h)
    · exact .inl (.inr h)
    · exact .inl (.inl h)
    · exact .inr h
theorem add_yes {T : List Wk} {s : ByteArray} (hn : nameF s = true) (hp : plW T s = false) : addE T s = 0 ∧ addL T s = gput T s false ⟨#[]⟩ := by
  constructor
  · simp [addE, hn, hp]
  · unfold addL; rw [if_neg (by simp [hn, hp])]; rfl
theorem add_dup {T : List Wk} {s : ByteArray} (hn : nameF s = true) (hp : plW T s = true) : addE T s = 8 := by
  simp [addE, hn, hp]
/-- The pool's names. -/
def poolB (i : Nat) : ByteArray := if i = 0 then ⟨#[116]⟩ else if i = 1 then ⟨#[117]⟩ else if i = 2 then ⟨#[118]⟩ else ⟨#[119]⟩
theorem poolB_name (i : Nat) : nameF (poolB i) = true := by
  unfold poolB
  split
  · decide +kernel
  · split
    · decide +kernel
    · split <;> decide +kernel
theorem poolB_size (i : Nat) : (poolB i).size = 1 := by
  unfold poolB
  split
  · rfl
  · split
    · rfl
    · split <;> rfl
/-- A work's name, and its key, as the document's Good makes them. -/
def gnm (x : Wk) (i : Nat) : ByteArray := if nameF x.t = true then x.t else poolB i
def gkn (x : Wk) : Nat := byteAt x.k 0 % 9
def gky (x : Wk) : ByteArray := if x.d = false ∧ 0 < x.k.size then kI (gkn x : Nat) else ⟨#[]⟩
theorem gnm_name (x : Wk) (i : Nat) : nameF (gnm x i) = true := by
  unfold gnm
  split
  · assumption
  · exact poolB_name i
theorem gnm_size (x : Wk) (i : Nat) : (gnm x i).size ≤ 32 := (nameF_size (gnm_name x i)).2
def gstep (T : List Wk) (x : Wk) (i : Nat) : List Wk := if plW T (gnm x i) = true then T else gput T (gnm x i) x.d (gky x)
def gdTo (L : List Wk) : Nat → List Wk
  | 0 => []
  | k + 1 => match L[k]? with | some x => gstep (gdTo L k) x k | none => gdTo L k
def goodW (L : List Wk) : List Wk := gdTo L (min L.length 4)
theorem gdTo_succ (L : List Wk) (k : Nat) (h : k < L.length) : gdTo L (k + 1) = gstep (gdTo L k) L[k] k := by
  conv => lhs; unfold gdTo
  rw [List.getElem?_eq_getElem h]
/-- What a good work is. -/
def GoodK (x : Wk) : Prop := nameF x.t = true ∧ (x.k = ⟨#[]⟩ ∨ x.d = false ∧ ∃ m : Nat, m < 9 ∧ x.k = kI (m : Nat))
theorem gky_good (x : Wk) (i : Nat) : GoodK ⟨gnm x i, x.d, gky x⟩ := by
  refine ⟨gnm_name x i, ?_⟩
  unfold gky
  split
  · rename_i h
    exact .inr ⟨h.1, gkn x, Nat.mod_lt _ (by omega), rfl⟩
  · exact .inl rfl
theorem gdTo_ok (L : List Wk) (k : Nat) : SortW (gdTo L k) ∧ (gdTo L k).length ≤ k ∧ ∀ x ∈ gdTo L k, GoodK x := by
  induction k with
  | zero => exact ⟨fun i j _ hj => absurd hj (by simp [gdTo]), Nat.le_refl _, fun x hx => by simp [gdTo] at hx⟩
  | succ k ih =>
    obtain ⟨h1, h2, h3⟩ := ih
    conv => enter [1, 1]; unfold gdTo
    conv => enter [2, 1, 1, 1]; unfold gdTo
    conv => enter [2, 2, x, 1]; unfold gdTo
    cases hx : L[k]? with
    | none => exact ⟨h1, Nat.le_succ_of_le h2, h3⟩
    | some x =>
      simp only
      unfold gstep
      split
      · exact ⟨h1, Nat.le_succ_of_le h2, h3⟩
      · rename_i hp
        have hp : plW (gdTo L k) (gnm x k) = false := by simpa using hp
        refine ⟨gput_sort h1 hp _ _, by rw [gput_len]; omega, fun y hy => ?_⟩
        rcases gput_mem.1 hy with rfl | hy
        · exact gky_good x k
        · exact h3 y hy
theorem goodW_sort (L : List Wk) : SortW (goodW L) := (gdTo_ok L _).1
theorem goodW_len (L : List Wk) : (goodW L).length ≤ 4 := Nat.le_trans (gdTo_ok L _).2.1 (Nat.min_le_right _ _)
theorem goodW_good (L : List Wk) : ∀ x ∈ goodW L, GoodK x := (gdTo_ok L _).2.2
theorem GoodK.sizes {x : Wk} (h : GoodK x) : x.t.size ≤ 32 ∧ x.k.size ≤ 9 := by
  refine ⟨(nameF_size h.1).2, ?_⟩
  rcases h.2 with h | ⟨_, m, _, h⟩
  · rw [h]; simp [ByteArray.size]
  · rw [h, kI_size]; omega
theorem GoodK.may {x : Wk} (h : GoodK x) : mayW x = true := by
  unfold mayW
  rw [h.1]
  rcases h.2 with h | ⟨hd, m, hm, h⟩
  · rw [h]; simp [ByteArray.size]
  · rw [hd, h, show isKeyB (kI (m : Nat)) = true from isKeyB_int _ (by omega) (by omega)]; simp
/-- Works in order each of which may be, may be. -/
theorem wright_of {T : List Wk} (hS : SortW T) (hm : ∀ x ∈ T, mayW x = true) : wrightF T = true := by
  unfold wrightF wrightTo
  rw [List.all_eq_true]
  intro k hk
  have hk := List.mem_range.1 hk
  rcases Nat.eq_zero_or_pos k with rfl | h0
  · rw [wokAt_first T hk]; exact hm _ (List.getElem_mem hk)
  · rw [wokAt_next T k hk h0, hm _ (List.getElem_mem hk), hS (k - 1) k (by omega) hk]; rfl
end Go.Proofs.YtjkmbggaoinkdaaDoor
