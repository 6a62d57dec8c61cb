/-
  The order of values: the program's, and the document's.
-/
import Derived.Test.YtlkhijccjjpbbaaDoorVal
import Derived.Deep.RegionHeld3
import Derived.Deep.QuietTactic
import Derived.BigQuiet
namespace Go.Proofs.YtlkhijccjjpbbaaDoor
open Go.RowKit Dg
/-- The order of texts. -/
def cmpS (x y : ByteArray) : Int := if Op.bytesLess x.toList y.toList then -1 else if Op.bytesLess y.toList x.toList then 1 else 0
theorem less_irrefl : ∀ x : List UInt8, Op.bytesLess x x = false
  | [] => rfl
  | a :: x => by simp [Op.bytesLess, less_irrefl x]
theorem less_asymm : ∀ x y : List UInt8, Op.bytesLess x y = true → Op.bytesLess y x = false
  | [], [], h => by simp [Op.bytesLess] at h
  | [], _ :: _, _ => rfl
  | _ :: _, [], h => by simp [Op.bytesLess] at h
  | a :: x, b :: y, h => by
    simp only [Op.bytesLess, Bool.or_eq_true, decide_eq_true_eq, Bool.and_eq_true, beq_iff_eq] at h
    simp only [Op.bytesLess, Bool.or_eq_false_iff, decide_eq_false_iff_not, Bool.and_eq_false_iff, beq_eq_false_iff_ne]
    rcases h with h | ⟨h, h'⟩
    · exact ⟨by rw [UInt8.lt_iff_toNat_lt] at h ⊢; omega, .inl (by intro e; subst e; rw [UInt8.lt_iff_toNat_lt] at h; omega)⟩
    · subst h
      exact ⟨by rw [UInt8.lt_iff_toNat_lt]; omega, .inr (less_asymm x y h')⟩
theorem less_total : ∀ x y : List UInt8, Op.bytesLess x y = false → Op.bytesLess y x = false → x = y
  | [], [], _, _ => rfl
  | [], _ :: _, h, _ => by simp [Op.bytesLess] at h
  | _ :: _, [], _, h => by simp [Op.bytesLess] at h
  | a :: x, b :: y, h, h' => by
    simp only [Op.bytesLess, Bool.or_eq_false_iff, decide_eq_false_iff_not, Bool.and_eq_false_iff, beq_eq_false_iff_ne, UInt8.lt_iff_toNat_lt] at h h'
    have e : a = b := by
      apply UInt8.toNat_inj.1; omega
    subst e
    rw [less_total x y (h.2.resolve_left (by simp)) (h'.2.resolve_left (by simp))]
set_option maxHeartbeats 400000 in
theorem nan_any (x : ByteArray) (w : World) : Calls Tryd.prog 52 #[.string x] w fun e w' => e = .returned (.bool false) ∧ w = w' := by
  go_enter Tryd.func52, Tryd.ntmps52
  go_wp2_with fail
  go_ret
  exact ⟨rfl, rfl⟩
set_option maxHeartbeats 400000 in
theorem cmpS_any (x y : ByteArray) (w : World) : Calls Tryd.prog 33 #[.string x, .string y] w fun e w' => e = .returned (.int .i64 (cmpS x y)) ∧ w = w' := by
  have HN := Lib.hid nan_any
  cases h : Op.bytesLess x.toList y.toList
  · cases h2 : Op.bytesLess y.toList x.toList
    · have hq : (x.toList == y.toList) = true := by rw [less_total _ _ h h2]; simp
      go_enter Tryd.func33, Tryd.ntmps33
      go_wp2_with fail
      refine (HN.out _ _).mono ?_
      rintro e w1 ⟨rfl, rfl⟩
      go_wp2_with fail
      refine (HN.out _ _).mono ?_
      rintro e w1 ⟨rfl, rfl⟩
      go_wp2_with fail
      go_ret
      exact ⟨by simp [cmpS, h, h2], rfl⟩
    · have hq : (x.toList == y.toList) = false := by
        rw [beq_eq_false_iff_ne]
        intro e
        rw [e, less_irrefl] at h2
        cases h2
      go_enter Tryd.func33, Tryd.ntmps33
      go_wp2_with fail
      refine (HN.out _ _).mono ?_
      rintro e w1 ⟨rfl, rfl⟩
      go_wp2_with fail
      refine (HN.out _ _).mono ?_
      rintro e w1 ⟨rfl, rfl⟩
      go_wp2_with fail
      go_ret
      exact ⟨by simp [cmpS, h, h2], rfl⟩
  · go_enter Tryd.func33, Tryd.ntmps33
    go_wp2_with fail
    refine (HN.out _ _).mono ?_
    rintro e w1 ⟨rfl, rfl⟩
    go_wp2_with fail
    refine (HN.out _ _).mono ?_
    rintro e w1 ⟨rfl, rfl⟩
    go_wp2_with fail
    go_ret
    exact ⟨by simp [cmpS, h], rfl⟩
/-- The first that is not 0. -/
def or3 (a b c : Int) : Int := if a ≠ 0 then a else if b ≠ 0 then b else c
set_option maxHeartbeats 1000000 in
theorem or_any (a b c : Int) (g : Nat) (w : World) (c0 : w.cell? ⟨g, 0, none⟩ = some (.int .i64 a)) (c1 : w.cell? ⟨g, 1, none⟩ = some (.int .i64 b)) (c2 : w.cell? ⟨g, 2, none⟩ = some (.int .i64 c)) :
    Calls Tryd.prog 31 #[.slice (some ⟨g, 0, none⟩) 3 3] w fun e w' => e = .returned (.int .i64 (or3 a b c)) ∧ w = w' := by
  go_enter Tryd.func31, Tryd.ntmps31
  go_wp2_with fail
  go_loop [8] (fun i => (i = .int .i64 0) ∨ (i = .int .i64 1 ∧ a = 0) ∨ (i = .int .i64 2 ∧ a = 0 ∧ b = 0) ∨ (i = .int .i64 3 ∧ a = 0 ∧ b = 0 ∧ c = 0)) (fun i => 3 - (intOf i).toNat)
  case atStart => exact .inl rfl
  case round =>
    rcases hrel with rfl | ⟨rfl, rfl⟩ | ⟨rfl, rfl, rfl⟩ | ⟨rfl, rfl, rfl, rfl⟩
    · by_cases h : a = 0
      · have hq : (a == 0) = true := by simp [h]
        have hq2 : (a != 0) = false := by simp [h]
        go_wp2_with fail
        go_round
        case rel => exact .inr (.inl ⟨rfl, h⟩)
        case measure => simp [intOf]
      · have hq : (a == 0) = false := by simp [h]
        have hq2 : (a != 0) = true := by simp [h]
        go_wp2_with fail
        go_ret
        exact ⟨by simp [or3, h], rfl⟩
    · by_cases h : b = 0
      · have hq2 : (b != 0) = false := by simp [h]
        go_wp2_with fail
        go_round
        case rel => exact .inr (.inr (.inl ⟨rfl, by simp, h⟩))
        case measure => simp [intOf]
      · have hq2 : (b != 0) = true := by simp [h]
        go_wp2_with fail
        go_ret
        exact ⟨by simp [or3, h], rfl⟩
    · by_cases h : c = 0
      · have hq2 : (c != 0) = false := by simp [h]
        go_wp2_with fail
        go_round
        case rel => exact .inr (.inr (.inr ⟨rfl, by simp, by simp, h⟩))
        case measure => simp [intOf]
      · have hq2 : (c != 0) = true := by simp [h]
        go_wp2_with fail
        go_ret
        exact ⟨by simp [or3], rfl⟩
    · go_wp2_with fail
      go_ret
      exact ⟨by simp [or3], rfl⟩
/-- The order of values. -/
def cmpF (k n : Int) (s : ByteArray) (k' n' : Int) (s' : ByteArray) : Int := or3 (Lib.compareInt k k') (Lib.compareInt n n') (cmpS s s')
theorem cmpI_self (x : Int) : Lib.compareInt x x = 0 := by simp [Lib.compareInt]
theorem cmpS_self (x : ByteArray) : cmpS x x = 0 := by simp [cmpS, less_irrefl]
theorem toList_inj {s t : ByteArray} (h : s.toList = t.toList) : s = t := by
  rw [ByteArray.toList_eq, ByteArray.toList_eq] at h
  obtain ⟨⟨x⟩⟩ := s
  obtain ⟨⟨y⟩⟩ := t
  simpa using h
theorem hidB_drew {B : Nat} {w W : World} (h : Hid (Below B w W)) : Hid (Below B w W.drew) := h.out.drew
theorem hidB_alloc {B : Nat} {w W : World} (o : Obj) (h : Hid (Below B w W)) (hB : B ≤ w.heap.size) : Hid (Below B w (W.alloc o)) := h.out.alloc (Nat.le_trans hB h.out.size) o
set_option maxHeartbeats 2000000 in
theorem compare_any (k n k' n' : Int) (s s' : ByteArray) (w : World) :
    Calls Tryd.prog 12 #[.agg #[.int .i64 k, .int .i64 n, .string s], .agg #[.int .i64 k', .int .i64 n', .string s']] w fun e w' => e = .returned (.int .i64 (cmpF k n s k' n' s')) ∧ Hid (Below w.heap.size w w') := by
  have eq := eqV k n k' n' s s'
  have HI := Lib.hid (fun x y w => Tryd.cmp_Compare_int x y w)
  have HS := Lib.hid (cmpS_any s s')
  have HO := Lib.hid (or_any (Lib.compareInt k k') (Lib.compareInt n n') (cmpS s s'))
  by_cases he : k = k' ∧ n = n' ∧ s = s'
  · obtain ⟨rfl, rfl, rfl⟩ := he
    have HB := Lib.hid (((Below.refl w.heap.size w).alloc (Nat.le_refl _) (.cells #[.int .i64 k, .int .i64 n, .string s] 23)).alloc (by simp) (.cells #[.int .i64 k, .int .i64 n, .string s] 23))
    go_enter Tryd.func12, Tryd.ntmps12
    go_wp2_with fail
    go_ret
    exact ⟨by simp [cmpF, cmpI_self, cmpS_self, or3], HB⟩
  · have hq : (k == k' && n == n' && s.toList == s'.toList) = false := by
      rw [Bool.and_eq_false_iff, Bool.and_eq_false_iff, beq_eq_false_iff_ne, beq_eq_false_iff_ne, beq_eq_false_iff_ne]
      by_cases h1 : k = k'
      · by_cases h2 : n = n'
        · right; intro e; exact he ⟨h1, h2, toList_inj e⟩
        · left; right; exact h2
      · left; left; exact h1
    have HB := Lib.hid (((Below.refl w.heap.size w).alloc (Nat.le_refl _) (.cells #[.int .i64 k, .int .i64 n, .string s] 23)).alloc (by simp) (.cells #[.int .i64 k', .int .i64 n', .string s'] 23))
    have HC1 := Has.alloc (Has.new w 23 #[.int .i64 k, .int .i64 n, .string s]) (.cells #[.int .i64 k', .int .i64 n', .string s'] 23)
    have HC2 := Has.new (w.alloc (.cells #[.int .i64 k, .int .i64 n, .string s] 23)) 23 #[.int .i64 k', .int .i64 n', .string s']
    rw [show (w.alloc (.cells #[.int .i64 k, .int .i64 n, .string s] 23)).heap.size = w.heap.size + 1 by simp] at HC2
    have hc1 := Lib.hid HC1
    have hc2 := Lib.hid HC2
    clear HC1 HC2
    go_enter Tryd.func12, Tryd.ntmps12
    go_wp2_with fail
    generalize (w.alloc (.cells #[.int .i64 k, .int .i64 n, .string s] 23)).alloc (.cells #[.int .i64 k', .int .i64 n', .string s'] 23) = W at *
    have d0 : W.cell? ⟨w.heap.size, 0, none⟩ = some (.int .i64 k) := hc1.out.cell 0
    have d1 : W.cell? ⟨w.heap.size, 1, none⟩ = some (.int .i64 n) := hc1.out.cell 1
    have d2 : W.cell? ⟨w.heap.size, 2, none⟩ = some (.string s) := hc1.out.cell 2
    have e0 : W.cell? ⟨w.heap.size + 1, 0, none⟩ = some (.int .i64 k') := hc2.out.cell 0
    have e1 : W.cell? ⟨w.heap.size + 1, 1, none⟩ = some (.int .i64 n') := hc2.out.cell 1
    have e2 : W.cell? ⟨w.heap.size + 1, 2, none⟩ = some (.string s') := hc2.out.cell 2
    clear hc1 hc2
    go_region_held3 (fun W => Hid (Below w.heap.size w W) ∧ W.cell? ⟨w.heap.size, 0, none⟩ = some (.int .i64 k) ∧ W.cell? ⟨w.heap.size, 1, none⟩ = some (.int .i64 n) ∧ W.cell? ⟨w.heap.size, 2, none⟩ = some (.string s) ∧ W.cell? ⟨w.heap.size + 1, 0, none⟩ = some (.int .i64 k') ∧ W.cell? ⟨w.heap.size + 1, 1, none⟩ = some (.int .i64 n') ∧ W.cell? ⟨w.heap.size + 1, 2, none⟩ = some (.string s')) ((refine ⟨(by first | assumption | exact hidB_drew (by assumption) | exact hidB_alloc _ (by assumption) (Nat.le_refl _) | exact hidB_alloc _ (hidB_drew (by assumption)) (Nat.le_refl _)), ?_⟩; go_keep))
      (first | (go_at_call 32; refine (HI.out _ _ _).mono ?_; rintro e x1 ⟨rfl, rfl⟩) | (go_at_call 33; refine (HS.out _).mono ?_; rintro e x1 ⟨rfl, rfl⟩) | (go_at_call 31; refine (HO.out _ _ (by simp) (by simp) (by simp)).mono ?_; rintro e x1 ⟨rfl, rfl⟩))
    all_goals
      go_wp2_with fail
      go_ret
      exact ⟨rfl, by first | assumption | exact hidB_drew (by assumption) | exact hidB_alloc _ (by assumption) (Nat.le_refl _) | exact hidB_alloc _ (hidB_drew (by assumption)) (Nat.le_refl _)⟩
theorem cmpI_cases (x y : Int) : (x < y ∧ Lib.compareInt x y = -1) ∨ (x = y ∧ Lib.compareInt x y = 0) ∨ (y < x ∧ Lib.compareInt x y = 1) := by
  unfold Lib.compareInt
  repeat' split
  all_goals omega
theorem cmpS_cases (x y : ByteArray) : (Op.bytesLess x.toList y.toList = true ∧ Op.bytesLess y.toList x.toList = false ∧ cmpS x y = -1) ∨ (x = y ∧ Op.bytesLess x.toList y.toList = false ∧ Op.bytesLess y.toList x.toList = false ∧ cmpS x y = 0) ∨ (Op.bytesLess x.toList y.toList = false ∧ Op.bytesLess y.toList x.toList = true ∧ x ≠ y ∧ cmpS x y = 1) := by
  unfold cmpS
  cases h : Op.bytesLess x.toList y.toList
  · cases h2 : Op.bytesLess y.toList x.toList
    · right; left; exact ⟨toList_inj (less_total _ _ h h2), rfl, rfl, by simp⟩
    · right; right
      refine ⟨rfl, ?_⟩
      refine ⟨by simp, ?_⟩
      refine ⟨?_, by simp⟩
      intro e
      rw [e] at h h2
      rw [h] at h2
      cases h2
  · left; exact ⟨rfl, less_asymm _ _ h, by simp⟩
theorem cmpS_turn (x y : ByteArray) : cmpS y x = - cmpS x y := by
  rcases cmpS_cases x y with ⟨h1, h2, h3⟩ | ⟨h0, h1, h2, h3⟩ | ⟨h1, h2, h0, h3⟩ <;> rw [h3] <;> simp [cmpS, h1, h2]
theorem cmpI_turn (x y : Int) : Lib.compareInt y x = - Lib.compareInt x y := by
  rcases cmpI_cases x y with h | h | h <;> rcases cmpI_cases y x with h' | h' | h' <;> omega
theorem cmp_turn (k n : Int) (s : ByteArray) (k' n' : Int) (s' : ByteArray) : cmpF k' n' s' k n s = - cmpF k n s k' n' s' := by
  unfold cmpF or3
  rw [cmpI_turn k k', cmpI_turn n n', cmpS_turn s s']
  repeat' split
  all_goals omega
theorem cmp_self (k n : Int) (s : ByteArray) : cmpF k n s k n s = 0 := by simp [cmpF, or3, cmpI_self, cmpS_self]
theorem cmp_range (k n : Int) (s : ByteArray) (k' n' : Int) (s' : ByteArray) : cmpF k n s k' n' s' = -1 ∨ cmpF k n s k' n' s' = 0 ∨ cmpF k n s k' n' s' = 1 := by
  unfold cmpF
  rcases cmpI_cases k k' with ⟨_, e1⟩ | ⟨_, e1⟩ | ⟨_, e1⟩ <;> rcases cmpI_cases n n' with ⟨_, e2⟩ | ⟨_, e2⟩ | ⟨_, e2⟩ <;> rcases cmpS_cases s s' with ⟨_, _, e3⟩ | ⟨_, _, _, e3⟩ | ⟨_, _, _, e3⟩ <;> rw [e1, e2, e3] <;> decide
theorem cmp_zero {k n : Int} {s : ByteArray} {k' n' : Int} {s' : ByteArray} (h : cmpF k n s k' n' s' = 0) : k = k' ∧ n = n' ∧ s = s' := by
  unfold cmpF at h
  rcases cmpI_cases k k' with ⟨a1, e1⟩ | ⟨a1, e1⟩ | ⟨a1, e1⟩ <;> rcases cmpI_cases n n' with ⟨a2, e2⟩ | ⟨a2, e2⟩ | ⟨a2, e2⟩ <;> rcases cmpS_cases s s' with ⟨_, _, e3⟩ | ⟨a3, _, _, e3⟩ | ⟨_, _, _, e3⟩ <;> rw [e1, e2, e3] at h <;> first | exact absurd h (by decide) | exact ⟨a1, a2, a3⟩
theorem ref_cmp (k n k' n' : Int) (s s' : ByteArray) :
    cmpF k n s k' n' s' = if k < k' ∨ (k = k' ∧ (n < n' ∨ (n = n' ∧ Op.bytesLess s.toList s'.toList = true))) then -1 else if k = k' ∧ n = n' ∧ s = s' then 0 else 1 := by
  unfold cmpF
  rcases cmpI_cases k k' with ⟨a, e⟩ | ⟨a, e⟩ | ⟨a, e⟩
  · rw [if_pos (.inl a), e]; rfl
  · subst a
    rcases cmpI_cases n n' with ⟨a2, e2⟩ | ⟨a2, e2⟩ | ⟨a2, e2⟩
    · rw [if_pos (.inr ⟨rfl, .inl a2⟩), e, e2]; rfl
    · subst a2
      rcases cmpS_cases s s' with ⟨b, _, e3⟩ | ⟨b0, b, _, e3⟩ | ⟨b, _, b0, e3⟩
      · rw [if_pos (.inr ⟨rfl, .inr ⟨rfl, b⟩⟩), e, e2, e3]; rfl
      · rw [if_neg (by rw [b]; simp), if_pos ⟨rfl, rfl, b0⟩, e, e2, e3]; rfl
      · rw [if_neg (by rw [b]; simp), if_neg (fun h => b0 h.2.2), e, e2, e3]; rfl
    · rw [if_neg (by rintro (h | ⟨_, h | ⟨h, _⟩⟩) <;> omega), if_neg (fun h => by have := h.2.1; omega), e, e2]; rfl
  · rw [if_neg (by rintro (h | ⟨h, _⟩) <;> omega), if_neg (fun h => by have := h.1; omega), e]; rfl
set_option maxHeartbeats 2000000 in
theorem refCompare_any (k n k' n' : Int) (s s' : ByteArray) (w : World) :
    Calls Tryd.prog 13 #[.agg #[.int .i64 k, .int .i64 n, .string s], .agg #[.int .i64 k', .int .i64 n', .string s']] w fun e w' => e = .returned (.int .i64 (cmpF k n s k' n' s')) ∧ Hid (Below w.heap.size w w') := by
  have HR := Lib.hid (ref_cmp k n k' n' s s')
  have eq := eqV k n k' n' s s'
  have HB := fun k n s k' n' s' => Lib.hid (((Below.refl w.heap.size w).alloc (Nat.le_refl _) (.cells #[.int .i64 k, .int .i64 n, .string s] 23)).alloc (by simp) (.cells #[.int .i64 k', .int .i64 n', .string s'] 23))
  by_cases h1 : k < k'
  · go_enter Tryd.func13, Tryd.ntmps13
    go_wp2_with fail
    go_ret
    exact ⟨by rw [HR.out]; simp [h1], HB _ _ _ _ _ _⟩
  by_cases h2 : k = k'
  · subst h2
    by_cases h3 : n < n'
    · go_enter Tryd.func13, Tryd.ntmps13
      go_wp2_with fail
      go_ret
      exact ⟨by rw [HR.out]; simp [h3], HB _ _ _ _ _ _⟩
    by_cases h4 : n = n'
    · subst h4
      cases h5 : Op.bytesLess s.toList s'.toList
      · cases h6 : s.toList == s'.toList
        · go_enter Tryd.func13, Tryd.ntmps13
          go_wp2_with fail
          go_ret
          refine ⟨?_, HB _ _ _ _ _ _⟩
          rw [HR.out, if_neg (by rw [h5]; simp), if_neg (fun h => by rw [h.2.2] at h6; simp at h6)]
          rfl
        · go_enter Tryd.func13, Tryd.ntmps13
          go_wp2_with fail
          go_ret
          refine ⟨?_, HB _ _ _ _ _ _⟩
          rw [HR.out, if_neg (by rw [h5]; simp), if_pos (by simpa using toList_inj (beq_iff_eq.1 h6))]
          rfl
      · go_enter Tryd.func13, Tryd.ntmps13
        go_wp2_with fail
        go_ret
        exact ⟨by rw [HR.out]; simp [h5], HB _ _ _ _ _ _⟩
    · have hq : (n == n') = false := beq_eq_false_iff_ne.2 h4
      go_enter Tryd.func13, Tryd.ntmps13
      go_wp2_with fail
      go_ret
      exact ⟨by rw [HR.out]; simp [h3, h4], HB _ _ _ _ _ _⟩
  · have hq : (k == k') = false := beq_eq_false_iff_ne.2 h2
    go_enter Tryd.func13, Tryd.ntmps13
    go_wp2_with fail
    go_ret
    exact ⟨by rw [HR.out]; simp [h1, h2], HB _ _ _ _ _ _⟩
end Go.Proofs.YtlkhijccjjpbbaaDoor
