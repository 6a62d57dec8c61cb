/-
  The order of texts, and the program's comparison of two.
-/
import Derived.Test.YtjkmbggaoinkdaaDoorStr
import Derived.WalkLawsBesides
namespace Go.Proofs.YtjkmbggaoinkdaaDoor
open Go.RowKit Dg
set_option maxRecDepth 100000
theorem less_irrefl : ∀ x : List UInt8, Op.bytesLess x x = false
  | [] => rfl
  | a :: x => by simp [Op.bytesLess, less_irrefl x]
theorem less_asymm : ∀ x y : List UInt8, Op.bytesLess x y = true → Op.bytesLess y x = false
  | [], [], h => by simp [Op.bytesLess] at h
  | [], _ :: _, _ => rfl
  | _ :: _, [], h => by simp [Op.bytesLess] at h
  | a :: x, b :: y, h => by
    simp only [Op.bytesLess, Bool.or_eq_true, decide_eq_true_eq, Bool.and_eq_true, beq_iff_eq] at h
    simp only [Op.bytesLess, Bool.or_eq_false_iff, decide_eq_false_iff_not, Bool.and_eq_false_iff, beq_eq_false_iff_ne]
    rcases h with h | ⟨h, h'⟩
    · exact ⟨by rw [UInt8.lt_iff_toNat_lt] at h ⊢; omega, .inl (by intro e; subst e; rw [UInt8.lt_iff_toNat_lt] at h; omega)⟩
    · subst h
      exact ⟨by rw [UInt8.lt_iff_toNat_lt]; omega, .inr (less_asymm x y h')⟩
theorem less_total : ∀ x y : List UInt8, Op.bytesLess x y = false → Op.bytesLess y x = false → x = y
  | [], [], _, _ => rfl
  | [], _ :: _, h, _ => by simp [Op.bytesLess] at h
  | _ :: _, [], _, h => by simp [Op.bytesLess] at h
  | a :: x, b :: y, h, h' => by
    simp only [Op.bytesLess, Bool.or_eq_false_iff, decide_eq_false_iff_not, Bool.and_eq_false_iff, beq_eq_false_iff_ne, UInt8.lt_iff_toNat_lt] at h h'
    have e : a = b := by
      apply UInt8.toNat_inj.1; omega
    subst e
    rw [less_total x y (h.2.resolve_left (by simp)) (h'.2.resolve_left (by simp))]
/-- The order of texts. -/
def cmpS (x y : ByteArray) : Int := if Op.bytesLess x.toList y.toList then -1 else if Op.bytesLess y.toList x.toList then 1 else 0
set_option maxHeartbeats 400000 in
theorem nan_any (x : ByteArray) (w : World) : Calls Tryd.prog 129 #[.string x] w fun e w' => e = .returned (.bool false) ∧ w = w' := by
  go_enter Tryd.func129, Tryd.ntmps129
  go_wp2_with fail
  go_ret
  exact ⟨rfl, rfl⟩
set_option maxHeartbeats 400000 in
theorem cmpS_any (x y : ByteArray) (w : World) : Calls Tryd.prog 116 #[.string x, .string y] w fun e w' => e = .returned (.int .i64 (cmpS x y)) ∧ w = w' := by
  have HN := Lib.hid nan_any
  cases h : Op.bytesLess x.toList y.toList
  · cases h2 : Op.bytesLess y.toList x.toList
    · have hq : (x.toList == y.toList) = true := by rw [less_total _ _ h h2]; simp
      go_enter Tryd.func116, Tryd.ntmps116
      go_wp2_with fail
      refine (HN.out _ _).mono ?_
      rintro e w1 ⟨rfl, rfl⟩
      go_wp2_with fail
      refine (HN.out _ _).mono ?_
      rintro e w1 ⟨rfl, rfl⟩
      go_wp2_with fail
      go_ret
      exact ⟨by simp [cmpS, h, h2], rfl⟩
    · have hq : (x.toList == y.toList) = false := by
        rw [beq_eq_false_iff_ne]
        intro e
        rw [e, less_irrefl] at h2
        cases h2
      go_enter Tryd.func116, Tryd.ntmps116
      go_wp2_with fail
      refine (HN.out _ _).mono ?_
      rintro e w1 ⟨rfl, rfl⟩
      go_wp2_with fail
      refine (HN.out _ _).mono ?_
      rintro e w1 ⟨rfl, rfl⟩
      go_wp2_with fail
      go_ret
      exact ⟨by simp [cmpS, h, h2], rfl⟩
  · go_enter Tryd.func116, Tryd.ntmps116
    go_wp2_with fail
    refine (HN.out _ _).mono ?_
    rintro e w1 ⟨rfl, rfl⟩
    go_wp2_with fail
    refine (HN.out _ _).mono ?_
    rintro e w1 ⟨rfl, rfl⟩
    go_wp2_with fail
    go_ret
    exact ⟨by simp [cmpS, h], rfl⟩
theorem cmpS_neg (x y : ByteArray) : cmpS x y < 0 ↔ Op.bytesLess x.toList y.toList = true := by
  unfold cmpS
  cases Op.bytesLess x.toList y.toList
  · cases Op.bytesLess y.toList x.toList <;> simp
  · simp
theorem cmpS_zero (x y : ByteArray) : cmpS x y = 0 ↔ (x.toList == y.toList) = true := by
  unfold cmpS
  rw [beq_iff_eq]
  cases h : Op.bytesLess x.toList y.toList
  · cases h2 : Op.bytesLess y.toList x.toList
    · simp [less_total _ _ h h2]
    · simp; intro e; rw [e, less_irrefl] at h2; cases h2
  · simp; intro e; rw [e, less_irrefl] at h; cases h
theorem less_trans : ∀ x y z : List UInt8, Op.bytesLess x y = true → Op.bytesLess y z = true → Op.bytesLess x z = true
  | [], [], _, h, _ => by simp [Op.bytesLess] at h
  | [], _ :: _, [], _, h => by simp [Op.bytesLess] at h
  | [], _ :: _, _ :: _, _, _ => rfl
  | _ :: _, [], _, h, _ => by simp [Op.bytesLess] at h
  | _ :: _, _ :: _, [], _, h => by simp [Op.bytesLess] at h
  | a :: x, b :: y, c :: z, h, h' => by
    simp only [Op.bytesLess, Bool.or_eq_true, decide_eq_true_eq, Bool.and_eq_true, beq_iff_eq, UInt8.lt_iff_toNat_lt] at h h' ⊢
    rcases h with h | ⟨h, h1⟩
    · rcases h' with h' | ⟨h', h2⟩
      · exact .inl (by omega)
      · subst h'; exact .inl h
    · subst h
      rcases h' with h' | ⟨h', h2⟩
      · exact .inl h'
      · exact .inr ⟨h', less_trans x y z h1 h2⟩
end Go.Proofs.YtjkmbggaoinkdaaDoor
