/-
  UTF-8, plainly: what the library's test says at a lead byte, as the document's own test reckons it.
-/
import Derived.Lib.ValidLaws
namespace Go.Proofs.YtcdjeibcnkpadaaDoor.Uf
open Go.Lib
def bt (L : List UInt8) (k : Nat) : Nat := (L.getD k 0).toNat
theorem bt_lt (L : List UInt8) (k : Nat) : bt L k < 256 := (L.getD k 0).toNat_lt
theorem ne_of_lead (L : List UInt8) (h : 128 ≤ bt L 0) : L ≠ [] := by rintro rfl; simp [bt] at h
theorem valid_one (L : List UInt8) (h0 : L ≠ []) (h : bt L 0 < 128) : validD L = validD (L.drop 1) := by
  rcases L with _ | ⟨b, t⟩
  · exact absurd rfl h0
  · exact validD_cons b t h
theorem valid_bad (L : List UInt8) (h : 128 ≤ bt L 0) (h2 : bt L 0 < 192 ∨ 248 ≤ bt L 0) : validD L = false := by
  have hb := bt_lt L 0
  rw [validD_lead L (ne_of_lead L h) h]
  unfold bt at h h2 hb
  generalize (L.getD 0 0).toNat = c at *
  have e : firstT c % 8 ≠ 2 ∧ firstT c % 8 ≠ 3 ∧ firstT c % 8 ≠ 4 := by
    unfold firstT
    repeat' split
    all_goals omega
  have : checkN L.length (L.getD 1 0).toNat (L.getD 2 0).toNat (L.getD 3 0).toNat (firstT c % 8) (accLo (firstT c / 16)) (accHi (firstT c / 16)) = none := by
    unfold checkN
    rw [if_neg e.1, if_neg e.2.1, if_neg e.2.2]
  rw [this]
/-- A byte that goes on. -/
def Co (x : Nat) : Prop := 128 ≤ x ∧ x < 192
theorem valid_two (L : List UInt8) (h : 192 ≤ bt L 0) (h2 : bt L 0 < 224) :
    (2 ≤ L.length ∧ Co (bt L 1) ∧ 128 ≤ 64 * (bt L 0 - 192) + bt L 1 - 128 ∧ validD L = validD (L.drop 2)) ∨ (¬ (2 ≤ L.length ∧ Co (bt L 1) ∧ 128 ≤ 64 * (bt L 0 - 192) + bt L 1 - 128) ∧ validD L = false) := by
  have hl := validD_lead L (ne_of_lead L (by omega)) (show 128 ≤ bt L 0 by omega)
  have h1 := bt_lt L 1
  rw [hl]
  unfold Co
  unfold bt at *
  generalize (L.getD 0 0).toNat = c at *
  generalize (L.getD 1 0).toNat = x at *
  by_cases hc : c < 194
  · have e : firstT c % 8 ≠ 2 ∧ firstT c % 8 ≠ 3 ∧ firstT c % 8 ≠ 4 := by
      unfold firstT
      repeat' split
      all_goals omega
    right
    refine ⟨by omega, ?_⟩
    unfold checkN
    rw [if_neg e.1, if_neg e.2.1, if_neg e.2.2]
  · have e1 : firstT c = 2 := by
      unfold firstT
      repeat' split
      all_goals omega
    rw [e1]
    by_cases g : 2 ≤ L.length ∧ 128 ≤ x ∧ x < 192
    · left
      refine ⟨g.1, ⟨g.2.1, g.2.2⟩, by omega, ?_⟩
      simp [checkN, accLo, accHi]
      rw [if_neg (by omega)]
    · right
      refine ⟨by omega, ?_⟩
      simp [checkN, accLo, accHi]
      rw [if_pos (by omega)]
theorem valid_three (L : List UInt8) (h : 224 ≤ bt L 0) (h2 : bt L 0 < 240) (V : Nat) (hV : V = 64 * (64 * (bt L 0 - 224) + bt L 1 - 128) + bt L 2 - 128) :
    (3 ≤ L.length ∧ Co (bt L 1) ∧ Co (bt L 2) ∧ 2048 ≤ V ∧ ¬ (55296 ≤ V ∧ V ≤ 57343) ∧ validD L = validD (L.drop 3)) ∨ (¬ (3 ≤ L.length ∧ Co (bt L 1) ∧ Co (bt L 2) ∧ 2048 ≤ V ∧ ¬ (55296 ≤ V ∧ V ≤ 57343)) ∧ validD L = false) := by
  have hl := validD_lead L (ne_of_lead L (by omega)) (show 128 ≤ bt L 0 by omega)
  rw [hl]
  unfold Co
  unfold bt at *
  generalize (L.getD 0 0).toNat = c at *
  generalize (L.getD 1 0).toNat = x at *
  generalize (L.getD 2 0).toNat = y at *
  have hc : c = 224 ∨ c = 237 ∨ (c ≠ 224 ∧ c ≠ 237) := by omega
  rcases hc with hc | hc | hc
  · have e1 : firstT c = 19 := by
      unfold firstT
      repeat' split
      all_goals omega
    rw [e1]
    by_cases g : 3 ≤ L.length ∧ 160 ≤ x ∧ x ≤ 191 ∧ 128 ≤ y ∧ y < 192
    · left
      refine ⟨g.1, ⟨by omega, by omega⟩, ⟨by omega, by omega⟩, by omega, by omega, ?_⟩
      simp [checkN, accLo, accHi]
      rw [if_neg (by omega)]
    · right
      refine ⟨by omega, ?_⟩
      simp [checkN, accLo, accHi]
      rw [if_pos (by omega)]
  · have e1 : firstT c = 35 := by
      unfold firstT
      repeat' split
      all_goals omega
    rw [e1]
    by_cases g : 3 ≤ L.length ∧ 128 ≤ x ∧ x ≤ 159 ∧ 128 ≤ y ∧ y < 192
    · left
      refine ⟨g.1, ⟨by omega, by omega⟩, ⟨by omega, by omega⟩, by omega, by omega, ?_⟩
      simp [checkN, accLo, accHi]
      rw [if_neg (by omega)]
    · right
      refine ⟨by omega, ?_⟩
      simp [checkN, accLo, accHi]
      rw [if_pos (by omega)]
  · have e1 : firstT c = 3 := by
      unfold firstT
      repeat' split
      all_goals omega
    rw [e1]
    by_cases g : 3 ≤ L.length ∧ 128 ≤ x ∧ x ≤ 191 ∧ 128 ≤ y ∧ y < 192
    · left
      refine ⟨g.1, ⟨by omega, by omega⟩, ⟨by omega, by omega⟩, by omega, by omega, ?_⟩
      simp [checkN, accLo, accHi]
      rw [if_neg (by omega)]
    · right
      refine ⟨by omega, ?_⟩
      simp [checkN, accLo, accHi]
      rw [if_pos (by omega)]
set_option maxHeartbeats 1000000 in
theorem valid_four (L : List UInt8) (h : 240 ≤ bt L 0) (h2 : bt L 0 < 248) (V : Nat) (hV : V = 64 * (64 * (64 * (bt L 0 - 240) + bt L 1 - 128) + bt L 2 - 128) + bt L 3 - 128) :
    (4 ≤ L.length ∧ Co (bt L 1) ∧ Co (bt L 2) ∧ Co (bt L 3) ∧ 65536 ≤ V ∧ V ≤ 1114111 ∧ validD L = validD (L.drop 4)) ∨ (¬ (4 ≤ L.length ∧ Co (bt L 1) ∧ Co (bt L 2) ∧ Co (bt L 3) ∧ 65536 ≤ V ∧ V ≤ 1114111) ∧ validD L = false) := by
  have hl := validD_lead L (ne_of_lead L (by omega)) (show 128 ≤ bt L 0 by omega)
  rw [hl]
  unfold Co
  unfold bt at *
  generalize (L.getD 0 0).toNat = c at *
  generalize (L.getD 1 0).toNat = x at *
  generalize (L.getD 2 0).toNat = y at *
  generalize (L.getD 3 0).toNat = z at *
  have hc : c = 240 ∨ c = 244 ∨ (240 < c ∧ c < 244) ∨ 244 < c := by omega
  rcases hc with hc | hc | hc | hc
  · have e1 : firstT c = 52 := by
      unfold firstT
      repeat' split
      all_goals omega
    rw [e1]
    by_cases g : 4 ≤ L.length ∧ 144 ≤ x ∧ x ≤ 191 ∧ 128 ≤ y ∧ y < 192 ∧ 128 ≤ z ∧ z < 192
    · left
      refine ⟨g.1, ⟨by omega, by omega⟩, ⟨by omega, by omega⟩, ⟨by omega, by omega⟩, by omega, by omega, ?_⟩
      simp [checkN, accLo, accHi]
      rw [if_neg (by omega)]
    · right
      refine ⟨by omega, ?_⟩
      simp [checkN, accLo, accHi]
      rw [if_pos (by omega)]
  · have e1 : firstT c = 68 := by
      unfold firstT
      repeat' split
      all_goals omega
    rw [e1]
    by_cases g : 4 ≤ L.length ∧ 128 ≤ x ∧ x ≤ 143 ∧ 128 ≤ y ∧ y < 192 ∧ 128 ≤ z ∧ z < 192
    · left
      refine ⟨g.1, ⟨by omega, by omega⟩, ⟨by omega, by omega⟩, ⟨by omega, by omega⟩, by omega, by omega, ?_⟩
      simp [checkN, accLo, accHi]
      rw [if_neg (by omega)]
    · right
      refine ⟨by omega, ?_⟩
      simp [checkN, accLo, accHi]
      rw [if_pos (by omega)]
  · have e1 : firstT c = 4 := by
      unfold firstT
      repeat' split
      all_goals omega
    rw [e1]
    by_cases g : 4 ≤ L.length ∧ 128 ≤ x ∧ x ≤ 191 ∧ 128 ≤ y ∧ y < 192 ∧ 128 ≤ z ∧ z < 192
    · left
      refine ⟨g.1, ⟨by omega, by omega⟩, ⟨by omega, by omega⟩, ⟨by omega, by omega⟩, by omega, by omega, ?_⟩
      simp [checkN, accLo, accHi]
      rw [if_neg (by omega)]
    · right
      refine ⟨by omega, ?_⟩
      simp [checkN, accLo, accHi]
      rw [if_pos (by omega)]
  · have e : firstT c % 8 ≠ 2 ∧ firstT c % 8 ≠ 3 ∧ firstT c % 8 ≠ 4 := by
      unfold firstT
      repeat' split
      all_goals omega
    right
    refine ⟨by omega, ?_⟩
    unfold checkN
    rw [if_neg e.1, if_neg e.2.1, if_neg e.2.2]
/-- What the document's test has reckoned of the first j bytes. -/
def vw (c0 : Nat) (L : List UInt8) : Nat → Nat
  | 0 => 0
  | j + 1 => if j = 0 then bt L 0 - c0 else 64 * vw c0 L j + bt L j - 128
theorem vw_next (c0 : Nat) (L : List UInt8) (j : Nat) (h : 1 ≤ j) : vw c0 L (j + 1) = 64 * vw c0 L j + bt L j - 128 := by
  show (if j = 0 then _ else _) = _
  rw [if_neg (by omega)]
theorem vw_two (c0 : Nat) (L : List UInt8) : vw c0 L 2 = 64 * (bt L 0 - c0) + bt L 1 - 128 := rfl
theorem vw_three (c0 : Nat) (L : List UInt8) : vw c0 L 3 = 64 * (64 * (bt L 0 - c0) + bt L 1 - 128) + bt L 2 - 128 := rfl
theorem vw_four (c0 : Nat) (L : List UInt8) : vw c0 L 4 = 64 * (64 * (64 * (bt L 0 - c0) + bt L 1 - 128) + bt L 2 - 128) + bt L 3 - 128 := rfl
end Go.Proofs.YtcdjeibcnkpadaaDoor.Uf
