/-
  Keys stand in their values' order, plainly.
-/
import Derived.Test.YtlkhijccjjpbbaaDoorVals
import Derived.Test.YtlkhijccjjpbbaaDoorCmq
namespace Go.Proofs.YtlkhijccjjpbbaaDoor
open Go.RowKit Dg
/-- The order of bytes. -/
def ltN : List Nat → List Nat → Bool
  | _, [] => false
  | [], _ :: _ => true
  | x :: l, y :: m => decide (x < y) || (x == y && ltN l m)
theorem lt_same : ∀ (k l m : List Nat), ltN (k ++ l) (k ++ m) = ltN l m
  | [], _, _ => rfl
  | x :: k, l, m => by simp [ltN, lt_same k l m]
theorem less_bytes : ∀ (l m : List Nat), (∀ x ∈ l, x < 256) → (∀ x ∈ m, x < 256) → Op.bytesLess (l.map UInt8.ofNat) (m.map UInt8.ofNat) = ltN l m
  | [], [], _, _ => rfl
  | _ :: _, [], _, _ => rfl
  | [], _ :: _, _, _ => rfl
  | x :: l, y :: m, hl, hm => by
    have hx := hl x (by simp)
    have hy := hm y (by simp)
    have ih := less_bytes l m (fun z hz => hl z (by simp [hz])) (fun z hz => hm z (by simp [hz]))
    simp only [List.map_cons, Op.bytesLess, ltN, ih]
    have h1 : (UInt8.ofNat x < UInt8.ofNat y) ↔ x < y := by
      rw [UInt8.lt_iff_toNat_lt]
      simp
      omega
    have h2 : (UInt8.ofNat x == UInt8.ofNat y) = (x == y) := by
      rw [Bool.eq_iff_iff]
      simp
      constructor
      · intro h
        have := congrArg UInt8.toNat h
        simp at this
        omega
      · intro h; rw [h]
    rw [h2, decide_eq_decide.2 h1]
theorem less_bs (l m : List Nat) (hl : ∀ x ∈ l, x < 256) (hm : ∀ x ∈ m, x < 256) : Op.bytesLess (bs l).toList (bs m).toList = ltN l m := by
  rw [bs_toList, bs_toList, less_bytes l m hl hm]
theorem lt_cons {x y : Nat} (l m : List Nat) (h : x < y) : ltN (x :: l) (y :: m) = true := by simp [ltN, h]
theorem esc_lt : ∀ (l m r r' : List Nat), ltN l m = true → ltN (esc l ++ ([0, 1] ++ r)) (esc m ++ ([0, 1] ++ r')) = true
  | _, [], _, _, h => by simp [ltN] at h
  | [], y :: m, r, r', _ => by
    simp only [esc]
    split
    · simp [ltN]
    · rename_i h
      simp [ltN]
      omega
  | x :: l, y :: m, r, r', h => by
    simp only [ltN, Bool.or_eq_true, decide_eq_true_eq, Bool.and_eq_true, beq_iff_eq] at h
    rcases h with h | ⟨rfl, h⟩
    · have hy : y ≠ 0 := by omega
      simp only [esc, hy, if_false]
      split
      · rename_i hx
        exact lt_cons _ _ (by omega)
      · exact lt_cons _ _ h
    · have ih := esc_lt l m r r' h
      simp only [esc]
      split
      · simpa [ltN] using ih
      · simpa [ltN] using ih
theorem hb_lt : ∀ (k m m' : Nat) (r r' : List Nat), m < m' → m' < 256 ^ k → ltN (hb m k ++ r) (hb m' k ++ r') = true
  | 0, m, m', _, _, h, h' => by simp at h'; omega
  | k + 1, m, m', r, r', h, h' => by
    rw [hb, hb, List.append_assoc, List.append_assoc]
    by_cases hq : m / 256 < m' / 256
    · exact hb_lt k _ _ _ _ hq (by rw [Nat.pow_succ] at h'; omega)
    · have e : m / 256 = m' / 256 := by omega
      rw [e, lt_same]
      exact lt_cons _ _ (by omega)
theorem hi8_lt (n n' : Int) (r r' : List Nat) (h0 : 0 ≤ n) (h : n < n') (h1 : n' < 18446744073709551616) : ltN (hi n 8 8 ++ r) (hi n' 8 8 ++ r') = true := by
  obtain ⟨m, rfl⟩ := Int.eq_ofNat_of_zero_le h0
  obtain ⟨m', rfl⟩ := Int.eq_ofNat_of_zero_le (by omega : 0 ≤ n')
  rw [hi_hb, hi_hb]
  exact hb_lt 8 m m' r r' (by omega) (by rw [show (256 : Nat) ^ 8 = 18446744073709551616 by decide]; omega)
theorem sb_list (s : ByteArray) : (sb s).map UInt8.ofNat = s.toList := by
  rw [← bs_toList, bs_sb]
theorem short_zero {n : Int} {s : ByteArray} (h : short n s = true) : n = 0 := by
  unfold short at h; simp at h; exact h.1
def Vl.cmp (x y : Vl) : Int := cmpF x.k x.n x.s y.k y.n y.s
/-- The lesser value has the lesser key, whatever stands behind. -/
theorem key_lt (x y : Vl) (hx : x.may = true) (hy : y.may = true) (fx : x.fit) (fy : y.fit) (h : x.cmp y = -1) (r r' : List Nat) : ltN (x.key ++ r) (y.key ++ r') = true := by
  obtain ⟨k, n, s⟩ := x
  obtain ⟨k', n', s'⟩ := y
  have hk := may_kind' hx
  have hk' := may_kind' hy
  obtain ⟨f0, f1, _⟩ := fx
  obtain ⟨g0, g1, _⟩ := fy
  simp only at hk hk' f0 f1 g0 g1
  unfold Vl.cmp at h
  simp only at h
  rw [ref_cmp] at h
  split at h
  · rename_i hc
    rcases hc with hc | ⟨rfl, hc⟩
    · have first : ∀ (k n : Int) (s : ByteArray), (k = 0 ∨ k = 1 ∨ k = 2 ∨ k = 3 ∨ k = 4) → ∃ t, keyV k n s = k.toNat :: t := by
        intro k n s h
        rcases h with rfl | rfl | rfl | rfl | rfl
        · exact ⟨[], rfl⟩
        · exact ⟨_, rfl⟩
        · exact ⟨_, rfl⟩
        · exact ⟨_, rfl⟩
        · exact ⟨_, rfl⟩
      obtain ⟨t, ht⟩ := first k n s hk
      obtain ⟨t', ht'⟩ := first k' n' s' hk'
      unfold Vl.key
      simp only
      rw [ht, ht']
      exact lt_cons _ _ (by omega)
    · have hx' : mayF k n s = true := hx
      have hy' : mayF k n' s' = true := hy
      unfold Vl.key
      simp only
      rcases hk with rfl | rfl | rfl | rfl | rfl
      · simp [mayF] at hx' hy'
        obtain ⟨rfl, hs⟩ := hx'
        obtain ⟨rfl, hs'⟩ := hy'
        rcases hc with hc | ⟨_, hc⟩
        · omega
        · rw [hs, hs'] at hc
          simp [Op.bytesLess] at hc
      · simp [mayF] at hx' hy'
        obtain ⟨hs, hn⟩ := hx'
        obtain ⟨hs', hn'⟩ := hy'
        rcases hc with hc | ⟨_, hc⟩
        · obtain rfl : n = 0 := by omega
          obtain rfl : n' = 1 := by omega
          rfl
        · rw [hs, hs'] at hc
          simp [Op.bytesLess] at hc
      · simp [mayF] at hx' hy'
        rcases hc with hc | ⟨_, hc⟩
        · show ltN (2 :: (hi (n + 9223372036854775808) 8 8 ++ r)) (2 :: (hi (n' + 9223372036854775808) 8 8 ++ r')) = true
          have := hi8_lt (n + 9223372036854775808) (n' + 9223372036854775808) r r' (by omega) (by omega) (by omega)
          simp [ltN, this]
        · rw [hx', hy'] at hc
          simp [Op.bytesLess] at hc
      · have hn : n = 0 := by
          simp [mayF] at hx'
          exact short_zero hx'.1
        have hn' : n' = 0 := by
          simp [mayF] at hy'
          exact short_zero hy'.1
        subst hn; subst hn'
        rcases hc with hc | ⟨_, hc⟩
        · omega
        · rw [← sb_list, ← sb_list, less_bytes _ _ (sb_byte s) (sb_byte s')] at hc
          have := esc_lt _ _ r r' hc
          show ltN (3 :: (esc (sb s) ++ [0, 1] ++ r)) (3 :: (esc (sb s') ++ [0, 1] ++ r')) = true
          rw [List.append_assoc, List.append_assoc]
          simpa [ltN] using this
      · have hn : n = 0 := by
          simp [mayF] at hx'
          exact short_zero hx'
        have hn' : n' = 0 := by
          simp [mayF] at hy'
          exact short_zero hy'
        subst hn; subst hn'
        rcases hc with hc | ⟨_, hc⟩
        · omega
        · rw [← sb_list, ← sb_list, less_bytes _ _ (sb_byte s) (sb_byte s')] at hc
          have := esc_lt _ _ r r' hc
          show ltN (4 :: (esc (sb s) ++ [0, 1] ++ r)) (4 :: (esc (sb s') ++ [0, 1] ++ r')) = true
          rw [List.append_assoc, List.append_assoc]
          simpa [ltN] using this
  · split at h <;> cases h
/-- The order of rows of values: the first two that are unlike. -/
def cmpL : List Vl → List Vl → Int
  | x :: a, y :: b => if x.cmp y ≠ 0 then x.cmp y else cmpL a b
  | _, _ => 0
theorem cmpL_range : ∀ a b : List Vl, cmpL a b = -1 ∨ cmpL a b = 0 ∨ cmpL a b = 1
  | [], _ => by simp [cmpL]
  | _ :: _, [] => by simp [cmpL]
  | x :: a, y :: b => by
    simp only [cmpL]
    split
    · exact cmp_range _ _ _ _ _ _
    · exact cmpL_range a b
theorem cmpL_turn : ∀ a b : List Vl, cmpL b a = - cmpL a b
  | [], [] => rfl
  | [], _ :: _ => rfl
  | _ :: _, [] => rfl
  | x :: a, y :: b => by
    have h : y.cmp x = - x.cmp y := cmp_turn x.k x.n x.s y.k y.n y.s
    have ih := cmpL_turn a b
    by_cases hz : x.cmp y = 0
    · have hz2 : y.cmp x = 0 := by omega
      simp [cmpL, hz, hz2, ih]
    · have hz2 : y.cmp x ≠ 0 := by omega
      simp [cmpL, hz, h]
theorem cmpL_zero : ∀ a b : List Vl, a.length = b.length → cmpL a b = 0 → a = b
  | [], [], _, _ => rfl
  | [], _ :: _, h, _ => by simp at h
  | _ :: _, [], h, _ => by simp at h
  | x :: a, y :: b, hl, h => by
    simp only [cmpL] at h
    split at h
    · rename_i h'; exact absurd h h'
    · rename_i h'
      have e := cmp_zero (Classical.not_not.1 h')
      have := cmpL_zero a b (by simpa using hl) h
      rw [this, vl_ext e.1 e.2.1 e.2.2]
theorem keys_lt : ∀ a b : List Vl, Good1 a → Good1 b → cmpL a b = -1 → ltN (keys a) (keys b) = true
  | [], _, _, _, h => by simp [cmpL] at h
  | _ :: _, [], _, _, h => by simp [cmpL] at h
  | x :: a, y :: b, ha, hb, h => by
    obtain ⟨hx, fx⟩ := ha x (by simp)
    obtain ⟨hy, fy⟩ := hb y (by simp)
    rw [keys_cons, keys_cons]
    simp only [cmpL] at h
    split at h
    · exact key_lt x y hx hy fx fy h _ _
    · rename_i h'
      have e := cmp_zero (Classical.not_not.1 h')
      obtain rfl := vl_ext e.1 e.2.1 e.2.2
      rw [lt_same]
      exact keys_lt a b (fun z hz => ha z (by simp [hz])) (fun z hz => hb z (by simp [hz])) h
theorem cmpL_succ : ∀ (a b : List Vl) (i : Nat) (h : i < a.length) (h' : i < b.length), cmpL (a.take (i + 1)) (b.take (i + 1)) = if cmpL (a.take i) (b.take i) ≠ 0 then cmpL (a.take i) (b.take i) else a[i].cmp b[i]
  | x :: a, y :: b, 0, _, _ => by
    simp [cmpL]
    intro h; exact h.symm
  | x :: a, y :: b, i + 1, h, h' => by
    have ih := cmpL_succ a b i (by simpa using h) (by simpa using h')
    simp only [List.take_succ_cons, cmpL, List.getElem_cons_succ]
    rw [ih]
    split
    · rename_i hc; simp
    · rfl
theorem cmpL_stop : ∀ (a b : List Vl) (i : Nat), cmpL (a.take i) (b.take i) ≠ 0 → cmpL a b = cmpL (a.take i) (b.take i)
  | _, _, 0, h => by simp [cmpL] at h
  | [], _, i + 1, h => by simp [cmpL] at h
  | _ :: _, [], i + 1, h => by simp [cmpL] at h
  | x :: a, y :: b, i + 1, h => by
    simp only [List.take_succ_cons, cmpL] at h ⊢
    split
    · rfl
    · rename_i hc
      rw [if_neg hc] at h
      exact cmpL_stop a b i h
end Go.Proofs.YtlkhijccjjpbbaaDoor
