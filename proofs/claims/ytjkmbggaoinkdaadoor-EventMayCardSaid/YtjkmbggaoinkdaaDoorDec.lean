/-
  Keys taken apart, plainly: what a key's bytes tell, and that no other values have them.
-/
import Derived.Test.YtjkmbggaoinkdaaDoorOwnV
namespace Go.Proofs.YtjkmbggaoinkdaaDoor
open Go.RowKit Dg
/-- A text and its end, gone through byte by byte. -/
def decS : Bool → List Nat → Nat → List Nat → Option (List Nat × Nat)
  | _, _, _, [] => none
  | false, acc, i, x :: t => if x = 0 then decS true acc (i + 1) t else decS false (acc ++ [x]) (i + 1) t
  | true, acc, i, x :: t => if x = 255 then decS false (acc ++ [0]) (i + 1) t else if x = 1 then some (acc, i + 1) else none
theorem dec_esc : ∀ (l acc : List Nat) (i : Nat) (r : List Nat), decS false acc i (esc l ++ ([0, 1] ++ r)) = some (acc ++ l, i + (esc l).length + 2)
  | [], acc, i, r => by simp [esc, decS]
  | x :: t, acc, i, r => by
    simp only [esc]
    split
    · rename_i h
      subst h
      have ih := dec_esc t (acc ++ [0]) (i + 2) r
      simp only [List.cons_append, decS, if_true]
      refine Eq.trans ih ?_
      simp
      omega
    · rename_i h
      have ih := dec_esc t (acc ++ [x]) (i + 1) r
      simp only [List.cons_append, decS, h, if_false]
      refine Eq.trans ih ?_
      simp
      omega
theorem dec_some : ∀ (m acc : List Nat) (i : Nat) (l : List Nat) (n : Nat),
    (decS false acc i m = some (l, n) → ∃ t r, l = acc ++ t ∧ m = esc t ++ ([0, 1] ++ r) ∧ n = i + (esc t).length + 2) ∧
    (decS true acc i m = some (l, n) → (∃ t r, l = acc ++ [0] ++ t ∧ m = 255 :: (esc t ++ ([0, 1] ++ r)) ∧ n = i + 1 + (esc t).length + 2) ∨ ∃ r, l = acc ∧ m = 1 :: r ∧ n = i + 1)
  | [], acc, i, l, n => ⟨fun h => by simp [decS] at h, fun h => by simp [decS] at h⟩
  | x :: m, acc, i, l, n => by
    constructor
    · intro h
      simp only [decS] at h
      split at h
      · rename_i hx
        subst hx
        rcases (dec_some m acc (i + 1) l n).2 h with ⟨t, r, h1, h2, h3⟩ | ⟨r, h1, h2, h3⟩
        · refine ⟨0 :: t, r, by rw [h1]; simp, by rw [h2]; simp [esc], by rw [h3]; simp [esc]; omega⟩
        · exact ⟨[], r, by rw [h1]; simp, by rw [h2]; simp [esc], by rw [h3]; simp [esc]⟩
      · rename_i hx
        obtain ⟨t, r, h1, h2, h3⟩ := (dec_some m (acc ++ [x]) (i + 1) l n).1 h
        exact ⟨x :: t, r, by rw [h1]; simp, by rw [h2]; simp [esc, hx], by rw [h3]; simp [esc, hx]; omega⟩
    · intro h
      simp only [decS] at h
      split at h
      · rename_i hx
        subst hx
        obtain ⟨t, r, h1, h2, h3⟩ := (dec_some m (acc ++ [0]) (i + 1) l n).1 h
        exact .inl ⟨t, r, h1, by rw [h2], h3⟩
      · split at h
        · rename_i hx
          subst hx
          simp only [Option.some.injEq, Prod.mk.injEq] at h
          exact .inr ⟨m, h.1.symm, rfl, h.2.symm⟩
        · cases h
theorem esc_mem : ∀ (t : List Nat) (x : Nat), x ∈ t → x ∈ esc t
  | y :: t, x, h => by
    simp only [esc]
    rcases List.mem_cons.1 h with rfl | h
    · split <;> simp_all
    · have := esc_mem t x h
      split <;> simp [this]
theorem esc_ge : ∀ t : List Nat, t.length ≤ (esc t).length
  | [] => by simp [esc]
  | x :: t => by
    have := esc_ge t
    simp only [esc]
    split <;> simp <;> omega
/-- The number whose bytes these are, the highest one first. -/
def beN (l : List Nat) : Nat := l.foldl (fun a b => a * 256 + b) 0
theorem be_snoc (l : List Nat) (x : Nat) : beN (l ++ [x]) = beN l * 256 + x := by
  unfold beN; rw [List.foldl_append]; rfl
/-- The last k digits of a number. -/
def hb : Nat → Nat → List Nat
  | _, 0 => []
  | m, k + 1 => hb (m / 256) k ++ [m % 256]
theorem hb_range (m k : Nat) : hb m k = (List.range k).map fun i => m / 256 ^ (k - 1 - i) % 256 := by
  induction k generalizing m with
  | zero => rfl
  | succ k ih =>
    rw [hb, ih, List.range_succ, List.map_append]
    congr 1
    · apply List.map_congr_left
      intro i hi
      have hi := List.mem_range.1 hi
      rw [Nat.div_div_eq_div_mul, ← Nat.pow_succ']
      rw [show (k - 1 - i).succ = k + 1 - 1 - i by omega]
    · simp
theorem hi_hb (m k : Nat) : hi (m : Int) k k = hb m k := by
  rw [hb_range]
  unfold hi
  apply List.map_congr_left
  intro i _
  rw [show ((m : Int) / 2 ^ (8 * (k - 1 - i)) % 256) = ((m / 2 ^ (8 * (k - 1 - i)) % 256 : Nat) : Int) by rw [Int.natCast_emod, Int.natCast_ediv, Int.natCast_pow]; rfl]
  rw [Int.toNat_natCast, Nat.pow_mul]
theorem be_hb (m k : Nat) : beN (hb m k) = m % 256 ^ k := by
  induction k generalizing m with
  | zero => simp [hb, beN, Nat.mod_one]
  | succ k ih =>
    rw [hb, be_snoc, ih, Nat.pow_succ', Nat.mod_mul]
    omega
theorem be_lt (l : List Nat) (h : ∀ x ∈ l, x < 256) : beN l < 256 ^ l.length := by
  rcases List.eq_nil_or_concat l with rfl | ⟨l', x, rfl⟩
  · simp [beN]
  · rw [List.concat_eq_append] at *
    have hx := h x (by simp)
    have ih := be_lt l' (fun y hy => h y (by simp [hy]))
    rw [be_snoc, List.length_append, List.length_singleton, Nat.pow_succ]
    omega
termination_by l.length
theorem hb_be (l : List Nat) (h : ∀ x ∈ l, x < 256) : hb (beN l) l.length = l := by
  rcases List.eq_nil_or_concat l with rfl | ⟨l', x, rfl⟩
  · rfl
  · rw [List.concat_eq_append] at *
    have hx := h x (by simp)
    have ih := hb_be l' (fun y hy => h y (by simp [hy]))
    rw [be_snoc, List.length_append, List.length_singleton, hb]
    rw [show (beN l' * 256 + x) / 256 = beN l' by omega, show (beN l' * 256 + x) % 256 = x by omega, ih]
termination_by l.length
theorem be_hi8 (m : Nat) (h1 : m < 18446744073709551616) : beN (hi (m : Int) 8 8) = m := by
  rw [hi_hb, be_hb, show (256 : Nat) ^ 8 = 18446744073709551616 by decide, Nat.mod_eq_of_lt h1]
theorem hi8_be (l : List Nat) (h : l.length = 8) (hb' : ∀ x ∈ l, x < 256) : hi (beN l : Int) 8 8 = l ∧ beN l < 18446744073709551616 := by
  have h1 := hb_be l hb'
  have h2 := be_lt l hb'
  rw [h] at h1 h2
  rw [show (256 : Nat) ^ 8 = 18446744073709551616 by decide] at h2
  exact ⟨by rw [hi_hb, h1], h2⟩
/-- What a key begins with: the value, and how many bytes; none, if it is none's. -/
def headR (k : Nat) (rest : List Nat) : Option (Vl × Nat) :=
  if k = 1 then (if rest.length < 1 then none else some (⟨1, beN (rest.take 1), ⟨#[]⟩⟩, 1))
  else if k = 2 then (if rest.length < 8 then none else some (⟨2, (beN (rest.take 8) : Int) - 9223372036854775808, ⟨#[]⟩⟩, 8))
  else if k = 3 ∨ k = 4 then (decS false [] 0 rest).map fun x => (⟨k, 0, bs x.1⟩, x.2)
  else some (⟨k, 0, ⟨#[]⟩⟩, 0)
def headF (l : List Nat) : Option (Vl × Nat) :=
  match l with
  | [] => none
  | k :: rest => match headR k rest with
    | none => none
    | some (v, n) => if v.may then some (v, n + 1) else none
theorem vl_ext {x y : Vl} (h1 : x.k = y.k) (h2 : x.n = y.n) (h3 : x.s = y.s) : x = y := by
  cases x; cases y; simp_all
theorem emptyB_eq {s : ByteArray} (h : s.toList.isEmpty = true) : s = ⟨#[]⟩ := by
  rw [ByteArray.toList_eq] at h
  obtain ⟨⟨l⟩⟩ := s
  simp at h
  subst h; rfl
/-- A value's key tells it, whatever stands behind it. -/
theorem head_key (v : Vl) (r : List Nat) (hm : v.may = true) (hf : v.fit) : headF (v.key ++ r) = some (v, v.key.length) := by
  obtain ⟨k, n, s⟩ := v
  obtain ⟨f0, f1, f2⟩ := hf
  simp only at f0 f1 f2
  have hm' : mayF k n s = true := hm
  unfold Vl.key
  simp only
  unfold mayF at hm'
  repeat' split at hm'
  · rename_i h; subst h
    simp only [Bool.and_eq_true, beq_iff_eq] at hm'
    obtain ⟨rfl, he⟩ := hm'
    obtain rfl := emptyB_eq he
    have : keyV 0 0 ⟨#[]⟩ = [0] := rfl
    rw [this]
    have hh : headR 0 r = some (⟨0, 0, ⟨#[]⟩⟩, 0) := by simp [headR]
    simp only [List.singleton_append, headF, hh]
    rw [if_pos hm]; rfl
  · rename_i h; subst h
    simp only [Bool.and_eq_true, Bool.or_eq_true, beq_iff_eq] at hm'
    obtain ⟨he, hn⟩ := hm'
    obtain rfl := emptyB_eq he
    have hk : keyV 1 n ⟨#[]⟩ = [1, n.toNat] := by
      rcases hn with rfl | rfl <;> decide
    rw [hk]
    have hh : headR 1 (n.toNat :: r) = some (⟨1, n, ⟨#[]⟩⟩, 1) := by
      rcases hn with rfl | rfl <;> simp [headR, beN]
    simp only [List.cons_append, List.nil_append, headF, hh]
    rw [if_pos hm]; rfl
  · rename_i h; subst h
    obtain rfl := emptyB_eq hm'
    have hk : keyV 2 n ⟨#[]⟩ = 2 :: hi (n + 9223372036854775808) 8 8 := rfl
    rw [hk]
    obtain ⟨m, hmm⟩ : ∃ m : Nat, (m : Int) = n + 9223372036854775808 := ⟨(n + 9223372036854775808).toNat, by omega⟩
    rw [← hmm]
    have hh : headR 2 (hi (m : Int) 8 8 ++ r) = some (⟨2, n, ⟨#[]⟩⟩, 8) := by
      unfold headR
      rw [if_neg (by omega), if_pos rfl, if_neg (by rw [List.length_append, hi_len]; omega)]
      rw [List.take_append_of_le_length (by rw [hi_len]; omega), List.take_of_length_le (by rw [hi_len]; omega), be_hi8 m (by omega), hmm]
      simp
    simp only [List.cons_append, headF, hh]
    rw [if_pos hm]; simp [hi_len]
  · rename_i h; subst h
    simp only [Bool.and_eq_true] at hm'
    obtain rfl : n = 0 := by
      have := hm'.1
      unfold short at this
      simp at this
      exact this.1
    have hk : keyV 3 0 s = 3 :: (esc (sb s) ++ [0, 1]) := rfl
    rw [hk]
    have hh : headR 3 (esc (sb s) ++ [0, 1] ++ r) = some (⟨3, 0, s⟩, (esc (sb s)).length + 2) := by
      unfold headR
      rw [if_neg (by omega), if_neg (by omega), if_pos (.inl rfl), List.append_assoc, dec_esc]
      simp [bs_sb]
    simp only [List.cons_append, headF, hh]
    rw [if_pos hm]; simp
  · rename_i h; subst h
    obtain rfl : n = 0 := by
      unfold short at hm'
      simp at hm'
      exact hm'.1
    have hk : keyV 4 0 s = 4 :: (esc (sb s) ++ [0, 1]) := rfl
    rw [hk]
    have hh : headR 4 (esc (sb s) ++ [0, 1] ++ r) = some (⟨4, 0, s⟩, (esc (sb s)).length + 2) := by
      unfold headR
      rw [if_neg (by omega), if_neg (by omega), if_pos (.inr rfl), List.append_assoc, dec_esc]
      simp [bs_sb]
    simp only [List.cons_append, headF, hh]
    rw [if_pos hm]; simp
  · cases hm'
theorem key_unique {v v' : Vl} {r r' : List Nat} (hm : v.may = true) (hf : v.fit) (hm' : v'.may = true) (hf' : v'.fit) (h : v.key ++ r = v'.key ++ r') : v = v' ∧ r = r' := by
  have h1 := head_key v r hm hf
  have h2 := head_key v' r' hm' hf'
  rw [h, h2] at h1
  simp only [Option.some.injEq, Prod.mk.injEq] at h1
  obtain ⟨rfl, _⟩ := h1
  exact ⟨rfl, List.append_cancel_left h⟩
theorem key_ne (v : Vl) : v.key ≠ [] := by
  unfold Vl.key keyV
  repeat' split
  all_goals simp
theorem may_kind' {v : Vl} (h : v.may = true) : v.k = 0 ∨ v.k = 1 ∨ v.k = 2 ∨ v.k = 3 ∨ v.k = 4 := by
  unfold Vl.may mayF at h
  repeat' split at h
  all_goals first | (simp; omega) | omega | cases h
/-- What is told of a key's beginning stands there. -/
theorem head_some (l : List Nat) (hb' : ∀ x ∈ l, x < 256) (hl : l.length ≤ 100000) (v : Vl) (n : Nat) (h : headF l = some (v, n)) : v.may = true ∧ v.fits ∧ ∃ r, l = v.key ++ r ∧ n = v.key.length := by
  rcases l with _ | ⟨k, rest⟩
  · simp [headF] at h
  have hk := hb' k (by simp)
  have hrest : ∀ x ∈ rest, x < 256 := fun x hx => hb' x (by simp [hx])
  simp only [headF] at h
  cases hh : headR k rest with
  | none => rw [hh] at h; simp at h
  | some p =>
    obtain ⟨u, m⟩ := p
    rw [hh] at h
    simp only at h
    split at h
    · rename_i hmay
      simp only [Option.some.injEq, Prod.mk.injEq] at h
      obtain ⟨rfl, rfl⟩ := h
      refine ⟨hmay, ?_⟩
      unfold headR at hh
      split at hh
      · rename_i e; subst e
        split at hh
        · cases hh
        · simp only [Option.some.injEq, Prod.mk.injEq] at hh
          obtain ⟨rfl, rfl⟩ := hh
          rcases rest with _ | ⟨x, r⟩
          · simp at *
          · have hx := hrest x (by simp)
            refine ⟨⟨⟨by simp, by simp [beN]; omega, by simp [ByteArray.size]⟩, by simp, by simp⟩, r, ?_, ?_⟩
            · simp [Vl.key, keyV, hi, beN]; omega
            · simp [Vl.key, keyV, hi_len]
      · split at hh
        · rename_i e; subst e
          split at hh
          · cases hh
          · rename_i hlen
            simp only [Option.some.injEq, Prod.mk.injEq] at hh
            obtain ⟨rfl, rfl⟩ := hh
            obtain ⟨h1, h2⟩ := hi8_be (rest.take 8) (by rw [List.length_take]; omega) (fun x hx => hrest x (List.mem_of_mem_take hx))
            refine ⟨⟨⟨by simp only; omega, by simp only; omega, by simp [ByteArray.size]⟩, by simp, by simp⟩, rest.drop 8, ?_, ?_⟩
            · simp only [Vl.key, keyV]
              simp
              rw [h1, List.take_append_drop]
            · simp [Vl.key, keyV, hi_len]
        · split at hh
          · rename_i e
            cases hd : decS false [] 0 rest with
            | none => rw [hd] at hh; cases hh
            | some q =>
              obtain ⟨t, m'⟩ := q
              rw [hd] at hh
              simp only [Option.map_some, Option.some.injEq, Prod.mk.injEq] at hh
              obtain ⟨rfl, rfl⟩ := hh
              obtain ⟨t', r, h1, h2, h3⟩ := (dec_some rest [] 0 t m').1 hd
              simp only [List.nil_append] at h1
              subst h1
              have hbt : ∀ x ∈ t, x < 256 := fun x hx => hrest x (by rw [h2]; exact List.mem_append_left _ (esc_mem t x hx))
              have hlt : t.length ≤ 100000 := by
                have := esc_ge t
                have h4 := congrArg List.length h2
                rw [List.length_append] at h4
                simp at hl
                omega
              have hs := sb_bs t hbt
              refine ⟨⟨⟨by simp, by simp, by simp only; rw [bs_size]; omega⟩, by simp only; omega, by simp only; omega⟩, r, ?_, ?_⟩
              · rcases e with rfl | rfl
                · simp only [Vl.key, keyV]; simp [hs, h2]
                · simp only [Vl.key, keyV]; simp [hs, h2]
              · rcases e with rfl | rfl
                · simp only [Vl.key, keyV]; simp [hs, h3]
                · simp only [Vl.key, keyV]; simp [hs, h3]
          · simp only [Option.some.injEq, Prod.mk.injEq] at hh
            obtain ⟨rfl, rfl⟩ := hh
            rename_i n1 n2 n3
            have : k = 0 := by
              have h := may_kind' hmay
              simp only at h
              omega
            subst this
            exact ⟨⟨⟨by simp, by simp, by simp [ByteArray.size]⟩, by simp, by simp⟩, rest, rfl, rfl⟩
    · cases h
end Go.Proofs.YtjkmbggaoinkdaaDoor
