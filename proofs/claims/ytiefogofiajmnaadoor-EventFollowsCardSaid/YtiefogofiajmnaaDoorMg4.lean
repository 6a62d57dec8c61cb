/-
  Two texts in one.
-/
import Derived.Test.YtiefogofiajmnaaDoorRfits
import Derived.Test.YtiefogofiajmnaaDoorLyPut
import Derived.Test.YtiefogofiajmnaaDoorRkey
namespace Go.Proofs.YtiefogofiajmnaaDoor
open Go.RowKit Dg
theorem good_k {k : Int} (n : Int) (s : ByteArray) (h0 : 1 ≤ k) (h1 : k ≤ 4) : (Vl.good ⟨k, n, s⟩).k = k := by
  have hk : kind5 k = k := by unfold kind5; rw [if_neg (by omega)]; omega
  have : k = 1 ∨ k = 2 ∨ k = 3 ∨ k = 4 := by omega
  unfold Vl.good
  simp only [hk]
  rcases this with rfl | rfl | rfl | rfl <;> simp
theorem nil_may : vlNil.may = true := by decide +kernel
theorem rowOf_stands (c : Cl) (v : Vl) (h0 : 1 ≤ c.k) (h1 : c.k ≤ 4) : standsF c (rowOf c v) = true := by
  unfold rowOf
  split
  · rename_i h
    unfold standsF
    rw [nil_may, h.1]
    simp [vlNil]
  · unfold standsF
    rw [good_may, good_k _ _ h0 h1]
    simp
theorem rowF_len (M : List Cl) (R : List Vl) : (rowF M R).length = M.length := rowTo_len _ _ _
theorem rowF_get (M : List Cl) (R : List Vl) (i : Nat) (h : i < M.length) : (rowF M R)[i]'(by rw [rowF_len]; exact h) = rowOf M[i] (R.getD i vlNil) := by
  unfold rowF rowTo
  rw [List.getElem_map, List.getElem_range]
  unfold rowAt
  rw [List.getElem?_eq_getElem h]
theorem rowF_fits (M : List Cl) (R : List Vl) (hM : ∀ c ∈ M, 1 ≤ c.k ∧ c.k ≤ 4) : fitsF M (rowF M R) = true := by
  unfold fitsF fitsTo
  rw [rowF_len]
  simp only [decide_true, Bool.true_and]
  rw [List.all_eq_true]
  intro i hi
  have hi' : i < M.length := List.mem_range.1 hi
  rw [List.getElem?_eq_getElem hi', List.getElem?_eq_getElem (by rw [rowF_len]; exact hi'), rowF_get M R i hi']
  have := hM M[i] (List.getElem_mem hi')
  exact rowOf_stands _ _ this.1 this.2
theorem rowOf_fit (c : Cl) (v : Vl) (h0 : 1 ≤ c.k) (h1 : c.k ≤ 4) (hv : v.fits) : (rowOf c v).fits := by
  unfold rowOf
  split
  · exact ⟨⟨by simp [vlNil], by simp [vlNil], by simp [vlNil, empty_zero]⟩, by simp [vlNil], by simp [vlNil]⟩
  · exact good_fits _ ⟨hv.1, by show _ ≤ c.k; omega, by show c.k ≤ _; omega⟩
theorem nil_fits : vlNil.fits := ⟨⟨by simp [vlNil], by simp [vlNil], by simp [vlNil, empty_zero]⟩, by simp [vlNil], by simp [vlNil]⟩
theorem rowF_fit (M : List Cl) (R : List Vl) (hM : ∀ c ∈ M, 1 ≤ c.k ∧ c.k ≤ 4) (hR : ∀ v ∈ R, v.fits) : ∀ x ∈ rowF M R, x.fits := fun x hx => by
  obtain ⟨i, hi, rfl⟩ := List.getElem_of_mem hx
  have hi' : i < M.length := by rw [rowF_len] at hi; exact hi
  rw [rowF_get M R i hi']
  have h := hM M[i] (List.getElem_mem hi')
  refine rowOf_fit _ _ h.1 h.2 ?_
  rw [List.getD_eq_getElem?_getD]
  cases hh : R[i]? with
  | none => exact nil_fits
  | some v => exact hR v (List.mem_of_getElem? hh)
end Go.Proofs.YtiefogofiajmnaaDoor
namespace Go.Proofs.YtiefogofiajmnaaDoor
open Go.RowKit Dg
theorem rd_none {w : World} {l : List Nat} (h : Rd w none l) : l = [] := by
  rcases l with _ | ⟨x, l⟩
  · rfl
  · obtain ⟨b, off, e, _⟩ := h (by simp)
    cases e
theorem rd_owned {w : World} {base c : Nat} {l : List Nat} {A : Option Addr} (h : w.ownsRow base 5 1 (.slice A l.length c) l.length (l.map bv)) : l.length ≤ c ∧ Rd w A l := by
  rcases h.2 with ⟨e, hn⟩ | ⟨g, cap, cur, e, _, hh, hc, _, _, ht⟩
  · injection e with e1 e2 e3
    refine ⟨by omega, ?_⟩
    rw [List.eq_nil_of_length_eq_zero hn]
    exact Rd.nil _ _
  · injection e with e1 e2 e3
    subst e1; subst e3
    refine ⟨hc, Rd.of_has (t := 5) (cs := cur) hh fun i hi => ?_⟩
    have h1 : (l.map bv)[i]? = some (bv l[i]) := by simp [hi]
    rw [← ht, List.getElem?_take, if_pos (by omega)] at h1
    simpa using h1
def txt (s : ByteArray) : List Nat := digs s.size ++ sb s
theorem txt_pos (s : ByteArray) : 0 < (txt s).length := by
  unfold txt; rw [List.length_append]; have := digs_pos s.size; omega
theorem txt_le (s : ByteArray) (h : s.size ≤ 200) : (txt s).length ≤ 210 := by
  unfold txt; rw [List.length_append, sb_length]; have := digs_le_ten s.size (by omega); omega
theorem txt_byte (s : ByteArray) : ∀ x ∈ txt s, x < 256 := by
  intro x hx
  rcases List.mem_append.1 hx with h | h
  · exact digs_byte _ x h
  · exact sb_byte s x h
end Go.Proofs.YtiefogofiajmnaaDoor
namespace Go.Proofs.YtiefogofiajmnaaDoor
open Go.RowKit Dg

theorem digs_apart : ∀ (a b : Nat) (r r' : List Nat), digs a ++ r = digs b ++ r' → a = b ∧ r = r' := fun a => by
  induction a using Nat.strongRecOn with
  | _ a ih =>
    intro b r r' h
    by_cases ha : a < 128
    · rw [digs_lt ha] at h
      by_cases hb : b < 128
      · rw [digs_lt hb] at h; simpa using h
      · rw [digs_ge (n := b) (by omega)] at h
        simp at h; omega
    · rw [digs_ge (n := a) (by omega)] at h
      by_cases hb : b < 128
      · rw [digs_lt hb] at h; simp at h; omega
      · rw [digs_ge (n := b) (by omega)] at h
        simp only [List.cons_append, List.cons.injEq] at h
        obtain ⟨h1, h2⟩ := ih (a / 128) (by omega) _ _ _ h.2
        exact ⟨by omega, h2⟩
theorem sb_inj {s t : ByteArray} (h : sb s = sb t) : s = t := by rw [← bs_sb s, h, bs_sb]
theorem txt_apart (s t : ByteArray) (r r' : List Nat) (h : txt s ++ r = txt t ++ r') : s = t ∧ r = r' := by
  unfold txt at h
  rw [List.append_assoc, List.append_assoc] at h
  obtain ⟨h1, h2⟩ := digs_apart _ _ _ _ h
  obtain ⟨h3, h4⟩ := List.append_inj h2 (by rw [sb_length, sb_length, h1])
  exact ⟨sb_inj h3, h4⟩
theorem zig_inj {a b : Int} (h : zig a = zig b) : a = b := by rw [← zag_zig a, h, zag_zig]
/-- A value's bytes without its kind. -/
def plB (v : Vl) : List Nat := if v.k = 1 then [(v.n % 256).toNat] else if v.k = 2 then digs (zig v.n) else if v.k = 3 ∨ v.k = 4 then txt v.s else []
theorem toList_nil {s : ByteArray} (h : s.toList.isEmpty = true) : s = ⟨#[]⟩ := by
  have h2 : s.size = 0 := empty_size h
  cases s with | _ d => cases d with | _ l => simp [ByteArray.size] at h2; subst h2; rfl
theorem may_zero {v : Vl} (h : v.may = true) (hk : v.k = 0) : v = vlNil := by
  obtain ⟨k, n, s⟩ := v
  simp only at hk; subst hk
  simp only [Vl.may, mayF] at h
  simp at h
  obtain ⟨h1, h2⟩ := h
  subst h1
  have := toList_nil (s := s) (by simpa using h2)
  subst this; rfl
theorem plB_apart {v v' : Vl} {r r' : List Nat} (h : v.may = true) (h' : v'.may = true) (hk : v.k = v'.k) (e : plB v ++ r = plB v' ++ r') : v = v' ∧ r = r' := by
  obtain ⟨k, n, s⟩ := v
  obtain ⟨k', n', s'⟩ := v'
  simp only at hk
  subst hk
  have hc := may_kind h
  rcases hc with rfl | rfl | rfl | rfl | rfl
  · rw [may_zero h rfl, may_zero h' rfl]
    exact ⟨rfl, by simpa [plB] using e⟩
  · simp only [Vl.may, mayF] at h h'
    simp at h h'
    obtain ⟨h1, h2⟩ := h
    obtain ⟨h1', h2'⟩ := h'
    have z := toList_nil (s := s) (by simpa using h1)
    have z' := toList_nil (s := s') (by simpa using h1')
    subst z z'
    simp only [plB, if_pos] at e
    simp at e
    obtain ⟨e1, e2⟩ := e
    refine ⟨?_, e2⟩
    have : n = n' := by omega
    rw [this]
  · simp only [Vl.may, mayF] at h h'
    simp at h h'
    have z := toList_nil (s := s) (by simpa using h)
    have z' := toList_nil (s := s') (by simpa using h')
    subst z z'
    have e1 : digs (zig n) ++ r = digs (zig n') ++ r' := by simpa [plB] using e
    obtain ⟨e2, e3⟩ := digs_apart _ _ _ _ e1
    rw [zig_inj e2]
    exact ⟨rfl, e3⟩
  · simp only [Vl.may, mayF, short] at h h'
    simp at h h'
    have e1 : txt s ++ r = txt s' ++ r' := by simpa [plB] using e
    obtain ⟨e2, e3⟩ := txt_apart _ _ _ _ e1
    subst e2
    rw [h.1.1, h'.1.1]
    exact ⟨rfl, e3⟩
  · simp only [Vl.may, mayF, short] at h h'
    simp at h h'
    have e1 : txt s ++ r = txt s' ++ r' := by simpa [plB] using e
    obtain ⟨e2, e3⟩ := txt_apart _ _ _ _ e1
    subst e2
    rw [h.1, h'.1]
    exact ⟨rfl, e3⟩
/-- The bits of the values that are Null, the first one lowest. -/
def nbits : List Vl → Nat
  | [] => 0
  | v :: R => (if v.k = 0 then 1 else 0) + 2 * nbits R
def imgF (R : List Vl) : List Nat := nbits R :: R.flatMap plB
theorem nbits_apart : ∀ (R R' : List Vl), R.length = R'.length → nbits R = nbits R' → ∀ i (h : i < R.length) (h' : i < R'.length), (R[i].k = 0 ↔ R'[i].k = 0)
  | [], _, _, _, i, h, _ => by simp at h
  | _ :: _, [], hl, _, _, _, _ => by simp at hl
  | v :: R, v' :: R', hl, e, i, h, h' => by
    simp only [nbits] at e
    have e1 : (if v.k = 0 then 1 else 0 : Nat) = (if v'.k = 0 then 1 else 0) ∧ nbits R = nbits R' := by split at e <;> split at e <;> (constructor <;> first | (simp_all; done) | omega)
    rcases i with _ | i
    · simp only [List.getElem_cons_zero]
      have := e1.1
      split at this <;> split at this <;> simp_all
    · simp only [List.getElem_cons_succ]
      exact nbits_apart R R' (by simpa using hl) e1.2 i (by simpa using h) (by simpa using h')
theorem flat_apart : ∀ (R R' : List Vl) (r r' : List Nat), R.length = R'.length → (∀ i (h : i < R.length) (h' : i < R'.length), R[i].k = R'[i].k) → (∀ x ∈ R, x.may = true) → (∀ x ∈ R', x.may = true) → R.flatMap plB ++ r = R'.flatMap plB ++ r' → R = R' ∧ r = r'
  | [], [], r, r', _, _, _, _, e => ⟨rfl, by simpa using e⟩
  | [], _ :: _, _, _, hl, _, _, _, _ => by simp at hl
  | _ :: _, [], _, _, hl, _, _, _, _ => by simp at hl
  | v :: R, v' :: R', r, r', hl, hk, hm, hm', e => by
    rw [List.flatMap_cons, List.flatMap_cons, List.append_assoc, List.append_assoc] at e
    obtain ⟨h1, h2⟩ := plB_apart (hm v (by simp)) (hm' v' (by simp)) (hk 0 (by simp) (by simp)) e
    obtain ⟨h3, h4⟩ := flat_apart R R' r r' (by simpa using hl) (fun i h h' => hk (i + 1) (by simpa using h) (by simpa using h')) (fun x hx => hm x (by simp [hx])) (fun x hx => hm' x (by simp [hx])) h2
    exact ⟨by rw [h1, h3], h4⟩
theorem fits_at {M : List Cl} {R : List Vl} (h : fitsF M R = true) : R.length = M.length ∧ ∀ i (h1 : i < M.length) (h2 : i < R.length), R[i].may = true ∧ (R[i].k = M[i].k ∨ R[i].k = 0) := by
  unfold fitsF at h
  simp only [Bool.and_eq_true, decide_eq_true_eq] at h
  refine ⟨h.1, fun i h1 h2 => ?_⟩
  have h3 := h.2
  unfold fitsTo at h3
  rw [List.all_eq_true] at h3
  have := h3 i (List.mem_range.2 h1)
  rw [List.getElem?_eq_getElem h1, List.getElem?_eq_getElem h2] at this
  simp only [standsF, Bool.and_eq_true, Bool.or_eq_true, beq_iff_eq] at this
  exact ⟨this.1, this.2.imp id (fun h => h.1)⟩
/-- Rows of one schema whose bytes begin alike are the same. -/
theorem img_apart {M : List Cl} {R R' : List Vl} {r r' : List Nat} (hM : ∀ c ∈ M, 1 ≤ c.k) (h : fitsF M R = true) (h' : fitsF M R' = true) (e : imgF R ++ r = imgF R' ++ r') : R = R' ∧ r = r' := by
  obtain ⟨hl, hf⟩ := fits_at h
  obtain ⟨hl', hf'⟩ := fits_at h'
  unfold imgF at e
  simp only [List.cons_append, List.cons.injEq] at e
  have hb := nbits_apart R R' (by omega) e.1
  refine flat_apart R R' r r' (by omega) (fun i h1 h2 => ?_) (fun x hx => ?_) (fun x hx => ?_) e.2
  · have q := hf i (by omega) h1
    have q' := hf' i (by omega) h2
    have hm := hM M[i] (List.getElem_mem (by omega))
    have hz := hb i h1 h2
    rcases q.2 with a | a <;> rcases q'.2 with b | b
    · omega
    · rw [a, b]; have := hz.2 b; omega
    · rw [a, b]; have := hz.1 a; omega
    · omega
  · obtain ⟨i, hi, rfl⟩ := List.getElem_of_mem hx
    exact (hf i (by omega) hi).1
  · obtain ⟨i, hi, rfl⟩ := List.getElem_of_mem hx
    exact (hf' i (by omega) hi).1
end Go.Proofs.YtiefogofiajmnaaDoor
