/-
  Rows as bytes: plain mathematics.
-/
import Derived.Test.YtbbdmajlbofcmaaDoorRowM
import Derived.Test.YtbbdmajlbofcmaaDoorLyLaw
import Derived.Test.YtbbdmajlbofcmaaDoorRkey
namespace Go.Proofs.YtbbdmajlbofcmaaDoor
open Go.RowKit Dg

theorem digs_apart : ∀ (a b : Nat) (r r' : List Nat), digs a ++ r = digs b ++ r' → a = b ∧ r = r' := fun a => by
  induction a using Nat.strongRecOn with
  | _ a ih =>
    intro b r r' h
    by_cases ha : a < 128
    · rw [digs_lt ha] at h
      by_cases hb : b < 128
      · rw [digs_lt hb] at h; simpa using h
      · rw [digs_ge (n := b) (by omega)] at h
        simp at h; omega
    · rw [digs_ge (n := a) (by omega)] at h
      by_cases hb : b < 128
      · rw [digs_lt hb] at h; simp at h; omega
      · rw [digs_ge (n := b) (by omega)] at h
        simp only [List.cons_append, List.cons.injEq] at h
        obtain ⟨h1, h2⟩ := ih (a / 128) (by omega) _ _ _ h.2
        exact ⟨by omega, h2⟩
theorem sb_inj {s t : ByteArray} (h : sb s = sb t) : s = t := by rw [← bs_sb s, h, bs_sb]
theorem txt_apart (s t : ByteArray) (r r' : List Nat) (h : txt s ++ r = txt t ++ r') : s = t ∧ r = r' := by
  unfold txt at h
  rw [List.append_assoc, List.append_assoc] at h
  obtain ⟨h1, h2⟩ := digs_apart _ _ _ _ h
  obtain ⟨h3, h4⟩ := List.append_inj h2 (by rw [sb_length, sb_length, h1])
  exact ⟨sb_inj h3, h4⟩
theorem zig_inj {a b : Int} (h : zig a = zig b) : a = b := by rw [← zag_zig a, h, zag_zig]
/-- A value's bytes without its kind. -/
def plB (v : Vl) : List Nat := if v.k = 1 then [(v.n % 256).toNat] else if v.k = 2 then digs (zig v.n) else if v.k = 3 ∨ v.k = 4 then txt v.s else []
theorem toList_nil {s : ByteArray} (h : s.toList.isEmpty = true) : s = ⟨#[]⟩ := by
  have h2 : s.size = 0 := empty_size h
  cases s with | _ d => cases d with | _ l => simp [ByteArray.size] at h2; subst h2; rfl
theorem may_zero {v : Vl} (h : v.may = true) (hk : v.k = 0) : v = vlNil := by
  obtain ⟨k, n, s⟩ := v
  simp only at hk; subst hk
  simp only [Vl.may, mayF] at h
  simp at h
  obtain ⟨h1, h2⟩ := h
  subst h1
  have := toList_nil (s := s) (by simpa using h2)
  subst this; rfl
theorem plB_apart {v v' : Vl} {r r' : List Nat} (h : v.may = true) (h' : v'.may = true) (hk : v.k = v'.k) (e : plB v ++ r = plB v' ++ r') : v = v' ∧ r = r' := by
  obtain ⟨k, n, s⟩ := v
  obtain ⟨k', n', s'⟩ := v'
  simp only at hk
  subst hk
  have hc := may_kind h
  rcases hc with rfl | rfl | rfl | rfl | rfl
  · rw [may_zero h rfl, may_zero h' rfl]
    exact ⟨rfl, by simpa [plB] using e⟩
  · simp only [Vl.may, mayF] at h h'
    simp at h h'
    obtain ⟨h1, h2⟩ := h
    obtain ⟨h1', h2'⟩ := h'
    have z := toList_nil (s := s) (by simpa using h1)
    have z' := toList_nil (s := s') (by simpa using h1')
    subst z z'
    simp only [plB, if_pos] at e
    simp at e
    obtain ⟨e1, e2⟩ := e
    refine ⟨?_, e2⟩
    have : n = n' := by omega
    rw [this]
  · simp only [Vl.may, mayF] at h h'
    simp at h h'
    have z := toList_nil (s := s) (by simpa using h)
    have z' := toList_nil (s := s') (by simpa using h')
    subst z z'
    have e1 : digs (zig n) ++ r = digs (zig n') ++ r' := by simpa [plB] using e
    obtain ⟨e2, e3⟩ := digs_apart _ _ _ _ e1
    rw [zig_inj e2]
    exact ⟨rfl, e3⟩
  · simp only [Vl.may, mayF, short] at h h'
    simp at h h'
    have e1 : txt s ++ r = txt s' ++ r' := by simpa [plB] using e
    obtain ⟨e2, e3⟩ := txt_apart _ _ _ _ e1
    subst e2
    rw [h.1.1, h'.1.1]
    exact ⟨rfl, e3⟩
  · simp only [Vl.may, mayF, short] at h h'
    simp at h h'
    have e1 : txt s ++ r = txt s' ++ r' := by simpa [plB] using e
    obtain ⟨e2, e3⟩ := txt_apart _ _ _ _ e1
    subst e2
    rw [h.1, h'.1]
    exact ⟨rfl, e3⟩
/-- The bits of the values that are Null, the first one lowest. -/
def nbits : List Vl → Nat
  | [] => 0
  | v :: R => (if v.k = 0 then 1 else 0) + 2 * nbits R
def imgF (R : List Vl) : List Nat := nbits R :: R.flatMap plB
theorem nbits_apart : ∀ (R R' : List Vl), R.length = R'.length → nbits R = nbits R' → ∀ i (h : i < R.length) (h' : i < R'.length), (R[i].k = 0 ↔ R'[i].k = 0)
  | [], _, _, _, i, h, _ => by simp at h
  | _ :: _, [], hl, _, _, _, _ => by simp at hl
  | v :: R, v' :: R', hl, e, i, h, h' => by
    simp only [nbits] at e
    have e1 : (if v.k = 0 then 1 else 0 : Nat) = (if v'.k = 0 then 1 else 0) ∧ nbits R = nbits R' := by split at e <;> split at e <;> (constructor <;> first | (simp_all; done) | omega)
    rcases i with _ | i
    · simp only [List.getElem_cons_zero]
      have := e1.1
      split at this <;> split at this <;> simp_all
    · simp only [List.getElem_cons_succ]
      exact nbits_apart R R' (by simpa using hl) e1.2 i (by simpa using h) (by simpa using h')
theorem flat_apart : ∀ (R R' : List Vl) (r r' : List Nat), R.length = R'.length → (∀ i (h : i < R.length) (h' : i < R'.length), R[i].k = R'[i].k) → (∀ x ∈ R, x.may = true) → (∀ x ∈ R', x.may = true) → R.flatMap plB ++ r = R'.flatMap plB ++ r' → R = R' ∧ r = r'
  | [], [], r, r', _, _, _, _, e => ⟨rfl, by simpa using e⟩
  | [], _ :: _, _, _, hl, _, _, _, _ => by simp at hl
  | _ :: _, [], _, _, hl, _, _, _, _ => by simp at hl
  | v :: R, v' :: R', r, r', hl, hk, hm, hm', e => by
    rw [List.flatMap_cons, List.flatMap_cons, List.append_assoc, List.append_assoc] at e
    obtain ⟨h1, h2⟩ := plB_apart (hm v (by simp)) (hm' v' (by simp)) (hk 0 (by simp) (by simp)) e
    obtain ⟨h3, h4⟩ := flat_apart R R' r r' (by simpa using hl) (fun i h h' => hk (i + 1) (by simpa using h) (by simpa using h')) (fun x hx => hm x (by simp [hx])) (fun x hx => hm' x (by simp [hx])) h2
    exact ⟨by rw [h1, h3], h4⟩
theorem fits_at {M : List Cl} {R : List Vl} (h : fitsF M R = true) : R.length = M.length ∧ ∀ i (h1 : i < M.length) (h2 : i < R.length), R[i].may = true ∧ (R[i].k = M[i].k ∨ R[i].k = 0) := by
  unfold fitsF at h
  simp only [Bool.and_eq_true, decide_eq_true_eq] at h
  refine ⟨h.1, fun i h1 h2 => ?_⟩
  have h3 := h.2
  unfold fitsTo at h3
  rw [List.all_eq_true] at h3
  have := h3 i (List.mem_range.2 h1)
  rw [List.getElem?_eq_getElem h1, List.getElem?_eq_getElem h2] at this
  simp only [standsF, Bool.and_eq_true, Bool.or_eq_true, beq_iff_eq] at this
  exact ⟨this.1, this.2.imp id (fun h => h.1)⟩
/-- Rows of one schema whose bytes begin alike are the same. -/
theorem img_apart {M : List Cl} {R R' : List Vl} {r r' : List Nat} (hM : ∀ c ∈ M, 1 ≤ c.k) (h : fitsF M R = true) (h' : fitsF M R' = true) (e : imgF R ++ r = imgF R' ++ r') : R = R' ∧ r = r' := by
  obtain ⟨hl, hf⟩ := fits_at h
  obtain ⟨hl', hf'⟩ := fits_at h'
  unfold imgF at e
  simp only [List.cons_append, List.cons.injEq] at e
  have hb := nbits_apart R R' (by omega) e.1
  refine flat_apart R R' r r' (by omega) (fun i h1 h2 => ?_) (fun x hx => ?_) (fun x hx => ?_) e.2
  · have q := hf i (by omega) h1
    have q' := hf' i (by omega) h2
    have hm := hM M[i] (List.getElem_mem (by omega))
    have hz := hb i h1 h2
    rcases q.2 with a | a <;> rcases q'.2 with b | b
    · omega
    · rw [a, b]; have := hz.2 b; omega
    · rw [a, b]; have := hz.1 a; omega
    · omega
  · obtain ⟨i, hi, rfl⟩ := List.getElem_of_mem hx
    exact (hf i (by omega) hi).1
  · obtain ⟨i, hi, rfl⟩ := List.getElem_of_mem hx
    exact (hf' i (by omega) hi).1
end Go.Proofs.YtbbdmajlbofcmaaDoor
