/-
  Schemas that may be, and their rows' keys; what is done to a window: mathematics.
-/
import Derived.Test.YtcdjeibcnkpadaaDoorWb1
import Derived.Test.YtcdjeibcnkpadaaDoorSkey
import Derived.Test.YtcdjeibcnkpadaaDoorRkey4
namespace Go.Proofs.YtcdjeibcnkpadaaDoor
open Go.RowKit Go.Maps Dg
set_option maxRecDepth 100000
set_option linter.unusedVariables false
/-- What a schema that may be has, as keys need it. -/
structure Sch (M : List Cl) (k : Nat) : Prop where
  len : 1 ≤ M.length ∧ M.length ≤ 16
  keys : 1 ≤ k ∧ k ≤ M.length ∧ k ≤ 4
  none : ∀ i (h : i < M.length), i < k → M[i].no = false
theorem sch_of_may {M : List Cl} {K : Int} (h : smayF M K = true) : ∃ k : Nat, K = (k : Int) ∧ Sch M k := by
  unfold smayF at h
  simp only [Bool.and_eq_true, decide_eq_true_eq] at h
  obtain ⟨⟨⟨⟨⟨h0, h1⟩, h2⟩, h3⟩, h4⟩, h5⟩ := h
  refine ⟨K.toNat, by omega, ⟨h0, h1⟩, ⟨by omega, by omega, by omega⟩, fun i hi hk => ?_⟩
  unfold colsTo at h5
  rw [List.all_eq_true] at h5
  have := h5 i (List.mem_range.2 hi)
  rw [colOk_at M K i hi] at this
  simp only [Bool.and_eq_true, Bool.not_eq_true', Bool.and_eq_false_iff, decide_eq_false_iff_not] at this
  rcases this.2 with h | h
  · exact h
  · omega
theorem fits_kinds1 {M : List Cl} {R : List Vl} : ∀ k, k ≤ M.length → k ≤ R.length → (∀ i (h : i < M.length), i < k → M[i].no = false) → fitsTo M R k = (kindsTo M R k && (R.take k).all Vl.may)
  | 0, _, _, _ => rfl
  | k + 1, hM, hR, hn => by
    rw [fitsTo_succ M R k (by omega) (by omega), kindsTo_succ M R k (by omega) (by omega), fits_kinds1 k (by omega) (by omega) (fun i h hi => hn i h (by omega)), List.take_succ_eq_append_getElem (by omega), List.all_append]
    have h := hn k (by omega) (by omega)
    simp only [standsF, h, List.all_cons, List.all_nil, Bool.and_false, Bool.or_false, Bool.and_true]
    cases kindsTo M R k <;> cases (R.take k).all Vl.may <;> cases (R[k].k == M[k].k) <;> cases R[k].may <;> rfl
theorem key_one1 {M : List Cl} {k : Nat} (hg : Sch M k) (R : List Vl) : (beginsF M R k && (R.take k).all Vl.may) = keyOk M R k := by
  unfold beginsF keyOk
  by_cases h : k ≤ R.length
  · rw [fits_kinds1 k hg.keys.2.1 h hg.none]; simp [h]
  · simp [h]
/-- A row's key. -/
def keyS (k : Nat) (R : List Vl) : ByteArray := bs (keys (R.take k))
theorem skT_one {M : List Cl} {k : Nat} (hg : Sch M k) (R : List Vl) : skT M R k = if keyOk M R k = true then .tuple #[.string (keyS k R), .int .i64 0] else .tuple #[.string ⟨#[]⟩, .int .i64 9] := by
  unfold skT keyS; rw [key_one1 hg]
theorem keyT_one (M : List Cl) (k : Nat) (R : List Vl) : keyT M R k = if keyOk M R k = true then .tuple #[.string (keyS k R), .int .i64 0] else .tuple #[.string ⟨#[]⟩, .int .i64 9] := rfl
theorem fits_len {M : List Cl} {R : List Vl} (h : fitsF M R = true) : R.length = M.length := by
  unfold fitsF at h
  simp only [Bool.and_eq_true, decide_eq_true_eq] at h
  exact h.1
theorem fits_keyOk {M : List Cl} {k : Nat} (hg : Sch M k) {R : List Vl} (h : fitsF M R = true) : keyOk M R k = true := by
  have hl := fits_len h
  unfold fitsF at h
  simp only [Bool.and_eq_true, decide_eq_true_eq] at h
  have h2 := h.2
  unfold keyOk
  unfold fitsTo at h2 ⊢
  rw [List.all_eq_true] at h2
  simp only [Bool.and_eq_true, decide_eq_true_eq, List.all_eq_true]
  exact ⟨by have := hg.keys.2.1; omega, fun i hi => h2 i (List.mem_range.2 (by have := List.mem_range.1 hi; have := hg.keys.2.1; omega))⟩
theorem keyOk_size {M : List Cl} {k : Nat} (hg : Sch M k) {R : List Vl} (h : keyOk M R k = true) : (keyS k R).size ≤ 40000 := by
  have hm := key_one1 hg R
  rw [h] at hm
  simp only [Bool.and_eq_true] at hm
  unfold beginsF at hm
  simp only [Bool.and_eq_true, decide_eq_true_eq] at hm
  have := keys_le R k hm.1.1 (fun x hx => List.all_eq_true.1 hm.2 x hx)
  unfold keyS
  rw [bs_size]
  have := hg.keys.2.2
  omega
/-! ### what is done to a window -/
/-- What a window has, but for where. -/
structure Wa where
  sz : Int
  num : Int
  M : List Cl
  K : Int
  af : ByteArray
  tbl : ByteArray
  dn : Bool
  en : ByteArray
  sp : Bool
  R : List (ByteArray × List Vl)
/-- A window at the block b, its tree's head at tb. -/
def WinA (lo b tb : Nat) (w : World) (a : Wa) : Prop :=
  ∃ A n c T, WinAt lo b w ⟨a.sz, a.num, A, n, c, a.M, a.K, a.af, a.tbl, a.dn, a.en, tb, T, a.sp, a.R⟩
theorem WinA.below {lo b tb : Nat} {w w' : World} {a : Wa} (h : WinA lo b tb w a) (hb : Below w.heap.size w w') : WinA lo b tb w' a := by
  obtain ⟨A, n, c, T, h⟩ := h
  exact ⟨A, n, c, T, h.below hb⟩
theorem WinA.turX {lo b tb : Nat} {w w' : World} {a : Wa} {X : List Nat} (h : WinA lo b tb w a) (ht : Tur X w w') (hX : Off w b tb X) : WinA lo b tb w' a := by
  obtain ⟨A, n, c, T, h⟩ := h
  exact ⟨A, n, c, T, h.turX ht hX⟩
theorem WinA.lo {lo lo' b tb : Nat} {w : World} {a : Wa} (h : WinA lo b tb w a) (hl : lo' ≤ lo) : WinA lo' b tb w a := by
  obtain ⟨A, n, c, T, h⟩ := h
  exact ⟨A, n, c, T, h.lo hl⟩
theorem WinA.ris {lo b tb : Nat} {w : World} {a : Wa} (h : WinA lo b tb w a) : Rises a.R := by
  obtain ⟨A, n, c, T, h⟩ := h
  exact h.ris
/-- A window's two blocks are apart from all that is of other types. -/
theorem WinA.own {lo b tb : Nat} {w : World} {a : Wa} (h : WinA lo b tb w a) : (∃ cs, Has w b 81 cs) ∧ (∃ cs, Has w tb 107 cs) := by
  obtain ⟨A, n, c, T, h⟩ := h
  exact ⟨⟨_, h.top⟩, ⟨_, h.tr.top⟩⟩
/-- The blocks of one window turn nothing of another one. -/
theorem WinA.off {lo lo2 b tb b2 tb2 : Nat} {w : World} {a a2 : Wa} (h : WinA lo b tb w a) (h2 : WinA lo2 b2 tb2 w a2) (hb : b2 ≠ b) (ht : tb2 ≠ tb) : Off w b tb [b2, tb2] := by
  obtain ⟨⟨c1, q1⟩, ⟨c2, q2⟩⟩ := h.own
  obtain ⟨⟨c3, q3⟩, ⟨c4, q4⟩⟩ := h2.own
  have n1 : b2 ≠ tb := fun e => by subst e; exact absurd (q3.two q2).1 (by decide)
  have n2 : tb2 ≠ b := fun e => by subst e; exact absurd (q4.two q1).1 (by decide)
  intro z hz
  simp only [List.mem_cons, List.not_mem_nil, or_false] at hz
  rcases hz with rfl | rfl
  · exact ⟨hb, n1, _, _, q3, by decide, by decide, by decide⟩
  · exact ⟨n2, ht, _, _, q4, by decide, by decide, by decide⟩
def shutA (a : Wa) : Wa := ⟨a.sz, -1, [], 0, ⟨#[]⟩, ⟨#[]⟩, false, ⟨#[]⟩, false, []⟩
def spoilA (a : Wa) : Wa := ⟨a.sz, a.num, [], 0, ⟨#[]⟩, a.tbl, false, ⟨#[]⟩, true, []⟩
/-- Is a key in it? -/
def inA (a : Wa) (key : ByteArray) : Bool := kl a.af key && (a.dn || !kl a.en key)
def putA (a : Wa) (k : Nat) (L : List Vl) : Wa :=
  if fitsF a.M L = false then a else if inA a (keyS k L) = false then a else if (!hadL (keyS k L) a.R && decide (a.sz ≤ (a.R.length : Int))) = true then spoilA a else { a with R := putL (keyS k L) L a.R }
def cutA (a : Wa) (k : Nat) (L : List Vl) : Wa :=
  if L.length = k ∧ keyOk a.M L k = true then { a with R := cutL (keyS k L) a.R } else a
def putE (a : Wa) (L : List Vl) : Int := if fitsF a.M L = true then 0 else 9
def cutE (a : Wa) (k : Nat) (L : List Vl) : Int := if L.length = k ∧ keyOk a.M L k = true then 0 else 9
/-- What an open window's schema is. -/
def SchA (a : Wa) (k : Nat) : Prop := a.K = (k : Int) ∧ Sch a.M k
end Go.Proofs.YtcdjeibcnkpadaaDoor
