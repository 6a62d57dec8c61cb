/-
  Put together: Part, KeyM.
-/
import Derived.Test.YtjkmbggaoinkdaaDoorVals
import Derived.Test.YtjkmbggaoinkdaaDoorQo
import Derived.Test.YtjkmbggaoinkdaaDoorQc
namespace Go.Proofs.YtjkmbggaoinkdaaDoor
open Go.RowKit Dg
/-- What Part comes to. -/
def PartR (M : List Cl) (k : Nat) (s : ByteArray) (w : World) (e : Ending) (w' : World) : Prop :=
  (∃ L v, Good1 L ∧ (∀ x ∈ L, x.fits) ∧ L.length = k ∧ keys L = sb s ∧ beginsF M L k = true ∧ e = .returned (.tuple #[v, .int .i64 0]) ∧ OwnV w.heap.size w' v L) ∨
  ((∀ L, Good1 L → L.length = k → keys L = sb s → beginsF M L k = false) ∧ e = .returned (.tuple #[.slice none 0 0, .int .i64 2]))
/-! ### the program's Key and the document's are one -/
theorem fits_kinds {M : List Cl} {R : List Vl} : ∀ k, k ≤ M.length → k ≤ R.length → (∀ i (h : i < M.length), i < k → M[i].no = false) → fitsTo M R k = (kindsTo M R k && (R.take k).all Vl.may)
  | 0, _, _, _ => rfl
  | k + 1, hM, hR, hn => by
    rw [fitsTo_succ M R k (by omega) (by omega), kindsTo_succ M R k (by omega) (by omega), fits_kinds k (by omega) (by omega) (fun i h hi => hn i h (by omega)), List.take_succ_eq_append_getElem (by omega), List.all_append]
    have h := hn k (by omega) (by omega)
    simp only [standsF, h, List.all_cons, List.all_nil, Bool.and_false, Bool.or_false, Bool.and_true]
    cases kindsTo M R k <;> cases (R.take k).all Vl.may <;> cases (R[k].k == M[k].k) <;> cases R[k].may <;> rfl
theorem key_one {M : List Cl} {k : Nat} (hg : GoodS M k) (R : List Vl) : (beginsF M R k && (R.take k).all Vl.may) = keyOk M R k := by
  unfold beginsF keyOk
  by_cases h : k ≤ R.length
  · rw [fits_kinds k hg.keys.2.1 h hg.none]; simp [h]
  · simp [h]
theorem skT_keyT {M : List Cl} {k : Nat} (hg : GoodS M k) (R : List Vl) : skT M R k = keyT M R k := by
  unfold skT keyT; rw [key_one hg]
end Go.Proofs.YtjkmbggaoinkdaaDoor
namespace Go.Proofs.YtjkmbggaoinkdaaDoor
open Go.RowKit Dg
theorem esc_byte : ∀ (l : List Nat), (∀ x ∈ l, x < 256) → ∀ x ∈ esc l, x < 256
  | [], _, x, h => by simp [esc] at h
  | y :: t, hl, x, h => by
    have hy := hl y (by simp)
    have ih := esc_byte t (fun z hz => hl z (by simp [hz]))
    simp only [esc] at h
    split at h
    · rcases List.mem_cons.1 h with rfl | h
      · omega
      · rcases List.mem_cons.1 h with rfl | h
        · omega
        · exact ih x h
    · rcases List.mem_cons.1 h with rfl | h
      · exact hy
      · exact ih x h
theorem hi_byte (n : Int) (size k : Nat) : ∀ x ∈ hi n size k, x < 256 := fun x hx => by
  obtain ⟨i, _, rfl⟩ := List.mem_map.1 hx
  omega
theorem keyV_byte (k n : Int) (s : ByteArray) : ∀ x ∈ keyV k n s, x < 256 := fun x hx => by
  unfold keyV at hx
  repeat' split at hx
  · rcases List.mem_cons.1 hx with rfl | h
    · omega
    · exact hi_byte _ _ _ x h
  · rcases List.mem_cons.1 hx with rfl | h
    · omega
    · exact hi_byte _ _ _ x h
  · rcases List.mem_cons.1 hx with rfl | h
    · omega
    · rcases List.mem_append.1 h with h | h
      · exact esc_byte _ (sb_byte s) x h
      · simp at h; omega
  · simp at hx; omega
theorem keys_byte (L : List Vl) : ∀ x ∈ keys L, x < 256 := fun x hx => by
  obtain ⟨v, _, h⟩ := List.mem_flatMap.1 hx
  exact keyV_byte _ _ _ x h
theorem goods_keys (G : List Vl) (h : ∀ x ∈ G, x.s.size ≤ 40) : (keys G).length ≤ 89 * G.length := by
  induction G with
  | nil => simp [keys]
  | cons v G ih =>
    rw [keys_cons, List.length_append, List.length_cons]
    have h1 := ih (fun x hx => h x (by simp [hx]))
    have h2 := keyV_len v.k v.n v.s
    have h3 := h v (by simp)
    unfold Vl.key
    omega
theorem kinds_take (M : List Cl) (R : List Vl) (k : Nat) : kindsTo M (R.take k) k = kindsTo M R k := by
  unfold kindsTo
  rw [Bool.eq_iff_iff, List.all_eq_true, List.all_eq_true]
  constructor <;> intro h i hi <;> have h2 := h i hi <;> have h3 := List.mem_range.1 hi <;> simpa [List.getElem?_take, h3] using h2
theorem rowF_size (M : List Cl) (R : List Vl) : ∀ x ∈ rowF M R, x.s.size ≤ 40 := fun x hx => by
  obtain ⟨i, hi, rfl⟩ := List.getElem_of_mem hx
  have hi2 : i < M.length := by rw [rowF_len] at hi; exact hi
  rw [rowF_get M R i hi2]
  unfold rowOf
  split
  · exact Nat.zero_le _
  · exact good_size _
theorem begins_row {M : List Cl} {k : Nat} (hg : GoodS M k) {R : List Vl} (h : fitsF M R = true) : beginsF M (R.take k) k = true ∧ keyOk M R k = true ∧ Good1 (R.take k) ↔ (∀ x ∈ R.take k, x.may = true ∧ x.fit) := by
  constructor
  · intro ⟨_, _, h3⟩; exact h3
  · intro h3
    have h1 : R.length = M.length := by
      unfold fitsF at h
      simp only [Bool.and_eq_true, decide_eq_true_eq] at h
      exact h.1
    have hk := hg.keys
    have h2 : fitsTo M R k = true := by
      unfold fitsF at h
      simp only [Bool.and_eq_true, decide_eq_true_eq] at h
      unfold fitsTo at *
      rw [List.all_eq_true] at *
      exact fun i hi => h.2 i (List.mem_range.2 (by have := List.mem_range.1 hi; omega))
    have h4 := fits_kinds k hk.2.1 (by omega) hg.none (R := R)
    rw [h2] at h4
    have h5 : kindsTo M R k = true := by
      cases hh : kindsTo M R k
      · rw [hh] at h4; cases h4
      · rfl
    refine ⟨?_, ?_, h3⟩
    · unfold beginsF; rw [kinds_take, h5, List.length_take]; simp; omega
    · unfold keyOk; rw [h2]; simp; omega
theorem row_good1 {M : List Cl} {R : List Vl} (h : fitsF M R = true) (hf : ∀ x ∈ R, x.fits) (k : Nat) (hk : k ≤ M.length) : ∀ x ∈ R.take k, x.may = true ∧ x.fit := fun x hx => by
  have h1 : R.length = M.length ∧ fitsTo M R M.length = true := by
    unfold fitsF at h
    simpa only [Bool.and_eq_true, decide_eq_true_eq] using h
  refine ⟨?_, (hf x (List.mem_of_mem_take hx)).1⟩
  exact fitsTo_may h1.2 (Nat.le_refl _) (by omega) x (by
    have : R.take k = (R.take M.length).take k := by rw [List.take_take, Nat.min_eq_left hk]
    rw [this] at hx
    exact List.mem_of_mem_take hx)
end Go.Proofs.YtjkmbggaoinkdaaDoor
