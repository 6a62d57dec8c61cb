/-
  Keys as texts: plain mathematics.
-/
import Derived.Test.YticfhjimbochlaaImgB
import Derived.Test.YticfhjimbochlaaDec
import Derived.Test.YticfhjimbochlaaTurnM
namespace Go.Proofs.Yticfhjimbochlaa
open Go.RowKit Dg
theorem keys_cons (v : Vl) (L : List Vl) : keys (v :: L) = v.key ++ keys L := by unfold keys; rw [List.flatMap_cons]
theorem keys_snoc (v : Vl) (L : List Vl) : keys (L ++ [v]) = keys L ++ v.key := by unfold keys; rw [List.flatMap_append]; simp
def Good1 (L : List Vl) : Prop := ∀ x ∈ L, x.may = true ∧ x.fit
theorem keys_split : ∀ (acc L : List Vl) (r : List Nat), Good1 acc → Good1 L → keys L = keys acc ++ r → ∃ M, L = acc ++ M ∧ keys M = r
  | [], L, r, _, _, h => ⟨L, rfl, by simpa [keys] using h⟩
  | a :: acc, [], r, _, _, h => by
    rw [keys_cons, List.append_assoc] at h
    have h2 : ([] : List Nat) = a.key ++ (keys acc ++ r) := h
    exact absurd (List.append_eq_nil_iff.1 h2.symm).1 (key_ne a)
  | a :: acc, b :: L, r, ha, hL, h => by
    rw [keys_cons, keys_cons, List.append_assoc] at h
    obtain ⟨hb1, hb2⟩ := hL b (by simp)
    obtain ⟨ha1, ha2⟩ := ha a (by simp)
    obtain ⟨e1, e2⟩ := key_unique hb1 hb2 ha1 ha2 h
    subst e1
    obtain ⟨M, h1, h2⟩ := keys_split acc L r (fun x hx => ha x (by simp [hx])) (fun x hx => hL x (by simp [hx])) e2
    exact ⟨M, by rw [h1]; rfl, h2⟩
theorem keys_inj {L M : List Vl} (hL : Good1 L) (hM : Good1 M) (h : keys L = keys M) : L = M := by
  obtain ⟨N, h1, h2⟩ := keys_split M L [] hM hL (by rw [List.append_nil]; exact h)
  have : N = [] := by
    rcases N with _ | ⟨v, N⟩
    · rfl
    · rw [keys_cons] at h2
      exact absurd (List.append_eq_nil_iff.1 h2).1 (key_ne v)
  rw [h1, this, List.append_nil]
theorem esc_byte : ∀ (l : List Nat), (∀ x ∈ l, x < 256) → ∀ x ∈ esc l, x < 256
  | [], _, x, h => by simp [esc] at h
  | y :: t, hl, x, h => by
    have hy := hl y (by simp)
    have ih := esc_byte t (fun z hz => hl z (by simp [hz]))
    simp only [esc] at h
    split at h
    · rcases List.mem_cons.1 h with rfl | h
      · omega
      · rcases List.mem_cons.1 h with rfl | h
        · omega
        · exact ih x h
    · rcases List.mem_cons.1 h with rfl | h
      · exact hy
      · exact ih x h
theorem hi_byte (n : Int) (size k : Nat) : ∀ x ∈ hi n size k, x < 256 := fun x hx => by
  obtain ⟨i, _, rfl⟩ := List.mem_map.1 hx
  omega
theorem keyV_byte (k n : Int) (s : ByteArray) : ∀ x ∈ keyV k n s, x < 256 := fun x hx => by
  unfold keyV at hx
  repeat' split at hx
  · rcases List.mem_cons.1 hx with rfl | h
    · omega
    · exact hi_byte _ _ _ x h
  · rcases List.mem_cons.1 hx with rfl | h
    · omega
    · exact hi_byte _ _ _ x h
  · rcases List.mem_cons.1 hx with rfl | h
    · omega
    · rcases List.mem_append.1 h with h | h
      · exact esc_byte _ (sb_byte s) x h
      · simp at h; omega
  · simp at hx; omega
theorem keys_byte (L : List Vl) : ∀ x ∈ keys L, x < 256 := fun x hx => by
  obtain ⟨v, _, h⟩ := List.mem_flatMap.1 hx
  exact keyV_byte _ _ _ x h
theorem fits_take {M : List Cl} {R : List Vl} (h : fitsF M R = true) (k : Nat) : fitsF (M.take k) (R.take k) = true := by
  obtain ⟨h1, h2⟩ := (fitsF_iff M R).1 h
  exact (fitsF_iff _ _).2 ⟨by simp [h1], zip_take h2 k⟩
theorem keys_eqb {L M : List Vl} (hL : Good1 L) (hM : Good1 M) : ((bs (keys L)).toList == (bs (keys M)).toList) = vsF L M := by
  rw [bs_eqb (keys_byte L) (keys_byte M), Bool.eq_iff_iff, decide_eq_true_eq, vsF_iff]
  exact ⟨fun h => keys_inj hL hM h, fun h => by rw [h]⟩
end Go.Proofs.Yticfhjimbochlaa
