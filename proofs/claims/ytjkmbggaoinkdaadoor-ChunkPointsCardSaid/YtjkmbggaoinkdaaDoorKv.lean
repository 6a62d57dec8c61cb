/-
  Which texts are keys.
-/
import Derived.Test.YtjkmbggaoinkdaaDoorVals
namespace Go.Proofs.YtjkmbggaoinkdaaDoor
open Go.RowKit Dg
set_option maxRecDepth 100000
/-- Are bytes the keys of values, one behind the other (in so many steps)? -/
def kvF : Nat → List Nat → Bool
  | 0, l => l.isEmpty
  | f + 1, l => l.isEmpty || (match headF l with | some (_, n) => kvF f (l.drop n) | none => false)
theorem kvF_iff : ∀ (f : Nat) (l : List Nat), (∀ x ∈ l, x < 256) → l.length ≤ 100000 → l.length ≤ f → (kvF f l = true ↔ ∃ L, Good1 L ∧ keys L = l)
  | 0, l, _, _, hf => by
    have : l = [] := List.eq_nil_of_length_eq_zero (by omega)
    subst this
    exact ⟨fun _ => ⟨[], fun _ h => (by cases h), rfl⟩, fun _ => rfl⟩
  | f + 1, l, hb, hl, hf => by
    by_cases h0 : l = []
    · subst h0
      exact ⟨fun _ => ⟨[], fun _ h => (by cases h), rfl⟩, fun _ => rfl⟩
    · have he : l.isEmpty = false := by
        cases l with
        | nil => exact absurd rfl h0
        | cons => rfl
      unfold kvF
      rw [he, Bool.false_or]
      cases hh : headF l with
      | none =>
        refine ⟨fun h => (by cases h), fun ⟨L, hL, hk⟩ => ?_⟩
        rcases L with _ | ⟨v, L⟩
        · exact absurd hk.symm h0
        · have hv := hL v (by simp)
          rw [keys_cons] at hk
          have := head_key v (keys L) hv.1 hv.2
          rw [hk, hh] at this
          cases this
      | some p =>
        obtain ⟨v, n⟩ := p
        obtain ⟨hm, hfi, r, hr, hn⟩ := head_some l hb hl v n hh
        have hp : 0 < v.key.length := List.length_pos_iff.2 (key_ne v)
        have hrl : l.length = v.key.length + r.length := by rw [hr, List.length_append]
        have hd : l.drop n = r := by rw [hn]; conv => lhs; rw [hr]
                                     rw [List.drop_left]
        have ih := kvF_iff f r (fun x hx => hb x (by rw [hr]; exact List.mem_append_right _ hx)) (by omega) (by omega)
        simp only [hd]
        rw [ih]
        constructor
        · rintro ⟨L, hL, hk⟩
          refine ⟨v :: L, fun x hx => ?_, by rw [keys_cons, hk, ← hr]⟩
          rcases List.mem_cons.1 hx with rfl | hx
          · exact ⟨hm, hfi.1⟩
          · exact hL x hx
        · rintro ⟨L, hL, hk⟩
          rcases L with _ | ⟨u, L⟩
          · exact absurd hk.symm h0
          · have hu := hL u (by simp)
            rw [keys_cons, hr] at hk
            obtain ⟨_, e2⟩ := key_unique hu.1 hu.2 hm hfi.1 hk
            exact ⟨L, fun x hx => hL x (by simp [hx]), e2⟩
/-- Is a text the key of one value or more? -/
def isKeyB (s : ByteArray) : Bool := !(s.size == 0) && kvF s.size (sb s)
theorem isKeyB_iff (s : ByteArray) (hs : s.size ≤ 100000) (h0 : ¬ s.size = 0) : isKeyB s = true ↔ ∃ L, Good1 L ∧ keys L = sb s := by
  unfold isKeyB
  rw [← kvF_iff s.size (sb s) (sb_byte s) (by rw [sb_length]; exact hs) (by rw [sb_length]; exact Nat.le_refl _)]
  simp [h0]
theorem isKeyB_empty (s : ByteArray) (h0 : s.size = 0) : isKeyB s = false := by
  unfold isKeyB; simp [h0]
theorem emptyL : (⟨#[]⟩ : ByteArray).toList = [] := by simp [ByteArray.toList_eq]
theorem size_ne (s : ByteArray) : (s.toList == (⟨#[]⟩ : ByteArray).toList) = (s.size == 0) := by
  rw [emptyL]
  cases h : s.size == 0
  · rw [beq_eq_false_iff_ne]
    intro h1
    have : s.size = 0 := by
      have := congrArg List.length h1
      simpa [ByteArray.toList_eq] using this
    simp [this] at h
  · rw [beq_iff_eq] at h ⊢
    apply List.eq_nil_of_length_eq_zero
    rw [ByteArray.toList_eq]
    simpa using h
theorem size_e (s : ByteArray) : s.toList.isEmpty = (s.size == 0) := by
  rw [← size_ne s, emptyL]
  cases s.toList <;> rfl
/-- The key of an Int is one. -/
theorem isKeyB_int (n : Int) (h0 : -9223372036854775808 ≤ n) (h1 : n ≤ 9223372036854775807) : isKeyB (bs (keys [⟨2, n, ⟨#[]⟩⟩])) = true := by
  have hg : Good1 [(⟨2, n, ⟨#[]⟩⟩ : Vl)] := fun x hx => by
    rw [List.mem_singleton.1 hx]
    exact ⟨by simp [Vl.may, mayF], h0, h1, by simp [ByteArray.size]⟩
  have hl : (keys [(⟨2, n, ⟨#[]⟩⟩ : Vl)]).length = 9 := by simp [keys, Vl.key, keyV, hi_len]
  have hb : ∀ x ∈ keys [(⟨2, n, ⟨#[]⟩⟩ : Vl)], x < 256 := by
    intro x hx
    simp [keys, Vl.key, keyV, hi] at hx
    omega
  rw [isKeyB_iff _ (by rw [bs_size, hl]; omega) (by rw [bs_size, hl]; omega)]
  exact ⟨_, hg, (sb_bs _ hb).symm⟩
end Go.Proofs.YtjkmbggaoinkdaaDoor
