/-
  A value as a text: the program's; two of one kind have the same just if they are the same.
-/
import Derived.Test.YtlkhijccjjpbbaaDoorRshow
import Derived.Test.YtlkhijccjjpbbaaDoorShelf
import Derived.Test.YtlkhijccjjpbbaaDoorShelfI
import Derived.Test.YtlkhijccjjpbbaaDoorGood
import Derived.Lib.AppendIntMem
namespace Go.Proofs.YtlkhijccjjpbbaaDoor
open Go.RowKit Dg
/-- The table of powers of ten is as the library lays it. -/
def Pows (w : World) : Prop := Lib.TabIs Tryd.prog w "internal/strconv.uint64pow10" .u64 Lib.pow10Tab
theorem Pows.below {w w' : World} (h : Pows w) (hb : Below w.heap.size w w') : Pows w' := Lib.tabBelow_of_tabIs h w' hb
theorem below_grow {B : Nat} {a w : World} (h : Below B a w) (hB : B ≤ w.heap.size) (k : Nat) (os : Array Obj) : Below B a (Go.Sort.grow (w.drewN k) os) := by
  refine (below_drewN h k).trans ⟨rfl, rfl, rfl, by simp [Go.Sort.grow], fun j hj => ?_⟩
  have hj2 : j < (w.drewN k).heap.size := Nat.lt_of_lt_of_le hj hB
  show ((w.drewN k).heap ++ os)[j]? = _
  rw [Array.getElem?_append_left hj2]
set_option maxHeartbeats 4000000 in
set_option maxRecDepth 100000 in
theorem show_any (k n : Int) (s : ByteArray) (w : World) (hk : k = 0 ∨ k = 1 ∨ k = 2 ∨ k = 3 ∨ k = 4) (hl : s.size ≤ 200) (h0 : -9223372036854775808 ≤ n) (h1 : n ≤ 9223372036854775807) (hP : Pows w) :
    Calls Tryd.prog 26 #[.agg #[.int .i64 k, .int .i64 n, .string s]] w fun e w' => e = .returned (.string (bs (showL k n s))) ∧ Hid (Below w.heap.size w w') := by
  have HW : Hid (Below w.heap.size w (w.alloc (.cells #[.int .i64 k, .int .i64 n, .string s] 23))) := (Below.refl w.heap.size w).alloc (Nat.le_refl _) _
  have HP := Lib.hid hP
  clear hP
  rcases hk with rfl | rfl | rfl | hk
  · go_enter Tryd.func26, Tryd.ntmps26
    go_wp2_with fail
    go_ret
    exact ⟨rfl, HW⟩
  · by_cases hn : n = 1
    · subst hn
      go_enter Tryd.func26, Tryd.ntmps26
      go_wp2_with fail
      refine (Tryd.strconv_FormatBool _ _).mono ?_
      rintro e w1 ⟨rfl, rfl⟩
      go_wp2_with fail
      go_ret
      exact ⟨rfl, HW⟩
    · have hn2 : (n == 1) = false := by simp [hn]
      have HE : Hid (bs (showL 1 n s) = ⟨(Lib.formatBool false).toArray⟩) := by show _ = _; simp [showL, hn]; rfl
      go_enter Tryd.func26, Tryd.ntmps26
      go_wp2_with fail
      refine (Tryd.strconv_FormatBool _ _).mono ?_
      rintro e w1 ⟨rfl, rfl⟩
      go_wp2_with fail
      go_ret
      exact ⟨by rw [HE.out]; rfl, HW⟩
  · have HE : Hid (bs (showL 2 n s) = ⟨(Lib.itoa n).toArray⟩) := itoaN_itoa n
    go_enter Tryd.func26, Tryd.ntmps26
    go_wp2_with fail
    refine (Tryd.strconv_Itoa n h0 h1 _ (HP.out.below HW.out)).mono ?_
    rintro e w1 ⟨rfl, j, os, rfl⟩
    have HB1 := Lib.hid (below_grow HW.out HW.out.size j os)
    go_wp2_with fail
    go_ret
    exact ⟨by rw [HE.out]; rfl, HB1⟩
  · have HE : Hid (bs (showL k n s) = bs (39 :: (quo (sb s) ++ [39]))) := by
      show _ = _
      rcases hk with rfl | rfl <;> rfl
    have k0 : (k == 0) = false := by simp; omega
    have k1 : (k == 1) = false := by simp; omega
    have k2 : (k == 2) = false := by simp; omega
    clear hk
    go_enter Tryd.func26, Tryd.ntmps26
    go_wp2_with fail
    refine (quote_any s _ hl).mono ?_
    rintro e w1 ⟨rfl, hb⟩
    have HB1 := Lib.hid (HW.out.trans (hb.out.mono HW.out.size))
    clear hb
    go_wp2_with fail
    go_ret
    exact ⟨by rw [HE.out]; rfl, HB1⟩
theorem hexd_inj : ∀ a b : Fin 16, hexd a.val = hexd b.val → a = b := by decide
theorem hexd_lt (d : Nat) (h : d < 16) : hexd d < 256 := by unfold hexd; split <;> omega
theorem quo1_byte (c : Nat) (hc : c < 256) : ∀ x ∈ quo1 c, x < 256 := by
  unfold quo1
  intro x hx
  split at hx
  · simp at hx
    rcases hx with rfl | rfl | rfl
    · omega
    · exact hexd_lt _ (by omega)
    · exact hexd_lt _ (by omega)
  · simp at hx; omega
theorem quo_byte : ∀ (l : List Nat), (∀ x ∈ l, x < 256) → ∀ x ∈ quo l, x < 256
  | [], _, x, hx => by simp [quo] at hx
  | y :: t, h, x, hx => by
    rcases List.mem_append.1 (show x ∈ quo1 y ++ quo t from hx) with h1 | h1
    · exact quo1_byte y (h y (by simp)) x h1
    · exact quo_byte t (fun z hz => h z (by simp [hz])) x h1
/-- A piece of a quoted text tells its byte. -/
theorem quo1_inj {a b : Nat} {u v : List Nat} (ha : a < 256) (hb : b < 256) (h : quo1 a ++ u = quo1 b ++ v) : a = b ∧ u = v := by
  unfold quo1 at h
  by_cases oa : odd a = true <;> by_cases ob : odd b = true
  · simp [oa, ob] at h
    obtain ⟨h1, h2, h3⟩ := h
    have e1 := hexd_inj ⟨a / 16, by omega⟩ ⟨b / 16, by omega⟩ h1
    have e2 := hexd_inj ⟨a % 16, by omega⟩ ⟨b % 16, by omega⟩ h2
    simp at e1 e2
    exact ⟨by omega, h3⟩
  · simp [oa, ob] at h
    obtain ⟨rfl, _⟩ := h
    exact (ob (by decide)).elim
  · simp [oa, ob] at h
    obtain ⟨rfl, _⟩ := h
    exact (oa (by decide)).elim
  · simpa [oa, ob] using h
theorem quo1_pos (a : Nat) : quo1 a ≠ [] := by unfold quo1; split <;> simp
theorem quo_inj : ∀ (l m : List Nat), (∀ x ∈ l, x < 256) → (∀ x ∈ m, x < 256) → quo l = quo m → l = m
  | [], [], _, _, _ => rfl
  | [], y :: t, _, _, h => by
    have : quo1 y ++ quo t = [] := h.symm
    exact (quo1_pos y (List.append_eq_nil_iff.1 this).1).elim
  | x :: t, [], _, _, h => by
    have : quo1 x ++ quo t = [] := h
    exact (quo1_pos x (List.append_eq_nil_iff.1 this).1).elim
  | x :: t, y :: u, hl, hm, h => by
    obtain ⟨rfl, h2⟩ := quo1_inj (hl x (by simp)) (hm y (by simp)) (show quo1 x ++ quo t = quo1 y ++ quo u from h)
    rw [quo_inj t u (fun z hz => hl z (by simp [hz])) (fun z hz => hm z (by simp [hz])) h2]
theorem showL_byte (k n : Int) (s : ByteArray) : ∀ x ∈ showL k n s, x < 256 := by
  unfold showL
  intro x hx
  repeat' split at hx
  · simp at hx; omega
  · simp at hx; omega
  · simp at hx; omega
  · exact itoaN_byte n x hx
  · simp at hx
    rcases hx with rfl | h | rfl
    · omega
    · exact quo_byte _ (sb_byte s) x h
    · omega
/-- Two values that may be, of one kind, have the same text just if they are the same. -/
theorem show_eq (k n n' : Int) (s s' : ByteArray) (h : mayF k n s = true) (h' : mayF k n' s' = true) (e : showL k n s = showL k n' s') : n = n' ∧ s = s' := by
  have nil : ∀ {t : ByteArray}, t.toList.isEmpty = true → t = ⟨#[]⟩ := fun {t} ht => by
    have h1 := List.isEmpty_iff.1 ht
    rw [ByteArray.toList_eq] at h1
    have h2 : t.data = #[] := Array.toList_eq_nil_iff.1 h1
    cases t
    simp at h2
    rw [h2]
  unfold mayF at h h'
  unfold showL at e
  by_cases k0 : k = 0
  · rw [if_pos k0] at h h'
    simp only [Bool.and_eq_true, beq_iff_eq] at h h'
    exact ⟨h.1.trans h'.1.symm, (nil h.2).trans (nil h'.2).symm⟩
  by_cases k1 : k = 1
  · rw [if_neg k0, if_pos k1] at h h' e
    rw [if_neg k0, if_pos k1] at e
    simp only [Bool.and_eq_true, Bool.or_eq_true, beq_iff_eq] at h h'
    refine ⟨?_, (nil h.1).trans (nil h'.1).symm⟩
    rcases h.2 with rfl | rfl <;> rcases h'.2 with rfl | rfl <;> simp at e ⊢
  by_cases k2 : k = 2
  · rw [if_neg k0, if_neg k1, if_pos k2] at h h' e
    rw [if_neg k0, if_neg k1, if_pos k2] at e
    exact ⟨itoaN_inj e, (nil h).trans (nil h').symm⟩
  · simp only [k0, k1, k2, if_false] at h h' e
    have hs : short n s = true := by
      split at h
      · simp at h; exact h.1
      · split at h
        · exact h
        · cases h
    have hs' : short n' s' = true := by
      split at h'
      · simp at h'; exact h'.1
      · split at h'
        · exact h'
        · cases h'
    simp [short] at hs hs'
    have hq := (List.append_inj' (List.cons.inj e).2 rfl).1
    have := quo_inj _ _ (sb_byte s) (sb_byte s') hq
    refine ⟨hs.1.trans hs'.1.symm, ?_⟩
    rw [← bs_sb s, ← bs_sb s', this]
end Go.Proofs.YtlkhijccjjpbbaaDoor
