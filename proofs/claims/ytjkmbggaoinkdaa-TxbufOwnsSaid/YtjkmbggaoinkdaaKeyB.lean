/-
  Keys' bytes; and what puts them behind others.
-/
import Derived.Test.YtjkmbggaoinkdaaVal
namespace Go.Proofs.Ytjkmbggaoinkdaa
open Go.RowKit Dg
theorem info5 : (Try.prog.info? 5).map (fun i => (i.zero, i.size, i.bytes)) = some (some (.int .u8 0), 1, 1) := by kernel_rfl
/-- Bytes in a row of the call's own. -/
def Own (B : Nat) (w : World) (v : Value) (l : List Nat) : Prop := w.ownsRow B 5 1 v l.length (l.map bv)
/-- Bytes come back, in a row of the call's own. -/
def OutO (w : World) (l : List Nat) (e : Ending) (w' : World) : Prop := ∃ v, e = .returned v ∧ Own w.heap.size w' v l ∧ Below w.heap.size w w'
theorem own_nil (B : Nat) (w : World) : Own B w (.slice none 0 0) [] := World.ownsRow_nil _ _ _ _
theorem Own.below {B : Nat} {w w' : World} {v : Value} {l : List Nat} (h : Own B w v l) (hb : Below w.heap.size w w') : Own B w' v l := by
  rcases h.2 with ⟨hv, hn⟩ | ⟨g, cap, cur, hv, hg, hh, hc, hcm, hsz, ht⟩
  · exact ⟨h.1, .inl ⟨hv, hn⟩⟩
  · exact ⟨h.1, .inr ⟨g, cap, cur, hv, hg, Has.below (t := 5) (cs := cur) hh hb (Has.lt (t := 5) (cs := cur) hh), hc, hcm, hsz, ht⟩⟩
theorem own_full {B : Nat} {w : World} {v : Value} {l : List Nat} (h : Own B w v l) : ∃ A c, v = .slice A l.length c ∧ l.length ≤ c ∧ Rd w A l := by
  rcases h.2 with ⟨hv, hn⟩ | ⟨g, cap, cur, hv, _, hh, hc, _, _, ht⟩
  · obtain rfl := List.eq_nil_of_length_eq_zero hn
    exact ⟨none, 0, hv, Nat.le_refl _, Rd.nil _ _⟩
  · subst hv
    exact ⟨_, _, rfl, hc, Rd.of_has (t := 5) (cs := cur) hh fun i hi => by
      have h1 : (l.map bv)[i]? = some (bv l[i]) := by simp [hi]
      rw [← ht, List.getElem?_take, if_pos (by omega)] at h1
      simpa using h1⟩
/-- Blocks of other types are as they were. -/
def Kept (w w' : World) : Prop := ∀ (g : Nat) (t : TypeId) (cs : Array Value), t ≠ 5 → Has w g t cs → Has w' g t cs
theorem Kept.trans {a b c : World} (h : Kept a b) (k : Kept b c) : Kept a c := fun g t cs ht hh => k g t cs ht (h g t cs ht hh)
theorem Kept.below {a b : World} (h : Below a.heap.size a b) : Kept a b := fun _ _ _ _ hh => hh.below h hh.lt
/-- The bytes of a number, the highest one first. -/
def hi (n : Int) (size k : Nat) : List Nat := (List.range k).map fun i => (n / 2 ^ (8 * (size - 1 - i)) % 256).toNat
theorem hi_succ (n : Int) (size k : Nat) : hi n size (k + 1) = hi n size k ++ [(n / 2 ^ (8 * (size - 1 - k)) % 256).toNat] := by
  unfold hi; rw [List.range_succ, List.map_append]; rfl
theorem hi_len (n : Int) (size k : Nat) : (hi n size k).length = k := by simp [hi]
/-- A text as it stands in a key, without its end. -/
def esc : List Nat → List Nat
  | [] => []
  | x :: t => if x = 0 then 0 :: 255 :: esc t else x :: esc t
theorem esc_append : ∀ l m : List Nat, esc (l ++ m) = esc l ++ esc m
  | [], _ => rfl
  | x :: t, m => by
    simp only [List.cons_append, esc]
    rw [esc_append t m]
    split <;> simp
theorem esc_len : ∀ l : List Nat, (esc l).length ≤ 2 * l.length
  | [] => by simp [esc]
  | x :: t => by
    have := esc_len t
    simp only [esc]
    split <;> simp <;> omega
theorem sb_get (s : ByteArray) (k : Nat) (h : k < s.size) : (sb s)[k]'(by rw [sb_length]; exact h) = (s[k]'h).toNat := by
  simp [sb]
  rfl
theorem sb_take_succ (s : ByteArray) (k : Nat) (h : k < s.size) : (sb s).take (k + 1) = (sb s).take k ++ [(s[k]'h).toNat] := by
  rw [List.take_succ_eq_append_getElem (by rw [sb_length]; exact h), sb_get s k h]
end Go.Proofs.Ytjkmbggaoinkdaa
