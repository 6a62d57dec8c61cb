/-
  Keys in order: what a put and a cut do to a list; mathematics.
-/
import Derived.Test.YtmapclocbhkpbaaTrM
import Derived.WideAt
namespace Go.Proofs.Ytmapclocbhkpbaa
open Go.RowKit Go.Maps Dg Go.WideShapes
set_option linter.unusedVariables false
theorem less_before' : ∀ a b : List UInt8, Op.bytesLess a b = bytesBefore a b
  | [], [] => rfl
  | [], _ :: _ => rfl
  | _ :: _, [] => rfl
  | x :: a, y :: b => by
    show (x < y || (x == y && Op.bytesLess a b)) = (x < y || (x == y && bytesBefore a b))
    rw [less_before' a b]
theorem toList_inj {a b : ByteArray} (h : a.toList = b.toList) : a = b := by
  rw [ByteArray.toList_eq, ByteArray.toList_eq] at h
  obtain ⟨⟨a⟩⟩ := a
  obtain ⟨⟨b⟩⟩ := b
  simpa using h
theorem kl_irrefl (a : ByteArray) : kl a a = false := by unfold kl; rw [less_before']; exact WideAt.bytes_irrefl _
theorem kl_trans {a b c : ByteArray} (h : kl a b = true) (k : kl b c = true) : kl a c = true := by
  unfold kl at *
  rw [less_before'] at *
  exact bytes_trans _ _ _ h k
theorem kl_total {a b : ByteArray} (h : a ≠ b) : kl a b = true ∨ kl b a = true := by
  unfold kl
  rw [less_before', less_before']
  exact WideAt.bytes_total _ _ fun e => h (toList_inj e)
theorem kl_asymm {a b : ByteArray} (h : kl a b = true) : kl b a = false := by
  cases k : kl b a with
  | false => rfl
  | true => have := kl_trans h k; rw [kl_irrefl] at this; cases this
theorem eq_iff {a b : ByteArray} : (a.toList == b.toList) = true ↔ a = b := ⟨fun h => toList_inj (by simpa using h), fun h => by rw [h]; simp⟩
/-- Keys rise. -/
def Rises : List (ByteArray × Int) → Prop
  | [] => True
  | x :: r => (∀ y ∈ r, kl x.1 y.1 = true) ∧ Rises r
theorem Rises.app {a b : List (ByteArray × Int)} : Rises (a ++ b) ↔ Rises a ∧ Rises b ∧ ∀ x ∈ a, ∀ y ∈ b, kl x.1 y.1 = true := by
  induction a with
  | nil => simp [Rises]
  | cons x a ih =>
    simp only [List.cons_append, Rises, ih, List.mem_append, List.mem_cons]
    constructor
    · rintro ⟨h1, h2, h3, h4⟩
      exact ⟨⟨fun y hy => h1 y (.inl hy), h2⟩, h3, fun z hz y hy => hz.elim (fun e => by rw [e]; exact h1 y (.inr hy)) (fun hz => h4 z hz y hy)⟩
    · rintro ⟨⟨h1, h2⟩, h3, h4⟩
      exact ⟨fun y hy => hy.elim (h1 y) (fun hy => h4 x (.inl rfl) y hy), h2, h3, fun z hz y hy => h4 z (.inr hz) y hy⟩
/-- A thing is put at a key. -/
def putL (k : ByteArray) (v : Int) : List (ByteArray × Int) → List (ByteArray × Int)
  | [] => [(k, v)]
  | x :: r => if kl k x.1 then (k, v) :: x :: r else if kl x.1 k then x :: putL k v r else (k, v) :: r
/-- A key is cut. -/
def cutL (k : ByteArray) (l : List (ByteArray × Int)) : List (ByteArray × Int) := l.filter fun x => !(x.1.toList == k.toList)
/-- What stands at a key. -/
def getL (k : ByteArray) (l : List (ByteArray × Int)) : Option Int := (l.find? fun x => x.1.toList == k.toList).map (·.2)
theorem putL_lt {k : ByteArray} {v : Int} {x : ByteArray × Int} {r : List (ByteArray × Int)} (h : kl k x.1 = true) : ∀ l, putL k v (l ++ x :: r) = putL k v l ++ x :: r
  | [] => by simp [putL, h]
  | y :: l => by
    simp only [List.cons_append, putL]
    split
    · rfl
    · split
      · rw [putL_lt h l]; rfl
      · rfl
theorem putL_gt {k : ByteArray} {v : Int} {x : ByteArray × Int} {r : List (ByteArray × Int)} (h : kl x.1 k = true) : ∀ l, (∀ y ∈ l, kl y.1 x.1 = true) → putL k v (l ++ x :: r) = l ++ x :: putL k v r
  | [], _ => by simp [putL, h, kl_asymm h]
  | y :: l, hl => by
    have hy := kl_trans (hl y List.mem_cons_self) h
    simp only [List.cons_append, putL, hy, kl_asymm hy, if_true]
    rw [putL_gt h l fun z hz => hl z (List.mem_cons_of_mem _ hz)]
    simp
theorem putL_eq {k : ByteArray} {v u : Int} {r : List (ByteArray × Int)} : ∀ l, (∀ y ∈ l, kl y.1 k = true) → putL k v (l ++ (k, u) :: r) = l ++ (k, v) :: r
  | [], _ => by simp [putL, kl_irrefl]
  | y :: l, hl => by
    have hy := hl y List.mem_cons_self
    simp only [List.cons_append, putL, hy, kl_asymm hy, if_true]
    rw [putL_eq l fun z hz => hl z (List.mem_cons_of_mem _ hz)]
    simp
theorem putL_mem {k : ByteArray} {v : Int} : ∀ {l : List (ByteArray × Int)} {y}, y ∈ putL k v l → y.1 = k ∨ y ∈ l
  | [], y, h => by simp [putL] at h; exact .inl (by rw [h])
  | x :: l, y, h => by
    unfold putL at h
    split at h
    · rcases List.mem_cons.1 h with h | h
      · exact .inl (by rw [h])
      · exact .inr h
    · split at h
      · rcases List.mem_cons.1 h with h | h
        · exact .inr (by rw [h]; exact List.mem_cons_self)
        · exact (putL_mem h).imp id (List.mem_cons_of_mem _)
      · rcases List.mem_cons.1 h with h | h
        · exact .inl (by rw [h])
        · exact .inr (List.mem_cons_of_mem _ h)
theorem putL_rises {k : ByteArray} {v : Int} : ∀ {l : List (ByteArray × Int)}, Rises l → Rises (putL k v l)
  | [], _ => ⟨fun y hy => (by cases hy), trivial⟩
  | x :: l, ⟨h1, h2⟩ => by
    unfold putL
    split
    · rename_i hk
      exact ⟨fun y hy => (List.mem_cons.1 hy).elim (fun e => by rw [e]; exact hk) (fun hy => kl_trans hk (h1 y hy)), h1, h2⟩
    · split
      · rename_i _ hk
        exact ⟨fun y hy => (putL_mem hy).elim (fun e => by rw [e]; exact hk) (h1 y), putL_rises h2⟩
      · rename_i hk1 hk2
        have e : x.1 = k := by
          apply Classical.byContradiction
          intro hne
          rcases kl_total hne with h | h
          · exact hk2 h
          · exact hk1 h
        exact ⟨fun y hy => by rw [← e]; exact h1 y hy, h2⟩
theorem putL_len {k : ByteArray} {v : Int} : ∀ (l : List (ByteArray × Int)), (putL k v l).length ≤ l.length + 1
  | [] => by simp [putL]
  | x :: l => by
    unfold putL
    have := putL_len (k := k) (v := v) l
    split
    · simp
    · split
      · simp; omega
      · simp
end Go.Proofs.Ytmapclocbhkpbaa
