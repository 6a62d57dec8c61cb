/-
  Same; what a list of keys comes to, whatever row they came in.
-/
import Derived.Test.YtmapclocbhkpbaaTrZ
namespace Go.Proofs.Ytmapclocbhkpbaa
open Go.RowKit Go.Maps Dg
set_option linter.unusedVariables false
/-- Texts that can be read from an address on. -/
def RdS (w : World) (A : Option Addr) (L : List ByteArray) : Prop := ∀ i (_ : i < L.length), ∃ b off, A = some ⟨b, off, none⟩ ∧ w.cell? ⟨b, off + i, none⟩ = some (.string L[i])
theorem RdS.hp {w w' : World} {A : Option Addr} {L : List ByteArray} (h : RdS w A L) (e : ∀ p u, w.cell? p = some u → w'.cell? p = some u) : RdS w' A L := fun i hi => by
  obtain ⟨b, off, ea, hc⟩ := h i hi
  exact ⟨b, off, ea, e _ _ hc⟩
set_option maxHeartbeats 2000000 in
set_option maxRecDepth 100000 in
theorem same_any (L : List ByteArray) (w : World) (A B : Option Addr) (n c d : Nat) (hL : L.length = n) (hA : RdS w A L) (hB : RdS w B L) (hn : n ≤ 1000000) :
    Calls Try.prog 16 #[.slice A n c, .slice B n d] w fun e w' => e = .returned (.bool true) ∧ ∃ j, w' = w.drewN j := by
  have HL := Lib.hid hL
  have HA := Lib.hid hA
  have HB := Lib.hid hB
  clear hL hA hB
  go_enter Try.func16, Try.ntmps16
  go_wp2_with fail
  go_loopw [5] (fun u wr => ∃ (i j : Nat), i ≤ n ∧ u = .int .i64 i ∧ wr = w.drewN j) (fun u _ => n - (intOf u).toNat)
  case atStart => exact ⟨0, 0, by omega, rfl, rfl⟩
  case round =>
    obtain ⟨i, j, hi, rfl, rfl⟩ := hrel
    by_cases hlt : i < n
    · have hil : i < L.length := by rw [HL.out]; exact hlt
      have hiI : (i : Int) < (n : Int) := by omega
      obtain ⟨b, off, rfl, c0⟩ := HA.out i hil
      obtain ⟨b2, off2, rfl, c1⟩ := HB.out i hil
      generalize L[i] = s at *
      have c0' : (w.drewN j).cell? ⟨b, off + i, none⟩ = some (.string s) := c0
      have c1' : (w.drewN j).cell? ⟨b2, off2 + i, none⟩ = some (.string s) := c1
      go_wp2_with fail
      go_region_held3 (fun X => X.cell? ⟨b, off + i, none⟩ = some (.string s) ∧ X.cell? ⟨b2, off2 + i, none⟩ = some (.string s)) (exact ⟨c0', c1'⟩) (first | fail)
      go_wp2_with fail
      go_roundw
      case rel => exact ⟨i + 1, j + 1, by omega, by go_num, rfl⟩
      case measure => simp [intOf]; omega
    · go_wp2_with fail
      go_ret
      exact ⟨rfl, j, rfl⟩
theorem putL_mem2 {k : ByteArray} {v : Int} : ∀ {l : List (ByteArray × Int)} {y}, y ∈ putL k v l → y = (k, v) ∨ y ∈ l
  | [], y, h => by simp [putL] at h; exact .inl h
  | x :: l, y, h => by
    unfold putL at h
    split at h
    · rcases List.mem_cons.1 h with h | h
      · exact .inl h
      · exact .inr h
    · split at h
      · rcases List.mem_cons.1 h with h | h
        · exact .inr (by rw [h]; exact List.mem_cons_self)
        · exact (putL_mem2 h).imp id (List.mem_cons_of_mem _)
      · rcases List.mem_cons.1 h with h | h
        · exact .inl h
        · exact .inr (List.mem_cons_of_mem _ h)
theorem putL_new {k : ByteArray} {v : Int} : ∀ (l : List (ByteArray × Int)), (k, v) ∈ putL k v l
  | [] => by simp [putL]
  | x :: l => by
    unfold putL
    split
    · exact List.mem_cons_self
    · split
      · exact List.mem_cons_of_mem _ (putL_new l)
      · exact List.mem_cons_self
theorem putL_old {k : ByteArray} {v : Int} {y : ByteArray × Int} (hy : y.1 ≠ k) : ∀ {l : List (ByteArray × Int)}, y ∈ l → y ∈ putL k v l
  | x :: l, h => by
    unfold putL
    split
    · exact List.mem_cons_of_mem _ h
    · split
      · rcases List.mem_cons.1 h with h | h
        · rw [h]; exact List.mem_cons_self
        · exact List.mem_cons_of_mem _ (putL_old hy h)
      · rename_i h1 h2
        rcases List.mem_cons.1 h with h | h
        · exfalso
          rw [h] at hy
          rcases kl_total hy with q | q
          · exact h2 q
          · exact h1 q
        · exact List.mem_cons_of_mem _ h
theorem rises_ext : ∀ {A B : List (ByteArray × Int)}, Rises A → Rises B → (∀ x, x ∈ A ↔ x ∈ B) → A = B
  | [], [], _, _, _ => rfl
  | [], y :: B, _, _, h => by have := (h y).2 List.mem_cons_self; cases this
  | x :: A, [], _, _, h => by have := (h x).1 List.mem_cons_self; cases this
  | x :: A, y :: B, ⟨a1, a2⟩, ⟨b1, b2⟩, h => by
    have e : x = y := by
      rcases List.mem_cons.1 ((h x).1 List.mem_cons_self) with e | hx
      · exact e
      · rcases List.mem_cons.1 ((h y).2 List.mem_cons_self) with e | hy
        · exact e.symm
        · have q := kl_trans (b1 x hx) (a1 y hy)
          rw [kl_irrefl] at q
          cases q
    subst e
    have hAB : A = B := rises_ext a2 b2 fun z => by
      constructor
      · intro hz
        rcases List.mem_cons.1 ((h z).1 (List.mem_cons_of_mem _ hz)) with e | hz2
        · have q := a1 z hz
          rw [e, kl_irrefl] at q
          cases q
        · exact hz2
      · intro hz
        rcases List.mem_cons.1 ((h z).2 (List.mem_cons_of_mem _ hz)) with e | hz2
        · have q := b1 z hz
          rw [e, kl_irrefl] at q
          cases q
        · exact hz2
    rw [hAB]
/-- Just those keys stand there, each with its length. -/
def Just (P : ByteArray → Prop) (C : List (ByteArray × Int)) : Prop := (∀ x ∈ C, x.2 = (x.1.size : Int)) ∧ ∀ q, (∃ x ∈ C, x.1 = q) ↔ P q
theorem Just.mem {P : ByteArray → Prop} {C : List (ByteArray × Int)} (h : Just P C) (x : ByteArray × Int) : x ∈ C ↔ x.2 = (x.1.size : Int) ∧ P x.1 := by
  constructor
  · intro hx
    exact ⟨h.1 x hx, (h.2 x.1).1 ⟨x, hx, rfl⟩⟩
  · rintro ⟨h1, h2⟩
    obtain ⟨y, hy, e⟩ := (h.2 x.1).2 h2
    have : y = x := by
      have := h.1 y hy
      obtain ⟨a, b⟩ := x
      obtain ⟨c, d⟩ := y
      simp at *
      subst e
      exact ⟨rfl, by omega⟩
    rw [← this]
    exact hy
theorem Just.same {P Q : ByteArray → Prop} {A B : List (ByteArray × Int)} (hA : Rises A) (hB : Rises B) (h : Just P A) (k : Just Q B) (hPQ : ∀ q, P q ↔ Q q) : A = B :=
  rises_ext hA hB fun x => by rw [h.mem, k.mem, hPQ]
theorem Just.put {P : ByteArray → Prop} {C : List (ByteArray × Int)} (h : Just P C) (k : ByteArray) : Just (fun q => q = k ∨ P q) (putL k (k.size : Int) C) := by
  refine ⟨fun x hx => ?_, fun q => ⟨?_, ?_⟩⟩
  · rcases putL_mem2 hx with e | hx
    · rw [e]
    · exact h.1 x hx
  · rintro ⟨x, hx, e⟩
    rcases putL_mem2 hx with e2 | hx
    · exact .inl (by rw [← e, e2])
    · exact .inr ((h.2 q).1 ⟨x, hx, e⟩)
  · rintro (e | hq)
    · exact ⟨_, putL_new C, e.symm⟩
    · obtain ⟨x, hx, e⟩ := (h.2 q).2 hq
      by_cases hk : q = k
      · exact ⟨_, putL_new C, hk.symm⟩
      · exact ⟨x, putL_old (by rw [e]; exact hk) hx, e⟩
theorem keysL_all {C : List (ByteArray × Int)} {most : Int} (h1 : ¬ most < 1) (h2 : (C.length : Int) ≤ most) : keysL C ⟨#[]⟩ most = C.map (·.1) := by
  unfold keysL
  rw [if_neg h1]
  have e1 : C.filter (fun x => !kl x.1 ⟨#[]⟩) = C := by
    rw [List.filter_eq_self]
    intro x _
    have : kl x.1 ⟨#[]⟩ = false := by
      unfold kl
      rw [ByteArray.toList_eq ⟨#[]⟩]
      cases x.1.toList <;> rfl
    rw [this]
    rfl
  have e2 : C.filter (fun x => !skp ⟨#[]⟩ x.1) = C := by
    rw [List.filter_eq_self]
    intro x _
    have : skp ⟨#[]⟩ x.1 = false := by
      unfold skp
      rw [ByteArray.toList_eq ⟨#[]⟩]
      simp
    rw [this]
    rfl
  rw [e1, e2, List.take_of_length_le]
  rw [List.length_map]
  omega
theorem getL_at {C : List (ByteArray × Int)} (h : Rises C) {x : ByteArray × Int} (hx : x ∈ C) : getL x.1 C = some x.2 := by
  induction C with
  | nil => cases hx
  | cons y C ih =>
    obtain ⟨h1, h2⟩ := h
    rcases List.mem_cons.1 hx with e | hx
    · subst e
      exact getL_cons_eq
    · rw [getL_cons_ne (ne_of_kl (h1 x hx))]
      exact ih h2 hx
theorem rises_at {C : List (ByteArray × Int)} (h : Rises C) : ∀ (i : Nat) (hi : i + 1 < C.length), kl (C[i].1) (C[i + 1].1) = true := by
  induction C with
  | nil => intro i hi; simp at hi
  | cons y C ih =>
    obtain ⟨h1, h2⟩ := h
    intro i hi
    rcases i with _ | i
    · simp only [List.getElem_cons_zero, List.getElem_cons_succ]
      exact h1 _ (List.getElem_mem _)
    · simp only [List.getElem_cons_succ]
      exact ih h2 i (by simpa using hi)
end Go.Proofs.Ytmapclocbhkpbaa
