/-
  The key of a row of values: the program's.
-/
import Derived.Test.YtcdjeibcnkpadaaDoorKeyC
namespace Go.Proofs.YtcdjeibcnkpadaaDoor
open Go.RowKit Dg
/-- A value. -/
structure Vl where
  k : Int
  n : Int
  s : ByteArray
def Vl.may (x : Vl) : Bool := mayF x.k x.n x.s
def Vl.key (x : Vl) : List Nat := keyV x.k x.n x.s
def Vl.val (x : Vl) : Value := .agg #[.int .i64 x.k, .int .i64 x.n, .string x.s]
def Vl.cells (x : Vl) : List Value := [.int .i64 x.k, .int .i64 x.n, .string x.s]
/-- Its number is one of 64 bits. -/
def Vl.fit (x : Vl) : Prop := -9223372036854775808 ≤ x.n ∧ x.n ≤ 9223372036854775807 ∧ x.s.size ≤ 140737488355328
/-- The cells at A read as the values L. -/
def VRow (w : World) (A : Option Addr) (L : List Vl) : Prop :=
  L ≠ [] → ∃ b off, A = some ⟨b, off, none⟩ ∧ ∀ i (h : i < L.length), w.cell? ⟨b, off + i * 3, none⟩ = some (.int .i64 L[i].k) ∧ w.cell? ⟨b, off + i * 3 + 1, none⟩ = some (.int .i64 L[i].n) ∧ w.cell? ⟨b, off + i * 3 + 2, none⟩ = some (.string L[i].s)
theorem VRow.below {w w' : World} {A : Option Addr} {L : List Vl} (h : VRow w A L) (hb : Below w.heap.size w w') : VRow w' A L := fun hl => by
  obtain ⟨b, off, e, hc⟩ := h hl
  refine ⟨b, off, e, fun i hi => ?_⟩
  obtain ⟨h0, h1, h2⟩ := hc i hi
  exact ⟨(hb.cell (World.block_lt_of_cell? w _ h0)).trans h0, (hb.cell (World.block_lt_of_cell? w _ h1)).trans h1, (hb.cell (World.block_lt_of_cell? w _ h2)).trans h2⟩
/-- The keys of values, one behind the other. -/
def keys (L : List Vl) : List Nat := L.flatMap Vl.key
theorem keys_succ (L : List Vl) (k : Nat) (h : k < L.length) : keys (L.take (k + 1)) = keys (L.take k) ++ L[k].key := by
  unfold keys
  rw [List.take_succ_eq_append_getElem h, List.flatMap_append]
  simp
theorem mem_take {α : Type} (L : List α) (k : Nat) (h : k < L.length) : L[k] ∈ L.take (k + 1) := by
  rw [List.take_succ_eq_append_getElem h]
  exact List.mem_append_right _ (List.mem_singleton.2 rfl)
theorem short_size {n : Int} {s : ByteArray} (h : short n s = true) : s.size ≤ 4096 := by
  unfold short at h; simp at h; exact h.2
theorem empty_size {s : ByteArray} (h : s.toList.isEmpty = true) : s.size = 0 := by
  rw [ByteArray.toList_eq] at h
  obtain ⟨⟨l⟩⟩ := s
  simp at h
  subst h; rfl
theorem may_size {k n : Int} {s : ByteArray} (h : mayF k n s = true) : s.size ≤ 4096 := by
  unfold mayF at h
  repeat' split at h
  all_goals first
    | (simp only [Bool.and_eq_true] at h; first | (have := empty_size h.2; omega) | (have := empty_size h.1; omega) | exact short_size h.1)
    | (have := empty_size h; omega)
    | exact short_size h
    | cases h
theorem keys_le (L : List Vl) (k : Nat) (hk : k ≤ L.length) (h : ∀ x ∈ L.take k, x.may = true) : (keys (L.take k)).length ≤ 8201 * k := by
  induction k with
  | zero => simp [keys]
  | succ k ih =>
    rw [keys_succ L k (by omega), List.length_append]
    have h1 := ih (by omega) (fun x hx => h x (by rw [List.take_succ_eq_append_getElem (by omega)]; exact List.mem_append_left _ hx))
    have h2 : L[k].may = true := h _ (mem_take L k (by omega))
    have h3 := keyV_len L[k].k L[k].n L[k].s
    have h4 := may_size h2
    unfold Vl.key
    omega
set_option maxHeartbeats 2000000 in
set_option maxRecDepth 100000 in
theorem key_any (A : Option Addr) (L : List Vl) (n c : Nat) (w : World) (hn : L.length = n) (hl : n ≤ 8) (hA : VRow w A L) (hf : ∀ x ∈ L, x.fit) (hT : Tabs w) (e : Nat) (K : List Nat)
    (hE : (∀ x ∈ L, x.may = true) ∧ e = 0 ∧ K = keys L ∨ (∃ x ∈ L, x.may = false) ∧ e = 1 ∧ K = []) :
    Calls Tryd.prog 80 #[.slice A n c] w fun x w' => x = .returned (.tuple #[.string (bs K), .int .i64 e]) ∧ Hid (Below w.heap.size w w') := by
  have HN := Lib.hid hn
  have HA := Lib.hid hA
  have HT := Lib.hid hT
  have HF := Lib.hid hf
  have HE := Lib.hid hE
  clear hn hA hT hf hE
  go_enter Tryd.func80, Tryd.ntmps80
  go_wp2_with fail
  go_loopw [4, 9] (fun x i wr => ∃ (k : Nat) (u : Value), k ≤ n ∧ i = .int .i64 k ∧ u = x ∧ Hid (∀ x ∈ L.take k, x.may = true) ∧ Hid (Own w.heap.size wr u (keys (L.take k))) ∧ Hid (Below w.heap.size w wr)) (fun _ i _ => n - (intOf i).toNat)
  case atStart => exact ⟨0, _, by omega, rfl, rfl, fun x hx => by simp at hx, own_nil _ _, Below.refl _ _⟩
  case round =>
    obtain ⟨k, u, hk, rfl, rfl, HM, HO, HB⟩ := hrel
    by_cases hlt : k < n
    · have hkl : k < L.length := by rw [HN.out]; exact hlt
      obtain ⟨b, off, rfl, hc⟩ := (HA.out.below HB.out) (by intro e; rw [e] at hkl; simp at hkl)
      obtain ⟨c0, c1, c2⟩ := hc k hkl
      have hfit := HF.out L[k] (List.getElem_mem hkl)
      have HKS := Lib.hid (keys_succ L k hkl)
      have HLE := Lib.hid (keys_le L k (by omega) HM.out)
      have HX : Hid (L[k] ∈ L) := List.getElem_mem hkl
      have HMS : Hid (L[k].may = true → ∀ x ∈ L.take (k + 1), x.may = true) := fun h x hx => by
        rw [List.take_succ_eq_append_getElem hkl] at hx
        rcases List.mem_append.1 hx with h1 | h1
        · exact HM.out x h1
        · rw [List.mem_singleton.1 h1]; exact h
      clear hc
      generalize L[k] = x at *
      obtain ⟨xk, xn, xs⟩ := x
      obtain ⟨f0, f1, f2⟩ := hfit
      simp only at c0 c1 c2 f0 f1 f2
      have HB0 := Lib.hid ((Below.refl wr.heap.size wr).alloc (Nat.le_refl _) (.cells #[.int .i64 xk, .int .i64 xn, .string xs] 68))
      have HH0 : Hid (Has (wr.alloc (.cells #[.int .i64 xk, .int .i64 xn, .string xs] 68)) wr.heap.size 68 #[.int .i64 xk, .int .i64 xn, .string xs]) := Has.new _ _ _
      go_wp2_with fail
      refine (may_any xk xn xs _ (by omega) ((HT.out.below HB.out).below HB0.out)).mono ?_
      rintro e1 w1 ⟨rfl, hb1⟩
      have HB1 := Lib.hid (HB.out.trans ((HB0.out.trans (hb1.out.mono HB0.out.size)).mono HB.out.size))
      have HH1 := Lib.hid (HH0.out.below hb1.out HH0.out.lt)
      have HO1 := Lib.hid (HO.out.below (HB0.out.trans (hb1.out.mono HB0.out.size)))
      have d0 := HH1.out.cell 0
      have d1 := HH1.out.cell 1
      have d2 := HH1.out.cell 2
      simp at d0 d1 d2
      clear HB0 HH0 HH1 hb1 c0 c1 c2
      cases hm : mayF xk xn xs
      · have HEE : Hid (e = 1 ∧ K = []) := by
          rcases HE.out with h | h
          · have := h.1 _ HX.out; unfold Vl.may at this; simp only at this; rw [hm] at this; cases this
          · exact h.2
        obtain ⟨rfl, rfl⟩ := HEE.out
        clear HE
        go_wp2_with fail
        go_ret2
        exact ⟨rfl, HB1.out⟩
      · have hsz := may_size hm
        go_wp2_with fail
        refine (addKey_any w.heap.size u _ xk xn xs w1 HO1.out HB1.out.size (by have := HLE.out; omega) f0 f1).mono ?_
        rintro e2 w2 ⟨v2, rfl, HO2, HB2⟩
        go_wp2_with fail
        go_roundw
        case rel => exact ⟨k + 1, v2, by omega, by go_num, rfl, HMS.out hm, by rw [HKS.out]; exact HO2, HB1.out.trans HB2.out⟩
        case measure => simp [intOf]; omega
    · obtain rfl : k = n := by omega
      have HEE : Hid (e = 0 ∧ K = keys (L.take k)) := by
        have ht : L.take k = L := List.take_of_length_le (by rw [HN.out]; exact Nat.le_refl _)
        rw [ht]
        have hm := HM.out
        rw [ht] at hm
        rcases HE.out with h | h
        · exact h.2
        · obtain ⟨⟨x, hx, h1⟩, _⟩ := h
          rw [hm x hx] at h1; cases h1
      obtain ⟨rfl, rfl⟩ := HEE.out
      clear HE
      obtain ⟨A1, n1, c1, rfl, HL1, hconv⟩ := own_conv HO.out
      go_wp2_with fail
      go_ret2
      exact ⟨rfl, HB.out⟩
end Go.Proofs.YtcdjeibcnkpadaaDoor
