/-
  Put together, as far as it is used: KeyC, KeyD, OwnV, Col, Utf.
-/
import Derived.Test.YtnpmgempkoeapaaGreatDoorPeab
import Derived.Lib.ValidLaws
set_option linter.unusedVariables false
set_option linter.unusedSimpArgs false
set_option linter.defProp false
namespace Go.Proofs.YtnpmgempkoeapaaGreatDoor
open Go.RowKit Dg
theorem xor_half (u : Nat) (h : u < 18446744073709551616) : u ^^^ 9223372036854775808 = (u + 9223372036854775808) % 18446744073709551616 := by
 have h1 := Nat.xor_mod_two_pow (a := u) (b := 9223372036854775808) (n := 63)
 have h2 := Nat.xor_div_two_pow (a := u) (b := 9223372036854775808) (n := 63)
 rw [show (2 : Nat) ^ 63 = 9223372036854775808 by decide] at h1 h2
 rw [show (9223372036854775808 : Nat) % 9223372036854775808 = 0 by decide, Nat.xor_zero] at h1
 rw [show (9223372036854775808 : Nat) / 9223372036854775808 = 1 by decide] at h2
 have h3 : u / 9223372036854775808 = 0 ∨ u / 9223372036854775808 = 1 := by omega
 rcases h3 with h3 | h3 <;> rw [h3] at h2
 ·rw [show (0 : Nat) ^^^ 1 = 1 by decide] at h2; omega
 ·rw [show (1 : Nat) ^^^ 1 = 0 by decide] at h2; omega
def flip (n : Int) : Int := if n < 0 then n + 9223372036854775808 else n - 9223372036854775808
theorem flip_bits (n : Int) (h0 : -9223372036854775808 ≤ n) (h1 : n ≤ 9223372036854775807) : bits .xor .i64 n (-9223372036854775808) = flip n := by
 show IntKind.i64.wrap ((BitVec.ofInt 64 n ^^^ BitVec.ofInt 64 (-9223372036854775808)).toNat : Int) = _
 rw [BitVec.toNat_xor, show (BitVec.ofInt 64 (-9223372036854775808)).toNat = 9223372036854775808 by decide]
 have e : (BitVec.ofInt 64 n).toNat = (n % 18446744073709551616).toNat := by simp [BitVec.toNat_ofInt]
 rw [e, xor_half _ (by omega), IntKind.wrap_i64]
 unfold flip
 split <;> omega
theorem hi_flip (n : Int) (h0 : -9223372036854775808 ≤ n) (h1 : n ≤ 9223372036854775807) : hi (flip n) 8 8 = hi (n + 9223372036854775808) 8 8 := by
 unfold hi
 apply List.map_congr_left
 intro i hi
 have hi := List.mem_range.1 hi
 have e : i = 0 ∨ i = 1 ∨ i = 2 ∨ i = 3 ∨ i = 4 ∨ i = 5 ∨ i = 6 ∨ i = 7 := by omega
 unfold flip
 split
 ·rfl
 ·rcases e with rfl | rfl | rfl | rfl | rfl | rfl | rfl | rfl <;> simp <;> omega
def keyV (k n : Int) (s : ByteArray) : List Nat :=
 if k = 1 then 1 :: hi n 1 1 else if k = 2 then 2 :: hi (n + 9223372036854775808) 8 8 else if k = 3 ∨ k = 4 then k.toNat :: (esc (sb s) ++ [0, 1]) else [(k % 256).toNat]
theorem keyV_len (k n : Int) (s : ByteArray) : (keyV k n s).length ≤ 2 * s.size + 9 := by
 unfold keyV
 have := esc_len (sb s)
 rw [sb_length] at this
 repeat' split
 all_goals simp [hi_len] <;> omega
set_option maxHeartbeats 2000000 in
set_option maxRecDepth 100000 in
theorem addKey_any (B : Nat) (v : Value) (l : List Nat) (k n : Int) (s : ByteArray) (w : World) (h : Own B w v l) (hB : B ≤ w.heap.size) (hl : l.length + 2 * s.size ≤ 800000) (h0 : -9223372036854775808 ≤ n) (h1 : n ≤ 9223372036854775807) :
 Calls Tryz.prog 127 #[v, .agg #[.int .i64 k, .int .i64 n, .string s]] w fun e w' => ∃ v', e = .returned v' ∧ Hid (Own B w' v' (l ++ keyV k n s)) ∧ Hid (Below B w w') := by
 have HA := Lib.hid (app_at (w.alloc (.cells #[.int .i64 k, .int .i64 n, .string s] 87)) (w.heap.size + 1) (by simp) B v l [(k % 256).toNat] #[.int .u8 (k % 256)] (by simp [bv]; omega) 1 rfl (World.ownsRow.alloc h _) (by simp; omega) (by omega))
 have HW : Hid (Below B w (w.alloc (.cells #[.int .i64 k, .int .i64 n, .string s] 87))) := (Below.refl _ _).alloc hB _
 have HH : Hid (Has (w.alloc (.cells #[.int .i64 k, .int .i64 n, .string s] 87)) w.heap.size 87 #[.int .i64 k, .int .i64 n, .string s]) := Has.new _ _ _
 have HF := Lib.hid (flip_bits n h0 h1)
 have HF2 := Lib.hid (hi_flip n h0 h1)
 clear h
 obtain ⟨W1, hW1⟩ : ∃ W1, W1 = w.alloc (.cells #[.int .i64 k, .int .i64 n, .string s] 87) := ⟨_, rfl⟩
 have HZ : Hid (W1.heap.size = w.heap.size + 1) := by show _ = _; rw [hW1]; simp
 rw [← hW1] at HA HW HH
 go_enter Tryz.func127, Tryz.ntmps127
 go_wp2_with (at_builtin; rw [← hW1]; refine wpList_app rfl _ _ 37 37 rfl v (.slice (some ⟨w.heap.size + 1, 0, none⟩) 1 1) rfl rfl ?_; obtain ⟨R, W', hrun, hmade⟩ := HA.out; refine ⟨R, W', hrun, ?_⟩; have HM := Lib.hid hmade; have hhas := hmade.2.2 _ _ _ (by decide) HH.out; clear hrun hmade HA; have hc0 := hhas.cell 0; have hc1 := hhas.cell 1; have hc2 := hhas.cell 2; simp at hc0 hc1 hc2; clear hhas)
 all_goals
  have HB1 : Hid (Below B w W') := HW.out.trans HM.out.2.1
  have hB1 : B ≤ W'.heap.size := Nat.le_trans hB HB1.out.size
 ·have e : (k == 1) = true := by assumption
  refine (addNumber_any B R _ n 1 W' HM.out.1 hB1 (by simp; omega) (by omega)).mono ?_
  rintro e2 w2 ⟨v2, rfl, ho, hb⟩
  have HK : Hid (keyV k n s = 1 :: hi n 1 1) := by
   show _ = _
   unfold keyV
   simp at e
   subst e
   simp
  have HO : Hid (Own B w2 v2 (l ++ keyV k n s)) := by
   have h := ho.out
   simp at e
   show Own _ _ _ _
   rw [HK.out]
   subst e
   simpa using h
  go_wp2_with fail
  go_ret
  exact ⟨v2, rfl, HO, HB1.out.trans hb.out⟩
 ·have e : (k == 2) = true := by assumption
  rw [HF.out]
  refine (addNumber_any B R _ (flip n) 8 W' HM.out.1 hB1 (by simp; omega) (by omega)).mono ?_
  rintro e2 w2 ⟨v2, rfl, ho, hb⟩
  have HK : Hid (keyV k n s = 2 :: hi (n + 9223372036854775808) 8 8) := by
   show _ = _
   unfold keyV
   simp at e
   subst e
   simp
  have HO : Hid (Own B w2 v2 (l ++ keyV k n s)) := by
   have h := ho.out
   simp at e
   show Own _ _ _ _
   rw [HK.out]
   rw [HF2.out] at h
   subst e
   simpa using h
  go_wp2_with fail
  go_ret
  exact ⟨v2, rfl, HO, HB1.out.trans hb.out⟩
 ·have e : (k == 3) = true := by assumption
  refine (addText_any B R _ s W' HM.out.1 hB1 (by simp; omega)).mono ?_
  rintro e2 w2 ⟨v2, rfl, ho, hb⟩
  have HK : Hid (keyV k n s = 3 :: (esc (sb s) ++ [0, 1])) := by
   show _ = _
   unfold keyV
   simp at e
   subst e
   simp
  have HO : Hid (Own B w2 v2 (l ++ keyV k n s)) := by
   have h := ho.out
   simp at e
   show Own _ _ _ _
   rw [HK.out]
   subst e
   simpa using h
  go_wp2_with fail
  go_ret
  exact ⟨v2, rfl, HO, HB1.out.trans hb.out⟩
 ·have e : (k == 4) = true := by assumption
  refine (addText_any B R _ s W' HM.out.1 hB1 (by simp; omega)).mono ?_
  rintro e2 w2 ⟨v2, rfl, ho, hb⟩
  have HK : Hid (keyV k n s = 4 :: (esc (sb s) ++ [0, 1])) := by
   show _ = _
   unfold keyV
   simp at e
   subst e
   simp
  have HO : Hid (Own B w2 v2 (l ++ keyV k n s)) := by
   have h := ho.out
   simp at e
   show Own _ _ _ _
   rw [HK.out]
   subst e
   simpa using h
  go_wp2_with fail
  go_ret
  exact ⟨v2, rfl, HO, HB1.out.trans hb.out⟩
 ·have e1 : (k == 1) = false := by assumption
  have e2 : (k == 2) = false := by assumption
  have e3 : (k == 3) = false := by assumption
  have e4 : (k == 4) = false := by assumption
  have HO : Hid (Own B W' R (l ++ keyV k n s)) := by
   have h := HM.out.1
   simp at e1 e2 e3 e4
   show Own _ _ _ _
   unfold keyV
   simpa [e1, e2, e3, e4] using h
  go_ret
  exact ⟨R, rfl, HO, HB1⟩
structure Vl where
 k : Int
 n : Int
 s : ByteArray
def Vl.may (x : Vl) : Bool := mayF x.k x.n x.s
def Vl.key (x : Vl) : List Nat := keyV x.k x.n x.s
def Vl.val (x : Vl) : Value := .agg #[.int .i64 x.k, .int .i64 x.n, .string x.s]
def Vl.cells (x : Vl) : List Value := [.int .i64 x.k, .int .i64 x.n, .string x.s]
def Vl.fit (x : Vl) : Prop := -9223372036854775808 ≤ x.n ∧ x.n ≤ 9223372036854775807 ∧ x.s.size ≤ 140737488355328
def VRow (w : World) (A : Option Addr) (L : List Vl) : Prop :=
 L ≠ [] → ∃ b off, A = some ⟨b, off, none⟩ ∧ ∀ i (h : i < L.length), w.cell? ⟨b, off + i * 3, none⟩ = some (.int .i64 L[i].k) ∧ w.cell? ⟨b, off + i * 3 + 1, none⟩ = some (.int .i64 L[i].n) ∧ w.cell? ⟨b, off + i * 3 + 2, none⟩ = some (.string L[i].s)
theorem VRow.below {w w' : World} {A : Option Addr} {L : List Vl} (h : VRow w A L) (hb : Below w.heap.size w w') : VRow w' A L := fun hl => by
 obtain ⟨b, off, e, hc⟩ := h hl
 refine ⟨b, off, e, fun i hi => ?_⟩
 obtain ⟨h0, h1, h2⟩ := hc i hi
 exact ⟨(hb.cell (World.block_lt_of_cell? w _ h0)).trans h0, (hb.cell (World.block_lt_of_cell? w _ h1)).trans h1, (hb.cell (World.block_lt_of_cell? w _ h2)).trans h2⟩
def keys (L : List Vl) : List Nat := L.flatMap Vl.key
theorem keys_succ (L : List Vl) (k : Nat) (h : k < L.length) : keys (L.take (k + 1)) = keys (L.take k) ++ L[k].key := by
 unfold keys
 rw [List.take_succ_eq_append_getElem h, List.flatMap_append]
 simp
theorem mem_take {α : Type} (L : List α) (k : Nat) (h : k < L.length) : L[k] ∈ L.take (k + 1) := by
 rw [List.take_succ_eq_append_getElem h]
 exact List.mem_append_right _ (List.mem_singleton.2 rfl)
theorem short_size {n : Int} {s : ByteArray} (h : short n s = true) : s.size ≤ 4096 := by
 unfold short at h; simp at h; exact h.2
theorem empty_size {s : ByteArray} (h : s.toList.isEmpty = true) : s.size = 0 := by
 rw [ByteArray.toList_eq] at h
 obtain ⟨⟨l⟩⟩ := s
 simp at h
 subst h; rfl
theorem may_size {k n : Int} {s : ByteArray} (h : mayF k n s = true) : s.size ≤ 4096 := by
 unfold mayF at h
 repeat' split at h
 all_goals first
  | (simp only [Bool.and_eq_true] at h; first | (have := empty_size h.2; omega) | (have := empty_size h.1; omega) | exact short_size h.1)
  | (have := empty_size h; omega)
  | exact short_size h
  | cases h
theorem keys_le (L : List Vl) (k : Nat) (hk : k ≤ L.length) (h : ∀ x ∈ L.take k, x.may = true) : (keys (L.take k)).length ≤ 8201 * k := by
 induction k with
 | zero => simp [keys]
 | succ k ih =>
   rw [keys_succ L k (by omega), List.length_append]
   have h1 := ih (by omega) (fun x hx => h x (by rw [List.take_succ_eq_append_getElem (by omega)]; exact List.mem_append_left _ hx))
   have h2 : L[k].may = true := h _ (mem_take L k (by omega))
   have h3 := keyV_len L[k].k L[k].n L[k].s
   have h4 := may_size h2
   unfold Vl.key
   omega
set_option maxHeartbeats 2000000 in
set_option maxRecDepth 100000 in
theorem key_any (A : Option Addr) (L : List Vl) (n c : Nat) (w : World) (hn : L.length = n) (hl : n ≤ 8) (hA : VRow w A L) (hf : ∀ x ∈ L, x.fit) (hT : Tabs w) (e : Nat) (K : List Nat)
 (hE : (∀ x ∈ L, x.may = true) ∧ e = 0 ∧ K = keys L ∨ (∃ x ∈ L, x.may = false) ∧ e = 1 ∧ K = []) :
 Calls Tryz.prog 119 #[.slice A n c] w fun x w' => x = .returned (.tuple #[.string (bs K), .int .i64 e]) ∧ Hid (Below w.heap.size w w') := by
 have HN := Lib.hid hn
 have HA := Lib.hid hA
 have HT := Lib.hid hT
 have HF := Lib.hid hf
 have HE := Lib.hid hE
 clear hn hA hT hf hE
 go_enter Tryz.func119, Tryz.ntmps119
 go_wp2_with fail
 go_loopw [4, 9] (fun x i wr => ∃ (k : Nat) (u : Value), k ≤ n ∧ i = .int .i64 k ∧ u = x ∧ Hid (∀ x ∈ L.take k, x.may = true) ∧ Hid (Own w.heap.size wr u (keys (L.take k))) ∧ Hid (Below w.heap.size w wr)) (fun _ i _ => n - (intOf i).toNat)
 case atStart => exact ⟨0, _, by omega, rfl, rfl, fun x hx => by simp at hx, own_nil _ _, Below.refl _ _⟩
 case round =>
  obtain ⟨k, u, hk, rfl, rfl, HM, HO, HB⟩ := hrel
  by_cases hlt : k < n
  ·have hkl : k < L.length := by rw [HN.out]; exact hlt
   obtain ⟨b, off, rfl, hc⟩ := (HA.out.below HB.out) (by intro e; rw [e] at hkl; simp at hkl)
   obtain ⟨c0, c1, c2⟩ := hc k hkl
   have hfit := HF.out L[k] (List.getElem_mem hkl)
   have HKS := Lib.hid (keys_succ L k hkl)
   have HLE := Lib.hid (keys_le L k (by omega) HM.out)
   have HX : Hid (L[k] ∈ L) := List.getElem_mem hkl
   have HMS : Hid (L[k].may = true → ∀ x ∈ L.take (k + 1), x.may = true) := fun h x hx => by
    rw [List.take_succ_eq_append_getElem hkl] at hx
    rcases List.mem_append.1 hx with h1 | h1
    ·exact HM.out x h1
    ·rw [List.mem_singleton.1 h1]; exact h
   clear hc
   generalize L[k] = x at *
   obtain ⟨xk, xn, xs⟩ := x
   obtain ⟨f0, f1, f2⟩ := hfit
   simp only at c0 c1 c2 f0 f1 f2
   have HB0 := Lib.hid ((Below.refl wr.heap.size wr).alloc (Nat.le_refl _) (.cells #[.int .i64 xk, .int .i64 xn, .string xs] 87))
   have HH0 : Hid (Has (wr.alloc (.cells #[.int .i64 xk, .int .i64 xn, .string xs] 87)) wr.heap.size 87 #[.int .i64 xk, .int .i64 xn, .string xs]) := Has.new _ _ _
   go_wp2_with fail
   refine (may_any xk xn xs _ (by omega) ((HT.out.below HB.out).below HB0.out)).mono ?_
   rintro e1 w1 ⟨rfl, hb1⟩
   have HB1 := Lib.hid (HB.out.trans ((HB0.out.trans (hb1.out.mono HB0.out.size)).mono HB.out.size))
   have HH1 := Lib.hid (HH0.out.below hb1.out HH0.out.lt)
   have HO1 := Lib.hid (HO.out.below (HB0.out.trans (hb1.out.mono HB0.out.size)))
   have d0 := HH1.out.cell 0
   have d1 := HH1.out.cell 1
   have d2 := HH1.out.cell 2
   simp at d0 d1 d2
   clear HB0 HH0 HH1 hb1 c0 c1 c2
   cases hm : mayF xk xn xs
   ·have HEE : Hid (e = 1 ∧ K = []) := by
     rcases HE.out with h | h
     ·have := h.1 _ HX.out; unfold Vl.may at this; simp only at this; rw [hm] at this; cases this
     ·exact h.2
    obtain ⟨rfl, rfl⟩ := HEE.out
    clear HE
    go_wp2_with fail
    go_ret2
    exact ⟨rfl, HB1.out⟩
   ·have hsz := may_size hm
    go_wp2_with fail
    refine (addKey_any w.heap.size u _ xk xn xs w1 HO1.out HB1.out.size (by have := HLE.out; omega) f0 f1).mono ?_
    rintro e2 w2 ⟨v2, rfl, HO2, HB2⟩
    go_wp2_with fail
    go_roundw
    case rel => exact ⟨k + 1, v2, by omega, by go_num, rfl, HMS.out hm, by rw [HKS.out]; exact HO2, HB1.out.trans HB2.out⟩
    case measure => simp [intOf]; omega
  ·obtain rfl : k = n := by omega
   have HEE : Hid (e = 0 ∧ K = keys (L.take k)) := by
    have ht : L.take k = L := List.take_of_length_le (by rw [HN.out]; exact Nat.le_refl _)
    rw [ht]
    have hm := HM.out
    rw [ht] at hm
    rcases HE.out with h | h
    ·exact h.2
    ·obtain ⟨⟨x, hx, h1⟩, _⟩ := h
     rw [hm x hx] at h1; cases h1
   obtain ⟨rfl, rfl⟩ := HEE.out
   clear HE
   obtain ⟨A1, n1, c1, rfl, HL1, hconv⟩ := own_conv HO.out
   go_wp2_with fail
   go_ret2
   exact ⟨rfl, HB.out⟩
def Vl.fits (x : Vl) : Prop := x.fit ∧ -9223372036854775808 ≤ x.k ∧ x.k ≤ 9223372036854775807
theorem infoV : (Tryz.prog.info? 87).map (fun i => (i.zero, i.size, i.bytes)) = some (some (.agg #[.int .i64 0, .int .i64 0, .string ⟨#[]⟩]), 3, 32) := by kernel_rfl
def OwnV (B : Nat) (w : World) (v : Value) (L : List Vl) : Prop := w.ownsRow B 87 3 v L.length (L.flatMap Vl.cells)
theorem ownV_nil (B : Nat) (w : World) : OwnV B w (.slice none 0 0) [] := World.ownsRow_nil _ _ _ _
theorem OwnV.below {B : Nat} {w w' : World} {v : Value} {L : List Vl} (h : OwnV B w v L) (hb : Below w.heap.size w w') : OwnV B w' v L := by
 rcases h.2 with ⟨hv, hn⟩ | ⟨g, cap, cur, hv, hg, hh, hc, hcm, hsz, ht⟩
 ·exact ⟨h.1, .inl ⟨hv, hn⟩⟩
 ·exact ⟨h.1, .inr ⟨g, cap, cur, hv, hg, Has.below (t := 87) (cs := cur) hh hb (Has.lt (t := 87) (cs := cur) hh), hc, hcm, hsz, ht⟩⟩
theorem flat_get (L : List Vl) (i j : Nat) (h : i < L.length) (hj : j < 3) : (L.flatMap Vl.cells)[i * 3 + j]? = L[i].cells[j]? := by
 induction L generalizing i with
 | nil => simp at h
 | cons x L ih =>
   rw [List.flatMap_cons]
   rcases i with _ | i
   ·rw [List.getElem?_append_left (by simp [Vl.cells]; omega)]
    simp
   ·rw [List.getElem?_append_right (by simp [Vl.cells]; omega)]
    have e : (i + 1) * 3 + j - x.cells.length = i * 3 + j := by simp [Vl.cells]; omega
    rw [e, ih i (by simpa using h)]
    simp
theorem ownV_row {B : Nat} {w : World} {v : Value} {L : List Vl} (h : OwnV B w v L) : ∃ A c, v = .slice A L.length c ∧ L.length ≤ c ∧ c ≤ maxLen ∧ VRow w A L ∧ (A = none → c = 0) := by
 rcases h.2 with ⟨hv, hn⟩ | ⟨g, cap, cur, hv, _, hh, hc, hcm, hsz, ht⟩
 ·obtain rfl := List.eq_nil_of_length_eq_zero hn
  exact ⟨none, 0, hv, Nat.le_refl _, Nat.zero_le _, fun h => absurd rfl h, fun _ => rfl⟩
 ·refine ⟨_, _, hv, hc, hcm, fun _ => ⟨g, 0, rfl, fun i hi => ?_⟩, fun e => by cases e⟩
  have hq : ∀ j, j < 3 → w.cell? ⟨g, 0 + (i * 3 + j), none⟩ = L[i].cells[j]? := fun j hj => by
   rw [Nat.zero_add, Has.cell (t := 87) (cs := cur) hh, ← flat_get L i j hi hj, ← ht, List.getElem?_take, if_pos (by omega)]
   simp
  have q0 := hq 0 (by omega)
  have q1 := hq 1 (by omega)
  have q2 := hq 2 (by omega)
  exact ⟨q0, q1, q2⟩
structure Cl where
 nm : ByteArray
 k : Int
 no : Bool
def Cl.val (x : Cl) : Value := .agg #[.string x.nm, .int .i64 x.k, .bool x.no]
def Cl.cells (x : Cl) : List Value := [.string x.nm, .int .i64 x.k, .bool x.no]
def Cl.fit (x : Cl) : Prop := x.nm.size ≤ 140737488355328 ∧ -9223372036854775808 ≤ x.k ∧ x.k ≤ 9223372036854775807
def CRow (w : World) (A : Option Addr) (L : List Cl) : Prop :=
 L ≠ [] → ∃ b off, A = some ⟨b, off, none⟩ ∧ ∀ i (h : i < L.length), w.cell? ⟨b, off + i * 3, none⟩ = some (.string L[i].nm) ∧ w.cell? ⟨b, off + i * 3 + 1, none⟩ = some (.int .i64 L[i].k) ∧ w.cell? ⟨b, off + i * 3 + 2, none⟩ = some (.bool L[i].no)
theorem CRow.below {w w' : World} {A : Option Addr} {L : List Cl} (h : CRow w A L) (hb : Below w.heap.size w w') : CRow w' A L := fun hl => by
 obtain ⟨b, off, e, hc⟩ := h hl
 refine ⟨b, off, e, fun i hi => ?_⟩
 obtain ⟨h0, h1, h2⟩ := hc i hi
 exact ⟨(hb.cell (World.block_lt_of_cell? w _ h0)).trans h0, (hb.cell (World.block_lt_of_cell? w _ h1)).trans h1, (hb.cell (World.block_lt_of_cell? w _ h2)).trans h2⟩
theorem infoC : (Tryz.prog.info? 29).map (fun i => (i.zero, i.size, i.bytes)) = some (some (.agg #[.string ⟨#[]⟩, .int .i64 0, .bool false]), 3, 32) := by kernel_rfl
def OwnC (B : Nat) (w : World) (v : Value) (L : List Cl) : Prop := w.ownsRow B 29 3 v L.length (L.flatMap Cl.cells)
theorem ownC_nil (B : Nat) (w : World) : OwnC B w (.slice none 0 0) [] := World.ownsRow_nil _ _ _ _
theorem OwnC.below {B : Nat} {w w' : World} {v : Value} {L : List Cl} (h : OwnC B w v L) (hb : Below w.heap.size w w') : OwnC B w' v L := by
 rcases h.2 with ⟨hv, hn⟩ | ⟨g, cap, cur, hv, hg, hh, hc, hcm, hsz, ht⟩
 ·exact ⟨h.1, .inl ⟨hv, hn⟩⟩
 ·exact ⟨h.1, .inr ⟨g, cap, cur, hv, hg, Has.below (t := 29) (cs := cur) hh hb (Has.lt (t := 29) (cs := cur) hh), hc, hcm, hsz, ht⟩⟩
theorem cflat_len (L : List Cl) : (L.flatMap Cl.cells).length = L.length * 3 := by
 induction L with
 | nil => rfl
 | cons x L ih => rw [List.flatMap_cons, List.length_append, ih]; simp [Cl.cells]; omega
theorem cflat_get (L : List Cl) (i j : Nat) (h : i < L.length) (hj : j < 3) : (L.flatMap Cl.cells)[i * 3 + j]? = L[i].cells[j]? := by
 induction L generalizing i with
 | nil => simp at h
 | cons x L ih =>
   rw [List.flatMap_cons]
   rcases i with _ | i
   ·rw [List.getElem?_append_left (by simp [Cl.cells]; omega)]
    simp
   ·rw [List.getElem?_append_right (by simp [Cl.cells]; omega)]
    have e : (i + 1) * 3 + j - x.cells.length = i * 3 + j := by simp [Cl.cells]; omega
    rw [e, ih i (by simpa using h)]
    simp
theorem ownC_row {B : Nat} {w : World} {v : Value} {L : List Cl} (h : OwnC B w v L) : ∃ A c, v = .slice A L.length c ∧ L.length ≤ c ∧ c ≤ maxLen ∧ CRow w A L ∧ (A = none → c = 0) := by
 rcases h.2 with ⟨hv, hn⟩ | ⟨g, cap, cur, hv, _, hh, hc, hcm, hsz, ht⟩
 ·obtain rfl := List.eq_nil_of_length_eq_zero hn
  exact ⟨none, 0, hv, Nat.le_refl _, Nat.zero_le _, fun h => absurd rfl h, fun _ => rfl⟩
 ·refine ⟨_, _, hv, hc, hcm, fun _ => ⟨g, 0, rfl, fun i hi => ?_⟩, fun e => by cases e⟩
  have hq : ∀ j, j < 3 → w.cell? ⟨g, 0 + (i * 3 + j), none⟩ = L[i].cells[j]? := fun j hj => by
   rw [Nat.zero_add, Has.cell (t := 29) (cs := cur) hh, ← cflat_get L i j hi hj, ← ht, List.getElem?_take, if_pos (by omega)]
   simp
  have q0 := hq 0 (by omega)
  have q1 := hq 1 (by omega)
  have q2 := hq 2 (by omega)
  exact ⟨q0, q1, q2⟩
theorem appC (w : World) (g : Nat) (hg0 : g = w.heap.size) (B : Nat) (v : Value) (L : List Cl) (x : Cl) (h : OwnC B w v L) (hB : B ≤ w.heap.size) (hl : L.length ≤ 1000) :
 ∃ R W', (Builtin.append_ #[25, 25] 25 #[v, .slice (some ⟨g, 0, none⟩) 1 1]).run Tryz.prog (w.alloc (.cells #[.string x.nm, .int .i64 x.k, .bool x.no] 29)) = .ok R W' ∧ OwnC B W' R (L ++ [x]) ∧ Below B w W' := by
 subst hg0
 obtain ⟨i0, hi, hz0, hz1, hz2⟩ := info_parts infoC
 obtain ⟨R, W', hrun, hown, hg, _⟩ := run_append_own (P := Tryz.prog) (w.alloc (.cells x.cells.toArray 29)) B 25 25 29 i0 _ 3 32 Tryz.underlying25 hi hz0 hz1 hz2 rfl (by decide) v L.length (L.flatMap Cl.cells) (h.alloc _)
  ⟨w.heap.size, 0, none⟩ 1 1 x.cells rfl (fun j u hj => by
    have := (Has.new w 29 x.cells.toArray).cell j
    rw [List.getElem?_toArray] at this
    rw [Addr.add_lit, Nat.zero_add]
    exact this.trans hj) (fun u hu => by simp [Cl.cells] at hu; rcases hu with rfl | rfl | rfl <;> rfl) (by unfold maxLen; omega) (by omega) (by simp; omega)
 refine ⟨R, W', hrun, ?_, ?_⟩
 ·unfold OwnC; rw [List.flatMap_append, List.length_append]; simpa using hown
 ·exact ((Below.refl B w).alloc hB _).grown hg (by simp; omega) fun k hk => (World.ownsRow.lt h k hk).1
theorem ownC_open {B : Nat} {w : World} {v : Value} {L : List Cl} (h : OwnC B w v L) : ∃ A n c, v = .slice A n c ∧ Hid (L.length = n) ∧ n ≤ c ∧ c ≤ maxLen ∧ Hid (CRow w A L) ∧ Hid (A = none → c = 0) := by
 obtain ⟨A, c, e, h1, h2, h3, h4⟩ := ownC_row h
 exact ⟨A, L.length, c, e, rfl, h1, h2, h3, h4⟩
end Go.Proofs.YtnpmgempkoeapaaGreatDoor
namespace Go.Proofs.YtnpmgempkoeapaaGreatDoor.Uf
open Go.Lib
def bt (L : List UInt8) (k : Nat) : Nat := (L.getD k 0).toNat
theorem bt_lt (L : List UInt8) (k : Nat) : bt L k < 256 := (L.getD k 0).toNat_lt
theorem ne_of_lead (L : List UInt8) (h : 128 ≤ bt L 0) : L ≠ [] := by rintro rfl; simp [bt] at h
theorem valid_one (L : List UInt8) (h0 : L ≠ []) (h : bt L 0 < 128) : validD L = validD (L.drop 1) := by
 rcases L with _ | ⟨b, t⟩
 ·exact absurd rfl h0
 ·exact validD_cons b t h
theorem valid_bad (L : List UInt8) (h : 128 ≤ bt L 0) (h2 : bt L 0 < 192 ∨ 248 ≤ bt L 0) : validD L = false := by
 have hb := bt_lt L 0
 rw [validD_lead L (ne_of_lead L h) h]
 unfold bt at h h2 hb
 generalize (L.getD 0 0).toNat = c at *
 have e : firstT c % 8 ≠ 2 ∧ firstT c % 8 ≠ 3 ∧ firstT c % 8 ≠ 4 := by
  unfold firstT
  repeat' split
  all_goals omega
 have : checkN L.length (L.getD 1 0).toNat (L.getD 2 0).toNat (L.getD 3 0).toNat (firstT c % 8) (accLo (firstT c / 16)) (accHi (firstT c / 16)) = none := by
  unfold checkN
  rw [if_neg e.1, if_neg e.2.1, if_neg e.2.2]
 rw [this]
def Co (x : Nat) : Prop := 128 ≤ x ∧ x < 192
theorem valid_two (L : List UInt8) (h : 192 ≤ bt L 0) (h2 : bt L 0 < 224) :
 (2 ≤ L.length ∧ Co (bt L 1) ∧ 128 ≤ 64 * (bt L 0 - 192) + bt L 1 - 128 ∧ validD L = validD (L.drop 2)) ∨ (¬ (2 ≤ L.length ∧ Co (bt L 1) ∧ 128 ≤ 64 * (bt L 0 - 192) + bt L 1 - 128) ∧ validD L = false) := by
 have hl := validD_lead L (ne_of_lead L (by omega)) (show 128 ≤ bt L 0 by omega)
 have h1 := bt_lt L 1
 rw [hl]
 unfold Co
 unfold bt at *
 generalize (L.getD 0 0).toNat = c at *
 generalize (L.getD 1 0).toNat = x at *
 by_cases hc : c < 194
 ·have e : firstT c % 8 ≠ 2 ∧ firstT c % 8 ≠ 3 ∧ firstT c % 8 ≠ 4 := by
   unfold firstT
   repeat' split
   all_goals omega
  right
  refine ⟨by omega, ?_⟩
  unfold checkN
  rw [if_neg e.1, if_neg e.2.1, if_neg e.2.2]
 ·have e1 : firstT c = 2 := by
   unfold firstT
   repeat' split
   all_goals omega
  rw [e1]
  by_cases g : 2 ≤ L.length ∧ 128 ≤ x ∧ x < 192
  ·left
   refine ⟨g.1, ⟨g.2.1, g.2.2⟩, by omega, ?_⟩
   simp [checkN, accLo, accHi]
   rw [if_neg (by omega)]
  ·right
   refine ⟨by omega, ?_⟩
   simp [checkN, accLo, accHi]
   rw [if_pos (by omega)]
theorem valid_three (L : List UInt8) (h : 224 ≤ bt L 0) (h2 : bt L 0 < 240) (V : Nat) (hV : V = 64 * (64 * (bt L 0 - 224) + bt L 1 - 128) + bt L 2 - 128) :
 (3 ≤ L.length ∧ Co (bt L 1) ∧ Co (bt L 2) ∧ 2048 ≤ V ∧ ¬ (55296 ≤ V ∧ V ≤ 57343) ∧ validD L = validD (L.drop 3)) ∨ (¬ (3 ≤ L.length ∧ Co (bt L 1) ∧ Co (bt L 2) ∧ 2048 ≤ V ∧ ¬ (55296 ≤ V ∧ V ≤ 57343)) ∧ validD L = false) := by
 have hl := validD_lead L (ne_of_lead L (by omega)) (show 128 ≤ bt L 0 by omega)
 rw [hl]
 unfold Co
 unfold bt at *
 generalize (L.getD 0 0).toNat = c at *
 generalize (L.getD 1 0).toNat = x at *
 generalize (L.getD 2 0).toNat = y at *
 have hc : c = 224 ∨ c = 237 ∨ (c ≠ 224 ∧ c ≠ 237) := by omega
 rcases hc with hc | hc | hc
 ·have e1 : firstT c = 19 := by
   unfold firstT
   repeat' split
   all_goals omega
  rw [e1]
  by_cases g : 3 ≤ L.length ∧ 160 ≤ x ∧ x ≤ 191 ∧ 128 ≤ y ∧ y < 192
  ·left
   refine ⟨g.1, ⟨by omega, by omega⟩, ⟨by omega, by omega⟩, by omega, by omega, ?_⟩
   simp [checkN, accLo, accHi]
   rw [if_neg (by omega)]
  ·right
   refine ⟨by omega, ?_⟩
   simp [checkN, accLo, accHi]
   rw [if_pos (by omega)]
 ·have e1 : firstT c = 35 := by
   unfold firstT
   repeat' split
   all_goals omega
  rw [e1]
  by_cases g : 3 ≤ L.length ∧ 128 ≤ x ∧ x ≤ 159 ∧ 128 ≤ y ∧ y < 192
  ·left
   refine ⟨g.1, ⟨by omega, by omega⟩, ⟨by omega, by omega⟩, by omega, by omega, ?_⟩
   simp [checkN, accLo, accHi]
   rw [if_neg (by omega)]
  ·right
   refine ⟨by omega, ?_⟩
   simp [checkN, accLo, accHi]
   rw [if_pos (by omega)]
 ·have e1 : firstT c = 3 := by
   unfold firstT
   repeat' split
   all_goals omega
  rw [e1]
  by_cases g : 3 ≤ L.length ∧ 128 ≤ x ∧ x ≤ 191 ∧ 128 ≤ y ∧ y < 192
  ·left
   refine ⟨g.1, ⟨by omega, by omega⟩, ⟨by omega, by omega⟩, by omega, by omega, ?_⟩
   simp [checkN, accLo, accHi]
   rw [if_neg (by omega)]
  ·right
   refine ⟨by omega, ?_⟩
   simp [checkN, accLo, accHi]
   rw [if_pos (by omega)]
set_option maxHeartbeats 1000000 in
theorem valid_four (L : List UInt8) (h : 240 ≤ bt L 0) (h2 : bt L 0 < 248) (V : Nat) (hV : V = 64 * (64 * (64 * (bt L 0 - 240) + bt L 1 - 128) + bt L 2 - 128) + bt L 3 - 128) :
 (4 ≤ L.length ∧ Co (bt L 1) ∧ Co (bt L 2) ∧ Co (bt L 3) ∧ 65536 ≤ V ∧ V ≤ 1114111 ∧ validD L = validD (L.drop 4)) ∨ (¬ (4 ≤ L.length ∧ Co (bt L 1) ∧ Co (bt L 2) ∧ Co (bt L 3) ∧ 65536 ≤ V ∧ V ≤ 1114111) ∧ validD L = false) := by
 have hl := validD_lead L (ne_of_lead L (by omega)) (show 128 ≤ bt L 0 by omega)
 rw [hl]
 unfold Co
 unfold bt at *
 generalize (L.getD 0 0).toNat = c at *
 generalize (L.getD 1 0).toNat = x at *
 generalize (L.getD 2 0).toNat = y at *
 generalize (L.getD 3 0).toNat = z at *
 have hc : c = 240 ∨ c = 244 ∨ (240 < c ∧ c < 244) ∨ 244 < c := by omega
 rcases hc with hc | hc | hc | hc
 ·have e1 : firstT c = 52 := by
   unfold firstT
   repeat' split
   all_goals omega
  rw [e1]
  by_cases g : 4 ≤ L.length ∧ 144 ≤ x ∧ x ≤ 191 ∧ 128 ≤ y ∧ y < 192 ∧ 128 ≤ z ∧ z < 192
  ·left
   refine ⟨g.1, ⟨by omega, by omega⟩, ⟨by omega, by omega⟩, ⟨by omega, by omega⟩, by omega, by omega, ?_⟩
   simp [checkN, accLo, accHi]
   rw [if_neg (by omega)]
  ·right
   refine ⟨by omega, ?_⟩
   simp [checkN, accLo, accHi]
   rw [if_pos (by omega)]
 ·have e1 : firstT c = 68 := by
   unfold firstT
   repeat' split
   all_goals omega
  rw [e1]
  by_cases g : 4 ≤ L.length ∧ 128 ≤ x ∧ x ≤ 143 ∧ 128 ≤ y ∧ y < 192 ∧ 128 ≤ z ∧ z < 192
  ·left
   refine ⟨g.1, ⟨by omega, by omega⟩, ⟨by omega, by omega⟩, ⟨by omega, by omega⟩, by omega, by omega, ?_⟩
   simp [checkN, accLo, accHi]
   rw [if_neg (by omega)]
  ·right
   refine ⟨by omega, ?_⟩
   simp [checkN, accLo, accHi]
   rw [if_pos (by omega)]
 ·have e1 : firstT c = 4 := by
   unfold firstT
   repeat' split
   all_goals omega
  rw [e1]
  by_cases g : 4 ≤ L.length ∧ 128 ≤ x ∧ x ≤ 191 ∧ 128 ≤ y ∧ y < 192 ∧ 128 ≤ z ∧ z < 192
  ·left
   refine ⟨g.1, ⟨by omega, by omega⟩, ⟨by omega, by omega⟩, ⟨by omega, by omega⟩, by omega, by omega, ?_⟩
   simp [checkN, accLo, accHi]
   rw [if_neg (by omega)]
  ·right
   refine ⟨by omega, ?_⟩
   simp [checkN, accLo, accHi]
   rw [if_pos (by omega)]
 ·have e : firstT c % 8 ≠ 2 ∧ firstT c % 8 ≠ 3 ∧ firstT c % 8 ≠ 4 := by
   unfold firstT
   repeat' split
   all_goals omega
  right
  refine ⟨by omega, ?_⟩
  unfold checkN
  rw [if_neg e.1, if_neg e.2.1, if_neg e.2.2]
def vw (c0 : Nat) (L : List UInt8) : Nat → Nat
 | 0 => 0
 | j + 1 => if j = 0 then bt L 0 - c0 else 64 * vw c0 L j + bt L j - 128
theorem vw_next (c0 : Nat) (L : List UInt8) (j : Nat) (h : 1 ≤ j) : vw c0 L (j + 1) = 64 * vw c0 L j + bt L j - 128 := by
 show (if j = 0 then _ else _) = _
 rw [if_neg (by omega)]
theorem vw_two (c0 : Nat) (L : List UInt8) : vw c0 L 2 = 64 * (bt L 0 - c0) + bt L 1 - 128 := rfl
theorem vw_three (c0 : Nat) (L : List UInt8) : vw c0 L 3 = 64 * (64 * (bt L 0 - c0) + bt L 1 - 128) + bt L 2 - 128 := rfl
theorem vw_four (c0 : Nat) (L : List UInt8) : vw c0 L 4 = 64 * (64 * (64 * (bt L 0 - c0) + bt L 1 - 128) + bt L 2 - 128) + bt L 3 - 128 := rfl
end Go.Proofs.YtnpmgempkoeapaaGreatDoor.Uf
