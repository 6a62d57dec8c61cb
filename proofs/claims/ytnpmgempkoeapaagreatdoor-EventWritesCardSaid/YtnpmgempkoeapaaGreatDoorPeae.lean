/-
  Put together, as far as it is used: Name.
-/
import Derived.Test.YtnpmgempkoeapaaGreatDoorPeab
import Derived.Laws.RangeAny
set_option linter.unusedVariables false
set_option linter.unusedSimpArgs false
set_option linter.defProp false
namespace Go.Proofs.YtnpmgempkoeapaaGreatDoor
open Go.RowKit Dg
def okAt (c i : Nat) : Bool := (decide (97 ≤ c) && decide (c ≤ 122)) || (!(i == 0) && ((decide (48 ≤ c) && decide (c ≤ 57)) || c == 95))
def byteAt (s : ByteArray) (i : Nat) : Nat := if h : i < s.size then (s[i]'h).toNat else 0
theorem byteAt_eq (s : ByteArray) (i : Nat) (h : i < s.size) : byteAt s i = (s[i]'h).toNat := by unfold byteAt; rw [dif_pos h]
def nameTo (s : ByteArray) (k : Nat) : Bool := (List.range k).all fun i => okAt (byteAt s i) i
theorem nameTo_succ (s : ByteArray) (k : Nat) : nameTo s (k + 1) = (nameTo s k && okAt (byteAt s k) k) := by
 unfold nameTo; rw [List.range_succ, List.all_append]; simp
theorem nameTo_false (s : ByteArray) (k n : Nat) (hk : k < n) (h : okAt (byteAt s k) k = false) : nameTo s n = false := by
 unfold nameTo; rw [List.all_eq_false]
 exact ⟨k, List.mem_range.2 hk, by simp [h]⟩
def nameF (s : ByteArray) : Bool := decide (1 ≤ s.size) && decide (s.size ≤ 32) && nameTo s s.size
theorem nameF_at {s : ByteArray} (h0 : 1 ≤ s.size) (h1 : s.size ≤ 32) : nameF s = nameTo s s.size := by
 unfold nameF; simp [h0, h1]
theorem nameF_no {s : ByteArray} (h : ¬ (1 ≤ s.size ∧ s.size ≤ 32)) : nameF s = false := by
 unfold nameF
 have e : (decide (1 ≤ s.size) && decide (s.size ≤ 32)) = false := by simp; omega
 rw [e]; rfl
theorem nameF_size {s : ByteArray} (h : nameF s = true) : 1 ≤ s.size ∧ s.size ≤ 32 := by
 by_cases hh : 1 ≤ s.size ∧ s.size ≤ 32
 ·exact hh
 ·rw [nameF_no hh] at h; cases h
theorem okAt_high {c : Nat} (i : Nat) (h : 128 ≤ c) : okAt c i = false := by
 unfold okAt
 have e1 : decide (c ≤ 122) = false := by simp; omega
 have e2 : decide (c ≤ 57) = false := by simp; omega
 have e3 : (c == 95) = false := by simp; omega
 rw [e1, e2, e3]; simp
set_option maxHeartbeats 2000000 in
set_option maxRecDepth 100000 in
theorem name_any (s : ByteArray) (w : World) (hs : s.size ≤ 140737488355328) :
 Calls Tryz.prog 67 #[.string s] w fun e w' => e = .returned (.bool (nameF s)) ∧ Hid (Below w.heap.size w w') := by
 have HB := fun s pos => Lib.hid ((Below.refl w.heap.size w).alloc (Nat.le_refl _) (.stringIter s pos))
 by_cases hz : 1 ≤ s.size ∧ s.size ≤ 32
 ·obtain ⟨hz0, hz1⟩ := hz
  have HN := Lib.hid (nameF_at hz0 hz1)
  go_enter Tryz.func67, Tryz.ntmps67
  go_wp2_with fail
  go_loopw [3] (fun _ wr => ∃ pos : Nat, pos ≤ s.size ∧ Hid (nameTo s pos = true) ∧ wr = w.iter s pos) (fun _ wr => s.size - wr.iterPos w.heap.size)
  case atStart => exact ⟨0, by omega, rfl, rfl⟩
  case round =>
   obtain ⟨pos, hpos, HT, rfl⟩ := hrel
   by_cases hp : pos < s.size
   ·have HF := Lib.hid (nameTo_false s pos s.size hp)
    by_cases ha : (s[pos]'hp).toNat < 128
    ·have hnx : ∀ ty, (Instr.next (.pointer (some ⟨w.heap.size, 0, none⟩)) true ty).run Tryz.prog (w.iter s pos) = _ := fun ty => run_next_ascii w s pos ty hp ha
     have HE := Lib.hid (byteAt_eq s pos hp)
     have HT2 : Hid (nameTo s (pos + 1) = okAt (byteAt s pos) pos) := by show _ = _; rw [nameTo_succ, HT.out, Bool.true_and]
     generalize (s[pos]'hp).toNat = c at *
     rw [HE.out] at HF HT2
     clear HE
     have hcs : (97 ≤ c ∧ c ≤ 122) ∨ c < 48 ∨ (48 ≤ c ∧ c ≤ 57) ∨ (58 ≤ c ∧ c ≤ 94) ∨ c = 95 ∨ c = 96 ∨ 123 ≤ c := by omega
     rcases hcs with ⟨h1, h2⟩ | h1 | ⟨h1, h2⟩ | ⟨h1, h2⟩ | rfl | rfl | h1
     ·have HO : Hid (okAt c pos = true) := by show _ = _; simp [okAt, h1, h2]
      go_wp2_with fail
      go_roundw
      case rel => exact ⟨pos + 1, by omega, by rw [HT2.out]; exact HO, rfl⟩
      case measure => simp; omega
     ·have HO : Hid (okAt c pos = false) := by show _ = _; simp [okAt]; omega
      have hq : ((c : Int) == 95) = false := by simp; omega
      go_wp2_with fail
      all_goals first | (go_ret; exact ⟨by rw [HN.out, HF.out HO.out]; rfl, HB _ _⟩) | (exfalso; rename_i hh; simp at hh; omega)
     ·by_cases h0 : pos = 0
      ·have HO : Hid (okAt c pos = false) := by show _ = _; simp [okAt, h0]; omega
       subst h0
       go_wp2_with fail
       go_ret
       exact ⟨by rw [HN.out, HF.out HO.out]; rfl, HB _ _⟩
      ·have HO : Hid (okAt c pos = true) := by show _ = _; simp [okAt, h0, h1, h2]
       have hq : ((pos : Int) == 0) = false := by simp; omega
       go_wp2_with fail
       go_roundw
       case rel => exact ⟨pos + 1, by omega, by rw [HT2.out]; exact HO, rfl⟩
       case measure => simp; omega
     ·have HO : Hid (okAt c pos = false) := by show _ = _; simp [okAt]; omega
      have hq : ((c : Int) == 95) = false := by simp; omega
      go_wp2_with fail
      all_goals first | (go_ret; exact ⟨by rw [HN.out, HF.out HO.out]; rfl, HB _ _⟩) | (exfalso; rename_i hh; simp at hh; omega)
     ·by_cases h0 : pos = 0
      ·have HO : Hid (okAt 95 pos = false) := by show _ = _; simp [okAt, h0]
       subst h0
       go_wp2_with fail
       go_ret
       exact ⟨by rw [HN.out, HF.out HO.out]; rfl, HB _ _⟩
      ·have HO : Hid (okAt 95 pos = true) := by show _ = _; simp [okAt, h0]
       have hq : ((pos : Int) == 0) = false := by simp; omega
       go_wp2_with fail
       go_roundw
       case rel => exact ⟨pos + 1, by omega, by rw [HT2.out]; exact HO, rfl⟩
       case measure => simp; omega
     ·have HO : Hid (okAt 96 pos = false) := by show _ = _; simp [okAt]
      go_wp2_with fail
      all_goals first | (go_ret; exact ⟨by rw [HN.out, HF.out HO.out]; rfl, HB _ _⟩) | (exfalso; rename_i hh; simp at hh; omega)
     ·have HO : Hid (okAt c pos = false) := by show _ = _; simp [okAt]; omega
      have hq : ((c : Int) == 95) = false := by simp; omega
      go_wp2_with fail
      all_goals first | (go_ret; exact ⟨by rw [HN.out, HF.out HO.out]; rfl, HB _ _⟩) | (exfalso; rename_i hh; simp at hh; omega)
    ·have hnx : ∀ ty, (Instr.next (.pointer (some ⟨w.heap.size, 0, none⟩)) true ty).run Tryz.prog (w.iter s pos) = _ := fun ty => run_next_any w s pos ty hp
     have hr := (decode_high s pos hp (by omega)).1
     have hr2 := decode_le s pos
     have HO : Hid (okAt (byteAt s pos) pos = false) := by show _ = _; rw [byteAt_eq s pos hp]; exact okAt_high pos (by omega)
     generalize (Utf8.decode s pos).1 = r at *
     generalize (Utf8.decode s pos).2 = d at *
     have hq : ((r : Int) == 95) = false := by simp; omega
     go_wp2_with fail
     all_goals first | (go_ret; exact ⟨by rw [HN.out, HF.out HO.out]; rfl, HB _ _⟩) | (exfalso; rename_i hh; simp at hh; omega)
   ·obtain rfl : pos = s.size := by omega
    have hnx : ∀ ty, (Instr.next (.pointer (some ⟨w.heap.size, 0, none⟩)) true ty).run Tryz.prog (w.iter s s.size) = _ := fun ty => run_next_end w s s.size ty hp
    go_wp2_with fail
    go_ret
    exact ⟨by rw [HN.out, HT.out]; rfl, HB _ _⟩
 ·have HN := Lib.hid (nameF_no hz)
  have HB0 := Lib.hid (Below.refl w.heap.size w)
  by_cases h1 : 1 ≤ s.size
  ·have h2 : 32 < s.size := by omega
   go_enter Tryz.func67, Tryz.ntmps67
   go_wp2_with fail
   go_ret
   exact ⟨by rw [HN.out]; rfl, HB0⟩
  ·have h2 : s.size = 0 := by omega
   go_enter Tryz.func67, Tryz.ntmps67
   go_wp2_with fail
   go_ret
   exact ⟨by rw [HN.out]; rfl, HB0⟩
theorem okAt_zero {c : Nat} (h : okAt c 0 = true) : 97 ≤ c ∧ c ≤ 122 := by simpa [okAt] using h
theorem okAt_bad {c : Nat} (h : ¬ (97 ≤ c ∧ c ≤ 122)) : okAt c 0 = false := by
 cases hh : okAt c 0
 ·rfl
 ·exact absurd (okAt_zero hh) h
set_option maxHeartbeats 2000000 in
set_option maxRecDepth 100000 in
theorem refName_any (s : ByteArray) (w : World) :
 Calls Tryz.prog 17 #[.string s] w fun e w' => e = .returned (.bool (nameF s)) ∧ w' = w := by
 by_cases hz : 1 ≤ s.size ∧ s.size ≤ 32
 ·obtain ⟨hz0, hz1⟩ := hz
  have HN := Lib.hid (nameF_at hz0 hz1)
  have h0z : 0 < s.size := by omega
  have HE0 := Lib.hid (byteAt_eq s 0 h0z)
  by_cases hc : 97 ≤ (s[0]'h0z).toNat ∧ (s[0]'h0z).toNat ≤ 122
  ·obtain ⟨hc0, hc1⟩ := hc
   go_enter Tryz.func17, Tryz.ntmps17
   go_wp2_with fail
   go_loopw [3] (fun i wr => ∃ pos : Nat, pos ≤ s.size ∧ i = .int .i64 pos ∧ Hid (nameTo s pos = true) ∧ wr = w) (fun i _ => s.size - (intOf i).toNat)
   case atStart => exact ⟨0, by omega, rfl, rfl, rfl⟩
   case round =>
    obtain ⟨pos, hpos, rfl, HT, rfl⟩ := hrel
    by_cases hp : pos < s.size
    ·have HF := Lib.hid (nameTo_false s pos s.size hp)
     have HE := Lib.hid (byteAt_eq s pos hp)
     have HT2 : Hid (nameTo s (pos + 1) = okAt (byteAt s pos) pos) := by show _ = _; rw [nameTo_succ, HT.out, Bool.true_and]
     have HZ : Hid (pos = 0 → 97 ≤ (s[pos]'hp).toNat ∧ (s[pos]'hp).toNat ≤ 122) := fun e => by subst e; exact ⟨hc0, hc1⟩
     have hb := (s[pos]'hp).toNat_lt
     rw [HE.out] at HF HT2
     clear HE HE0
     have hcs : (97 ≤ (s[pos]'hp).toNat ∧ (s[pos]'hp).toNat ≤ 122) ∨ (s[pos]'hp).toNat < 48 ∨ (48 ≤ (s[pos]'hp).toNat ∧ (s[pos]'hp).toNat ≤ 57) ∨ (58 ≤ (s[pos]'hp).toNat ∧ (s[pos]'hp).toNat ≤ 94) ∨ (s[pos]'hp).toNat = 95 ∨ (s[pos]'hp).toNat = 96 ∨ 123 ≤ (s[pos]'hp).toNat := by omega
     rcases hcs with ⟨h1, h2⟩ | h1 | ⟨h1, h2⟩ | ⟨h1, h2⟩ | h1 | h1 | h1
     ·have HO : Hid (okAt (s[pos]'hp).toNat pos = true) := by show _ = _; simp [okAt, h1, h2]
      go_wp2_with fail
      go_roundw
      case rel => exact ⟨pos + 1, by omega, by go_num, by rw [HT2.out]; exact HO, by trivial⟩
      case measure => simp [intOf]; omega
     ·have HO : Hid (okAt (s[pos]'hp).toNat pos = false) := by show _ = _; simp [okAt]; omega
      have hq : (((s[pos]'hp).toNat : Int) != 95) = true := by simp; omega
      go_wp2_with fail
      go_ret
      exact ⟨by rw [HN.out, HF.out HO.out]; rfl, by trivial⟩
     ·have h0 : pos ≠ 0 := fun e => by have := HZ.out e; omega
      have HO : Hid (okAt (s[pos]'hp).toNat pos = true) := by show _ = _; simp [okAt, h0, h1, h2]
      go_wp2_with fail
      go_roundw
      case rel => exact ⟨pos + 1, by omega, by go_num, by rw [HT2.out]; exact HO, by trivial⟩
      case measure => simp [intOf]; omega
     ·have HO : Hid (okAt (s[pos]'hp).toNat pos = false) := by show _ = _; simp [okAt]; omega
      have hq : (((s[pos]'hp).toNat : Int) != 95) = true := by simp; omega
      go_wp2_with fail
      go_ret
      exact ⟨by rw [HN.out, HF.out HO.out]; rfl, by trivial⟩
     ·have h0 : pos ≠ 0 := fun e => by have := HZ.out e; omega
      have HO : Hid (okAt (s[pos]'hp).toNat pos = true) := by show _ = _; simp [okAt, h0, h1]
      have hq : (((s[pos]'hp).toNat : Int) != 95) = false := by simp; omega
      go_wp2_with fail
      go_roundw
      case rel => exact ⟨pos + 1, by omega, by go_num, by rw [HT2.out]; exact HO, by trivial⟩
      case measure => simp [intOf]; omega
     ·have HO : Hid (okAt (s[pos]'hp).toNat pos = false) := by show _ = _; simp [okAt]; omega
      have hq : (((s[pos]'hp).toNat : Int) != 95) = true := by simp; omega
      go_wp2_with fail
      go_ret
      exact ⟨by rw [HN.out, HF.out HO.out]; rfl, by trivial⟩
     ·have HO : Hid (okAt (s[pos]'hp).toNat pos = false) := by show _ = _; simp [okAt]; omega
      have hq : (((s[pos]'hp).toNat : Int) != 95) = true := by simp; omega
      go_wp2_with fail
      go_ret
      exact ⟨by rw [HN.out, HF.out HO.out]; rfl, by trivial⟩
    ·obtain rfl : pos = s.size := by omega
     go_wp2_with fail
     go_ret
     exact ⟨by rw [HN.out, HT.out]; rfl, by trivial⟩
  ·have HO : Hid (nameTo s s.size = false) := nameTo_false s 0 s.size h0z (by rw [HE0.out]; exact okAt_bad hc)
   by_cases hc0 : 97 ≤ (s[0]'h0z).toNat
   ·have hc1 : 122 < (s[0]'h0z).toNat := by omega
    go_enter Tryz.func17, Tryz.ntmps17
    go_wp2_with fail
    go_ret
    exact ⟨by rw [HN.out, HO.out]; rfl, by trivial⟩
   ·have hc1 : (s[0]'h0z).toNat < 97 := by omega
    go_enter Tryz.func17, Tryz.ntmps17
    go_wp2_with fail
    go_ret
    exact ⟨by rw [HN.out, HO.out]; rfl, by trivial⟩
 ·have HN := Lib.hid (nameF_no hz)
  by_cases h1 : 1 ≤ s.size
  ·have h2 : 32 < s.size := by omega
   go_enter Tryz.func17, Tryz.ntmps17
   go_wp2_with fail
   go_ret
   exact ⟨by rw [HN.out]; rfl, by trivial⟩
  ·have h2 : s.size = 0 := by omega
   go_enter Tryz.func17, Tryz.ntmps17
   go_wp2_with fail
   go_ret
   exact ⟨by rw [HN.out]; rfl, by trivial⟩
end Go.Proofs.YtnpmgempkoeapaaGreatDoor
