/-
  Names of files: the program's isName and the document's.
-/
import Derived.Test.YtoooainecoappaaStr
import Derived.Laws.RangeAny
namespace Go.Proofs.Ytoooainecoappaa
open Go.RowKit Dg
/-- May a byte stand in a file's name? -/
def okC (c : Nat) : Bool := (decide (97 ≤ c) && decide (c ≤ 122)) || (decide (48 ≤ c) && decide (c ≤ 57)) || c == 46 || c == 45
def byteAt (s : ByteArray) (i : Nat) : Nat := if h : i < s.size then (s[i]'h).toNat else 0
theorem byteAt_eq (s : ByteArray) (i : Nat) (h : i < s.size) : byteAt s i = (s[i]'h).toNat := by unfold byteAt; rw [dif_pos h]
def nameTo (s : ByteArray) (k : Nat) : Bool := (List.range k).all fun i => okC (byteAt s i)
theorem nameTo_succ (s : ByteArray) (k : Nat) : nameTo s (k + 1) = (nameTo s k && okC (byteAt s k)) := by
  unfold nameTo; rw [List.range_succ, List.all_append]; simp
theorem nameTo_false (s : ByteArray) (k n : Nat) (hk : k < n) (h : okC (byteAt s k) = false) : nameTo s n = false := by
  unfold nameTo; rw [List.all_eq_false]
  exact ⟨k, List.mem_range.2 hk, by simp [h]⟩
/-- Is a text a file's name? -/
def fileF (s : ByteArray) : Bool := decide (1 ≤ s.size) && decide (s.size ≤ 20) && nameTo s s.size
theorem fileF_at {s : ByteArray} (h0 : 1 ≤ s.size) (h1 : s.size ≤ 20) : fileF s = nameTo s s.size := by
  unfold fileF; simp [h0, h1]
theorem fileF_no {s : ByteArray} (h : ¬ (1 ≤ s.size ∧ s.size ≤ 20)) : fileF s = false := by
  unfold fileF
  have e : (decide (1 ≤ s.size) && decide (s.size ≤ 20)) = false := by simp; omega
  rw [e]; rfl
theorem fileF_size {s : ByteArray} (h : fileF s = true) : 1 ≤ s.size ∧ s.size ≤ 20 := by
  by_cases hh : 1 ≤ s.size ∧ s.size ≤ 20
  · exact hh
  · rw [fileF_no hh] at h; cases h
theorem okC_high {c : Nat} (h : 128 ≤ c) : okC c = false := by
  unfold okC
  have e1 : decide (c ≤ 122) = false := by simp; omega
  have e2 : decide (c ≤ 57) = false := by simp; omega
  have e3 : (c == 46) = false := by simp; omega
  have e4 : (c == 45) = false := by simp; omega
  rw [e1, e2, e3, e4]; simp
theorem width_pos (s : ByteArray) (pos : Nat) (h : pos < s.size) : 1 ≤ (Utf8.decode s pos).2 := by
  by_cases ha : (s[pos]'h).toNat < 128
  · rw [decode_ascii s pos h ha]
    exact Nat.le_refl _
  · exact (decode_high s pos h (by omega)).2
set_option maxHeartbeats 2000000 in
set_option maxRecDepth 100000 in
theorem isName_any (s : ByteArray) (w : World) (hs : s.size ≤ 140737488355328) :
    Calls Try.prog 80 #[.string s] w fun e w' => e = .returned (.bool (fileF s)) ∧ Hid (Below w.heap.size w w') := by
  have HB := fun s pos => Lib.hid ((Below.refl w.heap.size w).alloc (Nat.le_refl _) (.stringIter s pos))
  by_cases hz : 1 ≤ s.size ∧ s.size ≤ 20
  · obtain ⟨hz0, hz1⟩ := hz
    have HN := Lib.hid (fileF_at hz0 hz1)
    go_enter Try.func80, Try.ntmps80
    go_wp2_with fail
    go_loopw [4] (fun _ wr => ∃ pos : Nat, pos ≤ s.size ∧ Hid (nameTo s pos = true) ∧ wr = w.iter s pos) (fun _ wr => s.size - wr.iterPos w.heap.size)
    case atStart => exact ⟨0, by omega, rfl, rfl⟩
    case round =>
      obtain ⟨pos, hpos, HT, rfl⟩ := hrel
      by_cases hp : pos < s.size
      · have HF := Lib.hid (nameTo_false s pos s.size hp)
        by_cases ha : (s[pos]'hp).toNat < 128
        · have hnx : ∀ ty, (Instr.next (.pointer (some ⟨w.heap.size, 0, none⟩)) true ty).run Try.prog (w.iter s pos) = _ := fun ty => run_next_ascii w s pos ty hp ha
          have HE := Lib.hid (byteAt_eq s pos hp)
          have HT2 : Hid (nameTo s (pos + 1) = okC (byteAt s pos)) := by show _ = _; rw [nameTo_succ, HT.out, Bool.true_and]
          generalize (s[pos]'hp).toNat = c at *
          rw [HE.out] at HF HT2
          clear HE
          have hcs : c < 45 ∨ c = 45 ∨ c = 46 ∨ c = 47 ∨ (48 ≤ c ∧ c ≤ 57) ∨ (58 ≤ c ∧ c ≤ 96) ∨ (97 ≤ c ∧ c ≤ 122) ∨ 123 ≤ c := by omega
          rcases hcs with h1 | rfl | rfl | rfl | ⟨h1, h2⟩ | ⟨h1, h2⟩ | ⟨h1, h2⟩ | h1
          · have HO : Hid (okC c = false) := by show _ = _; simp [okC]; omega
            have hq : ((c : Int) != 46) = true := by simp; omega
            have hq2 : ((c : Int) != 45) = true := by simp; omega
            go_wp2_with fail
            all_goals first | (go_ret; exact ⟨by rw [HN.out, HF.out HO.out]; rfl, HB _ _⟩) | (exfalso; rename_i hh; simp at hh; omega)
          · have HO : Hid (okC 45 = true) := by show _ = _; simp [okC]
            go_wp2_with fail
            go_roundw
            case rel => exact ⟨pos + 1, by omega, by rw [HT2.out]; exact HO, rfl⟩
            case measure => simp; omega
          · have HO : Hid (okC 46 = true) := by show _ = _; simp [okC]
            go_wp2_with fail
            go_roundw
            case rel => exact ⟨pos + 1, by omega, by rw [HT2.out]; exact HO, rfl⟩
            case measure => simp; omega
          · have HO : Hid (okC 47 = false) := by show _ = _; simp [okC]
            go_wp2_with fail
            all_goals first | (go_ret; exact ⟨by rw [HN.out, HF.out HO.out]; rfl, HB _ _⟩) | (exfalso; rename_i hh; simp at hh; omega)
          · have HO : Hid (okC c = true) := by show _ = _; simp [okC, h1, h2]
            have hq : ((c : Int) != 46) = true := by simp; omega
            have hq2 : ((c : Int) != 45) = true := by simp; omega
            go_wp2_with fail
            go_roundw
            case rel => exact ⟨pos + 1, by omega, by rw [HT2.out]; exact HO, rfl⟩
            case measure => simp; omega
          · have HO : Hid (okC c = false) := by show _ = _; simp [okC]; omega
            have hq : ((c : Int) != 46) = true := by simp; omega
            have hq2 : ((c : Int) != 45) = true := by simp; omega
            go_wp2_with fail
            all_goals first | (go_ret; exact ⟨by rw [HN.out, HF.out HO.out]; rfl, HB _ _⟩) | (exfalso; rename_i hh; simp at hh; omega)
          · have HO : Hid (okC c = true) := by show _ = _; simp [okC, h1, h2]
            have hq : ((c : Int) != 46) = true := by simp; omega
            have hq2 : ((c : Int) != 45) = true := by simp; omega
            go_wp2_with fail
            go_roundw
            case rel => exact ⟨pos + 1, by omega, by rw [HT2.out]; exact HO, rfl⟩
            case measure => simp; omega
          · have HO : Hid (okC c = false) := by show _ = _; simp [okC]; omega
            have hq : ((c : Int) != 46) = true := by simp; omega
            have hq2 : ((c : Int) != 45) = true := by simp; omega
            go_wp2_with fail
            all_goals first | (go_ret; exact ⟨by rw [HN.out, HF.out HO.out]; rfl, HB _ _⟩) | (exfalso; rename_i hh; simp at hh; omega)
        · have hnx : ∀ ty, (Instr.next (.pointer (some ⟨w.heap.size, 0, none⟩)) true ty).run Try.prog (w.iter s pos) = _ := fun ty => run_next_any w s pos ty hp
          have hr := (decode_high s pos hp (by omega)).1
          have hr2 := decode_le s pos
          have HO : Hid (okC (byteAt s pos) = false) := by show _ = _; rw [byteAt_eq s pos hp]; exact okC_high (by omega)
          generalize (Utf8.decode s pos).1 = r at *
          generalize (Utf8.decode s pos).2 = d at *
          have hq : ((r : Int) != 46) = true := by simp; omega
          have hq2 : ((r : Int) != 45) = true := by simp; omega
          go_wp2_with fail
          all_goals first | (go_ret; exact ⟨by rw [HN.out, HF.out HO.out]; rfl, HB _ _⟩) | (exfalso; rename_i hh; simp at hh; omega)
      · obtain rfl : pos = s.size := by omega
        have hnx : ∀ ty, (Instr.next (.pointer (some ⟨w.heap.size, 0, none⟩)) true ty).run Try.prog (w.iter s s.size) = _ := fun ty => run_next_end w s s.size ty hp
        go_wp2_with fail
        go_ret
        exact ⟨by rw [HN.out, HT.out]; rfl, HB _ _⟩
  · have HN := Lib.hid (fileF_no hz)
    have HB0 := Lib.hid (Below.refl w.heap.size w)
    by_cases h1 : 1 ≤ s.size
    · have h2 : 20 < s.size := by omega
      go_enter Try.func80, Try.ntmps80
      go_wp2_with fail
      go_ret
      exact ⟨by rw [HN.out]; rfl, HB0⟩
    · have h2 : s.size = 0 := by omega
      go_enter Try.func80, Try.ntmps80
      go_wp2_with fail
      go_ret
      exact ⟨by rw [HN.out]; rfl, HB0⟩
end Go.Proofs.Ytoooainecoappaa
