/-
  Put together, as far as it is used: ImgP.
-/
import Derived.Test.YtnpmgempkoeapaaGreatDoorPeaj
import Derived.Test.YtnpmgempkoeapaaGreatDoorPeak
import Derived.Test.YtnpmgempkoeapaaGreatDoorPeal
import Derived.Test.YtnpmgempkoeapaaGreatDoorPeai
set_option linter.unusedVariables false
set_option linter.unusedSimpArgs false
set_option linter.defProp false
namespace Go.Proofs.YtnpmgempkoeapaaGreatDoor
open Go.RowKit Dg
set_option maxHeartbeats 400000 in
theorem eighths_any (n : Nat) (w : World) (h0 : 1 ≤ n) (hn : n ≤ 8) : Calls Tryz.prog 56 #[.int .i64 n] w fun e w' => e = .returned (.int .i64 1) ∧ w' = w := by
 have h1 : ((n : Int) + 7) / 8 = 1 := by omega
 go_enter Tryz.func56, Tryz.ntmps56
 go_wp2_with fail
 go_ret
 exact ⟨by show Ending.returned (.int .i64 (((n : Int) + 7) / 8)) = _; rw [h1], by trivial⟩
def PlR (l : List Nat) (w : World) (e : Ending) (w' : World) : Prop := ∃ A m c, e = .returned (.slice A m c) ∧ l.length = m ∧ Rd w' A l ∧ (A = none → c = 0) ∧ Below w.heap.size w w'
theorem plR_out {l : List Nat} {w W w' : World} {e : Ending} (hb : Below w.heap.size w W) (hne : l ≠ []) (h : Out W l e w') : PlR l w e w' := by
 obtain ⟨v, rfl, A, c, rfl, hc, hr, hb2⟩ := h
 refine ⟨A, l.length, c, rfl, rfl, hr, fun hA => ?_, hb.trans (hb2.mono hb.size)⟩
 subst hA
 exact absurd (rd_none hr) hne
theorem one_rdP (w : World) (x : Nat) : Rd (w.alloc (.cells #[.int .u8 (x : Int)] 5)) (some ⟨w.heap.size, 0, none⟩) [x] :=
 Rd.of_has (Has.new w 5 #[.int .u8 (x : Int)]) fun i hi => by simp at hi; subst hi; rfl
set_option maxHeartbeats 2000000 in
theorem plain_any (k n : Int) (s : ByteArray) (w : World) (hm : mayF k n s = true) (hs : s.size ≤ 1000) (h0 : -9223372036854775808 ≤ n) (h1 : n ≤ 9223372036854775807) :
 Calls Tryz.prog 57 #[.agg #[.int .i64 k, .int .i64 n, .string s]] w fun e w' => PlR (plB ⟨k, n, s⟩) w e w' := by
 have HB := Lib.hid ((Below.refl w.heap.size w).alloc (Nat.le_refl _) (.cells #[.int .i64 k, .int .i64 n, .string s] 87))
 rcases may_kind hm with rfl | rfl | rfl | rfl | rfl
 ·go_enter Tryz.func57, Tryz.ntmps57
  go_wp2_with fail
  go_ret
  exact ⟨none, 0, 0, rfl, rfl, Rd.nil _ _, fun _ => rfl, HB.out⟩
 ·have hn : n = 0 ∨ n = 1 := by
   simp only [mayF] at hm
   simp at hm
   exact hm.2
  rcases hn with rfl | rfl
  ·have hr := one_rdP (w.alloc (.cells #[.int .i64 1, .int .i64 0, .string s] 87)) 0
   rw [show (w.alloc (.cells #[.int .i64 1, .int .i64 0, .string s] 87)).heap.size = w.heap.size + 1 by simp] at hr
   have HR := Lib.hid hr
   clear hr
   go_enter Tryz.func57, Tryz.ntmps57
   go_wp2_with fail
   go_ret
   exact ⟨some ⟨w.heap.size + 1, 0, none⟩, 1, 1, rfl, rfl, HR.out, (fun h => by cases h), HB.out.alloc (by simp) _⟩
  ·have hr := one_rdP (w.alloc (.cells #[.int .i64 1, .int .i64 1, .string s] 87)) 1
   rw [show (w.alloc (.cells #[.int .i64 1, .int .i64 1, .string s] 87)).heap.size = w.heap.size + 1 by simp] at hr
   have HR := Lib.hid hr
   clear hr
   go_enter Tryz.func57, Tryz.ntmps57
   go_wp2_with fail
   go_ret
   exact ⟨some ⟨w.heap.size + 1, 0, none⟩, 1, 1, rfl, rfl, HR.out, (fun h => by cases h), HB.out.alloc (by simp) _⟩
 ·have HC := Lib.hid (Signed_any none [] 0 n (w.alloc (.cells #[.int .i64 2, .int .i64 n, .string s] 87)) (Nat.le_refl _) (Rd.nil _ _) (by simp) h0 h1)
  go_enter Tryz.func57, Tryz.ntmps57
  go_wp2_with fail
  refine HC.out.mono ?_
  rintro e w1 ho
  have hp := plR_out HB.out (by have := digs_pos (zig n); intro h; rw [List.nil_append] at h; rw [h] at this; simp at this) ho
  have HP := Lib.hid hp
  clear hp ho
  obtain ⟨A, m, c, rfl, hl, hr, hz, hb⟩ := HP.out
  have HL := Lib.hid hl
  have HR := Lib.hid hr
  have HZ := Lib.hid hz
  have HB1 := Lib.hid hb
  clear hl hr hz hb HP HC
  go_wp2_with fail
  go_ret
  exact ⟨A, m, c, rfl, HL.out, HR.out, HZ.out, HB1.out⟩
 all_goals
  have HC := fun k => Lib.hid (Text_any none [] 0 s (w.alloc (.cells #[.int .i64 k, .int .i64 n, .string s] 87)) (Nat.le_refl _) (Rd.nil _ _) (by simp) hs)
  replace HC := Lib.hid HC
  go_enter Tryz.func57, Tryz.ntmps57
  go_wp2_with fail
  refine (HC.out _).out.mono ?_
  rintro e w1 ho
  have hp := plR_out HB.out (by have := digs_pos s.size; intro h; have h2 := congrArg List.length h; rw [List.nil_append, List.length_append, List.length_nil] at h2; omega) ho
  have HP := Lib.hid hp
  clear hp ho
  obtain ⟨A, m, c, rfl, hl, hr, hz, hb⟩ := HP.out
  have HL := Lib.hid hl
  have HR := Lib.hid hr
  have HZ := Lib.hid hz
  have HB1 := Lib.hid hb
  clear hl hr hz hb HP HC
  go_wp2_with fail
  go_ret
  exact ⟨A, m, c, rfl, HL.out, HR.out, HZ.out, HB1.out⟩
end Go.Proofs.YtnpmgempkoeapaaGreatDoor
