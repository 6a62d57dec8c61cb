/-
  The program's deed: what is handed over is done, unless the power goes at it.
-/
import Derived.Test.YtoooainecoappaaDkS
namespace Go.Proofs.Ytoooainecoappaa
open Go.RowKit Go.Maps Go.WideShapes
/-- How many deeds are left behind one. -/
def dec (a : Int) : Int := if 0 < a then a - 1 else a
/-- The world in which a deed is done. -/
def armW (w : World) (d : Nat) (a : Int) : World := if 0 < a then w.setCell ⟨d, 2, none⟩ (.int .i64 (a - 1)) else w
theorem DIn.armW {B d : Nat} {w : World} {S : Ds} {m : Nat} {gs : List Fl} (h : DIn B d w S m gs) : DIn B d (armW w d S.armed) { S with armed := dec S.armed } m gs := by
  unfold Go.Proofs.Ytoooainecoappaa.armW dec
  have := h.arm
  split
  · exact h.arms _ (by omega)
  · exact h
theorem armW_size (w : World) (d : Nat) (a : Int) : (armW w d a).heap.size = w.heap.size := by unfold armW; split <;> simp [World.setCell]
theorem armW_tur {X : List Nat} (w : World) (d : Nat) (a : Int) (h : d ∈ X) : Tur X w (armW w d a) := by
  unfold armW; split
  · exact Tur.setCell w (p := ⟨d, 2, none⟩) h _
  · exact Tur.refl _ _
set_option maxHeartbeats 2000000 in
set_option maxRecDepth 100000 in
theorem deed_Create (B d : Nat) (w : World) (S : Ds) (m : Nat) (gs : List Fl) (h : DIn B d w S m gs) (caps : Array Value) (R : World → Prop)
    (hc : S.armed ≠ 0 → Calls Try.prog 59 caps (armW w d S.armed) fun e w' => e = .returned (.tuple #[]) ∧ R w') :
    Calls Try.prog 58 #[.pointer (some ⟨d, 0, none⟩), .func (.func 59) #[] caps] w fun e w' =>
      (S.armed = 0 ∧ e = .returned (.int .i64 12) ∧ w' = w.setCell ⟨d, 3, none⟩ (.bool true)) ∨ (S.armed ≠ 0 ∧ e = .returned (.int .i64 0) ∧ R w') := by
  have d2 := h.top.cell 2
  have f2 := h.top.free 2
  have f3 := h.top.free 3
  have d3 := h.top.cell 3
  have HA := Lib.hid h.arm
  generalize S.armed = a at *
  clear h
  by_cases ha : a = 0
  · subst ha
    go_enter Try.func58, Try.ntmps58
    go_wp2_with fail
    go_ret
    exact .inl ⟨by trivial, rfl, rfl⟩
  · have ha0 : (a == 0) = false := by simpa using ha
    have HC := Lib.hid (hc ha)
    clear hc
    by_cases hp : 0 < a
    · have HW : Hid (armW w d a = w.setCell ⟨d, 2, none⟩ (.int .i64 (a - 1))) := by show _ = _; unfold armW; rw [if_pos hp]
      rw [HW.out] at HC
      clear HW
      have h1 : -9223372036854775808 ≤ a - 1 := by omega
      have h2 : a - 1 ≤ 9223372036854775807 := by have := HA.out; omega
      go_enter Try.func58, Try.ntmps58
      go_wp2_with fail
      refine HC.out.mono ?_
      rintro e w1 ⟨rfl, hR⟩
      go_wp2_with fail
      go_ret
      exact .inr ⟨ha, rfl, hR⟩
    · have HW : Hid (armW w d a = w) := by show _ = _; unfold armW; rw [if_neg hp]
      rw [HW.out] at HC
      clear HW
      have h1 : a < 0 := by omega
      go_enter Try.func58, Try.ntmps58
      go_wp2_with fail
      refine HC.out.mono ?_
      rintro e w1 ⟨rfl, hR⟩
      go_wp2_with fail
      go_ret
      exact .inr ⟨ha, rfl, hR⟩
set_option maxHeartbeats 2000000 in
set_option maxRecDepth 100000 in
theorem deed_Append (B d : Nat) (w : World) (S : Ds) (m : Nat) (gs : List Fl) (h : DIn B d w S m gs) (caps : Array Value) (R : World → Prop)
    (hc : S.armed ≠ 0 → Calls Try.prog 65 caps (armW w d S.armed) fun e w' => e = .returned (.tuple #[]) ∧ R w') :
    Calls Try.prog 58 #[.pointer (some ⟨d, 0, none⟩), .func (.func 65) #[] caps] w fun e w' =>
      (S.armed = 0 ∧ e = .returned (.int .i64 12) ∧ w' = w.setCell ⟨d, 3, none⟩ (.bool true)) ∨ (S.armed ≠ 0 ∧ e = .returned (.int .i64 0) ∧ R w') := by
  have d2 := h.top.cell 2
  have f2 := h.top.free 2
  have f3 := h.top.free 3
  have d3 := h.top.cell 3
  have HA := Lib.hid h.arm
  generalize S.armed = a at *
  clear h
  by_cases ha : a = 0
  · subst ha
    go_enter Try.func58, Try.ntmps58
    go_wp2_with fail
    go_ret
    exact .inl ⟨by trivial, rfl, rfl⟩
  · have ha0 : (a == 0) = false := by simpa using ha
    have HC := Lib.hid (hc ha)
    clear hc
    by_cases hp : 0 < a
    · have HW : Hid (armW w d a = w.setCell ⟨d, 2, none⟩ (.int .i64 (a - 1))) := by show _ = _; unfold armW; rw [if_pos hp]
      rw [HW.out] at HC
      clear HW
      have h1 : -9223372036854775808 ≤ a - 1 := by omega
      have h2 : a - 1 ≤ 9223372036854775807 := by have := HA.out; omega
      go_enter Try.func58, Try.ntmps58
      go_wp2_with fail
      refine HC.out.mono ?_
      rintro e w1 ⟨rfl, hR⟩
      go_wp2_with fail
      go_ret
      exact .inr ⟨ha, rfl, hR⟩
    · have HW : Hid (armW w d a = w) := by show _ = _; unfold armW; rw [if_neg hp]
      rw [HW.out] at HC
      clear HW
      have h1 : a < 0 := by omega
      go_enter Try.func58, Try.ntmps58
      go_wp2_with fail
      refine HC.out.mono ?_
      rintro e w1 ⟨rfl, hR⟩
      go_wp2_with fail
      go_ret
      exact .inr ⟨ha, rfl, hR⟩
set_option maxHeartbeats 2000000 in
set_option maxRecDepth 100000 in
theorem deed_Sync (B d : Nat) (w : World) (S : Ds) (m : Nat) (gs : List Fl) (h : DIn B d w S m gs) (caps : Array Value) (R : World → Prop)
    (hc : S.armed ≠ 0 → Calls Try.prog 66 caps (armW w d S.armed) fun e w' => e = .returned (.tuple #[]) ∧ R w') :
    Calls Try.prog 58 #[.pointer (some ⟨d, 0, none⟩), .func (.func 66) #[] caps] w fun e w' =>
      (S.armed = 0 ∧ e = .returned (.int .i64 12) ∧ w' = w.setCell ⟨d, 3, none⟩ (.bool true)) ∨ (S.armed ≠ 0 ∧ e = .returned (.int .i64 0) ∧ R w') := by
  have d2 := h.top.cell 2
  have f2 := h.top.free 2
  have f3 := h.top.free 3
  have d3 := h.top.cell 3
  have HA := Lib.hid h.arm
  generalize S.armed = a at *
  clear h
  by_cases ha : a = 0
  · subst ha
    go_enter Try.func58, Try.ntmps58
    go_wp2_with fail
    go_ret
    exact .inl ⟨by trivial, rfl, rfl⟩
  · have ha0 : (a == 0) = false := by simpa using ha
    have HC := Lib.hid (hc ha)
    clear hc
    by_cases hp : 0 < a
    · have HW : Hid (armW w d a = w.setCell ⟨d, 2, none⟩ (.int .i64 (a - 1))) := by show _ = _; unfold armW; rw [if_pos hp]
      rw [HW.out] at HC
      clear HW
      have h1 : -9223372036854775808 ≤ a - 1 := by omega
      have h2 : a - 1 ≤ 9223372036854775807 := by have := HA.out; omega
      go_enter Try.func58, Try.ntmps58
      go_wp2_with fail
      refine HC.out.mono ?_
      rintro e w1 ⟨rfl, hR⟩
      go_wp2_with fail
      go_ret
      exact .inr ⟨ha, rfl, hR⟩
    · have HW : Hid (armW w d a = w) := by show _ = _; unfold armW; rw [if_neg hp]
      rw [HW.out] at HC
      clear HW
      have h1 : a < 0 := by omega
      go_enter Try.func58, Try.ntmps58
      go_wp2_with fail
      refine HC.out.mono ?_
      rintro e w1 ⟨rfl, hR⟩
      go_wp2_with fail
      go_ret
      exact .inr ⟨ha, rfl, hR⟩
set_option maxHeartbeats 2000000 in
set_option maxRecDepth 100000 in
theorem deed_Rename (B d : Nat) (w : World) (S : Ds) (m : Nat) (gs : List Fl) (h : DIn B d w S m gs) (caps : Array Value) (R : World → Prop)
    (hc : S.armed ≠ 0 → Calls Try.prog 67 caps (armW w d S.armed) fun e w' => e = .returned (.tuple #[]) ∧ R w') :
    Calls Try.prog 58 #[.pointer (some ⟨d, 0, none⟩), .func (.func 67) #[] caps] w fun e w' =>
      (S.armed = 0 ∧ e = .returned (.int .i64 12) ∧ w' = w.setCell ⟨d, 3, none⟩ (.bool true)) ∨ (S.armed ≠ 0 ∧ e = .returned (.int .i64 0) ∧ R w') := by
  have d2 := h.top.cell 2
  have f2 := h.top.free 2
  have f3 := h.top.free 3
  have d3 := h.top.cell 3
  have HA := Lib.hid h.arm
  generalize S.armed = a at *
  clear h
  by_cases ha : a = 0
  · subst ha
    go_enter Try.func58, Try.ntmps58
    go_wp2_with fail
    go_ret
    exact .inl ⟨by trivial, rfl, rfl⟩
  · have ha0 : (a == 0) = false := by simpa using ha
    have HC := Lib.hid (hc ha)
    clear hc
    by_cases hp : 0 < a
    · have HW : Hid (armW w d a = w.setCell ⟨d, 2, none⟩ (.int .i64 (a - 1))) := by show _ = _; unfold armW; rw [if_pos hp]
      rw [HW.out] at HC
      clear HW
      have h1 : -9223372036854775808 ≤ a - 1 := by omega
      have h2 : a - 1 ≤ 9223372036854775807 := by have := HA.out; omega
      go_enter Try.func58, Try.ntmps58
      go_wp2_with fail
      refine HC.out.mono ?_
      rintro e w1 ⟨rfl, hR⟩
      go_wp2_with fail
      go_ret
      exact .inr ⟨ha, rfl, hR⟩
    · have HW : Hid (armW w d a = w) := by show _ = _; unfold armW; rw [if_neg hp]
      rw [HW.out] at HC
      clear HW
      have h1 : a < 0 := by omega
      go_enter Try.func58, Try.ntmps58
      go_wp2_with fail
      refine HC.out.mono ?_
      rintro e w1 ⟨rfl, hR⟩
      go_wp2_with fail
      go_ret
      exact .inr ⟨ha, rfl, hR⟩
set_option maxHeartbeats 2000000 in
set_option maxRecDepth 100000 in
theorem deed_Remove (B d : Nat) (w : World) (S : Ds) (m : Nat) (gs : List Fl) (h : DIn B d w S m gs) (caps : Array Value) (R : World → Prop)
    (hc : S.armed ≠ 0 → Calls Try.prog 68 caps (armW w d S.armed) fun e w' => e = .returned (.tuple #[]) ∧ R w') :
    Calls Try.prog 58 #[.pointer (some ⟨d, 0, none⟩), .func (.func 68) #[] caps] w fun e w' =>
      (S.armed = 0 ∧ e = .returned (.int .i64 12) ∧ w' = w.setCell ⟨d, 3, none⟩ (.bool true)) ∨ (S.armed ≠ 0 ∧ e = .returned (.int .i64 0) ∧ R w') := by
  have d2 := h.top.cell 2
  have f2 := h.top.free 2
  have f3 := h.top.free 3
  have d3 := h.top.cell 3
  have HA := Lib.hid h.arm
  generalize S.armed = a at *
  clear h
  by_cases ha : a = 0
  · subst ha
    go_enter Try.func58, Try.ntmps58
    go_wp2_with fail
    go_ret
    exact .inl ⟨by trivial, rfl, rfl⟩
  · have ha0 : (a == 0) = false := by simpa using ha
    have HC := Lib.hid (hc ha)
    clear hc
    by_cases hp : 0 < a
    · have HW : Hid (armW w d a = w.setCell ⟨d, 2, none⟩ (.int .i64 (a - 1))) := by show _ = _; unfold armW; rw [if_pos hp]
      rw [HW.out] at HC
      clear HW
      have h1 : -9223372036854775808 ≤ a - 1 := by omega
      have h2 : a - 1 ≤ 9223372036854775807 := by have := HA.out; omega
      go_enter Try.func58, Try.ntmps58
      go_wp2_with fail
      refine HC.out.mono ?_
      rintro e w1 ⟨rfl, hR⟩
      go_wp2_with fail
      go_ret
      exact .inr ⟨ha, rfl, hR⟩
    · have HW : Hid (armW w d a = w) := by show _ = _; unfold armW; rw [if_neg hp]
      rw [HW.out] at HC
      clear HW
      have h1 : a < 0 := by omega
      go_enter Try.func58, Try.ntmps58
      go_wp2_with fail
      refine HC.out.mono ?_
      rintro e w1 ⟨rfl, hR⟩
      go_wp2_with fail
      go_ret
      exact .inr ⟨ha, rfl, hR⟩
end Go.Proofs.Ytoooainecoappaa
