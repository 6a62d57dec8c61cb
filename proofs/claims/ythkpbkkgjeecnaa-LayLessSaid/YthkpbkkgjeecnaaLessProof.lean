/-
  LayLess returns true for any two numbers: the lesser one has no more digits, and the digits tell the number.
-/
import Derived.Test.YthkpbkkgjeecnaaStr
import Derived.WalkKit
import Derived.ProofKit
import Derived.OpenShut
import Derived.ShutString
namespace Go.Proofs.Ythkpbkkgjeecnaa.layLess
open Go.ChangeShapes Go.WideShapes Go.ChangeAt Go.RowKit
open Go.ChangeMaps (open_string shut_string)
set_option linter.unusedVariables false

theorem own : ownKnob Try.prog.godebug = none := by kernel_rfl

open Dg
set_option maxHeartbeats 1000000 in
theorem walk (a0 : Int) (a1 : Int) (w0 : (Lit.int .i64 a0).wf = true) (w1 : (Lit.int .i64 a1).wf = true) (w : World) :
    Calls Try.prog 6 #[.int .i64 a0, .int .i64 a1] w fun e w' => e = .returned (.bool true) ∧ Below w.heap.size w w' := by
  obtain ⟨l0, u0⟩ := bounds_i64 w0
  obtain ⟨l1, u1⟩ := bounds_i64 w1
  clear w0 w1
  by_cases g0 : a0 < 0 <;> by_cases g1 : a1 < 0
  all_goals
    obtain ⟨p0, e0⟩ : ∃ p : Nat, (if a0 < 0 then -(a0 + 1) else a0) = (p : Int) := ⟨(if a0 < 0 then -(a0 + 1) else a0).toNat, by omega⟩
    obtain ⟨p1, e1⟩ : ∃ p : Nat, (if a1 < 0 then -(a1 + 1) else a1) = (p : Int) := ⟨(if a1 < 0 then -(a1 + 1) else a1).toNat, by omega⟩
    have h0 : (p0 : Int) ≤ 9223372036854775807 := by omega
    have h1 : (p1 : Int) ≤ 9223372036854775807 := by omega
    first | rw [if_pos g0] at e0 | rw [if_neg g0] at e0
    first | rw [if_pos g1] at e1 | rw [if_neg g1] at e1
    have n0 : decide ((p0 : Int) < 0) = false := by simp
    have n1 : decide ((p1 : Int) < 0) = false := by simp
    first | (subst e0) | (have E0 := Lib.hid e0; clear e0)
    first | (subst e1) | (have E1 := Lib.hid e1; clear e1)
    have hm := digs_mono p1 p0
    have hs : ((bs (digs p0)).toList == (bs (digs p1)).toList) = decide (p0 = p1) := by
      rw [bs_eqb (digs_byte _) (digs_byte _)]
      by_cases e : p0 = p1
      · subst e; simp
      · have : digs p0 ≠ digs p1 := fun h => e (digs_inj h)
        simp [e, this]
    have hi : ((p0 : Int) == (p1 : Int)) = decide (p0 = p1) := by
      by_cases e : p0 = p1
      · subst e; simp
      · have : (p0 : Int) ≠ p1 := by omega
        rw [decide_eq_false e]; simpa using this
    go_enter Try.func6, Try.ntmps6
    go_wp2_with fail
    try rw [E0.out]
    try rw [E1.out]
    refine (Number_any none [] 0 p0 _ (Nat.le_refl _) (Rd.nil _ _) (by simp) (by omega)).mono ?_
    intro e w1 ho
    obtain ⟨v, rfl, A, c, rfl, hc, hr, hb1⟩ := ho
    have HR := Lib.hid hr
    clear hr
    go_wp2_with fail
    refine (Number_any none [] 0 p1 _ (Nat.le_refl _) (Rd.nil _ _) (by simp) (by omega)).mono ?_
    intro e w2 ho
    obtain ⟨v, rfl, A', c', rfl, hc', hr, hb2⟩ := ho
    have HR' := Lib.hid hr
    have H0 := Lib.hid (HR.out.below hb2)
    clear hr
    go_wp2_with fail
    rw [conv_rd w2 A (digs p0) c (by simpa using H0.out)]
    go_wp2_with fail
    rw [conv_rd w2 A' (digs p1) c' (by simpa using HR'.out)]
    go_wp2_with fail
    all_goals (
      refine (lives_any _).mono ?_
      rintro e w3 ⟨rfl, hb3⟩
      go_wp2_with fail
      go_ret
      exact ⟨rfl, (hb1.trans (hb2.mono hb1.size)).trans (hb3.mono (Nat.le_trans hb1.size hb2.size))⟩)

set_option maxRecDepth 100000 in
theorem lifted (os : Os) (started : os.Started) (H : Type) (enc : TypeId × Value → H) :
    ReturnsInHanded {} Try.checked os 6 .any (Rows.layLessSpec.pre6 enc Try.prog Try.f6 Rows.layLessRow.domain false) (Rows.layLessSpec.post enc Try.prog Try.f6 false true false false) := by
  refine returnsInHanded_of_change (C := Try.checked) own started (by kernel_rfl) Try.func6
    (ChangeSpec.witness6 (enc := enc) (C := Try.checked) false ⟨#[], #[.int .i64 0, .int .i64 0], []⟩ 8 (by kernel_rfl) (by kernel_rfl) (by kernel_rfl) (by kernel_rfl)) ?_
  intro W base args ds gs before hval0 hW hcnd _
  have hval : ∀ (j : Nat) t v, Try.f6.params[j]? = some t → args[j]? = some v → Value.okWide Try.prog W .any base t v := hval0
  have hW' := hW
  obtain ⟨p, q, hA0, hV, rfl, hfz, hnd⟩ := hW
  have hA : DataW.TrodAll enc Try.prog W 0 (fun _ => true) true Try.f6.params.toList args.toList ds p := hA0
  rw [Try.params6] at hA hval
  obtain ⟨v0, vs0, d0, ds0, p0, q0, hargs, rfl, rfl, h0, r0⟩ := trodAll_cons hA
  obtain ⟨v1, vs1, d1, ds1, p1, q1, rfl, rfl, rfl, h1, r1⟩ := trodAll_cons r0
  obtain ⟨rfl, rfl, rfl⟩ := trodAll_nil r1
  obtain rfl : args = #[v0, v1] := by cases args; simp_all
  obtain ⟨rfl, rfl⟩ := trodVars_none hV
  obtain ⟨a0, rfl, rfl, rfl, w0⟩ := open_int Try.underlying3 (hval 0 3 v0 rfl rfl) h0
  obtain ⟨a1, rfl, rfl, rfl, w1⟩ := open_int Try.underlying3 (hval 1 3 v1 rfl rfl) h1
  clear hA0 hval0
  simp only [List.append_nil] at hW'
  refine (walk a0 a1 w0 w1 W).mono fun e W' ⟨he, bel⟩ => ?_
  subst he
  exact ⟨_, rfl, _, _, _, [], [], [], hW', trodAll_mk1 (shut_bool Try.underlying4 _), (trodAll_cons_mk (shut_int Try.underlying3 w0) (trodAll_cons_mk (shut_int Try.underlying3 w1) trodAll_mk0)), rfl, bel.frame _, fun h => by cases h⟩

theorem over : Rows.layLessRow.holds Try.pinned (OpenSpec.ofChange Rows.layLessSpec) :=
  OpenClaim.holds_of_wide 6 Try.f6 rfl rfl rfl rfl rfl rfl rfl ⟨rfl, rfl, rfl, rfl, rfl⟩ rfl rfl rfl rfl rfl (by kernel_rfl) Try.func6 (by kernel_rfl)
    (of_decide_eq_true (by kernel_rfl)) (by unfold Func.isWrapper; first | (rw [if_pos (by decide +kernel)]; kernel_rfl) | (rw [if_neg (by decide +kernel)]; exact ⟨rfl, rfl⟩))
    (fun os started H enc _ => lifted os started H enc)

theorem proved : Rows.LayLessSaid :=
  over
#print axioms proved
end Go.Proofs.Ythkpbkkgjeecnaa.layLess
