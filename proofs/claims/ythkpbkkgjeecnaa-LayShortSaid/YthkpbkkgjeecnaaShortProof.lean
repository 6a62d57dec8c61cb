/-
  LayShort returns true for any number, any text and any cut: what is cut short is told so.
-/
import Derived.Test.YthkpbkkgjeecnaaLaw
import Derived.WalkKit
import Derived.ProofKit
import Derived.OpenShut
import Derived.ShutString
namespace Go.Proofs.Ythkpbkkgjeecnaa.layShort
open Go.ChangeShapes Go.WideShapes Go.ChangeAt Go.RowKit
open Go.ChangeMaps (open_string shut_string)
set_option linter.unusedVariables false

theorem own : ownKnob Try.prog.godebug = none := by kernel_rfl

open Dg
set_option maxHeartbeats 1000000 in
theorem walk (a0 : Int) (a1 : ByteArray) (a2 : Int) (w0 : (Lit.int .i64 a0).wf = true) (w1 : a1.size ≤ maxLen) (w2 : (Lit.int .i64 a2).wf = true) (w : World) :
    Calls Try.prog 5 #[.int .i64 a0, .string a1, .int .i64 a2] w fun e w' => e = .returned (.bool true) ∧ Below w.heap.size w w' := by
  obtain ⟨l0, u0⟩ := bounds_i64 w0
  obtain ⟨l2, u2⟩ := bounds_i64 w2
  clear w0 w2
  unfold maxLen at w1
  obtain ⟨s, hs⟩ : ∃ s : ByteArray, s = if 200 < a1.size then a1.extract 0 200 else a1 := ⟨_, rfl⟩
  have hss : s.size ≤ 200 := by rw [hs]; split <;> first | (simp only [ByteArray.size_extract]; omega) | omega
  by_cases gs : 200 < a1.size <;> by_cases gn : a2 < 0
  all_goals
    obtain ⟨p2, e2⟩ : ∃ p : Nat, (if a2 < 0 then -(a2 + 1) else a2) = (p : Int) := ⟨(if a2 < 0 then -(a2 + 1) else a2).toNat, by omega⟩
    have hp2 : (p2 : Int) ≤ 9223372036854775807 := by omega
    first | rw [if_pos gn] at e2 | rw [if_neg gn] at e2
    first | rw [if_pos gs] at hs | rw [if_neg gs] at hs
    first | (subst e2) | (have E2 := Lib.hid e2; clear e2)
    have ES := Lib.hid hs.symm
    first | (subst hs; clear ES) | clear hs
    go_enter Try.func5, Try.ntmps5
    go_wp2_with fail
    try rw [E2.out]
    try (generalize a1.extract 0 200 = s at hss ⊢)
    clear w1
    have hz := zig_lt a0 l0 u0
    refine (Signed_any none [] 0 a0 _ (Nat.le_refl _) (Rd.nil _ _) (by simp) l0 u0).mono ?_
    intro e w1 ho
    rw [List.nil_append] at ho
    obtain ⟨A1, n1, c1, rfl, HL1, hc1, HR1, HB1⟩ := ho.open_
    clear ho
    have hn1 : 0 < n1 := by rw [← HL1.out]; exact digs_pos _
    have hn1' : n1 ≤ 10 := by rw [← HL1.out]; exact digs_le_ten _ hz
    go_wp2_with fail
    refine (Text_any none [] 0 s _ (Nat.le_refl _) (Rd.nil _ _) (by simp) (by omega)).mono ?_
    intro e w2 ho
    rw [List.nil_append] at ho
    obtain ⟨A2, n2, c2, rfl, HL2, hc2, HR2, HB2⟩ := ho.open_
    clear ho
    change Hid ((txt s).length = n2) at HL2
    change Hid (Rd w2 A2 (txt s)) at HR2
    have hn2 : 0 < n2 := by rw [← HL2.out]; exact txt_pos s
    have hn2' : n2 ≤ 210 := by rw [← HL2.out]; exact txt_le s hss
    have HR1' := Lib.hid (HR1.out.below HB2.out)
    have m1 := Nat.mod_lt p2 hn1
    have m2 := Nat.mod_lt p2 hn2
    have q1 : ((n1 : Int) == 0) = false := beq_eq_false_iff_ne.2 (by omega)
    have q2 : ((n2 : Int) == 0) = false := beq_eq_false_iff_ne.2 (by omega)
    obtain ⟨t1, ht1⟩ : ∃ t, t = (digs (zig a0)).take (p2 % n1) := ⟨_, rfl⟩
    obtain ⟨t2, ht2⟩ : ∃ t, t = (txt s).take (p2 % n2) := ⟨_, rfl⟩
    have b1 : ∀ x ∈ t1, x < 256 := by rw [ht1]; exact fun x hx => digs_byte _ x (List.mem_of_mem_take hx)
    have b2 : ∀ x ∈ t2, x < 256 := by rw [ht2]; exact fun x hx => txt_byte _ x (List.mem_of_mem_take hx)
    have e1 : t1.length = p2 % n1 := by rw [ht1, List.length_take, HL1.out]; omega
    have e2 : t2.length = p2 % n2 := by rw [ht2, List.length_take, HL2.out]; omega
    have N1 : Hid (numF 18446744073709551615 t1 0 = (0, t1, 4)) := by show _ = _; rw [ht1]; exact numF_cut _ _ _ hz (by rw [HL1.out]; exact m1)
    have N2 : Hid (textF 200 t2 0 = ([], t2, 4)) := by show _ = _; rw [ht2]; exact textF_cut s hss _ (by rw [HL2.out]; exact m2)
    have R1 : Hid (Rd w2 A1 t1) := by show Rd _ _ _; rw [ht1]; exact HR1'.out.take _
    have R2 : Hid (Rd w2 A2 t2) := by show Rd _ _ _; rw [ht2]; exact HR2.out.take _
    have B1 := Lib.hid b1
    have B2 := Lib.hid b2
    have L1 := Lib.hid e1
    have L2 := Lib.hid e2
    clear ht1 ht2 b1 b2 e1 e2 HR1 HR1' HR2 HL1 HL2
    go_wp2_with fail
    refine (Read_len A1 t1 (p2 % n1) c1 _ L1.out R1.out (by omega)).mono ?_
    rintro e w3 ⟨g1, rfl, hg1, HG1, HB3⟩
    have R2' := Lib.hid (R2.out.below HB3.out)
    clear R2
    go_wp2_with fail
    refine (Read_len A2 t2 (p2 % n2) c2 _ L2.out R2'.out (by omega)).mono ?_
    rintro e w4 ⟨g2, rfl, hg2, HG2, HB4⟩
    have HG1' := Lib.hid (HG1.out.below HB4.out)
    have hne : g1 ≠ g2 := by have := HG1.out.lt; omega
    have HNE := Lib.hid hne
    clear hne HG1
    go_wp2_with fail
    refine (Signed_get g1 t1 0 _ HG1'.out B1.out (by rw [L1.out]; omega)).mono ?_
    rintro e w5 ⟨rfl, hd, hgr⟩
    rw [N1.out] at hd ⊢
    have z0 : zag (0, t1, 4).1 = 0 := zag_zero
    rw [z0]
    have S1 : Hid (Rdr w5 g1 t1 4) := hd
    have T1 := Lib.hid (HG2.out.far hgr HG1'.out (Ne.symm HNE.out))
    have G1 := Lib.hid hgr
    clear hd hgr z0 N1
    go_wp2_with fail
    refine (Errno_get g1 t1 4 _ S1.out).mono ?_
    rintro e w5' ⟨rfl, rfl⟩
    go_wp2_with fail
    refine (Text_get g2 t2 0 _ 200 T1.out B2.out (by rw [L2.out]; omega)).mono ?_
    rintro e w6 ⟨rfl, hd, hgr⟩
    rw [N2.out] at hd ⊢
    change Rdr w6 g2 t2 4 at hd
    have y0 : bs ([], t2, 4).1 = { data := #[] } := bs_nil
    rw [y0]
    have S2 : Hid (Rdr w6 g2 t2 4) := hd
    have G2 := Lib.hid hgr
    clear hd hgr N2 y0
    go_wp2_with fail
    refine (Errno_get g2 t2 4 _ S2.out).mono ?_
    rintro e w6' ⟨rfl, rfl⟩
    go_wp2_with fail
    refine (Byte_err g2 t2 4 _ S2.out (by omega)).mono ?_
    rintro e w7 ⟨rfl, hd, hgr⟩
    have G3 := Lib.hid hgr
    clear hd hgr
    go_wp2_with fail
    refine (lives_any _).mono ?_
    rintro e w8 ⟨rfl, hb8⟩
    have HB8 := Lib.hid hb8
    clear hb8
    go_wp2_with fail
    go_ret
    have c2 := HB1.out.trans (HB2.out.mono HB1.out.size)
    have c3 := c2.trans (HB3.out.mono c2.size)
    have c4 := c3.trans (HB4.out.mono c3.size)
    have k2 := c2.size
    have k3 := c3.size
    have c5 := Below.turn c4 G1.out (by omega)
    have c6 := Below.turn c5 G2.out (by omega)
    have c7 := Below.turn c6 G3.out (by omega)
    exact ⟨rfl, c7.trans (HB8.out.mono c7.size)⟩

set_option maxRecDepth 100000 in
theorem lifted (os : Os) (started : os.Started) (H : Type) (enc : TypeId × Value → H) :
    ReturnsInHanded {} Try.checked os 5 .any (Rows.layShortSpec.pre6 enc Try.prog Try.f5 Rows.layShortRow.domain false) (Rows.layShortSpec.post enc Try.prog Try.f5 false true false false) := by
  refine returnsInHanded_of_change (C := Try.checked) own started (by kernel_rfl) Try.func5
    (ChangeSpec.witness6 (enc := enc) (C := Try.checked) false ⟨#[], #[.int .i64 0, .string ByteArray.empty, .int .i64 0], []⟩ 8 (by kernel_rfl) (by kernel_rfl) (by kernel_rfl) (by kernel_rfl)) ?_
  intro W base args ds gs before hval0 hW hcnd _
  have hval : ∀ (j : Nat) t v, Try.f5.params[j]? = some t → args[j]? = some v → Value.okWide Try.prog W .any base t v := hval0
  have hW' := hW
  obtain ⟨p, q, hA0, hV, rfl, hfz, hnd⟩ := hW
  have hA : DataW.TrodAll enc Try.prog W 0 (fun _ => true) true Try.f5.params.toList args.toList ds p := hA0
  rw [Try.params5] at hA hval
  obtain ⟨v0, vs0, d0, ds0, p0, q0, hargs, rfl, rfl, h0, r0⟩ := trodAll_cons hA
  obtain ⟨v1, vs1, d1, ds1, p1, q1, rfl, rfl, rfl, h1, r1⟩ := trodAll_cons r0
  obtain ⟨v2, vs2, d2, ds2, p2, q2, rfl, rfl, rfl, h2, r2⟩ := trodAll_cons r1
  obtain ⟨rfl, rfl, rfl⟩ := trodAll_nil r2
  obtain rfl : args = #[v0, v1, v2] := by cases args; simp_all
  obtain ⟨rfl, rfl⟩ := trodVars_none hV
  obtain ⟨a0, rfl, rfl, rfl, w0⟩ := open_int Try.underlying3 (hval 0 3 v0 rfl rfl) h0
  obtain ⟨a1, rfl, rfl, rfl, w1⟩ := open_string Try.underlying9 (hval 1 9 v1 rfl rfl) h1
  obtain ⟨a2, rfl, rfl, rfl, w2⟩ := open_int Try.underlying3 (hval 2 3 v2 rfl rfl) h2
  clear hA0 hval0
  simp only [List.append_nil] at hW'
  refine (walk a0 a1 a2 w0 w1 w2 W).mono fun e W' ⟨he, bel⟩ => ?_
  subst he
  exact ⟨_, rfl, _, _, _, [], [], [], hW', trodAll_mk1 (shut_bool Try.underlying4 _), (trodAll_cons_mk (shut_int Try.underlying3 w0) (trodAll_cons_mk (shut_string Try.underlying9 w1) (trodAll_cons_mk (shut_int Try.underlying3 w2) trodAll_mk0))), rfl, bel.frame _, fun h => by cases h⟩

theorem over : Rows.layShortRow.holds Try.pinned (OpenSpec.ofChange Rows.layShortSpec) :=
  OpenClaim.holds_of_wide 5 Try.f5 rfl rfl rfl rfl rfl rfl rfl ⟨rfl, rfl, rfl, rfl, rfl⟩ rfl rfl rfl rfl rfl (by kernel_rfl) Try.func5 (by kernel_rfl)
    (of_decide_eq_true (by kernel_rfl)) (by unfold Func.isWrapper; first | (rw [if_pos (by decide +kernel)]; kernel_rfl) | (rw [if_neg (by decide +kernel)]; exact ⟨rfl, rfl⟩))
    (fun os started H enc _ => lifted os started H enc)

theorem proved : Rows.LayShortSaid :=
  over
#print axioms proved
end Go.Proofs.Ythkpbkkgjeecnaa.layShort
