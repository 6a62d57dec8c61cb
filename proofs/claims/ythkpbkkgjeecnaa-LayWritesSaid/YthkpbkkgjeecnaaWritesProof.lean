/-
  LayWrites returns true for any bytes ahead, any number and any text: numbers' and texts' bytes are the document's, behind what there is.
-/
import Derived.Test.YthkpbkkgjeecnaaRef
import Derived.Deep.RegionHeld3
import Derived.Deep.RegionWith
import Derived.Deep.DeepCutAuto
import Derived.WalkKit
import Derived.ProofKit
import Derived.OpenShut
import Derived.ShutString
import Derived.ChangeOld
import Derived.Below
namespace Go.Proofs.Ythkpbkkgjeecnaa.layWrites
open Go.ChangeShapes Go.WideShapes Go.ChangeAt Go.RowKit
open Go.ChangeMaps (open_string shut_string)
set_option linter.unusedVariables false

theorem own : ownKnob Try.prog.godebug = none := by kernel_rfl
theorem laidOut : laidOutB Try.prog = true := by kernel_rfl

open Dg
/-- Bytes come back that a conversion turns into the string of l; kept in whatever comes behind. -/
def Str (W : World) (l : List Nat) (A : Option Addr) (n : Nat) (w' : World) : Prop := l.length = n ∧ Rd w' A l ∧ Below W.heap.size W w'
theorem Str.conv {W w' : World} {l : List Nat} {A : Option Addr} {n : Nat} (c : Nat) (h : Str W l A n w') : Sem.run Try.prog (convert 22 9 (.slice A n c)) w' = .ok (.string (bs l)) w' := conv_len w' A l n c h.1 h.2.1
theorem Str.later {W w' w2 : World} {l : List Nat} {A : Option Addr} {n : Nat} (h : Str W l A n w') (hb : Below w'.heap.size w' w2) : Str W l A n w2 := ⟨h.1, h.2.1.below hb, h.2.2.trans (hb.mono h.2.2.size)⟩
theorem str_out {W w' : World} {l : List Nat} {e : Ending} (h : Out W l e w') : ∃ A n c, e = .returned (.slice A n c) ∧ Sem.run Try.prog (convert 22 9 (.slice A n c)) w' = .ok (.string (bs l)) w' ∧ Hid (Str W l A n w') := by
  obtain ⟨v, rfl, A, c, rfl, hc, hr, hb⟩ := h
  have hs : Str W l A l.length w' := ⟨rfl, hr, hb⟩
  exact ⟨A, l.length, c, rfl, hs.conv c, hs⟩
theorem bs_append (l m : List Nat) : bs (l ++ m) = bs l ++ bs m := by
  unfold bs
  rw [ByteArray.mk_append_mk, List.map_append]
theorem Number_len (A : Option Addr) (l : List Nat) (k c : Nat) (n : Nat) (w : World) (hk : l.length = k) (hn : k ≤ c) (hA : Rd w A l) (hb : k ≤ 900000) (h1 : (n : Int) ≤ 9223372036854775807) :
    Calls Try.prog 10 #[.slice A k c, .int .i64 n] w (Out w (l ++ digs n)) := by
  rw [← hk] at hn hb ⊢
  exact Number_any A l c n w hn hA hb h1
theorem Signed_len (A : Option Addr) (l : List Nat) (k c : Nat) (n : Int) (w : World) (hk : l.length = k) (hn : k ≤ c) (hA : Rd w A l) (hb : k ≤ 900000) (h0 : -9223372036854775808 ≤ n) (h1 : n ≤ 9223372036854775807) :
    Calls Try.prog 12 #[.slice A k c, .int .i64 n] w (Out w (l ++ digs (zig n))) := by
  rw [← hk] at hn hb ⊢
  exact Signed_any A l c n w hn hA hb h0 h1
theorem Text_len (A : Option Addr) (l : List Nat) (k c : Nat) (s : ByteArray) (w : World) (hk : l.length = k) (hn : k ≤ c) (hA : Rd w A l) (hb : k ≤ 900000) (h0 : s.size ≤ 1000) :
    Calls Try.prog 14 #[.slice A k c, .string s] w (Out w (l ++ txt s)) := by
  rw [← hk] at hn hb ⊢
  exact Text_any A l c s w hn hA hb h0
set_option maxHeartbeats 2000000 in
theorem walk (a0 : Option Addr) (len0 cap0 : Nat) (z0 : List Int) (a1 : Int) (a2 : ByteArray) (w : World) (w0 : IsRow .u8 w a0 len0 cap0 z0) (w1 : (Lit.int .i64 a1).wf = true) (w2 : a2.size ≤ maxLen) :
    Calls Try.prog 3 #[.slice a0 len0 cap0, .int .i64 a1, .string a2] w fun e w' => e = .returned (.bool true) ∧ Below w.heap.size w w' := by
  obtain ⟨l0, hl0, hlc, hcm, hb0, hr0⟩ := w0.bytes
  obtain ⟨u0, u1⟩ := bounds_i64 w1
  clear w0 w1
  have hf := fun W => few_any a0 len0 cap0 W hlc hcm
  obtain ⟨hm1, hm2⟩ := fst_le len0
  have hL : ((l0.take (fst len0)).length) = fst len0 := by rw [List.length_take]; omega
  have hr := hr0.take (fst len0)
  generalize l0.take (fst len0) = l at hL hr
  generalize fst len0 = m at hf hm1 hm2 hL
  have HF := Lib.hid hf
  have hmc : m ≤ cap0 := by omega
  have HL := Lib.hid hL
  have HR := Lib.hid hr
  clear hL hr hf hl0 hb0 hr0
  unfold maxLen at hcm w2
  obtain ⟨s, hs⟩ : ∃ s : ByteArray, s = if 200 < a2.size then a2.extract 0 200 else a2 := ⟨_, rfl⟩
  have hss : s.size ≤ 200 := by rw [hs]; split <;> first | (simp only [ByteArray.size_extract]; omega) | omega
  obtain ⟨p, ep⟩ : ∃ p : Nat, (if a1 < 0 then -(a1 + 1) else a1) = (p : Int) := ⟨(if a1 < 0 then -(a1 + 1) else a1).toNat, by omega⟩
  have hp : (p : Int) ≤ 9223372036854775807 := by omega
  have ES := Lib.hid hs
  have EP := Lib.hid ep
  clear hs ep
  go_enter Try.func3, Try.ntmps3
  go_wp2_with fail
  refine (HF.out _).mono ?_
  rintro e x1 ⟨rfl, rfl⟩
  go_upto_if 16 with (fail)
  go_cut [2] (fun s2 wx => s2 = .string s ∧ w = wx)
  case first =>
    by_cases gs : 200 < a2.size
    · have E2 : Hid (s = a2.extract 0 200) := by show _ = _; rw [ES.out, if_pos gs]
      have hq : decide (200 < (a2.size : Int)) = true := decide_eq_true (by omega)
      go_wp2_with fail
      go_meet
      exact ⟨by rw [E2.out], rfl⟩
    · have E2 : Hid (s = a2) := by show _ = _; rw [ES.out, if_neg gs]
      have hq : decide (200 < (a2.size : Int)) = false := decide_eq_false (by omega)
      go_wp2_with fail
      go_meet
      exact ⟨by rw [E2.out], rfl⟩
  case rest =>
    obtain ⟨rfl, rfl⟩ := hcut
    go_upto_if 21 with (fail)
    go_cut [7] (fun s7 wx => s7 = .int .i64 p ∧ w = wx)
    case first =>
      by_cases gn : a1 < 0
      · have E2 : Hid (-(a1 + 1) = (p : Int)) := by show _ = _; rw [← EP.out, if_pos gn]
        have hq : decide (a1 < 0) = true := decide_eq_true gn
        go_wp2_with fail
        go_meet
        exact ⟨by rw [← E2.out], rfl⟩
      · have E2 : Hid (a1 = (p : Int)) := by show _ = _; rw [← EP.out, if_neg gn]
        have hq : decide (a1 < 0) = false := decide_eq_false gn
        go_wp2_with fail
        go_meet
        exact ⟨by rw [← E2.out], rfl⟩
    case rest =>
      obtain ⟨rfl, rfl⟩ := hcut
      go_wp2_with fail
      rw [conv_len w a0 l m cap0 HL.out HR.out]
      have NUM : ∀ W : World, Hid (Below w.heap.size w W) → Calls Try.prog 10 #[.slice a0 m cap0, .int .i64 p] W fun e w' => ∃ A n c, e = .returned (.slice A n c) ∧ Sem.run Try.prog (convert 22 9 (.slice A n c)) w' = .ok (.string (bs (l ++ digs p))) w' ∧ Hid (Str W (l ++ digs p) A n w') := fun W hW =>
        (Number_len a0 l m cap0 p W HL.out hmc (HR.out.below hW.out) (by omega) hp).mono fun e w' ho => str_out ho
      have REF : ∀ W : World, Calls Try.prog 11 #[.int .i64 p] W fun e w' => ∃ A n c, e = .returned (.slice A n c) ∧ Sem.run Try.prog (convert 22 9 (.slice A n c)) w' = .ok (.string (bs (digs p))) w' ∧ Hid (Str W (digs p) A n w') := fun W =>
        (refNumber_any p W hp).mono fun e w' ho => str_out ho.out
      have HNUM := Lib.hid NUM
      have HREF := Lib.hid REF
      clear NUM REF
      go_upto_region 8 with (fail)
      go_cut [9] (fun s9 wx => s9 = .bool true ∧ Hid (Below w.heap.size w wx))
      case first =>
        have hap : bs l ++ bs (digs p) = bs (l ++ digs p) := (bs_append _ _).symm
        have hz1 : (bs l).size ≤ 1000 := by rw [bs_size, HL.out]; omega
        have hz2 : (bs (digs p)).size ≤ 1000 := by rw [bs_size]; have := digs_le_ten p (by omega); omega
        have hz3 : ¬ 9223372036854775807 < (bs l).size + (bs (digs p)).size := by omega
        have hB0 : Hid (Below w.heap.size w (w).drew) := (Below.refl _ w).drew
        go_region_with (first
          | (go_at_call 10; refine (HNUM.out _ hB0).mono ?_; rintro e x1 ⟨A1, n1, c1, rfl, eq1, S1⟩)
          | (go_at_call 11; refine (HREF.out _).mono ?_; rintro e x2 ⟨A2, n2, c2, rfl, eq2, S2⟩; have eq12 := (S1.out.later S2.out.2.2).conv c1))
        all_goals
          have B2 := hB0.out.trans (S1.out.2.2.mono hB0.out.size)
          have B3 := Lib.hid (B2.trans (S2.out.2.2.mono B2.size))
          go_wp2_with fail
          go_meet
          exact ⟨rfl, B3.out⟩
      case rest =>
        obtain ⟨rfl, HB1⟩ := hcut
        clear HNUM HREF
        have NUM : ∀ W : World, Hid (Below w.heap.size w W) → Calls Try.prog 12 #[.slice a0 m cap0, .int .i64 a1] W fun e w' => ∃ A n c, e = .returned (.slice A n c) ∧ Sem.run Try.prog (convert 22 9 (.slice A n c)) w' = .ok (.string (bs (l ++ digs (zig a1)))) w' ∧ Hid (Str W (l ++ digs (zig a1)) A n w') := fun W hW =>
          (Signed_len a0 l m cap0 a1 W HL.out hmc (HR.out.below hW.out) (by omega) u0 u1).mono fun e w' ho => str_out ho
        have REF : ∀ W : World, Calls Try.prog 13 #[.int .i64 a1] W fun e w' => ∃ A n c, e = .returned (.slice A n c) ∧ Sem.run Try.prog (convert 22 9 (.slice A n c)) w' = .ok (.string (bs (digs (zig a1)))) w' ∧ Hid (Str W (digs (zig a1)) A n w') := fun W =>
          (refSigned_any a1 W u0 u1).mono fun e w' ho => str_out ho.out
        have HNUM := Lib.hid NUM
        have HREF := Lib.hid REF
        clear NUM REF
        go_upto_region 9 with (fail)
        go_cut [10] (fun s10 wx => s10 = .bool true ∧ Hid (Below w.heap.size w wx))
        case first =>
          have hap : bs l ++ bs (digs (zig a1)) = bs (l ++ digs (zig a1)) := (bs_append _ _).symm
          have hz1 : (bs l).size ≤ 1000 := by rw [bs_size, HL.out]; omega
          have hz2 : (bs (digs (zig a1))).size ≤ 1000 := by rw [bs_size]; have := digs_le_ten _ (zig_lt a1 u0 u1); omega
          have hz3 : ¬ 9223372036854775807 < (bs l).size + (bs (digs (zig a1))).size := by omega
          have hB0 : Hid (Below w.heap.size w (wc).drew) := HB1.out.drew
          go_region_with (first
            | (go_at_call 12; refine (HNUM.out _ hB0).mono ?_; rintro e x1 ⟨A1, n1, c1, rfl, eq1, S1⟩)
            | (go_at_call 13; refine (HREF.out _).mono ?_; rintro e x2 ⟨A2, n2, c2, rfl, eq2, S2⟩; have eq12 := (S1.out.later S2.out.2.2).conv c1))
          all_goals
            have B2 := hB0.out.trans (S1.out.2.2.mono hB0.out.size)
            have B3 := Lib.hid (B2.trans (S2.out.2.2.mono B2.size))
            go_wp2_with fail
            go_meet
            exact ⟨rfl, B3.out⟩
        case rest =>
          obtain ⟨rfl, HB2⟩ := hcut
          clear HNUM HREF
          have NUM : ∀ W : World, Hid (Below w.heap.size w W) → Calls Try.prog 14 #[.slice a0 m cap0, .string s] W fun e w' => ∃ A n c, e = .returned (.slice A n c) ∧ Sem.run Try.prog (convert 22 9 (.slice A n c)) w' = .ok (.string (bs (l ++ txt s))) w' ∧ Hid (Str W (l ++ txt s) A n w') := fun W hW =>
            (Text_len a0 l m cap0 s W HL.out hmc (HR.out.below hW.out) (by omega) (by omega)).mono fun e w' ho => str_out ho
          have REF : ∀ W : World, Calls Try.prog 15 #[.string s] W fun e w' => ∃ A n c, e = .returned (.slice A n c) ∧ Sem.run Try.prog (convert 22 9 (.slice A n c)) w' = .ok (.string (bs (txt s))) w' ∧ Hid (Str W (txt s) A n w') := fun W =>
            (refText_any s W (by omega)).mono fun e w' ho => str_out ho.out
          have HNUM := Lib.hid NUM
          have HREF := Lib.hid REF
          clear NUM REF
          go_upto_region 10 with (fail)
          go_cut [11] (fun s11 wx => s11 = .bool true ∧ Hid (Below w.heap.size w wx))
          case first =>
            have hap : bs l ++ bs (txt s) = bs (l ++ txt s) := (bs_append _ _).symm
            have hz1 : (bs l).size ≤ 1000 := by rw [bs_size, HL.out]; omega
            have hz2 : (bs (txt s)).size ≤ 1000 := by rw [bs_size]; have := txt_le s hss; omega
            have hz3 : ¬ 9223372036854775807 < (bs l).size + (bs (txt s)).size := by omega
            have hB0 : Hid (Below w.heap.size w (wc).drew) := HB2.out.drew
            go_region_with (first
              | (go_at_call 14; refine (HNUM.out _ hB0).mono ?_; rintro e x1 ⟨A1, n1, c1, rfl, eq1, S1⟩)
              | (go_at_call 15; refine (HREF.out _).mono ?_; rintro e x2 ⟨A2, n2, c2, rfl, eq2, S2⟩; have eq12 := (S1.out.later S2.out.2.2).conv c1))
            all_goals
              have B2 := hB0.out.trans (S1.out.2.2.mono hB0.out.size)
              have B3 := Lib.hid (B2.trans (S2.out.2.2.mono B2.size))
              go_wp2_with fail
              go_meet
              exact ⟨rfl, B3.out⟩
          case rest =>
            obtain ⟨rfl, HB3⟩ := hcut
            clear HNUM HREF
            have HRW := Lib.hid (HR.out.below HB3.out)
            go_wp2_with fail
            rw [conv_len wc a0 l m cap0 HL.out HRW.out]
            go_wp2_with fail
            refine (lives_any _).mono ?_
            rintro e x9 ⟨rfl, hb9⟩
            have HB9 := Lib.hid hb9
            clear hb9
            go_wp2_with fail
            go_ret
            exact ⟨rfl, HB3.out.trans (HB9.out.mono HB3.out.size)⟩

set_option maxRecDepth 100000 in
theorem lifted (os : Os) (started : os.Started) (H : Type) (enc : TypeId × Value → H) :
    ReturnsInHanded {} Try.checked os 3 .any (Rows.layWritesSpec.pre6 enc Try.prog Try.f3 Rows.layWritesRow.domain false) (Rows.layWritesSpec.post enc Try.prog Try.f3 false true false false) := by
  refine returnsInHanded_of_change (C := Try.checked) own started (by kernel_rfl) Try.func3
    (ChangeSpec.witness6 (enc := enc) (C := Try.checked) false ⟨#[], #[.slice none 0 0, .int .i64 0, .string ByteArray.empty], []⟩ 8 (by kernel_rfl) (by kernel_rfl) (by kernel_rfl) (by kernel_rfl)) ?_
  intro W base args ds gs before hval0 hW hcnd _
  have hval : ∀ (j : Nat) t v, Try.f3.params[j]? = some t → args[j]? = some v → Value.okWide Try.prog W .any base t v := hval0
  have hW' := hW
  obtain ⟨p, q, hA0, hV, rfl, hfz, hnd⟩ := hW
  have hA : DataW.TrodAll enc Try.prog W 0 (fun _ => true) true Try.f3.params.toList args.toList ds p := hA0
  rw [Try.params3] at hA hval
  obtain ⟨v0, vs0, d0, ds0, p0, q0, hargs, rfl, rfl, h0, r0⟩ := trodAll_cons hA
  obtain ⟨v1, vs1, d1, ds1, p1, q1, rfl, rfl, rfl, h1, r1⟩ := trodAll_cons r0
  obtain ⟨v2, vs2, d2, ds2, p2, q2, rfl, rfl, rfl, h2, r2⟩ := trodAll_cons r1
  obtain ⟨rfl, rfl, rfl⟩ := trodAll_nil r2
  obtain rfl : args = #[v0, v1, v2] := by cases args; simp_all
  obtain ⟨rfl, rfl⟩ := trodVars_none hV
  obtain ⟨a0, len0, cap0, rfl⟩ := okWide_slice Try.underlying22 (hval 0 22 v0 rfl rfl)
  have k0 := h0
  have lt0 : ∀ x ∈ p0, x.block < W.heap.size := by obtain ⟨m, hm⟩ := k0; exact DataW.trod_lt m _ _ _ hm
  obtain ⟨z0, w0⟩ : ∃ zs, IsRow .u8 W a0 len0 cap0 zs := by
    obtain ⟨fuel, hf⟩ := h0
    rcases open_ints Try.underlying22 Try.underlying5 (by kernel_rfl) hf with ⟨hcs, _⟩ | ⟨x, l, c, zs, hcs, _, hl, hm, hz, _, hcell, hwz⟩
    · simp [Value.cells] at hcs
      obtain ⟨rfl, rfl, rfl⟩ := hcs
      exact ⟨[], .inl ⟨rfl, rfl, rfl, rfl⟩⟩
    · simp [Value.cells] at hcs
      obtain ⟨rfl, rfl, rfl⟩ := hcs
      exact ⟨zs, .inr ⟨_, rfl, hl, hm, by simpa using hz, hcell, hwz⟩⟩
  obtain ⟨a1, rfl, rfl, rfl, w1⟩ := open_int Try.underlying3 (hval 1 3 v1 rfl rfl) h1
  obtain ⟨a2, rfl, rfl, rfl, w2⟩ := open_string Try.underlying9 (hval 2 9 v2 rfl rfl) h2
  clear hA0 hval0
  refine (walk a0 len0 cap0 z0 a1 a2 W w0 w1 w2).mono fun e W' ⟨he, bel⟩ => ?_
  subst he
  exact ⟨_, rfl, _, _, _, [], _, [], hW', trodAll_mk1 (shut_bool Try.underlying4 _), (trodAll_cons_mk (Below.trod laidOut (by kernel_rfl) (of_decide_eq_true (by kernel_rfl)) k0 bel lt0) (trodAll_cons_mk (shut_int Try.underlying3 w1) (trodAll_cons_mk (shut_string Try.underlying9 w2) trodAll_mk0))), rfl, bel.frame _, fun h => by cases h⟩

theorem over : Rows.layWritesRow.holds Try.pinned (OpenSpec.ofChange Rows.layWritesSpec) :=
  OpenClaim.holds_of_wide 3 Try.f3 rfl rfl rfl rfl rfl rfl rfl ⟨rfl, rfl, rfl, rfl, rfl⟩ rfl rfl rfl rfl rfl (by kernel_rfl) Try.func3 (by kernel_rfl)
    (of_decide_eq_true (by kernel_rfl)) (by unfold Func.isWrapper; first | (rw [if_pos (by decide +kernel)]; kernel_rfl) | (rw [if_neg (by decide +kernel)]; exact ⟨rfl, rfl⟩))
    (fun os started H enc _ => lifted os started H enc)

theorem proved : Rows.LayWritesSaid := over
#print axioms proved
end Go.Proofs.Ythkpbkkgjeecnaa.layWrites
