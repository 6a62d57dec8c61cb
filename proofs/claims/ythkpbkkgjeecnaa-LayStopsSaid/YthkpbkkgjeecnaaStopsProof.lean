/-
  LayStops returns true for any bytes, any asks and any limit: behind an error nothing is told any more.
-/
import Derived.Test.YthkpbkkgjeecnaaLaw
import Derived.WalkKit
import Derived.ProofKit
import Derived.OpenShut
import Derived.ShutString
import Derived.ChangeOld
import Derived.Below
namespace Go.Proofs.Ythkpbkkgjeecnaa.layStops
open Go.ChangeShapes Go.WideShapes Go.ChangeAt Go.RowKit
open Go.ChangeMaps (open_string shut_string)
set_option linter.unusedVariables false

theorem own : ownKnob Try.prog.godebug = none := by kernel_rfl
theorem laidOut : laidOutB Try.prog = true := by kernel_rfl

open Dg
theorem stop_run (w : World) (b : Nat) (A : Option Addr) (l : List Nat) (c : Nat) (h2 : Has w b 5 #[.int .u8 128, .int .u8 0]) (hr : Rd w A l) (hb : l.length ≤ 1000) :
    ∃ R W', (Builtin.append_ #[22, 22] 22 #[.slice (some ⟨b, 0, none⟩) 2 2, .slice A l.length c]).run Try.prog w = .ok R W' ∧ Made w (128 :: 0 :: l) R W' := by
  obtain ⟨i0, hi, hz0, hz1, hz2⟩ := info_parts info5
  have h0 : Rd w (some ⟨b, 0, none⟩) [128, 0] := Rd.of_has h2 fun i hi => by
    simp only [List.length_cons, List.length_nil] at hi
    rcases i with _ | _ | i
    · rfl
    · rfl
    · omega
  have hs := src_rd w Try.underlying22 A l c hr
  rcases Nat.eq_zero_or_pos l.length with hz | hp
  · obtain rfl := List.eq_nil_of_length_eq_zero hz
    exact ⟨_, _, run_app_none w 22 Try.underlying22 hi hz1 b 0 2 2 (.slice A 0 c) hs (Nat.le_refl _), _, _, rfl, Nat.le_refl _, h0, Below.refl _ _⟩
  · exact run_app_grow w 22 Try.underlying22 hi hz0 hz1 hz2 _ [128, 0] 2 h0 (.slice A l.length c) l hs (by simp; omega) (by simp; omega)
theorem IsRow.len {k : IntKind} {w : World} {a : Option Addr} {len cap : Nat} {zs : List Int} (h : IsRow k w a len cap zs) : len ≤ cap ∧ cap ≤ maxLen := by
  rcases h with ⟨rfl, rfl, rfl, rfl⟩ | ⟨x, rfl, h1, h2, _⟩
  · exact ⟨Nat.le_refl _, Nat.zero_le _⟩
  · exact ⟨h1, h2⟩
theorem numF_stop (most : Nat) (l : List Nat) : numF most (128 :: 0 :: l) 0 = (0, 128 :: 0 :: l, 2) := by
  unfold numF
  rw [head_zero most 8 l]
  simp
theorem numF_err (most : Nat) (l : List Nat) : numF most l 2 = (0, l, 2) := rfl
theorem endF_two (l : List Nat) : endF l 2 = 2 := by unfold endF; rw [if_neg (by omega)]
theorem textF_err (most : Int) (l : List Nat) : textF most l 2 = ([], l, 2) := rfl
set_option maxHeartbeats 1000000 in
theorem walk (a0 : Option Addr) (len0 cap0 : Nat) (z0 : List Int) (a1 : Option Addr) (len1 cap1 : Nat) (z1 : List Int) (a2 : Int) (w : World) (w0 : IsRow .u8 w a0 len0 cap0 z0) (w1 : IsRow .i64 w a1 len1 cap1 z1) (w2 : (Lit.int .i64 a2).wf = true) :
    Calls Try.prog 8 #[.slice a0 len0 cap0, .slice a1 len1 cap1, .int .i64 a2] w fun e w' => e = .returned (.bool true) ∧ Below w.heap.size w w' := by
  obtain ⟨l0, hl0, hlc, hcm, hb0, hr0⟩ := w0.bytes
  obtain ⟨hlc1, hcm1⟩ := IsRow.len w1
  clear w0 w1 w2
  have hf := fun W => few_any a0 len0 cap0 W hlc hcm
  obtain ⟨hm1, hm2⟩ := fst_le len0
  have hL : ((l0.take (fst len0)).length) = fst len0 := by rw [List.length_take]; omega
  have hb : ∀ x ∈ l0.take (fst len0), x < 256 := fun x hx => hb0 x (List.mem_of_mem_take hx)
  have hr := hr0.take (fst len0)
  generalize l0.take (fst len0) = l at hL hb hr
  generalize fst len0 = m at hf hm1 hm2 hL
  have HF := Lib.hid hf
  have hmc : m ≤ cap0 := by omega
  have hb' : ∀ x ∈ 128 :: 0 :: l, x < 256 := by
    intro x hx
    rcases List.mem_cons.1 hx with rfl | hx
    · omega
    · rcases List.mem_cons.1 hx with rfl | hx
      · omega
      · exact hb x hx
  have HB := Lib.hid hb'
  have h2 := Has.new w 5 #[.int .u8 128, .int .u8 0]
  have hr2 : Rd (w.alloc (.cells #[.int .u8 128, .int .u8 0] 5)) a0 l := hr.below ((Below.refl _ _).alloc (Nat.le_refl _) _)
  have hA := stop_run _ w.heap.size a0 l cap0 h2 hr2 (by omega)
  rw [hL] at hA
  have HA := Lib.hid hA
  have HL := Lib.hid hL
  clear hA hL hb hb' hr hf hl0 hb0 hr0 h2 hr2
  unfold maxLen at hcm hcm1
  go_enter Try.func8, Try.ntmps8
  go_wp2_with fail
  refine (HF.out _).mono ?_
  rintro e w1 ⟨rfl, rfl⟩
  go_wp2_with (at_builtin; refine wpList_app rfl _ _ 22 22 rfl (.slice (some ⟨w.heap.size, 0, none⟩) 2 2) (.slice a0 m cap0) rfl rfl ?_; obtain ⟨R, W', hrun, hmade⟩ := HA.out; refine ⟨R, W', hrun, ?_⟩; have HM := Lib.hid hmade; clear hrun hmade)
  obtain ⟨A1, c1, rfl, hc1, hr1, hb1⟩ := HM.out
  have HR1 := Lib.hid hr1
  have HB1 : Hid (Below w.heap.size w W') := (((Below.refl _ w).alloc (Nat.le_refl _) _).trans (hb1.mono (by simp)))
  clear hr1 hb1 HM HA
  have e1 : (128 :: 0 :: l).length = m + 2 := by rw [List.length_cons, List.length_cons, HL.out]
  rw [e1] at hc1 ⊢
  have HE := Lib.hid e1
  clear e1
  go_wp2_with fail
  refine (Read_len A1 (128 :: 0 :: l) (m + 2) c1 _ HE.out HR1.out (by omega)).mono ?_
  rintro e w3 ⟨g, rfl, hg, HG, HB3⟩
  have hgw : w.heap.size ≤ g := Nat.le_trans HB1.out.size hg
  have HB13 := Lib.hid (HB1.out.trans (HB3.out.mono HB1.out.size))
  clear HB1 HB3 HR1
  go_wp2_with fail
  refine (Number_get g _ 0 _ HG.out HB.out (by rw [HE.out]; omega)).mono ?_
  rintro e w4 ⟨rfl, hd, hgr⟩
  rw [numF_stop] at hd ⊢
  have S4 : Hid (Rdr w4 g (128 :: 0 :: l) 2) := hd
  have B4 := Lib.hid (Below.turn HB13.out hgr hgw)
  clear hd hgr HB13 HG
  go_wp2_with fail
  refine (Errno_get g _ 2 _ S4.out).mono ?_
  rintro e w5 ⟨rfl, rfl⟩
  go_wp2_with fail
  go_loopw [8] (fun i wr => ∃ k : Nat, k ≤ 20 ∧ i = .int .i64 k ∧ Hid (Rdr wr g (128 :: 0 :: l) 2) ∧ Hid (Below w.heap.size w wr)) (fun i _ => 20 - (intOf i).toNat)
  case atStart => exact ⟨0, by omega, rfl, S4.out, B4.out⟩
  case round =>
    clear S4 B4
    obtain ⟨k, hk, rfl, hrd, hbl⟩ := hrel
    by_cases hlt : k < 20 ∧ k < len1
    · obtain ⟨hlt1, hlt2⟩ := hlt
      have hq1 : ((k : Nat) : Int) < (len1 : Int) := by omega
      go_wp2_with fail
      refine (Number_get g _ 2 _ hrd.out HB.out (by rw [HE.out]; omega)).mono ?_
      rintro e x1 ⟨rfl, hd, hgr⟩
      rw [numF_err] at hd ⊢
      have S1 : Hid (Rdr x1 g (128 :: 0 :: l) 2) := hd
      have B1 := Lib.hid (Below.turn hbl.out hgr hgw)
      clear hd hgr hbl hrd
      go_wp2_with fail
      refine (Signed_get g _ 2 _ S1.out HB.out (by rw [HE.out]; omega)).mono ?_
      rintro e x2 ⟨rfl, hd, hgr⟩
      rw [numF_err] at hd ⊢
      have z0 : zag (0, (128 :: 0 :: l), 2).1 = 0 := zag_zero
      rw [z0]
      have S2 : Hid (Rdr x2 g (128 :: 0 :: l) 2) := hd
      have B2 := Lib.hid (Below.turn B1.out hgr hgw)
      clear hd hgr S1 B1 z0
      go_wp2_with fail
      refine (Byte_err g _ 2 _ S2.out (by omega)).mono ?_
      rintro e x3 ⟨rfl, hd, hgr⟩
      have S3 := Lib.hid hd
      have B3 := Lib.hid (Below.turn B2.out hgr hgw)
      clear hd hgr S2 B2
      go_wp2_with fail
      refine (Text_get g _ 2 _ a2 S3.out HB.out (by rw [HE.out]; omega)).mono ?_
      rintro e x4 ⟨rfl, hd, hgr⟩
      rw [textF_err] at hd ⊢
      have y0 : bs ([], (128 :: 0 :: l), 2).1 = { data := #[] } := bs_nil
      rw [y0]
      have S4 : Hid (Rdr x4 g (128 :: 0 :: l) 2) := hd
      have B4 := Lib.hid (Below.turn B3.out hgr hgw)
      clear hd hgr S3 B3 y0
      go_wp2_with fail
      refine (Errno_get g _ 2 _ S4.out).mono ?_
      rintro e x5 ⟨rfl, rfl⟩
      go_wp2_with fail
      refine (Left_get g _ 2 _ S4.out).mono ?_
      rintro e x5 ⟨rfl, rfl⟩
      rw [HE.out]
      go_wp2_with fail
      refine (HF.out _).mono ?_
      rintro e x5 ⟨rfl, rfl⟩
      go_wp2_with fail
      go_roundw
      case rel => exact ⟨k + 1, by omega, by go_num, S4.out, B4.out⟩
      case measure => simp [intOf]; omega
    · by_cases h1 : k < len1
      · have h20 : ¬ k < 20 := by omega
        clear hlt
        have hq1 : ((k : Nat) : Int) < (len1 : Int) := by omega
        have hq2 : decide ((k : Int) < 20) = false := decide_eq_false (by omega)
        go_wp2_with fail
        refine (End_get g _ 2 _ hrd.out (by rw [HE.out]; omega)).mono ?_
        rintro e x1 ⟨rfl, rfl⟩
        rw [endF_two]
        go_wp2_with fail
        refine (lives_any _).mono ?_
        rintro e x2 ⟨rfl, hb2⟩
        have HB2 := Lib.hid hb2
        clear hb2
        go_wp2_with fail
        go_ret
        exact ⟨rfl, hbl.out.trans (HB2.out.mono hbl.out.size)⟩
      · clear hlt
        have hq1 : decide ((k : Int) < (len1 : Int)) = false := decide_eq_false (by omega)
        go_wp2_with fail
        refine (End_get g _ 2 _ hrd.out (by rw [HE.out]; omega)).mono ?_
        rintro e x1 ⟨rfl, rfl⟩
        rw [endF_two]
        go_wp2_with fail
        refine (lives_any _).mono ?_
        rintro e x2 ⟨rfl, hb2⟩
        have HB2 := Lib.hid hb2
        clear hb2
        go_wp2_with fail
        go_ret
        exact ⟨rfl, hbl.out.trans (HB2.out.mono hbl.out.size)⟩

set_option maxRecDepth 100000 in
theorem lifted (os : Os) (started : os.Started) (H : Type) (enc : TypeId × Value → H) :
    ReturnsInHanded {} Try.checked os 8 .any (Rows.layStopsSpec.pre6 enc Try.prog Try.f8 Rows.layStopsRow.domain false) (Rows.layStopsSpec.post enc Try.prog Try.f8 false true false false) := by
  refine returnsInHanded_of_change (C := Try.checked) own started (by kernel_rfl) Try.func8
    (ChangeSpec.witness6 (enc := enc) (C := Try.checked) false ⟨#[], #[.slice none 0 0, .slice none 0 0, .int .i64 0], []⟩ 8 (by kernel_rfl) (by kernel_rfl) (by kernel_rfl) (by kernel_rfl)) ?_
  intro W base args ds gs before hval0 hW hcnd _
  have hval : ∀ (j : Nat) t v, Try.f8.params[j]? = some t → args[j]? = some v → Value.okWide Try.prog W .any base t v := hval0
  have hW' := hW
  obtain ⟨p, q, hA0, hV, rfl, hfz, hnd⟩ := hW
  have hA : DataW.TrodAll enc Try.prog W 0 (fun _ => true) true Try.f8.params.toList args.toList ds p := hA0
  rw [Try.params8] at hA hval
  obtain ⟨v0, vs0, d0, ds0, p0, q0, hargs, rfl, rfl, h0, r0⟩ := trodAll_cons hA
  obtain ⟨v1, vs1, d1, ds1, p1, q1, rfl, rfl, rfl, h1, r1⟩ := trodAll_cons r0
  obtain ⟨v2, vs2, d2, ds2, p2, q2, rfl, rfl, rfl, h2, r2⟩ := trodAll_cons r1
  obtain ⟨rfl, rfl, rfl⟩ := trodAll_nil r2
  obtain rfl : args = #[v0, v1, v2] := by cases args; simp_all
  obtain ⟨rfl, rfl⟩ := trodVars_none hV
  obtain ⟨a0, len0, cap0, rfl⟩ := okWide_slice Try.underlying22 (hval 0 22 v0 rfl rfl)
  have k0 := h0
  have lt0 : ∀ x ∈ p0, x.block < W.heap.size := by obtain ⟨m, hm⟩ := k0; exact DataW.trod_lt m _ _ _ hm
  obtain ⟨z0, w0⟩ : ∃ zs, IsRow .u8 W a0 len0 cap0 zs := by
    obtain ⟨fuel, hf⟩ := h0
    rcases open_ints Try.underlying22 Try.underlying5 (by kernel_rfl) hf with ⟨hcs, _⟩ | ⟨x, l, c, zs, hcs, _, hl, hm, hz, _, hcell, hwz⟩
    · simp [Value.cells] at hcs
      obtain ⟨rfl, rfl, rfl⟩ := hcs
      exact ⟨[], .inl ⟨rfl, rfl, rfl, rfl⟩⟩
    · simp [Value.cells] at hcs
      obtain ⟨rfl, rfl, rfl⟩ := hcs
      exact ⟨zs, .inr ⟨_, rfl, hl, hm, by simpa using hz, hcell, hwz⟩⟩
  obtain ⟨a1, len1, cap1, rfl⟩ := okWide_slice Try.underlying30 (hval 1 30 v1 rfl rfl)
  have k1 := h1
  have lt1 : ∀ x ∈ p1, x.block < W.heap.size := by obtain ⟨m, hm⟩ := k1; exact DataW.trod_lt m _ _ _ hm
  obtain ⟨z1, w1⟩ : ∃ zs, IsRow .i64 W a1 len1 cap1 zs := by
    obtain ⟨fuel, hf⟩ := h1
    rcases open_ints Try.underlying30 Try.underlying3 (by kernel_rfl) hf with ⟨hcs, _⟩ | ⟨x, l, c, zs, hcs, _, hl, hm, hz, _, hcell, hwz⟩
    · simp [Value.cells] at hcs
      obtain ⟨rfl, rfl, rfl⟩ := hcs
      exact ⟨[], .inl ⟨rfl, rfl, rfl, rfl⟩⟩
    · simp [Value.cells] at hcs
      obtain ⟨rfl, rfl, rfl⟩ := hcs
      exact ⟨zs, .inr ⟨_, rfl, hl, hm, by simpa using hz, hcell, hwz⟩⟩
  obtain ⟨a2, rfl, rfl, rfl, w2⟩ := open_int Try.underlying3 (hval 2 3 v2 rfl rfl) h2
  clear hA0 hval0
  refine (walk a0 len0 cap0 z0 a1 len1 cap1 z1 a2 W w0 w1 w2).mono fun e W' ⟨he, bel⟩ => ?_
  subst he
  exact ⟨_, rfl, _, _, _, [], _, [], hW', trodAll_mk1 (shut_bool Try.underlying4 _), (trodAll_cons_mk (Below.trod laidOut (by kernel_rfl) (of_decide_eq_true (by kernel_rfl)) k0 bel lt0) (trodAll_cons_mk (Below.trod laidOut (by kernel_rfl) (of_decide_eq_true (by kernel_rfl)) k1 bel lt1) (trodAll_cons_mk (shut_int Try.underlying3 w2) trodAll_mk0))), rfl, bel.frame _, fun h => by cases h⟩

theorem over : Rows.layStopsRow.holds Try.pinned (OpenSpec.ofChange Rows.layStopsSpec) :=
  OpenClaim.holds_of_wide 8 Try.f8 rfl rfl rfl rfl rfl rfl rfl ⟨rfl, rfl, rfl, rfl, rfl⟩ rfl rfl rfl rfl rfl (by kernel_rfl) Try.func8 (by kernel_rfl)
    (of_decide_eq_true (by kernel_rfl)) (by unfold Func.isWrapper; first | (rw [if_pos (by decide +kernel)]; kernel_rfl) | (rw [if_neg (by decide +kernel)]; exact ⟨rfl, rfl⟩))
    (fun os started H enc _ => lifted os started H enc)

theorem proved : Rows.LayStopsSaid := over
#print axioms proved
end Go.Proofs.Ythkpbkkgjeecnaa.layStops
