/-
  LayBytes returns true for any bytes: a reader tells them one by one, in order, and the end at last.
-/
import Derived.Test.YthkpbkkgjeecnaaLaw
import Derived.Deep.RegionHeld3
import Derived.WalkKit
import Derived.ProofKit
import Derived.OpenShut
import Derived.ShutString
import Derived.ChangeOld
import Derived.Below
namespace Go.Proofs.Ythkpbkkgjeecnaa.layBytes
open Go.ChangeShapes Go.WideShapes Go.ChangeAt Go.RowKit
open Go.ChangeMaps (open_string shut_string)
set_option linter.unusedVariables false

theorem own : ownKnob Try.prog.godebug = none := by kernel_rfl
theorem laidOut : laidOutB Try.prog = true := by kernel_rfl

open Dg
set_option maxHeartbeats 1000000 in
theorem walk (a0 : Option Addr) (len0 cap0 : Nat) (z0 : List Int) (w : World) (w0 : IsRow .u8 w a0 len0 cap0 z0) :
    Calls Try.prog 7 #[.slice a0 len0 cap0] w fun e w' => e = .returned (.bool true) ∧ Below w.heap.size w w' := by
  obtain ⟨l0, hl0, hlc, hcm, hb0, hr0⟩ := w0.bytes
  clear w0
  have hf := few_any a0 len0 cap0 w hlc hcm
  obtain ⟨hm1, hm2⟩ := fst_le len0
  have hL : ((l0.take (fst len0)).length) = fst len0 := by rw [List.length_take]; omega
  have hb : ∀ x ∈ l0.take (fst len0), x < 256 := fun x hx => hb0 x (List.mem_of_mem_take hx)
  have hr := hr0.take (fst len0)
  generalize l0.take (fst len0) = l at hL hb hr
  generalize fst len0 = m at hf hm1 hm2 hL
  have HL := Lib.hid hL
  have HB := Lib.hid hb
  have HR := Lib.hid hr
  have HF := Lib.hid hf
  have hmc : m ≤ cap0 := by omega
  clear hL hb hr hf hl0 hb0 hr0
  unfold maxLen at hcm
  go_enter Try.func7, Try.ntmps7
  go_wp2_with fail
  refine HF.out.mono ?_
  rintro e w1 ⟨rfl, rfl⟩
  go_wp2_with fail
  refine (Read_len a0 l m cap0 _ HL.out HR.out (by omega)).mono ?_
  rintro e w1 ⟨g, rfl, hg, HG, HB1⟩
  have HA := Lib.hid (HR.out.below HB1.out)
  go_wp2_with fail
  go_loopw [4] (fun i wr => ∃ k : Nat, k ≤ m ∧ i = .int .i64 k ∧ Hid (Rdr wr g (l.drop k) 0) ∧ Hid (Rd wr a0 l) ∧ Hid (Below w.heap.size w wr)) (fun i _ => m - (intOf i).toNat)
  case atStart => exact ⟨0, by omega, rfl, HG.out, HA.out, HB1.out⟩
  case round =>
    clear HR HG HA HB1
    obtain ⟨k, hk, rfl, hrd, hcl, hbl⟩ := hrel
    by_cases hlt : k < m
    · have hkl : k < l.length := by rw [HL.out]; exact hlt
      have hne : l ≠ [] := by rintro rfl; simp at hkl
      obtain ⟨b, off, rfl, hc⟩ := hcl.out hne
      have hcell := hc k hkl
      have hy := HB.out l[k] (List.getElem_mem hkl)
      have hd : Hid (Rdr wr g (l[k] :: l.drop (k + 1)) 0) := by show Rdr _ _ _ _; rw [← List.drop_eq_getElem_cons hkl]; exact hrd.out
      have hlen : Hid ((l[k] :: l.drop (k + 1)).length = m - k) := by show _ = _; rw [List.length_cons, List.length_drop, HL.out]; omega
      clear hrd hc
      generalize l[k] = y at *
      obtain ⟨t, ht⟩ : ∃ t, t = l.drop (k + 1) := ⟨_, rfl⟩
      rw [← ht] at hd hlen
      have HT := Lib.hid ht
      clear ht
      unfold bv at hcell
      go_wp2_with fail
      have LEFT : ∀ W : World, Rdr W g (y :: t) 0 → Calls Try.prog 21 #[.pointer (some ⟨g, 0, none⟩)] W fun x w' => x = .returned (.int .i64 ((m : Int) - (k : Int))) ∧ W = w' := fun W hW =>
        (Left_get g (y :: t) 0 W hW).mono fun x w' ⟨h1, h2⟩ => ⟨by rw [h1, hlen.out]; congr 2; omega, h2⟩
      have BYTE : ∀ W : World, Rdr W g (y :: t) 0 → W.cell? ⟨b, off + k, none⟩ = some (.int .u8 y) → Calls Try.prog 23 #[.pointer (some ⟨g, 0, none⟩)] W fun x w' => x = .returned (.int .i64 y) ∧ Hid (Rdr w' g t 0) ∧ w'.cell? ⟨b, off + k, none⟩ = some (.int .u8 y) ∧ Hid (W.grownBy w' (some g)) := fun W hW hcl => by
        refine (Byte_go g W y t hW hy (by rw [hlen.out]; omega)).mono ?_
        rintro x w' ⟨h1, h2, h3⟩
        refine ⟨h1, h2, ?_, h3⟩
        obtain ⟨A, c, hh, _, _⟩ := hW
        refine h3.cell hcl fun e => ?_
        injection e with e
        rw [show b = g from e, hh.cell] at hcl
        exact rdr_cells _ _ _ _ _ _ hcl
      have ERR : ∀ W : World, Hid (Rdr W g t 0) → Calls Try.prog 22 #[.pointer (some ⟨g, 0, none⟩)] W fun x w' => x = .returned (.int .i64 0) ∧ W = w' := fun W hW => Errno_get g t 0 W hW.out
      have HLEFT := Lib.hid LEFT
      have HBYTE := Lib.hid BYTE
      have HERR := Lib.hid ERR
      clear LEFT BYTE ERR
      have hk0 : (0 : Int) ≤ (k : Int) := Int.natCast_nonneg _
      have hk1 : (k : Int) < (m : Int) := by omega
      have hwr : IntKind.i64.wrap ((m : Int) - (k : Int)) = (m : Int) - (k : Int) := by rw [IntKind.wrap_i64]; omega
      have hwy : IntKind.i64.wrap (y : Int) = (y : Int) := by rw [IntKind.wrap_i64]; omega
      go_region_held3 (fun w' => w'.cell? ⟨b, off + k, none⟩ = some (.int .u8 y)) (first | assumption | go_keep)
        (first
          | (go_at_call 21; refine (HLEFT.out _ ?_).mono ?_; (first | exact hd.out | exact hd.out.drew | exact hd.out.drewN _); rintro e w2 ⟨rfl, rfl⟩)
          | (go_at_call 23; refine (HBYTE.out _ ?_ ?_).mono ?_; (first | exact hd.out | exact hd.out.drew | exact hd.out.drewN _); (first | assumption | exact hcell); rintro e w2 ⟨rfl, hd2, hc2, hg2⟩)
          | (go_at_call 22; refine (HERR.out _ hd2).mono ?_; rintro e w2 ⟨rfl, rfl⟩))
      clear hwr hwy
      go_wp2_with fail
      go_roundw
      case rel =>
        refine ⟨k + 1, by omega, by go_num, ?_, ?_, ?_⟩
        · show Rdr _ _ _ _; rw [← HT.out]; exact hd2.out
        · obtain ⟨A', c', hh, _, _⟩ := hd.out
          exact Rd.turn (w := wr.drew) hcl.out hg2.out hh (rdr_cells _ _ _ _)
        · exact Below.turn hbl.out.drew hg2.out hg
      case measure => simp [intOf]; omega
    · obtain rfl : k = m := by omega
      have hrd0 : Hid (Rdr wr g [] 0) := by show Rdr _ _ _ _; rw [show ([] : List Nat) = l.drop k by rw [List.drop_eq_nil_of_le (by rw [HL.out]; omega)]]; exact hrd.out
      clear hrd hcl HL HB
      go_wp2_with fail
      refine (End_get g [] 0 _ hrd0.out (by simp)).mono ?_
      rintro e w2 ⟨rfl, rfl⟩
      rw [endF_nil]
      go_wp2_with fail
      refine (Byte_end g _ hrd0.out).mono ?_
      rintro e w2 ⟨rfl, hd, hgr⟩
      have S2 := Lib.hid hd
      have G2 := Lib.hid hgr
      clear hd hgr
      go_wp2_with fail
      refine (Errno_get g [] 4 _ S2.out).mono ?_
      rintro e w3 ⟨rfl, rfl⟩
      go_wp2_with fail
      refine (End_get g [] 4 _ S2.out (by simp)).mono ?_
      rintro e w3 ⟨rfl, rfl⟩
      rw [endF_four]
      go_wp2_with fail
      refine (lives_any _).mono ?_
      rintro e w3 ⟨rfl, hb3⟩
      have HB3 := Lib.hid hb3
      clear hb3
      go_wp2_with fail
      go_ret
      have c2 := Below.turn hbl.out G2.out hg
      exact ⟨rfl, c2.trans (HB3.out.mono c2.size)⟩

set_option maxRecDepth 100000 in
theorem lifted (os : Os) (started : os.Started) (H : Type) (enc : TypeId × Value → H) :
    ReturnsInHanded {} Try.checked os 7 .any (Rows.layBytesSpec.pre6 enc Try.prog Try.f7 Rows.layBytesRow.domain false) (Rows.layBytesSpec.post enc Try.prog Try.f7 false true false false) := by
  refine returnsInHanded_of_change (C := Try.checked) own started (by kernel_rfl) Try.func7
    (ChangeSpec.witness6 (enc := enc) (C := Try.checked) false ⟨#[], #[.slice none 0 0], []⟩ 8 (by kernel_rfl) (by kernel_rfl) (by kernel_rfl) (by kernel_rfl)) ?_
  intro W base args ds gs before hval0 hW hcnd _
  have hval : ∀ (j : Nat) t v, Try.f7.params[j]? = some t → args[j]? = some v → Value.okWide Try.prog W .any base t v := hval0
  have hW' := hW
  obtain ⟨p, q, hA0, hV, rfl, hfz, hnd⟩ := hW
  have hA : DataW.TrodAll enc Try.prog W 0 (fun _ => true) true Try.f7.params.toList args.toList ds p := hA0
  rw [Try.params7] at hA hval
  obtain ⟨v0, vs0, d0, ds0, p0, q0, hargs, rfl, rfl, h0, r0⟩ := trodAll_cons hA
  obtain ⟨rfl, rfl, rfl⟩ := trodAll_nil r0
  obtain rfl : args = #[v0] := by cases args; simp_all
  obtain ⟨rfl, rfl⟩ := trodVars_none hV
  obtain ⟨a0, len0, cap0, rfl⟩ := okWide_slice Try.underlying22 (hval 0 22 v0 rfl rfl)
  have k0 := h0
  have lt0 : ∀ x ∈ p0, x.block < W.heap.size := by obtain ⟨m, hm⟩ := k0; exact DataW.trod_lt m _ _ _ hm
  obtain ⟨z0, w0⟩ : ∃ zs, IsRow .u8 W a0 len0 cap0 zs := by
    obtain ⟨fuel, hf⟩ := h0
    rcases open_ints Try.underlying22 Try.underlying5 (by kernel_rfl) hf with ⟨hcs, _⟩ | ⟨x, l, c, zs, hcs, _, hl, hm, hz, _, hcell, hwz⟩
    · simp [Value.cells] at hcs
      obtain ⟨rfl, rfl, rfl⟩ := hcs
      exact ⟨[], .inl ⟨rfl, rfl, rfl, rfl⟩⟩
    · simp [Value.cells] at hcs
      obtain ⟨rfl, rfl, rfl⟩ := hcs
      exact ⟨zs, .inr ⟨_, rfl, hl, hm, by simpa using hz, hcell, hwz⟩⟩
  clear hA0 hval0
  refine (walk a0 len0 cap0 z0 W w0).mono fun e W' ⟨he, bel⟩ => ?_
  subst he
  exact ⟨_, rfl, _, _, _, [], _, [], hW', trodAll_mk1 (shut_bool Try.underlying4 _), (trodAll_cons_mk (Below.trod laidOut (by kernel_rfl) (of_decide_eq_true (by kernel_rfl)) k0 bel lt0) trodAll_mk0), rfl, bel.frame _, fun h => by cases h⟩

theorem over : Rows.layBytesRow.holds Try.pinned (OpenSpec.ofChange Rows.layBytesSpec) :=
  OpenClaim.holds_of_wide 7 Try.f7 rfl rfl rfl rfl rfl rfl rfl ⟨rfl, rfl, rfl, rfl, rfl⟩ rfl rfl rfl rfl rfl (by kernel_rfl) Try.func7 (by kernel_rfl)
    (of_decide_eq_true (by kernel_rfl)) (by unfold Func.isWrapper; first | (rw [if_pos (by decide +kernel)]; kernel_rfl) | (rw [if_neg (by decide +kernel)]; exact ⟨rfl, rfl⟩))
    (fun os started H enc _ => lifted os started H enc)

theorem proved : Rows.LayBytesSaid := over
#print axioms proved
end Go.Proofs.Ythkpbkkgjeecnaa.layBytes
