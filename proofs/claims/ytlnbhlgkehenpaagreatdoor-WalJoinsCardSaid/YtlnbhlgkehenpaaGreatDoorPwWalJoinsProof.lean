/-
  The tables behind two lists of writes, one behind the other, are those behind the second one, by those behind the first one. No conditions but those of the statement.
-/
import Derived.Test.YtlnbhlgkehenpaaGreatDoorPwi
import Derived.Test.YtlnbhlgkehenpaaGreatDoorPwe
import Derived.Test.YtlnbhlgkehenpaaGreatDoorPwg
import Derived.Test.YtlnbhlgkehenpaaGreatDoorCards
import Derived.Test.YtlnbhlgkehenpaaGreatDoorTie
namespace Go.Proofs.YtlnbhlgkehenpaaGreatDoor.walJoins
open Go.ChangeShapes Go.WideShapes Go.ChangeAt Go.RowKit Go.Joins Go.Deep
open Go.ChangeMaps (open_string shut_string)
set_option linter.unusedVariables false
theorem row_listed : Rows.walJoinsRow.laid = listed := rfl
set_option maxRecDepth 100000 in
set_option maxHeartbeats 1000000 in
theorem lifted (os : Os) (started : os.Started) (H : Type) (enc : TypeId × Value → H) :
    ReturnsInHanded {} Tryz.checked os 4 .any (fun w args => (Rows.walJoinsSpec.pre enc Tryz.prog Tryz.f4 Rows.walJoinsRow.domain false w args ∧ laidMetH Tryz.prog Rows.walJoinsRow.laid w) ∧ sizedMet enc Tryz.prog Tryz.f4 (OpenSpec.ofChange Rows.walJoinsSpec) false w args)
      (Rows.walJoinsSpec.post enc Tryz.prog Tryz.f4 false true false false) := by
  refine returnsInHanded_of_change_and (C := Tryz.checked) (X := fun w _ => laidMetH Tryz.prog Rows.walJoinsRow.laid w) (fun _ _ _ hh h => h.of_heap hh) own started (by kernel_rfl) Tryz.func4
    (ChangeSpec.witness_shaped (enc := enc) (C := Tryz.checked) (os := os) (X := fun w _ => laidMetH Tryz.prog Rows.walJoinsRow.laid w) false (World.laidAll Tryz.prog os Rows.walJoinsRow.laid) #[.slice none 0 0, .slice none 0 0, .slice none 0 0] 8 (World.laidAll_os _ _ _)
      (World.shaped_of_ZipB (by kernel_rfl) (by kernel_rfl)) (by kernel_rfl) (by kernel_rfl) (by kernel_rfl)
      (by rw [MakeChecks.laidMetH_plain _ _ _ (by kernel_rfl)]; exact laidMet_laidAll _ (by kernel_rfl) (by kernel_rfl))) ?_
  intro W base args ds gs before hval0 hW hc hreach hL _
  have hval : ∀ (j : Nat) t v, Tryz.f4.params[j]? = some t → args[j]? = some v → Value.okWide Tryz.prog W .any base t v := hval0
  have hW' := hW
  obtain ⟨p, q, hA0, hV, rfl, hfz, hnd⟩ := hW
  have hA : DataW.TrodAll enc Tryz.prog W 0 (fun _ => true) true Tryz.f4.params.toList args.toList ds p := hA0
  rw [Tryz.params4] at hA hval hreach
  obtain ⟨v0, vs0, d0, ds0, p0, q0, hargs, rfl, rfl, h0, r0⟩ := trodAll_cons hA
  obtain ⟨v1, vs1, d1, ds1, p1, q1, rfl, rfl, rfl, h1, r1⟩ := trodAll_cons r0
  obtain ⟨v2, vs2, d2, ds2, p2, q2, rfl, rfl, rfl, h2, r2⟩ := trodAll_cons r1
  obtain ⟨rfl, rfl, rfl⟩ := trodAll_nil r2
  obtain rfl : args = #[v0, v1, v2] := by cases args; simp_all
  obtain ⟨rfl, rfl⟩ := trodVars_none hV
  have l0 : Lite 22 d0 := lite_of hreach (j := 0) rfl rfl
  have k0 := h0
  have lt0 : ∀ x ∈ p0, x.block < W.heap.size := by obtain ⟨m, hm⟩ := k0; exact DataW.trod_lt m _ _ _ hm
  obtain ⟨a0, len0, cap0, L0, rfl, hl0, hc0, hm0, hr0, hi0⟩ := tables_in (hval 0 22 v0 rfl rfl) h0 l0
  have l1 : Lite 24 d1 := lite_of hreach (j := 1) rfl rfl
  have k1 := h1
  have lt1 : ∀ x ∈ p1, x.block < W.heap.size := by obtain ⟨m, hm⟩ := k1; exact DataW.trod_lt m _ _ _ hm
  obtain ⟨a1, len1, cap1, L1, rfl, hl1, hc1, hm1, hr1, hf1⟩ := eis_in (hval 1 24 v1 rfl rfl) h1 l1
  have l2 : Lite 24 d2 := lite_of hreach (j := 2) rfl rfl
  have k2 := h2
  have lt2 : ∀ x ∈ p2, x.block < W.heap.size := by obtain ⟨m, hm⟩ := k2; exact DataW.trod_lt m _ _ _ hm
  obtain ⟨a2, len2, cap2, L2, rfl, hl2, hc2, hm2, hr2, hf2⟩ := eis_in (hval 2 24 v2 rfl rfl) h2 l2
  clear hA0 hval0
  refine (walk a0 len0 cap0 L0 a1 len1 cap1 L1 a2 len2 cap2 L2 W hl0 hc0 hm0 hr0 hi0 hl1 hc1 hm1 hr1 hf1 hl2 hc2 hm2 hr2 hf2 (tabs_of (row_listed ▸ hL))).mono fun e W' ⟨he, bel⟩ => ?_
  subst he
  exact ⟨_, rfl, _, _, _, [], _, [], hW', trodAll_mk1 (shut_bool Tryz.underlying4 _), (trodAll_cons_mk (Below.trod laidOut (by kernel_rfl) (of_decide_eq_true (by kernel_rfl)) k0 bel lt0) (trodAll_cons_mk (Below.trod laidOut (by kernel_rfl) (of_decide_eq_true (by kernel_rfl)) k1 bel lt1) (trodAll_cons_mk (Below.trod laidOut (by kernel_rfl) (of_decide_eq_true (by kernel_rfl)) k2 bel lt2) trodAll_mk0))), rfl, bel.frame _, fun h => by cases h⟩
set_option maxRecDepth 100000 in
theorem cl_named : Tryz.prog.funcNamed Rows.walJoinsRow.func = some 4 := by kernel_rfl
set_option maxRecDepth 100000 in
theorem cl_inPlace : (Rows.walJoinsRow.inPlace == Tryz.prog.inPlace 4) = true := by kernel_rfl
set_option maxRecDepth 100000 in
theorem cl_unf : (Rows.walJoinsRow.unfollowed == Tryz.prog.unfollowed 4) = true := by kernel_rfl
set_option maxRecDepth 100000 in
theorem cl_rec : (Rows.walJoinsRow.recurses == Tryz.prog.recurses 4) = true := by kernel_rfl
set_option maxRecDepth 100000 in
theorem cl_vars : (Rows.walJoinsRow.named == Tryz.prog.varsNamed 4) = true := by kernel_rfl
set_option maxRecDepth 100000 in
theorem cl_all : joinedFacts Tryz.prog 4 Tryz.f4 Rows.walJoinsSpec Rows.walJoinsRow = true := by
  unfold joinedFacts
  rw [cl_inPlace, cl_unf, cl_rec, cl_vars]
  kernel_rfl
set_option maxRecDepth 100000 in
theorem cl_inst : Tryz.f4.isInstance Tryz.prog Rows.walJoinsRow.origin Rows.walJoinsRow.targs := of_decide_eq_true (by kernel_rfl)
theorem over : Rows.walJoinsRow.holds Tryz.pinned (OpenSpec.ofChange Rows.walJoinsSpec) :=
  OpenClaim.holds_of_wide 4 Tryz.f4 rfl rfl rfl rfl rfl rfl rfl ⟨rfl, rfl, rfl, rfl, rfl⟩ rfl rfl rfl rfl rfl cl_named Tryz.func4 cl_all
    cl_inst (by unfold Func.isWrapper; first | (rw [if_pos (by decide +kernel)]; kernel_rfl) | (rw [if_neg (by decide +kernel)]; exact ⟨rfl, rfl⟩))
    (fun os started H enc _ => lifted os started H enc)
set_option maxRecDepth 100000 in
theorem cl_wf : Rows.walJoinsRow.wfByText (OpenSpec.ofChange Rows.walJoinsSpec) = true := by kernel_rfl
set_option maxRecDepth 100000 in
theorem cl_main : Tryz.pinned.checked.prog.mainIs = some (Rows.walJoinsCard.stood.harness.1, Rows.walJoinsCard.stood.harness.2.toList) := by kernel_rfl
set_option maxRecDepth 100000 in
theorem cl_looks : false = Tryz.pinned.checked.prog.looks [] := by kernel_rfl
set_option maxRecDepth 100000 in
theorem cl_goes : false = Rows.walJoinsRow.goesBy Tryz.pinned.checked.prog := by kernel_rfl
theorem proved : Rows.WalJoinsCardSaid :=
  Claim7.holds_tied_plain_at .later [] [.data, .pinned] true Rows.walJoinsCard.stood.harness false over (fun _ h => by cases h) cl_wf (fun _ h => by cases h) walJoins_row_tie rfl ⟨rfl, rfl⟩ cl_main rfl
    (fun f fn hf hfn => by
      obtain rfl : f = 4 := Option.some.inj (cl_named.symm.trans hf) |>.symm
      obtain rfl : fn = Tryz.f4 := (Option.some.inj (Tryz.func4.symm.trans hfn)).symm
      exact ⟨cl_looks, fun j t ht => by
        rw [Tryz.params4] at ht
        have hm : t ∈ [22, 24] := by simpa using Array.mem_of_getElem? ht
        have hall : ([22, 24].all fun u => !Tryz.prog.wantsStandIn u) = true := by kernel_rfl
        exact (show Tryz.prog.wantsStandIn t = false by simpa using List.all_eq_true.1 hall t hm)⟩)
    cl_goes
#print axioms proved
end Go.Proofs.YtlnbhlgkehenpaaGreatDoor.walJoins
