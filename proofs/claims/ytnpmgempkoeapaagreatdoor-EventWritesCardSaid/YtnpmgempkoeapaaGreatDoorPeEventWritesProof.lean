/-
  An event's bytes are the document's, and are read as it was; of one that may not be there are none: for any tables that may be (made of any), and any event, as a rule made such as may be. No conditions but those of the statement.
-/
import Derived.Test.YtnpmgempkoeapaaGreatDoorPebw
import Derived.Test.YtnpmgempkoeapaaGreatDoorPeaz
import Derived.Test.YtnpmgempkoeapaaGreatDoorPebx
import Derived.Test.YtnpmgempkoeapaaGreatDoorCards
import Derived.Test.YtnpmgempkoeapaaGreatDoorTie
namespace Go.Proofs.YtnpmgempkoeapaaGreatDoor.eventWrites
open Go.ChangeShapes Go.WideShapes Go.ChangeAt Go.RowKit Go.Joins Go.Deep
open Go.ChangeMaps (open_string shut_string)
set_option linter.unusedVariables false
theorem row_listed : Rows.eventWritesRow.laid = listed := rfl
set_option maxRecDepth 100000 in
set_option maxHeartbeats 1000000 in
theorem lifted (os : Os) (started : os.Started) (H : Type) (enc : TypeId × Value → H) :
    ReturnsInHanded {} Tryz.checked os 3 .any (fun w args => (Rows.eventWritesSpec.pre enc Tryz.prog Tryz.f3 Rows.eventWritesRow.domain false w args ∧ laidMetH Tryz.prog Rows.eventWritesRow.laid w) ∧ sizedMet enc Tryz.prog Tryz.f3 (OpenSpec.ofChange Rows.eventWritesSpec) false w args)
      (Rows.eventWritesSpec.post enc Tryz.prog Tryz.f3 false true false false) := by
  refine returnsInHanded_of_change_and (C := Tryz.checked) (X := fun w _ => laidMetH Tryz.prog Rows.eventWritesRow.laid w) (fun _ _ _ hh h => h.of_heap hh) own started (by kernel_rfl) Tryz.func3
    (ChangeSpec.witness_shaped (enc := enc) (C := Tryz.checked) (os := os) (X := fun w _ => laidMetH Tryz.prog Rows.eventWritesRow.laid w) false (World.laidAll Tryz.prog os Rows.eventWritesRow.laid) #[.slice none 0 0, .agg #[.int .i64 0, .int .i64 0, .string ⟨#[]⟩, .slice none 0 0, .slice none 0 0, .int .i64 0, .string ⟨#[]⟩, .slice none 0 0, .int .i64 0, .string ⟨#[]⟩, .int .i64 0, .bool false]] 8 (World.laidAll_os _ _ _)
      (World.shaped_of_ZipB (by kernel_rfl) (by kernel_rfl)) (by kernel_rfl) (by kernel_rfl) (by kernel_rfl)
      (by rw [MakeChecks.laidMetH_plain _ _ _ (by kernel_rfl)]; exact laidMet_laidAll _ (by kernel_rfl) (by kernel_rfl))) ?_
  intro W base args ds gs before hval0 hW hc hreach hL _
  have hval : ∀ (j : Nat) t v, Tryz.f3.params[j]? = some t → args[j]? = some v → Value.okWide Tryz.prog W .any base t v := hval0
  have hW' := hW
  obtain ⟨p, q, hA0, hV, rfl, hfz, hnd⟩ := hW
  have hA : DataW.TrodAll enc Tryz.prog W 0 (fun _ => true) true Tryz.f3.params.toList args.toList ds p := hA0
  rw [Tryz.params3] at hA hval hreach
  obtain ⟨v0, vs0, d0, ds0, p0, q0, hargs, rfl, rfl, h0, r0⟩ := trodAll_cons hA
  obtain ⟨v1, vs1, d1, ds1, p1, q1, rfl, rfl, rfl, h1, r1⟩ := trodAll_cons r0
  obtain ⟨rfl, rfl, rfl⟩ := trodAll_nil r1
  obtain rfl : args = #[v0, v1] := by cases args; simp_all
  obtain ⟨rfl, rfl⟩ := trodVars_none hV
  have l0 : Lite 22 d0 := lite_of hreach (j := 0) rfl rfl
  have k0 := h0
  have lt0 : ∀ x ∈ p0, x.block < W.heap.size := by obtain ⟨m, hm⟩ := k0; exact DataW.trod_lt m _ _ _ hm
  obtain ⟨a0, len0, cap0, L0, rfl, hl0, hc0, hm0, hr0, hi0⟩ := tables_in (hval 0 22 v0 rfl rfl) h0 l0
  have l1 : Lite 33 d1 := lite_of hreach (j := 1) rfl rfl
  have k1 := h1
  have lt1 : ∀ x ∈ p1, x.block < W.heap.size := by obtain ⟨m, hm⟩ := k1; exact DataW.trod_lt m _ _ _ hm
  obtain ⟨ek1, en1, et1, Ab1, nb1, zb1, Lb1, Aa1, na1, za1, La1, ck1, tn1, a1, len1, cap1, L1, K1, ⟨cn1, cq1, cb1⟩, rfl, hek1, hen1, hRb1, hRa1, hL1, hcl1, het1⟩ := event_in (hval 1 33 v1 rfl rfl) h1 l1
  clear hA0 hval0
  refine (walk a0 len0 cap0 L0 ek1 en1 et1 Ab1 nb1 zb1 Lb1 Aa1 na1 za1 La1 ck1 tn1 a1 len1 cap1 L1 K1 cn1 cq1 cb1 W hl0 hc0 hm0 hr0 hi0 hek1 hen1 hRb1 hRa1 hL1 hcl1 het1 (tabs_of (row_listed ▸ hL))).mono fun e W' ⟨he, bel⟩ => ?_
  subst he
  exact ⟨_, rfl, _, _, _, [], _, [], hW', trodAll_mk1 (shut_bool Tryz.underlying4 _), (trodAll_cons_mk (Below.trod laidOut (by kernel_rfl) (of_decide_eq_true (by kernel_rfl)) k0 bel lt0) (trodAll_cons_mk (Below.trod laidOut (by kernel_rfl) (of_decide_eq_true (by kernel_rfl)) k1 bel lt1) trodAll_mk0)), rfl, bel.frame _, fun h => by cases h⟩
set_option maxRecDepth 100000 in
theorem cl_named : Tryz.prog.funcNamed Rows.eventWritesRow.func = some 3 := by kernel_rfl
set_option maxRecDepth 100000 in
theorem cl_inPlace : (Rows.eventWritesRow.inPlace == Tryz.prog.inPlace 3) = true := by kernel_rfl
set_option maxRecDepth 100000 in
theorem cl_unf : (Rows.eventWritesRow.unfollowed == Tryz.prog.unfollowed 3) = true := by kernel_rfl
set_option maxRecDepth 100000 in
theorem cl_rec : (Rows.eventWritesRow.recurses == Tryz.prog.recurses 3) = true := by kernel_rfl
set_option maxRecDepth 100000 in
theorem cl_vars : (Rows.eventWritesRow.named == Tryz.prog.varsNamed 3) = true := by kernel_rfl
set_option maxRecDepth 100000 in
theorem cl_all : joinedFacts Tryz.prog 3 Tryz.f3 Rows.eventWritesSpec Rows.eventWritesRow = true := by
  unfold joinedFacts
  rw [cl_inPlace, cl_unf, cl_rec, cl_vars]
  kernel_rfl
set_option maxRecDepth 100000 in
theorem cl_inst : Tryz.f3.isInstance Tryz.prog Rows.eventWritesRow.origin Rows.eventWritesRow.targs := of_decide_eq_true (by kernel_rfl)
theorem over : Rows.eventWritesRow.holds Tryz.pinned (OpenSpec.ofChange Rows.eventWritesSpec) :=
  OpenClaim.holds_of_wide 3 Tryz.f3 rfl rfl rfl rfl rfl rfl rfl ⟨rfl, rfl, rfl, rfl, rfl⟩ rfl rfl rfl rfl rfl cl_named Tryz.func3 cl_all
    cl_inst (by unfold Func.isWrapper; first | (rw [if_pos (by decide +kernel)]; kernel_rfl) | (rw [if_neg (by decide +kernel)]; exact ⟨rfl, rfl⟩))
    (fun os started H enc _ => lifted os started H enc)
set_option maxRecDepth 100000 in
theorem cl_wf : Rows.eventWritesRow.wfByText (OpenSpec.ofChange Rows.eventWritesSpec) = true := by kernel_rfl
set_option maxRecDepth 100000 in
theorem cl_main : Tryz.pinned.checked.prog.mainIs = some (Rows.eventWritesCard.stood.harness.1, Rows.eventWritesCard.stood.harness.2.toList) := by kernel_rfl
set_option maxRecDepth 100000 in
theorem cl_looks : false = Tryz.pinned.checked.prog.looks [] := by kernel_rfl
set_option maxRecDepth 100000 in
theorem cl_goes : false = Rows.eventWritesRow.goesBy Tryz.pinned.checked.prog := by kernel_rfl
theorem proved : Rows.EventWritesCardSaid :=
  Claim7.holds_tied_plain_at .later [] [.data, .pinned] true Rows.eventWritesCard.stood.harness false over (fun _ h => by cases h) cl_wf (fun _ h => by cases h) eventWrites_row_tie rfl ⟨rfl, rfl⟩ cl_main rfl
    (fun f fn hf hfn => by
      obtain rfl : f = 3 := Option.some.inj (cl_named.symm.trans hf) |>.symm
      obtain rfl : fn = Tryz.f3 := (Option.some.inj (Tryz.func3.symm.trans hfn)).symm
      exact ⟨cl_looks, fun j t ht => by
        rw [Tryz.params3] at ht
        have hm : t ∈ [22, 33] := by simpa using Array.mem_of_getElem? ht
        have hall : ([22, 33].all fun u => !Tryz.prog.wantsStandIn u) = true := by kernel_rfl
        exact (show Tryz.prog.wantsStandIn t = false by simpa using List.all_eq_true.1 hall t hm)⟩)
    cl_goes
#print axioms proved
end Go.Proofs.YtnpmgempkoeapaaGreatDoor.eventWrites
