/-
  The document's deeds: Create and Remove.
-/
import Derived.Test.YtoooainecoappaaRn
import Derived.Test.YtoooainecoappaaRo
namespace Go.Proofs.Ytoooainecoappaa
open Go.RowKit Go.Maps Go.WideShapes
theorem Good.arms {S : Ds} (h : Good S) (a : Int) (ha : -9223372036854775808 ≤ a ∧ a ≤ 9223372036854775807) : Good { S with armed := a } := ⟨h.rise, h.kept, h.full, h.room, ha⟩
theorem Good.dec {S : Ds} (h : Good S) : Good { S with armed := dec S.armed } := h.arms _ (by have := h.arm; unfold Go.Proofs.Ytoooainecoappaa.dec; split <;> omega)
theorem del_at {S : Ds} (h : Good S) {j : Nat} {x : Pf} (hj : S.fs[j]? = some x) : delP x.nm S.fs = S.fs.take j ++ S.fs.drop (j + 1) := by
  obtain ⟨hjl, hx⟩ := List.getElem?_eq_some_iff.1 hj
  have e : S.fs = S.fs.take j ++ x :: S.fs.drop (j + 1) := by
    rw [← hx, List.getElem_cons_drop, List.take_append_drop]
  have hp := h.rise
  have keep : ∀ l : List Pf, (∀ y ∈ l, y.nm ≠ x.nm) → delP x.nm l = l := fun l hl => List.filter_eq_self.2 fun y hy => by simpa using hl y hy
  conv => lhs; rw [e]
  rw [e] at hp
  obtain ⟨h1, h2, h3⟩ := List.pairwise_append.1 hp
  obtain ⟨h4, h5⟩ := List.pairwise_cons.1 h2
  have k1 := keep (S.fs.take j) fun y hy e2 => by have := h3 y hy x List.mem_cons_self; rw [e2, WideAt.bytes_irrefl] at this; cases this
  have k2 := keep (S.fs.drop (j + 1)) fun y hy e2 => by have := h4 y hy; rw [e2, WideAt.bytes_irrefl] at this; cases this
  unfold delP at k1 k2 ⊢
  rw [List.filter_append, List.filter_cons, if_neg (by simp), k1, k2]
/-- What the document's deed leaves, and what it tells. -/
def RDo (r : Nat) (v : Value) (w : World) (R : Ds × Nat) (e : Ending) (w' : World) : Prop := ∃ k : Nat, e = .returned (.int .i64 k) ∧ k = R.2 ∧ ∃ v' rb, RIn r w' R.1 v' rb ∧ Tur (rft r v) w w' ∧ Fre (rft r v) (rft r v') w
theorem RDo.same {r : Nat} {v : Value} {w : World} {S : Ds} {ra : Int} (h : RIn r w S v ra) {R : Ds × Nat} {k : Nat} (hR : R = (S, k)) : RDo r v w R (.returned (.int .i64 k)) w := by
  subst hR
  exact ⟨k, rfl, rfl, v, ra, h, Tur.refl _ _, Fre.refl _ _⟩
theorem RDo.gone {r : Nat} {v : Value} {w w' : World} {S T : Ds} {rb : Int} (ha : S.armed = 0) (h : RIn r w' { S with down := true } v rb) (ht : Tur [r] w w') {R : Ds × Nat} (hR : R = deedF S T) : RDo r v w R (.returned (.int .i64 12)) w' := by
  subst hR
  unfold deedF
  rw [if_pos ha]
  exact ⟨12, rfl, rfl, v, rb, h, ht.sub (by intro b hb; rw [List.mem_singleton.1 hb]; simp [rft]), Fre.refl _ _⟩
theorem RDo.done {r : Nat} {v v' : Value} {w w1 w' : World} {S T : Ds} {rb : Int} (ha : S.armed ≠ 0) (ht : Tur [r] w w1) (hs : w1.heap.size = w.heap.size) (h : RIn r w' { T with armed := dec S.armed } v' rb) (h1 : Tur (rft r v) w1 w') (h2 : Fre (rft r v) (rft r v') w1) {R : Ds × Nat} (hR : R = deedF S T) : RDo r v w R (.returned (.int .i64 0)) w' := by
  subst hR
  unfold deedF
  rw [if_neg ha]
  exact ⟨0, rfl, rfl, v', rb, h, (Tur.sub ht (by intro b hb; rw [List.mem_singleton.1 hb]; simp [rft])).trans h1 (Fre.refl _ _), fun b hb => (h2 b hb).imp id fun hh => by omega⟩
section
variable {r : Nat} {w : World} {S : Ds} {v : Value} {ra : Int}
set_option maxHeartbeats 4000000 in
set_option maxRecDepth 100000 in
theorem rcreate_any (h : RIn r w S v ra) (hg : Good S) (hl : S.fs.length ≤ 100000) (s : ByteArray) (hs : s.size ≤ 140737488355328) :
    Calls Try.prog 30 #[.pointer (some ⟨r, 0, none⟩), .int .u8 99, .string s, .string ⟨#[]⟩, .string ⟨#[]⟩] w fun e w' => Hid (RDo r v w (createD S s) e w') := by
  have t3 := h.top.cell 3
  have H := Lib.hid h
  have HC : Hid (createD S s = if errs S s [] = 7 then deedF S { S with fs := insP ⟨nmO s, [], 0⟩ (delP (nmO s) S.fs) } else if errs S s [] = 0 then (S, 8) else (S, errs S s [])) := rfl
  have HNM := Lib.hid (named_any s w hs)
  have HNT : Hid (Calls Try.prog 60 #[.string ⟨#[]⟩] w fun e w' => e = .returned (.bool false) ∧ w' = w) := named_any ⟨#[]⟩ w (by decide)
  by_cases hd : S.down = true
  · have he : errs S s [] = 12 := by unfold errs; rw [if_pos hd]
    have HV : Hid (createD S s = (S, 12)) := by show _ = _; rw [HC.out, he]; rfl
    have HQ := Lib.hid (RDo.same H.out HV.out)
    rw [hd] at t3
    clear h he HC HV hg
    go_enter Try.func30, Try.ntmps30
    go_wp2_with fail
    refine HNM.out.mono ?_
    rintro e w1 ⟨rfl, rfl⟩
    go_wp2_with fail
    refine HNT.out.mono ?_
    rintro e w2 ⟨rfl, rfl⟩
    go_wp2_with fail
    go_ret
    exact HQ
  have hd' : S.down = false := by simpa using hd
  rw [hd'] at t3
  cases hf : fileF s with
  | false =>
    have he : errs S s [] = 6 := by unfold errs; rw [hd']; simp [hf]
    have HV : Hid (createD S s = (S, 6)) := by show _ = _; rw [HC.out, he]; rfl
    have HQ := Lib.hid (RDo.same H.out HV.out)
    rw [hf] at HNM
    clear h he HC HV hg
    go_enter Try.func30, Try.ntmps30
    go_wp2_with fail
    refine HNM.out.mono ?_
    rintro e w1 ⟨rfl, rfl⟩
    go_wp2_with fail
    refine HNT.out.mono ?_
    rintro e w2 ⟨rfl, rfl⟩
    go_wp2_with fail
    go_ret
    exact HQ
  | true =>
    rw [hf] at HNM
    cases hh : hasP (nmO s) S.fs with
    | false =>
      have HAT := Lib.hid (at_no h s hh hl)
      have he : errs S s [] = 7 := by unfold errs; rw [hd']; simp [hf, hh]
      have HV : Hid (createD S s = deedF S { S with fs := insP ⟨nmO s, [], 0⟩ S.fs }) := by show _ = _; rw [HC.out, he, delP_none hh]; rfl
      have HG := Lib.hid hg
      clear h he HC hg
      go_enter Try.func30, Try.ntmps30
      go_wp2_with fail
      refine HNM.out.mono ?_
      rintro e w1 ⟨rfl, rfl⟩
      go_wp2_with fail
      refine HNT.out.mono ?_
      rintro e w2 ⟨rfl, rfl⟩
      go_wp2_with fail
      refine HAT.out.mono ?_
      rintro e w3 ⟨rfl, rfl⟩
      go_wp2_with fail
      refine (goes_any H.out hd').mono ?_
      rintro e w4 ⟨hR, hT, hsz⟩
      rcases hR with ⟨ha, rfl, hI⟩ | ⟨ha, rfl, rb, hI⟩
      · have HQ := Lib.hid (RDo.gone ha hI hT.out HV.out)
        clear hI hT hsz
        go_wp2_with fail
        go_ret
        exact HQ
      · have HPT : Hid (Calls Try.prog 63 #[.pointer (some ⟨r, 0, none⟩), .agg #[.string s, .string ⟨#[]⟩, .string ⟨#[]⟩]] w4 fun e w' => e = .returned (.tuple #[]) ∧ ∃ v', Hid (RIn r w' { { S with armed := dec S.armed } with fs := insP ⟨nmO s, [], 0⟩ S.fs } v' rb) ∧ Hid (Tur (rft r v) w4 w') ∧ Hid (Fre (rft r v) (rft r v') w4)) := put_any hI HG.out.dec ⟨nmO s, [], 0⟩ hl
        clear hI
        go_wp2_with fail
        refine HPT.out.mono ?_
        rintro e w5 ⟨rfl, v', h5, h6, h7⟩
        have HQ := Lib.hid (RDo.done (T := { S with fs := insP ⟨nmO s, [], 0⟩ S.fs }) ha hT.out hsz h5.out h6.out h7.out HV.out)
        clear h5 h6 h7 hT hsz
        go_wp2_with fail
        go_ret
        exact HQ
    | true =>
      obtain ⟨j, x, hj, hx⟩ := has_at hh
      have HAT := Lib.hid (at_yes h hg s j x hj hx hl)
      have hjl := (List.getElem?_eq_some_iff.1 hj).1
      have he : errs S s [] = 0 := by unfold errs; rw [hd']; simp [hf, hh]
      have HV : Hid (createD S s = (S, 8)) := by show _ = _; rw [HC.out, he]; rfl
      have HQ := Lib.hid (RDo.same H.out HV.out)
      clear h he HC HV hg
      go_enter Try.func30, Try.ntmps30
      go_wp2_with fail
      refine HNM.out.mono ?_
      rintro e w1 ⟨rfl, rfl⟩
      go_wp2_with fail
      refine HNT.out.mono ?_
      rintro e w2 ⟨rfl, rfl⟩
      go_wp2_with fail
      refine HAT.out.mono ?_
      rintro e w3 ⟨rfl, rfl⟩
      go_wp2_with fail
      go_ret
      exact HQ
set_option maxHeartbeats 4000000 in
set_option maxRecDepth 100000 in
theorem rremove_any (h : RIn r w S v ra) (hg : Good S) (hl : S.fs.length ≤ 100000) (s : ByteArray) (hs : s.size ≤ 140737488355328) :
    Calls Try.prog 30 #[.pointer (some ⟨r, 0, none⟩), .int .u8 114, .string s, .string ⟨#[]⟩, .string ⟨#[]⟩] w fun e w' => Hid (RDo r v w (removeD S s) e w') := by
  have t3 := h.top.cell 3
  have H := Lib.hid h
  have HC : Hid (removeD S s = if errs S s [] = 0 then deedF S { S with fs := delP (nmO s) S.fs } else (S, errs S s [])) := rfl
  have HNM := Lib.hid (named_any s w hs)
  have HNT : Hid (Calls Try.prog 60 #[.string ⟨#[]⟩] w fun e w' => e = .returned (.bool false) ∧ w' = w) := named_any ⟨#[]⟩ w (by decide)
  by_cases hd : S.down = true
  · have he : errs S s [] = 12 := by unfold errs; rw [if_pos hd]
    have HV : Hid (removeD S s = (S, 12)) := by show _ = _; rw [HC.out, he]; rfl
    have HQ := Lib.hid (RDo.same H.out HV.out)
    rw [hd] at t3
    clear h he HC HV hg
    go_enter Try.func30, Try.ntmps30
    go_wp2_with fail
    refine HNM.out.mono ?_
    rintro e w1 ⟨rfl, rfl⟩
    go_wp2_with fail
    refine HNT.out.mono ?_
    rintro e w2 ⟨rfl, rfl⟩
    go_wp2_with fail
    go_ret
    exact HQ
  have hd' : S.down = false := by simpa using hd
  rw [hd'] at t3
  cases hf : fileF s with
  | false =>
    have he : errs S s [] = 6 := by unfold errs; rw [hd']; simp [hf]
    have HV : Hid (removeD S s = (S, 6)) := by show _ = _; rw [HC.out, he]; rfl
    have HQ := Lib.hid (RDo.same H.out HV.out)
    rw [hf] at HNM
    clear h he HC HV hg
    go_enter Try.func30, Try.ntmps30
    go_wp2_with fail
    refine HNM.out.mono ?_
    rintro e w1 ⟨rfl, rfl⟩
    go_wp2_with fail
    refine HNT.out.mono ?_
    rintro e w2 ⟨rfl, rfl⟩
    go_wp2_with fail
    go_ret
    exact HQ
  | true =>
    rw [hf] at HNM
    cases hh : hasP (nmO s) S.fs with
    | false =>
      have HAT := Lib.hid (at_no h s hh hl)
      have he : errs S s [] = 7 := by unfold errs; rw [hd']; simp [hf, hh]
      have HV : Hid (removeD S s = (S, 7)) := by show _ = _; rw [HC.out, he]; rfl
      have HQ := Lib.hid (RDo.same H.out HV.out)
      clear h he HC HV hg
      go_enter Try.func30, Try.ntmps30
      go_wp2_with fail
      refine HNM.out.mono ?_
      rintro e w1 ⟨rfl, rfl⟩
      go_wp2_with fail
      refine HNT.out.mono ?_
      rintro e w2 ⟨rfl, rfl⟩
      go_wp2_with fail
      refine HAT.out.mono ?_
      rintro e w3 ⟨rfl, rfl⟩
      go_wp2_with fail
      go_ret
      exact HQ
    | true =>
      obtain ⟨j, x, hj, hx⟩ := has_at hh
      have HAT := Lib.hid (at_yes h hg s j x hj hx hl)
      have hjl := (List.getElem?_eq_some_iff.1 hj).1
      have he : errs S s [] = 0 := by unfold errs; rw [hd']; simp [hf, hh]
      have HV : Hid (removeD S s = deedF S { S with fs := S.fs.take j ++ S.fs.drop (j + 1) }) := by show _ = _; rw [HC.out, he, ← hx, del_at hg hj]; rfl
      clear h he HC hg hj hx
      go_enter Try.func30, Try.ntmps30
      go_wp2_with fail
      refine HNM.out.mono ?_
      rintro e w1 ⟨rfl, rfl⟩
      go_wp2_with fail
      refine HNT.out.mono ?_
      rintro e w2 ⟨rfl, rfl⟩
      go_wp2_with fail
      refine HAT.out.mono ?_
      rintro e w3 ⟨rfl, rfl⟩
      go_wp2_with fail
      refine (goes_any H.out hd').mono ?_
      rintro e w4 ⟨hR, hT, hsz⟩
      rcases hR with ⟨ha, rfl, hI⟩ | ⟨ha, rfl, rb, hI⟩
      · have HQ := Lib.hid (RDo.gone ha hI hT.out HV.out)
        clear hI hT hsz
        go_wp2_with fail
        go_ret
        exact HQ
      · have HCT := Lib.hid (cut_any hI j hjl hl)
        clear hI
        go_wp2_with fail
        refine HCT.out.mono ?_
        rintro e w5 ⟨rfl, v', h5, h6, h7⟩
        have HQ := Lib.hid (RDo.done (T := { S with fs := S.fs.take j ++ S.fs.drop (j + 1) }) ha hT.out hsz h5.out h6.out h7.out HV.out)
        clear h5 h6 h7 hT hsz
        go_wp2_with fail
        go_ret
        exact HQ
end
end Go.Proofs.Ytoooainecoappaa
