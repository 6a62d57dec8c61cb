/-
  The document's deeds: Sync and Append.
-/
import Derived.Test.YtoooainecoappaaRd
import Derived.StillTailTactics
namespace Go.Proofs.Ytoooainecoappaa
open Go.RowKit Go.Maps Go.WideShapes
theorem row_set {w : World} {e : TypeId} {size n : Nat} {v : Value} {xs : List Value} (h : w.ownsRow 0 e size v n xs) {g : Nat} (hv : v.ownBlock = some g) (p : Nat) (u : Value) : (w.setCell ⟨g, p, none⟩ u).ownsRow 0 e size v n (xs.set p u) := by
  refine ⟨by rw [List.length_set]; exact h.1, ?_⟩
  rcases h.2 with ⟨rfl, _⟩ | ⟨g', cap, cur, rfl, h1, h2, h3, h4, h5, h6⟩
  · simp [Value.ownBlock] at hv
  · simp [Value.ownBlock] at hv
    subst hv
    exact .inr ⟨g', cap, cur.setIfInBounds p u, rfl, h1, Has.put (t := e) (cs := cur) h2 p u, h3, h4, by simpa using h5, by rw [Array.toList_setIfInBounds, List.take_set, h6]⟩
theorem rcs_set : ∀ (l : List Pf) (j : Nat) (x x' : Pf), l[j]? = some x → x'.nm = x.nm → ((rcs l).set (j * 3 + 1) (.string (bs (x'.l.take x'.k)))).set (j * 3 + 2) (.string (bs (x'.l.drop x'.k))) = rcs (l.set j x')
  | [], j, x, x', h, _ => by simp at h
  | y :: r, 0, x, x', h, hn => by
    have e : y = x := by simpa using h
    subst e
    show _ = rc x' ++ rcs r
    show ((rc y ++ rcs r).set 1 _).set 2 _ = _
    unfold rc
    rw [hn]
    rfl
  | y :: r, j + 1, x, x', h, hn => by
    have ih := rcs_set r j x x' (by simpa using h) hn
    show ((rc y ++ rcs r).set ((j + 1) * 3 + 1) _).set ((j + 1) * 3 + 2) _ = rc y ++ rcs (r.set j x')
    rw [← ih]
    have e1 : (j + 1) * 3 + 1 = (j * 3 + 1) + 1 + 1 + 1 := by omega
    have e2 : (j + 1) * 3 + 2 = (j * 3 + 2) + 1 + 1 + 1 := by omega
    rw [e1, e2]
    rfl
theorem rcs_set2 (l : List Pf) (j : Nat) (x x' : Pf) (h : l[j]? = some x) (hn : x'.nm = x.nm) (hk : x'.l.take x'.k = x.l.take x.k) : (rcs l).set (j * 3 + 2) (.string (bs (x'.l.drop x'.k))) = rcs (l.set j x') := by
  rw [← rcs_set l j x x' h hn, hk]
  congr 1
  have h1 := rcs_get l j x 1 h (by omega)
  have h2 : (rcs l)[j * 3 + 1]? = some (.string (bs (x.l.take x.k))) := h1
  obtain ⟨hl, e⟩ := List.getElem?_eq_some_iff.1 h2
  rw [← e, List.set_getElem_self]
theorem setP_at {S : Ds} (hg : Good S) {j : Nat} {x x' : Pf} (hj : S.fs[j]? = some x) (hn : x'.nm = x.nm) : setP x' S.fs = S.fs.set j x' := by
  apply List.ext_getElem?
  intro i
  unfold setP
  rw [List.getElem?_map, List.getElem?_set]
  have hjl : j < S.fs.length := (List.getElem?_eq_some_iff.1 hj).1
  by_cases e : j = i
  · subst e
    rw [if_pos rfl, if_pos hjl, hj]
    simp [hn]
  · rw [if_neg e]
    cases hi : S.fs[i]? with
    | none => rfl
    | some y =>
      have hne : y.nm ≠ x'.nm := fun e2 => e (hg.one hj hi (by rw [e2, hn]))
      simp [hne]
theorem RDo.pre {r : Nat} {v : Value} {w w2 w' : World} {R : Ds × Nat} {e : Ending} (h : RDo r v w2 R e w') (ht : Tur (rft r v) w w2) : RDo r v w R e w' := by
  obtain ⟨k, he, hk, v', rb, h1, h2, h3⟩ := h
  exact ⟨k, he, hk, v', rb, h1, ht.trans h2 (Fre.refl _ _), h3.old ht.size⟩
section
variable {r : Nat} {w : World} {S : Ds} {v : Value} {ra : Int}
theorem RIn.sets {w' : World} (h : RIn r w S v ra) {fs' : List Pf} (hr : w'.ownsRow 0 81 3 v S.fs.length (rcs fs')) (hl : fs'.length = S.fs.length) (ht : w'.heap[r]? = w.heap[r]?) : RIn r w' { S with fs := fs' } v ra :=
  ⟨ht.trans h.top, by rw [hl]; exact hr, h.arm, h.rng, h.ne⟩
set_option maxHeartbeats 4000000 in
set_option maxRecDepth 100000 in
theorem rsync_any (h : RIn r w S v ra) (hg : Good S) (hl : S.fs.length ≤ 100000) (s : ByteArray) (hs : s.size ≤ 140737488355328) :
    Calls Try.prog 30 #[.pointer (some ⟨r, 0, none⟩), .int .u8 115, .string s, .string ⟨#[]⟩, .string ⟨#[]⟩] w fun e w' => Hid (RDo r v w (syncD S s) e w') := by
  have t3 := h.top.cell 3
  have H := Lib.hid h
  have HC : Hid (syncD S s = if errs S s [] = 0 then deedF S { S with fs := setP ⟨nmO s, (fileD S s).l, (fileD S s).l.length⟩ S.fs } else (S, errs S s [])) := rfl
  have HNM := Lib.hid (named_any s w hs)
  have HNT : Hid (Calls Try.prog 60 #[.string ⟨#[]⟩] w fun e w' => e = .returned (.bool false) ∧ w' = w) := named_any ⟨#[]⟩ w (by decide)
  by_cases hd : S.down = true
  · have he : errs S s [] = 12 := by unfold errs; rw [if_pos hd]
    have HV : Hid (syncD S s = (S, 12)) := by show _ = _; rw [HC.out, he]; rfl
    have HQ := Lib.hid (RDo.same H.out HV.out)
    rw [hd] at t3
    clear h he HC HV hg
    go_enter Try.func30, Try.ntmps30
    go_wp2_with fail
    refine HNM.out.mono ?_
    rintro e w1 ⟨rfl, rfl⟩
    go_wp2_with fail
    refine HNT.out.mono ?_
    rintro e w2 ⟨rfl, rfl⟩
    go_wp2_with fail
    go_ret
    exact HQ
  have hd' : S.down = false := by simpa using hd
  rw [hd'] at t3
  cases hf : fileF s with
  | false =>
    have he : errs S s [] = 6 := by unfold errs; rw [hd']; simp [hf]
    have HV : Hid (syncD S s = (S, 6)) := by show _ = _; rw [HC.out, he]; rfl
    have HQ := Lib.hid (RDo.same H.out HV.out)
    rw [hf] at HNM
    clear h he HC HV hg
    go_enter Try.func30, Try.ntmps30
    go_wp2_with fail
    refine HNM.out.mono ?_
    rintro e w1 ⟨rfl, rfl⟩
    go_wp2_with fail
    refine HNT.out.mono ?_
    rintro e w2 ⟨rfl, rfl⟩
    go_wp2_with fail
    go_ret
    exact HQ
  | true =>
    rw [hf] at HNM
    cases hh : hasP (nmO s) S.fs with
    | false =>
      have HAT := Lib.hid (at_no h s hh hl)
      have he : errs S s [] = 7 := by unfold errs; rw [hd']; simp [hf, hh]
      have HV : Hid (syncD S s = (S, 7)) := by show _ = _; rw [HC.out, he]; rfl
      have HQ := Lib.hid (RDo.same H.out HV.out)
      clear h he HC HV hg
      go_enter Try.func30, Try.ntmps30
      go_wp2_with fail
      refine HNM.out.mono ?_
      rintro e w1 ⟨rfl, rfl⟩
      go_wp2_with fail
      refine HNT.out.mono ?_
      rintro e w2 ⟨rfl, rfl⟩
      go_wp2_with fail
      refine HAT.out.mono ?_
      rintro e w3 ⟨rfl, rfl⟩
      go_wp2_with fail
      go_ret
      exact HQ
    | true =>
      obtain ⟨j, x, hj, hx⟩ := has_at hh
      have HAT := Lib.hid (at_yes h hg s j x hj hx hl)
      have hjl := (List.getElem?_eq_some_iff.1 hj).1
      have he : errs S s [] = 0 := by unfold errs; rw [hd']; simp [hf, hh]
      have hkp := (hg.kept x (List.mem_of_getElem? hj)).1
      have hlx := hg.len (List.mem_of_getElem? hj)
      have hroom := hg.room
      have HV : Hid (syncD S s = deedF S { S with fs := S.fs.set j ⟨x.nm, x.l, x.l.length⟩ }) := by
        show _ = _
        rw [HC.out, he, fileD_at hg hj hx, ← hx, setP_at hg (x' := ⟨x.nm, x.l, x.l.length⟩) hj rfl]; rfl
      have HCAT : Hid (bs (x.l.take x.k) ++ bs (x.l.drop x.k) = bs x.l) := by show _ = _; rw [← bs_append, List.take_append_drop]
      have s1 : (bs (x.l.take x.k)).size ≤ 1000 := by rw [bs_size, List.length_take]; omega
      have s2 : (bs (x.l.drop x.k)).size ≤ 1000 := by rw [bs_size, List.length_drop]; omega
      have HJ := Lib.hid hj
      have i1 : (j : Int) < (S.fs.length : Int) := by omega
      have hcc : ¬ (9223372036854775807 < (bs (x.l.take x.k)).size + (bs (x.l.drop x.k)).size) := by omega
      clear h he HC hg hj hx hkp hlx hroom
      go_enter Try.func30, Try.ntmps30
      go_wp2_with fail
      refine HNM.out.mono ?_
      rintro e w1 ⟨rfl, rfl⟩
      go_wp2_with fail
      refine HNT.out.mono ?_
      rintro e w2 ⟨rfl, rfl⟩
      go_wp2_with fail
      refine HAT.out.mono ?_
      rintro e w3 ⟨rfl, rfl⟩
      go_wp2_with fail
      refine (goes_any H.out hd').mono ?_
      rintro e w4 ⟨hR, hT, hsz⟩
      rcases hR with ⟨ha, rfl, hI⟩ | ⟨ha, rfl, rb, hI⟩
      · have HQ := Lib.hid (RDo.gone ha hI hT.out HV.out)
        clear hI hT hsz
        go_wp2_with fail
        go_ret
        exact HQ
      · obtain ⟨A, c, rfl, q1, q2, q3, q4, hrow⟩ := hI.row
        obtain ⟨g, rfl, c0, c1, c2, f0⟩ := hrow j x HJ.out
        have t1 := hI.top.cell 1
        have f1 := f0 (j * 3 + 1)
        have f2 := f0 (j * 3 + 2)
        have hr0 := hI.ne g rfl
        have hx2 : ((rcs S.fs).set (j * 3 + 1) (.string (bs x.l))).set (j * 3 + 2) (.string ⟨#[]⟩) = rcs (S.fs.set j ⟨x.nm, x.l, x.l.length⟩) := by
          have := rcs_set S.fs j x ⟨x.nm, x.l, x.l.length⟩ HJ.out rfl
          rw [← this]
          show _ = ((rcs S.fs).set (j * 3 + 1) (.string (bs (x.l.take x.l.length)))).set (j * 3 + 2) (.string (bs (x.l.drop x.l.length)))
          rw [List.take_length, List.drop_length]
          rfl
        have HI2 : Hid (RIn r (((w4.setCell ⟨g, j * 3 + 1, none⟩ (.string (bs x.l))).setCell ⟨g, j * 3 + 2, none⟩ (.string ⟨#[]⟩)).drew) { { S with armed := dec S.armed } with fs := S.fs.set j ⟨x.nm, x.l, x.l.length⟩ } (.slice (some ⟨g, 0, none⟩) S.fs.length c) rb) :=
          hI.sets (by rw [← hx2]; exact row_set (row_set hI.own (g := g) rfl (j * 3 + 1) (.string (bs x.l))) (g := g) rfl (j * 3 + 2) (.string ⟨#[]⟩)) (by rw [List.length_set]) ((Below.heap_setCell _ ⟨g, j * 3 + 2, none⟩ _ _ (fun e => hr0 e.symm)).trans (Below.heap_setCell _ ⟨g, j * 3 + 1, none⟩ _ _ (fun e => hr0 e.symm)))
        have HT2 : Hid (Tur (rft r (.slice (some ⟨g, 0, none⟩) S.fs.length c)) w4 (((w4.setCell ⟨g, j * 3 + 1, none⟩ (.string (bs x.l))).setCell ⟨g, j * 3 + 2, none⟩ (.string ⟨#[]⟩)).drew)) :=
          ((Tur.setCell w4 (p := ⟨g, j * 3 + 1, none⟩) (rft_iff.2 (.inr rfl)) _).trans (Tur.setCell _ (p := ⟨g, j * 3 + 2, none⟩) (rft_iff.2 (.inr rfl)) _) (Fre.refl _ _)).trans (Tur.drew _ _) (Fre.refl _ _)
        have HQ := Lib.hid (RDo.done (T := { S with fs := S.fs.set j ⟨x.nm, x.l, x.l.length⟩ }) ha hT.out hsz HI2.out HT2.out (Fre.refl _ _) HV.out)
        have hcat := HCAT.out
        clear q1 q2 q3 q4 t3 ha hI hT hsz hrow f0 c0 hx2 HI2 HT2 HV H HAT HCAT
        obtain ⟨n, hn⟩ : ∃ n, S.fs.length = n := ⟨_, rfl⟩
        rw [hn] at t1 i1 hjl hl
        generalize bs (x.l.take x.k) = sa at *
        generalize bs (x.l.drop x.k) = sb2 at *
        clear hn
        go_wp2_with fail
        go_still_tail 24, (by kernel_rfl)
        change wpList _ _ _ _ _ w4.drew
        go_wp2_with fail
        go_ret
        exact HQ
end
end Go.Proofs.Ytoooainecoappaa
