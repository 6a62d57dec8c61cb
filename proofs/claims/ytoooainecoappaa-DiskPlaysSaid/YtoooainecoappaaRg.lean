/-
  The document's deeds: Append.
-/
import Derived.Test.YtoooainecoappaaRe
namespace Go.Proofs.Ytoooainecoappaa
open Go.RowKit Go.Maps Go.WideShapes
def appendB (b : List Nat) (S : Ds) (s : ByteArray) : Ds × Nat := appendD S s b
section
variable {r : Nat} {w : World} {S : Ds} {v : Value} {ra : Int}
set_option maxHeartbeats 4000000 in
set_option maxRecDepth 100000 in
theorem rappend_any (h : RIn r w S v ra) (hg : Good S) (hl : S.fs.length ≤ 100000) (s : ByteArray) (hs : s.size ≤ 140737488355328) (b : List Nat) (hb : b.length ≤ 1000) :
    Calls Try.prog 30 #[.pointer (some ⟨r, 0, none⟩), .int .u8 97, .string s, .string ⟨#[]⟩, .string (bs b)] w fun e w' => Hid (RDo r v w (appendB b S s) e w') := by
  have t3 := h.top.cell 3
  have H := Lib.hid h
  have HC : Hid (appendB b S s = if errs S s [] = 0 then if freeD S < b.length then (S, 11) else deedF (moreD S s b) (moreD S s b) else (S, errs S s [])) := rfl
  have HNM := Lib.hid (named_any s w hs)
  have HNT : Hid (Calls Try.prog 60 #[.string ⟨#[]⟩] w fun e w' => e = .returned (.bool false) ∧ w' = w) := named_any ⟨#[]⟩ w (by decide)
  by_cases hd : S.down = true
  · have he : errs S s [] = 12 := by unfold errs; rw [if_pos hd]
    have HV : Hid (appendB b S s = (S, 12)) := by show _ = _; rw [HC.out, he]; rfl
    have HQ := Lib.hid (RDo.same H.out HV.out)
    rw [hd] at t3
    clear h he HC HV hg
    go_enter Try.func30, Try.ntmps30
    go_wp2_with fail
    refine HNM.out.mono ?_
    rintro e w1 ⟨rfl, rfl⟩
    go_wp2_with fail
    refine HNT.out.mono ?_
    rintro e w2 ⟨rfl, rfl⟩
    go_wp2_with fail
    go_ret
    exact HQ
  have hd' : S.down = false := by simpa using hd
  rw [hd'] at t3
  cases hf : fileF s with
  | false =>
    have he : errs S s [] = 6 := by unfold errs; rw [hd']; simp [hf]
    have HV : Hid (appendB b S s = (S, 6)) := by show _ = _; rw [HC.out, he]; rfl
    have HQ := Lib.hid (RDo.same H.out HV.out)
    rw [hf] at HNM
    clear h he HC HV hg
    go_enter Try.func30, Try.ntmps30
    go_wp2_with fail
    refine HNM.out.mono ?_
    rintro e w1 ⟨rfl, rfl⟩
    go_wp2_with fail
    refine HNT.out.mono ?_
    rintro e w2 ⟨rfl, rfl⟩
    go_wp2_with fail
    go_ret
    exact HQ
  | true =>
    rw [hf] at HNM
    cases hh : hasP (nmO s) S.fs with
    | false =>
      have HAT := Lib.hid (at_no h s hh hl)
      have he : errs S s [] = 7 := by unfold errs; rw [hd']; simp [hf, hh]
      have HV : Hid (appendB b S s = (S, 7)) := by show _ = _; rw [HC.out, he]; rfl
      have HQ := Lib.hid (RDo.same H.out HV.out)
      clear h he HC HV hg
      go_enter Try.func30, Try.ntmps30
      go_wp2_with fail
      refine HNM.out.mono ?_
      rintro e w1 ⟨rfl, rfl⟩
      go_wp2_with fail
      refine HNT.out.mono ?_
      rintro e w2 ⟨rfl, rfl⟩
      go_wp2_with fail
      refine HAT.out.mono ?_
      rintro e w3 ⟨rfl, rfl⟩
      go_wp2_with fail
      go_ret
      exact HQ
    | true =>
      obtain ⟨j, x, hj, hx⟩ := has_at hh
      have HAT := Lib.hid (at_yes h hg s j x hj hx hl)
      have hjl := (List.getElem?_eq_some_iff.1 hj).1
      have he : errs S s [] = 0 := by unfold errs; rw [hd']; simp [hf, hh]
      have hkp := (hg.kept x (List.mem_of_getElem? hj)).1
      have hlx := hg.len (List.mem_of_getElem? hj)
      have hroom := hg.room
      have HFR := Lib.hid (rfree_any H.out hg hl)
      have HM : Hid (moreD S s b = { S with fs := S.fs.set j ⟨x.nm, x.l ++ b, x.k⟩ }) := by
        show _ = _
        unfold moreD
        rw [fileD_at hg hj hx, ← hx, setP_at hg (x' := ⟨x.nm, x.l ++ b, x.k⟩) hj rfl]
      have HCAT : Hid (bs (x.l.drop x.k) ++ bs b = bs ((x.l ++ b).drop x.k)) := by show _ = _; rw [← bs_append, List.drop_append_of_le_length hkp]
      have HTK : Hid ((x.l ++ b).take x.k = x.l.take x.k) := by show _ = _; rw [List.take_append_of_le_length hkp]
      have s2 : (bs (x.l.drop x.k)).size ≤ 1000 := by rw [bs_size, List.length_drop]; omega
      have s3 : (bs b).size = b.length := bs_size b
      have HJ := Lib.hid hj
      have i1 : (j : Int) < (S.fs.length : Int) := by omega
      have hcc : ¬ (9223372036854775807 < (bs (x.l.drop x.k)).size + (bs b).size) := by omega
      by_cases hfull : freeD S < b.length
      · have HV : Hid (appendB b S s = (S, 11)) := by show _ = _; rw [HC.out, he, if_pos rfl, if_pos hfull]
        have h5 : ((freeD S : Nat) : Int) < ((bs b).size : Int) := by omega
        clear h he HC hg hj hx hkp hlx hroom hcc s2 i1 hfull s3
        go_enter Try.func30, Try.ntmps30
        go_wp2_with fail
        refine HNM.out.mono ?_
        rintro e w1 ⟨rfl, rfl⟩
        go_wp2_with fail
        refine HNT.out.mono ?_
        rintro e w2 ⟨rfl, rfl⟩
        go_wp2_with fail
        refine HAT.out.mono ?_
        rintro e w3 ⟨rfl, rfl⟩
        go_wp2_with fail
        refine HFR.out.mono ?_
        rintro e w4 ⟨rfl, hB⟩
        have HQ := Lib.hid (RDo.pre (RDo.same (H.out.keep (fun b hb => hB.out.block b (H.out.lt b hb))) HV.out) (Tur.of_below hB.out))
        clear hB
        go_wp2_with fail
        go_ret
        exact HQ
      · have HV : Hid (appendB b S s = deedF { S with fs := S.fs.set j ⟨x.nm, x.l ++ b, x.k⟩ } { S with fs := S.fs.set j ⟨x.nm, x.l ++ b, x.k⟩ }) := by show _ = _; rw [HC.out, he, if_pos rfl, if_neg hfull, HM.out]
        have h5 : ¬ (((freeD S : Nat) : Int) < ((bs b).size : Int)) := by omega
        clear h he HC hg hj hx hkp hlx hroom s2 hfull s3 HM
        go_enter Try.func30, Try.ntmps30
        go_wp2_with fail
        refine HNM.out.mono ?_
        rintro e w1 ⟨rfl, rfl⟩
        go_wp2_with fail
        refine HNT.out.mono ?_
        rintro e w2 ⟨rfl, rfl⟩
        go_wp2_with fail
        refine HAT.out.mono ?_
        rintro e w3 ⟨rfl, rfl⟩
        go_wp2_with fail
        refine HFR.out.mono ?_
        rintro e w4 ⟨rfl, hB⟩
        have hI := H.out.keep (fun b hb => hB.out.block b (H.out.lt b hb))
        obtain ⟨A, c, rfl, q1, q2, q3, q4, hrow⟩ := hI.row
        obtain ⟨g, rfl, c0, c1, c2, f0⟩ := hrow j x HJ.out
        have t1 := hI.top.cell 1
        have f2 := f0 (j * 3 + 2)
        have hr0 := hI.ne g rfl
        have HI5 : Hid (RIn r (w4.setCell ⟨g, j * 3 + 2, none⟩ (.string (bs ((x.l ++ b).drop x.k)))).drew { S with fs := S.fs.set j ⟨x.nm, x.l ++ b, x.k⟩ } (.slice (some ⟨g, 0, none⟩) S.fs.length c) ra) :=
          hI.sets (by rw [← rcs_set2 S.fs j x ⟨x.nm, x.l ++ b, x.k⟩ HJ.out rfl HTK.out]; exact row_set hI.own (g := g) rfl (j * 3 + 2) (.string (bs ((x.l ++ b).drop x.k)))) (by rw [List.length_set]) (Below.heap_setCell _ ⟨g, j * 3 + 2, none⟩ _ _ (fun e => hr0 e.symm))
        have HT5 : Hid (Tur (rft r (.slice (some ⟨g, 0, none⟩) S.fs.length c)) w3 (w4.setCell ⟨g, j * 3 + 2, none⟩ (.string (bs ((x.l ++ b).drop x.k)))).drew) :=
          ((Tur.of_below hB.out).trans (Tur.setCell w4 (p := ⟨g, j * 3 + 2, none⟩) (rft_iff.2 (.inr rfl)) _) (Fre.refl _ _)).trans (Tur.drew _ _) (Fre.refl _ _)
        have hcat := HCAT.out
        have HGO : Hid (Calls Try.prog 62 #[.pointer (some ⟨r, 0, none⟩)] (w4.setCell ⟨g, j * 3 + 2, none⟩ (.string (bs ((x.l ++ b).drop x.k)))).drew fun e w' => GoesR r { S with fs := S.fs.set j ⟨x.nm, x.l ++ b, x.k⟩ } (.slice (some ⟨g, 0, none⟩) S.fs.length c) e w' ∧ Hid (Tur [r] (w4.setCell ⟨g, j * 3 + 2, none⟩ (.string (bs ((x.l ++ b).drop x.k)))).drew w') ∧ w'.heap.size = (w4.setCell ⟨g, j * 3 + 2, none⟩ (.string (bs ((x.l ++ b).drop x.k)))).drew.heap.size) := goes_any HI5.out hd'
        clear q1 q2 q3 q4 t3 hI hB hrow f0 c0 c1 H HAT HCAT HFR HTK HJ
        generalize bs (x.l.drop x.k) = sa at *
        obtain ⟨n, hn⟩ : ∃ n, S.fs.length = n := ⟨_, rfl⟩
        rw [hn] at t1 i1 hjl hl
        clear hn
        go_wp2_with fail
        go_still_tail 17, (by kernel_rfl)
        change wpList _ _ _ _ _ w4.drew
        go_wp2_with fail
        refine HGO.out.mono ?_
        rintro e w6 ⟨hR, hT, hsz⟩
        clear t1 f2 c2
        rcases hR with ⟨ha, rfl, hI⟩ | ⟨ha, rfl, rb, hI⟩
        · have HQ := Lib.hid (RDo.pre (RDo.gone ha hI hT.out HV.out) HT5.out)
          clear hI hT hsz HGO HI5 HT5
          go_wp2_with fail
          go_ret
          exact HQ
        · have HQ := Lib.hid (RDo.pre (RDo.done ha hT.out hsz hI (Tur.refl _ _) (Fre.refl _ _) HV.out) HT5.out)
          clear hI hT hsz HGO HI5 HT5
          go_wp2_with fail
          go_ret
          exact HQ
end
end Go.Proofs.Ytoooainecoappaa
