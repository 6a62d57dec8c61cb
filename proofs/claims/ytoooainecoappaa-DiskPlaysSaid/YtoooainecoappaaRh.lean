/-
  The document's deeds: Rename.
-/
import Derived.Test.YtoooainecoappaaRg
namespace Go.Proofs.Ytoooainecoappaa
open Go.RowKit Go.Maps Go.WideShapes
def renameB (t : ByteArray) (S : Ds) (s : ByteArray) : Ds × Nat := renameD S s t
theorem tot_del (nm : List UInt8) : ∀ l : List Pf, tot (delP nm l) ≤ tot l
  | [] => Nat.le_refl _
  | f :: r => by
    have ih := tot_del nm r
    unfold delP tot at ih ⊢
    rw [List.filter_cons]
    split
    · simp only [List.map_cons, List.sum_cons]; omega
    · simp only [List.map_cons, List.sum_cons]; omega
theorem Good.del {S : Ds} (h : Good S) (nm : List UInt8) : Good { S with fs := delP nm S.fs } :=
  ⟨h.rise.sublist List.filter_sublist, fun f hf => h.kept f (List.mem_filter.1 hf).1, Nat.le_trans (tot_del nm S.fs) h.full, h.room, h.arm⟩
theorem Tur.new {X : List Nat} {a b : World} (h : Tur X a b) (p : Addr) (hp : a.heap.size ≤ p.block) (u : Value) : Tur X a (b.setCell p u) := by
  have k := Tur.setCell (X := [p.block]) b (p := p) (by simp) u
  exact ⟨k.os.trans h.os, k.tape.trans h.tape, k.output.trans h.output, Nat.le_trans h.size k.size, fun j hj hx => (k.block j (by have := h.size; omega) (by simp; omega)).trans (h.block j hj hx)⟩
structure RenMid (r bx : Nat) (w w5 : World) (S : Ds) (v vA : Value) (rb : Int) (x : Pf) : Prop where
  ri : RIn r w5 S vA rb
  tur : Tur (rft r v) w w5
  fre : Fre (rft r v) (rft r vA) w
  box : Has w5 bx 81 (rcA x)
  new : bx ∉ rft r vA
  old : w.heap.size ≤ bx
theorem RenMid.start {r : Nat} {w : World} {S : Ds} {v : Value} {rb : Int} (h : RIn r w S v rb) (x : Pf) : RenMid r w.heap.size w (w.alloc (.cells (rcA x) 81)) S v v rb x :=
  ⟨h.keep (fun b hb => Below.heap_alloc w _ b (h.lt b hb)), Tur.alloc _ _ _, Fre.refl _ _, Has.new _ _ _, fun hb => absurd (h.lt _ hb) (Nat.lt_irrefl _), Nat.le_refl _⟩
theorem RenMid.cut {r bx : Nat} {w w5 w6 : World} {S T : Ds} {v vA vB : Value} {rb : Int} {x : Pf} (h : RenMid r bx w w5 S v vA rb x) (hr : RIn r w6 T vB rb) (ht : Tur (rft r vA) w5 w6) (hf : Fre (rft r vA) (rft r vB) w5) : RenMid r bx w w6 T v vB rb x :=
  ⟨hr, h.tur.trans ht h.fre, h.fre.trans hf h.tur.size, h.box.tur ht h.new, fun hb => (hf bx hb).elim h.new (fun hh => by have := h.box.lt; omega), h.old⟩
theorem RenMid.name {r bx : Nat} {w w5 : World} {S : Ds} {v vA : Value} {rb : Int} {x : Pf} (h : RenMid r bx w w5 S v vA rb x) (nm : List UInt8) : RenMid r bx w (w5.setCell ⟨bx, 0, none⟩ (.string (tx nm))) S v vA rb ⟨nm, x.l, x.k⟩ :=
  ⟨h.ri.keep (fun b hb => Below.heap_setCell _ ⟨bx, 0, none⟩ _ _ (fun e => by have e2 : b = bx := e; rw [e2] at hb; exact h.new hb)), h.tur.new ⟨bx, 0, none⟩ h.old _, h.fre, Has.put h.box 0 _, h.new, h.old⟩
section
variable {r : Nat} {w : World} {S : Ds} {v : Value} {ra : Int}
set_option maxHeartbeats 4000000 in
set_option maxRecDepth 100000 in
theorem rrename_any (h : RIn r w S v ra) (hg : Good S) (hl : S.fs.length ≤ 100000) (s : ByteArray) (hs : s.size ≤ 140737488355328) (t : ByteArray) (ht : t.size ≤ 140737488355328) :
    Calls Try.prog 30 #[.pointer (some ⟨r, 0, none⟩), .int .u8 110, .string s, .string t, .string ⟨#[]⟩] w fun e w' => Hid (RDo r v w (renameB t S s) e w') := by
  have t3 := h.top.cell 3
  have H := Lib.hid h
  have HC : Hid (renameB t S s = if errs S s [t] = 0 then deedF S { S with fs := insP ⟨nmO t, (fileD S s).l, (fileD S s).k⟩ (delP (nmO t) (delP (nmO s) S.fs)) } else (S, errs S s [t])) := rfl
  have HNM := Lib.hid (named_any s w hs)
  have HNT : Hid (Calls Try.prog 60 #[.string t] w fun e w' => e = .returned (.bool (fileF t)) ∧ w' = w) := named_any t w ht
  by_cases hd : S.down = true
  · have he : errs S s [t] = 12 := by unfold errs; rw [if_pos hd]
    have HV : Hid (renameB t S s = (S, 12)) := by show _ = _; rw [HC.out, he]; rfl
    have HQ := Lib.hid (RDo.same H.out HV.out)
    rw [hd] at t3
    clear h he HC HV hg
    go_enter Try.func30, Try.ntmps30
    go_wp2_with fail
    refine HNM.out.mono ?_
    rintro e w1 ⟨rfl, rfl⟩
    go_wp2_with fail
    refine HNT.out.mono ?_
    rintro e w2 ⟨rfl, rfl⟩
    go_wp2_with fail
    go_ret
    exact HQ
  have hd' : S.down = false := by simpa using hd
  rw [hd'] at t3
  cases hf : fileF s with
  | false =>
    have he : errs S s [t] = 6 := by unfold errs; rw [hd']; simp [hf]
    have HV : Hid (renameB t S s = (S, 6)) := by show _ = _; rw [HC.out, he]; rfl
    have HQ := Lib.hid (RDo.same H.out HV.out)
    rw [hf] at HNM
    clear h he HC HV hg
    go_enter Try.func30, Try.ntmps30
    go_wp2_with fail
    refine HNM.out.mono ?_
    rintro e w1 ⟨rfl, rfl⟩
    go_wp2_with fail
    refine HNT.out.mono ?_
    rintro e w2 ⟨rfl, rfl⟩
    go_wp2_with fail
    go_ret
    exact HQ
  | true =>
    rw [hf] at HNM
    by_cases hft : fileF t = false
    · have he : errs S s [t] = 6 := by unfold errs; rw [hd']; simp [hf, hft]
      have HV : Hid (renameB t S s = (S, 6)) := by show _ = _; rw [HC.out, he]; rfl
      have HQ := Lib.hid (RDo.same H.out HV.out)
      rw [hft] at HNT
      clear h he HC HV hg
      go_enter Try.func30, Try.ntmps30
      go_wp2_with fail
      refine HNM.out.mono ?_
      rintro e w1 ⟨rfl, rfl⟩
      go_wp2_with fail
      refine HNT.out.mono ?_
      rintro e w2 ⟨rfl, rfl⟩
      go_wp2_with fail
      go_ret
      exact HQ
    have hft' : fileF t = true := by simpa using hft
    rw [hft'] at HNT
    cases hh : hasP (nmO s) S.fs with
    | false =>
      have HAT := Lib.hid (at_no h s hh hl)
      have he : errs S s [t] = 7 := by unfold errs; rw [hd']; simp [hf, hft', hh]
      have HV : Hid (renameB t S s = (S, 7)) := by show _ = _; rw [HC.out, he]; rfl
      have HQ := Lib.hid (RDo.same H.out HV.out)
      clear h he HC HV hg
      go_enter Try.func30, Try.ntmps30
      go_wp2_with fail
      refine HNM.out.mono ?_
      rintro e w1 ⟨rfl, rfl⟩
      go_wp2_with fail
      refine HNT.out.mono ?_
      rintro e w2 ⟨rfl, rfl⟩
      go_wp2_with fail
      refine HAT.out.mono ?_
      rintro e w3 ⟨rfl, rfl⟩
      go_wp2_with fail
      go_ret
      exact HQ
    | true =>
      obtain ⟨j, x, hj, hx⟩ := has_at hh
      have HAT := Lib.hid (at_yes h hg s j x hj hx hl)
      have hjl := (List.getElem?_eq_some_iff.1 hj).1
      have he : errs S s [t] = 0 := by unfold errs; rw [hd']; simp [hf, hft', hh]
      have HDL : Hid (delP (nmO s) S.fs = S.fs.take j ++ S.fs.drop (j + 1)) := by show _ = _; rw [← hx, del_at hg hj]
      have HV : Hid (renameB t S s = deedF S { S with fs := insP ⟨nmO t, x.l, x.k⟩ (delP (nmO t) (S.fs.take j ++ S.fs.drop (j + 1))) }) := by
        show _ = _
        rw [HC.out, he, if_pos rfl, HDL.out, fileD_at hg hj hx]
      have HJ := Lib.hid hj
      have HG1 : Hid (Good { { S with armed := dec S.armed } with fs := S.fs.take j ++ S.fs.drop (j + 1) }) := by
        have := hg.dec.del (nmO s)
        rw [show ({ S with armed := dec S.armed } : Ds).fs = S.fs from rfl, HDL.out] at this
        exact this
      have HL1 : Hid ((S.fs.take j ++ S.fs.drop (j + 1)).length ≤ 100000) := by show _ ≤ _; rw [List.length_append, List.length_take, List.length_drop]; omega
      have i1 : (j : Int) < (S.fs.length : Int) := by omega
      clear h he HC hg hj hx HDL
      go_enter Try.func30, Try.ntmps30
      go_wp2_with fail
      refine HNM.out.mono ?_
      rintro e w1 ⟨rfl, rfl⟩
      go_wp2_with fail
      refine HNT.out.mono ?_
      rintro e w2 ⟨rfl, rfl⟩
      go_wp2_with fail
      refine HAT.out.mono ?_
      rintro e w3 ⟨rfl, rfl⟩
      go_wp2_with fail
      refine (goes_any H.out hd').mono ?_
      rintro e w4 ⟨hR, hT, hsz⟩
      rcases hR with ⟨ha, rfl, hI⟩ | ⟨ha, rfl, rb, hI⟩
      · have HQ := Lib.hid (RDo.gone ha hI hT.out HV.out)
        clear hI hT hsz
        go_wp2_with fail
        go_ret
        exact HQ
      · have HSZ := Lib.hid hsz
        obtain ⟨A, c, rfl, q1, q2, q3, q4, hrow⟩ := hI.row
        obtain ⟨g, rfl, c0, c1, c2, f0⟩ := hrow j x HJ.out
        have t1 := hI.top.cell 1
        have HM : Hid (RenMid r w4.heap.size w4 (w4.alloc (.cells #[.string (tx x.nm), .string (bs (x.l.take x.k)), .string (bs (x.l.drop x.k))] 81)) { S with armed := dec S.armed } (.slice (some ⟨g, 0, none⟩) S.fs.length c) (.slice (some ⟨g, 0, none⟩) S.fs.length c) rb x) := RenMid.start hI x
        have HCT := Lib.hid (cut_any HM.out.ri j hjl hl)
        clear q1 q2 q3 q4 t3 hI hsz hrow f0 H HAT HJ hl
        generalize tx x.nm = sn at *
        obtain ⟨sa, hsa⟩ : ∃ sa, bs (x.l.take x.k) = sa := ⟨_, rfl⟩
        obtain ⟨sb2, hsb⟩ : ∃ sb2, bs (x.l.drop x.k) = sb2 := ⟨_, rfl⟩
        rw [hsa] at c1 HM HCT
        rw [hsb] at c2 HM HCT
        clear hsa hsb
        obtain ⟨n, hn⟩ : ∃ n, S.fs.length = n := ⟨_, rfl⟩
        rw [show ({ S with armed := dec S.armed } : Ds).fs.length = n from hn] at t1
        rw [hn] at i1 hjl
        clear hn
        go_wp2_with fail
        refine HCT.out.mono ?_
        rintro e w5 ⟨rfl, v5, h5, h6, h7⟩
        have HM5 := Lib.hid (HM.out.cut h5.out h6.out h7.out)
        clear h5 h6 h7 HM HCT t1 c0 c1 c2
        go_wp2_with fail
        cases hh2 : hasP (nmO t) (S.fs.take j ++ S.fs.drop (j + 1)) with
        | false =>
          have HAT2 := Lib.hid (at_no HM5.out.ri t hh2 HL1.out)
          have HE := Lib.hid (delP_none hh2)
          clear hh2
          refine HAT2.out.mono ?_
          rintro e w6 ⟨rfl, rfl⟩
          obtain ⟨v6, hv6⟩ : ∃ v6, v5 = v6 := ⟨_, rfl⟩
          subst hv6
          have b0 := HM5.out.box.free 0
          have z0 : w6.cell? ⟨w4.heap.size, 0, none⟩ = some (.string (tx x.nm)) := HM5.out.box.cell 0
          have HM7 : Hid (RenMid r w4.heap.size w4 (w6.setCell ⟨w4.heap.size, 0, none⟩ (.string t)) { { S with armed := dec S.armed } with fs := S.fs.take j ++ S.fs.drop (j + 1) } (.slice (some ⟨g, 0, none⟩) S.fs.length c) v5 rb ⟨nmO t, x.l, x.k⟩) := HM5.out.name (nmO t)
          have y0 : (w6.setCell ⟨w4.heap.size, 0, none⟩ (.string t)).cell? ⟨w4.heap.size, 0, none⟩ = some (.string t) := HM7.out.box.cell 0
          have y1 : (w6.setCell ⟨w4.heap.size, 0, none⟩ (.string t)).cell? ⟨w4.heap.size, 1, none⟩ = some (.string (bs (x.l.take x.k))) := HM7.out.box.cell 1
          have y2 : (w6.setCell ⟨w4.heap.size, 0, none⟩ (.string t)).cell? ⟨w4.heap.size, 2, none⟩ = some (.string (bs (x.l.drop x.k))) := HM7.out.box.cell 2
          have HPT : Hid (Calls Try.prog 63 #[.pointer (some ⟨r, 0, none⟩), .agg #[.string t, .string (bs (x.l.take x.k)), .string (bs (x.l.drop x.k))]] (w6.setCell ⟨w4.heap.size, 0, none⟩ (.string t)) fun e w' => e = .returned (.tuple #[]) ∧ ∃ v', Hid (RIn r w' { { { S with armed := dec S.armed } with fs := S.fs.take j ++ S.fs.drop (j + 1) } with fs := insP ⟨nmO t, x.l, x.k⟩ (S.fs.take j ++ S.fs.drop (j + 1)) } v' rb) ∧ Hid (Tur (rft r v5) (w6.setCell ⟨w4.heap.size, 0, none⟩ (.string t)) w') ∧ Hid (Fre (rft r v5) (rft r v') (w6.setCell ⟨w4.heap.size, 0, none⟩ (.string t)))) := put_any HM7.out.ri HG1.out ⟨nmO t, x.l, x.k⟩ HL1.out
          generalize bs (x.l.take x.k) = sa at *
          generalize bs (x.l.drop x.k) = sb2 at *
          go_wp2_with fail
          refine HPT.out.mono ?_
          rintro e w8 ⟨rfl, v8, h5, h6, h7⟩
          have HQ := Lib.hid (RDo.done (T := { S with fs := insP ⟨nmO t, x.l, x.k⟩ (delP (nmO t) (S.fs.take j ++ S.fs.drop (j + 1))) }) ha hT.out HSZ.out (by rw [HE.out]; exact h5.out) (HM7.out.tur.trans h6.out HM7.out.fre) (HM7.out.fre.trans h7.out HM7.out.tur.size) HV.out)
          clear h5 h6 h7 HM7 HPT y0 y1 y2 b0 z0
          go_wp2_with fail
          go_ret
          exact HQ
        | true =>
          obtain ⟨k, y, hk, hy⟩ := has_at (S := { { S with armed := dec S.armed } with fs := S.fs.take j ++ S.fs.drop (j + 1) }) hh2
          have HAT2 := Lib.hid (at_yes HM5.out.ri HG1.out t k y hk hy HL1.out)
          have hkl := (List.getElem?_eq_some_iff.1 hk).1
          have HE : Hid (delP (nmO t) (S.fs.take j ++ S.fs.drop (j + 1)) = (S.fs.take j ++ S.fs.drop (j + 1)).take k ++ (S.fs.take j ++ S.fs.drop (j + 1)).drop (k + 1)) := by
            have := del_at HG1.out hk
            rw [hy] at this
            exact this
          have HG2 : Hid (Good { { S with armed := dec S.armed } with fs := (S.fs.take j ++ S.fs.drop (j + 1)).take k ++ (S.fs.take j ++ S.fs.drop (j + 1)).drop (k + 1) }) := by
            have := HG1.out.del (nmO t)
            dsimp only at this
            rw [HE.out] at this
            exact this
          have HL2 : Hid (((S.fs.take j ++ S.fs.drop (j + 1)).take k ++ (S.fs.take j ++ S.fs.drop (j + 1)).drop (k + 1)).length ≤ 100000) := by
            show _ ≤ _
            have := HL1.out
            rw [List.length_append, List.length_take, List.length_drop]
            omega
          have HCT2 := Lib.hid (cut_any HM5.out.ri k hkl HL1.out)
          clear hk hy hh2
          refine HAT2.out.mono ?_
          rintro e w6 ⟨rfl, rfl⟩
          go_wp2_with fail
          refine HCT2.out.mono ?_
          rintro e w7 ⟨rfl, v6, h5, h6, h7⟩
          have HM6 := Lib.hid (HM5.out.cut h5.out h6.out h7.out)
          clear h5 h6 h7 HM5 HCT2
          have b0 := HM6.out.box.free 0
          have z0 : w7.cell? ⟨w4.heap.size, 0, none⟩ = some (.string (tx x.nm)) := HM6.out.box.cell 0
          have HM7 : Hid (RenMid r w4.heap.size w4 (w7.setCell ⟨w4.heap.size, 0, none⟩ (.string t)) { { S with armed := dec S.armed } with fs := (S.fs.take j ++ S.fs.drop (j + 1)).take k ++ (S.fs.take j ++ S.fs.drop (j + 1)).drop (k + 1) } (.slice (some ⟨g, 0, none⟩) S.fs.length c) v6 rb ⟨nmO t, x.l, x.k⟩) := HM6.out.name (nmO t)
          have y0 : (w7.setCell ⟨w4.heap.size, 0, none⟩ (.string t)).cell? ⟨w4.heap.size, 0, none⟩ = some (.string t) := HM7.out.box.cell 0
          have y1 : (w7.setCell ⟨w4.heap.size, 0, none⟩ (.string t)).cell? ⟨w4.heap.size, 1, none⟩ = some (.string (bs (x.l.take x.k))) := HM7.out.box.cell 1
          have y2 : (w7.setCell ⟨w4.heap.size, 0, none⟩ (.string t)).cell? ⟨w4.heap.size, 2, none⟩ = some (.string (bs (x.l.drop x.k))) := HM7.out.box.cell 2
          have HPT : Hid (Calls Try.prog 63 #[.pointer (some ⟨r, 0, none⟩), .agg #[.string t, .string (bs (x.l.take x.k)), .string (bs (x.l.drop x.k))]] (w7.setCell ⟨w4.heap.size, 0, none⟩ (.string t)) fun e w' => e = .returned (.tuple #[]) ∧ ∃ v', Hid (RIn r w' { { { S with armed := dec S.armed } with fs := (S.fs.take j ++ S.fs.drop (j + 1)).take k ++ (S.fs.take j ++ S.fs.drop (j + 1)).drop (k + 1) } with fs := insP ⟨nmO t, x.l, x.k⟩ ((S.fs.take j ++ S.fs.drop (j + 1)).take k ++ (S.fs.take j ++ S.fs.drop (j + 1)).drop (k + 1)) } v' rb) ∧ Hid (Tur (rft r v6) (w7.setCell ⟨w4.heap.size, 0, none⟩ (.string t)) w') ∧ Hid (Fre (rft r v6) (rft r v') (w7.setCell ⟨w4.heap.size, 0, none⟩ (.string t)))) := put_any HM7.out.ri HG2.out ⟨nmO t, x.l, x.k⟩ HL2.out
          generalize bs (x.l.take x.k) = sa at *
          generalize bs (x.l.drop x.k) = sb2 at *
          go_wp2_with fail
          refine HPT.out.mono ?_
          rintro e w8 ⟨rfl, v8, h5, h6, h7⟩
          have HQ := Lib.hid (RDo.done (T := { S with fs := insP ⟨nmO t, x.l, x.k⟩ (delP (nmO t) (S.fs.take j ++ S.fs.drop (j + 1))) }) ha hT.out HSZ.out (by rw [HE.out]; exact h5.out) (HM7.out.tur.trans h6.out HM7.out.fre) (HM7.out.fre.trans h7.out HM7.out.tur.size) HV.out)
          clear h5 h6 h7 HM7 HPT y0 y1 y2 b0 z0
          go_wp2_with fail
          go_ret
          exact HQ
end
end Go.Proofs.Ytoooainecoappaa
