/-
  The program's Free: the room, less all bytes.
-/
import Derived.Test.YtoooainecoappaaDkP
namespace Go.Proofs.Ytoooainecoappaa
open Go.RowKit Go.Maps Go.WideShapes Go.WideMaps
/-- The bytes of those files that are no longer to come. -/
def seen (left : Lit → Bool) (gs : List Fl) : Nat := (gs.map fun f => if left (.string f.nm) then 0 else f.l.length).sum
theorem seen_start (gs : List Fl) : seen (Maps.has (.map (gs.map ent))) gs = 0 := by
  unfold seen
  have e : gs.map (fun f => if Maps.has (.map (gs.map ent)) (.string f.nm) then 0 else f.l.length) = gs.map fun _ => 0 := by
    refine List.map_congr_left fun f hf => ?_
    rw [has_ent, if_pos (List.any_eq_true.2 ⟨f, hf, by simp⟩)]
  rw [e]
  clear e
  induction gs with
  | nil => rfl
  | cons _ _ ih => rw [List.map_cons, List.sum_cons, ih]
theorem seen_end {left : Lit → Bool} (h : ∀ kl, left kl = false) (gs : List Fl) : seen left gs = tot (gs.map Fl.pf) := by
  unfold seen tot
  rw [List.map_map]
  congr 1
  refine List.map_congr_left fun f _ => ?_
  rw [h]; rfl
theorem seen_step {left : Lit → Bool} {gs : List Fl} (hr : Rise gs) {f : Fl} (hf : f ∈ gs) (hl : left (.string f.nm) = true) :
    seen (fun z => left z && !z.sameKey (.string f.nm)) gs = seen left gs + f.l.length := by
  have hp := rise_perm hr f hf
  have s1 : ∀ left' : Lit → Bool, seen left' gs = seen left' (f :: delF f.nm gs) := fun left' => by
    unfold seen
    exact (hp.map _).sum_nat
  rw [s1, s1 left]
  unfold seen
  rw [List.map_cons, List.sum_cons, List.map_cons, List.sum_cons, if_pos hl]
  show (if (left (.string f.nm) && !(Lit.string f.nm).sameKey (.string f.nm)) = true then 0 else f.l.length) + ((delF f.nm gs).map (fun g => if (left (.string g.nm) && !(Lit.string g.nm).sameKey (.string f.nm)) = true then 0 else g.l.length)).sum = _
  have e1 : (Lit.string f.nm).sameKey (.string f.nm) = true := by simp [Lit.sameKey]
  rw [e1]
  have e2 : (delF f.nm gs).map (fun g => if (left (.string g.nm) && !(Lit.string g.nm).sameKey (.string f.nm)) = true then 0 else g.l.length) = (delF f.nm gs).map (fun g => if left (.string g.nm) = true then 0 else g.l.length) := by
    refine List.map_congr_left fun g hg => ?_
    have hne := (delF_mem.1 hg).2
    have e3 : (Lit.string g.nm).sameKey (.string f.nm) = false := by simpa [Lit.sameKey] using hne
    rw [e3]; simp
  rw [e2]
  simp
  omega
theorem seen_le {left : Lit → Bool} : ∀ gs : List Fl, seen left gs ≤ tot (gs.map Fl.pf)
  | [] => Nat.le_refl _
  | f :: r => by
    have := seen_le (left := left) r
    unfold seen at this ⊢
    rw [List.map_cons, List.map_cons, List.sum_cons, tot_cons]
    show _ ≤ f.l.length + _
    split <;> omega
theorem ptrR_shape {v : Value} {y : DataW Unit × List MemPlace} (h : ptrR v = some y) : ∃ o : Option Nat, v = .pointer (o.map fun b => ⟨b, 0, none⟩) := by
  rcases ptrR_inv h with ⟨rfl, _⟩ | ⟨b, rfl, _⟩
  · exact ⟨none, rfl⟩
  · exact ⟨some b, rfl⟩
def freeD (S : Ds) : Nat := S.room - tot S.fs
set_option maxHeartbeats 2000000 in
set_option maxRecDepth 100000 in
theorem free_any (B d : Nat) (w : World) (S : Ds) (X : List Nat) (h : DAt B d w S X) :
    Calls Try.prog 43 #[.pointer (some ⟨d, 0, none⟩)] w fun e w' => e = .returned (.int .i64 (freeD S)) ∧ Hid (Below w.heap.size w w') := by
  obtain ⟨m, gs, rfl, h0⟩ := h
  have d0 := h0.top.cell 0
  have d1 := h0.top.cell 1
  have H := Lib.hid h0
  have hfull := h0.full
  have hroom := h0.room
  clear h0
  go_enter Try.func43, Try.ntmps43
  go_wp2_with (first
    | (at_range; refine wpList_range_own _ rfl _ 62 rfl 9 94 strK Try.underlying62 ptrR m _ _ rfl H.out.map ?_; intro w0 hrg0 hg0 hs0)
    | fail)
  go_frame
  go_loopw [3] (fun v wr => ∃ (left : Lit → Bool) (cnt q : Nat), v = .int .i64 q ∧ Hid (q + seen left gs = S.room) ∧ wr.ranges Try.prog 9 ptrR m w.heap.size gs.length (.map (gs.map ent)) left cnt ∧ Hid (Below w.heap.size w wr))
    (fun _ wr => wr.rangeLeft m w.heap.size)
  case atStart =>
    exact ⟨_, _, S.room, rfl, by show _ = _; rw [seen_start]; rfl, hrg0, (Below.refl _ _).grown hg0 (Nat.le_refl _) (fun j hj => by cases hj)⟩
  case round =>
    obtain ⟨left, cnt, q, rfl, HQ, hrg, HB⟩ := hrel
    have HL := Lib.hid (seen_le (left := left) gs)
    go_wp2_with (first
      | (at_next; refine wpList_next_ranges (α := List UInt8) (β := Option Nat) _ rfl _ rfl 9 strK ptrR encStr (fun o => .pointer (o.map fun b => ⟨b, 0, none⟩)) (fun key kl hk => by obtain ⟨x, hx, _⟩ := Maps.keyOf_str Try.underlying9 hk; exact ⟨x, hx⟩) (fun v y hv => ptrR_shape hv) m w.heap.size _ _ _ _ rfl hrg ?_ ?_)
      | fail)
    · intro hc0 hl0
      have HE := Lib.hid (seen_end hl0 gs)
      have hq : q = freeD S := by
        have h1 := HQ.out; have h2 := HE.out
        rw [H.out.fs] at h2
        unfold freeD; omega
      subst hq
      go_wp2_with fail
      go_ret
      exact ⟨rfl, HB⟩
    · intro x c kl yd yp w1 cnt1 hkx hlx hy hat hrg1 hlt hg1 hs1 hen
      obtain ⟨x', ex, rfl, _⟩ := Maps.keyOf_str Try.underlying9 hkx
      obtain rfl := encStr_inj ex
      obtain ⟨f, hf, hfn, hyf⟩ : ∃ f ∈ gs, f.nm = x ∧ yd = .lit (.int .i64 f.blk) := by
        have h1 := hat .nil
        have h2 := hat (.lit (.bool true))
        rw [at_ent] at h1 h2
        cases hc : gs.find? (fun f => f.nm == x) with
        | none => rw [hc] at h1 h2; rw [← h1] at h2; cases h2
        | some f =>
          rw [hc] at h1
          exact ⟨f, List.mem_of_find?_eq_some hc, by simpa using List.find?_some hc, h1.symm⟩
      subst hfn
      have hcb : c = some f.blk := by
        have hy2 : ptrR (.pointer (c.map fun b => ⟨b, 0, none⟩)) = some (.lit (.int .i64 f.blk), yp) := by rw [← hyf]; exact hy
        have := ptrR_at hy2
        cases c with
        | none => cases this
        | some b => simpa using this
      subst hcb
      have HB1 := Lib.hid (HB.out.grown hg1 HB.out.size (fun j hj => by cases hj; exact Nat.le_refl _))
      have hfa := H.out.files f hf
      obtain ⟨A, cc, hv, _, _, _, _, _⟩ := own_full hfa.own
      have f0 : w1.cell? ⟨f.blk, 0, none⟩ = some (.slice A f.l.length cc) := (HB1.out.cell (p := ⟨f.blk, 0, none⟩) hfa.top.lt).trans ((hfa.top.cell 0).trans (by rw [hv]; rfl))
      have HS := Lib.hid (seen_step H.out.rise hf hlx)
      have HL2 := Lib.hid (seen_le (left := fun z => left z && !z.sameKey (.string f.nm)) gs)
      have hb1 : (0 : Int) ≤ (q : Int) - (f.l.length : Int) := by
        have h1 := HQ.out; have h2 := HS.out; have h3 := HL2.out
        rw [H.out.fs] at h3
        omega
      have hb2 : (q : Int) - (f.l.length : Int) ≤ 1000 := by have h1 := HQ.out; omega
      clear hfa hv hat hkx hy hyf
      go_wp2_with fail
      go_roundw
      case rel =>
        exact ⟨_, cnt1, q - f.l.length, by go_num, by show _ = _; rw [HS.out]; have h1 := HQ.out; omega, hrg1, HB1⟩
      case measure => rw [hrg1.left_eq, hrg.left_eq]; exact hlt
end Go.Proofs.Ytoooainecoappaa
