/-
  The program's Append: bytes behind a file's, loose, or what is told against it.
-/
import Derived.Test.YtoooainecoappaaDkPf
import Derived.Test.YtoooainecoappaaDkPs
namespace Go.Proofs.Ytoooainecoappaa
open Go.RowKit Go.Maps Go.WideShapes Go.WideMaps
def moreD (S : Ds) (s : ByteArray) (b : List Nat) : Ds := { S with fs := setP ⟨nmO s, (fileD S s).l ++ b, (fileD S s).k⟩ S.fs }
def appendD (S : Ds) (s : ByteArray) (b : List Nat) : Ds × Nat := if errs S s [] = 0 then if freeD S < b.length then (S, 11) else deedF (moreD S s b) (moreD S s b) else (S, errs S s [])
theorem Rd.block {w w' : World} {A : Option Addr} {l : List Nat} (h : Rd w A l) (hb : Below w.heap.size w w') : Rd w' A l := h.below hb
set_option maxRecDepth 100000 in
/-- A file with more bytes. -/
theorem more_run {B d : Nat} {w : World} {S : Ds} {m : Nat} {gs : List Fl} (h : DIn B d w S m gs) (hB : B ≤ w.heap.size) {f : Fl} (hf : f ∈ gs) (A : Option Addr) (b : List Nat) (k c : Nat) (hk : b.length = k) (hm : Rd w A b) (hA : A = none → c = 0) (hb : ∀ x ∈ b, x < 256) (hfree : tot S.fs + k ≤ S.room) :
    ∃ AR nR cR W', (Builtin.append_ #[28, 28] 28 #[f.v, .slice A k c]).run Try.prog w = .ok (.slice AR nR cR) W' ∧ Has W' f.blk 99 #[f.v, .int .i64 f.k] ∧
      DIn B d (W'.setCell ⟨f.blk, 0, none⟩ (.slice AR nR cR)) { S with fs := setP ⟨f.nm, f.l ++ b, f.k⟩ S.fs } m (setF { f with v := .slice AR nR cR, l := f.l ++ b } gs) ∧
      Tur (foot d m gs) w (W'.setCell ⟨f.blk, 0, none⟩ (.slice AR nR cR)) ∧ Fre (foot d m gs) (foot d m (setF { f with v := .slice AR nR cR, l := f.l ++ b } gs)) w := by
  have hfa := h.files f hf
  have hroom := h.room
  have hfull := tot_get h hf
  obtain ⟨R, W', hrun, hown, hg, ho⟩ := own_app w f.v f.l hfa.own A b k c hk hm (by omega) hA
  have hne : ∀ g, f.v.ownBlock = some g → g ≠ f.blk := by
    intro g hg e
    have hn := h.flat
    rw [(flat_perm (rise_perm h.rise f hf)).nodup_iff, List.flatMap_cons] at hn
    have := (List.nodup_append.1 hn).1
    unfold Fl.bs at this
    rw [hg, e] at this
    simp at this
  have hbl := h.lt f.blk (foot_mem hf (blk_mem f))
  have hRne : ∀ g, R.ownBlock = some g → g ≠ f.blk := by
    intro g hg
    rcases ho with ho | ho
    · exact hne g (ho ▸ hg)
    · rw [ho] at hg; injection hg with hg; omega
  have htop : Has W' f.blk 99 #[f.v, .int .i64 f.k] := (hg.block f.blk hbl fun e => hne f.blk e.symm rfl).trans hfa.top
  let x : Fl := { f with v := R, l := f.l ++ b }
  have hx : FAt (W'.setCell ⟨f.blk, 0, none⟩ R) x := ⟨htop.put 0 R, hown.keep fun g hg => Below.heap_setCell W' ⟨f.blk, 0, none⟩ _ _ (hRne g hg),
    (by have := hfa.kept; show f.k ≤ (f.l ++ b).length; rw [List.length_append]; omega), fun y hy => (List.mem_append.1 hy).elim (hfa.byte y) (hb y)⟩
  have hT : Tur (foot d m gs) w (W'.setCell ⟨f.blk, 0, none⟩ R) := (Tur.grown hg fun k hk => foot_mem hf (own_mem f hk)).trans (Tur.setCell W' (p := ⟨f.blk, 0, none⟩) (foot_mem hf (blk_mem f)) R) (Fre.refl _ _)
  have htot := tot_set h (x := x) hf rfl
  obtain ⟨hD, hF⟩ := h.sets (w' := W'.setCell ⟨f.blk, 0, none⟩ R) hf (x := x) rfl rfl (by rcases ho with ho | ho; exact .inl ho; exact .inr (.inr ⟨_, ho, Nat.le_refl _⟩)) hx
    (fun b hb1 hb2 => (Below.heap_setCell W' ⟨f.blk, 0, none⟩ R _ fun e => hb2 (by rw [show b = f.blk from e]; exact blk_mem f)).trans (hg.block b (h.lt b hb1) fun e => hb2 (own_mem f e.symm))) hB
    (by have e1 : x.l.length = f.l.length + b.length := List.length_append; omega)
  obtain ⟨AR, cR, hRv, _⟩ := own_full hown
  subst hRv
  exact ⟨AR, _, cR, W', hrun, htop, hD, hT, hF⟩
set_option maxHeartbeats 2000000 in
set_option maxRecDepth 100000 in
theorem append1_any (w : World) : Calls Try.prog 65 #[] w fun e w' => e = .returned (.tuple #[]) ∧ w' = w := by
  go_enter Try.func65, Try.ntmps65
  go_wp2_with fail
  go_end0
  exact ⟨rfl, rfl⟩
set_option maxHeartbeats 2000000 in
set_option maxRecDepth 100000 in
theorem append_any (B d : Nat) (w : World) (S : Ds) (X : List Nat) (h : DAt B d w S X) (hB : B ≤ w.heap.size) (s : ByteArray) (hs : s.size ≤ 140737488355328) (A : Option Addr) (b : List Nat) (n c : Nat) (hn : b.length = n) (hm : Rd w A b) (hA : A = none → c = 0) (hb : ∀ x ∈ b, x < 256) :
    Calls Try.prog 31 #[.pointer (some ⟨d, 0, none⟩), .string s, .slice A n c] w fun e w' => ∃ k : Nat, e = .returned (.int .i64 k) ∧ Hid (k = (appendD S s b).2) ∧ Hid (Out B d X w (appendD S s b).1 w') := by
  obtain ⟨m, gs, rfl, h0⟩ := h
  have H := Lib.hid h0
  have HN := Lib.hid hn
  have HM := Lib.hid hm
  have b3 : Below w.heap.size w (w.alloc (.cells #[.string s] 9)) := (Below.refl _ _).alloc (Nat.le_refl _) _
  have h3 := Has.new w 9 #[.string s]
  have HB3 := Lib.hid b3
  have H3 := Lib.hid h3
  have hroom := h0.room
  clear b3 h3 h0 hm hn
  have HF := Lib.hid (find_any B d _ S m gs (H.out.below HB3.out) w.heap.size s [] 1 rfl (by omega) (by simpa using hs) (fun i hi => by
    have hi0 : i = 0 := by simpa using hi
    subst hi0
    exact H3.out.cell 0))
  have HC : Hid ((appendD S s b) = if errs S s [] = 0 then if freeD S < b.length then (S, 11) else deedF (moreD S s b) (moreD S s b) else (S, errs S s [])) := rfl
  go_enter Try.func31, Try.ntmps31
  go_wp2_with fail
  refine HF.out.mono ?_
  rintro e w4 ⟨p, rfl, hb4, hr⟩
  have HB4 := Lib.hid (HB3.out.trans (hb4.out.mono HB3.out.size))
  have hw4 := HB4.out.size
  clear HF H3 HB3 hb4
  by_cases he12 : errs S s [] = 12
  · rw [he12] at hr HC ⊢
    clear he12 hr
    go_wp2_with fail
    go_ret
    rw [HC.out]
    exact ⟨12, rfl, rfl, Out.none HB4.out H.out⟩
  by_cases he6 : errs S s [] = 6
  · rw [he6] at hr HC ⊢
    clear he6 hr
    go_wp2_with fail
    go_ret
    rw [HC.out]
    exact ⟨6, rfl, rfl, Out.none HB4.out H.out⟩
  by_cases he7 : errs S s [] = 7
  · rw [he7] at hr HC ⊢
    clear he7 hr
    go_wp2_with fail
    go_ret
    rw [HC.out]
    exact ⟨7, rfl, rfl, Out.none HB4.out H.out⟩
  have he : errs S s [] = 0 := by rcases errs_cases S s [] with h | h | h | h <;> first | exact h | exact absurd h (by assumption)
  clear he12 he6 he7
  obtain ⟨f, hf, hfn, rfl⟩ : ∃ f ∈ gs, f.nm = nmO s ∧ p = some ⟨f.blk, 0, none⟩ := by
    rcases hr with ⟨_, h⟩ | ⟨h, _⟩
    · exact h
    · exact absurd he h
  have HP := Lib.hid (fileD_of H.out he hf hfn)
  rw [he] at HC ⊢
  clear he hr
  rw [if_pos rfl, HN.out] at HC
  go_wp2_with fail
  refine (free_any B d w4 S (foot d m gs) ⟨m, gs, rfl, H.out.below HB4.out⟩).mono ?_
  rintro e w5 ⟨rfl, hb5⟩
  have HB5 := Lib.hid (HB4.out.trans (hb5.out.mono HB4.out.size))
  clear hb5
  have HD := Lib.hid (H.out.below HB5.out)
  by_cases hlt : freeD S < n
  · rw [if_pos hlt] at HC
    go_wp2_with fail
    go_ret
    rw [HC.out]
    exact ⟨11, rfl, rfl, Out.none HB5.out H.out⟩
  · rw [if_neg hlt] at HC
    have hfree : tot S.fs + n ≤ S.room := by have := H.out.full; unfold freeD at hlt; omega
    have HR := Lib.hid (more_run HD.out (Nat.le_trans hB HB5.out.size) hf A b n c HN.out (HM.out.below HB5.out) hA hb hfree)
    have f0 := (HD.out.files f hf).top.cell 0
    go_wp2_with (at_builtin; refine wpList_app rfl _ _ 28 28 rfl f.v (.slice A n c) rfl rfl ?_; obtain ⟨AR, nR, cR, W', hrun, htop, hR⟩ := HR.out; refine ⟨.slice AR nR cR, W', hrun, ?_⟩; have HM2 := Lib.hid hR; have g0 := htop.cell 0; have z0 := htop.free 0; clear hrun hR htop)
    obtain ⟨hD, hT, hF⟩ := HM2.out
    have HW := Lib.hid hD
    have HT := Lib.hid hT
    have HF := Lib.hid hF
    have HS : Hid (moreD S s b = { S with fs := setP ⟨f.nm, f.l ++ b, f.k⟩ S.fs }) := by
      show _ = _
      unfold moreD
      rw [HP.out, ← hfn]; rfl
    rw [← HS.out] at HW
    clear HM2 hD hT hF
    have HDD := Lib.hid (deed_Append B d _ (moreD S s b) m _ HW.out #[] (Rdo B d m (setF { f with v := .slice AR nR cR, l := f.l ++ b } gs) (W'.setCell ⟨f.blk, 0, none⟩ (.slice AR nR cR)) { (moreD S s b) with armed := dec (moreD S s b).armed })
      fun ha => (append1_any _).mono fun e w5 ⟨he, hw⟩ => ⟨he, by subst hw; exact ⟨_, HW.out.armW, armW_tur _ d _ (by simp [foot]), Fre.refl _ _⟩⟩)
    go_wp2_with fail
    refine HDD.out.mono ?_
    rintro e w6 h6
    obtain ⟨k, rfl, hk, hO⟩ := deed_out (T := moreD S s b) (Below.refl _ _) HW.out h6
    clear h6 HDD
    go_wp2_with fail
    go_ret
    rw [HC.out]
    obtain ⟨X', hX, hT2, hF2⟩ := hO.out
    exact ⟨k, rfl, hk, X', hX, (Tur.of_below HB5.out).trans (HT.out.trans hT2 HF.out) (Fre.refl _ _), (HF.out.trans hF2 HT.out.size).old HB5.out.size⟩
end Go.Proofs.Ytoooainecoappaa
