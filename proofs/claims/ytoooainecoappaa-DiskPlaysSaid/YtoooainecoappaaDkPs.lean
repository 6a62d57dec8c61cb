/-
  The program's Sync: a file's bytes are kept, or what is told against it.
-/
import Derived.Test.YtoooainecoappaaDkP
namespace Go.Proofs.Ytoooainecoappaa
open Go.RowKit Go.Maps Go.WideShapes Go.WideMaps
theorem has_of {S : Ds} {s : ByteArray} {L : List ByteArray} (he : errs S s L = 0) : hasP (nmO s) S.fs = true := by
  unfold errs at he
  split at he
  · cases he
  · split at he
    · cases he
    · split at he
      · assumption
      · cases he
theorem fileD_of {B d : Nat} {w : World} {S : Ds} {m : Nat} {gs : List Fl} (h : DIn B d w S m gs) {s : ByteArray} {L : List ByteArray} (he : errs S s L = 0) {f : Fl} (hf : f ∈ gs) (hfn : f.nm = nmO s) : fileD S s = f.pf := by
  obtain ⟨f', hf', hn', hg, _⟩ := h.get (has_of he)
  unfold fileD
  rw [hg, rise_name h.rise f' hf' f hf (by rw [hn', hfn])]
  rfl
theorem tot_set {B d : Nat} {w : World} {S : Ds} {m : Nat} {gs : List Fl} (h : DIn B d w S m gs) {f x : Fl} (hf : f ∈ gs) (hn : x.nm = f.nm) : tot (setP x.pf S.fs) + f.l.length = tot S.fs + x.l.length := by
  obtain ⟨p, q, e1, e2⟩ := set_split h.rise hf hn
  have h1 : setP x.pf S.fs = (setF x gs).map Fl.pf := by rw [setF_pf, h.fs]
  rw [h1, ← h.fs, e1, ← e1, e2, e1]
  simp only [tot, List.map_append, List.map_cons, List.sum_append, List.sum_cons, Fl.pf]
  omega
set_option maxHeartbeats 2000000 in
set_option maxRecDepth 100000 in
theorem sync1_any (B d : Nat) (w : World) (S : Ds) (m : Nat) (gs : List Fl) (h : DIn B d w S m gs) (hB : B ≤ w.heap.size) (f : Fl) (hf : f ∈ gs) (Bf : Nat)
    (hff : Has w Bf 94 #[.pointer (some ⟨f.blk, 0, none⟩)]) :
    Calls Try.prog 66 #[.pointer (some ⟨Bf, 0, none⟩)] w fun e w' => e = .returned (.tuple #[]) ∧
      ∃ gs', Hid (DIn B d w' { S with fs := setP ⟨f.nm, f.l, f.l.length⟩ S.fs } m gs') ∧ Hid (Tur [f.blk] w w') ∧ Hid (Fre (foot d m gs) (foot d m gs') w) := by
  have hfa := h.files f hf
  let x : Fl := { f with k := f.l.length }
  have hown : ∀ g, f.v.ownBlock = some g → g ≠ f.blk := by
    intro g hg e
    have hn := h.flat
    rw [(flat_perm (rise_perm h.rise f hf)).nodup_iff, List.flatMap_cons] at hn
    have := (List.nodup_append.1 hn).1
    unfold Fl.bs at this
    rw [hg, e] at this
    simp at this
  have hx : FAt (w.setCell ⟨f.blk, 1, none⟩ (.int .i64 f.l.length)).drew x := ⟨(hfa.top.put 1 (.int .i64 f.l.length)).drew,
    hfa.own.keep fun g hg => Below.heap_setCell w ⟨f.blk, 1, none⟩ _ _ (hown g hg), Nat.le_refl _, hfa.byte⟩
  have htot := tot_set h (x := x) hf rfl
  obtain ⟨hD, hF⟩ := h.sets (w' := (w.setCell ⟨f.blk, 1, none⟩ (.int .i64 f.l.length)).drew) hf (x := x) rfl rfl (.inl rfl) hx (fun b _ hb => Below.heap_setCell w ⟨f.blk, 1, none⟩ _ _ (fun e => hb (e ▸ blk_mem f))) hB
    (by have := h.full; have : x.l.length = f.l.length := rfl; omega)
  have HD : Hid (DIn B d (w.setCell ⟨f.blk, 1, none⟩ (.int .i64 f.l.length)).drew { S with fs := setP ⟨f.nm, f.l, f.l.length⟩ S.fs } m (setF x gs)) := hD
  have HF := Lib.hid hF
  have HT : Hid (Tur [f.blk] w (w.setCell ⟨f.blk, 1, none⟩ (.int .i64 f.l.length)).drew) := (Tur.setCell w (p := ⟨f.blk, 1, none⟩) (by simp) _).trans (Tur.drew _ _) (Fre.refl _ _)
  obtain ⟨A, c, hv, _, _, _, _, _⟩ := own_full hfa.own
  have d0 := hff.cell 0
  have f0 := hfa.top.cell 0
  have f1 := hfa.top.cell 1
  have z1 := hfa.top.free 1
  rw [hv] at f0
  clear h hfa hx htot hD hF hff
  generalize f.l.length = n at *
  go_enter Try.func66, Try.ntmps66
  go_region
  all_goals go_end0
  all_goals exact ⟨rfl, _, HD, HT, HF⟩
set_option maxHeartbeats 2000000 in
set_option maxRecDepth 100000 in
theorem sync_any (B d : Nat) (w : World) (S : Ds) (X : List Nat) (h : DAt B d w S X) (hB : B ≤ w.heap.size) (s : ByteArray) (hs : s.size ≤ 140737488355328) :
    Calls Try.prog 32 #[.pointer (some ⟨d, 0, none⟩), .string s] w fun e w' => ∃ k : Nat, e = .returned (.int .i64 k) ∧ Hid (k = (syncD S s).2) ∧ Hid (Out B d X w (syncD S s).1 w') := by
  obtain ⟨m, gs, rfl, h0⟩ := h
  have H := Lib.hid h0
  have hmf : ∀ (fn : Fn) (first cap : Array Value) (w : World), (Instr.makeFunc fn first cap).run Try.prog w = .ok (.func fn first cap) w := fun _ _ _ _ => rfl
  have b3 : Below w.heap.size w (w.alloc (.cells #[.string s] 9)) := (Below.refl _ _).alloc (Nat.le_refl _) _
  have h3 := Has.new w 9 #[.string s]
  have HB3 := Lib.hid b3
  have H3 := Lib.hid h3
  clear b3 h3 h0
  have HF := Lib.hid (find_any B d _ S m gs (H.out.below HB3.out) w.heap.size s [] 1 rfl (by omega) (by simpa using hs) (fun i hi => by
    have hi0 : i = 0 := by simpa using hi
    subst hi0
    exact H3.out.cell 0))
  have hdl := H.out.lt d (by simp [foot])
  have HC : Hid ((syncD S s) = if errs S s [] = 0 then deedF S { S with fs := setP ⟨nmO s, (fileD S s).l, (fileD S s).l.length⟩ S.fs } else (S, errs S s [])) := rfl
  go_enter Try.func32, Try.ntmps32
  go_wp2_with fail
  refine HF.out.mono ?_
  rintro e w4 ⟨p, rfl, hb4, hr⟩
  have HB4 := Lib.hid (HB3.out.trans (hb4.out.mono HB3.out.size))
  have hb5 : Below w4.heap.size w4 (w4.alloc (.cells #[.pointer p] 94)) := (Below.refl _ _).alloc (Nat.le_refl _) _
  have HB5 := Lib.hid (HB4.out.trans (hb5.mono HB4.out.size))
  have K4 := Lib.hid (Has.new w4 94 #[.pointer p])
  have hw4 := HB4.out.size
  have HD := Lib.hid (H.out.below HB5.out)
  clear HF H3 HB3 hb4 hb5
  by_cases he12 : errs S s [] = 12
  · rw [he12] at hr HC ⊢
    clear he12 hr
    go_wp2_with fail
    go_ret
    rw [HC.out]
    exact ⟨12, rfl, rfl, Out.none HB5.out H.out⟩
  by_cases he6 : errs S s [] = 6
  · rw [he6] at hr HC ⊢
    clear he6 hr
    go_wp2_with fail
    go_ret
    rw [HC.out]
    exact ⟨6, rfl, rfl, Out.none HB5.out H.out⟩
  by_cases he7 : errs S s [] = 7
  · rw [he7] at hr HC ⊢
    clear he7 hr
    go_wp2_with fail
    go_ret
    rw [HC.out]
    exact ⟨7, rfl, rfl, Out.none HB5.out H.out⟩
  have he : errs S s [] = 0 := by rcases errs_cases S s [] with h | h | h | h <;> first | exact h | exact absurd h (by assumption)
  clear he12 he6 he7
  obtain ⟨f, hf, hfn, rfl⟩ : ∃ f ∈ gs, f.nm = nmO s ∧ p = some ⟨f.blk, 0, none⟩ := by
    rcases hr with ⟨_, h⟩ | ⟨h, _⟩
    · exact h
    · exact absurd he h
  rw [fileD_of H.out he hf hfn] at HC
  rw [he] at HC ⊢
  clear he hr
  have hbl := H.out.lt f.blk (foot_mem hf (blk_mem f))
  have HDD := Lib.hid (deed_Sync B d (w4.alloc (.cells #[.pointer (some ⟨f.blk, 0, none⟩)] 94)) S m gs HD.out #[.pointer (some ⟨w4.heap.size, 0, none⟩)]
    (Rdo B d m gs (w4.alloc (.cells #[.pointer (some ⟨f.blk, 0, none⟩)] 94)) { { S with fs := setP ⟨nmO s, f.l, f.l.length⟩ S.fs } with armed := dec S.armed })
    fun ha => (sync1_any B d (armW (w4.alloc (.cells #[.pointer (some ⟨f.blk, 0, none⟩)] 94)) d S.armed) { S with armed := dec S.armed } m gs HD.out.armW (by rw [armW_size]; exact Nat.le_trans hB HB5.out.size) f hf w4.heap.size
      (armW_has K4.out (by omega))).mono fun e w5 ⟨he, gs', hD5, hT5, hF5⟩ => ⟨he, gs', by rw [← hfn]; exact hD5, (armW_tur _ d S.armed (by simp [foot])).trans (hT5.out.sub (fun b hb => (by simpa using hb : b = f.blk) ▸ foot_mem hf (blk_mem f))) (Fre.refl _ _), hF5.out.old (by rw [armW_size]; exact Nat.le_refl _)⟩)
  go_wp2_with fail
  refine HDD.out.mono ?_
  rintro e w5 h5
  obtain ⟨k, rfl, hk, hO⟩ := deed_out (T := { S with fs := setP ⟨nmO s, f.l, f.l.length⟩ S.fs }) HB5.out HD.out h5
  clear h5 HDD
  go_wp2_with fail
  go_ret
  rw [HC.out]
  exact ⟨k, rfl, hk, hO⟩
end Go.Proofs.Ytoooainecoappaa
