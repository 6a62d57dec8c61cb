/-
  What the deeds of Create, Rename and Remove do: a map is written, or something is taken out of it.
-/
import Derived.Test.YtoooainecoappaaDkD
import Derived.RegionTactic
namespace Go.Proofs.Ytoooainecoappaa
open Go.RowKit Go.Maps Go.WideShapes Go.WideMaps
section
variable {B d : Nat} {w : World} {S : Ds} {m : Nat} {gs : List Fl}
theorem key_of (s : ByteArray) (hs : s.size ≤ 140737488355328) : keyOf Try.prog 9 (.string s) = some (.string (nmO s)) := keyOf_string_mk Try.underlying9 (by unfold maxLen; omega)
/-- A file is laid at a name. -/
theorem put_run (h : DIn B d w S m gs) (s : ByteArray) (hs : s.size ≤ 140737488355328) (x : Fl) (hx : x.nm = nmO s) (hf : FAt w x) (hlen : gs.length ≤ 100000)
    (hnd : (x.bs ++ (delF x.nm gs).flatMap Fl.bs).Nodup) (hdm : d ∉ x.bs ∧ m ∉ x.bs) (hge : ∀ b ∈ x.bs, B ≤ b) (ht : x.l.length + tot (delP x.nm S.fs) ≤ S.room) :
    ∃ W', (Instr.mapUpdate 62 (.map (some m)) (.string s) (.pointer (some ⟨x.blk, 0, none⟩))).run Try.prog w = .ok () W' ∧
      DIn B d W' { S with fs := insP x.pf (delP x.nm S.fs) } m (insF x (delF x.nm gs)) ∧ Tur [m] w W' ∧ W'.heap.size = w.heap.size := by
  obtain ⟨W', hrun, hown, hturn⟩ := h.map.store (val := .pointer (some ⟨x.blk, 0, none⟩)) (d := .lit (.int .i64 x.blk)) (ps := []) strK Try.underlying62 (by unfold maxLen; omega) (key_of s hs) rfl
  rw [← hx, put_ent] at hown
  have hown := map_tight hown
  rw [size_ent] at hown
  have hg := hturn.grown
  have hsz : W'.heap.size = w.heap.size := by
    obtain ⟨es, clock, es', clock', _, rfl⟩ := hturn
    simp [ChangeMaps.setBlock]
  have hT : Tur [m] w W' := Tur.grown hg fun k e => by cases e; simp
  have hpf : (insF x (delF x.nm gs)).map Fl.pf = insP x.pf (delP x.nm S.fs) := by rw [insF_pf, delF_pf, h.fs]
  have hp : ((insF x (delF x.nm gs)).flatMap Fl.bs).Perm (x.bs ++ (delF x.nm gs).flatMap Fl.bs) := flat_perm (insF_perm x _)
  refine ⟨W', hrun, ?_, hT, hsz⟩
  have hd1 : ∀ b ∈ (delF x.nm gs).flatMap Fl.bs, b ∈ gs.flatMap Fl.bs := (del_flat x.nm gs).subset
  have hdd : d ∉ gs.flatMap Fl.bs ∧ m ∉ gs.flatMap Fl.bs := by
    have := h.nd
    unfold foot at this
    simp only [List.nodup_cons, List.mem_cons, not_or] at this
    exact ⟨this.1.2, this.2.1⟩
  have hmem : ∀ b ∈ (insF x (delF x.nm gs)).flatMap Fl.bs, b ∈ x.bs ∨ b ∈ gs.flatMap Fl.bs := fun b hb => (List.mem_append.1 (hp.mem_iff.1 hb)).imp id (hd1 b)
  refine ⟨hpf, ?_, hown, insF_rise x _ (delF_rise _ h.rise) (fun f hf => (delF_mem.1 hf).2), ?_, ?_, ?_, ?_, h.room, h.arm⟩
  · exact (hT.block d h.top.lt (by simp [h.dm])).trans h.top
  · intro f hf'
    have hk : ∀ b, m ≠ b → b < w.heap.size → W'.heap[b]? = w.heap[b]? := fun b hb hl => hT.block b hl (by simp [Ne.symm hb])
    rcases List.mem_cons.1 ((insF_perm x _).mem_iff.1 hf') with rfl | hf'
    · refine hf.keep fun b hb => hk b (fun e => hdm.2 (e ▸ hb)) ?_
      rcases (bs_iff f).1 hb with rfl | hb
      · exact hf.top.lt
      · exact own_lt hf.own hb
    · have hf2 := (delF_mem.1 hf').1
      exact (h.files f hf2).keep fun b hb => hk b (h.d_not f hf2 b hb).2 (h.lt b (foot_mem hf2 hb))
  · unfold foot
    simp only [List.nodup_cons, List.mem_cons, not_or]
    exact ⟨⟨h.dm, fun hh => (hmem d hh).elim hdm.1 hdd.1⟩, fun hh => (hmem m hh).elim hdm.2 hdd.2, hp.nodup_iff.2 hnd⟩
  · intro b hb
    unfold foot at hb
    simp only [List.mem_cons] at hb
    rcases hb with rfl | rfl | hb
    · exact h.ge _ (by simp [foot])
    · exact h.ge _ (by simp [foot])
    · rcases hmem b hb with h1 | h1
      · exact hge b h1
      · exact h.ge b (by unfold foot; simp only [List.mem_cons]; exact .inr (.inr h1))
  · show tot (insP x.pf (delP x.nm S.fs)) ≤ S.room
    rw [tot_ins]; exact ht
/-- A name is taken out. -/
theorem cut_run (h : DIn B d w S m gs) (s : ByteArray) (hs : s.size ≤ 140737488355328) (ty : TypeId) :
    ∃ W', (Builtin.delete_ #[62, 9] ty #[.map (some m), .string s]).run Try.prog w = .ok (.tuple #[]) W' ∧
      DIn B d W' { S with fs := delP (nmO s) S.fs } m (delF (nmO s) gs) ∧ Tur [m] w W' ∧ W'.heap.size = w.heap.size := by
  obtain ⟨W', hrun, hown, hturn⟩ := h.map.drop strK Try.underlying62 (key_of s hs) ty
  rw [cut_ent] at hown
  have hown := map_tight hown
  rw [size_ent] at hown
  have hg := hturn.grown
  have hsz : W'.heap.size = w.heap.size := by
    obtain ⟨es, clock, es', clock', _, rfl⟩ := hturn
    simp [ChangeMaps.setBlock]
  have hT : Tur [m] w W' := Tur.grown hg fun k e => by cases e; simp
  have hpf : (delF (nmO s) gs).map Fl.pf = delP (nmO s) S.fs := by rw [delF_pf, h.fs]
  have hsub := del_flat (nmO s) gs
  refine ⟨W', hrun, ⟨hpf, ?_, hown, delF_rise _ h.rise, ?_, ?_, ?_, ?_, h.room, h.arm⟩, hT, hsz⟩
  · exact (hT.block d h.top.lt (by simp [h.dm])).trans h.top
  · intro f hf
    have hf2 := (delF_mem.1 hf).1
    exact (h.files f hf2).keep fun b hb => hT.block b (h.lt b (foot_mem hf2 hb)) (by simp [Ne.symm (h.d_not f hf2 b hb).2])
  · exact h.nd.sublist ((hsub.cons_cons m).cons_cons d)
  · intro b hb
    unfold foot at hb
    simp only [List.mem_cons] at hb
    refine h.ge b ?_
    unfold foot
    simp only [List.mem_cons]
    exact hb.imp id (fun hb => hb.imp id (hsub.subset ·))
  · exact Nat.le_trans (tot_del_le _ _) h.full
theorem DIn.drew (h : DIn B d w S m gs) : DIn B d w.drew S m gs := h.keep fun _ _ => rfl
end
theorem tot_get {B d : Nat} {w : World} {S : Ds} {m : Nat} {gs : List Fl} (h : DIn B d w S m gs) {f : Fl} (hf : f ∈ gs) : tot S.fs = f.l.length + tot (delP f.nm S.fs) := by
  have h1 := (rise_perm h.rise f hf).map Fl.pf
  rw [h.fs, List.map_cons, delF_pf, h.fs] at h1
  rw [tot_perm h1, tot_cons]
  rfl
set_option maxHeartbeats 2000000 in
set_option maxRecDepth 100000 in
theorem create1_any (B d : Nat) (w : World) (S : Ds) (m : Nat) (gs : List Fl) (h : DIn B d w S m gs) (Bd Bn : Nat) (s : ByteArray) (hs : s.size ≤ 140737488355328) (hlen : gs.length ≤ 100000) (hB : B ≤ w.heap.size)
    (hd : Has w Bd 23 #[.pointer (some ⟨d, 0, none⟩)]) (hn : Has w Bn 9 #[.string s]) :
    Calls Try.prog 59 #[.pointer (some ⟨Bd, 0, none⟩), .pointer (some ⟨Bn, 0, none⟩)] w fun e w' => e = .returned (.tuple #[]) ∧
      ∃ gs', Hid (DIn B d w' { S with fs := insP ⟨nmO s, [], 0⟩ (delP (nmO s) S.fs) } m gs') ∧ Hid (Tur [m] w w') ∧ Hid (Fre (foot d m gs) (foot d m gs') w) := by
  have hbel : Below w.heap.size w (w.alloc (.cells #[.slice none 0 0, .int .i64 0] 99)).drew := ((Below.refl _ w).alloc (Nat.le_refl _) _).drew
  let x : Fl := ⟨nmO s, w.heap.size, .slice none 0 0, [], 0⟩
  have hx : FAt (w.alloc (.cells #[.slice none 0 0, .int .i64 0] 99)).drew x := ⟨(Has.new w _ _).drew, own_nil _ _, Nat.le_refl _, by intro y hy; cases hy⟩
  have hxb : x.bs = [w.heap.size] := rfl
  have hlt : ∀ b ∈ gs.flatMap Fl.bs, b < w.heap.size := fun b hb => h.lt b (by unfold foot; simp only [List.mem_cons]; exact .inr (.inr hb))
  obtain ⟨W', hrun, hD, hT, hsz⟩ := put_run (h.below hbel) s hs x rfl hx hlen
    (by
      rw [hxb]
      refine List.nodup_cons.2 ⟨fun hh => ?_, h.flat.sublist (del_flat _ _)⟩
      have := hlt _ ((del_flat _ _).subset hh)
      omega)
    (by
      rw [hxb]
      have l1 := h.lt d (by simp [foot])
      have l2 := h.lt m (by simp [foot])
      simp only [List.mem_singleton]
      omega)
    (by rw [hxb]; simpa using hB)
    (by have := tot_del_le x.nm S.fs; have := h.full; show 0 + _ ≤ _; omega)
  have hrun2 : (Instr.mapUpdate 62 (.map (some m)) (.string s) (.pointer (some ⟨w.heap.size, 0, none⟩))).run Try.prog (w.alloc (.cells #[.slice none 0 0, .int .i64 0] 99)).drew = .ok () W' := hrun
  clear hrun
  have HD := Lib.hid hD
  have HT : Hid (Tur [m] w W') := (Tur.of_below hbel).trans hT (Fre.refl _ _)
  have HF : Hid (Fre (foot d m gs) (foot d m (insF x (delF x.nm gs))) w) := fre_foot fun b hb => by
    have hp : ((insF x (delF x.nm gs)).flatMap Fl.bs).Perm (x.bs ++ (delF x.nm gs).flatMap Fl.bs) := flat_perm (insF_perm x _)
    rcases List.mem_append.1 (hp.mem_iff.1 hb) with h1 | h1
    · rw [hxb] at h1; exact .inr (by simp at h1; omega)
    · exact .inl ((del_flat _ _).subset h1)
  clear hD hT hsz
  have d0 := hd.cell 0
  have n0 := hn.cell 0
  have t1 := h.top.cell 1
  have d0' := (hd.alloc (.cells #[.slice none 0 0, .int .i64 0] 99)).cell 0
  have n0' := (hn.alloc (.cells #[.slice none 0 0, .int .i64 0] 99)).cell 0
  have t1' := (h.top.alloc (.cells #[.slice none 0 0, .int .i64 0] 99)).cell 1
  clear h hd hn hx hbel
  go_enter Try.func59, Try.ntmps59
  go_region
  all_goals go_end0
  all_goals exact ⟨rfl, _, HD, HT, HF⟩
set_option maxHeartbeats 2000000 in
set_option maxRecDepth 100000 in
theorem rename1_any (B d : Nat) (w : World) (S : Ds) (m : Nat) (gs : List Fl) (h : DIn B d w S m gs) (Bd Bn Bf Bt : Nat) (s t : ByteArray) (hs : s.size ≤ 140737488355328) (ht : t.size ≤ 140737488355328) (hlen : gs.length ≤ 100000)
    (hd : Has w Bd 23 #[.pointer (some ⟨d, 0, none⟩)]) (hn : Has w Bn 9 #[.string s]) (hto : Has w Bt 9 #[.string t]) (f : Fl) (hf : f ∈ gs) (hfn : f.nm = nmO s)
    (hff : Has w Bf 94 #[.pointer (some ⟨f.blk, 0, none⟩)]) (hm : Bd ≠ m ∧ Bt ≠ m ∧ Bf ≠ m) :
    Calls Try.prog 67 #[.pointer (some ⟨Bd, 0, none⟩), .pointer (some ⟨Bn, 0, none⟩), .pointer (some ⟨Bf, 0, none⟩), .pointer (some ⟨Bt, 0, none⟩)] w fun e w' => e = .returned (.tuple #[]) ∧
      ∃ gs', Hid (DIn B d w' { S with fs := insP ⟨nmO t, f.l, f.k⟩ (delP (nmO t) (delP (nmO s) S.fs)) } m gs') ∧ Hid (Tur [m] w w') ∧ Hid (Fre (foot d m gs) (foot d m gs') w) := by
  obtain ⟨W1, hrun1, hD1, hT1, hsz1⟩ := cut_run h.drew s hs 0
  let x : Fl := { f with nm := nmO t }
  have hfa := h.files f hf
  have hbm : ∀ b ∈ f.bs, b < w.heap.size ∧ d ≠ b ∧ m ≠ b := fun b hb => ⟨h.lt b (foot_mem hf hb), h.d_not f hf b hb⟩
  have hx : FAt W1.drew x := ⟨(hT1.block f.blk (hbm _ (blk_mem f)).1 (by simpa using (hbm _ (blk_mem f)).2.2.symm)).trans hfa.top,
    hfa.own.keep fun g hg => hT1.block g (hbm _ (own_mem f hg)).1 (by simpa using (hbm _ (own_mem f hg)).2.2.symm), hfa.kept, hfa.byte⟩
  have hxb : x.bs = f.bs := rfl
  have hperm := (flat_perm (rise_perm h.rise f hf)).nodup_iff.1 h.flat
  rw [List.flatMap_cons, hfn] at hperm
  have htot := tot_get h hf
  rw [hfn] at htot
  have hl2 : (delF (nmO s) gs).length ≤ 100000 := Nat.le_trans (List.length_filter_le _ _) hlen
  obtain ⟨W2, hrun2, hD2, hT2, hsz2⟩ := put_run hD1.drew t ht x rfl hx hl2
    (by rw [hxb]; exact hperm.sublist ((List.Sublist.refl _).append (del_flat _ _)))
    (by rw [hxb]; exact ⟨fun hh => (hbm _ hh).2.1 rfl, fun hh => (hbm _ hh).2.2 rfl⟩)
    (by rw [hxb]; exact fun b hb => h.ge b (foot_mem hf hb))
    (by have := tot_del_le (nmO t) (delP (nmO s) S.fs); have := h.full; show f.l.length + tot (delP (nmO t) (delP (nmO s) S.fs)) ≤ S.room; omega)
  have hrun3 : (Instr.mapUpdate 62 (.map (some m)) (.string t) (.pointer (some ⟨f.blk, 0, none⟩))).run Try.prog W1.drew = .ok () W2 := hrun2
  clear hrun2
  have HD := Lib.hid hD2
  have T1 : Tur [m] w W1 := (Tur.drew [m] w).trans hT1 (Fre.refl _ _)
  have HT : Hid (Tur [m] w W2) := T1.trans ((Tur.drew [m] W1).trans hT2 (Fre.refl _ _)) (Fre.refl _ _)
  have HF : Hid (Fre (foot d m gs) (foot d m (insF x (delF x.nm (delF (nmO s) gs)))) w) := fre_foot fun b hb => by
    have hp : ((insF x (delF x.nm (delF (nmO s) gs))).flatMap Fl.bs).Perm (x.bs ++ (delF x.nm (delF (nmO s) gs)).flatMap Fl.bs) := flat_perm (insF_perm x _)
    rcases List.mem_append.1 (hp.mem_iff.1 hb) with h1 | h1
    · rw [hxb] at h1; exact .inl (List.mem_flatMap.2 ⟨f, hf, h1⟩)
    · exact .inl ((del_flat _ _).subset ((del_flat _ _).subset h1))
  have d0 := hd.cell 0
  have n0 := hn.cell 0
  have t1 := h.top.cell 1
  have e0 := (hd.tur T1 (by simpa using hm.1)).cell 0
  have e1 := (hto.tur T1 (by simpa using hm.2.1)).cell 0
  have e2 := (hff.tur T1 (by simpa using hm.2.2)).cell 0
  have e3 := hD1.top.cell 1
  clear hD1 hD2 hT1 hT2 hx hfa hbm hperm htot hsz1 hsz2 T1 h hd hn hto hff
  go_enter Try.func67, Try.ntmps67
  go_wp2_with fail
  go_region
  all_goals go_wp2_with fail

  all_goals go_region
  all_goals go_end0
  all_goals exact ⟨rfl, _, HD, HT, HF⟩
set_option maxHeartbeats 2000000 in
set_option maxRecDepth 100000 in
theorem remove1_any (B d : Nat) (w : World) (S : Ds) (m : Nat) (gs : List Fl) (h : DIn B d w S m gs) (Bd Bn : Nat) (s : ByteArray) (hs : s.size ≤ 140737488355328)
    (hd : Has w Bd 23 #[.pointer (some ⟨d, 0, none⟩)]) (hn : Has w Bn 9 #[.string s]) :
    Calls Try.prog 68 #[.pointer (some ⟨Bd, 0, none⟩), .pointer (some ⟨Bn, 0, none⟩)] w fun e w' => e = .returned (.tuple #[]) ∧
      Hid (DIn B d w' { S with fs := delP (nmO s) S.fs } m (delF (nmO s) gs)) ∧ Hid (Tur [m] w w') ∧ w'.heap.size = w.heap.size := by
  obtain ⟨W', hrun, hD, hT, hsz⟩ := cut_run h.drew s hs 0
  have HD := Lib.hid hD
  have HT := Lib.hid ((Tur.drew [m] w).trans hT (Fre.refl _ _))
  have HS := Lib.hid (hsz.trans (rfl : w.drew.heap.size = w.heap.size))
  clear hD hT hsz
  have d0 := hd.cell 0
  have n0 := hn.cell 0
  have t1 := h.top.cell 1
  clear h hd hn
  go_enter Try.func68, Try.ntmps68
  go_region
  all_goals go_end0
  all_goals exact ⟨rfl, HD, HT, HS.out⟩
end Go.Proofs.Ytoooainecoappaa
