/-
  The program's Read: a file's bytes in a row of their own, or what is told against it.
-/
import Derived.Test.YtoooainecoappaaDkPs
import Derived.Lib.BufferMore
namespace Go.Proofs.Ytoooainecoappaa
open Go.RowKit Go.Maps Go.WideShapes Go.WideMaps
def readD (S : Ds) (s : ByteArray) : List Nat × Nat := if errs S s [] = 0 then ((fileD S s).l, 0) else ([], errs S s [])
theorem own_up {B : Nat} {w : World} {v : Value} {l : List Nat} (h : Own 0 w v l) (hb : ∀ g, v.ownBlock = some g → B ≤ g) : Own B w v l := by
  refine ⟨h.1, ?_⟩
  rcases h.2 with hn | ⟨g, cap, cur, rfl, _, r⟩
  · exact .inl hn
  · exact .inr ⟨g, cap, cur, rfl, hb g rfl, r⟩
theorem own_down {B : Nat} {w : World} {v : Value} {l : List Nat} (h : Own B w v l) : Own 0 w v l := by
  refine ⟨h.1, ?_⟩
  rcases h.2 with hn | ⟨g, cap, cur, rfl, _, r⟩
  · exact .inl hn
  · exact .inr ⟨g, cap, cur, rfl, Nat.zero_le _, r⟩
set_option maxRecDepth 100000 in
/-- An append onto an empty row that is new. -/
theorem clone_run (w : World) (A : Addr) (l : List Nat) (n c : Nat) (hn : l.length = n) (hA : Rd w (some A) l) (hl : n ≤ 1000000) :
    ∃ R W', (Builtin.append_ #[28, 28] 28 #[.slice (some ⟨w.heap.size, 0, none⟩) 0 0, .slice (some A) n c]).run Try.prog (w.alloc (.cells #[] 5)) = .ok R W' ∧ Own w.heap.size W' R l ∧ Below w.heap.size w W' := by
  have h0 : Own 0 (w.alloc (.cells #[] 5)) (.slice (some ⟨w.heap.size, 0, none⟩) 0 0) [] := World.ownsRow_made w #[] 0 (Nat.zero_le _) (Nat.zero_le _) rfl
  have hb : Below w.heap.size w (w.alloc (.cells #[] 5)) := (Below.refl _ _).alloc (Nat.le_refl _) _
  obtain ⟨R, W', hrun, hown, hg, ho⟩ := own_app _ _ _ h0 (some A) l n c hn (hA.below hb) (by simpa using hl) (fun e => by cases e)
  refine ⟨R, W', hrun, own_up (by simpa using hown) fun g hgg => ?_, hb.grown hg hb.size fun k hk => ?_⟩
  · rcases ho with ho | ho
    · rw [ho] at hgg; simp [Value.ownBlock] at hgg; omega
    · rw [ho] at hgg; simp at hgg; omega
  · simp [Value.ownBlock] at hk; omega
set_option maxHeartbeats 2000000 in
set_option maxRecDepth 100000 in
theorem clone_any (v : Value) (l : List Nat) (w : World) (hl : l.length ≤ 1000000) (h : Own 0 w v l) :
    Calls Try.prog 70 #[v] w fun e w' => ∃ v', e = .returned v' ∧ Hid (Own w.heap.size w' v' l) ∧ Hid (Below w.heap.size w w') := by
  obtain ⟨A, c, rfl, hc, _, hr, hA, hB⟩ := own_full h
  rcases A with _ | a
  · have hl0 : l = [] := by
      rcases l with _ | ⟨x, l⟩
      · rfl
      · obtain ⟨b, off, e, _⟩ := hr (by simp)
        cases e
    subst hl0
    obtain rfl := hA rfl
    clear h hr hA
    show Calls Try.prog 70 #[.slice none 0 0] w _
    have hnil : ∀ W, (binOp .eql 28 (.slice none 0 0) (.slice none 0 0)).run Try.prog W = .ok (.bool true) W := fun W => Lib.run_eql_slice_nil_nil W _ _ Try.underlying28
    go_enter Try.func70, Try.ntmps70
    go_wp2_with fail
    go_ret
    exact ⟨_, rfl, own_nil _ _, Below.refl _ _⟩
  · obtain ⟨g, hg⟩ : ∃ g, a = ⟨g, 0, none⟩ := ⟨_, (hB a rfl).2⟩
    subst hg
    have HR := Lib.hid (clone_run w ⟨g, 0, none⟩ l l.length c rfl hr hl)
    clear h hr hA hB
    generalize l.length = n at *
    have hnil : ∀ W, (binOp .eql 28 (.slice (some ⟨g, 0, none⟩) n c) (.slice none 0 0)).run Try.prog W = .ok (.bool false) W := fun W => Lib.run_eql_slice_some_nil W _ _ _ Try.underlying28
    go_enter Try.func70, Try.ntmps70
    go_wp2_with (at_builtin; refine wpList_app rfl _ _ 28 28 rfl (.slice (some ⟨w.heap.size, 0, none⟩) 0 0) (.slice (some ⟨g, 0, none⟩) n c) rfl rfl ?_; obtain ⟨R, W', hrun, hR⟩ := HR.out; refine ⟨R, W', hrun, ?_⟩; have HM2 := Lib.hid hR; clear hrun hR)
    go_ret
    exact ⟨_, rfl, HM2.out.1, HM2.out.2⟩
set_option maxHeartbeats 2000000 in
set_option maxRecDepth 100000 in
theorem read_any (B d : Nat) (w : World) (S : Ds) (X : List Nat) (h : DAt B d w S X) (s : ByteArray) (hs : s.size ≤ 140737488355328) :
    Calls Try.prog 39 #[.pointer (some ⟨d, 0, none⟩), .string s] w fun e w' => ∃ (v : Value) (k : Nat), e = .returned (.tuple #[v, .int .i64 k]) ∧ Hid (k = (readD S s).2) ∧
      Hid (Own w.heap.size w' v (readD S s).1 ∧ ∀ x ∈ (readD S s).1, x < 256) ∧ Hid (Below w.heap.size w w') := by
  obtain ⟨m, gs, rfl, h0⟩ := h
  have H := Lib.hid h0
  have b3 : Below w.heap.size w (w.alloc (.cells #[.string s] 9)) := (Below.refl _ _).alloc (Nat.le_refl _) _
  have h3 := Has.new w 9 #[.string s]
  have HB3 := Lib.hid b3
  have H3 := Lib.hid h3
  have hroom := h0.room
  clear b3 h3 h0
  have HF := Lib.hid (find_any B d _ S m gs (H.out.below HB3.out) w.heap.size s [] 1 rfl (by omega) (by simpa using hs) (fun i hi => by
    have hi0 : i = 0 := by simpa using hi
    subst hi0
    exact H3.out.cell 0))
  have HC : Hid ((readD S s) = if errs S s [] = 0 then ((fileD S s).l, 0) else ([], errs S s [])) := rfl
  go_enter Try.func39, Try.ntmps39
  go_wp2_with fail
  refine HF.out.mono ?_
  rintro e w4 ⟨p, rfl, hb4, hr⟩
  have HB4 := Lib.hid (HB3.out.trans (hb4.out.mono HB3.out.size))
  have hw4 := HB4.out.size
  clear HF H3 HB3 hb4
  by_cases he12 : errs S s [] = 12
  · rw [he12] at hr HC ⊢
    clear he12 hr
    go_wp2_with fail
    go_ret2
    rw [HC.out]
    exact ⟨_, 12, rfl, rfl, ⟨own_nil _ _, by intro x hx; cases hx⟩, HB4⟩
  by_cases he6 : errs S s [] = 6
  · rw [he6] at hr HC ⊢
    clear he6 hr
    go_wp2_with fail
    go_ret2
    rw [HC.out]
    exact ⟨_, 6, rfl, rfl, ⟨own_nil _ _, by intro x hx; cases hx⟩, HB4⟩
  by_cases he7 : errs S s [] = 7
  · rw [he7] at hr HC ⊢
    clear he7 hr
    go_wp2_with fail
    go_ret2
    rw [HC.out]
    exact ⟨_, 7, rfl, rfl, ⟨own_nil _ _, by intro x hx; cases hx⟩, HB4⟩
  have he : errs S s [] = 0 := by rcases errs_cases S s [] with h | h | h | h <;> first | exact h | exact absurd h (by assumption)
  clear he12 he6 he7
  obtain ⟨f, hf, hfn, rfl⟩ : ∃ f ∈ gs, f.nm = nmO s ∧ p = some ⟨f.blk, 0, none⟩ := by
    rcases hr with ⟨_, h⟩ | ⟨h, _⟩
    · exact h
    · exact absurd he h
  have HP := Lib.hid (fileD_of H.out he hf hfn)
  rw [he, HP.out] at HC
  rw [he]
  clear he hr HP
  have HD := Lib.hid ((H.out.below HB4.out).files f hf)
  have f0 := HD.out.top.cell 0
  have hlen : f.l.length ≤ 1000000 := by
    have h1 := tot_get H.out hf; have h2 := H.out.full; omega
  go_wp2_with fail
  refine (clone_any f.v f.l w4 hlen HD.out.own).mono ?_
  rintro e w5 ⟨v, rfl, hO, hb5⟩
  have HB5 := Lib.hid (HB4.out.trans (hb5.out.mono HB4.out.size))
  have HO : Hid (Own w.heap.size w5 v f.l ∧ ∀ x ∈ f.l, x < 256) := ⟨own_up (own_down hO.out) (fun g hg => Nat.le_trans hw4 (World.ownsRow.lt hO.out g hg).1), HD.out.byte⟩
  obtain ⟨A, c, rfl, _⟩ := own_full hO.out
  clear hO hb5
  go_wp2_with fail
  go_ret2
  rw [HC.out]
  exact ⟨_, 0, rfl, rfl, HO, HB5⟩
end Go.Proofs.Ytoooainecoappaa
