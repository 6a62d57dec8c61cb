/-
  The program's Rename: a file has another name, or what is told against it.
-/
import Derived.Test.YtoooainecoappaaDkP
namespace Go.Proofs.Ytoooainecoappaa
open Go.RowKit Go.Maps Go.WideShapes Go.WideMaps
set_option maxHeartbeats 2000000 in
set_option maxRecDepth 100000 in
theorem rename_any (B d : Nat) (w : World) (S : Ds) (X : List Nat) (h : DAt B d w S X) (s t : ByteArray) (hs : s.size ≤ 140737488355328) (ht : t.size ≤ 140737488355328) (hlen : S.fs.length ≤ 100000) :
    Calls Try.prog 33 #[.pointer (some ⟨d, 0, none⟩), .string s, .string t] w fun e w' => ∃ k : Nat, e = .returned (.int .i64 k) ∧ Hid (k = (renameD S s t).2) ∧ Hid (Out B d X w (renameD S s t).1 w') := by
  obtain ⟨m, gs, rfl, h0⟩ := h
  have H := Lib.hid h0
  have hmf : ∀ (fn : Fn) (first cap : Array Value) (w : World), (Instr.makeFunc fn first cap).run Try.prog w = .ok (.func fn first cap) w := fun _ _ _ _ => rfl
  have b1 : Below w.heap.size w (w.alloc (.cells #[.pointer (some ⟨d, 0, none⟩)] 23)) := (Below.refl _ _).alloc (Nat.le_refl _) _
  have b2 : Below w.heap.size w ((w.alloc (.cells #[.pointer (some ⟨d, 0, none⟩)] 23)).alloc (.cells #[.string s] 9)) := b1.alloc b1.size _
  have b3 : Below w.heap.size w (((w.alloc (.cells #[.pointer (some ⟨d, 0, none⟩)] 23)).alloc (.cells #[.string s] 9)).alloc (.cells #[.string t] 9)) := b2.alloc b2.size _
  have b4 : Below w.heap.size w ((((w.alloc (.cells #[.pointer (some ⟨d, 0, none⟩)] 23)).alloc (.cells #[.string s] 9)).alloc (.cells #[.string t] 9)).alloc (.cells #[.string s, .string t] 9)) := b3.alloc b3.size _
  have h1 := ((Has.new w 23 #[.pointer (some ⟨d, 0, none⟩)]).alloc (.cells #[.string s] 9)).alloc (.cells #[.string t] 9)
  have h2 := (Has.new (w.alloc (.cells #[.pointer (some ⟨d, 0, none⟩)] 23)) 9 #[.string s]).alloc (.cells #[.string t] 9)
  have h3 := (Has.new ((w.alloc (.cells #[.pointer (some ⟨d, 0, none⟩)] 23)).alloc (.cells #[.string s] 9)) 9 #[.string t])
  have g1 := h1.alloc (.cells #[.string s, .string t] 9)
  have g2 := h2.alloc (.cells #[.string s, .string t] 9)
  have g3 := h3.alloc (.cells #[.string s, .string t] 9)
  have g4 := (Has.new (((w.alloc (.cells #[.pointer (some ⟨d, 0, none⟩)] 23)).alloc (.cells #[.string s] 9)).alloc (.cells #[.string t] 9)) 9 #[.string s, .string t])
  have c1 := h1.cell 0
  have c2 := h2.cell 0
  have c3 := h3.cell 0
  have HB3 := Lib.hid b4
  have H1 := Lib.hid g1
  have H2 := Lib.hid g2
  have H3 := Lib.hid g3
  have H4 := Lib.hid g4
  clear b1 b2 b3 b4 h1 h2 h3 h0 g1 g2 g3 g4
  rw [World.size_alloc] at H2 H3 H4 c2 c3
  rw [World.size_alloc] at H3 H4 c3
  rw [World.size_alloc] at H4
  have HF := Lib.hid (find_any B d _ S m gs (H.out.below HB3.out) (w.heap.size + 1 + 1 + 1) s [t] 2 rfl (by omega) (by simpa using ⟨hs, ht⟩) (fun i hi => by
    have hi0 : i = 0 ∨ i = 1 := by simp at hi; omega
    rcases hi0 with rfl | rfl
    · exact H4.out.cell 0
    · exact H4.out.cell 1))
  have hdl := H.out.lt d (by simp [foot])
  have hml := H.out.lt m (by simp [foot])
  have HC : Hid ((renameD S s t) = if errs S s [t] = 0 then deedF S { S with fs := insP ⟨nmO t, (fileD S s).l, (fileD S s).k⟩ (delP (nmO t) (delP (nmO s) S.fs)) } else (S, errs S s [t])) := rfl
  have HZ : Hid (errs S s [t] = 0 → hasP (nmO s) S.fs = true) := fun he => by
    unfold errs at he
    split at he
    · cases he
    · split at he
      · cases he
      · split at he
        · assumption
        · cases he
  go_enter Try.func33, Try.ntmps33
  go_wp2_with fail
  refine HF.out.mono ?_
  rintro e w4 ⟨p, rfl, hb4, hr⟩
  have HB4 := Lib.hid (HB3.out.trans (hb4.out.mono HB3.out.size))
  have hb5 : Below w4.heap.size w4 (w4.alloc (.cells #[.pointer p] 94)) := (Below.refl _ _).alloc (Nat.le_refl _) _
  have HB5 := Lib.hid (HB4.out.trans (hb5.mono HB4.out.size))
  have hb35 := hb4.out.trans (hb5.mono hb4.out.size)
  have K1 := Lib.hid (H1.out.below hb35 H1.out.lt)
  have K2 := Lib.hid (H2.out.below hb35 H2.out.lt)
  have K3 := Lib.hid (H3.out.below hb35 H3.out.lt)
  have K4 := Lib.hid (Has.new w4 94 #[.pointer p])
  have k1 := K1.out.cell 0
  have k2 := K2.out.cell 0
  have hw4 := HB4.out.size
  have HD := Lib.hid (H.out.below HB5.out)
  clear HF H1 H2 H3 H4 HB3 hb4 hb5 hb35 c1 c2 c3
  by_cases he12 : errs S s [t] = 12
  · rw [he12] at hr HC ⊢
    clear he12 hr
    go_wp2_with fail
    go_ret
    rw [HC.out]
    exact ⟨12, rfl, rfl, Out.none HB5.out H.out⟩
  by_cases he6 : errs S s [t] = 6
  · rw [he6] at hr HC ⊢
    clear he6 hr
    go_wp2_with fail
    go_ret
    rw [HC.out]
    exact ⟨6, rfl, rfl, Out.none HB5.out H.out⟩
  by_cases he7 : errs S s [t] = 7
  · rw [he7] at hr HC ⊢
    clear he7 hr
    go_wp2_with fail
    go_ret
    rw [HC.out]
    exact ⟨7, rfl, rfl, Out.none HB5.out H.out⟩
  have he : errs S s [t] = 0 := by rcases errs_cases S s [t] with h | h | h | h <;> first | exact h | exact absurd h (by assumption)
  clear he12 he6 he7
  obtain ⟨f, hf, hfn, rfl⟩ : ∃ f ∈ gs, f.nm = nmO s ∧ p = some ⟨f.blk, 0, none⟩ := by
    rcases hr with ⟨_, h⟩ | ⟨h, _⟩
    · exact h
    · exact absurd he h
  have HP : Hid (fileD S s = f.pf) := by
    show _ = _
    obtain ⟨f', hf', hn', hg, _⟩ := H.out.get (HZ.out he)
    unfold fileD
    rw [hg, rise_name H.out.rise f' hf' f hf (by rw [hn', hfn])]
    rfl
  rw [HP.out] at HC
  rw [he] at HC ⊢
  clear he hr HP HZ
  have HDD := Lib.hid (deed_Rename B d (w4.alloc (.cells #[.pointer (some ⟨f.blk, 0, none⟩)] 94)) S m gs HD.out #[.pointer (some ⟨w.heap.size, 0, none⟩), .pointer (some ⟨w.heap.size + 1, 0, none⟩), .pointer (some ⟨w4.heap.size, 0, none⟩), .pointer (some ⟨w.heap.size + 1 + 1, 0, none⟩)]
    (Rdo B d m gs (w4.alloc (.cells #[.pointer (some ⟨f.blk, 0, none⟩)] 94)) { { S with fs := insP ⟨nmO t, f.l, f.k⟩ (delP (nmO t) (delP (nmO s) S.fs)) } with armed := dec S.armed })
    fun ha => (rename1_any B d (armW (w4.alloc (.cells #[.pointer (some ⟨f.blk, 0, none⟩)] 94)) d S.armed) { S with armed := dec S.armed } m gs HD.out.armW w.heap.size (w.heap.size + 1) w4.heap.size (w.heap.size + 1 + 1) s t hs ht (by rw [H.out.len]; exact hlen)
      (armW_has K1.out (by omega)) (armW_has K2.out (by omega)) (armW_has K3.out (by omega)) f hf hfn (armW_has K4.out (by omega)) (by omega)).mono fun e w5 ⟨he, gs', hD5, hT5, hF5⟩ => ⟨he, gs', hD5, (armW_tur _ d S.armed (by simp [foot])).trans (hT5.out.sub (by simp [foot])) (Fre.refl _ _), hF5.out.old (by rw [armW_size]; exact Nat.le_refl _)⟩)
  go_wp2_with fail
  refine HDD.out.mono ?_
  rintro e w5 h5
  obtain ⟨k, rfl, hk, hO⟩ := deed_out (T := { S with fs := insP ⟨nmO t, f.l, f.k⟩ (delP (nmO t) (delP (nmO s) S.fs)) }) HB5.out HD.out h5
  clear h5 HDD
  go_wp2_with fail
  go_ret
  rw [HC.out]
  exact ⟨k, rfl, hk, hO⟩
end Go.Proofs.Ytoooainecoappaa
