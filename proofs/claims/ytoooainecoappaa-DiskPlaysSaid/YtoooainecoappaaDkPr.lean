/-
  The program's Remove: a file is gone, or what is told against it.
-/
import Derived.Test.YtoooainecoappaaDkP
namespace Go.Proofs.Ytoooainecoappaa
open Go.RowKit Go.Maps Go.WideShapes Go.WideMaps
set_option maxHeartbeats 2000000 in
set_option maxRecDepth 100000 in
theorem remove_any (B d : Nat) (w : World) (S : Ds) (X : List Nat) (h : DAt B d w S X) (s : ByteArray) (hs : s.size ≤ 140737488355328) :
    Calls Try.prog 34 #[.pointer (some ⟨d, 0, none⟩), .string s] w fun e w' => ∃ k : Nat, e = .returned (.int .i64 k) ∧ Hid (k = (removeD S s).2) ∧ Hid (Out B d X w (removeD S s).1 w') := by
  obtain ⟨m, gs, rfl, h0⟩ := h
  have H := Lib.hid h0
  have hmf : ∀ (fn : Fn) (first cap : Array Value) (w : World), (Instr.makeFunc fn first cap).run Try.prog w = .ok (.func fn first cap) w := fun _ _ _ _ => rfl
  have b1 : Below w.heap.size w (w.alloc (.cells #[.pointer (some ⟨d, 0, none⟩)] 23)) := (Below.refl _ _).alloc (Nat.le_refl _) _
  have b2 : Below w.heap.size w ((w.alloc (.cells #[.pointer (some ⟨d, 0, none⟩)] 23)).alloc (.cells #[.string s] 9)) := b1.alloc b1.size _
  have b3 : Below w.heap.size w (((w.alloc (.cells #[.pointer (some ⟨d, 0, none⟩)] 23)).alloc (.cells #[.string s] 9)).alloc (.cells #[.string s] 9)) := b2.alloc b2.size _
  have h1 := ((Has.new w 23 #[.pointer (some ⟨d, 0, none⟩)]).alloc (.cells #[.string s] 9)).alloc (.cells #[.string s] 9)
  have h2 := (Has.new (w.alloc (.cells #[.pointer (some ⟨d, 0, none⟩)] 23)) 9 #[.string s]).alloc (.cells #[.string s] 9)
  have h3 := Has.new ((w.alloc (.cells #[.pointer (some ⟨d, 0, none⟩)] 23)).alloc (.cells #[.string s] 9)) 9 #[.string s]
  have c1 := (Has.new w 23 #[.pointer (some ⟨d, 0, none⟩)]).cell 0
  have c1' := ((Has.new w 23 #[.pointer (some ⟨d, 0, none⟩)]).alloc (.cells #[.string s] 9)).cell 0
  have c2' := (Has.new (w.alloc (.cells #[.pointer (some ⟨d, 0, none⟩)] 23)) 9 #[.string s]).cell 0
  have HB3 := Lib.hid b3
  have H1 := Lib.hid h1
  have H2 := Lib.hid h2
  have H3 := Lib.hid h3
  clear b1 b2 b3 h1 h2 h3 h0
  rw [World.size_alloc] at H2 H3
  rw [World.size_alloc] at H3
  have HF := Lib.hid (find_any B d _ S m gs (H.out.below HB3.out) (w.heap.size + 1 + 1) s [] 1 rfl (by omega) (by simpa using hs) (fun i hi => by
    have hi0 : i = 0 := by simpa using hi
    subst hi0
    exact H3.out.cell 0))
  have hdl := H.out.lt d (by simp [foot])
  go_enter Try.func34, Try.ntmps34
  go_wp2_with fail
  refine HF.out.mono ?_
  rintro e w4 ⟨p, rfl, hb4, hr⟩
  have HB4 := Lib.hid (HB3.out.trans (hb4.out.mono HB3.out.size))
  have K1 := Lib.hid (H1.out.below hb4.out H1.out.lt)
  have K2 := Lib.hid (H2.out.below hb4.out H2.out.lt)
  have k1 := K1.out.cell 0
  have k2 := K2.out.cell 0
  have HD := Lib.hid (H.out.below HB4.out)
  clear HF H1 H2 H3 HB3 hb4 c1 c1' c2'
  have HC : Hid ((removeD S s) = if errs S s [] = 0 then deedF S { S with fs := delP (nmO s) S.fs } else (S, errs S s [])) := rfl
  rcases errs_cases S s [] with he | he | he | he
  · rw [he] at hr HC ⊢
    clear he hr
    go_wp2_with fail
    go_ret
    rw [HC.out]
    exact ⟨12, rfl, rfl, Out.none HB4.out H.out⟩
  · rw [he] at hr HC ⊢
    clear he hr
    go_wp2_with fail
    go_ret
    rw [HC.out]
    exact ⟨6, rfl, rfl, Out.none HB4.out H.out⟩
  · rw [he] at hr HC ⊢
    clear he hr
    go_wp2_with fail
    go_ret
    rw [HC.out]
    exact ⟨7, rfl, rfl, Out.none HB4.out H.out⟩
  · rw [he] at hr HC ⊢
    clear he hr
    have HDD := Lib.hid (deed_Remove B d w4 S m gs HD.out #[.pointer (some ⟨w.heap.size, 0, none⟩), .pointer (some ⟨w.heap.size + 1, 0, none⟩)] (Rdo B d m gs w4 { { S with fs := delP (nmO s) S.fs } with armed := dec S.armed })
      fun ha => (remove1_any B d (armW w4 d S.armed) { S with armed := dec S.armed } m gs HD.out.armW w.heap.size (w.heap.size + 1) s hs
        (armW_has K1.out (by omega)) (armW_has K2.out (by omega))).mono fun e w5 ⟨he, hD5, hT5, _⟩ => ⟨he, _, hD5, (armW_tur w4 d S.armed (by simp [foot])).trans (hT5.out.sub (by simp [foot])) (Fre.refl _ _), fre_foot fun b hb => .inl ((del_flat _ _).subset hb)⟩)
    go_wp2_with fail
    refine HDD.out.mono ?_
    rintro e w5 h5
    obtain ⟨k, rfl, hk, hO⟩ := deed_out (T := { S with fs := delP (nmO s) S.fs }) HB4.out HD.out h5
    clear h5 HDD
    go_wp2_with fail
    go_ret
    rw [HC.out]
    exact ⟨k, rfl, hk, hO⟩
end Go.Proofs.Ytoooainecoappaa
