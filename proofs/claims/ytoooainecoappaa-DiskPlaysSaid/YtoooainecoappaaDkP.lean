/-
  The program's Create: a file without bytes, or what is told against it.
-/
import Derived.Test.YtoooainecoappaaDkC
import Derived.Test.YtoooainecoappaaDkF
namespace Go.Proofs.Ytoooainecoappaa
open Go.RowKit Go.Maps Go.WideShapes Go.WideMaps
/-- What a deed leaves, and what it tells. -/
def deedF (S T : Ds) : Ds × Nat := if S.armed = 0 then ({ S with down := true }, 12) else ({ T with armed := dec S.armed }, 0)
def createD (S : Ds) (s : ByteArray) : Ds × Nat := if errs S s [] = 7 then deedF S { S with fs := insP ⟨nmO s, [], 0⟩ (delP (nmO s) S.fs) } else if errs S s [] = 0 then (S, 8) else (S, errs S s [])
def removeD (S : Ds) (s : ByteArray) : Ds × Nat := if errs S s [] = 0 then deedF S { S with fs := delP (nmO s) S.fs } else (S, errs S s [])
def fileD (S : Ds) (s : ByteArray) : Pf := (getP (nmO s) S.fs).getD ⟨nmO s, [], 0⟩
def renameD (S : Ds) (s t : ByteArray) : Ds × Nat := if errs S s [t] = 0 then deedF S { S with fs := insP ⟨nmO t, (fileD S s).l, (fileD S s).k⟩ (delP (nmO t) (delP (nmO s) S.fs)) } else (S, errs S s [t])
def syncD (S : Ds) (s : ByteArray) : Ds × Nat := if errs S s [] = 0 then deedF S { S with fs := setP ⟨nmO s, (fileD S s).l, (fileD S s).l.length⟩ S.fs } else (S, errs S s [])
section
variable {B d : Nat} {w w4 w' : World} {S T : Ds} {m : Nat} {gs : List Fl}
theorem Fre.old {X X' : List Nat} {a b : World} (h : Fre X X' b) (hs : a.heap.size ≤ b.heap.size) : Fre X X' a := fun i hi => (h i hi).imp id fun hh => by omega
theorem Out.of {m' : Nat} {gs' : List Fl} (hb : Below w.heap.size w w4) (hD : DIn B d w' S m' gs') (hT : Tur (foot d m gs) w4 w') (hF : Fre (foot d m gs) (foot d m' gs') w4) : Out B d (foot d m gs) w S w' :=
  ⟨_, ⟨m', gs', rfl, hD⟩, (Tur.of_below hb).trans hT (Fre.refl _ _), hF.old hb.size⟩
theorem Out.none (hb : Below w.heap.size w w4) (h : DIn B d w S m gs) : Out B d (foot d m gs) w S w4 := Out.of hb (h.below hb) (Tur.refl _ _) (Fre.refl _ _)
/-- What a deed came to. -/
def Rdo (B d : Nat) (m : Nat) (gs : List Fl) (w4 : World) (T : Ds) (w' : World) : Prop := ∃ gs', Hid (DIn B d w' T m gs') ∧ Hid (Tur (foot d m gs) w4 w') ∧ Hid (Fre (foot d m gs) (foot d m gs') w4)
theorem deed_out {e : Ending} (hb : Below w.heap.size w w4) (h : DIn B d w4 S m gs)
    (hr : (S.armed = 0 ∧ e = .returned (.int .i64 12) ∧ w' = w4.setCell ⟨d, 3, none⟩ (.bool true)) ∨ (S.armed ≠ 0 ∧ e = .returned (.int .i64 0) ∧ Rdo B d m gs w4 { T with armed := dec S.armed } w')) :
    ∃ k : Nat, e = .returned (.int .i64 k) ∧ Hid (k = (deedF S T).2) ∧ Hid (Out B d (foot d m gs) w (deedF S T).1 w') := by
  unfold deedF
  rcases hr with ⟨ha, rfl, rfl⟩ | ⟨ha, rfl, gs', hD, hT, hF⟩
  · rw [if_pos ha]
    exact ⟨12, rfl, rfl, Out.of hb (h.downs true) (Tur.setCell _ (p := ⟨d, 3, none⟩) (by simp [foot]) _) (Fre.refl _ _)⟩
  · rw [if_neg ha]
    exact ⟨0, rfl, rfl, Out.of hb hD.out hT.out hF.out⟩
theorem DIn.len (h : DIn B d w S m gs) : gs.length = S.fs.length := by rw [← h.fs, List.length_map]
theorem errs_cases (S : Ds) (s : ByteArray) (L : List ByteArray) : errs S s L = 12 ∨ errs S s L = 6 ∨ errs S s L = 7 ∨ errs S s L = 0 := by
  unfold errs; split
  · exact .inl rfl
  · split
    · exact .inr (.inl rfl)
    · split
      · exact .inr (.inr (.inr rfl))
      · exact .inr (.inr (.inl rfl))
theorem armW_has {g : Nat} {t : TypeId} {cs : Array Value} {a : Int} (h : Has w g t cs) (hd : g ≠ d) : Has (armW w d a) g t cs := h.tur (X := [d]) (armW_tur w d a (by simp)) (by simpa using hd)
end
set_option maxHeartbeats 2000000 in
set_option maxRecDepth 100000 in
theorem create_any (B d : Nat) (w : World) (S : Ds) (X : List Nat) (h : DAt B d w S X) (hB : B ≤ w.heap.size) (s : ByteArray) (hs : s.size ≤ 140737488355328) (hlen : S.fs.length ≤ 100000) :
    Calls Try.prog 29 #[.pointer (some ⟨d, 0, none⟩), .string s] w fun e w' => ∃ k : Nat, e = .returned (.int .i64 k) ∧ Hid (k = (createD S s).2) ∧ Hid (Out B d X w (createD S s).1 w') := by
  obtain ⟨m, gs, rfl, h0⟩ := h
  have H := Lib.hid h0
  have hmf : ∀ (fn : Fn) (first cap : Array Value) (w : World), (Instr.makeFunc fn first cap).run Try.prog w = .ok (.func fn first cap) w := fun _ _ _ _ => rfl
  have b1 : Below w.heap.size w (w.alloc (.cells #[.pointer (some ⟨d, 0, none⟩)] 23)) := (Below.refl _ _).alloc (Nat.le_refl _) _
  have b2 : Below w.heap.size w ((w.alloc (.cells #[.pointer (some ⟨d, 0, none⟩)] 23)).alloc (.cells #[.string s] 9)) := b1.alloc b1.size _
  have b3 : Below w.heap.size w (((w.alloc (.cells #[.pointer (some ⟨d, 0, none⟩)] 23)).alloc (.cells #[.string s] 9)).alloc (.cells #[.string s] 9)) := b2.alloc b2.size _
  have h1 := ((Has.new w 23 #[.pointer (some ⟨d, 0, none⟩)]).alloc (.cells #[.string s] 9)).alloc (.cells #[.string s] 9)
  have h2 := (Has.new (w.alloc (.cells #[.pointer (some ⟨d, 0, none⟩)] 23)) 9 #[.string s]).alloc (.cells #[.string s] 9)
  have h3 := Has.new ((w.alloc (.cells #[.pointer (some ⟨d, 0, none⟩)] 23)).alloc (.cells #[.string s] 9)) 9 #[.string s]
  have c1 := (Has.new w 23 #[.pointer (some ⟨d, 0, none⟩)]).cell 0
  have c1' := ((Has.new w 23 #[.pointer (some ⟨d, 0, none⟩)]).alloc (.cells #[.string s] 9)).cell 0
  have c2' := (Has.new (w.alloc (.cells #[.pointer (some ⟨d, 0, none⟩)] 23)) 9 #[.string s]).cell 0
  have HB3 := Lib.hid b3
  have H1 := Lib.hid h1
  have H2 := Lib.hid h2
  have H3 := Lib.hid h3
  clear b1 b2 b3 h1 h2 h3 h0
  rw [World.size_alloc] at H2 H3
  rw [World.size_alloc] at H3
  have HF := Lib.hid (find_any B d _ S m gs (H.out.below HB3.out) (w.heap.size + 1 + 1) s [] 1 rfl (by omega) (by simpa using hs) (fun i hi => by
    have hi0 : i = 0 := by simpa using hi
    subst hi0
    exact H3.out.cell 0))
  have hdl := H.out.lt d (by simp [foot])
  go_enter Try.func29, Try.ntmps29
  go_wp2_with fail
  refine HF.out.mono ?_
  rintro e w4 ⟨p, rfl, hb4, hr⟩
  have HB4 := Lib.hid (HB3.out.trans (hb4.out.mono HB3.out.size))
  have K1 := Lib.hid (H1.out.below hb4.out H1.out.lt)
  have K2 := Lib.hid (H2.out.below hb4.out H2.out.lt)
  have k1 := K1.out.cell 0
  have k2 := K2.out.cell 0
  have HD := Lib.hid (H.out.below HB4.out)
  clear HF H1 H2 H3 HB3 hb4 c1 c1' c2'
  have HC : Hid ((createD S s) = if errs S s [] = 7 then deedF S { S with fs := insP ⟨nmO s, [], 0⟩ (delP (nmO s) S.fs) } else if errs S s [] = 0 then (S, 8) else (S, errs S s [])) := rfl
  rcases errs_cases S s [] with he | he | he | he
  · rw [he] at hr HC ⊢
    clear he hr
    go_wp2_with fail
    go_ret
    rw [HC.out]
    exact ⟨12, rfl, rfl, Out.none HB4.out H.out⟩
  · rw [he] at hr HC ⊢
    clear he hr
    go_wp2_with fail
    go_ret
    rw [HC.out]
    exact ⟨6, rfl, rfl, Out.none HB4.out H.out⟩
  · rw [he] at hr HC ⊢
    clear he hr
    have HDD := Lib.hid (deed_Create B d w4 S m gs HD.out #[.pointer (some ⟨w.heap.size, 0, none⟩), .pointer (some ⟨w.heap.size + 1, 0, none⟩)] (Rdo B d m gs w4 { { S with fs := insP ⟨nmO s, [], 0⟩ (delP (nmO s) S.fs) } with armed := dec S.armed })
      fun ha => (create1_any B d (armW w4 d S.armed) { S with armed := dec S.armed } m gs HD.out.armW w.heap.size (w.heap.size + 1) s hs (by rw [H.out.len]; exact hlen) (by rw [armW_size]; exact Nat.le_trans hB HB4.out.size)
        (armW_has K1.out (by omega)) (armW_has K2.out (by omega))).mono fun e w5 ⟨he, gs', hD5, hT5, hF5⟩ => ⟨he, gs', hD5, (armW_tur w4 d S.armed (by simp [foot])).trans (hT5.out.sub (by simp [foot])) (Fre.refl _ _), hF5.out.old (by rw [armW_size]; exact Nat.le_refl _)⟩)
    go_wp2_with fail
    refine HDD.out.mono ?_
    rintro e w5 h5
    obtain ⟨k, rfl, hk, hO⟩ := deed_out (T := { S with fs := insP ⟨nmO s, [], 0⟩ (delP (nmO s) S.fs) }) HB4.out HD.out h5
    clear h5 HDD
    go_wp2_with fail
    go_ret
    rw [HC.out]
    exact ⟨k, rfl, hk, hO⟩
  · rw [he] at hr HC ⊢
    clear he hr
    go_wp2_with fail
    go_ret
    rw [HC.out]
    exact ⟨8, rfl, rfl, Out.none HB4.out H.out⟩
end Go.Proofs.Ytoooainecoappaa
