/-
  The document's example.
-/
import Derived.Test.YtcdjeibcnkpadaaDoorWnO
namespace Go.Proofs.YtcdjeibcnkpadaaDoor
open Go.RowKit Go.Maps Dg
set_option maxRecDepth 100000
set_option linter.unusedVariables false
abbrev tT : ByteArray := ⟨#[116]⟩
abbrev tId : ByteArray := ⟨#[105, 100]⟩
abbrev tN : ByteArray := ⟨#[]⟩
def colI : Cl := ⟨tId, 2, false⟩
def valI (n : Int) : Vl := ⟨2, n, tN⟩
theorem ownC_lit (W : World) (c : Cl) : OwnC W.heap.size (W.alloc (.cells #[.string c.nm, .int .i64 c.k, .bool c.no] 47)) (.slice (some ⟨W.heap.size, 0, none⟩) 1 1) [c] :=
  ⟨rfl, .inr ⟨W.heap.size, 1, _, rfl, Nat.le_refl _, Has.new W 47 #[.string c.nm, .int .i64 c.k, .bool c.no], Nat.le_refl _, by decide, rfl, rfl⟩⟩
theorem ownV_lit (W : World) (c : Vl) : OwnV W.heap.size (W.alloc (.cells #[.int .i64 c.k, .int .i64 c.n, .string c.s] 68)) (.slice (some ⟨W.heap.size, 0, none⟩) 1 1) [c] :=
  ⟨rfl, .inr ⟨W.heap.size, 1, _, rfl, Nat.le_refl _, Has.new W 68 #[.int .i64 c.k, .int .i64 c.n, .string c.s], Nat.le_refl _, by decide, rfl, rfl⟩⟩
theorem rwAt_own {B : Nat} {w : World} {A : Option Addr} {n c : Nat} {L : List Vl} (h : OwnV B w (.slice A n c) L) (hf : ∀ x ∈ L, x.fit) : RwAt w A n c L := by
  obtain ⟨A', n', c', e, h1, h2, h3, h4, h5⟩ := ownV_open h
  injection e with e1 e2 e3
  subst e1 e2 e3
  exact ⟨h1.out, h2, h4.out, hf, h5.out⟩
theorem valI_fit {n : Int} (h0 : -9223372036854775808 ≤ n) (h1 : n ≤ 9223372036854775807) : (valI n).fit := ⟨h0, h1, by show (0 : Nat) ≤ 140737488355328; omega⟩
set_option maxHeartbeats 2000000 in
theorem lrow_any (n : Int) (w : World) : Calls Tryd.prog 25 #[.int .i64 n] w fun e w' => ∃ A, e = .returned (.slice A 1 1) ∧ Hid (OwnV w.heap.size w' (.slice A 1 1) [valI n]) ∧ Hid (Below w.heap.size w w') := by
  go_enter Tryd.func25, Tryd.ntmps25
  go_wp2_with fail
  go_ret
  exact ⟨_, rfl, ownV_lit w (valI n), (Below.refl _ w).alloc (Nat.le_refl _) _⟩
theorem sEnd (w' : World) (g : Nat) (c0 c1 c2 : Value) (tmps : Array Value) (hp : tmps.getD 0 undef = .pointer (some ⟨g, 0, none⟩)) (hh : Has w' g 26 #[c0, c1, c2]) :
    (results Tryd.f24 tmps).run Tryd.prog w' = .ok (.agg #[c0, c1, c2]) w' :=
  results_cell_row rfl _ _ g 26 #[c0, c1, c2] (0, 0) _ hp hh Tryd.underlying26 rfl (by kernel_rfl)
set_option maxHeartbeats 2000000 in
theorem lsome_any (w : World) : Calls Tryd.prog 24 #[] w fun e w' => ∃ A, e = .returned (.agg #[.string tT, .slice A 1 1, .int .i64 1]) ∧ Hid (OwnC w.heap.size w' (.slice A 1 1) [colI]) ∧ Hid (Below w.heap.size w w') := by
  go_enter Tryd.func24, Tryd.ntmps24
  go_wp2_with fail
  have HO := Lib.hid (ownC_lit (w.alloc (.cells #[.string tT, .slice (some ⟨w.heap.size + 1, 0, none⟩) 1 1, .int .i64 1] 26)) colI)
  have hsz : (w.alloc (.cells #[.string tT, .slice (some ⟨w.heap.size + 1, 0, none⟩) 1 1, .int .i64 1] 26)).heap.size = w.heap.size + 1 := by simp
  rw [hsz] at HO
  have HE := Lib.hid ((Has.new w 26 #[.string tT, .slice (some ⟨w.heap.size + 1, 0, none⟩) 1 1, .int .i64 1]).alloc (.cells #[.string tId, .int .i64 2, .bool false] 47))
  exact bodyPost_ret (v := .agg #[.string tT, .slice (some ⟨w.heap.size + 1, 0, none⟩) 1 1, .int .i64 1]) (sEnd _ w.heap.size _ _ _ _ rfl HE.out) rfl ⟨_, rfl, ownC_down HO.out (by omega), ((Below.refl _ w).alloc (Nat.le_refl _) _).alloc (by simp) _⟩
/-- Two windows in one world. -/
structure Two (w : World) (b1 t1 : Nat) (a1 : Wa) (b2 t2 : Nat) (a2 : Wa) : Prop where
  one : WinA 0 b1 t1 w a1
  two : WinA 0 b2 t2 w a2
  b : b1 ≠ b2
  t : t1 ≠ t2
theorem WinA.lt {lo b tb : Nat} {w : World} {a : Wa} (h : WinA lo b tb w a) : b < w.heap.size ∧ tb < w.heap.size := by
  obtain ⟨⟨c1, q1⟩, ⟨c2, q2⟩⟩ := h.own
  exact ⟨q1.lt, q2.lt⟩
theorem Two.below {w w' : World} {b1 t1 b2 t2 : Nat} {a1 a2 : Wa} (h : Two w b1 t1 a1 b2 t2 a2) (hb : Below w.heap.size w w') : Two w' b1 t1 a1 b2 t2 a2 := ⟨h.one.below hb, h.two.below hb, h.b, h.t⟩
theorem Two.swap {w : World} {b1 t1 b2 t2 : Nat} {a1 a2 : Wa} (h : Two w b1 t1 a1 b2 t2 a2) : Two w b2 t2 a2 b1 t1 a1 := ⟨h.two, h.one, Ne.symm h.b, Ne.symm h.t⟩
theorem Two.step {w w' : World} {b1 t1 b2 t2 t1' : Nat} {a1 a2 a1' : Wa} (h : Two w b1 t1 a1 b2 t2 a2) (h1 : WinA 0 b1 t1' w' a1') (hu : Tur [b1, t1] w w') (ht : t1' = t1 ∨ w.heap.size ≤ t1') : Two w' b1 t1' a1' b2 t2 a2 :=
  ⟨h1, h.two.turX hu (h.two.off h.one h.b h.t), h.b, ht.elim (fun e => by rw [e]; exact h.t) (fun hl e => by have := h.two.lt; omega)⟩
def aS : Wa := ⟨2, -1, [], 0, tN, tN, false, tN, false, []⟩
def exL : List (List Vl) := [[valI 1], [valI 3]]
def ex1 : Wa := ⟨2, 0, [colI], 1, tN, tT, false, keyS 1 [valI 3], false, keyed 1 exL⟩
theorem ex_open : openE aS 0 tT [colI] 1 tN exL = 0 ∧ openA aS 0 tT [colI] 1 tN exL = ex1 := by
  have h : openE aS 0 tT [colI] 1 tN exL = 0 := by decide +kernel
  refine ⟨h, ?_⟩
  unfold openA
  rw [h]
  rfl
theorem ex_two : takeE ex1 1 3 tT tN [] [valI 2] = 0 ∧ (takeA ex1 1 3 tT tN [] [valI 2]).sp = true ∧ (takeA ex1 1 3 tT tN [] [valI 2]).R.length = 0 := by decide +kernel
theorem ex_four : takeE ex1 1 3 tT tN [] [valI 4] = 0 ∧ (takeA ex1 1 3 tT tN [] [valI 4]).sp = false ∧ (takeA ex1 1 3 tT tN [] [valI 4]).R.length = 2 := by decide +kernel
theorem ex_sch : SchA ex1 1 := ⟨rfl, ⟨by decide, by decide⟩, ⟨by decide, by decide, by decide⟩, fun i hi _ => by
  have : i = 0 := by simp [ex1] at hi; omega
  subst this; rfl⟩
theorem rsIn_two {w w5 : World} {A4 A5 : Option Addr} {x y : Vl} (h4 : RwAt w5 A4 1 1 [x]) (h5 : RwAt w5 A5 1 1 [y]) (he : w = w5.alloc (.cells #[.slice A4 1 1, .slice A5 1 1] 45)) :
    RsIn w (some ⟨w5.heap.size, 0, none⟩) 2 2 [⟨A4, 1, 1⟩, ⟨A5, 1, 1⟩] [[x], [y]] := by
  subst he
  have hb := (Below.refl w5.heap.size w5).alloc (Nat.le_refl _) (.cells #[.slice A4 1 1, .slice A5 1 1] 45)
  have hn := Has.new w5 45 #[.slice A4 1 1, .slice A5 1 1]
  refine ⟨rfl, Nat.le_refl _, fun _ => ⟨w5.heap.size, 0, rfl, fun i hi => ?_⟩, rfl, fun i hi hj => ?_⟩
  · have hi2 : i = 0 ∨ i = 1 := by simp at hi; omega
    rcases hi2 with rfl | rfl
    · exact hn.cell 0
    · exact hn.cell 1
  · have hi2 : i = 0 ∨ i = 1 := by simp at hi; omega
    rcases hi2 with rfl | rfl
    · exact h4.below hb
    · exact h5.below hb
theorem rwAt_nil (w : World) : RwAt w none 0 0 [] := ⟨rfl, Nat.le_refl _, fun h => absurd rfl h, fun x hx => (by cases hx), fun _ => rfl⟩
theorem wopA_any {lo b tb : Nat} {w : World} {a : Wa} (h : WinA lo b tb w a) : Calls Tryd.prog 20 #[.pointer (some ⟨b, 0, none⟩)] w fun e w' => e = .returned (.bool a.sp) ∧ w' = w := by
  obtain ⟨A, n, c, T, h⟩ := h
  exact wsp_any h
theorem wlenA_any {lo b tb : Nat} {w : World} {a : Wa} (h : WinA lo b tb w a) : Calls Tryd.prog 21 #[.pointer (some ⟨b, 0, none⟩)] w fun e w' => e = .returned (.int .i64 (a.R.length : Int)) ∧ w' = w := by
  obtain ⟨A, n, c, T, h⟩ := h
  exact wlen_any h
theorem hcap0 {B : Nat} {w : World} {A : Option Addr} {n c : Nat} {M : List Cl} (h : OwnC B w (.slice A n c) M) : A = none → c = 0 := by
  obtain ⟨A', n', c', e, h1, h2, h3, h4, h5⟩ := ownC_open h
  injection e with e1 e2 e3
  subst e1 e2 e3
  exact h5.out
theorem hcolf : ∀ x ∈ [colI], x.fit := fun x hx => by rw [List.mem_singleton.1 hx]; exact ⟨by decide, by decide, by decide⟩
set_option maxHeartbeats 2000000 in
theorem llives_any (w : World) (hT : Tabs w) : Calls Tryd.prog 13 #[] w fun e w' => e = .returned (.bool true) ∧ Hid (Below w.heap.size w w') := by
  go_enter Tryd.func13, Tryd.ntmps13
  go_wp2_with fail
  refine (wnew_any 2 w (by decide) (by decide)).mono ?_
  rintro e w1 ⟨b1, t1, rfl, hw1, hb1⟩
  go_wp2_with fail
  refine (wnew_any 2 w1 (by decide) (by decide)).mono ?_
  rintro e w2 ⟨b2, t2, rfl, hw2, hb2⟩
  have HD2 : Hid (Two w2 b1 t1 aS b2 t2 aS) := ⟨⟨_, _, _, _, (hw1.out 0).below hb2.out.1⟩, ⟨_, _, _, _, hw2.out 0⟩, by have h : b1 < w1.heap.size := (hw1.out 0).top.lt; have := hb2.out.2.1; omega, by have h : t1 < w1.heap.size := (hw1.out 0).tr.top.lt; have := hb2.out.2.2.1; omega⟩
  have HB2 : Hid (Below w.heap.size w w2) := hb1.out.1.trans (hb2.out.1.mono hb1.out.1.size)
  have HT0 := Lib.hid hT
  have hl1 := hb1.out.2
  have hl2 : w.heap.size ≤ b2 ∧ w.heap.size ≤ t2 := by have := hb1.out.1.size; have := hb2.out.2; omega
  clear hw1 hw2 hb1 hb2 hT
  go_wp2_with fail
  refine (lsome_any w2).mono ?_
  rintro e x1 ⟨As1, rfl, hs1, hbs1⟩
  have HS1 := Lib.hid hs1.out
  have HBa1 : Hid (Below w2.heap.size w2 x1) := hbs1.out
  clear hs1 hbs1
  go_wp2_with fail
  refine (lrow_any 1 x1).mono ?_
  rintro e y1 ⟨Ay1, rfl, hs1, hbs1⟩
  have HY1 := Lib.hid hs1.out
  have HBb1 : Hid (Below x1.heap.size x1 y1) := hbs1.out
  clear hs1 hbs1
  go_wp2_with fail
  refine (lrow_any 3 y1).mono ?_
  rintro e z1 ⟨Az1, rfl, hs1, hbs1⟩
  have HZ1 := Lib.hid hs1.out
  have HBc1 : Hid (Below y1.heap.size y1 z1) := hbs1.out
  clear hs1 hbs1
  go_wp2_with fail
  obtain ⟨v1, hv1⟩ : ∃ v, v = z1.alloc (.cells #[.slice Ay1 1 1, .slice Az1 1 1] 45) := ⟨_, rfl⟩
  rw [← hv1]
  have HBd1 : Hid (Below z1.heap.size z1 v1) := by rw [hv1]; exact (Below.refl _ _).alloc (Nat.le_refl _) _
  have HRI1 := Lib.hid (rsIn_two (x := valI 1) (y := valI 3) (rwAt_own (HY1.out.below HBc1.out) (by intro x hx; rw [List.mem_singleton.1 hx]; exact valI_fit (by decide) (by decide))) (rwAt_own HZ1.out (by intro x hx; rw [List.mem_singleton.1 hx]; exact valI_fit (by decide) (by decide))) hv1)
  have HBe1 : Hid (Below w2.heap.size w2 v1) := ((HBa1.out.trans (HBb1.out.mono HBa1.out.size)).trans (HBc1.out.mono (Nat.le_trans HBa1.out.size HBb1.out.size))).trans (HBd1.out.mono (Nat.le_trans (Nat.le_trans HBa1.out.size HBb1.out.size) HBc1.out.size))
  have HCA1 := Lib.hid (((clAt_own HS1.out).below HBb1.out).below HBc1.out |>.below HBd1.out)
  clear hv1
  have HD3 := Lib.hid (HD2.out.below HBe1.out)
  have HW3 : Hid (Below w.heap.size w v1) := HB2.out.trans (HBe1.out.mono HB2.out.size)
  have HT3 := Lib.hid (HT0.out.below HW3.out)
  have HO1 := Lib.hid (wopn_any HD3.out.one (by decide) (by decide) 0 tT As1 [colI] 1 1 1 tN (some ⟨z1.heap.size, 0, none⟩) 2 2 [⟨Ay1, 1, 1⟩, ⟨Az1, 1, 1⟩] exL (by decide) HCA1.out (by decide) (hcap0 HS1.out) hcolf HRI1.out HT3.out (by decide) (Nat.zero_le _))
  rw [ex_open.1, ex_open.2] at HO1
  refine HO1.out.mono ?_
  rintro e u1 ⟨rfl, t1', hw, hu, ht⟩
  have HD4 := Lib.hid (HD3.out.step hw.out (hu.out.sub (by simp)) ht.out)
  have HU4 := Lib.hid hu.out
  have ht1 : t1' = t1 ∨ v1.heap.size ≤ t1' := ht.out
  have hl1p : w.heap.size ≤ t1' := ht.out.elim (fun e => by omega) (fun h => Nat.le_trans HW3.out.size h)
  have HW4 : Hid (Below w.heap.size w u1) := HW3.out.trans (hu.out.below (by simp; omega) HW3.out.size)
  clear hw hu ht
  go_wp2_with fail
  refine (lsome_any u1).mono ?_
  rintro e x2 ⟨As2, rfl, hs2, hbs2⟩
  have HS2 := Lib.hid hs2.out
  have HBa2 : Hid (Below u1.heap.size u1 x2) := hbs2.out
  clear hs2 hbs2
  go_wp2_with fail
  refine (lrow_any 1 x2).mono ?_
  rintro e y2 ⟨Ay2, rfl, hs2, hbs2⟩
  have HY2 := Lib.hid hs2.out
  have HBb2 : Hid (Below x2.heap.size x2 y2) := hbs2.out
  clear hs2 hbs2
  go_wp2_with fail
  refine (lrow_any 3 y2).mono ?_
  rintro e z2 ⟨Az2, rfl, hs2, hbs2⟩
  have HZ2 := Lib.hid hs2.out
  have HBc2 : Hid (Below y2.heap.size y2 z2) := hbs2.out
  clear hs2 hbs2
  go_wp2_with fail
  obtain ⟨v2, hv2⟩ : ∃ v, v = z2.alloc (.cells #[.slice Ay2 1 1, .slice Az2 1 1] 45) := ⟨_, rfl⟩
  rw [← hv2]
  have HBd2 : Hid (Below z2.heap.size z2 v2) := by rw [hv2]; exact (Below.refl _ _).alloc (Nat.le_refl _) _
  have HRI2 := Lib.hid (rsIn_two (x := valI 1) (y := valI 3) (rwAt_own (HY2.out.below HBc2.out) (by intro x hx; rw [List.mem_singleton.1 hx]; exact valI_fit (by decide) (by decide))) (rwAt_own HZ2.out (by intro x hx; rw [List.mem_singleton.1 hx]; exact valI_fit (by decide) (by decide))) hv2)
  have HBe2 : Hid (Below u1.heap.size u1 v2) := ((HBa2.out.trans (HBb2.out.mono HBa2.out.size)).trans (HBc2.out.mono (Nat.le_trans HBa2.out.size HBb2.out.size))).trans (HBd2.out.mono (Nat.le_trans (Nat.le_trans HBa2.out.size HBb2.out.size) HBc2.out.size))
  have HCA2 := Lib.hid (((clAt_own HS2.out).below HBb2.out).below HBc2.out |>.below HBd2.out)
  clear hv2
  have HD5 := Lib.hid (HD4.out.below HBe2.out)
  have HW5 : Hid (Below w.heap.size w v2) := HW4.out.trans (HBe2.out.mono HW4.out.size)
  have HT5 := Lib.hid (HT0.out.below HW5.out)
  have HO2 := Lib.hid (wopn_any HD5.out.two (by decide) (by decide) 0 tT As2 [colI] 1 1 1 tN (some ⟨z2.heap.size, 0, none⟩) 2 2 [⟨Ay2, 1, 1⟩, ⟨Az2, 1, 1⟩] exL (by decide) HCA2.out (by decide) (hcap0 HS2.out) hcolf HRI2.out HT5.out (by decide) (Nat.zero_le _))
  rw [ex_open.1, ex_open.2] at HO2
  refine HO2.out.mono ?_
  rintro e u2 ⟨rfl, t2', hw, hu, ht⟩
  have HD6 := Lib.hid (HD5.out.swap.step hw.out (hu.out.sub (by simp)) ht.out)
  have HU6 := Lib.hid hu.out
  have ht2 : t2' = t2 ∨ v2.heap.size ≤ t2' := ht.out
  have hl2p : w.heap.size ≤ t2' := ht.out.elim (fun e => by omega) (fun h => Nat.le_trans HW5.out.size h)
  have HW6 : Hid (Below w.heap.size w u2) := HW5.out.trans (hu.out.below (by simp; omega) HW5.out.size)
  clear hw hu ht
  go_wp2_with fail
  refine (lrow_any 2 u2).mono ?_
  rintro e x3 ⟨Ax3, rfl, hs, hbs⟩
  have HX3 := Lib.hid hs.out
  have HBf3 : Hid (Below u2.heap.size u2 x3) := hbs.out
  clear hs hbs
  have HDa3 := Lib.hid (HD6.out.swap.below HBf3.out)
  have HWa3 : Hid (Below w.heap.size w x3) := HW6.out.trans (HBf3.out.mono HW6.out.size)
  have HTa3 := Lib.hid (HT0.out.below HWa3.out)
  have HK3 := Lib.hid (wtake_any HDa3.out.one 1 (fun _ _ => ex_sch) (by decide) (by decide) (by decide) 3 0 tT none 0 0 [] Ax3 1 1 [valI 2] 0 tN none 0 0 0 tN 0 false (rwAt_nil _) (rwAt_own HX3.out (by intro x hx; rw [List.mem_singleton.1 hx]; exact valI_fit (by decide) (by decide))) HTa3.out (Nat.zero_le _))
  rw [ex_two.1] at HK3
  go_wp2_with fail
  refine HK3.out.mono ?_
  rintro e u3 ⟨rfl, t3', hw, hu, ht⟩
  have HD7 := Lib.hid (HDa3.out.step hw.out hu.out ht.out)
  have HU7 := Lib.hid hu.out
  have ht3 : t3' = t1' ∨ x3.heap.size ≤ t3' := ht.out
  have HW7 : Hid (Below w.heap.size w u3) := HWa3.out.trans (hu.out.below (by simp; omega) HWa3.out.size)
  clear hw hu ht
  go_wp2_with fail
  refine (lrow_any 4 u3).mono ?_
  rintro e x4 ⟨Ax4, rfl, hs, hbs⟩
  have HX4 := Lib.hid hs.out
  have HBf4 : Hid (Below u3.heap.size u3 x4) := hbs.out
  clear hs hbs
  have HDa4 := Lib.hid (HD7.out.swap.below HBf4.out)
  have HWa4 : Hid (Below w.heap.size w x4) := HW7.out.trans (HBf4.out.mono HW7.out.size)
  have HTa4 := Lib.hid (HT0.out.below HWa4.out)
  have HK4 := Lib.hid (wtake_any HDa4.out.one 1 (fun _ _ => ex_sch) (by decide) (by decide) (by decide) 3 0 tT none 0 0 [] Ax4 1 1 [valI 4] 0 tN none 0 0 0 tN 0 false (rwAt_nil _) (rwAt_own HX4.out (by intro x hx; rw [List.mem_singleton.1 hx]; exact valI_fit (by decide) (by decide))) HTa4.out (Nat.zero_le _))
  rw [ex_four.1] at HK4
  go_wp2_with fail
  refine HK4.out.mono ?_
  rintro e u4 ⟨rfl, t4', hw, hu, ht⟩
  have HD8 := Lib.hid (HDa4.out.step hw.out hu.out ht.out)
  have HU8 := Lib.hid hu.out
  have HW8 : Hid (Below w.heap.size w u4) := HWa4.out.trans (hu.out.below (by simp; omega) HWa4.out.size)
  clear hw hu ht
  have HS1 := Lib.hid (wopA_any HD8.out.two)
  rw [ex_two.2.1] at HS1
  have HL1 := Lib.hid (wlenA_any HD8.out.two)
  rw [ex_two.2.2] at HL1
  have HS2 := Lib.hid (wopA_any HD8.out.one)
  rw [ex_four.2.1] at HS2
  have HL2 := Lib.hid (wlenA_any HD8.out.one)
  rw [ex_four.2.2] at HL2
  go_wp2_with fail
  refine HS1.out.mono ?_
  rintro e w9 ⟨rfl, rfl⟩
  go_wp2_with fail
  refine HL1.out.mono ?_
  rintro e w9 ⟨rfl, rfl⟩
  go_wp2_with fail
  refine HS2.out.mono ?_
  rintro e w9 ⟨rfl, rfl⟩
  go_wp2_with fail
  refine HL2.out.mono ?_
  rintro e w9 ⟨rfl, rfl⟩
  go_wp2_with fail
  go_ret
  exact ⟨rfl, HW8.out⟩
end Go.Proofs.YtcdjeibcnkpadaaDoor
