/-
  Put together, as far as it is used: WvH, WvQa, RFolL, WvQb, WvQd, ArgsL, WvQc.
-/
import Derived.Test.YtlnbhlgkehenpaaGreatDoorPwf
import Derived.Test.YtlnbhlgkehenpaaGreatDoorPwc
import Derived.Test.YtlnbhlgkehenpaaGreatDoorPwe
set_option linter.unusedVariables false
set_option linter.unusedSimpArgs false
set_option linter.defProp false
namespace Go.Proofs.YtlnbhlgkehenpaaGreatDoor
open Go.RowKit Go.Shelf Dg
set_option maxRecDepth 100000
attribute [local go_sem] Oper.semAt_some
def BadAt (D0 : List Td) (X : List Gr) (E : Int) : Prop := ∃ k, ∃ h : k < X.length, ∃ D, Steps D0 ((X.take k).map (·.x)) D ∧ E = stE (D.map mkT) X[k].x ∧ E ≠ 0
def LoI (D0 : List Td) (X : List Gr) (w : World) (p : Nat) (A0 : Option Addr) (n c : Nat) (pre : List Mo) (Y : List Nat) (U : World) : Prop :=
 Y = [p, p + 1, p + 2] ∧ w.heap.size = p ∧ Below p w U ∧ Has U p 22 #[.slice none 0 0] ∧ Has U (p + 1) 27 #[.int .i64 0] ∧ (∀ y ∈ pre, y.E = 0) ∧
  ((pre = [] ∧ Has U (p + 2) 22 #[.slice A0 n c]) ∨ ∃ q x, pre = q ++ [x] ∧ Has U (p + 2) 22 #[.slice x.Bl x.ml x.dl])
def LoX (D0 : List Td) (X : List Gr) (w : World) (p : Nat) (cd : Code) (pre : List Mo) (Y : List Nat) (U : World) : Prop :=
 cd = .ret ∧ Y = [p, p + 1, p + 2] ∧ w.heap.size = p ∧ Below p w U ∧ ∃ E, BadAt D0 X E ∧ Has U p 22 #[.slice none 0 0] ∧ Has U (p + 1) 27 #[.int .i64 E]
set_option maxHeartbeats 8000000 in
theorem wbehind_any (D0 : List Td) (X : List Gr) (Aw : Option Addr) (nw cw : Nat) (A0 : Option Addr) (n c : Nat) (w : World)
 (hX : X.length = nw) (hX12 : X.length ≤ 1000) (hr : GRow w Aw X) (hf : ∀ r ∈ X, r.full w) (h0 : TbI w (fun b => b < w.heap.size) A0 n c D0) (hTb : Tabs w) :
 Calls Tryz.prog 7 #[.slice A0 n c, .slice Aw nw cw] w fun e w' => (∃ E, BadAt D0 X E ∧ e = .returned (.tuple #[.slice none 0 0, .int .i64 E]) ∧ Hid (Below w.heap.size w w')) ∨ (∃ D v T', Steps D0 (X.map (·.x)) D ∧ e = .returned (.tuple #[v, .int .i64 0]) ∧ tds T' = D ∧ Hid (OwnTs w.heap.size w' v T') ∧ Hid (Below w.heap.size w w')) := by
 have HX := Lib.hid hX
 clear hX
 obtain ⟨kf, hkf⟩ : ∃ k : Nat, Hid (k = 3) := ⟨3, rfl⟩
 refine (callsIn_wide (n := kf)).1 ?_
 have hro : Fence.wide.round = none := rfl
 have hdd : ∀ k : Nat, (Fence.wide.depth.isSome = true → 1 ≤ k) := fun k h => by cases h
 refine callsIn_of_wp_marks Tryz.func7 rfl trivial ?_ rfl
 simp only [Tryz.ntmps7, List.size_toArray, List.length_cons, List.length_nil, Nat.reduceAdd, Nat.reduceSub, Array.replicate_succ, Array.replicate_zero, List.push_toArray, List.append_toArray, List.nil_append, List.cons_append]
 gi_wp2
 have HP3 : Has (((w.alloc (.cells #[.slice none 0 0] 22)).alloc (.cells #[.int .i64 0] 27)).alloc (.cells #[.slice A0 n c] 22)) w.heap.size 22 #[.slice none 0 0] := ((Has.new w _ _).alloc _).alloc _
 have HQ3 : Has (((w.alloc (.cells #[.slice none 0 0] 22)).alloc (.cells #[.int .i64 0] 27)).alloc (.cells #[.slice A0 n c] 22)) (w.heap.size + 1) 27 #[.int .i64 0] := by
  have h := Has.new (w.alloc (.cells #[.slice none 0 0] 22)) 27 #[.int .i64 0]
  rw [World.size_alloc] at h
  exact h.alloc _
 have HL3 : Has (((w.alloc (.cells #[.slice none 0 0] 22)).alloc (.cells #[.int .i64 0] 27)).alloc (.cells #[.slice A0 n c] 22)) (w.heap.size + 2) 22 #[.slice A0 n c] := by
  have h := Has.new ((w.alloc (.cells #[.slice none 0 0] 22)).alloc (.cells #[.int .i64 0] 27)) 22 #[.slice A0 n c]
  rw [World.size_alloc, World.size_alloc] at h
  exact h
 have hb3 : Below w.heap.size w (((w.alloc (.cells #[.slice none 0 0] 22)).alloc (.cells #[.int .i64 0] 27)).alloc (.cells #[.slice A0 n c] 22)) := (((Below.refl _ w).alloc (Nat.le_refl _) _).alloc (by simp) _).alloc (by simp; omega) _
 obtain ⟨W3, hW3⟩ : ∃ W, W = (((w.alloc (.cells #[.slice none 0 0] 22)).alloc (.cells #[.int .i64 0] 27)).alloc (.cells #[.slice A0 n c] 22)) := ⟨_, rfl⟩
 rw [← hW3] at HP3 HQ3 HL3 hb3 ⊢
 clear hW3
 refine And.intro trivial (And.intro (hdd _) ?_)
 refine (callsIn_wide.2 (given_any W3 Aw nw cw)).mono ?_
 rintro e w5 ⟨rfl, hw5⟩
 have hg5 : Has w5 W3.heap.size 23 #[.slice Aw nw cw] := by rw [hw5]; exact Has.new W3 _ _
 have hb5 : Below W3.heap.size W3 w5 := by rw [hw5]; exact (Below.refl _ W3).alloc (Nat.le_refl _) _
 clear hw5
 gi_wp2
 refine And.intro trivial (And.intro (hdd _) ?_)
 refine (callsIn_wide.2 (moments_any w5 A0 n c nw _ _)).mono ?_
 rintro e w6 ⟨rfl, hw6⟩
 have hb6 : Below w5.heap.size w5 w6 := by rw [hw6]; exact (((Below.refl _ w5).alloc (Nat.le_refl _) _).alloc (by simp) _).alloc (by simp; omega) _
 have ha6 : Has w6 w5.heap.size 22 #[.slice A0 n c] := by rw [hw6]; exact ((Has.new w5 _ _).alloc _).alloc _
 have hc6 : Has w6 (w5.heap.size + 1) 3 #[.int .i64 X.length] := by
  have h := Has.new (w5.alloc (.cells #[.slice A0 n c] 22)) 3 #[.int .i64 nw]
  rw [World.size_alloc] at h
  rw [hw6, HX.out]
  exact h.alloc _
 have ht6 : Has w6 (w5.heap.size + 2) 58 #[.func (.func 33) #[] #[.pointer (some ⟨W3.heap.size, 0, none⟩)]] := by
  have h := Has.new ((w5.alloc (.cells #[.slice A0 n c] 22)).alloc (.cells #[.int .i64 nw] 3)) 58 #[.func (.func 33) #[] #[.pointer (some ⟨W3.heap.size, 0, none⟩)]]
  rw [World.size_alloc, World.size_alloc] at h
  rw [hw6]
  exact h
 clear hw6
 have hg6 := hg5.below hb6 hg5.lt
 have hb36 := hb5.trans (hb6.mono hb5.size)
 have HP6 := Lib.hid (HP3.below hb36 HP3.lt)
 have HQ6 := Lib.hid (HQ3.below hb36 HQ3.lt)
 have HL6 := Lib.hid (HL3.below hb36 HL3.lt)
 have hbw6 : Below w.heap.size w w6 := hb3.trans (hb36.mono hb3.size)
 have z3 : w.heap.size + 2 < W3.heap.size := HL3.lt
 have z5 : W3.heap.size < w5.heap.size := hg5.lt
 clear hb3 HP3 HQ3 HL3 hb5 hb6 hg5 hb36
 gi_wp2
 refine wp_tellsG rfl rfl (gf := 31) (by rfl) trivial (enters_of Tryz.func31 (by kernel_rfl) rfl)
  (it_tells w D0 X W3.heap.size w5.heap.size (w5.heap.size + 1) (w5.heap.size + 2) Aw nw cw A0 n c w6 hbw6 ha6 hc6 ht6 hg6 HX.out hX12 hr hf h0 hTb) (calm_Cz _ _ _) (calm_Fz _ _ _) (fun _ h => h.elim) (Nat.le_refl _) ⟨rfl, rfl, rfl⟩ (fun _ _ => rfl)
  (by have := ha6.lt; have := hc6.lt; have := ht6.lt; have := hg6.lt; have := hbw6.size; intro b hb; omega) (fun x => rfl)
  (LoI D0 X w w.heap.size A0 n c) (LoX D0 X w w.heap.size) ?stI ?stX ?ltI [w.heap.size, w.heap.size + 1, w.heap.size + 2] (by intro b hb; simp at hb; omega) ⟨rfl, rfl, hbw6, HP6.out, HQ6.out, by simp, .inl ⟨rfl, HL6.out⟩⟩ ?loop ?done ?stop
 case stI =>
  rintro pre Y U U' Z ⟨rfl, h1, h2, h3, h4, h5, h6⟩ ht hz
  have hz1 : ∀ b ∈ Z, w6.heap.size ≤ b := fun b hb => (hz b hb).1.elim id (fun h => h.elim)
  have hs6 := hbw6.size
  refine ⟨rfl, h1, h2.trans (ht.below (fun b hb => by have := hz1 b hb; omega) h2.size), h3.tur ht (fun h => (hz _ h).2 (by simp)), h4.tur ht (fun h => (hz _ h).2 (by simp)), h5, ?_⟩
  rcases h6 with ⟨e, h6⟩ | ⟨q, x, e, h6⟩
  ·exact .inl ⟨e, h6.tur ht (fun h => (hz _ h).2 (by simp))⟩
  ·exact .inr ⟨q, x, e, h6.tur ht (fun h => (hz _ h).2 (by simp))⟩
 case stX =>
  rintro cd pre Y U U' Z ⟨hcd, rfl, h1, h2, E, hE, h3, h4⟩ ht hz
  have hz1 : ∀ b ∈ Z, w6.heap.size ≤ b := fun b hb => (hz b hb).1.elim id (fun h => h.elim)
  have hs6 := hbw6.size
  exact ⟨hcd, rfl, h1, h2.trans (ht.below (fun b hb => by have := hz1 b hb; omega) h2.size), E, hE, h3.tur ht (fun h => (hz _ h).2 (by simp)), h4.tur ht (fun h => (hz _ h).2 (by simp))⟩
 case ltI =>
  rintro pre Y U ⟨rfl, h1, h2, h3, h4, h5, h6⟩ b hb
  have l2 : w.heap.size + 2 < U.heap.size := by
   rcases h6 with ⟨e, h6⟩ | ⟨q, x, e, h6⟩
   ·exact h6.lt
   ·exact h6.lt
  simp at hb
  omega
 case loop =>
  refine ⟨?_, fun x U => U.alloc (.cells #[.int .i64 x.k, .int .i64 x.m, .string x.t, .slice x.Ab x.nb x.zb, .slice x.Aa x.na x.za, .int .i64 x.ck, .string x.ct, .slice x.A x.n x.c, .int .i64 x.K, .string x.cn, .int .i64 x.cq, .bool x.cb, .slice x.Al x.nl x.cl, .slice x.Bl x.ml x.dl] 63), fun x U => Tur.alloc [] U _, ?_, ?_⟩
  rotate_left
  ·intro m' l' x U K hK
   dsimp only [Mo.enc]
   gi_wp2
   exact hK
  ·rintro m' l' b pre x Y U0 U hb0 htb ⟨rfl, h1, h2, h3, h4, h5, h6⟩ hC
   have hbx : Has U U0.heap.size 63 #[.int .i64 x.k, .int .i64 x.m, .string x.t, .slice x.Ab x.nb x.zb, .slice x.Aa x.na x.za, .int .i64 x.ck, .string x.ct, .slice x.A x.n x.c, .int .i64 x.K, .string x.cn, .int .i64 x.cq, .bool x.cb, .slice x.Al x.nl x.cl, .slice x.Bl x.ml x.dl] := (Has.new U0 63 #[.int .i64 x.k, .int .i64 x.m, .string x.t, .slice x.Ab x.nb x.zb, .slice x.Aa x.na x.za, .int .i64 x.ck, .string x.ct, .slice x.A x.n x.c, .int .i64 x.K, .string x.cn, .int .i64 x.cq, .bool x.cb, .slice x.Al x.nl x.cl, .slice x.Bl x.ml x.dl]).tur htb (by simp; omega)
   have b12 := hbx.cell 12
   have b13 := hbx.cell 13
   have hcl : ∃ v, Has U (w.heap.size + 2) 22 #[v] := by
    rcases h6 with ⟨e, h6⟩ | ⟨q, y, e, h6⟩
    ·exact ⟨_, h6⟩
    ·exact ⟨_, h6⟩
   obtain ⟨v9, h9⟩ := hcl
   by_cases hE : x.E = 0
   ·have e1 : (x.E != 0) = false := by simpa using hE
    have f9 := h9.free 0
    have c9 := h9.cell 0
    gi_wp2
    refine ⟨[w.heap.size, w.heap.size + 1, w.heap.size + 2], ⟨rfl, rfl, h2.setCell (p := ⟨w.heap.size + 2, 0, none⟩) (by show w.heap.size ≤ w.heap.size + 2; omega) _, h3.far (p := ⟨w.heap.size + 2, 0, none⟩) (by show w.heap.size ≠ w.heap.size + 2; omega) _, h4.far (p := ⟨w.heap.size + 2, 0, none⟩) (by show w.heap.size + 1 ≠ w.heap.size + 2; omega) _, ?_, .inr ⟨pre, x, rfl, h9.put 0 _⟩⟩, Tur.setCell U (p := ⟨w.heap.size + 2, 0, none⟩) (by simp) _, Fre.refl _ _⟩
    intro y hy
    rcases List.mem_append.1 hy with hy | hy
    ·exact h5 y hy
    ·rw [List.mem_singleton.1 hy]; exact hE
   ·have e1 : (x.E != 0) = true := by simpa using hE
    have f3 := h3.free 0
    have c3 := h3.cell 0
    have f4 := h4.free 0
    have c4 := h4.cell 0
    have hbad : BadAt D0 X x.E := by
     obtain ⟨p', x', e, hl, D, hs, hx⟩ := hC
     obtain ⟨-, e'⟩ := List.append_inj' e rfl
     injection e' with e'
     subst e'
     rcases hx with ⟨hx1, hx2⟩ | ⟨_, Al, nl, cl, Bl, ml, dl, V, V', hx2, _⟩
     ·exact ⟨p'.length, hl, D, hs, by rw [hx2]; rfl, hE⟩
     ·exact absurd (by rw [hx2]; rfl) hE
    gi_wp2
    refine ⟨[w.heap.size, w.heap.size + 1, w.heap.size + 2], ⟨rfl, rfl, rfl, ?_, x.E, hbad, ?_, ?_⟩, ?_, Fre.refl _ _⟩
    ·exact (h2.setCell (p := ⟨w.heap.size, 0, none⟩) (Nat.le_refl _) _).setCell (p := ⟨w.heap.size + 1, 0, none⟩) (by show w.heap.size ≤ w.heap.size + 1; omega) _
    ·exact (h3.put 0 (.slice none 0 0)).far (p := ⟨w.heap.size + 1, 0, none⟩) (by show w.heap.size ≠ w.heap.size + 1; omega) _
    ·exact (h4.far (p := ⟨w.heap.size, 0, none⟩) (by show w.heap.size + 1 ≠ w.heap.size; omega) _).put 0 _
    ·exact (Tur.setCell U (p := ⟨w.heap.size, 0, none⟩) (by simp) _).trans (Tur.setCell _ (p := ⟨w.heap.size + 1, 0, none⟩) (by simp) _) (Fre.refl _ _)
 case done =>
  rintro D xs Y U hD hfin ⟨rfl, h1, h2, h3, h4, h5, h6⟩ hDY hDd
  have hlast : ∃ D1 Al nl cl V, Steps D0 (X.map (·.x)) D1 ∧ Has U (w.heap.size + 2) 22 #[.slice Al nl cl] ∧ TbI U V Al nl cl D1 := by
   rcases hfin with ⟨q, y, e, hy⟩ | ⟨D1, hs1, hl1, hx⟩
   ·exact absurd (h5 y (by rw [e]; simp)) hy
   ·rcases hx with hx | ⟨q, y, V, e, hV⟩
    ·rcases h6 with ⟨_, h6⟩ | ⟨q, y, e, _⟩
     ·have hX0 : X = [] := List.eq_nil_of_length_eq_zero (by rw [← hl1, hx]; rfl)
      refine ⟨D0, A0, n, c, _, by rw [hX0]; exact Steps.nil, h6, h0.tur (Tur.of_below (X := []) h2) (by simp)⟩
     ·rw [hx] at e; simp at e
    ·rcases h6 with ⟨e2, _⟩ | ⟨q2, y2, e2, h6⟩
     ·rw [e2] at e; simp at e
     ·rw [e] at e2
      obtain ⟨-, e'⟩ := List.append_inj' e2 rfl
      injection e' with e'
      subst e'
      exact ⟨D1, _, _, _, V, hs1, h6, hV⟩
  obtain ⟨D1, Al, nl, cl, V, hs1, hL, hT⟩ := hlast
  obtain ⟨T, d1, d2, d3, d4, d5, d6, d7⟩ := hT.tbW
  have cL := hL.cell 0
  clear hfin h6 h5
  gi_wp2
  refine And.intro trivial (And.intro (hdd _) ?_)
  refine (callsIn_wide.2 (copyT_any Al T nl cl U d2 (by have := hT.few; omega) d3 hT.nil)).mono ?_
  rintro e U2 ⟨v9, rfl, ho9, hb9⟩
  obtain ⟨A9, c9, rfl, g1, g2, g3, g4⟩ := ownT_row ho9.out
  rw [d2] at ho9 g1
  rw [d2]
  have HL2 := hL.below hb9.out hL.lt
  have f9 := HL2.free 0
  have k9 := HL2.cell 0
  have HL3 := Lib.hid (HL2.put 0 (.slice A9 nl c9))
  have cL3 := HL3.out.cell 0
  have hLb : w.heap.size + 2 < U.heap.size := hL.lt
  have hU2 := hb9.out.size
  obtain ⟨US, hUS⟩ : ∃ US, Hid (US = U.setCell ⟨w.heap.size + 2, 0, none⟩ (.slice A9 nl c9)) := ⟨_, rfl⟩
  obtain ⟨U3, hU3⟩ : ∃ U3, Hid (U3 = U2.setCell ⟨w.heap.size + 2, 0, none⟩ (.slice A9 nl c9)) := ⟨_, rfl⟩
  have sUS : US.heap.size = U.heap.size := by rw [hUS.out]; simp
  have sU3 : U3.heap.size = U2.heap.size := by rw [hU3.out]; simp
  have tUS : Tur [w.heap.size + 2] U US := by rw [hUS.out]; exact Tur.setCell U (p := ⟨w.heap.size + 2, 0, none⟩) (by simp) _
  have tU3 : Tur [w.heap.size + 2] U2 U3 := by rw [hU3.out]; exact Tur.setCell U2 (p := ⟨w.heap.size + 2, 0, none⟩) (by simp) _
  have hPs := h3.tur tUS (by simp)
  have hQs := h4.tur tUS (by simp)
  have hDne : D ≠ w.heap.size + 2 := fun e => by
   have q : U.heap[w.heap.size + 2]? = some (.cells #[.slice Al nl cl] 22) := hL
   rw [e, q] at hDd
   cases hDd
  have hDs : US.heap[D]? = some (.deferred (some [])) := (tUS.block D (Array.getElem?_eq_some_iff.1 hDd).1 (by simpa using hDne)).trans hDd
  have hLs : Has US (w.heap.size + 2) 22 #[.slice A9 nl c9] := by rw [hUS.out]; exact hL.put 0 _
  have hbS : Below w.heap.size w US := h2.trans (tUS.below (by simp) h2.size)
  have hbU3 : Below US.heap.size US U3 := by
   refine ⟨tU3.os.trans (hb9.out.os.trans tUS.os.symm), tU3.tape.trans (hb9.out.tape.trans tUS.tape.symm), tU3.output.trans (hb9.out.output.trans tUS.output.symm), by omega, fun b hb => ?_⟩
   by_cases e : b = w.heap.size + 2
   ·subst e
    have q1 : U3.heap[w.heap.size + 2]? = _ := (by rw [hU3.out]; exact HL3.out : Has U3 (w.heap.size + 2) 22 #[.slice A9 nl c9])
    exact q1.trans (hLs : US.heap[w.heap.size + 2]? = _).symm
   ·rw [tU3.block b (by omega) (by simp [e]), tUS.block b (by omega) (by simp [e])]
    exact hb9.out.block b (by omega)
  have hO3 : OwnT U.heap.size U3 (.slice A9 nl c9) T := by rw [hU3.out]; exact OwnT.far ho9.out (p := ⟨w.heap.size + 2, 0, none⟩) hLb _
  have PS := Lib.hid (PSt.start (w := US) (W := U) hO3 hbU3 (by omega))
  have hTS : ∀ x ∈ T, x.L.length = x.n ∧ x.n ≤ 900 ∧ CRow US x.A x.L ∧ (x.A = none → x.c = 0) := fun x hx => ⟨(d4 x hx).len, (d4 x hx).few, (by rw [hUS.out]; exact crow_setRow (d4 x hx).row hL _), (d4 x hx).nil⟩
  have HTS := Lib.hid hTS
  gi_wp2
  have hU3' : Hid (U2.setCell ⟨w.heap.size + 2, 0, none⟩ (.slice A9 nl c9) = U3) := hU3.out.symm
  have hsp : w.heap.size + 1 + 1 = w.heap.size + 2 := rfl
  rw [hsp, hU3'.out]
  clear hb9 ho9 HL2 f9 k9 HL3 cL3 hO3 hbU3 hTS hU3 hU3' tU3
  gi_loopw [29] (fun i wr => ∃ (k : Nat) (T1 : List Tb), k ≤ nl ∧ i = .int .i64 k ∧ Hid (PSt US U3.heap.size A9 nl c9 T k wr T1)) (fun i _ => nl - (intOf i).toNat)
  case atStart => exact ⟨0, T, by omega, rfl, PS⟩
  case round =>
   obtain ⟨k, T1, hk, rfl, HS⟩ := hrel
   clear PS
   rcases Nat.lt_or_ge k nl with hlt | hge
   ·obtain ⟨g, rfl⟩ := HS.out.open_.2 hlt
    have hk0 : k < T.length := by rw [d2]; exact hlt
    obtain ⟨p1, p2, _, _⟩ := HS.out.cells hk0
    have p0 : wr.cell? ⟨g, k * 3, none⟩ = some (.string T[k].nm) := by
     have hT1 := HS.out.len
     have hk1 : k < T1.length := by rw [hT1]; exact hk0
     obtain ⟨A', c', e, _, _, hrow, _⟩ := ownT_row HS.out.own
     injection e with e1 _ _
     obtain ⟨b', off', e2, hc'⟩ := hrow (by intro e; rw [e] at hk1; simp at hk1)
     have hq := (hc' k hk1).1
     rw [← e1] at e2
     injection e2 with e2
     injection e2 with e3 e4
     subst e3 e4
     rw [HS.out.hi k hk0 hk1 (Nat.le_refl _)] at hq
     simpa using hq
    have hx := HTS.out T[k] (List.getElem_mem hk0)
    have hkz : (k : Int) < (nl : Int) := by omega
    have HLr := Lib.hid (hLs.below HS.out.bel hLs.lt)
    have hgD : g < U3.heap.size := HS.out.dom g rfl
    have hbig := HS.out.big
    have hgl : US.heap.size ≤ g := by
     obtain ⟨_, _, _, hgl⟩ := HS.out.cells hk0
     exact hgl
    have HST : Hid (∀ (w2 : World) (A8 : Option Addr) (n8 c8 : Nat), Hid (OwnC wr.heap.size w2 (.slice A8 n8 c8) T[k].L) → Hid (Below wr.heap.size wr w2) → w2.frozen? ⟨g, k * 3 + 1, none⟩ = false ∧ ∃ T2, Hid (PSt US U3.heap.size (some ⟨g, 0, none⟩) nl c9 T (k + 1) (w2.setCell ⟨g, k * 3 + 1, none⟩ (.slice A8 n8 c8)) T2)) := fun w2 A8 n8 c8 ho hb => by
     obtain ⟨q1, q2⟩ := HS.out.step1 hk0 ho.out hb.out
     exact ⟨q1, _, q2⟩
    have HCC := Lib.hid (fun (W : World) (hb : Below wr.heap.size wr W) => copyC_any T[k].A T[k].L T[k].n T[k].c W hx.1 (by have := hx.2.1; omega) ((hx.2.2.1.below HS.out.bel).below hb) hx.2.2.2)
    clear hx
    generalize T[k] = x at *
    gi_wp2
    rename_i hKr
    refine wpIn_noPanic ?_
    refine wpIn_wide.2 ?_
    obtain ⟨WA, hWA⟩ : ∃ W, Hid (W = (wr.alloc (.cells #[.string x.nm, .slice x.A x.n x.c, .int .i64 x.K] 41)).drew) := ⟨_, rfl⟩
    have hbA : Below wr.heap.size wr WA := by rw [hWA.out]; exact ((Below.refl _ wr).alloc (Nat.le_refl _) _).drew
    have hXA : Has WA wr.heap.size 41 #[.string x.nm, .slice x.A x.n x.c, .int .i64 x.K] := by rw [hWA.out]; exact (Has.new wr _ _)
    have hLA := HLr.out.below hbA HLr.out.lt
    have y1 := keepC hbA p1
    refine wp_region_held_drew (S := (fun V : World => V.cell? ⟨w.heap.size + 2, 0, none⟩ = some (.slice (some ⟨g, 0, none⟩) nl c9) ∧ V.cell? ⟨wr.heap.size, 1, none⟩ = some (.slice x.A x.n x.c))) (by kernel_rfl) (hWA.out ▸ (⟨hLA.cell 0, hXA.cell 1⟩ : (fun V : World => V.cell? ⟨w.heap.size + 2, 0, none⟩ = some (.slice (some ⟨g, 0, none⟩) nl c9) ∧ V.cell? ⟨wr.heap.size, 1, none⟩ = some (.slice x.A x.n x.c)) WA)) (fun _ => ?_)
    rw [← hWA.out]
    have hSA : WA.cell? ⟨w.heap.size + 2, 0, none⟩ = some (.slice (some ⟨g, 0, none⟩) nl c9) ∧ WA.cell? ⟨wr.heap.size, 1, none⟩ = some (.slice x.A x.n x.c) := ⟨hLA.cell 0, hXA.cell 1⟩
    clear hWA p0 p2 HLr
    (refine wpAnyH_take (i := 0) (v := ?_) rfl (by kernel_rfl) (by kernel_rfl) (by kernel_rfl) (fun _ _ _ h => h) (Or.inl ⟨by rfl, ?_⟩) (by assumption) ?_; rotate_left; (intro w hSw; (try dsimp only at hSw); go_simp; try with_reducible rfl); ((try simp only [zA, zB, zC, Act.put, zD, zE, zF])))
    (refine wpAnyH_take (i := 1) (v := ?_) rfl (by kernel_rfl) (by kernel_rfl) (by kernel_rfl) (fun _ _ _ h => h) (Or.inl ⟨by rfl, ?_⟩) (by assumption) ?_; rotate_left; (intro w hSw; (try dsimp only at hSw); go_simp; try with_reducible rfl); ((try simp only [zA, zB, zC, Act.put, zD, zE, zF])))
    (refine wpAnyH_take (i := 2) (v := ?_) rfl (by kernel_rfl) (by kernel_rfl) (by kernel_rfl) (fun _ _ _ h => h) (Or.inl ⟨by rfl, ?_⟩) (by assumption) ?_; rotate_left; (intro w hSw; (try dsimp only at hSw); go_simp; try with_reducible rfl); ((try simp only [zA, zB, zC, Act.put, zD, zE, zF])))
    (refine wpAnyH_take (i := 3) (v := ?_) rfl (by kernel_rfl) (by kernel_rfl) (by kernel_rfl) (fun _ _ _ h => h) (Or.inl ⟨by rfl, ?_⟩) (by assumption) ?_; rotate_left; (intro w hSw; (try dsimp only at hSw); go_simp; try with_reducible rfl); ((try simp only [zA, zB, zC, Act.put, zD, zE, zF])))
    (refine wpAnyH_take (i := 4) (v := ?_) rfl (by kernel_rfl) (by kernel_rfl) (by kernel_rfl) (fun _ _ _ h => h) (Or.inl ⟨by rfl, ?_⟩) (by assumption) ?_; rotate_left; (intro w hSw; (try dsimp only at hSw); go_simp; try with_reducible rfl); ((try simp only [zA, zB, zC, Act.put, zD, zE, zF])))
    refine wpAnyH_ready (rs := [5]) (by kernel_rfl) (by simp) ?_
    refine AllReadyH.cons rfl (fun K2 hK2 => ?_) AllReadyH.nil
    go_simp
    refine (HCC.out WA hbA).mono ?_
    rintro e w2 ⟨v8, rfl, ho8, hb8⟩
    obtain ⟨A8, n8, c8, rfl, _, _, _, _, _⟩ := ownC_open ho8.out
    have hb2 : Below wr.heap.size wr w2 := hbA.trans (hb8.out.mono hbA.size)
    obtain ⟨q1, T2, S2⟩ := HST.out w2 A8 n8 c8 (Lib.hid (ownC_down ho8.out hbA.size)) (Lib.hid hb2)
    have hL2 := hLA.below hb8.out hLA.lt
    have hX2 := hXA.below hb8.out hXA.lt
    have y2 := keepC hb8.out y1
    clear HST HCC ho8
    go_wp2_with fail
    refine hK2.out _ _ (by (try dsimp only); exact ⟨hL2.cell 0, hX2.cell 1⟩) (fun _ => ?_)
    clear hK2 K2
    (try simp only [zA, zB, zC, Act.put, zD, zE, zF])
    (refine wpAnyH_take (i := 6) (v := ?_) rfl (by kernel_rfl) (by kernel_rfl) (by kernel_rfl) (fun _ _ _ h => h) (Or.inl ⟨by rfl, ?_⟩) (by assumption) ?_; rotate_left; (intro w hSw; (try dsimp only at hSw); go_simp; try with_reducible rfl); ((try simp only [zA, zB, zC, Act.put, zD, zE, zF])))
    (refine wpAnyH_take (i := 7) (v := ?_) rfl (by kernel_rfl) (by kernel_rfl) (by kernel_rfl) (fun _ _ _ h => h) (Or.inl ⟨by rfl, ?_⟩) (by assumption) ?_; rotate_left; (intro w hSw; (try dsimp only at hSw); go_simp; try with_reducible rfl); ((try simp only [zA, zB, zC, Act.put, zD, zE, zF])))
    (refine wpAnyH_take (i := 8) (v := ?_) rfl (by kernel_rfl) (by kernel_rfl) (by kernel_rfl) (fun _ _ _ h => h) (Or.inl ⟨by rfl, ?_⟩) (by assumption) ?_; rotate_left; (intro w hSw; (try dsimp only at hSw); go_simp; try with_reducible rfl); ((try simp only [zA, zB, zC, Act.put, zD, zE, zF])))
    have hL3 := hL2.far (p := ⟨g, k * 3 + 1, none⟩) (by show w.heap.size + 2 ≠ g; omega) (.slice A8 n8 c8)
    have hX3 := hX2.far (p := ⟨g, k * 3 + 1, none⟩) (by show wr.heap.size ≠ g; omega) (.slice A8 n8 c8)
    refine wpAnyH_ready (rs := [9]) (by kernel_rfl) (by simp) ?_
    refine AllReadyH.cons rfl (fun K2 hK2 => ?_) AllReadyH.nil
    go_simp
    refine hK2.out _ _ (by (try dsimp only); exact ⟨hL3.cell 0, hX3.cell 1⟩) (fun _ => ?_)
    clear hK2 K2
    (try simp only [zA, zB, zC, Act.put, zD, zE, zF])
    refine wpAnyH_done (by kernel_rfl) ?_ _
    refine hKr _ _ ?_
    clear hSA
    have hnl := hT.few
    gi_wp2
    refine ⟨⟨k + 1, T2, hlt, by go_num, S2⟩, ?_⟩
    simp [intOf]
    omega
   ·obtain rfl : k = nl := Nat.le_antisymm hk hge
    have hkz : ¬ ((k : Int) < (k : Int)) := by omega
    have hB := HS.out.bel
    have hLr := hLs.below hB hLs.lt
    have hPr := hPs.below hB hPs.lt
    have hQr := hQs.below hB hQs.lt
    have hDr := (hB.block D (by have := (Array.getElem?_eq_some_iff.1 hDs).1; omega)).trans hDs
    have cLr := hLr.cell 0
    have fPr := hPr.free 0
    have cPr := hPr.cell 0
    have fQr := hQr.free 0
    have cQr := hQr.cell 0
    have hPr2 := Lib.hid ((hPr.put 0 (.slice A9 k c9)).far (p := ⟨w.heap.size + 1, 0, none⟩) (by show w.heap.size ≠ w.heap.size + 1; omega) (.int .i64 0))
    have hQr2 := Lib.hid ((hQr.far (p := ⟨w.heap.size, 0, none⟩) (by show w.heap.size + 1 ≠ w.heap.size; omega) (.slice A9 k c9)).put 0 (.int .i64 0))
    have t9 : Tur [w.heap.size, w.heap.size + 1] wr ((wr.setCell ⟨w.heap.size, 0, none⟩ (.slice A9 k c9)).setCell ⟨w.heap.size + 1, 0, none⟩ (.int .i64 0)) := (Tur.setCell wr (p := ⟨w.heap.size, 0, none⟩) (by simp) _).trans (Tur.setCell _ (p := ⟨w.heap.size + 1, 0, none⟩) (by simp) _) (Fre.refl _ _)
    have hDl : D < US.heap.size := (Array.getElem?_eq_some_iff.1 hDs).1
    have hw6 := ha6.lt
    have hcl : Clns US.heap.size wr T T1 := by
     have h := HS.out
     rw [← d2] at h
     exact h.done (by omega)
    have hown := HS.out.own
    gi_wp2
    obtain ⟨W9, hW9⟩ : ∃ W, W = ((wr.setCell ⟨w.heap.size, 0, none⟩ (.slice A9 k c9)).setCell ⟨w.heap.size + 1, 0, none⟩ (.int .i64 0)) := ⟨_, rfl⟩
    rw [← hW9] at t9 hPr2 hQr2 ⊢
    have hd9 : W9.heap[D]? = some (.deferred (some [])) := (t9.block D (Array.getElem?_eq_some_iff.1 hDr).1 (by simp; omega)).trans hDr
    have htD : Tur [D] W9 (W9.putObj D (.deferred none)) := Tur.putObj W9 (by simp) _
    have tE : Tur [w.heap.size, w.heap.size + 1, D] wr (W9.putObj D (.deferred none)) := (t9.sub (by simp)).trans (htD.sub (by simp)) (Fre.refl _ _)
    have hlo : ∀ b ∈ [w.heap.size, w.heap.size + 1, D], b < US.heap.size := by simp; omega
    refine ⟨by simp, .inl ⟨_, _, rfl, run_takeDeferred hd9, ?_⟩⟩
    have hHP := hPr2.out.tur htD (by simp; omega)
    have hHQ := hQr2.out.tur htD (by simp; omega)
    refine ⟨.tuple #[.slice A9 k c9, .int .i64 0], ?_, .inr ⟨D1, hs1, _, rfl, T1, hcl.td.trans d1, ⟨ownT_down (hown.turLo tE hlo) (by omega), fun x hx => ownC_down ((hcl.cols x hx).turLo tE hlo) (by omega)⟩, ?_⟩⟩
    ·rw [results_cc (fn := Tryz.f7) rfl]
     simp only [Array.getD_eq_getD_getElem?, zG, zI, zH, Option.getD_some, asAddr, Sem.run_pure, Result.andThen_ok]
     rw [run_loadVar_one _ _ _ _ _ _ hHP Tryz.underlying22 rfl]
     simp only [Result.andThen_ok]
     rw [run_loadVar_one _ _ _ _ _ _ hHQ Tryz.underlying27 rfl]
     rfl
    ·exact (hbS.trans (hB.mono hbS.size)).trans (tE.below (B := w.heap.size) (by simp; omega) (Nat.le_trans hbS.size hB.size))
 case stop =>
  rintro D cd pre Y U hD ⟨rfl, rfl, h1, h2, E, hE, h3, h4⟩ hDY hDd
  gi_wp2
  have hs6 := hbw6.size
  have z6 : w5.heap.size < w6.heap.size := ha6.lt
  have htD : Tur [D] U (U.putObj D (.deferred none)) := Tur.putObj U (by simp) _
  refine ⟨by simp, .inl ⟨_, _, rfl, run_takeDeferred hDd, ?_⟩⟩
  have hHP := h3.tur htD (by simp; omega)
  have hHQ := h4.tur htD (by simp; omega)
  refine ⟨.tuple #[.slice none 0 0, .int .i64 E], ?_, .inl ⟨E, hE, rfl, ?_⟩⟩
  ·rw [results_cc (fn := Tryz.f7) rfl]
   simp only [Array.getD_eq_getD_getElem?, zG, zI, zH, Option.getD_some, asAddr, Sem.run_pure, Result.andThen_ok]
   rw [run_loadVar_one _ _ _ _ _ _ hHP Tryz.underlying22 rfl]
   simp only [Result.andThen_ok]
   rw [run_loadVar_one _ _ _ _ _ _ hHQ Tryz.underlying27 rfl]
   rfl
  ·exact h2.trans (htD.below (B := w.heap.size) (by simp; omega) h2.size)
end Go.Proofs.YtlnbhlgkehenpaaGreatDoor
namespace Go.Proofs.YtlnbhlgkehenpaaGreatDoor
open Go.RowKit Dg
theorem rev_ind {α : Type} {motive : List α → Prop} (nil : motive []) (append_singleton : ∀ xs x, motive xs → motive (xs ++ [x])) (xs : List α) : motive xs := by
 have h : ∀ ys : List α, motive ys.reverse := by
  intro ys
  induction ys with
  | nil => exact nil
  | cons y ys ih => rw [List.reverse_cons]; exact append_singleton _ _ ih
 have := h xs.reverse
 rwa [List.reverse_reverse] at this
theorem steps_last {D : List Td} {xs : List Wd} {x : Wd} {D2 : List Td} (h : Steps D (xs ++ [x]) D2) : ∃ D1, Steps D xs D1 ∧ stE (D1.map mkT) x = 0 ∧ D2 = stD (D1.map mkT) x := by
 generalize e : xs ++ [x] = ys at h
 cases h with
 | nil => simp at e
 | snoc y h1 h2 =>
   have e2 := List.append_inj' e rfl
   obtain ⟨rfl, e3⟩ := e2
   injection e3 with e3
   subst e3
   exact ⟨_, h1, h2, rfl⟩
theorem steps_none {D D2 : List Td} (h : Steps D [] D2) : D2 = D := by
 generalize e : ([] : List Wd) = ys at h
 cases h with
 | nil => rfl
 | snoc y h1 h2 => simp at e
theorem steps_cut {D : List Td} {xs ys : List Wd} : ∀ {D2 : List Td}, Steps D (xs ++ ys) D2 → ∃ D1, Steps D xs D1 ∧ Steps D1 ys D2 := by
 induction ys using rev_ind with
 | nil => intro D2 h; rw [List.append_nil] at h; exact ⟨D2, h, .nil⟩
 | append_singleton ys y ih =>
   intro D2 h
   rw [← List.append_assoc] at h
   obtain ⟨D3, h1, h2, rfl⟩ := steps_last h
   obtain ⟨D1, h3, h4⟩ := ih h1
   exact ⟨D1, h3, .snoc y h4 h2⟩
theorem steps_join {D D1 : List Td} {xs : List Wd} (h : Steps D xs D1) : ∀ {ys : List Wd} {D2 : List Td}, Steps D1 ys D2 → Steps D (xs ++ ys) D2 := by
 intro ys
 induction ys using rev_ind with
 | nil => intro D2 h2; obtain rfl := steps_none h2; rw [List.append_nil]; exact h
 | append_singleton ys y ih =>
   intro D2 h2
   obtain ⟨D3, h3, h4, rfl⟩ := steps_last h2
   rw [← List.append_assoc]
   exact .snoc y (ih h3) h4
theorem steps_fun {D : List Td} : ∀ {xs : List Wd} {D1 D2 : List Td}, Steps D xs D1 → Steps D xs D2 → D1 = D2 := by
 intro xs
 induction xs using rev_ind with
 | nil => intro D1 D2 h1 h2; rw [steps_none h1, steps_none h2]
 | append_singleton xs x ih =>
   intro D1 D2 h1 h2
   obtain ⟨A, a1, _, rfl⟩ := steps_last h1
   obtain ⟨B, b1, _, rfl⟩ := steps_last h2
   rw [ih a1 b1]
theorem steps_may {D : List Td} {xs : List Wd} {D2 : List Td} (h : Steps D xs D2) (k : Nat) (hk : k < xs.length) {D1 : List Td} (h1 : Steps D (xs.take k) D1) : stE (D1.map mkT) xs[k] = 0 := by
 have e : xs.take k ++ ([xs[k]] ++ xs.drop (k + 1)) = xs := by
  rw [List.singleton_append, ← List.drop_eq_getElem_cons, List.take_append_drop]
 rw [← e, ← List.append_assoc] at h
 obtain ⟨D3, h3, _⟩ := steps_cut h
 obtain ⟨D4, h4, h5, _⟩ := steps_last h3
 rw [steps_fun h1 h4]
 exact h5
theorem map_take14 (X : List Gr) (k : Nat) : (X.take k).map (·.x) = (X.map (·.x)).take k := List.map_take
theorem bad_not {D : List Td} {X : List Gr} {E : Int} (h : BadAt D X E) {D2 : List Td} (h2 : Steps D (X.map (·.x)) D2) : False := by
 obtain ⟨k, hk, D1, h1, e, hE⟩ := h
 have hk2 : k < (X.map (·.x)).length := by simpa using hk
 rw [map_take14] at h1
 have := steps_may h2 k hk2 h1
 rw [List.getElem_map] at this
 exact hE (e.trans this)
theorem bad_fun {D : List Td} {X : List Gr} {E E' : Int} (h : BadAt D X E) (h' : BadAt D X E') : E = E' := by
 obtain ⟨k, hk, D1, h1, e, hE⟩ := h
 obtain ⟨j, hj, D2, h2, e', hE'⟩ := h'
 rw [map_take14] at h1 h2
 rcases Nat.lt_trichotomy k j with hlt | rfl | hlt
 ·exfalso
  have h3 : Steps D (((X.map (·.x)).take j).take k) D1 := by rw [List.take_take, Nat.min_eq_left (by omega)]; exact h1
  have := steps_may h2 k (by simp; omega) h3
  simp only [List.getElem_take, List.getElem_map] at this
  exact hE (e.trans this)
 ·rw [e, e', steps_fun h1 h2]
 ·exfalso
  have h3 : Steps D (((X.map (·.x)).take k).take j) D2 := by rw [List.take_take, Nat.min_eq_left (by omega)]; exact h2
  have := steps_may h1 j (by simp; omega) h3
  simp only [List.getElem_take, List.getElem_map] at this
  exact hE' (e'.trans this)
theorem steps_rt {D : List Td} (hR : RtD D) (hl : D.length ≤ 64) : ∀ {xs : List Wd} {D2 : List Td}, Steps D xs D2 → RtD D2 ∧ D2.length ≤ 64 := by
 intro xs
 induction xs using rev_ind with
 | nil => intro D2 h; rw [steps_none h]; exact ⟨hR, hl⟩
 | append_singleton xs x ih =>
   intro D2 h
   obtain ⟨A, a1, a2, rfl⟩ := steps_last h
   obtain ⟨h1, h2⟩ := ih a1
   exact stD_rt h1 h2 a2
set_option maxRecDepth 100000
def LocT (w : World) (T : List Tb) (A' : Option Addr) (L' : List Cl) (T' : List Tb) : Prop := ∀ y ∈ T', (∃ x ∈ T, x.A = y.A) ∨ (y.A = A' ∧ y.L = L') ∨ ∀ a, y.A = some a → w.heap.size ≤ a.block
theorem fcT_loc {w : World} {T : List Tb} {tn : ByteArray} {A' : Option Addr} {n' c' : Nat} {L' : List Cl} {K' : Int} : LocT w T A' L' (fcT T tn A' n' c' L' K') := by
 by_cases h : fcE T tn L' K' = 0
 ·rw [fcT_ok h]
  intro x hx
  rw [List.append_assoc, List.mem_append] at hx
  rcases hx with hx | hx
  ·exact .inl ⟨x, List.mem_of_mem_take hx, rfl⟩
  ·rw [List.singleton_append, List.mem_cons] at hx
   rcases hx with rfl | hx
   ·exact .inr (.inl ⟨rfl, rfl⟩)
   ·exact .inl ⟨x, List.mem_of_mem_drop hx, rfl⟩
 ·rw [fcT_bad h]; exact fun x hx => by cases hx
set_option maxHeartbeats 2000000 in
theorem rfollow_loc (A : Option Addr) (T : List Tb) (n c : Nat) (ck : Int) (tn : ByteArray) (A' : Option Addr) (n' c' : Nat) (L' : List Cl) (K' : Int) (cn : ByteArray) (kd : Int) (no : Bool) (w : World) (hn : T.length = n) (hnc : n ≤ c) (hcm : c ≤ maxLen) (hl : n ≤ 900) (hA : TRow w A T) (hA0 : A = none → c = 0) (hI : TOks w T) (hS : SortT T) (hsm : ∀ x ∈ T, 0 < x.L.length ∧ x.L.length ≤ 800)
 (hn' : L'.length = n') (hnc' : n' ≤ c') (hcm' : c' ≤ maxLen) (hA' : CRow w A' L') (hA0' : A' = none → c' = 0) :
 Calls Tryz.prog 13 #[.slice A n c, .agg #[.int .i64 ck, .string tn, .slice A' n' c', .int .i64 K', .string cn, .int .i64 kd, .bool no]] w fun e w' => ∃ v T', e = .returned (.tuple #[v, .int .i64 (foE T ck tn L' K' cn kd no)]) ∧ Hid (OwnT w.heap.size w' v T') ∧ Hid (TOks w' T') ∧ Hid (tds T' = foD T ck tn L' K' cn kd no) ∧ Hid (LocT w T A' L' T') ∧ Hid (Below w.heap.size w w') := by
 by_cases h1 : ck = 1
 ·subst h1
  refine (rfolC_any A T n c tn A' n' c' L' K' cn kd no w hn hnc hcm hl hA hA0 hS hn' hA').mono ?_
  rintro e w' ⟨v, rfl, ho, hb⟩
  exact ⟨v, _, by rw [foE_c], ho, fcT_oks hI hb.out hn' hnc' hcm' hA' hA0', fcT_td, fcT_loc, hb⟩
 have HB0 := Lib.hid ((Below.refl w.heap.size w).alloc (Nat.le_refl _) (.cells #[.int .i64 ck, .string tn, .slice A' n' c', .int .i64 K', .string cn, .int .i64 kd, .bool no] 48))
 have HX0 := Lib.hid (Has.new w 48 #[.int .i64 ck, .string tn, .slice A' n' c', .int .i64 K', .string cn, .int .i64 kd, .bool no])
 have HAT := Lib.hid (fun (W : World) (hb : Below w.heap.size w W) => at_any A T n c tn W hn (by omega) (hA.below hb))
 have HN := Lib.hid hn
 have HA := Lib.hid hA
 have HI := Lib.hid hI
 have HSM := Lib.hid hsm
 have hcm1 : c ≤ 2 ^ 63 - 1 := by unfold maxLen at hcm; exact hcm
 rcases hp : plF T tn with _ | _
 ·have HTI := Lib.hid (tat_no hS hp)
  have HE := Lib.hid (foE_none (L' := L') (K' := K') (cn := cn) (kd := kd) (no := no) h1 hp)
  clear hn hA hA' hn' hI hsm hS hA0'
  go_enter Tryz.func13, Tryz.ntmps13
  go_wp2_with fail
  refine (HAT.out _ HB0.out).mono ?_
  rintro e w1 ⟨rfl, rfl⟩
  rw [HTI.out]
  go_wp2_with fail
  go_ret2
  exact ⟨_, [], by rw [HE.out]; rfl, ownT_nil _ _, (fun x hx => by cases hx), by show _ = _; rw [foD_bad (by rw [HE.out]; omega)]; rfl, (fun y hy => by cases hy), HB0⟩
 ·have hkl := plF_lt hp
  have HTI := Lib.hid (tat_yes hp)
  obtain ⟨b, off, rfl, hcc⟩ := hA (by intro e; rw [e] at hkl; simp at hkl)
  have HTD := Lib.hid (tds_ins T)
  have hx := hI T[lbN T tn] (List.getElem_mem hkl)
  have hxs := hsm T[lbN T tn] (List.getElem_mem hkl)
  obtain ⟨c0, c1, c2⟩ := hcc _ hkl
  have hnm : T[lbN T tn].nm = tn := by
   have h := plF_at hkl
   rw [hp] at h
   exact bytes_inj h.symm
  rw [hnm] at c0
  have HE2 := Lib.hid (foE_drop (L' := L') (K' := K') (cn := cn) (kd := kd) (no := no) hp)
  have HD2 := Lib.hid (foD_drop (L' := L') (K' := K') (cn := cn) (kd := kd) (no := no) hp)
  have HE := Lib.hid (fun h2 => foE_alter (L' := L') (K' := K') (cn := cn) (kd := kd) (no := no) h1 h2 hp hkl)
  have HD := Lib.hid (fun h2 => foD_alter (L' := L') (K' := K') (cn := cn) (kd := kd) (no := no) h1 h2 hp hkl)
  have HBD := Lib.hid (foD_bad (T := T) (ck := ck) (tn := tn) (L' := L') (K' := K') (cn := cn) (kd := kd) (no := no))
  have hk1 : lbN T tn + 1 ≤ n := by rw [← hn]; omega
  clear hn hA hA' hn' hI hsm hS hA0' hcc hnm
  obtain ⟨k, hk⟩ : ∃ k, lbN T tn = k := ⟨_, rfl⟩
  simp only [hk] at HE HD HD2 HTI c0 c1 c2 hx hxs hk1
  generalize T[k]'(by rw [← hk]; exact hkl) = x at *
  obtain ⟨xs, xA, xn, xc, xL, xK⟩ := x
  simp only at c1 c2 HE HD hxs
  clear hkl
  have hkz : (k : Int) < (n : Int) := by omega
  have hkc : (k : Int) ≤ (c : Int) := by omega
  have hkz1 : (k : Int) + 1 ≤ (n : Int) := by omega
  have hkz2 : (k : Int) + 1 ≤ (c : Int) := by omega
  have hkz3 : (n : Int) ≤ (c : Int) := by omega
  by_cases h2 : ck = 2
  ·subst h2
   by_cases hck : c = k + 1
   ·obtain rfl : n = k + 1 := by omega
    subst hck
    go_enter Tryz.func13, Tryz.ntmps13
    go_wp2_with fail
    refine (HAT.out _ HB0.out).mono ?_
    rintro e w1 ⟨rfl, rfl⟩
    rw [HTI.out]
    obtain ⟨w1, hw1⟩ : ∃ w1, (w.alloc (.cells #[.int .i64 2, .string tn, .slice A' n' c', .int .i64 K', .string cn, .int .i64 kd, .bool no] 48)) = w1 := ⟨_, rfl⟩
    rw [hw1] at HB0 HX0 ⊢
    clear hw1
    have x0 : w1.cell? ⟨w.heap.size, 0, none⟩ = some (.int .i64 2) := HX0.out.cell 0
    have HA1 := Lib.hid (appTs w1 (w.heap.size + 1) (.slice none 0 0) [] (ownT_nil _ _) HX0.out.lt (some ⟨b, off, none⟩) (T.take k) k (k + 1) (by rw [List.length_take]; have := HN.out; omega) ((HA.out.below HB0.out).take k) (fun e => by cases e) (by have := HN.out; simp <;> omega))
    go_wp2_with (first
     | (at_builtin; refine wpList_app rfl _ _ 22 22 rfl (.slice none 0 0) (.slice (some ⟨b, off, none⟩) k (k + 1)) rfl rfl ?_; obtain ⟨R, W1, hrun, hm1, hm2⟩ := HA1.out; refine ⟨R, W1, hrun, ?_⟩; obtain ⟨A7, n7, c7, hR, HN7, hnc7, hcm7, _, _⟩ := ownT_open hm1; subst hR; have HB1 := Lib.hid (HB0.out.trans (hm2.mono (by omega))); have HX1 := Lib.hid (HX0.out.below hm2 (by omega)); have HO1 := Lib.hid hm1; have q0 : W1.cell? ⟨w.heap.size, 0, none⟩ = some (.int .i64 2) := HX1.out.cell 0; have HA3 := Lib.hid (appTs W1 (w.heap.size + 1) (.slice A7 n7 c7) _ hm1 HX1.out.lt (some ⟨b, off, none⟩) (T.drop (k + 1)) 0 0 (by rw [List.length_drop]; have := HN.out; omega) (by rw [List.drop_eq_nil_of_le (by have := HN.out; omega)]; exact fun h => absurd rfl h) (fun e => by cases e) (by have := HN.out; simp <;> omega)); clear hrun hm1 hm2 HA1)
     | (at_builtin; refine wpList_app rfl _ _ 22 22 rfl (.slice A7 n7 c7) (.slice (some ⟨b, off, none⟩) 0 0) rfl rfl ?_; obtain ⟨R, W3, hrun, hm1, hm2⟩ := HA3.out; refine ⟨R, W3, hrun, ?_⟩; have HO := Lib.hid hm1; have HB5 := Lib.hid (HB1.out.trans (hm2.mono (by omega))); clear hrun hm1 hm2 HA3))
    go_ret2
    exact ⟨_, _, by rw [HE2.out]; rfl, ownT_down HO.out (by omega), (fun y hy => by
     rw [List.nil_append, List.mem_append] at hy
     rcases hy with hy | hy
     ·exact (HI.out y (List.mem_of_mem_take hy)).below HB5.out
     ·exact (HI.out y (List.mem_of_mem_drop hy)).below HB5.out), by show _ = _; rw [HD2.out, List.nil_append, tds_del], (fun y hy => by rw [List.nil_append, List.mem_append] at hy; exact .inl ⟨y, hy.elim List.mem_of_mem_take List.mem_of_mem_drop, rfl⟩), HB5⟩
   ·go_enter Tryz.func13, Tryz.ntmps13
    go_wp2_with fail
    refine (HAT.out _ HB0.out).mono ?_
    rintro e w1 ⟨rfl, rfl⟩
    rw [HTI.out]
    obtain ⟨w1, hw1⟩ : ∃ w1, (w.alloc (.cells #[.int .i64 2, .string tn, .slice A' n' c', .int .i64 K', .string cn, .int .i64 kd, .bool no] 48)) = w1 := ⟨_, rfl⟩
    rw [hw1] at HB0 HX0 ⊢
    clear hw1
    have x0 : w1.cell? ⟨w.heap.size, 0, none⟩ = some (.int .i64 2) := HX0.out.cell 0
    have HA1 := Lib.hid (appTs w1 (w.heap.size + 1) (.slice none 0 0) [] (ownT_nil _ _) HX0.out.lt (some ⟨b, off, none⟩) (T.take k) k c (by rw [List.length_take]; have := HN.out; omega) ((HA.out.below HB0.out).take k) (fun e => by cases e) (by have := HN.out; simp <;> omega))
    go_wp2_with (first
     | (at_builtin; refine wpList_app rfl _ _ 22 22 rfl (.slice none 0 0) (.slice (some ⟨b, off, none⟩) k c) rfl rfl ?_; obtain ⟨R, W1, hrun, hm1, hm2⟩ := HA1.out; refine ⟨R, W1, hrun, ?_⟩; obtain ⟨A7, n7, c7, hR, HN7, hnc7, hcm7, _, _⟩ := ownT_open hm1; subst hR; have HB1 := Lib.hid (HB0.out.trans (hm2.mono (by omega))); have HX1 := Lib.hid (HX0.out.below hm2 (by omega)); have HO1 := Lib.hid hm1; have q0 : W1.cell? ⟨w.heap.size, 0, none⟩ = some (.int .i64 2) := HX1.out.cell 0; have HA3 := Lib.hid (appTs W1 (w.heap.size + 1) (.slice A7 n7 c7) _ hm1 HX1.out.lt (some ⟨b, off + (k + 1) * 3, none⟩) (T.drop (k + 1)) (n - (k + 1)) (c - (k + 1)) (by rw [List.length_drop]; have := HN.out; omega) (by have h : TRow W1 _ T := HA.out.below HB1.out; exact h.drop (k + 1)) (fun e => by cases e) (by have := HN.out; simp <;> omega)); clear hrun hm1 hm2 HA1)
     | (at_builtin; refine wpList_app rfl _ _ 22 22 rfl (.slice A7 n7 c7) (.slice (some ⟨b, off + (k + 1) * 3, none⟩) (n - (k + 1)) (c - (k + 1))) rfl rfl ?_; obtain ⟨R, W3, hrun, hm1, hm2⟩ := HA3.out; refine ⟨R, W3, hrun, ?_⟩; have HO := Lib.hid hm1; have HB5 := Lib.hid (HB1.out.trans (hm2.mono (by omega))); clear hrun hm1 hm2 HA3))
    go_ret2
    exact ⟨_, _, by rw [HE2.out]; rfl, ownT_down HO.out (by omega), (fun y hy => by
     rw [List.nil_append, List.mem_append] at hy
     rcases hy with hy | hy
     ·exact (HI.out y (List.mem_of_mem_take hy)).below HB5.out
     ·exact (HI.out y (List.mem_of_mem_drop hy)).below HB5.out), by show _ = _; rw [HD2.out, List.nil_append, tds_del], (fun y hy => by rw [List.nil_append, List.mem_append] at hy; exact .inl ⟨y, hy.elim List.mem_of_mem_take List.mem_of_mem_drop, rfl⟩), HB5⟩
  ·have HE := Lib.hid (HE.out h2)
   have HD := Lib.hid (HD.out h2)
   go_enter Tryz.func13, Tryz.ntmps13
   go_wp2_with fail
   refine (HAT.out _ HB0.out).mono ?_
   rintro e w1 ⟨rfl, rfl⟩
   rw [HTI.out]
   obtain ⟨w1, hw1⟩ : ∃ w1, (w.alloc (.cells #[.int .i64 ck, .string tn, .slice A' n' c', .int .i64 K', .string cn, .int .i64 kd, .bool no] 48)) = w1 := ⟨_, rfl⟩
   rw [hw1] at HB0 HX0 ⊢
   clear hw1
   have x0 : w1.cell? ⟨w.heap.size, 0, none⟩ = some (.int .i64 ck) := HX0.out.cell 0
   have HA1 := Lib.hid (appTs w1 (w.heap.size + 1) (.slice none 0 0) [] (ownT_nil _ _) HX0.out.lt (some ⟨b, off, none⟩) (T.take k) k c (by rw [List.length_take]; have := HN.out; omega) ((HA.out.below HB0.out).take k) (fun e => by cases e) (by have := HN.out; simp <;> omega))
   go_wp2_with (first
    | (at_builtin; refine wpList_app rfl _ _ 22 22 rfl (.slice none 0 0) (.slice (some ⟨b, off, none⟩) k c) rfl rfl ?_; obtain ⟨R, W1, hrun, hm1, hm2⟩ := HA1.out; refine ⟨R, W1, hrun, ?_⟩; obtain ⟨A7, n7, c7, hR, HN7, hnc7, hcm7, _, _⟩ := ownT_open hm1; subst hR; have HB1 := Lib.hid (HB0.out.trans (hm2.mono (by omega))); have HX1 := Lib.hid (HX0.out.below hm2 (by omega)); have HO1 := Lib.hid hm1; have q0 : W1.cell? ⟨w.heap.size, 0, none⟩ = some (.int .i64 ck) := HX1.out.cell 0; clear hrun hm1 hm2 HA1))
   have hlen : xL.length = xn := hx.len
   have HAP := Lib.hid (fun (W : World) (hb : Below w.heap.size w W) => rapply_any xA xL xn xc xK ck tn A' n' c' K' cn kd no W hlen (by omega) hx.few (hx.row.below hb))
   have HLN := Lib.hid (apply_len (L := xL) (K := xK) (ck := ck) (cn := cn) (kd := kd) (no := no) hxs.2)
   have hbr : Hid (Below w.heap.size w W1) := HB1
   have hW1s : w.heap.size ≤ W1.heap.size := hbr.out.size
   have hb0 : Hid (Below w.heap.size w W1.drew) := HB1.out.drew
   have hw0 : Hid (Below W1.heap.size W1 W1.drew) := (Below.refl _ W1).drew
   have p0 : W1.cell? ⟨b, off + k * 3, none⟩ = some (.string tn) := (HB1.out.cell (World.block_lt_of_cell? _ _ c0)).trans c0
   have p1 : W1.cell? ⟨b, off + k * 3 + 1, none⟩ = some (.slice xA xn xc) := (HB1.out.cell (World.block_lt_of_cell? _ _ c1)).trans c1
   have p2 : W1.cell? ⟨b, off + k * 3 + 2, none⟩ = some (.int .i64 xK) := (HB1.out.cell (World.block_lt_of_cell? _ _ c2)).trans c2
   have hbk : b < w.heap.size + 1 := by have := World.block_lt_of_cell? _ _ c1; simp at this; omega
   have hne0 : W1.heap.size ≠ w.heap.size := by have := HX1.out.lt; omega
   have hneb : W1.heap.size ≠ b := by have := World.block_lt_of_cell? _ _ p1; intro e; simp at this; omega
   have d0 : W1.drew.cell? ⟨w.heap.size, 0, none⟩ = some (.int .i64 ck) := HX1.out.drew.cell 0
   have d1 : W1.drew.cell? ⟨w.heap.size, 1, none⟩ = some (.string tn) := HX1.out.drew.cell 1
   have d2 : W1.drew.cell? ⟨w.heap.size, 2, none⟩ = some (.slice A' n' c') := HX1.out.drew.cell 2
   have d3 : W1.drew.cell? ⟨w.heap.size, 3, none⟩ = some (.int .i64 K') := HX1.out.drew.cell 3
   have d4 : W1.drew.cell? ⟨w.heap.size, 4, none⟩ = some (.string cn) := HX1.out.drew.cell 4
   have d5 : W1.drew.cell? ⟨w.heap.size, 5, none⟩ = some (.int .i64 kd) := HX1.out.drew.cell 5
   have d6 : W1.drew.cell? ⟨w.heap.size, 6, none⟩ = some (.bool no) := HX1.out.drew.cell 6
   have d7 : W1.drew.cell? ⟨b, off + k * 3 + 1, none⟩ = some (.slice xA xn xc) := p1
   have d8 : W1.drew.cell? ⟨b, off + k * 3 + 2, none⟩ = some (.int .i64 xK) := p2
   have hal : Below W1.heap.size W1 (W1.alloc (.cells #[.slice none 0 0, .int .i64 0] 39)) := (Below.refl _ W1).alloc (Nat.le_refl _) _
   have hwA : Hid (Below W1.heap.size W1 (W1.alloc (.cells #[.slice none 0 0, .int .i64 0] 39)).drew) := hal.drew
   have hbA : Hid (Below w.heap.size w (W1.alloc (.cells #[.slice none 0 0, .int .i64 0] 39)).drew) := (HB1.out.trans (hal.mono HB1.out.size)).drew
   have f0 : (W1.alloc (.cells #[.slice none 0 0, .int .i64 0] 39)).drew.cell? ⟨w.heap.size, 0, none⟩ = some (.int .i64 ck) := keepC hal.drew (HX1.out.cell 0)
   have f1 : (W1.alloc (.cells #[.slice none 0 0, .int .i64 0] 39)).drew.cell? ⟨w.heap.size, 1, none⟩ = some (.string tn) := keepC hal.drew (HX1.out.cell 1)
   have f2 : (W1.alloc (.cells #[.slice none 0 0, .int .i64 0] 39)).drew.cell? ⟨w.heap.size, 2, none⟩ = some (.slice A' n' c') := keepC hal.drew (HX1.out.cell 2)
   have f3 : (W1.alloc (.cells #[.slice none 0 0, .int .i64 0] 39)).drew.cell? ⟨w.heap.size, 3, none⟩ = some (.int .i64 K') := keepC hal.drew (HX1.out.cell 3)
   have f4 : (W1.alloc (.cells #[.slice none 0 0, .int .i64 0] 39)).drew.cell? ⟨w.heap.size, 4, none⟩ = some (.string cn) := keepC hal.drew (HX1.out.cell 4)
   have f5 : (W1.alloc (.cells #[.slice none 0 0, .int .i64 0] 39)).drew.cell? ⟨w.heap.size, 5, none⟩ = some (.int .i64 kd) := keepC hal.drew (HX1.out.cell 5)
   have f6 : (W1.alloc (.cells #[.slice none 0 0, .int .i64 0] 39)).drew.cell? ⟨w.heap.size, 6, none⟩ = some (.bool no) := keepC hal.drew (HX1.out.cell 6)
   have f7 : (W1.alloc (.cells #[.slice none 0 0, .int .i64 0] 39)).drew.cell? ⟨b, off + k * 3 + 1, none⟩ = some (.slice xA xn xc) := keepC hal.drew p1
   have f8 : (W1.alloc (.cells #[.slice none 0 0, .int .i64 0] 39)).drew.cell? ⟨b, off + k * 3 + 2, none⟩ = some (.int .i64 xK) := keepC hal.drew p2
   have HBX := Lib.hid (Has.new W1 39 #[.slice none 0 0, .int .i64 0]).drew
   clear hal hx hxs q0 c0 c1 c2 HX0
   go_region_held3 (fun X => Hid (Below w.heap.size w X) ∧ X.cell? ⟨w.heap.size, 0, none⟩ = some (.int .i64 ck) ∧ X.cell? ⟨w.heap.size, 1, none⟩ = some (.string tn) ∧ X.cell? ⟨w.heap.size, 2, none⟩ = some (.slice A' n' c') ∧ X.cell? ⟨w.heap.size, 3, none⟩ = some (.int .i64 K') ∧ X.cell? ⟨w.heap.size, 4, none⟩ = some (.string cn) ∧ X.cell? ⟨w.heap.size, 5, none⟩ = some (.int .i64 kd) ∧ X.cell? ⟨w.heap.size, 6, none⟩ = some (.bool no) ∧ X.cell? ⟨b, off + k * 3 + 1, none⟩ = some (.slice xA xn xc) ∧ X.cell? ⟨b, off + k * 3 + 2, none⟩ = some (.int .i64 xK)) ((first | (refine ⟨by first | assumption | exact hid_d1 (by assumption) _ | exact hid_a1 (by assumption) _, ?_⟩; go_keep) | exact ⟨hid_c2 (by assumption) hbr.out.size _ _, cell_s2 hne0 (by assumption), cell_s2 hne0 (by assumption), cell_s2 hne0 (by assumption), cell_s2 hne0 (by assumption), cell_s2 hne0 (by assumption), cell_s2 hne0 (by assumption), cell_s2 hne0 (by assumption), cell_s2 hneb (by assumption), cell_s2 hneb (by assumption)⟩))
    (first | (go_at_call 29; (with_reducible refine (HAP.out W1.drew hb0.out).mono ?_); rintro e w2 ⟨v8, rfl, ho8, hb8⟩; obtain ⟨A8, n8, c8, rfl, _, _, _, _, _⟩ := ownC_open ho8.out; have i0 := keepC hb8.out d0; have i1 := keepC hb8.out d1; have i2 := keepC hb8.out d2; have i3 := keepC hb8.out d3; have i4 := keepC hb8.out d4; have i5 := keepC hb8.out d5; have i6 := keepC hb8.out d6; have i7 := keepC hb8.out d7; have i8 := keepC hb8.out d8; have HB2 : Hid (Below w.heap.size w w2) := hb0.out.trans (hb8.out.mono hb0.out.size); have HW2 : Hid (Below W1.heap.size W1 w2) := hw0.out.trans (hb8.out.mono hw0.out.size); have HO8 : Hid (OwnC W1.heap.size w2 (.slice A8 n8 c8) (applyL xL (doesF xL xK ck cn kd no) cn kd)) := ownC_down ho8.out hw0.out.size; clear ho8 hb8) | (go_at_call 29; (with_reducible refine (HAP.out (W1.alloc (.cells #[.slice none 0 0, .int .i64 0] 39)).drew hbA.out).mono ?_); rintro e w2 ⟨v8, rfl, ho8, hb8⟩; obtain ⟨A8, n8, c8, rfl, _, _, _, _, _⟩ := ownC_open ho8.out; have i0 := keepC hb8.out f0; have i1 := keepC hb8.out f1; have i2 := keepC hb8.out f2; have i3 := keepC hb8.out f3; have i4 := keepC hb8.out f4; have i5 := keepC hb8.out f5; have i6 := keepC hb8.out f6; have i7 := keepC hb8.out f7; have i8 := keepC hb8.out f8; have HB2 : Hid (Below w.heap.size w w2) := hbA.out.trans (hb8.out.mono hbA.out.size); have HW2 : Hid (Below W1.heap.size W1 w2) := hwA.out.trans (hb8.out.mono hwA.out.size); have HO9 : Hid (OwnC (W1.heap.size + 1) w2 (.slice A8 n8 c8) (applyL xL (doesF xL xK ck cn kd no) cn kd)) := ownC_down ho8.out (by simp); have HBX2 := Lib.hid (HBX.out.below hb8.out HBX.out.lt); have b0 : w2.cell? ⟨W1.heap.size, 0, none⟩ = some (.slice none 0 0) := HBX2.out.cell 0; have b1 : w2.cell? ⟨W1.heap.size, 1, none⟩ = some (.int .i64 0) := HBX2.out.cell 1; have g0 := HBX2.out.free 0; have g1 := HBX2.out.free 1; clear ho8 hb8))
   all_goals
    first
     | (have HWf : Hid (Below W1.heap.size W1 (w2.alloc (.cells #[.slice A8 n8 c8, .int .i64 (applyK xK (doesF xL xK ck cn kd no))] 39))) := HW2.out.alloc HW2.out.size _; have HOf : Hid (OwnC W1.heap.size (w2.alloc (.cells #[.slice A8 n8 c8, .int .i64 (applyK xK (doesF xL xK ck cn kd no))] 39)) (.slice A8 n8 c8) (applyL xL (doesF xL xK ck cn kd no) cn kd)) := HO8.out.below ((Below.refl _ w2).alloc (Nat.le_refl _) _); obtain ⟨gb, hgb, HZ⟩ : ∃ gb, gb = w2.heap.size ∧ Hid (Has (w2.alloc (.cells #[.slice A8 n8 c8, .int .i64 (applyK xK (doesF xL xK ck cn kd no))] 39)) gb 39 #[.slice A8 n8 c8, .int .i64 (applyK xK (doesF xL xK ck cn kd no))]) := ⟨_, rfl, Has.new w2 39 #[.slice A8 n8 c8, .int .i64 (applyK xK (doesF xL xK ck cn kd no))]⟩; obtain ⟨wf, hwf⟩ : ∃ wf, (w2.alloc (.cells #[.slice A8 n8 c8, .int .i64 (applyK xK (doesF xL xK ck cn kd no))] 39)) = wf := ⟨_, rfl⟩; rw [hwf] at HWf HOf HZ; rw [hwf]; rw [← hgb]; clear hwf hgb)
     | (have HWf : Hid (Below W1.heap.size W1 ((w2.setCell ⟨W1.heap.size, 0, none⟩ (.slice A8 n8 c8)).setCell ⟨W1.heap.size, 1, none⟩ (.int .i64 (applyK xK (doesF xL xK ck cn kd no))))) := (HW2.out.setCell (Nat.le_refl _) _).setCell (Nat.le_refl _) _; have HOf : Hid (OwnC W1.heap.size ((w2.setCell ⟨W1.heap.size, 0, none⟩ (.slice A8 n8 c8)).setCell ⟨W1.heap.size, 1, none⟩ (.int .i64 (applyK xK (doesF xL xK ck cn kd no)))) (.slice A8 n8 c8) (applyL xL (doesF xL xK ck cn kd no) cn kd)) := ownC_down ((HO9.out.far (p := ⟨W1.heap.size, 0, none⟩) (Nat.lt_succ_self _) _).far (p := ⟨W1.heap.size, 1, none⟩) (Nat.lt_succ_self _) _) (Nat.le_succ _); obtain ⟨gb, hgb, HZ⟩ : ∃ gb, gb = W1.heap.size ∧ Hid (Has ((w2.setCell ⟨W1.heap.size, 0, none⟩ (.slice A8 n8 c8)).setCell ⟨W1.heap.size, 1, none⟩ (.int .i64 (applyK xK (doesF xL xK ck cn kd no)))) gb 39 #[.slice A8 n8 c8, .int .i64 (applyK xK (doesF xL xK ck cn kd no))]) := ⟨_, rfl, (HBX2.out.put 0 (.slice A8 n8 c8)).put 1 (.int .i64 (applyK xK (doesF xL xK ck cn kd no)))⟩; obtain ⟨wf, hwf⟩ : ∃ wf, ((w2.setCell ⟨W1.heap.size, 0, none⟩ (.slice A8 n8 c8)).setCell ⟨W1.heap.size, 1, none⟩ (.int .i64 (applyK xK (doesF xL xK ck cn kd no)))) = wf := ⟨_, rfl⟩; rw [hwf] at HWf HOf HZ; rw [hwf]; rw [← hgb]; clear hwf hgb)
    have HBf := Lib.hid (HB1.out.trans (HWf.out.mono HB1.out.size))
    have HO1f := Lib.hid (HO1.out.below HWf.out)
    have y0 := keepC HWf.out p0
    have HX1f := Lib.hid (HX1.out.below HWf.out HX1.out.lt)
    clear p0 p1 p2 HX1 HO1 hbr
    obtain ⟨KA, hKA⟩ : ∃ q, applyK xK (doesF xL xK ck cn kd no) = q := ⟨_, rfl⟩
    obtain ⟨LA, hLA⟩ : ∃ q, applyL xL (doesF xL xK ck cn kd no) cn kd = q := ⟨_, rfl⟩
    rw [hLA] at HLN HOf HD
    rw [hKA] at HD HZ ⊢
    have z0 : wf.cell? ⟨gb, 0, none⟩ = some (.slice A8 n8 c8) := HZ.out.cell 0
    have z1 : wf.cell? ⟨gb, 1, none⟩ = some (.int .i64 KA) := HZ.out.cell 1
    clear hKA hLA
    obtain ⟨ee, hee⟩ : ∃ q, (doesF xL xK ck cn kd no).e = q := ⟨_, rfl⟩
    rw [hee] at HE HD ⊢
    by_cases he : ee = 0
    ·subst he
     have HDz := Lib.hid (HD.out rfl)
     clear HBD HD
     by_cases hck : c = k + 1
     ·obtain rfl : n = k + 1 := by omega
      subst hck
      go_wp2_with fail
      have HZd := Lib.hid HZ.out.drew
      have HXd := Lib.hid HX1f.out.drew
      have hbt : b < w.heap.size + 1 := hbk
      have HA2 := Lib.hid (appT_g wf.drew wf.heap.size rfl (w.heap.size + 1) (.slice A7 n7 c7) ([] ++ T.take k) ⟨tn, A8, n8, c8, LA, KA⟩ (HO1f.out.below (Below.refl _ wf).drew) HX1f.out.lt (by have := HN.out; simp; omega))
      have hald : Below wf.drew.heap.size wf.drew (wf.drew.alloc (.cells #[.string tn, .slice A8 n8 c8, .int .i64 KA] 41)) := (Below.refl _ wf.drew).alloc (Nat.le_refl _) _
      have hwd : Below wf.heap.size wf wf.drew := (Below.refl _ wf).drew
      have v0 : wf.drew.cell? ⟨b, off + k * 3, none⟩ = some (.string tn) := y0
      have v1 : wf.drew.cell? ⟨gb, 0, none⟩ = some (.slice A8 n8 c8) := z0
      have v2 : wf.drew.cell? ⟨gb, 1, none⟩ = some (.int .i64 KA) := z1
      have hkz8 : (k : Int) < (k : Int) + 1 := by omega
      have hkz9 : k < k + 1 := Nat.lt_succ_self k
      go_region_held3 (fun X => X.cell? ⟨b, off + k * 3, none⟩ = some (.string tn) ∧ X.cell? ⟨gb, 0, none⟩ = some (.slice A8 n8 c8) ∧ X.cell? ⟨gb, 1, none⟩ = some (.int .i64 KA)) (go_keep)
       (first
         | (refine step_appA (by rfl) _ _ _ _ (by rfl) (.slice A7 n7 c7) (.slice (some ⟨wf.heap.size, 0, none⟩) 1 1) (by rfl) (by rfl) ?_; obtain ⟨R, W2, hrun, hm1, hm2, hm3⟩ := HA2.out; refine ⟨R, W2, hrun, ?_⟩; obtain ⟨A9, n9, c9, hR, HN9, hnc9, hcm9, _, _⟩ := ownT_open hm1; subst hR; have HB9 := Lib.hid ((HBf.out.trans (hwd.mono HBf.out.size)).trans (hm2.mono (by omega))); have HO9c := Lib.hid (OwnC.beside ((HOf.out.below hwd).below hald) ((HO1f.out.below hwd).below hald) hm3); have HZ9 := Lib.hid (Has.beside (HZd.out.below hald HZd.out.lt) (by decide) ((HO1f.out.below hwd).below hald) hm3); have u0 : W2.cell? ⟨b, off + k * 3, none⟩ = some (.string tn) := belowB hm2 hbt v0; have u1 : W2.cell? ⟨gb, 0, none⟩ = some (.slice A8 n8 c8) := HZ9.out.cell 0; have u2 : W2.cell? ⟨gb, 1, none⟩ = some (.int .i64 KA) := HZ9.out.cell 1; have HO9t := Lib.hid hm1; have HS9 := Lib.hid hm2.size; clear hrun hm1 hm2 hm3 HA2))
      have HA3 := Lib.hid (appTs_g W2 (w.heap.size + 1) (.slice A9 n9 c9) _ HO9t.out (by have := HS9.out; have := HX1f.out.lt; simp at *; omega) (some ⟨b, off, none⟩) (T.drop (k + 1)) 0 0 (by rw [List.length_drop]; have := HN.out; omega) (by rw [List.drop_eq_nil_of_le (by have := HN.out; omega)]; exact fun h => absurd rfl h) (fun e => by cases e) (by have := HN.out; simp <;> omega))
      go_wp2_with (first
       | (at_builtin; refine wpList_app rfl _ _ 22 22 rfl (.slice A9 n9 c9) (.slice (some ⟨b, off, none⟩) 0 0) rfl rfl ?_; obtain ⟨R, W3, hrun, hm1, hm2, hm3⟩ := HA3.out; refine ⟨R, W3, hrun, ?_⟩; have HO := Lib.hid hm1; have HB5 := Lib.hid (HB9.out.trans (hm2.mono (by omega))); have HO5c := Lib.hid (OwnC.beside HO9c.out HO9t.out hm3); clear hrun hm1 hm2 hm3 HA3))
      go_ret2
      exact ⟨_, _, by rw [HE.out]; rfl, ownT_down HO.out (by omega), (fun y hy => by
       rw [List.nil_append, List.append_assoc, List.mem_append] at hy
       rcases hy with hy | hy
       ·exact (HI.out y (List.mem_of_mem_take hy)).below HB5.out
       ·rw [List.singleton_append, List.mem_cons] at hy
        rcases hy with rfl | hy
        ·exact Cln.ok (B := W1.heap.size) (x := ⟨tn, A8, n8, c8, LA, KA⟩) (y := ⟨tn, A8, n8, c8, LA, KA⟩) ⟨rfl, HO5c.out⟩ HLN.out
        ·exact (HI.out y (List.mem_of_mem_drop hy)).below HB5.out), by show _ = _; rw [HDz.out, List.nil_append, HTD.out]; rfl, (fun y hy => by
       rw [List.nil_append, List.append_assoc, List.mem_append] at hy
       rcases hy with hy | hy
       ·exact .inl ⟨y, List.mem_of_mem_take hy, rfl⟩
       ·rw [List.singleton_append, List.mem_cons] at hy
        rcases hy with rfl | hy
        ·refine .inr (.inr fun a ea => ?_)
         have h1 := (World.ownsRow.lt HO5c.out a.block (by show (Value.slice A8 n8 c8).ownBlock = _; rw [show A8 = some a from ea]; rfl)).1
         have h2 := hW1s
         omega
        ·exact .inl ⟨y, List.mem_of_mem_drop hy, rfl⟩), HB5⟩
     ·go_wp2_with fail
      have HZd := Lib.hid HZ.out.drew
      have HXd := Lib.hid HX1f.out.drew
      have hbt : b < w.heap.size + 1 := hbk
      have HA2 := Lib.hid (appT_g wf.drew wf.heap.size rfl (w.heap.size + 1) (.slice A7 n7 c7) ([] ++ T.take k) ⟨tn, A8, n8, c8, LA, KA⟩ (HO1f.out.below (Below.refl _ wf).drew) HX1f.out.lt (by have := HN.out; simp; omega))
      have hald : Below wf.drew.heap.size wf.drew (wf.drew.alloc (.cells #[.string tn, .slice A8 n8 c8, .int .i64 KA] 41)) := (Below.refl _ wf.drew).alloc (Nat.le_refl _) _
      have hwd : Below wf.heap.size wf wf.drew := (Below.refl _ wf).drew
      have v0 : wf.drew.cell? ⟨b, off + k * 3, none⟩ = some (.string tn) := y0
      have v1 : wf.drew.cell? ⟨gb, 0, none⟩ = some (.slice A8 n8 c8) := z0
      have v2 : wf.drew.cell? ⟨gb, 1, none⟩ = some (.int .i64 KA) := z1
      have hkz8 : (k : Int) < (k : Int) + 1 := by omega
      have hkz9 : k < k + 1 := Nat.lt_succ_self k
      go_region_held3 (fun X => X.cell? ⟨b, off + k * 3, none⟩ = some (.string tn) ∧ X.cell? ⟨gb, 0, none⟩ = some (.slice A8 n8 c8) ∧ X.cell? ⟨gb, 1, none⟩ = some (.int .i64 KA)) (go_keep)
       (first
         | (refine step_appA (by rfl) _ _ _ _ (by rfl) (.slice A7 n7 c7) (.slice (some ⟨wf.heap.size, 0, none⟩) 1 1) (by rfl) (by rfl) ?_; obtain ⟨R, W2, hrun, hm1, hm2, hm3⟩ := HA2.out; refine ⟨R, W2, hrun, ?_⟩; obtain ⟨A9, n9, c9, hR, HN9, hnc9, hcm9, _, _⟩ := ownT_open hm1; subst hR; have HB9 := Lib.hid ((HBf.out.trans (hwd.mono HBf.out.size)).trans (hm2.mono (by omega))); have HO9c := Lib.hid (OwnC.beside ((HOf.out.below hwd).below hald) ((HO1f.out.below hwd).below hald) hm3); have HZ9 := Lib.hid (Has.beside (HZd.out.below hald HZd.out.lt) (by decide) ((HO1f.out.below hwd).below hald) hm3); have u0 : W2.cell? ⟨b, off + k * 3, none⟩ = some (.string tn) := belowB hm2 hbt v0; have u1 : W2.cell? ⟨gb, 0, none⟩ = some (.slice A8 n8 c8) := HZ9.out.cell 0; have u2 : W2.cell? ⟨gb, 1, none⟩ = some (.int .i64 KA) := HZ9.out.cell 1; have HO9t := Lib.hid hm1; have HS9 := Lib.hid hm2.size; clear hrun hm1 hm2 hm3 HA2))
      have HA3 := Lib.hid (appTs_g W2 (w.heap.size + 1) (.slice A9 n9 c9) _ HO9t.out (by have := HS9.out; have := HX1f.out.lt; simp at *; omega) (some ⟨b, off + (k + 1) * 3, none⟩) (T.drop (k + 1)) (n - (k + 1)) (c - (k + 1)) (by rw [List.length_drop]; have := HN.out; omega) (by have h : TRow W2 _ T := HA.out.below HB9.out; exact h.drop (k + 1)) (fun e => by cases e) (by have := HN.out; simp <;> omega))
      go_wp2_with (first
       | (at_builtin; refine wpList_app rfl _ _ 22 22 rfl (.slice A9 n9 c9) (.slice (some ⟨b, off + (k + 1) * 3, none⟩) (n - (k + 1)) (c - (k + 1))) rfl rfl ?_; obtain ⟨R, W3, hrun, hm1, hm2, hm3⟩ := HA3.out; refine ⟨R, W3, hrun, ?_⟩; have HO := Lib.hid hm1; have HB5 := Lib.hid (HB9.out.trans (hm2.mono (by omega))); have HO5c := Lib.hid (OwnC.beside HO9c.out HO9t.out hm3); clear hrun hm1 hm2 hm3 HA3))
      go_ret2
      exact ⟨_, _, by rw [HE.out]; rfl, ownT_down HO.out (by omega), (fun y hy => by
       rw [List.nil_append, List.append_assoc, List.mem_append] at hy
       rcases hy with hy | hy
       ·exact (HI.out y (List.mem_of_mem_take hy)).below HB5.out
       ·rw [List.singleton_append, List.mem_cons] at hy
        rcases hy with rfl | hy
        ·exact Cln.ok (B := W1.heap.size) (x := ⟨tn, A8, n8, c8, LA, KA⟩) (y := ⟨tn, A8, n8, c8, LA, KA⟩) ⟨rfl, HO5c.out⟩ HLN.out
        ·exact (HI.out y (List.mem_of_mem_drop hy)).below HB5.out), by show _ = _; rw [HDz.out, List.nil_append, HTD.out]; rfl, (fun y hy => by
       rw [List.nil_append, List.append_assoc, List.mem_append] at hy
       rcases hy with hy | hy
       ·exact .inl ⟨y, List.mem_of_mem_take hy, rfl⟩
       ·rw [List.singleton_append, List.mem_cons] at hy
        rcases hy with rfl | hy
        ·refine .inr (.inr fun a ea => ?_)
         have h1 := (World.ownsRow.lt HO5c.out a.block (by show (Value.slice A8 n8 c8).ownBlock = _; rw [show A8 = some a from ea]; rfl)).1
         have h2 := hW1s
         omega
        ·exact .inl ⟨y, List.mem_of_mem_drop hy, rfl⟩), HB5⟩
    ·have HBz := Lib.hid (HBD.out (by rw [HE.out]; exact he))
     go_wp2_with fail
     go_ret2
     exact ⟨_, [], by rw [HE.out]; rfl, ownT_nil _ _, (fun x hx => by cases hx), by show _ = _; rw [HBz.out]; rfl, (fun y hy => by cases hy), HBf⟩
end Go.Proofs.YtlnbhlgkehenpaaGreatDoor
namespace Go.Proofs.YtlnbhlgkehenpaaGreatDoor
open Go.RowKit Go.Shelf Go.Maps Dg
set_option maxRecDepth 100000
theorem TbI.mono {w : World} {V V' : Nat → Prop} {At : Option Addr} {nt ct : Nat} {D : List Td} (h : TbI w V At nt ct D) (hV : ∀ b, V b → V' b) : TbI w V' At nt ct D := by
 obtain ⟨T, h1, h2, h3, h4, h5, h6⟩ := h.ex
 exact ⟨⟨T, h1, h2, h3, h4, fun a e => hV _ (h5 a e), fun x hx a e => hV _ (h6 x hx a e)⟩, h.few, h.cap, h.max, h.nil, h.rt⟩
theorem TbI.below {w w' : World} {V : Nat → Prop} {At : Option Addr} {nt ct : Nat} {D : List Td} (h : TbI w V At nt ct D) (hb : Below w.heap.size w w') : TbI w' V At nt ct D := by
 obtain ⟨T, h1, h2, h3, h4, h5, h6⟩ := h.ex
 exact ⟨⟨T, h1, h2, h3.below hb, h4.below hb, h5, h6⟩, h.few, h.cap, h.max, h.nil, h.rt⟩
theorem tbI_of {w : World} {V : Nat → Prop} {At : Option Addr} {nt ct : Nat} {T : List Tb} (hl : T.length = nt) (hrow : TRow w At T) (hok : TOks w T) (hAt : ∀ a, At = some a → V a.block) (hV : ∀ x ∈ T, x.L ≠ [] → ∀ a, x.A = some a → a.block < w.heap.size → V a.block) (hc : nt ≤ ct) (hm : ct ≤ maxLen) (h0 : At = none → ct = 0) (hr : RtD (tds T)) (h64 : nt ≤ 64) : TbI w V At nt ct (tds T) := by
 refine ⟨⟨T, rfl, hl, hrow, hok, hAt, fun x hx a e => ?_⟩, h64, hc, hm, h0, hr⟩
 have hg := (rt_good hr x hx).2.1
 have hne : x.L ≠ [] := by intro e; rw [e] at hg; simp at hg
 refine hV x hx hne a e ?_
 obtain ⟨b, off, e2, hcells⟩ := (hok x hx).row hne
 rw [e] at e2
 injection e2 with e2
 subst e2
 exact World.block_lt_of_cell? w _ (hcells 0 hg).1
theorem ownT_lt {B : Nat} {w : World} {A : Option Addr} {n c : Nat} {T : List Tb} (h : OwnT B w (.slice A n c) T) : ∀ a, A = some a → a.block < w.heap.size := fun a e => (World.ownsRow.lt h a.block (by rw [e]; rfl)).2
theorem TbI.tbV {w : World} {V : Nat → Prop} {At : Option Addr} {nt ct : Nat} {D : List Td} (h : TbI w V At nt ct D) : ∃ T, tds T = D ∧ T.length = nt ∧ TRow w At T ∧ TOks w T ∧ SortT T ∧ TbW w At nt ct T ∧ (∀ x ∈ T, 0 < x.L.length ∧ x.L.length ≤ 800) ∧ ∀ x ∈ T, ∀ a, x.A = some a → V a.block := by
 obtain ⟨T, h1, h2, h3, h4, h5, h6⟩ := h.ex
 have hr : RtD (tds T) := by rw [h1]; exact h.rt
 have hs := (sort_d T).2 hr.1
 exact ⟨T, h1, h2, h3, h4, hs, ⟨h2, by have := h.few; omega, h3, h4, hs, fun y hy => (rt_good hr y hy).1⟩, fun x hx => (rt_good hr x hx).2, h6⟩
def RStO (w : World) (V : Nat → Prop) (r : Gr) (D : List Td) (e : Ending) (w' : World) : Prop :=
 ∃ v, e = .returned (.tuple #[v, .int .i64 (stE (D.map mkT) r.x)]) ∧ (stE (D.map mkT) r.x = 0 → ∃ At' nt' ct', v = .slice At' nt' ct' ∧ Hid (TbI w' (fun b => b < w'.heap.size ∧ (V b ∨ w.heap.size ≤ b ∨ (r.x.L ≠ [] ∧ ∃ a, r.A = some a ∧ a.block = b))) At' nt' ct' (stD (D.map mkT) r.x))) ∧ Hid (Below w.heap.size w w')
theorem tk_kind (k : Int) : (k = 1 ∧ tk k = 4) ∨ (k = 2 ∧ tk k = 5) ∨ (k = 3 ∧ tk k = 6) ∨ (k ≠ 1 ∧ k ≠ 2 ∧ k ≠ 3 ∧ tk k = 0) := by
 unfold tk
 by_cases h1 : k = 1
 ·exact .inl ⟨h1, by rw [if_pos h1]⟩
 by_cases h2 : k = 2
 ·exact .inr (.inl ⟨h2, by rw [if_neg h1, if_pos h2]⟩)
 by_cases h3 : k = 3
 ·exact .inr (.inr (.inl ⟨h3, by rw [if_neg h1, if_neg h2, if_pos h3]⟩))
 ·exact .inr (.inr (.inr ⟨h1, h2, h3, by rw [if_neg h1, if_neg h2, if_neg h3]⟩))
theorem stE_none {T : List Tb} {x : Wd} (h : tk x.k = 0) : stE T x = 5 := by
 have hm : mayP x.told T = 5 := by
  have hk : x.told.k = 0 := h
  unfold mayP
  rw [if_neg (by omega), if_neg (by omega), if_neg (by omega)]
 unfold stE
 rw [hm, if_neg (by decide)]
theorem stE_bad {T : List Tb} {x : Wd} {E : Int} (h : mayP x.told T = E) (h0 : E ≠ 0) : stE T x = E := by unfold stE; rw [h, if_neg h0]
theorem stE_put {T : List Tb} {x : Wd} (h : mayP x.told T = 0) (h6 : x.told.k ≠ 6) : stE T x = 0 ∧ stD T x = tds T := by unfold stE stD; rw [if_pos h, if_neg h6, if_neg h6]; exact ⟨rfl, rfl⟩
theorem stE_turn {T : List Tb} {x : Wd} (h : mayP x.told T = 0) (h6 : x.told.k = 6) : stE T x = foE T x.ck x.ct x.L x.K x.cl.nm x.cl.k x.cl.no ∧ stD T x = foD T x.ck x.ct x.L x.K x.cl.nm x.cl.k x.cl.no := by unfold stE stD; rw [if_pos h, if_pos h6, if_pos h6]; exact ⟨rfl, rfl⟩
set_option maxHeartbeats 4000000 in
theorem rstep_any (r : Gr) (D : List Td) (V : Nat → Prop) (At : Option Addr) (nt ctt : Nat) (w : World) (hr : r.full w) (hT : TbI w V At nt ctt D) (hV : ∀ b, V b → b < w.heap.size) :
 Calls Tryz.prog 20 #[.slice At nt ctt, .agg #[.int .i64 r.x.k, .string r.x.t, .slice r.Ar r.nr r.zr, .int .i64 r.x.ck, .string r.x.ct, .slice r.A r.n r.c, .int .i64 r.x.K, .string r.x.cl.nm, .int .i64 r.x.cl.k, .bool r.x.cl.no]] w fun e w' => RStO w V r D e w' := by
 obtain ⟨T, hd, hlen, hrow, hok, hsort, htw, hsm, hTV⟩ := hT.tbV
 have hrt : RtD (tds T) := by rw [hd]; exact hT.rt
 have he : stE (D.map mkT) r.x = stE T r.x := stE_d (by rw [tds_mk, hd]) r.x
 have hD : stD (D.map mkT) r.x = stD T r.x := stD_d (by rw [tds_mk, hd]) r.x
 unfold RStO
 rw [he, hD]
 have hms := may_sc r.x.told T (rt_found hrt _)
 have HMY := Lib.hid (fun (W : World) (hb : Below w.heap.size w W) => rmay6_any r.x.told r.bS.1 r.bS.2.1 r.bS.2.2 r.aS.1 r.aS.2.1 r.aS.2.2 r.A r.n r.c At nt ctt T W ((toldW_ev hr).below hb) (htw.below hb))
 have HFO := Lib.hid (fun (W : World) (hb : Below w.heap.size w W) => rfollow_loc At T nt ctt r.x.ck r.x.ct r.A r.n r.c r.x.L r.x.K r.x.cl.nm r.x.cl.k r.x.cl.no W hlen hT.cap hT.max (by have := hT.few; omega) (hrow.below hb) hT.nil (hok.below hb) hsort hsm hr.c.1 hr.cc.1 hr.cc.2.1 (hr.c.2.2.1.below hb) hr.cc.2.2)
 have HSD := Lib.hid (fun (he0 : stE T r.x = 0) => (stD_rt (D := tds T) (x := r.x) hrt (by rw [tds_len, hlen]; exact hT.few) (by rw [stE_d (T := (tds T).map mkT) (T' := T) (by rw [tds_mk])]; exact he0)))
 have HTV : Hid (∀ x ∈ T, ∀ a, x.A = some a → V a.block) := hTV
 have HTI : Hid (TbI w V At nt ctt (tds T)) := by show TbI _ _ _ _ _ _; rw [hd]; exact hT
 have HV := Lib.hid hV
 rw [stD_d (T := (tds T).map mkT) (T' := T) (by rw [tds_mk])] at HSD
 rw [← hms] at HMY
 have HQ1 := Lib.hid (fun (h : mayP r.x.told T ≠ 0) => stE_bad (x := r.x) (E := mayP r.x.told T) rfl h)
 have HQ2 := Lib.hid (fun (h : mayP r.x.told T = 0) (h6 : r.x.told.k ≠ 6) => stE_put (x := r.x) h h6)
 have HQ3 := Lib.hid (fun (h : mayP r.x.told T = 0) (h6 : r.x.told.k = 6) => stE_turn (x := r.x) h h6)
 have HQ0 := Lib.hid (fun (h : tk r.x.k = 0) => stE_none (T := T) h)
 have HREV := Lib.hid (fun (W : World) => rev14_any r.x.k r.x.t r.Ar r.nr r.zr r.x.ck r.x.ct r.A r.n r.c r.x.K r.x.cl.nm r.x.cl.k r.x.cl.no W)
 have ek0 : r.x.told.k = tk r.x.k := rfl
 have ebS : r.x.k = 1 ∨ r.x.k = 2 ∨ r.x.k = 3 → (if r.x.k = 2 then Value.slice r.Ar r.nr r.zr else .slice none 0 0) = .slice r.bS.1 r.bS.2.1 r.bS.2.2 ∧ (if r.x.k = 1 ∨ r.x.k = 3 then Value.slice r.Ar r.nr r.zr else .slice none 0 0) = .slice r.aS.1 r.aS.2.1 r.aS.2.2 := by
  intro h
  unfold Gr.bS Gr.aS
  by_cases h2 : r.x.k = 2
  ·simp [h2]
  ·have h13 : r.x.k = 1 ∨ r.x.k = 3 := by omega
   simp [h2, h13]
 clear hms he hD hd hrow hok hsort htw hsm hrt hr hT hV hlen hTV
 have e1 : r.x.told.t = r.x.t := rfl
 have e2 : r.x.told.ck = r.x.ck := rfl
 have e3 : r.x.told.ct = r.x.ct := rfl
 have e4 : r.x.told.K = r.x.K := rfl
 have e5 : r.x.told.cl = r.x.cl := rfl
 have e6 : r.x.told.n = 0 := rfl
 rw [e1, e2, e3, e4, e5, e6] at HMY
 clear e1 e2 e3 e4 e5 e6
 by_cases hk : r.x.k = 1 ∨ r.x.k = 2 ∨ r.x.k = 3
 case neg =>
  have htk : tk r.x.k = 0 := by rcases tk_kind r.x.k with h | h | h | h <;> omega
  have hst := HQ0.out htk
  rw [hst]
  rw [htk] at HREV
  clear HQ0 HQ1 HQ2 HQ3 HMY HFO HSD HTI HTV HV ek0 ebS hst htk
  rw [if_neg (show ¬ r.x.k = 2 by omega), if_neg (show ¬ (r.x.k = 1 ∨ r.x.k = 3) by omega)] at HREV
  obtain ⟨⟨k, t, R, ck, ct, L, K, ⟨cn, cq, cb⟩⟩, Ar, nr, zr, A, n, c⟩ := r
  dsimp only at HREV ⊢
  have hb1 : Below w.heap.size w (w.alloc (.cells #[.int .i64 k, .string t, .slice Ar nr zr, .int .i64 ck, .string ct, .slice A n c, .int .i64 K, .string cn, .int .i64 cq, .bool cb] 52)) := (Below.refl _ w).alloc (Nat.le_refl _) _
  have HB1 := Lib.hid hb1
  clear hb1
  go_enter Tryz.func20, Tryz.ntmps20
  go_wp2_with fail
  refine (HREV.out _).mono ?_
  rintro e w2 ⟨rfl, hb2⟩
  have HB2 := Lib.hid (HB1.out.trans (hb2.out.mono HB1.out.size))
  clear hb2 HREV HB1
  go_wp2_with fail
  go_ret2
  exact ⟨_, rfl, fun h => by omega, HB2.out.alloc HB2.out.size _⟩
 case pos =>
  obtain ⟨hb1, hb2⟩ := ebS hk
  rw [hb1, hb2, ← ek0] at HREV
  have hek : r.x.told.k ≠ 0 := by rw [ek0]; rcases tk_kind r.x.k with h | h | h | h <;> omega
  clear hb1 hb2 ebS HQ0 ek0 hk
  generalize mayP r.x.told T = res at *
  generalize r.x.told.k = ek at *
  generalize stE T r.x = sE at *
  generalize stD T r.x = sD at *
  generalize r.bS = bS at *
  generalize r.aS = aS at *
  obtain ⟨Ab, nb, zb⟩ := bS
  obtain ⟨Aa, na, za⟩ := aS
  obtain ⟨⟨k, t, R, ck, ct, L, K, ⟨cn, cq, cb⟩⟩, Ar, nr, zr, A, n, c⟩ := r
  dsimp only at HREV HMY HFO HQ3 ⊢
  have hb1 : Below w.heap.size w (w.alloc (.cells #[.int .i64 k, .string t, .slice Ar nr zr, .int .i64 ck, .string ct, .slice A n c, .int .i64 K, .string cn, .int .i64 cq, .bool cb] 52)) := (Below.refl _ w).alloc (Nat.le_refl _) _
  have HB1 := Lib.hid hb1
  clear hb1
  go_enter Tryz.func20, Tryz.ntmps20
  go_wp2_with fail
  refine (HREV.out _).mono ?_
  rintro e w2 ⟨rfl, hb2⟩
  have HB2 := Lib.hid (HB1.out.trans (hb2.out.mono HB1.out.size))
  clear hb2 HREV HB1
  have HE3 := Lib.hid (Has.new w2 61 #[.int .i64 ek, .int .i64 0, .string t, .slice Ab nb zb, .slice Aa na za, .int .i64 ck, .string ct, .slice A n c, .int .i64 K, .string cn, .int .i64 cq, .bool cb])
  have HB3 := Lib.hid (HB2.out.alloc HB2.out.size (.cells #[.int .i64 ek, .int .i64 0, .string t, .slice Ab nb zb, .slice Aa na za, .int .i64 ck, .string ct, .slice A n c, .int .i64 K, .string cn, .int .i64 cq, .bool cb] 61))
  have hek0 : (ek == 0) = false := by simpa using hek
  go_wp2_with fail
  obtain ⟨w3, hw3⟩ : ∃ W, W = w2.alloc (.cells #[.int .i64 ek, .int .i64 0, .string t, .slice Ab nb zb, .slice Aa na za, .int .i64 ck, .string ct, .slice A n c, .int .i64 K, .string cn, .int .i64 cq, .bool cb] 61) := ⟨_, rfl⟩
  obtain ⟨q, hq⟩ : ∃ q, q = w2.heap.size := ⟨_, rfl⟩
  rw [← hw3] at HE3 HB3 ⊢
  rw [← hq] at HE3 ⊢
  clear hw3 hq HB2
  refine (HMY.out w3 HB3.out).mono ?_
  rintro e w4 ⟨rfl, hb4⟩
  have HB4 := Lib.hid (HB3.out.trans (hb4.out.mono HB3.out.size))
  have HE4 := Lib.hid (HE3.out.below hb4.out HE3.out.lt)
  clear hb4 HB3 HE3 HMY
  obtain ⟨c0, c1, c2, c3, c4, c5, c6, c7, c8, c9, c10, c11, _⟩ := all12 HE4.out
  by_cases hres : res = 0
  case neg =>
   have hr0 : (res != 0) = true := by simpa using hres
   have HS := Lib.hid (HQ1.out hres)
   have HNE := Lib.hid hres
   clear HQ1 HQ2 HQ3 HFO HSD HTI HTV HV hres c0 c1 c2 c3 c4 c5 c6 c7 c8 c9 c10 c11
   go_wp2_with fail
   go_ret2
   rw [HS.out]
   exact ⟨_, rfl, fun h => absurd h HNE.out, HB4⟩
  case pos =>
   have hr0 : (res != 0) = false := by simp [hres]
   by_cases h6 : ek = 6
   case neg =>
    have h60 : (ek != 6) = true := by simpa using h6
    obtain ⟨hs1, hs2⟩ := HQ2.out hres h6
    have HS := Lib.hid hs1
    have HD := Lib.hid hs2
    clear HQ1 HQ2 HQ3 HFO HSD hs1 hs2 hres
    go_wp2_with fail
    go_ret2
    rw [HS.out]
    refine ⟨_, rfl, fun _ => ⟨_, _, _, rfl, ?_⟩, HB4⟩
    show TbI _ _ _ _ _ _
    rw [HD.out]
    exact (HTI.out.below HB4.out).mono fun b hb => ⟨Nat.lt_of_lt_of_le (HV.out b hb) HB4.out.size, .inl hb⟩
   case pos =>
    have h60 : (ek != 6) = false := by simp [h6]
    obtain ⟨hs1, hs2⟩ := HQ3.out hres h6
    have hf := HFO.out w4 HB4.out
    rw [← hs1, ← hs2] at hf
    have HF := Lib.hid hf
    clear hf hs1 hs2
    clear HQ1 HQ2 HQ3 HFO hres HTI HV
    go_wp2_with fail
    refine HF.out.mono ?_
    rintro e w5 ⟨v5, T5, rfl, ho5, hok5, htd5, hlo5, hb5⟩
    have HB5 := Lib.hid (HB4.out.trans (hb5.out.mono HB4.out.size))
    clear hb5 HF HE4 c0 c1 c2 c3 c4 c5 c6 c7 c8 c9 c10 c11
    obtain ⟨A5, c5, hv5, hn5, hm5, hr5, hz5⟩ := ownT_row ho5.out
    subst hv5
    have HO5 := Lib.hid ho5.out
    have HR5 := Lib.hid hr5
    have HZ5 := Lib.hid hz5
    have HTD := Lib.hid htd5.out
    have HN5 := Lib.hid (And.intro hn5 hm5)
    clear ho5 hr5 hz5 htd5 hn5 hm5
    obtain ⟨n5, hn5⟩ : ∃ n5, T5.length = n5 := ⟨_, rfl⟩
    rw [hn5] at HO5 HN5 ⊢
    have HL5 := Lib.hid hn5
    clear hn5
    go_wp2_with fail
    go_ret2
    refine ⟨_, rfl, fun h0 => ⟨A5, n5, c5, rfl, ?_⟩, HB5⟩
    obtain ⟨hr, hl⟩ := HSD.out h0
    rw [← HTD.out] at hr hl
    rw [tds_len, HL5.out] at hl
    show TbI _ _ _ _ _ _
    rw [← HTD.out]
    have hs4 := HB4.out.size
    refine tbI_of HL5.out HR5.out hok5.out (fun a e => ⟨ownT_lt HO5.out a e, .inr (.inl (by have := (World.ownsRow.lt HO5.out a.block (by rw [e]; rfl)).1; omega))⟩) (fun x hx hne a ea hlt => ⟨hlt, ?_⟩) HN5.out.1 HN5.out.2 HZ5.out hr hl
    rcases hlo5.out x hx with ⟨y, hy, e⟩ | ⟨e, e2⟩ | h
    ·exact .inl (HTV.out y hy a (e.trans ea))
    ·exact .inr (.inr ⟨by show L ≠ []; rw [← e2]; exact hne, a, by show A = _; rw [← e]; exact ea, rfl⟩)
    ·exact .inr (.inl (by have := h a ea; omega))
theorem steps_next {D0 D : List Td} {X : List Gr} {k : Nat} (h : k < X.length) (hs : Steps D0 ((X.take k).map (·.x)) D) (he : stE (D.map mkT) X[k].x = 0) : Steps D0 ((X.take (k + 1)).map (·.x)) (stD (D.map mkT) X[k].x) := by
 rw [List.take_succ_eq_append_getElem h, List.map_append]
 exact .snoc _ hs he
set_option maxHeartbeats 4000000 in
theorem rbehind_any (D0 : List Td) (X : List Gr) (Aw : Option Addr) (nw cw : Nat) (A0 : Option Addr) (n0 c0 : Nat) (w : World)
 (hX : X.length = nw) (hr : GRow w Aw X) (hf : ∀ r ∈ X, r.full w) (h0 : TbI w (fun b => b < w.heap.size) A0 n0 c0 D0) (h63 : nw ≤ 1000) :
 Calls Tryz.prog 8 #[.slice A0 n0 c0, .slice Aw nw cw] w fun e w' => (∃ E, BadAt D0 X E ∧ e = .returned (.tuple #[.slice none 0 0, .int .i64 E]) ∧ Hid (Below w.heap.size w w')) ∨ (∃ D At nt ctt, Steps D0 (X.map (·.x)) D ∧ e = .returned (.tuple #[.slice At nt ctt, .int .i64 0]) ∧ Hid (TbI w' (fun b => b < w'.heap.size) At nt ctt D) ∧ Hid (Below w.heap.size w w')) := by
 have HX := Lib.hid hX
 have HR := Lib.hid hr
 have HF := Lib.hid hf
 have H0 := Lib.hid h0
 clear hX hr hf h0
 go_enter Tryz.func8, Tryz.ntmps8
 go_wp2_with fail
 go_loopw [0, 6] (fun l i wr => ∃ (k : Nat) (D : List Td) (At : Option Addr) (nt ctt : Nat), k ≤ nw ∧ i = .int .i64 k ∧ Value.slice At nt ctt = l ∧ Hid (Steps D0 ((X.take k).map (·.x)) D) ∧ Hid (TbI wr (fun b => b < wr.heap.size) At nt ctt D) ∧ Hid (Below w.heap.size w wr)) (fun _ i _ => nw - (intOf i).toNat)
 case atStart => exact ⟨0, D0, A0, n0, c0, by omega, rfl, rfl, Steps.nil, H0.out, Below.refl _ _⟩
 case round =>
  obtain ⟨k, D, At, nt, ctt, hk, rfl, rfl, HS, HT, HB⟩ := hrel
  by_cases hlt : k < nw
  ·have hkl : k < X.length := by rw [HX.out]; exact hlt
   obtain ⟨b, off, rfl, hcc⟩ := (HR.out.below HB.out) (by intro e; rw [e] at hkl; simp at hkl)
   have hc := hcc k hkl
   clear hcc
   have HFR := Lib.hid ((HF.out _ (List.getElem_mem hkl)).below HB.out)
   have HNX := Lib.hid (fun he => steps_next hkl HS.out he)
   have HBD := Lib.hid (fun (E : Int) (h1 : E = stE (D.map mkT) X[k].x) (h2 : E ≠ 0) => (show BadAt D0 X E from ⟨k, hkl, D, HS.out, h1, h2⟩))
   have hkz : (k : Int) < (nw : Int) := by omega
   generalize X[k] = r at *
   have HST := Lib.hid (rstep_any r D (fun b => b < wr.heap.size) At nt ctt wr HFR.out HT.out (fun b h => h))
   unfold RStO at HST
   generalize stE (D.map mkT) r.x = E at *
   generalize stD (D.map mkT) r.x = DD at *
   obtain ⟨⟨rk, rt, rR, rck, rct, rL, rK, ⟨rcn, rcq, rcb⟩⟩, rAr, rnr, rzr, rA, rn, rc⟩ := r
   dsimp only at HST
   have x0 : wr.cell? ⟨b, off + k * 10, none⟩ = some (.int .i64 rk) := hc 0 (by omega)
   have x1 : wr.cell? ⟨b, off + k * 10 + 1, none⟩ = some (.string rt) := hc 1 (by omega)
   have x2 : wr.cell? ⟨b, off + k * 10 + 2, none⟩ = some (.slice rAr rnr rzr) := hc 2 (by omega)
   have x3 : wr.cell? ⟨b, off + k * 10 + 3, none⟩ = some (.int .i64 rck) := hc 3 (by omega)
   have x4 : wr.cell? ⟨b, off + k * 10 + 4, none⟩ = some (.string rct) := hc 4 (by omega)
   have x5 : wr.cell? ⟨b, off + k * 10 + 5, none⟩ = some (.slice rA rn rc) := hc 5 (by omega)
   have x6 : wr.cell? ⟨b, off + k * 10 + 6, none⟩ = some (.int .i64 rK) := hc 6 (by omega)
   have x7 : wr.cell? ⟨b, off + k * 10 + 7, none⟩ = some (.string rcn) := hc 7 (by omega)
   have x8 : wr.cell? ⟨b, off + k * 10 + 8, none⟩ = some (.int .i64 rcq) := hc 8 (by omega)
   have x9 : wr.cell? ⟨b, off + k * 10 + 9, none⟩ = some (.bool rcb) := hc 9 (by omega)
   clear hc HFR HS
   go_wp2_with fail
   refine HST.out.mono ?_
   rintro e w1 ⟨v, rfl, hv, hb1⟩
   have HV := Lib.hid hv
   have HB1 := Lib.hid (HB.out.trans (hb1.out.mono HB.out.size))
   clear hv hb1 HB HT HST x0 x1 x2 x3 x4 x5 x6 x7 x8 x9
   by_cases hE : E = 0
   ·obtain ⟨A1, n1, c1, rfl, hT1⟩ := HV.out hE
    have HS1 := Lib.hid (HNX.out hE)
    subst hE
    clear HV HNX HBD
    go_wp2_with fail
    go_roundw
    case rel => exact ⟨k + 1, DD, A1, n1, c1, by omega, by go_num, rfl, HS1, hT1.out.mono fun b hb => hb.1, HB1⟩
    case measure => simp [intOf]; omega
   ·have hE0 : (E != 0) = true := by simpa using hE
    have HBA := Lib.hid (HBD.out E rfl hE)
    clear HV HNX HBD hE
    go_wp2_with fail
    go_ret2
    exact .inl ⟨E, HBA.out, rfl, HB1⟩
  ·obtain rfl : k = nw := by omega
   have HSX : Hid (Steps D0 (X.map (·.x)) D) := by
    have h := HS.out
    rw [← HX.out, List.take_length] at h
    exact h
   go_wp2_with fail
   go_ret2
   exact .inr ⟨D, At, nt, ctt, HSX.out, rfl, HT, HB⟩
end Go.Proofs.YtlnbhlgkehenpaaGreatDoor
namespace Go.Proofs.YtlnbhlgkehenpaaGreatDoor
open Go.ChangeShapes Go.WideShapes Go.RowKit Go.Joins Go.Deep Go.Lib
set_option maxRecDepth 100000
section
variable {H : Type} {enc : TypeId × Value → H} {w : World} {base : Nat} {spare : Nat → Bool} {held : Bool}
theorem slice_few {t e : TypeId} {z : Nat} {fuel : Nat} {cs : List Value} {x : DataW H × List MemPlace} (ht : Tryz.prog.underlying t = some (.slice e)) (hb : Tryz.prog.bytesOf e = z) (h : DataW.trod enc Tryz.prog w base spare held fuel t cs = some x) (hl : Lite t x.1) {A : Option Addr} {n c : Nat} (hcs : cs = [.slice A n c]) : n * z ≤ 140737488355328 ∧ (A = none → c = 0) := by
 rcases open_slice ht h with ⟨hc, _⟩ | ⟨a, len, cap, m, k, D, Pl, hc, _, hlc, hcm, hm, hx, hel⟩
 ·rw [hc] at hcs
  injection hcs with hcs
  injection hcs with e1 e2 e3
  subst e1 e2 e3
  exact ⟨by simp, fun _ => rfl⟩
 ·rw [hc] at hcs
  injection hcs with hcs
  injection hcs with e1 e2 e3
  subst e1 e2 e3
  have q := reach_le (hl ((len + (m - len)) * z) (by
   rw [hx]
   simp only [DataW.weights, ht, hb, List.length_map, List.length_range]
   exact List.mem_cons_self))
  refine ⟨Nat.le_trans (Nat.mul_le_mul_right _ (by omega)) q, fun e => by cases e⟩
theorem bytesV : Tryz.prog.bytesOf 115 = 32 := by kernel_rfl
theorem bytesC : Tryz.prog.bytesOf 46 = 32 := by kernel_rfl
theorem chg_few {fuel : Nat} {cs : List Value} {x : DataW H × List MemPlace} (h : DataW.trod enc Tryz.prog w base spare held fuel 48 cs = some x) (hl : Lite 48 x.1) {c0 c1 c3 c4 c5 c6 : Value} {A : Option Addr} {n c : Nat} (hcs : cs = [c0, c1, .slice A n c, c3, c4, c5, c6]) : n * 32 ≤ 140737488355328 ∧ (A = none → c = 0) := by
 obtain ⟨xs, n', _, hx, hc, hxl, hf⟩ := DataW.trod_struct Tryz.underlying48 h
 match xs, hxl with
 | [y0, y1, y2, y3], _ =>
   have f2 := hf 2 _ rfl
   simp [cellsI, cellsS, cellsH, cellsC, hcs] at f2
   have l2 : Lite 39 y2.1 := fun n hn => hl n (by rw [hx]; simp only [DataW.weights, Tryz.underlying48]; simp [DataW.weightsEach]; exact .inr (.inr (.inl hn)))
   obtain ⟨zs, n2, _, hx2, hc2, hxl2, hf2⟩ := DataW.trod_struct Tryz.underlying39 f2
   match zs, hxl2 with
   | [z0, z1], _ =>
     have g0 := hf2 0 _ rfl
     simp [cellsI, cellsL] at g0
     exact slice_few Tryz.underlying37 bytesC g0 (fun n hn => l2 n (by rw [hx2]; simp only [DataW.weights, Tryz.underlying39]; simp [DataW.weightsEach]; exact .inl hn)) rfl
def RowI (w : World) (A : Option Addr) (n c : Nat) (L : List Vl) : Prop := RowIn w A n c L ∧ n ≤ 4398046511104 ∧ (A = none → c = 0)
def ColI (w : World) (A : Option Addr) (n c : Nat) (L : List Cl) : Prop := (L.length = n ∧ n ≤ c ∧ c ≤ maxLen ∧ CRow w A L ∧ ∀ v ∈ L, v.fit) ∧ n ≤ 4398046511104 ∧ (A = none → c = 0)
theorem RowI.below {w w' : World} {A : Option Addr} {n c : Nat} {L : List Vl} (h : RowI w A n c L) (hb : Below w.heap.size w w') : RowI w' A n c L := ⟨⟨h.1.1, h.1.2.1, h.1.2.2.1, h.1.2.2.2.1.below hb, h.1.2.2.2.2⟩, h.2⟩
theorem ColI.below {w w' : World} {A : Option Addr} {n c : Nat} {L : List Cl} (h : ColI w A n c L) (hb : Below w.heap.size w w') : ColI w' A n c L := ⟨⟨h.1.1, h.1.2.1, h.1.2.2.1, h.1.2.2.2.1.below hb, h.1.2.2.2.2⟩, h.2⟩
structure Ei where
 x : Ev
 Ab : Option Addr
 nb : Nat
 zb : Nat
 Aa : Option Addr
 na : Nat
 za : Nat
 A : Option Addr
 n : Nat
 c : Nat
def Ei.row (r : Ei) : List Value := [.int .i64 r.x.k, .int .i64 r.x.n, .string r.x.t, .slice r.Ab r.nb r.zb, .slice r.Aa r.na r.za, .int .i64 r.x.ck, .string r.x.ct, .slice r.A r.n r.c, .int .i64 r.x.K, .string r.x.cl.nm, .int .i64 r.x.cl.k, .bool r.x.cl.no]
structure Ei.arg (w : World) (r : Ei) : Prop where
 k : -9223372036854775808 ≤ r.x.k ∧ r.x.k ≤ 9223372036854775807
 n : -9223372036854775808 ≤ r.x.n ∧ r.x.n ≤ 9223372036854775807
 b : RowI w r.Ab r.nb r.zb r.x.B
 a : RowI w r.Aa r.na r.za r.x.A
 c : ColI w r.A r.n r.c r.x.L
 cl : r.x.cl.fit ∧ r.x.ct.size ≤ 140737488355328
 t : r.x.t.size ≤ 140737488355328
theorem Ei.arg.below {w w' : World} {r : Ei} (h : r.arg w) (hb : Below w.heap.size w w') : r.arg w' := ⟨h.k, h.n, h.b.below hb, h.a.below hb, h.c.below hb, h.cl, h.t⟩
set_option maxHeartbeats 1000000 in
theorem ei_of {fuel : Nat} {cs : List Value} {x : DataW H × List MemPlace} (h : DataW.trod enc Tryz.prog w base spare held fuel 61 cs = some x) (hl : Lite 61 x.1) :
 ∃ r : Ei, cs = r.row ∧ r.arg w := by
 obtain ⟨ek, en, et, Ab, nb, cb, Lb, Aa, na, ca, La, ck, tn, A, len, cap, L, K, cl, e, hek, hen, hB, hA, hL, hcl, het⟩ := evt_in h hl
 obtain ⟨xs, k, _, hx, hc, hxl, hf⟩ := DataW.trod_struct Tryz.underlying61 h
 subst e
 match xs, hxl with
 | [y0, y1, y2, y3, y4, y5], _ =>
   have f3 := hf 3 _ rfl
   have f4 := hf 4 _ rfl
   have f5 := hf 5 _ rfl
   simp [cellsI, cellsS, cellsR, cellsG] at f3 f4 f5
   have q3 := slice_few Tryz.underlying50 bytesV f3 (fun n hn => hl n (by rw [hx]; simp only [DataW.weights, Tryz.underlying61]; simp [DataW.weightsEach]; exact .inr (.inr (.inr (.inl hn))))) rfl
   have q4 := slice_few Tryz.underlying50 bytesV f4 (fun n hn => hl n (by rw [hx]; simp only [DataW.weights, Tryz.underlying61]; simp [DataW.weightsEach]; exact .inr (.inr (.inr (.inr (.inl hn)))))) rfl
   have q5 := chg_few f5 (fun n hn => hl n (by rw [hx]; simp only [DataW.weights, Tryz.underlying61]; simp [DataW.weightsEach]; exact .inr (.inr (.inr (.inr (.inr hn)))))) rfl
   exact ⟨⟨⟨ek, en, et, Lb, La, ck, tn, L, K, cl⟩, Ab, nb, cb, Aa, na, ca, A, len, cap⟩, rfl, hek, hen, ⟨hB, by have := q3.1; show nb ≤ _; omega, q3.2⟩, ⟨hA, by have := q4.1; show na ≤ _; omega, q4.2⟩, ⟨hL, by have := q5.1; show len ≤ _; omega, q5.2⟩, hcl, het⟩
structure Gr.arg (w : World) (r : Gr) : Prop where
 k : -9223372036854775808 ≤ r.x.k ∧ r.x.k ≤ 9223372036854775807
 a : RowI w r.Ar r.nr r.zr r.x.R
 c : ColI w r.A r.n r.c r.x.L
 cl : r.x.cl.fit ∧ r.x.ct.size ≤ 140737488355328
 t : r.x.t.size ≤ 140737488355328
theorem Gr.arg.below {w w' : World} {r : Gr} (h : r.arg w) (hb : Below w.heap.size w w') : r.arg w' := ⟨h.k, h.a.below hb, h.c.below hb, h.cl, h.t⟩
theorem cellsW10 : Tryz.prog.cellsOf 52 = 10 := by kernel_rfl
set_option maxHeartbeats 1000000 in
theorem gr_of {fuel : Nat} {cs : List Value} {x : DataW H × List MemPlace} (h : DataW.trod enc Tryz.prog w base spare held fuel 52 cs = some x) (hl : Lite 52 x.1) :
 ∃ r : Gr, cs = r.row ∧ r.arg w := by
 obtain ⟨xs, n, _, hx, hc, hxl, hf⟩ := DataW.trod_struct Tryz.underlying52 h
 rw [cellsW10] at hc
 match cs, hc with
 | [c0, c1, c2, c3, c4, c5, c6, c7, c8, c9], _ =>
   match xs, hxl with
   | [y0, y1, y2, y3], _ =>
     have f0 := hf 0 _ rfl
     have f1 := hf 1 _ rfl
     have f2 := hf 2 _ rfl
     have f3 := hf 3 _ rfl
     simp [cellsI, cellsS, cellsR, cellsG] at f0 f1 f2 f3
     have l2 : Lite 50 y2.1 := fun n hn => hl n (by rw [hx]; simp only [DataW.weights, Tryz.underlying52]; simp [DataW.weightsEach]; exact .inr (.inr (.inl hn)))
     have l3 : Lite 48 y3.1 := fun n hn => hl n (by rw [hx]; simp only [DataW.weights, Tryz.underlying52]; simp [DataW.weightsEach]; exact .inr (.inr (.inr hn)))
     obtain ⟨ek, e0, _, hek⟩ := DataW.trod_int Tryz.underlying3 f0
     obtain ⟨et, e1, ey, _⟩ := DataW.trod_string Tryz.underlying9 f1
     have hsz := hl et.data.toList.length (by rw [hx]; simp [DataW.weights, Tryz.underlying52, DataW.weightsEach, ey])
     rw [bytes_size] at hsz
     obtain ⟨Aa, na, ca, La, e2, hA⟩ := rvals_in f2 l2
     obtain ⟨ck, tn, A, len, cap, L, K, cl, e3, hL, hcl⟩ := chgS_in f3 l3
     simp at e0 e1 e2 e3
     obtain ⟨e3, e4, e5, e6, e7, e8, e9⟩ := e3
     subst e0 e1 e2 e3 e4 e5 e6 e7 e8 e9
     have q2 := slice_few Tryz.underlying50 bytesV f2 l2 rfl
     have q3 := chg_few f3 l3 rfl
     exact ⟨⟨⟨ek, et, La, ck, tn, L, K, cl⟩, Aa, na, ca, A, len, cap⟩, rfl, bounds_int hek, ⟨hA, by have := q2.1; show na ≤ _; omega, q2.2⟩, ⟨hL, by have := q3.1; show len ≤ _; omega, q3.2⟩, hcl, reach_le hsz⟩
def EiRow (w : World) (A : Option Addr) (T : List Ei) : Prop := T ≠ [] → ∃ b off, A = some ⟨b, off, none⟩ ∧ ∀ i (h : i < T.length), ∀ j, j < 12 → w.cell? ⟨b, off + i * 12 + j, none⟩ = T[i].row[j]?
theorem row12 (r : Ei) (j : Nat) (hj : j < 12) : ∃ v, r.row[j]? = some v := ⟨r.row[j]'(by simpa [Ei.row] using hj), List.getElem?_eq_getElem _⟩
theorem evs_of {fuel : Nat} {cs : List Value} {x : DataW H × List MemPlace} (h : DataW.trod enc Tryz.prog w base spare held fuel 24 cs = some x) (hl : Lite 24 x.1) :
 ∃ (A : Option Addr) (len cap : Nat) (L : List Ei), cs = [.slice A len cap] ∧ L.length = len ∧ len ≤ cap ∧ cap ≤ maxLen ∧ EiRow w A L ∧ ∀ r ∈ L, r.arg w := by
 rcases open_slice Tryz.underlying24 h with ⟨hcs, _⟩ | ⟨a, len, cap, m, n, D, Pl, hcs, _, hlc, hcm, hm, hx, hel⟩
 ·exact ⟨none, 0, 0, [], hcs, rfl, Nat.le_refl _, Nat.zero_le _, fun h => absurd rfl h, fun _ h => by cases h⟩
 ·have hlm : len ≤ m := by rw [hm]; split <;> omega
  have hv : ∀ i, i < len → ∃ v : Ei, v.arg w ∧ ∀ j (hj : j < 12), w.cell? (a.add (i * 12 + j)) = v.row[j]? := by
   intro i hi
   obtain ⟨cs', hc, ht⟩ := hel i (by omega)
   rw [cellsE] at hc
   obtain ⟨_, _, hat⟩ := World.cells?_some hc
   obtain ⟨v, e, hfit⟩ := ei_of ht (fun n hn => hl n (by
    rw [hx]
    simp only [DataW.weights, Tryz.underlying24]
    refine List.mem_cons_of_mem _ (List.mem_append_left _ (weights_in (d := D i) ?_ n hn))
    exact List.mem_map.2 ⟨i, List.mem_range.2 hi, rfl⟩))
   refine ⟨v, hfit, fun j hj => ?_⟩
   rw [← Go.Deep.add_add, hat j hj, e]
  have hL : ∃ L : List Ei, L.length = len ∧ (∀ v ∈ L, v.arg w) ∧ ∀ i (hi : i < L.length), ∀ j, j < 12 → w.cell? (a.add (i * 12 + j)) = L[i].row[j]? := by
   clear hx hel hm hlc hlm hcs
   induction len with
   | zero => exact ⟨[], rfl, fun _ h => (by cases h), fun i hi => absurd hi (by simp)⟩
   | succ len ih =>
     obtain ⟨L, h1, h2, h3⟩ := ih (fun i hi => hv i (by omega))
     obtain ⟨v, h4, h5⟩ := hv len (by omega)
     refine ⟨L ++ [v], by simp [h1], fun u hu => ?_, fun i hi j hj => ?_⟩
     ·rcases List.mem_append.1 hu with h | h
      ·exact h2 u h
      ·rw [List.mem_singleton.1 h]; exact h4
     ·by_cases hil : i < L.length
      ·rw [List.getElem_append_left hil]; exact h3 i hil j hj
      ·have e : i = len := by simp at hi; omega
       subst e
       rw [List.getElem_append_right (by omega)]
       simp only [h1, Nat.sub_self, zC]
       exact h5 j hj
  obtain ⟨L, h1, h2, h3⟩ := hL
  refine ⟨some a, len, cap, L, hcs, h1, hlc, hcm, fun hne => ?_, h2⟩
  have h0 : 0 < L.length := List.length_pos_iff.2 hne
  obtain ⟨b, off, ha⟩ : ∃ b off, a = ⟨b, off, none⟩ := by
   have := h3 0 h0 0 (by omega)
   obtain ⟨b, off, spot⟩ := a
   have hspot : spot = none := by
    obtain ⟨v, hv⟩ := row12 L[0] 0 (by omega)
    rw [hv] at this
    simpa [Addr.add] using World.cell?_spot this
   exact ⟨b, off, by rw [hspot]⟩
  subst ha
  refine ⟨b, off, rfl, fun i hi j hj => ?_⟩
  have q := h3 i hi j hj
  rw [Addr.add_lit] at q
  rw [Nat.add_assoc]
  exact q
theorem eis_in {r : Reach} {b0 : Nat} {v : Value} {d : DataW H} {p : List MemPlace} (hv : Value.okWide Tryz.prog w r b0 24 v) (h : DataW.Trod enc Tryz.prog w base spare held 24 v d p) (hl : Lite 24 d) :
 ∃ (A : Option Addr) (len cap : Nat) (L : List Ei), v = .slice A len cap ∧ L.length = len ∧ len ≤ cap ∧ cap ≤ maxLen ∧ EiRow w A L ∧ ∀ r ∈ L, r.arg w := by
 obtain ⟨a, l0, c0, rfl⟩ := okWide_slice Tryz.underlying24 hv
 obtain ⟨fuel, hf⟩ := h
 obtain ⟨A, len, cap, L, hcs, rest⟩ := evs_of hf hl
 simp [Value.cells] at hcs
 obtain ⟨rfl, rfl, rfl⟩ := hcs
 exact ⟨_, _, _, L, rfl, rest⟩
theorem grs_of {fuel : Nat} {cs : List Value} {x : DataW H × List MemPlace} (h : DataW.trod enc Tryz.prog w base spare held fuel 23 cs = some x) (hl : Lite 23 x.1) :
 ∃ (A : Option Addr) (len cap : Nat) (L : List Gr), cs = [.slice A len cap] ∧ L.length = len ∧ len ≤ cap ∧ cap ≤ maxLen ∧ GRow w A L ∧ ∀ r ∈ L, r.arg w := by
 rcases open_slice Tryz.underlying23 h with ⟨hcs, _⟩ | ⟨a, len, cap, m, n, D, Pl, hcs, _, hlc, hcm, hm, hx, hel⟩
 ·exact ⟨none, 0, 0, [], hcs, rfl, Nat.le_refl _, Nat.zero_le _, fun h => absurd rfl h, fun _ h => by cases h⟩
 ·have hlm : len ≤ m := by rw [hm]; split <;> omega
  have hv : ∀ i, i < len → ∃ v : Gr, v.arg w ∧ ∀ j (hj : j < 10), w.cell? (a.add (i * 10 + j)) = v.row[j]? := by
   intro i hi
   obtain ⟨cs', hc, ht⟩ := hel i (by omega)
   rw [cellsW10] at hc
   obtain ⟨_, _, hat⟩ := World.cells?_some hc
   obtain ⟨v, e, hfit⟩ := gr_of ht (fun n hn => hl n (by
    rw [hx]
    simp only [DataW.weights, Tryz.underlying23]
    refine List.mem_cons_of_mem _ (List.mem_append_left _ (weights_in (d := D i) ?_ n hn))
    exact List.mem_map.2 ⟨i, List.mem_range.2 hi, rfl⟩))
   refine ⟨v, hfit, fun j hj => ?_⟩
   rw [← Go.Deep.add_add, hat j hj, e]
  have hL : ∃ L : List Gr, L.length = len ∧ (∀ v ∈ L, v.arg w) ∧ ∀ i (hi : i < L.length), ∀ j, j < 10 → w.cell? (a.add (i * 10 + j)) = L[i].row[j]? := by
   clear hx hel hm hlc hlm hcs
   induction len with
   | zero => exact ⟨[], rfl, fun _ h => (by cases h), fun i hi => absurd hi (by simp)⟩
   | succ len ih =>
     obtain ⟨L, h1, h2, h3⟩ := ih (fun i hi => hv i (by omega))
     obtain ⟨v, h4, h5⟩ := hv len (by omega)
     refine ⟨L ++ [v], by simp [h1], fun u hu => ?_, fun i hi j hj => ?_⟩
     ·rcases List.mem_append.1 hu with h | h
      ·exact h2 u h
      ·rw [List.mem_singleton.1 h]; exact h4
     ·by_cases hil : i < L.length
      ·rw [List.getElem_append_left hil]; exact h3 i hil j hj
      ·have e : i = len := by simp at hi; omega
       subst e
       rw [List.getElem_append_right (by omega)]
       simp only [h1, Nat.sub_self, zC]
       exact h5 j hj
  obtain ⟨L, h1, h2, h3⟩ := hL
  refine ⟨some a, len, cap, L, hcs, h1, hlc, hcm, fun hne => ?_, h2⟩
  have h0 : 0 < L.length := List.length_pos_iff.2 hne
  obtain ⟨b, off, ha⟩ : ∃ b off, a = ⟨b, off, none⟩ := by
   have := h3 0 h0 0 (by omega)
   obtain ⟨b, off, spot⟩ := a
   have hspot : spot = none := by
    obtain ⟨v, hv⟩ := grow10 L[0] 0 (by omega)
    rw [hv] at this
    simpa [Addr.add] using World.cell?_spot this
   exact ⟨b, off, by rw [hspot]⟩
  subst ha
  refine ⟨b, off, rfl, fun i hi j hj => ?_⟩
  have q := h3 i hi j hj
  rw [Addr.add_lit] at q
  rw [Nat.add_assoc]
  exact q
theorem grs_in {r : Reach} {b0 : Nat} {v : Value} {d : DataW H} {p : List MemPlace} (hv : Value.okWide Tryz.prog w r b0 23 v) (h : DataW.Trod enc Tryz.prog w base spare held 23 v d p) (hl : Lite 23 d) :
 ∃ (A : Option Addr) (len cap : Nat) (L : List Gr), v = .slice A len cap ∧ L.length = len ∧ len ≤ cap ∧ cap ≤ maxLen ∧ GRow w A L ∧ ∀ r ∈ L, r.arg w := by
 obtain ⟨a, l0, c0, rfl⟩ := okWide_slice Tryz.underlying23 hv
 obtain ⟨fuel, hf⟩ := h
 obtain ⟨A, len, cap, L, hcs, rest⟩ := grs_of hf hl
 simp [Value.cells] at hcs
 obtain ⟨rfl, rfl, rfl⟩ := hcs
 exact ⟨_, _, _, L, rfl, rest⟩
end
end Go.Proofs.YtlnbhlgkehenpaaGreatDoor
namespace Go.Proofs.YtlnbhlgkehenpaaGreatDoor
open Go.RowKit Go.Shelf Go.Maps Dg
set_option maxRecDepth 100000
theorem ofV_full {w : World} (f : Ev) {Ab : Option Addr} {nb zb : Nat} {Aa : Option Addr} {na za : Nat} {A : Option Addr} {n c : Nat} (h : EvW w f Ab nb zb Aa na za A n c) (hx : f.B.length ≤ 1000000 ∧ f.A.length ≤ 1000000 ∧ n ≤ c ∧ c ≤ maxLen ∧ (A = none → c = 0)) :
 ∃ g : Gr, ofV f.k f.t (.slice Aa na za) (.slice Ab nb zb) f.ck f.ct (.slice A n c) f.K f.cl.nm f.cl.k f.cl.no = g.val ∧ g.full w ∧ (g.Ar = Aa ∨ g.Ar = Ab ∨ g.Ar = none) ∧ ((g.A = A ∧ g.x.L = f.L) ∨ g.A = none) := by
 have hz : ([] : List Vl).length = 0 ∧ 0 ≤ 0 ∧ 0 ≤ 4398046511104 ∧ VRow w none [] ∧ ∀ y ∈ ([] : List Vl), y.fit := ⟨rfl, Nat.le_refl _, by omega, (fun h => absurd rfl h), fun y hy => by cases hy⟩
 have hc : ([] : List Cl).length = 0 ∧ 0 ≤ 4398046511104 ∧ CRow w none [] ∧ ∀ y ∈ ([] : List Cl), y.fit := ⟨rfl, by omega, (fun h => absurd rfl h), fun y hy => by cases hy⟩
 have hcc : 0 ≤ 0 ∧ 0 ≤ maxLen ∧ ((none : Option Addr) = none → 0 = 0) := ⟨Nat.le_refl _, Nat.zero_le _, fun _ => rfl⟩
 have hcl : (⟨⟨#[]⟩, 0, false⟩ : Cl).fit := ⟨by show (0 : Nat) ≤ _; omega, by show _ ≤ (0 : Int); omega, by show (0 : Int) ≤ _; omega⟩
 have hct : (⟨#[]⟩ : ByteArray).size ≤ 140737488355328 := by show (0 : Nat) ≤ _; omega
 by_cases h1 : f.k = 3 ∨ f.k = 4
 ·exact ⟨⟨⟨1, f.t, f.A, 0, ⟨#[]⟩, [], 0, ⟨⟨#[]⟩, 0, false⟩⟩, Aa, na, za, none, 0, 0⟩, by unfold ofV; rw [if_pos h1]; rfl, ⟨⟨h.a.1, h.a.2.1, by have h1 := h.a.1; have h2 := hx.2.1; show na ≤ _; omega, h.a.2.2⟩, hc, hct, hcl, hcc⟩, .inl rfl, .inr rfl⟩
 by_cases h2 : f.k = 5
 ·exact ⟨⟨⟨2, f.t, f.B, 0, ⟨#[]⟩, [], 0, ⟨⟨#[]⟩, 0, false⟩⟩, Ab, nb, zb, none, 0, 0⟩, by unfold ofV; rw [if_neg h1, if_pos h2]; rfl, ⟨⟨h.b.1, h.b.2.1, by have h1 := h.b.1; have h2 := hx.1; show nb ≤ _; omega, h.b.2.2⟩, hc, hct, hcl, hcc⟩, .inr (.inl rfl), .inr rfl⟩
 by_cases h3 : f.k = 6
 ·exact ⟨⟨⟨3, ⟨#[]⟩, [], f.ck, f.ct, f.L, f.K, f.cl⟩, none, 0, 0, A, n, c⟩, by unfold ofV; rw [if_neg h1, if_neg h2, if_pos h3]; rfl, ⟨hz, h.l, h.ct, h.cl, hx.2.2⟩, .inr (.inr rfl), .inl ⟨rfl, rfl⟩⟩
 ·exact ⟨⟨⟨0, ⟨#[]⟩, [], 0, ⟨#[]⟩, [], 0, ⟨⟨#[]⟩, 0, false⟩⟩, none, 0, 0, none, 0, 0⟩, by unfold ofV; rw [if_neg h1, if_neg h2, if_neg h3]; rfl, ⟨hz, hc, hct, hcl, hcc⟩, .inr (.inr rfl), .inr rfl⟩
def Gr.off (r : Gr) (g : Nat) : Prop := (r.x.R ≠ [] → ∀ a, r.Ar = some a → a.block ≠ g) ∧ (r.x.L ≠ [] → ∀ a, r.A = some a → a.block ≠ g)
theorem Gr.full.tur {X : List Nat} {w w' : World} {r : Gr} (h : r.full w) (ht : Tur X w w') (ho : ∀ b ∈ X, r.off b) : r.full w' := by
 refine ⟨⟨h.a.1, h.a.2.1, h.a.2.2.1, fun hne => ?_, h.a.2.2.2.2⟩, ⟨h.c.1, h.c.2.1, fun hne => ?_, h.c.2.2.2⟩, h.ct, h.cl, h.cc⟩
 ·exact (h.a.2.2.2.1.tur ht fun a e hm => (ho _ hm).1 hne a e rfl) hne
 ·exact (crow_turZ h.c.2.2.1 ht fun a e hm => (ho _ hm).2 hne a e rfl) hne
theorem Gr.full.lt {w : World} {r : Gr} (h : r.full w) {g : Nat} (hg : w.heap.size ≤ g) : r.off g := by
 refine ⟨fun hne a e => ?_, fun hne a e => ?_⟩
 ·obtain ⟨b, off, e2, hc⟩ := h.a.2.2.2.1 hne
  rw [e] at e2
  injection e2 with e2
  subst e2
  have hp : 0 < r.x.R.length := List.length_pos_iff.2 hne
  have := World.block_lt_of_cell? w _ (hc 0 hp).1
  intro e3
  simp only at this e3
  omega
 ·obtain ⟨b, off, e2, hc⟩ := h.c.2.2.1 hne
  rw [e] at e2
  injection e2 with e2
  subst e2
  have hp : 0 < r.x.L.length := List.length_pos_iff.2 hne
  have := World.block_lt_of_cell? w _ (hc 0 hp).1
  intro e3
  simp only at this e3
  omega
theorem EiRow.below {w w' : World} {A : Option Addr} {T : List Ei} (h : EiRow w A T) (hb : Below w.heap.size w w') : EiRow w' A T := fun hne => by
 obtain ⟨b, off, e, hc⟩ := h hne
 refine ⟨b, off, e, fun i hi j hj => ?_⟩
 obtain ⟨v, hv⟩ := row12 T[i] j hj
 have h0 := hc i hi j hj
 rw [hv] at h0 ⊢
 exact (hb.cell (World.block_lt_of_cell? w _ h0)).trans h0
end Go.Proofs.YtlnbhlgkehenpaaGreatDoor
