/-
  Put together, as far as it is used: WvQe, WvK, RSt, WvQf, Qr, WBehW, CardD, WJoinW.
-/
import Derived.Test.YtlnbhlgkehenpaaGreatDoorPwg
import Derived.Test.YtlnbhlgkehenpaaGreatDoorPwh
import Derived.Test.YtlnbhlgkehenpaaGreatDoorPwf
import Derived.Test.YtlnbhlgkehenpaaGreatDoorPwd
import Derived.Test.YtlnbhlgkehenpaaGreatDoorPwc
import Derived.Test.YtlnbhlgkehenpaaGreatDoorPwe
import Derived.Test.YtlnbhlgkehenpaaGreatDoorTie
import Derived.Test.YtlnbhlgkehenpaaGreatDoorPwb
import Derived.LaidMore
import Derived.Lay
import Derived.SevenTiedAt
import Derived.PinnedBridge
import Derived.Stop.Joined
set_option linter.unusedVariables false
set_option linter.unusedSimpArgs false
set_option linter.defProp false
namespace Go.Proofs.YtlnbhlgkehenpaaGreatDoor
open Go.RowKit Go.Shelf Go.Maps Dg
set_option maxRecDepth 100000
structure GdSt (w : World) (D0 : List Td) (k : Nat) (o : Value) (At : Option Addr) (nt ctt : Nat) (wr : World) (D : List Td) (X : List Gr) : Prop where
 few : X.length ≤ k
 st : Steps D0 (X.map (·.x)) D
 tb : TbI wr (fun b => b < wr.heap.size ∧ o.ownBlock ≠ some b) At nt ctt D
 own : OwnG w.heap.size wr o X
 full : ∀ r ∈ X, r.full wr
 off : ∀ r ∈ X, ∀ b, o.ownBlock = some b → r.off b
 bel : Below w.heap.size w wr
theorem GdSt.below {w : World} {D0 : List Td} {k : Nat} {o : Value} {At : Option Addr} {nt ctt : Nat} {wr W : World} {D : List Td} {X : List Gr} (h : GdSt w D0 k o At nt ctt wr D X) (hb : Below wr.heap.size wr W) : GdSt w D0 k o At nt ctt W D X :=
 ⟨h.few, h.st, (h.tb.below hb).mono fun b hb2 => ⟨Nat.lt_of_lt_of_le hb2.1 hb.size, hb2.2⟩, h.own.below hb, fun r hr => (h.full r hr).below hb, h.off, h.bel.trans (hb.mono h.bel.size)⟩
theorem GdSt.skip {w : World} {D0 : List Td} {k : Nat} {o : Value} {At : Option Addr} {nt ctt : Nat} {wr : World} {D : List Td} {X : List Gr} (h : GdSt w D0 k o At nt ctt wr D X) : GdSt w D0 (k + 1) o At nt ctt wr D X :=
 ⟨by have := h.few; omega, h.st, h.tb, h.own, h.full, h.off, h.bel⟩
theorem GdSt.more {w : World} {D0 : List Td} {k m : Nat} {o : Value} {At : Option Addr} {nt ctt : Nat} {wr : World} {D : List Td} {X : List Gr} (h : GdSt w D0 k o At nt ctt wr D X) (hm : k ≤ m) : GdSt w D0 m o At nt ctt wr D X :=
 ⟨Nat.le_trans h.few hm, h.st, h.tb, h.own, h.full, h.off, h.bel⟩
theorem GdSt.app {w : World} {D0 : List Td} {k : Nat} {o : Value} {At : Option Addr} {nt ctt : Nat} {W : World} {D : List Td} {X : List Gr} (h : GdSt w D0 k o At nt ctt W D X) (r : Gr) (hr : r.full W) (hro : ∀ b, o.ownBlock = some b → r.off b) (hE : stE (D.map mkT) r.x = 0) {A1 : Option Addr} {n1 c1 : Nat} (hT : TbI W (fun b => b < W.heap.size ∧ o.ownBlock ≠ some b) A1 n1 c1 (stD (D.map mkT) r.x))
 {R : Value} {W' : World} (hown : OwnG w.heap.size W' R (X ++ [r])) (ht : Tur o.ownBlock.toList W W') (hk : ∀ b, R.ownBlock = some b → o.ownBlock = some b ∨ W.heap.size ≤ b) : GdSt w D0 (k + 1) R A1 n1 c1 W' (stD (D.map mkT) r.x) (X ++ [r]) := by
 have hoff : ∀ q : Gr, (∀ b, o.ownBlock = some b → q.off b) → q.full W → ∀ b, R.ownBlock = some b → q.off b := fun q h1 h2 b hb => (hk b hb).elim (h1 b) fun h => h2.lt h
 have hfull : ∀ q : Gr, (∀ b, o.ownBlock = some b → q.off b) → q.full W → q.full W' := fun q h1 h2 => h2.tur ht fun b hb => h1 b (by simpa using hb)
 refine ⟨by rw [List.length_append]; have := h.few; simp; omega, by rw [List.map_append]; exact .snoc _ h.st hE, ?_, hown, fun q hq => ?_, fun q hq => ?_, ?_⟩
 ·refine (hT.tur ht fun b hb => ?_).mono fun b hb => ⟨Nat.lt_of_lt_of_le hb.1 ht.size, fun e => ?_⟩
  ·intro hm
   exact hb.2 (by simpa using hm)
  ·rcases hk b e with h1 | h1
   ·exact hb.2 h1
   ·have := hb.1; omega
 ·rcases List.mem_append.1 hq with hq | hq
  ·exact hfull q (h.off q hq) (h.full q hq)
  ·obtain rfl := List.mem_singleton.1 hq; exact hfull q hro hr
 ·rcases List.mem_append.1 hq with hq | hq
  ·exact hoff q (h.off q hq) (h.full q hq)
  ·obtain rfl := List.mem_singleton.1 hq; exact hoff q hro hr
 ·exact h.bel.trans (ht.below (B := w.heap.size) (fun b hb => (World.ownsRow.lt h.own b (by simpa using hb)).1) h.bel.size)
def GdOut (w : World) (D0 : List Td) (most : Nat) (e : Ending) (w' : World) : Prop := ∃ v At nt ctt, e = .returned (.tuple #[v, .slice At nt ctt]) ∧ ∃ X D, Hid (GdSt w D0 most v At nt ctt w' D X)
set_option maxHeartbeats 8000000 in
theorem rgd14_any (D0 : List Td) (L : List Ei) (Ae : Option Addr) (ne ce most : Nat) (A0 : Option Addr) (n0 c0 : Nat) (w : World) (hL : L.length = ne) (hA : EiRow w Ae L) (ha : ∀ r ∈ L, r.arg w) (h0 : TbI w (fun b => b < w.heap.size) A0 n0 c0 D0) (hmost : most ≤ 100) (he63 : ne ≤ 9223372036854775807) :
 Calls Tryz.prog 10 #[.slice A0 n0 c0, .slice Ae ne ce, .int .i64 most] w fun e w' => GdOut w D0 most e w' := by
 have HL := Lib.hid hL
 have HA := Lib.hid hA
 have HG := Lib.hid ha
 have H0 := Lib.hid h0
 clear hL hA ha h0
 go_enter Tryz.func10, Tryz.ntmps10
 go_wp2_with fail
 go_loopw [0, 8, 9] (fun l o i wr => ∃ (k : Nat) (D : List Td) (At : Option Addr) (nt ctt : Nat) (X : List Gr) (u : Value), k ≤ ne ∧ k ≤ most ∧ i = .int .i64 k ∧ Value.slice At nt ctt = l ∧ u = o ∧ Hid (GdSt w D0 k u At nt ctt wr D X)) (fun _ _ i _ => most - (intOf i).toNat)
 case atStart => exact ⟨0, D0, A0, n0, c0, [], _, by omega, by omega, rfl, rfl, rfl, ⟨Nat.le_refl _, Steps.nil, H0.out.mono fun b hb => ⟨hb, fun h => by cases h⟩, ownG_nil _ _, (fun r hr => by cases hr), (fun r hr => by cases hr), Below.refl _ _⟩⟩
 case round =>
  obtain ⟨k, D, At, nt, ctt, X, u, hk, hkm, rfl, rfl, rfl, HS⟩ := hrel
  by_cases hlt : k < ne ∧ k < most
  ·obtain ⟨hlt1, hlt2⟩ := hlt
   have hkl : k < L.length := by rw [HL.out]; exact hlt1
   obtain ⟨b, off, rfl, hcc⟩ := (HA.out.below HS.out.bel) (by intro e; rw [e] at hkl; simp at hkl)
   have hc := hcc k hkl
   clear hcc
   have HAR := Lib.hid ((HG.out _ (List.getElem_mem hkl)))
   have hkz : (k : Int) < (ne : Int) := by omega
   have hkz2 : (k : Int) < (most : Int) := by omega
   have hkd : decide ((k : Int) < (ne : Int)) = true := decide_eq_true hkz
   have hkd2 : decide ((k : Int) < (most : Int)) = true := decide_eq_true hkz2
   generalize L[k] = r at *
   obtain ⟨T, hd, hlen, hrow, hok, hsort, htw, hsm⟩ := HS.out.tb.tbW
   have hrt : RtD (tds T) := by rw [hd]; exact HS.out.tb.rt
   have hgs : ∀ y ∈ T, ∃ k : Nat, y.K = (k : Int) ∧ Sc y.L k := fun y hy => sc_of_may (hrt.2 y.td (List.mem_map_of_mem hy)).2
   have har := HAR.out.below HS.out.bel
   have hev : EvW wr r.x r.Ab r.nb r.zb r.Aa r.na r.za r.A r.n r.c := by
    have h1 := har.b.2.1
    have h2 := har.a.2.1
    exact ⟨⟨_, _, _, _, _, _, _, _, _, rfl, ⟨har.b.1.1, by omega, har.b.1.2.2.2.1⟩, ⟨har.a.1.1, by omega, har.a.1.2.2.2.1⟩, har.c.1.1, har.c.2.1, har.c.1.2.2.2.1⟩, ⟨har.b.1.1, har.b.1.2.1, har.b.1.2.2.2.1, fun y hy => (har.b.1.2.2.2.2 y hy).1⟩, ⟨har.a.1.1, har.a.1.2.1, har.a.1.2.2.2.1, fun y hy => (har.a.1.2.2.2.2 y hy).1⟩, by omega, by omega, ⟨har.c.1.1, har.c.2.1, har.c.1.2.2.2.1, har.c.1.2.2.2.2⟩, har.cl.2, har.cl.1⟩
   have HEV := Lib.hid (revent_sc r.x r.Ab r.nb r.zb r.Aa r.na r.za r.A r.n r.c At nt ctt T wr hev har.b.1.2.2.2.2 har.a.1.2.2.2.2 (Nat.le_trans har.b.1.2.1 har.b.1.2.2.1 |> fun _ => har.b.1.2.2.1) har.a.1.2.2.1 htw hgs ⟨har.c.1.2.1, har.c.1.2.2.1, har.c.2.2⟩ har.n)
   have HLO : Hid (∀ a, r.A = some a → r.x.L ≠ [] → a.block < w.heap.size) := fun a e hne => by
    obtain ⟨b', off', e', hc'⟩ := HAR.out.c.1.2.2.2.1 hne
    rw [e] at e'
    injection e' with e'
    subst e'
    exact World.block_lt_of_cell? w _ (hc' 0 (List.length_pos_iff.2 hne)).1
   clear T hd hlen hrow hok hsort htw hsm hrt hgs har hev HAR
   obtain ⟨⟨ek, en, et, eB, eAA, eck, ect, eL, eK, ⟨ecn, ecq, ecb⟩⟩, eAb, enb, ezb, eAa, ena, eza, eA, enn, ec⟩ := r
   dsimp only at HEV HLO
   have x0 : wr.cell? ⟨b, off + k * 12, none⟩ = some (.int .i64 ek) := hc 0 (by omega)
   have x1 : wr.cell? ⟨b, off + k * 12 + 1, none⟩ = some (.int .i64 en) := hc 1 (by omega)
   have x2 : wr.cell? ⟨b, off + k * 12 + 2, none⟩ = some (.string et) := hc 2 (by omega)
   have x3 : wr.cell? ⟨b, off + k * 12 + 3, none⟩ = some (.slice eAb enb ezb) := hc 3 (by omega)
   have x4 : wr.cell? ⟨b, off + k * 12 + 4, none⟩ = some (.slice eAa ena eza) := hc 4 (by omega)
   have x5 : wr.cell? ⟨b, off + k * 12 + 5, none⟩ = some (.int .i64 eck) := hc 5 (by omega)
   have x6 : wr.cell? ⟨b, off + k * 12 + 6, none⟩ = some (.string ect) := hc 6 (by omega)
   have x7 : wr.cell? ⟨b, off + k * 12 + 7, none⟩ = some (.slice eA enn ec) := hc 7 (by omega)
   have x8 : wr.cell? ⟨b, off + k * 12 + 8, none⟩ = some (.int .i64 eK) := hc 8 (by omega)
   have x9 : wr.cell? ⟨b, off + k * 12 + 9, none⟩ = some (.string ecn) := hc 9 (by omega)
   have x10 : wr.cell? ⟨b, off + k * 12 + 10, none⟩ = some (.int .i64 ecq) := hc 10 (by omega)
   have x11 : wr.cell? ⟨b, off + k * 12 + 11, none⟩ = some (.bool ecb) := hc 11 (by omega)
   clear hc
   go_wp2_with fail
   refine HEV.out.mono ?_
   rintro e w1 ⟨⟨fk, fn, ft, fB, fA, fck, fct, fL, fK, ⟨fcn, fcq, fcb⟩⟩, Ab', nb', zb', Aa', na', za', A', n', c', rfl, hew, hx, hb1⟩
   dsimp only at hew hx ⊢
   have HS1 := Lib.hid (HS.out.below hb1.out)
   have HEW := Lib.hid hew.out
   have HXX := Lib.hid hx.out
   have hwr := Lib.hid (World.ownsRow.lt HS.out.own)
   have hs1 := hb1.out.size
   clear hew hx hb1 HEV HS x0 x1 x2 x3 x4 x5 x6 x7 x8 x9 x10 x11
   go_wp2_with fail
   refine (rof14_any fk fn ft Ab' nb' zb' Aa' na' za' fck fct A' n' c' fK fcn fcq fcb w1).mono ?_
   rintro e w2 ⟨rfl, hb2⟩
   obtain ⟨gr, hgv, hgf, hgA, hgC⟩ := ofV_full _ HEW.out HXX.out.1
   dsimp only at hgv
   rw [hgv]
   have hoff : ∀ q, u.ownBlock = some q → gr.off q := fun q hq => by
    obtain ⟨hq1, hq2⟩ := hwr.out q hq
    refine ⟨fun _ a ea => ?_, fun hne a ea => ?_⟩
    ·rcases hgA with e | e | e
     ·have := HXX.out.2.2.1 a (e ▸ ea); omega
     ·have := HXX.out.2.1 a (e ▸ ea); omega
     ·rw [e] at ea; cases ea
    ·rcases hgC with ⟨e, e3⟩ | e
     ·rcases HXX.out.2.2.2 with ⟨e2, e4⟩ | e2
      ·have h1 := HLO.out a (by rw [← e2, ← e]; exact ea) (by dsimp only at e3 e4; rw [← e4, ← e3]; exact hne)
       omega
      ·rw [e, e2] at ea; cases ea
     ·rw [e] at ea; cases ea
   have HOF := Lib.hid hoff
   have HGF := Lib.hid (hgf.below hb2.out)
   have HS2 := Lib.hid (HS1.out.below hb2.out)
   clear hgv hgf hgA hgC hoff HEW HXX HLO HS1 hb2 hwr
   unfold Gr.val
   dsimp only
   have hb3 : Below w2.heap.size w2 (w2.alloc (.cells #[.int .i64 gr.x.k, .string gr.x.t, .slice gr.Ar gr.nr gr.zr, .int .i64 gr.x.ck, .string gr.x.ct, .slice gr.A gr.n gr.c, .int .i64 gr.x.K, .string gr.x.cl.nm, .int .i64 gr.x.cl.k, .bool gr.x.cl.no] 52)) := (Below.refl _ w2).alloc (Nat.le_refl _) _
   have HX3 := Lib.hid (Has.new w2 52 #[.int .i64 gr.x.k, .string gr.x.t, .slice gr.Ar gr.nr gr.zr, .int .i64 gr.x.ck, .string gr.x.ct, .slice gr.A gr.n gr.c, .int .i64 gr.x.K, .string gr.x.cl.nm, .int .i64 gr.x.cl.k, .bool gr.x.cl.no])
   have HG3 := Lib.hid (HGF.out.below hb3)
   have HS3 := Lib.hid (HS2.out.below hb3)
   clear HGF HS2 hb3
   generalize ofB fk = isb at *
   cases isb
   ·go_wp2_with fail
    go_roundw
    case rel => exact ⟨k + 1, D, At, nt, ctt, X, u, by omega, by omega, by go_num, rfl, rfl, HS3.out.skip⟩
    case measure => simp [intOf]; omega
   ·go_wp2_with fail
    obtain ⟨w3, hw3⟩ : ∃ W, W = w2.alloc (.cells #[.int .i64 gr.x.k, .string gr.x.t, .slice gr.Ar gr.nr gr.zr, .int .i64 gr.x.ck, .string gr.x.ct, .slice gr.A gr.n gr.c, .int .i64 gr.x.K, .string gr.x.cl.nm, .int .i64 gr.x.cl.k, .bool gr.x.cl.no] 52) := ⟨_, rfl⟩
    obtain ⟨q3, hq3⟩ : ∃ q, q = w2.heap.size := ⟨_, rfl⟩
    rw [← hw3] at HX3 HG3 HS3 ⊢
    rw [← hq3] at HX3 ⊢
    clear hw3 hq3
    have HST := Lib.hid (rstep_any gr D _ At nt ctt w3 HG3.out HS3.out.tb (fun b h => h.1))
    unfold RStO at HST
    have HAPP := Lib.hid (fun (W : World) (hS : GdSt w D0 k u At nt ctt W D X) (hf : gr.full W) (hE : stE (D.map mkT) gr.x = 0) (A1 : Option Addr) (n1 c1 : Nat) (hT : TbI W (fun b => b < W.heap.size ∧ u.ownBlock ≠ some b) A1 n1 c1 (stD (D.map mkT) gr.x)) (R : Value) (W' : World) (hown : OwnG w.heap.size W' R (X ++ [gr])) (ht : Tur u.ownBlock.toList W W') (hk : ∀ b, R.ownBlock = some b → u.ownBlock = some b ∨ W.heap.size ≤ b) => hS.app gr hf HOF.out hE hT hown ht hk)
    generalize stE (D.map mkT) gr.x = E at *
    generalize stD (D.map mkT) gr.x = DD at *
    refine HST.out.mono ?_
    rintro e w4 ⟨v4, rfl, hv4, hb4⟩
    have HV4 := Lib.hid hv4
    have HS4 := Lib.hid (HS3.out.below hb4.out)
    have HG4 := Lib.hid (HG3.out.below hb4.out)
    have HX4 := Lib.hid (HX3.out.below hb4.out HX3.out.lt)
    clear HST HG3 HX3 hb4 hv4
    by_cases hE : E = 0
    ·obtain ⟨A4, n4, c4, rfl, hT4⟩ := HV4.out hE
     have hT5 : TbI w4 (fun b => b < w4.heap.size ∧ u.ownBlock ≠ some b) A4 n4 c4 DD := hT4.out.mono fun b hb => ⟨hb.1, fun e => by
      rcases hb.2 with h | h | ⟨hne, a, ea, h⟩
      ·exact h.2 e
      ·have := (World.ownsRow.lt HS3.out.own b e).2; omega
      ·exact (HOF.out b e).2 hne a ea h⟩
     obtain ⟨R, W5, hrun, hown, ht5, hk5⟩ := appG w4 w4.heap.size rfl w.heap.size u X gr HS4.out.own HS4.out.bel.size (by have := HS4.out.few; omega)
     have HS5 := Lib.hid (HAPP.out w4 HS4.out HG4.out hE A4 n4 c4 hT5 R W5 hown ht5 hk5)
     have HRUN := Lib.hid hrun
     have hE0 : (E == 0) = true := by simpa using hE
     clear HAPP HS3 HS4 HG4 HOF HV4 hT4 hT5 hown ht5 hk5 hrun hE
     have y0 : w4.cell? ⟨q3, 0, none⟩ = some (.int .i64 gr.x.k) := HX4.out.cell 0
     have y1 : w4.cell? ⟨q3, 1, none⟩ = some (.string gr.x.t) := HX4.out.cell 1
     have y2 : w4.cell? ⟨q3, 2, none⟩ = some (.slice gr.Ar gr.nr gr.zr) := HX4.out.cell 2
     have y3 : w4.cell? ⟨q3, 3, none⟩ = some (.int .i64 gr.x.ck) := HX4.out.cell 3
     have y4 : w4.cell? ⟨q3, 4, none⟩ = some (.string gr.x.ct) := HX4.out.cell 4
     have y5 : w4.cell? ⟨q3, 5, none⟩ = some (.slice gr.A gr.n gr.c) := HX4.out.cell 5
     have y6 : w4.cell? ⟨q3, 6, none⟩ = some (.int .i64 gr.x.K) := HX4.out.cell 6
     have y7 : w4.cell? ⟨q3, 7, none⟩ = some (.string gr.x.cl.nm) := HX4.out.cell 7
     have y8 : w4.cell? ⟨q3, 8, none⟩ = some (.int .i64 gr.x.cl.k) := HX4.out.cell 8
     have y9 : w4.cell? ⟨q3, 9, none⟩ = some (.bool gr.x.cl.no) := HX4.out.cell 9
     go_wp2_with (at_builtin; refine wpList_app rfl _ _ 23 23 rfl u (.slice (some ⟨w4.heap.size, 0, none⟩) 1 1) rfl rfl ⟨R, W5, HRUN.out, ?_⟩)
     go_roundw
     case rel => exact ⟨k + 1, DD, A4, n4, c4, X ++ [gr], R, by omega, by omega, by go_num, rfl, rfl, HS5⟩
     case measure => simp [intOf]; omega
    ·have hE0 : (E == 0) = false := by simpa using hE
     clear HAPP HS3 HG4 HOF HV4 hE
     go_wp2_with fail
     go_roundw
     case rel => exact ⟨k + 1, D, At, nt, ctt, X, u, by omega, by omega, by go_num, rfl, rfl, HS4.out.skip⟩
     case measure => simp [intOf]; omega
  ·have HSF := Lib.hid (HS.out.more hkm)
   by_cases h1 : k < ne
   ·have h2 : ¬ k < most := fun h => hlt ⟨h1, h⟩
    have hkd : decide ((k : Int) < (ne : Int)) = true := decide_eq_true (by omega)
    have hkd2 : decide ((k : Int) < (most : Int)) = false := decide_eq_false (by omega)
    have hkz : (k : Int) < (ne : Int) := by omega
    have hkz2 : ¬ (k : Int) < (most : Int) := by omega
    clear hlt
    go_wp2_with fail
    go_ret2
    exact ⟨_, _, _, _, rfl, X, D, HSF⟩
   ·have hkd : decide ((k : Int) < (ne : Int)) = false := decide_eq_false (by omega)
    have hkz : ¬ (k : Int) < (ne : Int) := by omega
    clear hlt
    go_wp2_with fail
    go_ret2
    exact ⟨_, _, _, _, rfl, X, D, HSF⟩
end Go.Proofs.YtlnbhlgkehenpaaGreatDoor
namespace Go.Proofs.YtlnbhlgkehenpaaGreatDoor
open Go.RowKit Go.Maps Dg
set_option maxRecDepth 100000
def Wd.cut (x : Wd) : Wd := ⟨x.k, to40 x.t, x.R, x.ck, to40 x.ct, x.L.take 20, x.K, ⟨to40 x.cl.nm, x.cl.k, x.cl.no⟩⟩
def Gr.cut (r : Gr) : Gr := ⟨r.x.cut, r.Ar, r.nr, r.zr, r.A, min r.n 20, r.c⟩
theorem CRow.take14 {w : World} {A : Option Addr} {L : List Cl} (h : CRow w A L) (k : Nat) : CRow w A (L.take k) := fun hne => by
 obtain ⟨b, off, e, hc⟩ := h (by intro e; rw [e] at hne; simp at hne)
 refine ⟨b, off, e, fun i hi => ?_⟩
 rw [List.length_take] at hi
 have := hc i (by omega)
 simpa [List.getElem_take] using this
def fewG (T : List Gr) (k : Nat) : List Gr := (T.take k).map Gr.cut
theorem fewG_succ (T : List Gr) (k : Nat) (h : k < T.length) : fewG T (k + 1) = fewG T k ++ [T[k].cut] := by
 unfold fewG; rw [List.take_succ_eq_append_getElem h, List.map_append]; rfl
theorem fewG_len (T : List Gr) (k : Nat) : (fewG T k).length ≤ k := by unfold fewG; rw [List.length_map, List.length_take]; omega
theorem fewG_all (T : List Gr) (k : Nat) (h : T.length = k) (h12 : k ≤ 12) : fewG T k = fewG T 12 := by
 unfold fewG; rw [List.take_of_length_le (by omega), List.take_of_length_le (by omega)]
set_option maxHeartbeats 8000000 in
theorem few14_any (A : Option Addr) (n c : Nat) (L : List Gr) (w : World) (hn : L.length = n) (hA : GRow w A L) (ha : ∀ r ∈ L, r.arg w) :
 Calls Tryz.prog 6 #[.slice A n c] w fun e w' => ∃ v, e = .returned v ∧ Hid (OwnG w.heap.size w' v (fewG L 12)) ∧ Hid (Below w.heap.size w w') := by
 have HN := Lib.hid hn
 have HA := Lib.hid hA
 have HG := Lib.hid ha
 clear hn hA ha
 go_enter Tryz.func6, Tryz.ntmps6
 go_wp2_with fail
 go_loopw [3, 4] (fun g i wr => ∃ (k : Nat) (u : Value), k ≤ n ∧ k ≤ 12 ∧ i = .int .i64 k ∧ u = g ∧ Hid (OwnG w.heap.size wr u (fewG L k)) ∧ Hid (Below w.heap.size w wr)) (fun _ i _ => 12 - (intOf i).toNat)
 case atStart => exact ⟨0, _, by omega, by omega, rfl, rfl, ownG_nil _ _, Below.refl _ _⟩
 case round =>
  obtain ⟨k, u, hk, hk12, rfl, rfl, HO, HB⟩ := hrel
  by_cases hlt : k < n
  ·by_cases h12 : k < 12
   ·have hkl : k < L.length := by rw [HN.out]; exact hlt
    obtain ⟨b, off, rfl, hcc⟩ := (HA.out.below HB.out) (by intro e; rw [e] at hkl; simp at hkl)
    have hc := hcc k hkl
    clear hcc
    have ha := Lib.hid ((HG.out _ (List.getElem_mem hkl)).below HB.out)
    have HS := Lib.hid (fewG_succ L k hkl)
    have HLE := Lib.hid (fewG_len L k)
    have hkz : (k : Int) < (n : Int) := by omega
    have hkz12 : (k : Int) < 12 := by omega
    generalize L[k] = r at *
    obtain ⟨⟨rk, rt, rR, rck, rct, rL, rK, ⟨rcn, rcq, rcb⟩⟩, rAr, rnr, rzr, rA, rn, rc⟩ := r
    have x0 : wr.cell? ⟨b, off + k * 10, none⟩ = some (.int .i64 rk) := hc 0 (by omega)
    have x1 : wr.cell? ⟨b, off + k * 10 + 1, none⟩ = some (.string rt) := hc 1 (by omega)
    have x2 : wr.cell? ⟨b, off + k * 10 + 2, none⟩ = some (.slice rAr rnr rzr) := hc 2 (by omega)
    have x3 : wr.cell? ⟨b, off + k * 10 + 3, none⟩ = some (.int .i64 rck) := hc 3 (by omega)
    have x4 : wr.cell? ⟨b, off + k * 10 + 4, none⟩ = some (.string rct) := hc 4 (by omega)
    have x5 : wr.cell? ⟨b, off + k * 10 + 5, none⟩ = some (.slice rA rn rc) := hc 5 (by omega)
    have x6 : wr.cell? ⟨b, off + k * 10 + 6, none⟩ = some (.int .i64 rK) := hc 6 (by omega)
    have x7 : wr.cell? ⟨b, off + k * 10 + 7, none⟩ = some (.string rcn) := hc 7 (by omega)
    have x8 : wr.cell? ⟨b, off + k * 10 + 8, none⟩ = some (.int .i64 rcq) := hc 8 (by omega)
    have x9 : wr.cell? ⟨b, off + k * 10 + 9, none⟩ = some (.bool rcb) := hc 9 (by omega)
    clear hc
    generalize fewG L k = M at *
    have hxl : rn ≤ rc ∧ rc ≤ maxLen ∧ rct.size ≤ 140737488355328 ∧ rcn.size ≤ 140737488355328 ∧ rt.size ≤ 140737488355328 := ⟨ha.out.c.1.2.1, ha.out.c.1.2.2.1, ha.out.cl.2, ha.out.cl.1.1, ha.out.t⟩
    obtain ⟨q1, q2, q3, q4, q5⟩ := hxl
    go_wp2_with fail
    refine (cut14_is rck rct rA rn rc rK rcn rcq rcb _ q1 q2 q3 q4).mono ?_
    rintro e w1 ⟨rfl, hw1⟩
    subst hw1
    have e40 : rt.extract 0 (min (rt.size : Int) 40).toNat = to40 rt := by unfold to40; congr 1; omega
    unfold Gr.cut Wd.cut at HS
    dsimp only at HS
    rw [← e40] at HS
    clear e40
    generalize to40 rct = sct at *
    generalize to40 rcn = scn at *
    obtain ⟨rm, hrm⟩ : ∃ m, min rn 20 = m := ⟨_, rfl⟩
    rw [hrm] at HS ⊢
    clear hrm
    have hW3 : Below wr.heap.size wr (((wr.alloc (.cells #[.int .i64 rk, .string (rt.extract 0 (min (rt.size : Int) 40).toNat), .slice rAr rnr rzr, .int .i64 rck, .string sct, .slice rA rm rc, .int .i64 rK, .string scn, .int .i64 rcq, .bool rcb] 52)).alloc (.cells #[.int .i64 rck, .string sct, .slice rA rm rc, .int .i64 rK, .string scn, .int .i64 rcq, .bool rcb] 48)).alloc (.cells #[.int .i64 rck, .string sct, .slice rA rm rc, .int .i64 rK, .string scn, .int .i64 rcq, .bool rcb] 48)) := (((Below.refl _ wr).alloc (Nat.le_refl _) _).alloc (by simp) _).alloc (by simp; omega) _
    obtain ⟨R, W4, hrun, ho4, ht4, _⟩ := appG (((wr.alloc (.cells #[.int .i64 rk, .string (rt.extract 0 (min (rt.size : Int) 40).toNat), .slice rAr rnr rzr, .int .i64 rck, .string sct, .slice rA rm rc, .int .i64 rK, .string scn, .int .i64 rcq, .bool rcb] 52)).alloc (.cells #[.int .i64 rck, .string sct, .slice rA rm rc, .int .i64 rK, .string scn, .int .i64 rcq, .bool rcb] 48)).alloc (.cells #[.int .i64 rck, .string sct, .slice rA rm rc, .int .i64 rK, .string scn, .int .i64 rcq, .bool rcb] 48)) ((((wr.alloc (.cells #[.int .i64 rk, .string (rt.extract 0 (min (rt.size : Int) 40).toNat), .slice rAr rnr rzr, .int .i64 rck, .string sct, .slice rA rm rc, .int .i64 rK, .string scn, .int .i64 rcq, .bool rcb] 52)).alloc (.cells #[.int .i64 rck, .string sct, .slice rA rm rc, .int .i64 rK, .string scn, .int .i64 rcq, .bool rcb] 48)).alloc (.cells #[.int .i64 rck, .string sct, .slice rA rm rc, .int .i64 rK, .string scn, .int .i64 rcq, .bool rcb] 48))).heap.size rfl w.heap.size u M ⟨⟨rk, rt.extract 0 (min (rt.size : Int) 40).toNat, rR, rck, sct, rL.take 20, rK, ⟨scn, rcq, rcb⟩⟩, rAr, rnr, rzr, rA, rm, rc⟩ (HO.out.below hW3) (Nat.le_trans HB.out.size hW3.size) (by have := HLE.out; omega)
    have hgs : ((((wr.alloc (.cells #[.int .i64 rk, .string (rt.extract 0 (min (rt.size : Int) 40).toNat), .slice rAr rnr rzr, .int .i64 rck, .string sct, .slice rA rm rc, .int .i64 rK, .string scn, .int .i64 rcq, .bool rcb] 52)).alloc (.cells #[.int .i64 rck, .string sct, .slice rA rm rc, .int .i64 rK, .string scn, .int .i64 rcq, .bool rcb] 48)).alloc (.cells #[.int .i64 rck, .string sct, .slice rA rm rc, .int .i64 rK, .string scn, .int .i64 rcq, .bool rcb] 48))).heap.size = wr.heap.size + 1 + 1 + 1 := by simp
    rw [hgs] at hrun
    have HB4 := Lib.hid (HB.out.trans ((hW3.mono HB.out.size).trans (ht4.below (B := w.heap.size) (fun q hq => by exact (World.ownsRow.lt HO.out q (by simpa using hq)).1) (Nat.le_trans HB.out.size hW3.size))))
    have HO4 := Lib.hid ho4
    clear ho4 ht4 hgs hW3
    go_wp2_with (at_builtin; refine wpList_app rfl _ _ 23 23 rfl u (.slice (some ⟨wr.heap.size + 1 + 1 + 1, 0, none⟩) 1 1) rfl rfl ⟨R, W4, hrun, ?_⟩)
    go_roundw
    case rel => exact ⟨k + 1, _, by omega, by omega, by go_num, rfl, by rw [HS.out]; exact HO4.out, HB4⟩
    case measure => simp [intOf]; omega
   ·obtain rfl : k = 12 := by omega
    have hkz : (12 : Int) < (n : Int) := by omega
    go_wp2_with fail
    go_ret
    exact ⟨_, rfl, HO, HB⟩
  ·obtain rfl : k = n := by omega
   have HE := Lib.hid (fewG_all L k HN.out hk12)
   go_wp2_with fail
   go_ret
   exact ⟨_, rfl, by rw [← HE.out]; exact HO.out, HB⟩
end Go.Proofs.YtlnbhlgkehenpaaGreatDoor
namespace Go.Proofs.YtlnbhlgkehenpaaGreatDoor
open Go.RowKit Dg
set_option maxRecDepth 100000
set_option maxHeartbeats 2000000 in
theorem rst_any (A : Option Addr) (T : List Tb) (n c : Nat) (A' : Option Addr) (T' : List Tb) (n' c' : Nat) (w : World) (hn : T.length = n) (hn' : T'.length = n') (hl : n ≤ 900) (hA : TRow w A T) (hA' : TRow w A' T') (hI : TOks w T) (hI' : TOks w T') (he : tds T = tds T') :
 Calls Tryz.prog 9 #[.slice A n c, .slice A' n' c'] w fun e w' => e = .returned (.bool true) ∧ Hid (Below w.heap.size w w') := by
 obtain rfl : n' = n := by rw [← hn, ← hn', ← tds_len, ← tds_len, he]
 have HN := Lib.hid hn
 have HN' := Lib.hid hn'
 have HA := Lib.hid hA
 have HA' := Lib.hid hA'
 have HI := Lib.hid hI
 have HI' := Lib.hid hI'
 have HE := Lib.hid he
 clear hn hn' hA hA' hI hI' he
 go_enter Tryz.func9, Tryz.ntmps9
 go_wp2_with fail
 go_loopw [5] (fun i wr => ∃ k : Nat, k ≤ n' ∧ i = .int .i64 k ∧ Hid (Below w.heap.size w wr)) (fun i _ => n' - (intOf i).toNat)
 case atStart => exact ⟨0, by omega, rfl, Below.refl _ _⟩
 case round =>
  obtain ⟨k, hk, rfl, HB⟩ := hrel
  by_cases hlt : k < n'
  ·have hkl : k < T.length := by rw [HN.out]; exact hlt
   have hkl' : k < T'.length := by rw [HN'.out]; exact hlt
   obtain ⟨b, off, rfl, hc⟩ := (HA.out.below HB.out) (by intro e; rw [e] at hkl; simp at hkl)
   obtain ⟨b', off', rfl, hc'⟩ := (HA'.out.below HB.out) (by intro e; rw [e] at hkl'; simp at hkl')
   obtain ⟨c0, c1, c2⟩ := hc k hkl
   obtain ⟨d0, d1, d2⟩ := hc' k hkl'
   have hx := HI.out T[k] (List.getElem_mem hkl)
   have hx' := HI'.out T'[k] (List.getElem_mem hkl')
   have htd : T[k].td = T'[k].td := by rw [← tds_get T k hkl, ← tds_get T' k hkl']; simp only [HE.out]
   have hkz : (k : Int) < (n' : Int) := by omega
   clear hc hc'
   generalize T[k] = x at *
   generalize T'[k] = y at *
   obtain ⟨xs, xA, xn, xc, xL, xK⟩ := x
   obtain ⟨ys, yA, yn, yc, yL, yK⟩ := y
   simp only [Tb.td, Td.mk.injEq] at htd
   obtain ⟨rfl, rfl, rfl⟩ := htd
   simp only at c0 c1 c2 d0 d1 d2
   have hl1 : xL.length = xn := hx.len
   have hl2 : xL.length = yn := hx'.len
   have hf1 : xn ≤ 900 := hx.few
   have HSM := Lib.hid (fun (W : World) (hb : Below w.heap.size w W) => rsame_any xA xL xn xc xK yA xL yn yc xK W hl1 hl2 (by omega) (by omega) (hx.row.below hb) (hx'.row.below hb))
   have hb0 : Hid (Below w.heap.size w wr.drew) := HB.out.drew
   have e0 : wr.drew.cell? ⟨b, off + k * 3, none⟩ = some (.string xs) := c0
   have e1 : wr.drew.cell? ⟨b, off + k * 3 + 1, none⟩ = some (.slice xA xn xc) := c1
   have e2 : wr.drew.cell? ⟨b, off + k * 3 + 2, none⟩ = some (.int .i64 xK) := c2
   have e3 : wr.drew.cell? ⟨b', off' + k * 3, none⟩ = some (.string xs) := d0
   have e4 : wr.drew.cell? ⟨b', off' + k * 3 + 1, none⟩ = some (.slice yA yn yc) := d1
   have e5 : wr.drew.cell? ⟨b', off' + k * 3 + 2, none⟩ = some (.int .i64 xK) := d2
   clear hx hx' hl1 hl2
   go_wp2_with fail
   clear c0 c1 c2 d0 d1 d2
   go_region_held3 (fun X => Hid (Below w.heap.size w X) ∧ X.cell? ⟨b, off + k * 3, none⟩ = some (.string xs) ∧ X.cell? ⟨b, off + k * 3 + 1, none⟩ = some (.slice xA xn xc) ∧ X.cell? ⟨b, off + k * 3 + 2, none⟩ = some (.int .i64 xK) ∧ X.cell? ⟨b', off' + k * 3, none⟩ = some (.string xs) ∧ X.cell? ⟨b', off' + k * 3 + 1, none⟩ = some (.slice yA yn yc) ∧ X.cell? ⟨b', off' + k * 3 + 2, none⟩ = some (.int .i64 xK)) ((refine ⟨by assumption, ?_⟩; go_keep))
    (first | (go_at_call 21; refine (HSM.out _ (Hid.out (by assumption))).mono ?_; rintro e w1 ⟨rfl, hb1⟩; rw [ssF_refl]; have HB1 : Hid (Below w.heap.size w w1) := hb0.out.trans (hb1.out.mono hb0.out.size); have i0 := keepC hb1.out e0; have i1 := keepC hb1.out e1; have i2 := keepC hb1.out e2; have i3 := keepC hb1.out e3; have i4 := keepC hb1.out e4; have i5 := keepC hb1.out e5; clear hb1))
   all_goals
    go_wp2_with fail
    go_region
    all_goals
     go_wp2_with fail
     go_roundw
     case rel => exact ⟨k + 1, by omega, by go_num, HB1.out.drew⟩
     case measure => simp [intOf]; omega
  ·obtain rfl : k = n' := by omega
   have hkz : ¬ (k : Int) < (k : Int) := by omega
   go_wp2_with fail
   go_ret
   exact ⟨rfl, HB⟩
end Go.Proofs.YtlnbhlgkehenpaaGreatDoor
namespace Go.Proofs.YtlnbhlgkehenpaaGreatDoor
open Go.RowKit Go.Shelf Go.Maps Dg
set_option maxRecDepth 100000
def Res (D0 : List Td) (X : List Gr) (D : List Td) (E : Int) : Prop := (BadAt D0 X E ∧ D = []) ∨ (Steps D0 (X.map (·.x)) D ∧ E = 0)
theorem res_fun {D0 D D' : List Td} {X : List Gr} {E E' : Int} (h : Res D0 X D E) (h' : Res D0 X D' E') : D = D' ∧ E = E' := by
 rcases h with ⟨h, rfl⟩ | ⟨h, rfl⟩ <;> rcases h' with ⟨h', rfl⟩ | ⟨h', rfl⟩
 ·exact ⟨rfl, bad_fun h h'⟩
 ·exact (bad_not h h').elim
 ·exact (bad_not h' h).elim
 ·exact ⟨steps_fun h h', rfl⟩
theorem res_good {D0 D D' : List Td} {X : List Gr} {E : Int} (h : Res D0 X D E) (h' : Steps D0 (X.map (·.x)) D') : D = D' ∧ E = 0 := res_fun h (.inr ⟨h', rfl⟩)
structure Tk (w : World) (At : Option Addr) (nt ctt : Nat) (T : List Tb) : Prop where
 len : T.length = nt
 few : nt ≤ 64
 row : TRow w At T
 ok : TOks w T
theorem Tk.below {w w' : World} {At : Option Addr} {nt ctt : Nat} {T : List Tb} (h : Tk w At nt ctt T) (hb : Below w.heap.size w w') : Tk w' At nt ctt T := ⟨h.len, h.few, h.row.below hb, h.ok.below hb⟩
theorem tk_nil (w : World) : Tk w none 0 0 [] := ⟨rfl, by omega, fun h => absurd rfl h, fun x hx => by cases hx⟩
theorem TbI.tk {w : World} {V : Nat → Prop} {At : Option Addr} {nt ct : Nat} {D : List Td} (h : TbI w V At nt ct D) : ∃ T, tds T = D ∧ Tk w At nt ct T := by
 obtain ⟨T, h1, h2, h3, h4, _, _⟩ := h.ex
 exact ⟨T, h1, h2, h.few, h3, h4⟩
def BehOut (D0 : List Td) (X : List Gr) (w : World) (e : Ending) (w' : World) : Prop :=
 ∃ At nt ctt T E, e = .returned (.tuple #[.slice At nt ctt, .int .i64 E]) ∧ Hid (Tk w' At nt ctt T) ∧ Hid (Res D0 X (tds T) E) ∧ Hid (Below w.heap.size w w')
theorem wbeh_res (D0 : List Td) (X : List Gr) (Aw : Option Addr) (nw cw : Nat) (A0 : Option Addr) (n c : Nat) (w : World)
 (hX : X.length = nw) (hX12 : X.length ≤ 1000) (hr : GRow w Aw X) (hf : ∀ r ∈ X, r.full w) (h0 : TbI w (fun b => b < w.heap.size) A0 n c D0) (hTb : Tabs w) :
 Calls Tryz.prog 7 #[.slice A0 n c, .slice Aw nw cw] w fun e w' => BehOut D0 X w e w' := by
 refine (wbehind_any D0 X Aw nw cw A0 n c w hX hX12 hr hf h0 hTb).mono ?_
 rintro e w' (⟨E, hE, rfl, hb⟩ | ⟨D, v, T, hs, rfl, htd, ho, hb⟩)
 ·exact ⟨none, 0, 0, [], E, rfl, tk_nil _, .inl ⟨hE, rfl⟩, hb⟩
 ·obtain ⟨hrt, hl⟩ := steps_rt h0.rt (by obtain ⟨T0, h1, h2, _⟩ := h0.ex; rw [← h1, tds_len, h2]; exact h0.few) hs
  subst htd
  rw [tds_len] at hl
  obtain ⟨At, ct, rfl, hI⟩ := ownTs_I ho.out hrt hl
  obtain ⟨T2, h2, hk⟩ := hI.tk
  exact ⟨At, _, ct, T2, 0, rfl, hk, .inr ⟨by rw [h2]; exact hs, rfl⟩, hb⟩
theorem rbeh_res (D0 : List Td) (X : List Gr) (Aw : Option Addr) (nw cw : Nat) (A0 : Option Addr) (n c : Nat) (w : World)
 (hX : X.length = nw) (hX12 : nw ≤ 1000) (hr : GRow w Aw X) (hf : ∀ r ∈ X, r.full w) (h0 : TbI w (fun b => b < w.heap.size) A0 n c D0) :
 Calls Tryz.prog 8 #[.slice A0 n c, .slice Aw nw cw] w fun e w' => BehOut D0 X w e w' := by
 refine (rbehind_any D0 X Aw nw cw A0 n c w hX hr hf h0 hX12).mono ?_
 rintro e w' (⟨E, hE, rfl, hb⟩ | ⟨D, At, nt, ctt, hs, rfl, hT, hb⟩)
 ·exact ⟨none, 0, 0, [], E, rfl, tk_nil _, .inl ⟨hE, rfl⟩, hb⟩
 ·obtain ⟨T2, h2, hk⟩ := hT.out.tk
  exact ⟨At, nt, ctt, T2, 0, rfl, hk, .inr ⟨by rw [h2]; exact hs, rfl⟩, hb⟩
theorem same_tk {w : World} {A : Option Addr} {n c : Nat} {T : List Tb} {A' : Option Addr} {n' c' : Nat} {T' : List Tb} (h : Tk w A n c T) (h' : Tk w A' n' c' T') (he : tds T = tds T') :
 Calls Tryz.prog 9 #[.slice A n c, .slice A' n' c'] w fun e w' => e = .returned (.bool true) ∧ Hid (Below w.heap.size w w') :=
 rst_any A T n c A' T' n' c' w h.len h'.len (by have := h.few; omega) h.row h'.row h.ok h'.ok he
theorem goodD_rt {D : List Td} (h : GoodD D) : RtD D := ⟨h.sort, fun x hx => ⟨(h.ok x hx).1, by obtain ⟨_, k, hk, hg⟩ := h.ok x hx; rw [hk]; exact goodS_may _ _ hg⟩⟩
theorem good_I {w : World} {B : Nat} {v : Value} {G T : List Tb} (ho : OwnT B w v G) (hc : ∀ x ∈ G, OwnC B w (.slice x.A x.n x.c) x.L) (ht : tds G = g6To T 3) : ∃ At nt ctt, v = .slice At nt ctt ∧ TbI w (fun b => b < w.heap.size) At nt ctt (g6To T 3) := by
 have hg := g6_good T 3
 have hrt : RtD (tds G) := by rw [ht]; exact goodD_rt hg.1
 have hl : G.length ≤ 64 := by rw [← tds_len, ht]; omega
 obtain ⟨At, ct, e, hI⟩ := ownTs_I ⟨ho, hc⟩ hrt hl
 rw [ht] at hI
 exact ⟨At, _, ct, e, hI.mono fun b hb => hb.2⟩
theorem to40_le (s : ByteArray) (h : s.size ≤ 140737488355328) : (to40 s).size ≤ 140737488355328 := by
 unfold to40
 rw [ByteArray.size_extract]
 omega
theorem Gr.cut_full {w : World} {r : Gr} (h : r.arg w) : r.cut.full w := by
 obtain ⟨⟨h1, h2, h3, h4, h5⟩, h6, h7⟩ := h.a
 obtain ⟨⟨k1, k2, k3, k4, k5⟩, k6, k7⟩ := h.c
 refine ⟨⟨h1, h2, h6, h4, fun y hy => (h5 y hy).1⟩, ⟨?_, ?_, k4.take14 20, fun y hy => k5 y (List.mem_of_mem_take hy)⟩, to40_le _ h.cl.2, ⟨to40_le _ h.cl.1.1, h.cl.1.2⟩, ⟨?_, k3, k7⟩⟩
 ·show (r.x.L.take 20).length = min r.n 20
  rw [List.length_take, k1]; omega
 ·show min r.n 20 ≤ 4398046511104; omega
 ·show min r.n 20 ≤ r.c; omega
theorem fewG_full {w : World} {L : List Gr} (h : ∀ r ∈ L, r.arg w) : ∀ r ∈ fewG L 12, r.full w := fun r hr => by
 unfold fewG at hr
 obtain ⟨q, hq, rfl⟩ := List.mem_map.1 hr
 exact Gr.cut_full (h q (List.mem_of_mem_take hq))
end Go.Proofs.YtlnbhlgkehenpaaGreatDoor
namespace Go.Proofs.YtlnbhlgkehenpaaGreatDoor
open Go.RowKit Dg
set_option maxRecDepth 100000
theorem g6_end (T : List Tb) (k : Nat) (h : T.length ≤ k) : ∀ j, g6To T (k + j) = g6To T k
 | 0 => rfl
 | j + 1 => by
   show (match T[k + j]? with | some x => _ | none => _) = _
   rw [List.getElem?_eq_none (by omega)]
   exact g6_end T k h j
theorem g6_three {T : List Tb} {k : Nat} (h : T.length ≤ k) (hk : k ≤ 3) : g6To T 3 = g6To T k := by
 have := g6_end T k h (3 - k)
 rwa [show k + (3 - k) = 3 by omega] at this
structure G6 (w : World) (Ti : List Tb) (k : Nat) (wr : World) (v : Value) (T : List Tb) : Prop where
 own : OwnT (w.heap.size + 1) wr v T
 bel : Below w.heap.size w wr
 pool : Has wr w.heap.size 9 #[.string ⟨#[116]⟩, .string ⟨#[117]⟩, .string ⟨#[118]⟩]
 td : tds T = g6To Ti k
 ok : TOks wr T
 col : ∀ x ∈ T, OwnC (w.heap.size + 1) wr (.slice x.A x.n x.c) x.L
theorem G6.below {w wr w' : World} {Ti : List Tb} {k : Nat} {v : Value} {T : List Tb} (h : G6 w Ti k wr v T) (hb : Below wr.heap.size wr w') : G6 w Ti k w' v T :=
 ⟨h.own.below hb, h.bel.trans (hb.mono h.bel.size), h.pool.below hb h.pool.lt, h.td, h.ok.below hb, fun x hx => (h.col x hx).below hb⟩
theorem G6.stay {w wr : World} {Ti : List Tb} {k : Nat} {v : Value} {T : List Tb} (h : G6 w Ti k wr v T) (hk : k < Ti.length) (hp : plF T (nm6 Ti[k].nm k) = true) : G6 w Ti (k + 1) wr v T :=
 ⟨h.own, h.bel, h.pool, by rw [g6To_succ Ti k hk, ← h.td]; unfold insD; rw [← plF_d, if_pos hp], h.ok, h.col⟩
theorem G6.more {w wr w' : World} {Ti : List Tb} {k : Nat} {v v' : Value} {T : List Tb} {A' : Option Addr} {n' c' : Nat} (h : G6 w Ti k wr v T) (hk : k < Ti.length) (hp : plF T (nm6 Ti[k].nm k) = false) (hb : Below wr.heap.size wr w')
 (hx : OwnC wr.heap.size w' (.slice A' n' c') (gdC Ti[k].L Ti[k].K)) (ho : OwnT (w.heap.size + 1) w' v' (T.take (lbN T (nm6 Ti[k].nm k)) ++ [⟨nm6 Ti[k].nm k, A', n', c', gdC Ti[k].L Ti[k].K, gdK Ti[k].L Ti[k].K⟩] ++ T.drop (lbN T (nm6 Ti[k].nm k)))) :
 G6 w Ti (k + 1) w' v' (T.take (lbN T (nm6 Ti[k].nm k)) ++ [⟨nm6 Ti[k].nm k, A', n', c', gdC Ti[k].L Ti[k].K, gdK Ti[k].L Ti[k].K⟩] ++ T.drop (lbN T (nm6 Ti[k].nm k))) := by
 refine ⟨ho, h.bel.trans (hb.mono h.bel.size), h.pool.below hb h.pool.lt, ?_, ?_, ?_⟩
 ·rw [g6To_succ Ti k hk, ← h.td, tds_ins]
  unfold insD
  rw [← plF_d, if_neg (by rw [hp]; simp), ← lbN_d]
  rfl
 ·intro x hx'
  rw [List.append_assoc, List.mem_append] at hx'
  rcases hx' with hx' | hx'
  ·exact (h.ok x (List.mem_of_mem_take hx')).below hb
  ·rw [List.singleton_append, List.mem_cons] at hx'
   rcases hx' with rfl | hx'
   ·obtain ⟨A, c, e, h1, h2, h3, h4⟩ := ownC_row hx
    injection e with e1 e2 e3
    subst e1 e3
    have h9 := (goodS_is Ti[k].L Ti[k].K).len.2
    exact ⟨e2.symm, by show n' ≤ c'; omega, h2, h3, h4, by show n' ≤ 900; omega⟩
   ·exact (h.ok x (List.mem_of_mem_drop hx')).below hb
 ·intro x hx'
  rw [List.append_assoc, List.mem_append] at hx'
  rcases hx' with hx' | hx'
  ·exact (h.col x (List.mem_of_mem_take hx')).below hb
  ·rw [List.singleton_append, List.mem_cons] at hx'
   rcases hx' with rfl | hx'
   ·exact ownC_down hx h.pool.lt
   ·exact (h.col x (List.mem_of_mem_drop hx')).below hb
theorem fcE_good {T : List Tb} {tn : ByteArray} {L : List Cl} {k : Nat} (hn : nameF tn = true) (hG : GoodS L k) (h6 : T.length < 64) : fcE T tn L k = if plF T tn = true then 8 else 0 := by
 cases hp : plF T tn
 ·rw [fcE_ok hn hp (goodS_may _ _ hG) h6]; rfl
 ·rw [fcE_there hn hp]; rfl
set_option maxHeartbeats 4000000 in
theorem rgood6_own (A : Option Addr) (Ti : List Tb) (n c : Nat) (w : World) (hn : Ti.length = n) (hA : TRow w A Ti) (hI : ∀ x ∈ Ti, TbIn w x) :
 Calls Tryz.prog 5 #[.slice A n c] w fun e w' => ∃ v T, e = .returned v ∧ Hid (OwnT w.heap.size w' v T) ∧ Hid (tds T = g6To Ti 3) ∧ Hid (TOks w' T) ∧ Hid (∀ x ∈ T, OwnC w.heap.size w' (.slice x.A x.n x.c) x.L) ∧ Hid (Below w.heap.size w w') := by
 have HN := Lib.hid hn
 have HA := Lib.hid hA
 have HI := Lib.hid hI
 clear hn hA hI
 go_enter Tryz.func5, Tryz.ntmps5
 go_wp2_with fail
 go_loopw [3, 5] (fun v i wr => ∃ (k : Nat) (T : List Tb), k ≤ n ∧ k ≤ 3 ∧ i = .int .i64 k ∧ Hid (G6 w Ti k wr v T)) (fun _ i _ => n - (intOf i).toNat)
 case atStart => exact ⟨0, [], by omega, by omega, rfl, ownT_nil _ _, (Below.refl w.heap.size w).alloc (Nat.le_refl _) _, Has.new w 9 _, rfl, (fun x hx => by cases hx), fun x hx => by cases hx⟩
 case round =>
  obtain ⟨k, T, hk, hk3, rfl, HS⟩ := hrel
  obtain ⟨A7, n7, c7, rfl, HN7, hnc7, hcm7, HV7, HZ7⟩ := ownT_open HS.out.own
  by_cases hlt : k < n
  ·by_cases hl3 : k < 3
   ·have hkl : k < Ti.length := by rw [HN.out]; exact hlt
    obtain ⟨b, off, rfl, hc⟩ := (HA.out.below HS.out.bel) (by intro e; rw [e] at hkl; simp at hkl)
    obtain ⟨c0, c1, c2⟩ := hc k hkl
    have hx := HI.out Ti[k] (List.getElem_mem hkl)
    have hkz : (k : Int) < (n : Int) := by omega
    have hkz3 : (k : Int) < 3 := by omega
    have hp0 : wr.cell? ⟨w.heap.size, k, none⟩ = some (.string (pool6 k)) := by
     have : k = 0 ∨ k = 1 ∨ k = 2 := by omega
     rcases this with rfl | rfl | rfl
     ·exact HS.out.pool.cell 0
     ·exact HS.out.pool.cell 1
     ·exact HS.out.pool.cell 2
    have hg := g6_good Ti k
    rw [← HS.out.td] at hg
    have HGD := Lib.hid hg
    have hSrt := goodT_sort hg.1
    have h7 : n7 ≤ 3 := by have h1 := HN7.out; have h2 := hg.2; rw [tds_len] at h2; omega
    have HGO := Lib.hid (rgood_any Ti[k].A Ti[k].L Ti[k].n Ti[k].c Ti[k].K wr hx.1.1 hx.1.2.1 hx.1.2.2.1 (hx.1.2.2.2.below HS.out.bel) hx.2.1 hx.2.2.2.1 hx.2.2.2.2)
    have HNM := Lib.hid (nm6_name Ti[k].nm k)
    have HGS := Lib.hid (goodS_is Ti[k].L Ti[k].K)
    have HFO : Hid (∀ (s : ByteArray) (A8 : Option Addr) (n8 c8 : Nat) (W : World), Hid (OwnC wr.heap.size W (.slice A8 n8 c8) (gdC Ti[k].L Ti[k].K)) → Hid (Below wr.heap.size wr W) → Calls Tryz.prog 13 #[.slice A7 n7 c7, .agg #[.int .i64 1, .string s, .slice A8 n8 c8, .int .i64 (gdK Ti[k].L Ti[k].K), .string ⟨#[]⟩, .int .i64 0, .bool false]] W fun e w' => ∃ v, e = .returned (.tuple #[v, .int .i64 (fcE T s (gdC Ti[k].L Ti[k].K) (gdK Ti[k].L Ti[k].K))]) ∧ Hid (OwnT W.heap.size w' v (fcT T s A8 n8 c8 (gdC Ti[k].L Ti[k].K) (gdK Ti[k].L Ti[k].K))) ∧ Hid (Below W.heap.size W w')) := fun s A8 n8 c8 W ho hb => by
     have hr := HV7.out.below hb.out
     obtain ⟨A, c9, e, _, _, h3, _⟩ := ownC_row ho.out
     injection e with e1 e2 e3
     subst e1
     exact rfolC_any A7 T n7 c7 s A8 n8 c8 _ _ _ _ _ W HN7.out hnc7 hcm7 (by omega) hr HZ7.out hSrt e2.symm h3
    have HST := Lib.hid (fun hp => HS.out.stay hkl hp)
    have HMR := Lib.hid (fun (w' : World) (v' : Value) (A8 : Option Addr) (n8 c8 : Nat) hp hb hx ho => HS.out.more (w' := w') (v' := v') (A' := A8) (n' := n8) (c' := c8) hkl hp hb hx ho)
    have hsz : w.heap.size + 1 ≤ wr.heap.size := HS.out.pool.lt
    clear hc hx hg hSrt HV7 HZ7
    obtain ⟨nm, hnm⟩ : ∃ nm, nm6 Ti[k].nm k = nm := ⟨_, rfl⟩
    have hnmd : nm = if nameF Ti[k].nm = true then Ti[k].nm else pool6 k := hnm.symm
    rw [hnm] at HST HMR HNM
    clear hnm
    generalize gdC Ti[k].L Ti[k].K = GL at *
    generalize gdK Ti[k].L Ti[k].K = GK at *
    generalize Ti[k] = x at *
    obtain ⟨xs, xA, xn, xc, xL, xK⟩ := x
    simp only at c0 c1 c2 HGO hnmd
    rcases hqn : nameF xs with _ | _
    ·obtain rfl : nm = pool6 k := by rw [hnmd, hqn]; simp
     clear hnmd
     go_wp2_with fail
     refine (refName_any xs _).mono ?_
     rintro e w1 ⟨rfl, rfl⟩
     rw [hqn]
     go_wp2_with fail
     refine HGO.out.mono ?_
     rintro e w2 ⟨v8, rfl, ho8, hb8⟩
     obtain ⟨A8, n8, c8, rfl, _, _, _, _, _⟩ := ownC_open ho8.out
     have HB8 := Lib.hid hb8.out
     have HO8 := Lib.hid ho8.out
     clear hb8 ho8 c0 c1 c2 HGO
     go_wp2_with fail
     refine (HFO.out _ A8 n8 c8 w2 HO8 HB8).mono ?_
     rintro e w3 ⟨v9, rfl, ho9, hb9⟩
     have hE := fcE_good (T := T) HNM.out HGS.out (by have := HN7.out; omega)
     rcases hp : plF T (pool6 k) with _ | _
     ·have HE : Hid (fcE T (pool6 k) GL GK = 0) := by show _ = _; rw [hE, hp]; simp
      rw [fcT_ok HE.out] at ho9
      rw [HE.out]
      have HS3 := Lib.hid (HMR.out w3 v9 A8 n8 c8 hp (HB8.out.trans (hb9.out.mono HB8.out.size)) (HO8.out.below hb9.out) (ownT_down ho9.out (by have := HB8.out.size; omega)))
      obtain ⟨A9, n9, c9, rfl, _, _, _, _, _⟩ := ownT_open ho9.out
      clear hE ho9 hb9
      go_wp2_with fail
      go_roundw
      case rel => exact ⟨k + 1, _, by omega, by omega, by go_num, HS3⟩
      case measure => simp [intOf]; omega
     ·have HE : Hid (fcE T (pool6 k) GL GK = 8) := by show _ = _; rw [hE, hp]; simp
      rw [HE.out]
      have HS3 := Lib.hid ((HST.out hp).below (HB8.out.trans (hb9.out.mono HB8.out.size)))
      rw [fcT_bad (by rw [HE.out]; omega)] at ho9
      obtain ⟨A9, n9, c9, rfl, _, _, _, _, _⟩ := ownT_open ho9.out
      clear hE ho9 hb9
      go_wp2_with fail
      go_roundw
      case rel => exact ⟨k + 1, _, by omega, by omega, by go_num, HS3⟩
      case measure => simp [intOf]; omega
    ·obtain rfl : xs = nm := by rw [hnmd, hqn]; simp
     clear hnmd
     go_wp2_with fail
     refine (refName_any xs _).mono ?_
     rintro e w1 ⟨rfl, rfl⟩
     rw [hqn]
     go_wp2_with fail
     refine HGO.out.mono ?_
     rintro e w2 ⟨v8, rfl, ho8, hb8⟩
     obtain ⟨A8, n8, c8, rfl, _, _, _, _, _⟩ := ownC_open ho8.out
     have HB8 := Lib.hid hb8.out
     have HO8 := Lib.hid ho8.out
     clear hb8 ho8 c0 c1 c2 HGO
     go_wp2_with fail
     refine (HFO.out _ A8 n8 c8 w2 HO8 HB8).mono ?_
     rintro e w3 ⟨v9, rfl, ho9, hb9⟩
     have hE := fcE_good (T := T) HNM.out HGS.out (by have := HN7.out; omega)
     rcases hp : plF T xs with _ | _
     ·have HE : Hid (fcE T xs GL GK = 0) := by show _ = _; rw [hE, hp]; simp
      rw [fcT_ok HE.out] at ho9
      rw [HE.out]
      have HS3 := Lib.hid (HMR.out w3 v9 A8 n8 c8 hp (HB8.out.trans (hb9.out.mono HB8.out.size)) (HO8.out.below hb9.out) (ownT_down ho9.out (by have := HB8.out.size; omega)))
      obtain ⟨A9, n9, c9, rfl, _, _, _, _, _⟩ := ownT_open ho9.out
      clear hE ho9 hb9
      go_wp2_with fail
      go_roundw
      case rel => exact ⟨k + 1, _, by omega, by omega, by go_num, HS3⟩
      case measure => simp [intOf]; omega
     ·have HE : Hid (fcE T xs GL GK = 8) := by show _ = _; rw [hE, hp]; simp
      rw [HE.out]
      have HS3 := Lib.hid ((HST.out hp).below (HB8.out.trans (hb9.out.mono HB8.out.size)))
      rw [fcT_bad (by rw [HE.out]; omega)] at ho9
      obtain ⟨A9, n9, c9, rfl, _, _, _, _, _⟩ := ownT_open ho9.out
      clear hE ho9 hb9
      go_wp2_with fail
      go_roundw
      case rel => exact ⟨k + 1, _, by omega, by omega, by go_num, HS3⟩
      case measure => simp [intOf]; omega
   ·obtain rfl : k = 3 := by omega
    go_wp2_with fail
    go_ret
    exact ⟨_, T, rfl, ownT_down HS.out.own (by omega), HS.out.td, HS.out.ok, (fun x hx => ownC_down (HS.out.col x hx) (Nat.le_succ _)), HS.out.bel⟩
  ·obtain rfl : k = n := by omega
   have hkz : ¬ (k : Int) < (k : Int) := by omega
   go_wp2_with fail
   go_ret
   first
    | exact ⟨_, T, rfl, ownT_down HS.out.own (by have := HS.out.pool.lt; omega), by rw [HS.out.td]; exact (g6_three (by rw [HN.out]; omega) hk3).symm, HS.out.ok, (fun x hx => ownC_down (HS.out.col x hx) (Nat.le_succ _)), HS.out.bel⟩
    | exact ⟨_, rfl, T, ownT_down HS.out.own (by have := HS.out.pool.lt; omega), by rw [HS.out.td]; exact (g6_three (by rw [HN.out]; omega) hk3).symm, HS.out.ok, (fun x hx => ownC_down (HS.out.col x hx) (Nat.le_succ _)), HS.out.bel⟩
structure D6 (w wr : World) (v : Value) (M : List Cl) (P : Array Value) : Prop where
 own : OwnC (w.heap.size + 2) wr v M
 bel : Below w.heap.size w wr
 prm : Has wr w.heap.size 48 P
 res : Has wr (w.heap.size + 1) 48 #[.int .i64 0, .string ⟨#[]⟩, .slice none 0 0, .int .i64 0, .string ⟨#[]⟩, .int .i64 0, .bool false]
 big : w.heap.size + 2 ≤ wr.heap.size
section
variable {w wr w' : World} {v : Value} {M : List Cl} {P : Array Value}
theorem D6.below (h : D6 w wr v M P) (hb : Below wr.heap.size wr w') : D6 w w' v M P :=
 ⟨h.own.below hb, h.bel.trans (hb.mono h.bel.size), h.prm.below hb h.prm.lt, h.res.below hb h.res.lt, Nat.le_trans h.big hb.size⟩
theorem D6.grown (h : D6 w wr v M P) {R : Value} {M' : List Cl} (ho : OwnC (w.heap.size + 2) w' R M') (hb : Below (w.heap.size + 2) wr w') : D6 w w' R M' P :=
 ⟨ho, h.bel.trans (hb.mono (by omega)), h.prm.below hb (by omega), h.res.below hb (by omega), Nat.le_trans h.big hb.size⟩
end
end Go.Proofs.YtlnbhlgkehenpaaGreatDoor
namespace Go.Proofs.YtlnbhlgkehenpaaGreatDoor.walBehind
open Go.RowKit Go.Shelf Go.Maps Dg
set_option maxRecDepth 100000
set_option maxHeartbeats 8000000 in
theorem walk (A : Option Addr) (n c : Nat) (T : List Tb) (A1 : Option Addr) (n1 c1 : Nat) (X : List Gr) (A2 : Option Addr) (n2 c2 : Nat) (L : List Ei) (w : World) (hn : T.length = n) (_hc : n ≤ c) (_hm : c ≤ maxLen) (hA : TRow w A T) (hI : ∀ x ∈ T, TbIn w x)
 (hn1 : X.length = n1) (_hc1 : n1 ≤ c1) (_hm1 : c1 ≤ maxLen) (hX : GRow w A1 X) (hx : ∀ r ∈ X, r.arg w) (hn2 : L.length = n2) (hc2 : n2 ≤ c2) (hm2 : c2 ≤ maxLen) (hL : EiRow w A2 L) (hl : ∀ r ∈ L, r.arg w) (hTb : Tabs w) :
 Calls Tryz.prog 3 #[.slice A n c, .slice A1 n1 c1, .slice A2 n2 c2] w fun e w' => e = .returned (.bool true) ∧ Below w.heap.size w w' := by
 have HGD := Lib.hid (rgood6_own A T n c w hn hA hI)
 have HFW := Lib.hid (fun (W : World) (hb : Below w.heap.size w W) => few14_any A1 n1 c1 X W hn1 (hX.below hb) (fun r hr => (hx r hr).below hb))
 have HFU := Lib.hid (fun (W : World) (hb : Below w.heap.size w W) => fewG_full (w := W) (L := X) (fun r hr => (hx r hr).below hb))
 have HG2 := Lib.hid (fun (W : World) (hb : Below w.heap.size w W) (D0 : List Td) (A0 : Option Addr) (n0 c0 : Nat) (h0 : TbI W (fun b => b < W.heap.size) A0 n0 c0 D0) => rgd14_any D0 L A2 n2 c2 12 A0 n0 c0 W hn2 (hL.below hb) (fun r hr => (hl r hr).below hb) h0 (by omega) (by unfold maxLen at hm2; omega))
 have HTB := Lib.hid hTb
 have HFL := Lib.hid (fewG_len X 12)
 clear hn hA hI hn1 hX hx hn2 hL hl hTb
 generalize fewG X 12 = Y at *
 go_enter Tryz.func3, Tryz.ntmps3
 go_wp2_with fail
 refine HGD.out.mono ?_
 rintro e w1 ⟨v1, G, rfl, ho1, ht1, _, hc1, hb1⟩
 obtain ⟨A7, n7, c7, rfl, hI1⟩ := good_I ho1.out hc1.out ht1.out
 have HI1 := Lib.hid hI1
 clear ho1 ht1 hc1 HGD hI1
 generalize g6To T 3 = D0 at *
 go_wp2_with fail
 refine (HFW.out w1 hb1.out).mono ?_
 rintro e w2 ⟨v2, rfl, ho2, hb2⟩
 obtain ⟨A8, n8, c8, rfl, hn8, _, _, hr8, _, _⟩ := ownG_open ho2.out
 have HB2 := Lib.hid (hb1.out.trans (hb2.out.mono hb1.out.size))
 have HI2 := Lib.hid ((HI1.out.below hb2.out).mono fun b hb => Nat.lt_of_lt_of_le hb hb2.out.size)
 have HWB := Lib.hid (wbeh_res D0 Y A8 n8 c8 A7 n7 c7 w2 hn8.out (by have := HFL.out; omega) hr8.out (HFU.out w2 HB2.out) HI2.out (HTB.out.below HB2.out))
 have HRB := Lib.hid (fun (W : World) (hb : Below w2.heap.size w2 W) => rbeh_res D0 Y A8 n8 c8 A7 n7 c7 W hn8.out (by have h1 := HFL.out; have h2 := hn8.out; omega) (hr8.out.below hb) (fun r hr => (HFU.out w2 HB2.out r hr).below hb) ((HI2.out.below hb).mono fun b hb2 => Nat.lt_of_lt_of_le hb2 hb.size))
 clear ho2 hn8 hr8 hb1 hb2 HI1 HFW HFU HFL
 go_wp2_with fail
 refine HWB.out.mono ?_
 rintro e w3 ⟨A3, n3, c3, T3, E3, rfl, hk3, hr3, hb3⟩
 go_wp2_with fail
 refine (HRB.out w3 hb3.out).mono ?_
 rintro e w4 ⟨A4, n4, c4, T4, E4, rfl, hk4, hr4, hb4⟩
 obtain ⟨hd, rfl⟩ := res_fun hr3.out hr4.out
 have HB4 := Lib.hid (HB2.out.trans ((hb3.out.trans (hb4.out.mono hb3.out.size)).mono HB2.out.size))
 have HI4 := Lib.hid ((HI2.out.below (hb3.out.trans (hb4.out.mono hb3.out.size))).mono fun b hb => Nat.lt_of_lt_of_le hb (hb3.out.trans (hb4.out.mono hb3.out.size)).size)
 have HSM := Lib.hid (same_tk (hk3.out.below hb4.out) hk4.out hd)
 have hne : (E3 != E3) = false := by simp
 clear HWB HRB hk3 hk4 hr3 hr4 hb3 hb4 hd HB2 HI2
 go_wp2_with fail
 refine HSM.out.mono ?_
 rintro e w5 ⟨rfl, hb5⟩
 have HB5 := Lib.hid (HB4.out.trans (hb5.out.mono HB4.out.size))
 have HI5 := Lib.hid ((HI4.out.below hb5.out).mono fun b hb => Nat.lt_of_lt_of_le hb hb5.out.size)
 clear HSM hb5 HB4 HI4
 go_wp2_with fail
 refine (HG2.out w5 HB5.out D0 A7 n7 c7 HI5.out).mono ?_
 rintro e w6 ⟨v6, A6, n6, c6, rfl, Z, D6, hs6⟩
 obtain ⟨A9, n9, c9, rfl, hn9, _, _, hr9, _, _⟩ := ownG_open hs6.out.own
 have HB6 := Lib.hid (HB5.out.trans (hs6.out.bel.mono HB5.out.size))
 have hk6 := hs6.out.tb.tk
 obtain ⟨T6, hd6, hk6⟩ := hk6
 have HK6 := Lib.hid hk6
 have HD6 := Lib.hid hd6
 have HST := Lib.hid hs6.out.st
 have HWB := Lib.hid (wbeh_res D0 Z A9 n9 c9 A7 n7 c7 w6 hn9.out (by have := hs6.out.few; omega) hr9.out hs6.out.full ((HI5.out.below hs6.out.bel).mono fun b hb => Nat.lt_of_lt_of_le hb hs6.out.bel.size) (HTB.out.below HB6.out))
 clear hs6 hn9 hr9 HB5 HI5 HG2 hk6 hd6
 go_wp2_with fail
 refine HWB.out.mono ?_
 rintro e w7 ⟨A3, n3, c3, T7, E7, rfl, hk7, hr7, hb7⟩
 obtain ⟨hd7, rfl⟩ := res_good hr7.out HST.out
 have HB7 := Lib.hid (HB6.out.trans (hb7.out.mono HB6.out.size))
 have HSM := Lib.hid (same_tk hk7.out (HK6.out.below hb7.out) (hd7.trans HD6.out.symm))
 clear HWB hk7 hr7 hb7 hd7 HK6 HD6 HST HB6
 go_wp2_with fail
 refine HSM.out.mono ?_
 rintro e w8 ⟨rfl, hb8⟩
 have HB8 := Lib.hid (HB7.out.trans (hb8.out.mono HB7.out.size))
 have HLV := Lib.hid (lives14_any w8 (HTB.out.below HB8.out))
 clear hb8 HB7 HSM
 go_wp2_with fail
 refine HLV.out.mono ?_
 rintro e w9 ⟨rfl, hb9⟩
 have HB9 := Lib.hid (HB8.out.trans (hb9.out.mono HB8.out.size))
 go_wp2_with fail
 go_ret
 exact ⟨rfl, HB9.out⟩
end Go.Proofs.YtlnbhlgkehenpaaGreatDoor.walBehind
namespace Go.Proofs.YtlnbhlgkehenpaaGreatDoor
open Go.ChangeShapes Go.WideShapes Go.RowKit Go.Joins Go.Deep Go.Lib
set_option maxRecDepth 100000
theorem own : ownKnob Tryz.prog.godebug = none := by kernel_rfl
theorem laidOut : laidOutB Tryz.prog = true := by kernel_rfl
def listed : List (String × DataW Unit) := [("unicode/utf8.acceptRanges", Rows.laid_unicode_utf8_acceptRanges), ("unicode/utf8.first", Rows.laid_unicode_utf8_first)]
theorem accept_eq : (Rows.laid_unicode_utf8_acceptRanges : DataW Unit) = acceptData := by kernel_rfl
theorem tabs_of {W : World} (h : laidMetH Tryz.prog listed W) : Tabs W := by
 rw [MakeChecks.laidMetH_plain _ _ _ (by kernel_rfl)] at h
 refine utf8Tabs_of_readsT (U8Types.of196 Tryz.laysValid) ⟨by kernel_rfl, by kernel_rfl, by kernel_rfl, by kernel_rfl, by kernel_rfl, by kernel_rfl, by kernel_rfl⟩ ?_ ?_
 ·have := Lib.laidMet.reads h (.tail _ (.head _))
  exact Pinned.utf8First_eq ▸ this
 ·have := Lib.laidMet.reads h (.head _)
  exact accept_eq ▸ this
section
variable {H : Type} {enc : TypeId × Value → H} {w : World} {base : Nat} {spare : Nat → Bool} {held : Bool}
end
end Go.Proofs.YtlnbhlgkehenpaaGreatDoor
namespace Go.Proofs.YtlnbhlgkehenpaaGreatDoor.walJoins
open Go.RowKit Go.Shelf Go.Maps Dg
set_option maxRecDepth 100000
set_option maxHeartbeats 8000000 in
theorem walk (A : Option Addr) (n c : Nat) (T : List Tb) (A1 : Option Addr) (n1 c1 : Nat) (L1 : List Ei) (A2 : Option Addr) (n2 c2 : Nat) (L2 : List Ei) (w : World) (hn : T.length = n) (_hc : n ≤ c) (_hm : c ≤ maxLen) (hA : TRow w A T) (hI : ∀ x ∈ T, TbIn w x)
 (hn1 : L1.length = n1) (hc1 : n1 ≤ c1) (hm1 : c1 ≤ maxLen) (hL1 : EiRow w A1 L1) (hl1 : ∀ r ∈ L1, r.arg w) (hn2 : L2.length = n2) (hc2 : n2 ≤ c2) (hm2 : c2 ≤ maxLen) (hL2 : EiRow w A2 L2) (hl2 : ∀ r ∈ L2, r.arg w) (hTb : Tabs w) :
 Calls Tryz.prog 4 #[.slice A n c, .slice A1 n1 c1, .slice A2 n2 c2] w fun e w' => e = .returned (.bool true) ∧ Below w.heap.size w w' := by
 have HGD := Lib.hid (rgood6_own A T n c w hn hA hI)
 have HG1 := Lib.hid (fun (W : World) (hb : Below w.heap.size w W) (D0 : List Td) (A0 : Option Addr) (n0 c0 : Nat) (h0 : TbI W (fun b => b < W.heap.size) A0 n0 c0 D0) => rgd14_any D0 L1 A1 n1 c1 6 A0 n0 c0 W hn1 (hL1.below hb) (fun r hr => (hl1 r hr).below hb) h0 (by omega) (by unfold maxLen at hm1; omega))
 have HG2 := Lib.hid (fun (W : World) (hb : Below w.heap.size w W) (D0 : List Td) (A0 : Option Addr) (n0 c0 : Nat) (h0 : TbI W (fun b => b < W.heap.size) A0 n0 c0 D0) => rgd14_any D0 L2 A2 n2 c2 6 A0 n0 c0 W hn2 (hL2.below hb) (fun r hr => (hl2 r hr).below hb) h0 (by omega) (by unfold maxLen at hm2; omega))
 have HTB := Lib.hid hTb
 clear hn hA hI hn1 hL1 hl1 hn2 hL2 hl2 hTb
 go_enter Tryz.func4, Tryz.ntmps4
 go_wp2_with fail
 refine HGD.out.mono ?_
 rintro e w1 ⟨v1, G, rfl, ho1, ht1, _, hc1, hb1⟩
 obtain ⟨A7, n7, c7, rfl, hI1⟩ := good_I ho1.out hc1.out ht1.out
 have HB1 := Lib.hid hb1.out
 have HI1 := Lib.hid hI1
 clear ho1 ht1 hc1 HGD hI1 hb1
 generalize g6To T 3 = D0 at *
 go_wp2_with fail
 refine (HG1.out w1 HB1.out D0 A7 n7 c7 HI1.out).mono ?_
 rintro e w2 ⟨v2, A6, n6, c6, rfl, X, D1, hs2⟩
 have HB2 := Lib.hid (HB1.out.trans (hs2.out.bel.mono HB1.out.size))
 have HI2 := Lib.hid ((HI1.out.below hs2.out.bel).mono fun b hb => Nat.lt_of_lt_of_le hb hs2.out.bel.size)
 have HM2 := Lib.hid (hs2.out.tb.mono (V' := fun b => b < w2.heap.size) fun b hb => hb.1)
 have HS2 := Lib.hid hs2.out
 clear hs2 HG1 HI1 HB1
 go_wp2_with fail
 refine (HG2.out w2 HB2.out D1 A6 n6 c6 HM2.out).mono ?_
 rintro e w3 ⟨v3, A5, n5, c5, rfl, Y, D2, hs3⟩
 have HB3 := Lib.hid (HB2.out.trans (hs3.out.bel.mono HB2.out.size))
 have HI3 := Lib.hid ((HI2.out.below hs3.out.bel).mono fun b hb => Nat.lt_of_lt_of_le hb hs3.out.bel.size)
 have HM3 := Lib.hid ((HM2.out.below hs3.out.bel).mono fun b hb => Nat.lt_of_lt_of_le hb hs3.out.bel.size)
 have HS3 := Lib.hid (HS2.out.below hs3.out.bel)
 have HT3 := Lib.hid hs3.out
 clear hs3 HG2 HI2 HM2 HS2 HB2
 obtain ⟨Ax, nx, cx, rfl, hnx, _, _, hrx, hzx, _⟩ := ownG_open HS3.out.own
 obtain ⟨Ay, ny, cy, rfl, hny, hcy, hmy, hry, hzy, _⟩ := ownG_open HT3.out.own
 have hfx := HS3.out.few
 have hfy := HT3.out.few
 obtain ⟨R1, W4, hrun1, ho4, ht4, hk4⟩ := appGs w3 w3.heap.size (.slice none 0 0) [] Ax nx cx X (ownG_nil _ _) (Nat.le_refl _) hnx.out hrx.out hzx.out (by have := hnx.out; simp; omega)
 rw [List.nil_append] at ho4
 have hb4 : Below w3.heap.size w3 W4 := ht4.below (B := w3.heap.size) (fun b hb => by simp [Value.ownBlock] at hb) (Nat.le_refl _)
 obtain ⟨R2, W5, hrun2, ho5, ht5, hk5⟩ := appGs W4 w3.heap.size R1 X Ay ny cy Y ho4 hb4.size hny.out (hry.out.below hb4) hzy.out (by have := hny.out; omega)
 have hb5 : Below w3.heap.size w3 W5 := hb4.trans (ht5.below (B := w3.heap.size) (fun b hb => (World.ownsRow.lt ho4 b (by simpa using hb)).1) hb4.size)
 obtain ⟨Az, nz, cz, rfl, hnz, _, _, hrz, _, _⟩ := ownG_open ho5
 obtain ⟨Aq, nq, cq, rfl, _, _, _, _, _, _⟩ := ownG_open ho4
 have HB5 := Lib.hid (HB3.out.trans (hb5.mono HB3.out.size))
 have HI5 := Lib.hid ((HI3.out.below hb5).mono fun b hb => Nat.lt_of_lt_of_le hb hb5.size)
 have HM5 := Lib.hid ((HM3.out.below hb5).mono fun b hb => Nat.lt_of_lt_of_le hb hb5.size)
 have hfull : ∀ r ∈ X ++ Y, r.full W5 := fun r hr => by
  rcases List.mem_append.1 hr with h | h
  ·exact (HS3.out.full r h).below hb5
  ·exact (HT3.out.full r h).below hb5
 have HST : Hid (Steps D0 ((X ++ Y).map (·.x)) D2) := by
  show Steps _ _ _
  rw [List.map_append]
  exact steps_join HS3.out.st HT3.out.st
 have HSY := Lib.hid HT3.out.st
 have HYF : Hid (Y.length = ny ∧ GRow W5 Ay Y ∧ ∀ r ∈ Y, r.full W5) := ⟨hny.out, hry.out.below hb5, fun r hr => (HT3.out.full r hr).below hb5⟩
 have HWB := Lib.hid (wbeh_res D0 (X ++ Y) Az nz cz A7 n7 c7 W5 hnz.out (by rw [List.length_append]; omega) hrz.out hfull HI5.out (HTB.out.below HB5.out))
 have hl5 := HT3.out.tb.tk
 obtain ⟨TL, hdl, hkl⟩ := hl5
 have HKL := Lib.hid (hkl.below hb5)
 have HDL := Lib.hid hdl
 have hr1 := Lib.hid hrun1
 have hr2 := Lib.hid hrun2
 clear HI3 HM3 HS3 HT3 HB3 hnx hrx hzx hny hry hzy hcy hmy ho4 ht4 hk4 ho5 ht5 hk5 hb4 hnz hrz hfull hdl hkl hb5 hrun1 hrun2 HI5
 go_wp2_with (at_builtin; first | (refine wpList_app rfl _ _ 23 23 rfl (.slice none 0 0) (.slice Ax nx cx) rfl rfl ⟨_, W4, hr1.out, ?_⟩) | (refine wpList_app rfl _ _ 23 23 rfl (.slice Aq nq cq) (.slice Ay ny cy) rfl rfl ⟨_, W5, hr2.out, ?_⟩))
 refine HWB.out.mono ?_
 rintro e w7 ⟨A3, n3, c3, T7, E7, rfl, hk7, hr7, hb7⟩
 obtain ⟨hd7, rfl⟩ := res_good hr7.out HST.out
 have HB7 := Lib.hid (HB5.out.trans (hb7.out.mono HB5.out.size))
 have HM7 := Lib.hid ((HM5.out.below hb7.out).mono fun b hb => Nat.lt_of_lt_of_le hb hb7.out.size)
 have HKL7 := Lib.hid (HKL.out.below hb7.out)
 have HK7 := Lib.hid hk7.out
 have HD7 := Lib.hid hd7
 have HWC := Lib.hid (wbeh_res D1 Y Ay ny cy A6 n6 c6 w7 HYF.out.1 (by omega) (HYF.out.2.1.below hb7.out) (fun r hr => (HYF.out.2.2 r hr).below hb7.out) HM7.out (HTB.out.below HB7.out))
 clear HWB hk7 hr7 hb7 hd7 HST HB5 HM5 HKL HYF hr1 hr2
 go_wp2_with fail
 refine HWC.out.mono ?_
 rintro e w8 ⟨A4, n4, c4, T8, E8, rfl, hk8, hr8, hb8⟩
 obtain ⟨hd8, rfl⟩ := res_good hr8.out HSY.out
 have HB8 := Lib.hid (HB7.out.trans (hb8.out.mono HB7.out.size))
 have HS1 := Lib.hid (same_tk (HK7.out.below hb8.out) (HKL7.out.below hb8.out) (HD7.out.trans HDL.out.symm))
 have HS2 := Lib.hid (fun (W : World) (hb : Below w8.heap.size w8 W) => same_tk (hk8.out.below hb) ((HKL7.out.below hb8.out).below hb) (hd8.trans HDL.out.symm))
 clear HWC hk8 hr8 hb8 hd8 HSY HB7 HM7 HKL7 HK7 HD7 HDL
 go_wp2_with fail
 refine HS1.out.mono ?_
 rintro e w9 ⟨rfl, hb9⟩
 have HB9 := Lib.hid (HB8.out.trans (hb9.out.mono HB8.out.size))
 have HS3 := Lib.hid (HS2.out w9 hb9.out)
 clear HS1 HS2 hb9 HB8
 go_wp2_with fail
 refine HS3.out.mono ?_
 rintro e wa ⟨rfl, hba⟩
 have HBa := Lib.hid (HB9.out.trans (hba.out.mono HB9.out.size))
 have HLV := Lib.hid (lives14_any wa (HTB.out.below HBa.out))
 clear HS3 hba HB9
 go_wp2_with fail
 refine HLV.out.mono ?_
 rintro e wb ⟨rfl, hbb⟩
 have HBb := Lib.hid (HBa.out.trans (hbb.out.mono HBa.out.size))
 go_wp2_with fail
 go_ret
 exact ⟨rfl, HBb.out⟩
end Go.Proofs.YtlnbhlgkehenpaaGreatDoor.walJoins
