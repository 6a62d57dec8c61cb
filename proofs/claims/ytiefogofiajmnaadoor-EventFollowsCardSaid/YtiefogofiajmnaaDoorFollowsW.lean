/-
  EventFollows: the walk.
-/
import Derived.Test.YtiefogofiajmnaaDoorFy
import Derived.Test.YtiefogofiajmnaaDoorMg8
import Derived.Test.YtiefogofiajmnaaDoorFx
import Derived.Test.YtiefogofiajmnaaDoorFe
namespace Go.Proofs.YtiefogofiajmnaaDoor.eventFollows
open Go.RowKit Dg
set_option maxRecDepth 100000
theorem far7T {W : World} {g B : Nat} (hg : g < B) {v : Value} {M : List Tb} (h : OwnT B W v M) (u0 u1 u2 u3 u4 u5 u6 : Value) : OwnT B (((((((W.setCell ⟨g, 0, none⟩ u0).setCell ⟨g, 1, none⟩ u1).setCell ⟨g, 2, none⟩ u2).setCell ⟨g, 3, none⟩ u3).setCell ⟨g, 4, none⟩ u4).setCell ⟨g, 5, none⟩ u5).setCell ⟨g, 6, none⟩ u6) v M :=
  OwnT.far (OwnT.far (OwnT.far (OwnT.far (OwnT.far (OwnT.far (OwnT.far h (p := ⟨g, 0, none⟩) hg u0) (p := ⟨g, 1, none⟩) hg u1) (p := ⟨g, 2, none⟩) hg u2) (p := ⟨g, 3, none⟩) hg u3) (p := ⟨g, 4, none⟩) hg u4) (p := ⟨g, 5, none⟩) hg u5) (p := ⟨g, 6, none⟩) hg u6
theorem _root_.Go.Proofs.YtiefogofiajmnaaDoor.Sp.cell {D : Nat} {w : World} {A : Option Addr} {n c : Nat} {T : List Tb} {k : Nat} (h : Sp D w (.slice A n c) T) (hk : k < T.length) : ∃ b off, A = some ⟨b, off, none⟩ ∧ ∀ W, Sp D W (.slice (some ⟨b, off, none⟩) n c) T → W.cell? ⟨b, off + k * 3 + 1, none⟩ = some (.slice T[k].A T[k].n T[k].c) := by
  obtain ⟨A', c', hv, _, _, hr, _⟩ := ownT_row h.own
  injection hv with h1 _ _
  obtain ⟨b, off, e, _⟩ := hr (by intro e; rw [e] at hk; simp at hk)
  refine ⟨b, off, by rw [h1, e], fun W hW => ?_⟩
  obtain ⟨A2, c2, hv2, _, _, hr2, _⟩ := ownT_row hW.own
  injection hv2 with g1 _ _
  obtain ⟨b2, off2, e2, hc2⟩ := hr2 (by intro e; rw [e] at hk; simp at hk)
  rw [← g1] at e2
  injection e2 with e2
  injection e2 with e3 e4
  subst e3 e4
  exact (hc2 k hk).2.1
/-- How the memory stands ahead of the loop: the two changes, the tables, the cut columns. -/
structure FSt (w : World) (G : List Tb) (v : Value) (gd : Nat) (c1 d1 : Array Value) (A5 : Option Addr) (n5 c5 : Nat) (M : List Cl) (wr : World) : Prop where
  bel : Below w.heap.size w wr
  cb : Has wr w.heap.size 40 c1
  db : Has wr gd 40 d1
  own : OwnT (w.heap.size + 1) wr v G
  col : ∀ x ∈ G, OwnC (w.heap.size + 1) wr (.slice x.A x.n x.c) x.L
  cut : OwnC (w.heap.size + 1) wr (.slice A5 n5 c5) M
section
variable {w wr w' : World} {G : List Tb} {v : Value} {gd : Nat} {c1 d1 : Array Value} {A5 : Option Addr} {n5 c5 : Nat} {M : List Cl}
theorem FSt.below (h : FSt w G v gd c1 d1 A5 n5 c5 M wr) (hb : Below wr.heap.size wr w') : FSt w G v gd c1 d1 A5 n5 c5 M w' :=
  ⟨h.bel.trans (hb.mono h.bel.size), h.cb.below hb h.cb.lt, h.db.below hb h.db.lt, h.own.below hb, fun x hx => (h.col x hx).below hb, h.cut.below hb⟩
/-- A cell of the second change is written. -/
theorem FSt.put (h : FSt w G v gd c1 d1 A5 n5 c5 M wr) (hg : w.heap.size < gd) (hne : ∀ (g : Nat) (t : TypeId) (cs : Array Value), Has wr g t cs → t ≠ 40 → g ≠ gd) (i : Nat) (u : Value) : FSt w G v gd c1 (d1.setIfInBounds i u) A5 n5 c5 M (wr.setCell ⟨gd, i, none⟩ u) := by
  have far : ∀ {B : Nat} {v : Value} {L : List Cl}, OwnC B wr v L → OwnC B (wr.setCell ⟨gd, i, none⟩ u) v L := fun {B v L} h => by
    rcases h.2 with ⟨hv, hn⟩ | ⟨k, cap, cur2, hv, hk, hk2, hc, hcm, hsz, ht⟩
    · exact ⟨h.1, .inl ⟨hv, hn⟩⟩
    · exact ⟨h.1, .inr ⟨k, cap, cur2, hv, hk, Has.far (t := 38) (cs := cur2) hk2 (fun e => hne k _ _ hk2 (by decide) (by first | exact e | exact e.symm)) u, hc, hcm, hsz, ht⟩⟩
  refine ⟨h.bel.setCell (by show w.heap.size ≤ gd; omega) _, h.cb.far (by show w.heap.size ≠ gd; omega) u, h.db.put i u, ?_, fun x hx => far (h.col x hx), far h.cut⟩
  rcases h.own.2 with ⟨hv, hn⟩ | ⟨k, cap, cur2, hv, hk, hk2, hc, hcm, hsz, ht⟩
  · exact ⟨h.own.1, .inl ⟨hv, hn⟩⟩
  · exact ⟨h.own.1, .inr ⟨k, cap, cur2, hv, hk, Has.far (t := 30) (cs := cur2) hk2 (fun e => hne k _ _ hk2 (by decide) (by first | exact e | exact e.symm)) u, hc, hcm, hsz, ht⟩⟩
theorem FSt.puts (h : FSt w G v gd c1 d1 A5 n5 c5 M wr) (hg : w.heap.size < gd) (i : Nat) (u : Value) : FSt w G v gd c1 (d1.setIfInBounds i u) A5 n5 c5 M (wr.setCell ⟨gd, i, none⟩ u) :=
  h.put hg (fun g t cs hh ht e => by
    subst e
    have := hh.symm.trans h.db
    injection this with this
    injection this with _ h2 _
    exact ht h2) i u
theorem FSt.oks (h : FSt w G v gd c1 d1 A5 n5 c5 M wr) (hG : GoodD (tds G)) : TOks wr G := fun x hx => Cln.ok (B := w.heap.size + 1) (x := x) ⟨rfl, h.col x hx⟩ (by have := (goodT_fit hG x hx).2.1; omega)
end
theorem cut_fit {L : List Cl} (hf : ∀ x ∈ L, x.fit) : ∀ x ∈ cutL L, x.fit := fun x hx => by
  obtain ⟨y, hy, rfl⟩ := List.mem_map.1 hx
  have h1 := hf y (List.mem_of_mem_take hy)
  have h2 := forty_size y.nm
  exact ⟨by show (forty y.nm).size ≤ _; omega, h1.2⟩
set_option maxHeartbeats 1500000 in
theorem walk (A : Option Addr) (n c : Nat) (T : List Tb) (ck : Int) (tn : ByteArray) (A4 : Option Addr) (n4 c4 : Nat) (L4 : List Cl) (K4 : Int) (cn : ByteArray) (kd : Int) (no : Bool) (at_ : Int) (w : World) (hn : T.length = n) (_hc : n ≤ c) (_hm : c ≤ maxLen) (hA : TRow w A T) (hI : ∀ x ∈ T, TbIn w x)
    (hn4 : L4.length = n4) (hc4 : n4 ≤ c4) (hm4 : c4 ≤ maxLen) (hA4 : CRow w A4 L4) (hf4 : ∀ y ∈ L4, y.fit) (hcl : Cl.fit ⟨cn, kd, no⟩) (htn : tn.size ≤ 140737488355328) (hK4 : -9223372036854775808 ≤ K4 ∧ K4 ≤ 9223372036854775807) (ha0 : -9223372036854775808 ≤ at_) (ha1 : at_ ≤ 9223372036854775807) :
    Calls Tryd.prog 4 #[.slice A n c, .agg #[.int .i64 ck, .string tn, .slice A4 n4 c4, .int .i64 K4, .string cn, .int .i64 kd, .bool no], .int .i64 at_] w fun e w' => e = .returned (.bool true) ∧ Below w.heap.size w w' := by
  have HGD := Lib.hid (fun (W : World) (hb : Below w.heap.size w W) => rgood6_own A T n c W hn (hA.below hb) (fun x hx => (by obtain ⟨h1, h2⟩ := hI x hx; exact ⟨⟨h1.1, h1.2.1, h1.2.2.1, h1.2.2.2.below hb⟩, h2⟩)))
  have HCU := Lib.hid (fun (W : World) (hb : Below w.heap.size w W) => cut6_any ck tn A4 L4 n4 c4 K4 cn kd no W hn4 hc4 hm4 (hA4.below hb) hf4 htn hcl.1)
  have HFT := Lib.hid (cut_fit hf4)
  clear hA hI hn hn4 hA4 hf4 hcl htn
  go_enter Tryd.func4, Tryd.ntmps4
  go_wp2_with fail
  have HB0 := Lib.hid ((Below.refl w.heap.size w).alloc (Nat.le_refl _) (.cells #[.int .i64 ck, .string tn, .slice A4 n4 c4, .int .i64 K4, .string cn, .int .i64 kd, .bool no] 40))
  have HX0 := Lib.hid (Has.new w 40 #[.int .i64 ck, .string tn, .slice A4 n4 c4, .int .i64 K4, .string cn, .int .i64 kd, .bool no])
  refine (HGD.out _ HB0.out).mono ?_
  rintro e w1 ⟨v1, G, rfl, ho1, HT, hk1', hcl1, hb1⟩
  obtain ⟨A7, n7, c7, rfl, HN7, hnc7, hcm7, HV7, HZ7⟩ := ownT_open ho1.out
  have HB1 := Lib.hid (HB0.out.trans (hb1.out.mono HB0.out.size))
  have HX1 := Lib.hid (HX0.out.below hb1.out HX0.out.lt)
  have x0 : w1.cell? ⟨w.heap.size, 0, none⟩ = some (.int .i64 ck) := HX1.out.cell 0
  have x1 : w1.cell? ⟨w.heap.size, 1, none⟩ = some (.string tn) := HX1.out.cell 1
  have x2 : w1.cell? ⟨w.heap.size, 2, none⟩ = some (.slice A4 n4 c4) := HX1.out.cell 2
  have x3 : w1.cell? ⟨w.heap.size, 3, none⟩ = some (.int .i64 K4) := HX1.out.cell 3
  have x4 : w1.cell? ⟨w.heap.size, 4, none⟩ = some (.string cn) := HX1.out.cell 4
  have x5 : w1.cell? ⟨w.heap.size, 5, none⟩ = some (.int .i64 kd) := HX1.out.cell 5
  have x6 : w1.cell? ⟨w.heap.size, 6, none⟩ = some (.bool no) := HX1.out.cell 6
  have hg3 := (g6_good T 3)
  rw [← HT.out] at hg3
  have HG := Lib.hid hg3
  have h7 : n7 ≤ 3 := by have h1 := HN7.out; have h2 := hg3.2; rw [tds_len] at h2; omega
  have HC1 := hcl1
  have HO1 := Lib.hid ho1.out
  have HBg := Lib.hid hb1.out
  clear hg3 ho1 hb1 HX0 HB0 hk1' hcl1
  go_wp2_with fail
  refine (HCU.out _ HB1.out).mono ?_
  rintro e w2 ⟨v2, rfl, ho2, hb2⟩
  obtain ⟨A5, n5, c5, rfl, HN5, hnc5, hcm5, HV5, HZ5⟩ := ownC_open ho2.out
  have HB2 := Lib.hid (HB1.out.trans (hb2.out.mono HB1.out.size))
  have HX2 := Lib.hid (HX1.out.below hb2.out HX1.out.lt)
  have HV2 := Lib.hid (HV7.out.below hb2.out)
  have HO2 := Lib.hid (HO1.out.below hb2.out)
  have hsz2 : w1.heap.size ≤ w2.heap.size := hb2.out.size
  have y0 : w2.cell? ⟨w.heap.size, 0, none⟩ = some (.int .i64 ck) := HX2.out.cell 0
  have y1 : w2.cell? ⟨w.heap.size, 1, none⟩ = some (.string tn) := HX2.out.cell 1
  have y2 : w2.cell? ⟨w.heap.size, 2, none⟩ = some (.slice A4 n4 c4) := HX2.out.cell 2
  have y3 : w2.cell? ⟨w.heap.size, 3, none⟩ = some (.int .i64 K4) := HX2.out.cell 3
  have y4 : w2.cell? ⟨w.heap.size, 4, none⟩ = some (.string cn) := HX2.out.cell 4
  have y5 : w2.cell? ⟨w.heap.size, 5, none⟩ = some (.int .i64 kd) := HX2.out.cell 5
  have y6 : w2.cell? ⟨w.heap.size, 6, none⟩ = some (.bool no) := HX2.out.cell 6
  have f0 := HX2.out.free 0
  have f1 := HX2.out.free 1
  have f2 := HX2.out.free 2
  have f3 := HX2.out.free 3
  have f4 := HX2.out.free 4
  have f5 := HX2.out.free 5
  have f6 := HX2.out.free 6
  have HX1L := HX1.out.lt
  have hb2B := hb2
  clear x0 x1 x2 x3 x4 x5 x6 hb2 HX1 HV7
  obtain ⟨gd, hgd⟩ : ∃ gd, gd = w2.heap.size := ⟨_, rfl⟩
  have hwl : w.heap.size < gd := by rw [hgd]; exact HX2.out.lt
  have e1 : ((((((((w2.setCell ⟨w.heap.size, 0, none⟩ (.int .i64 ck)).setCell ⟨w.heap.size, 1, none⟩ (.string (forty tn))).setCell ⟨w.heap.size, 2, none⟩ (.slice A5 n5 c5)).setCell ⟨w.heap.size, 3, none⟩ (.int .i64 K4)).setCell ⟨w.heap.size, 4, none⟩ (.string (forty cn))).setCell ⟨w.heap.size, 5, none⟩ (.int .i64 kd)).setCell ⟨w.heap.size, 6, none⟩ (.bool no))).heap.size = w2.heap.size := by simp
  have FS0 : FSt w G (.slice A7 n7 c7) gd #[.int .i64 ck, .string (forty tn), .slice A5 n5 c5, .int .i64 K4, .string (forty cn), .int .i64 kd, .bool no] #[.int .i64 ck, .string (forty tn), .slice A5 n5 c5, .int .i64 K4, .string (forty cn), .int .i64 kd, .bool no] A5 n5 c5 (cutL L4) ((((((((w2.setCell ⟨w.heap.size, 0, none⟩ (.int .i64 ck)).setCell ⟨w.heap.size, 1, none⟩ (.string (forty tn))).setCell ⟨w.heap.size, 2, none⟩ (.slice A5 n5 c5)).setCell ⟨w.heap.size, 3, none⟩ (.int .i64 K4)).setCell ⟨w.heap.size, 4, none⟩ (.string (forty cn))).setCell ⟨w.heap.size, 5, none⟩ (.int .i64 kd)).setCell ⟨w.heap.size, 6, none⟩ (.bool no)).alloc (.cells #[.int .i64 ck, .string (forty tn), .slice A5 n5 c5, .int .i64 K4, .string (forty cn), .int .i64 kd, .bool no] 40)) := by
    have ho2' : OwnC (w.heap.size + 1) w2 (.slice A5 n5 c5) (cutL L4) := ownC_down ho2.out (by have := HX1L; omega)
    have ho1' : OwnT (w.heap.size + 1) w2 (.slice A7 n7 c7) G := ownT_down HO2.out (by simp)
    refine ⟨(below7 (Nat.le_refl _) HB2.out _ _ _ _ _ _ _).alloc (by rw [e1]; exact HB2.out.size) _, ?_, ?_, ?_, fun x hx => ?_, ?_⟩
    · have hh : Has (((((((w2.setCell ⟨w.heap.size, 0, none⟩ (.int .i64 ck)).setCell ⟨w.heap.size, 1, none⟩ (.string (forty tn))).setCell ⟨w.heap.size, 2, none⟩ (.slice A5 n5 c5)).setCell ⟨w.heap.size, 3, none⟩ (.int .i64 K4)).setCell ⟨w.heap.size, 4, none⟩ (.string (forty cn))).setCell ⟨w.heap.size, 5, none⟩ (.int .i64 kd)).setCell ⟨w.heap.size, 6, none⟩ (.bool no)) w.heap.size 40 #[.int .i64 ck, .string (forty tn), .slice A5 n5 c5, .int .i64 K4, .string (forty cn), .int .i64 kd, .bool no] := ((((((HX2.out.put 0 _).put 1 _).put 2 _).put 3 _).put 4 _).put 5 _).put 6 _
      exact hh.alloc _
    · have h := Has.new (((((((w2.setCell ⟨w.heap.size, 0, none⟩ (.int .i64 ck)).setCell ⟨w.heap.size, 1, none⟩ (.string (forty tn))).setCell ⟨w.heap.size, 2, none⟩ (.slice A5 n5 c5)).setCell ⟨w.heap.size, 3, none⟩ (.int .i64 K4)).setCell ⟨w.heap.size, 4, none⟩ (.string (forty cn))).setCell ⟨w.heap.size, 5, none⟩ (.int .i64 kd)).setCell ⟨w.heap.size, 6, none⟩ (.bool no)) 40 #[.int .i64 ck, .string (forty tn), .slice A5 n5 c5, .int .i64 K4, .string (forty cn), .int .i64 kd, .bool no]
      rw [e1] at h
      rw [hgd]; exact h
    · exact (far7T (Nat.lt_succ_self _) ho1' _ _ _ _ _ _ _).below ((Below.refl _ _).alloc (Nat.le_refl _) _)
    · exact (far7 (Nat.lt_succ_self _) (ownC_down ((HC1.out x hx).below hb2B.out) (by simp)) _ _ _ _ _ _ _).below ((Below.refl _ _).alloc (Nat.le_refl _) _)
    · exact (far7 (Nat.lt_succ_self _) ho2' _ _ _ _ _ _ _).below ((Below.refl _ _).alloc (Nat.le_refl _) _)
  have FS := Lib.hid FS0
  obtain ⟨W3, hW3⟩ : ∃ W3, (((((((w2.setCell ⟨w.heap.size, 0, none⟩ (.int .i64 ck)).setCell ⟨w.heap.size, 1, none⟩ (.string (forty tn))).setCell ⟨w.heap.size, 2, none⟩ (.slice A5 n5 c5)).setCell ⟨w.heap.size, 3, none⟩ (.int .i64 K4)).setCell ⟨w.heap.size, 4, none⟩ (.string (forty cn))).setCell ⟨w.heap.size, 5, none⟩ (.int .i64 kd)).setCell ⟨w.heap.size, 6, none⟩ (.bool no)).alloc (.cells #[.int .i64 ck, .string (forty tn), .slice A5 n5 c5, .int .i64 K4, .string (forty cn), .int .i64 kd, .bool no] 40) = W3 := ⟨_, rfl⟩
  rw [hW3] at FS
  clear FS0 e1 HX2 HV2 HO2 HB2 ho2 hb2B HC1
  subst hgd
  have z0 : W3.cell? ⟨w2.heap.size, 0, none⟩ = some (.int .i64 ck) := FS.out.db.cell 0
  have fz0 : W3.frozen? ⟨w2.heap.size, 0, none⟩ = false := FS.out.db.free 0
  have z1 : W3.cell? ⟨w2.heap.size, 1, none⟩ = some (.string (forty tn)) := FS.out.db.cell 1
  have fz1 : W3.frozen? ⟨w2.heap.size, 1, none⟩ = false := FS.out.db.free 1
  have z2 : W3.cell? ⟨w2.heap.size, 2, none⟩ = some (.slice A5 n5 c5) := FS.out.db.cell 2
  have fz2 : W3.frozen? ⟨w2.heap.size, 2, none⟩ = false := FS.out.db.free 2
  have z3 : W3.cell? ⟨w2.heap.size, 3, none⟩ = some (.int .i64 K4) := FS.out.db.cell 3
  have fz3 : W3.frozen? ⟨w2.heap.size, 3, none⟩ = false := FS.out.db.free 3
  have z4 : W3.cell? ⟨w2.heap.size, 4, none⟩ = some (.string (forty cn)) := FS.out.db.cell 4
  have fz4 : W3.frozen? ⟨w2.heap.size, 4, none⟩ = false := FS.out.db.free 4
  have z5 : W3.cell? ⟨w2.heap.size, 5, none⟩ = some (.int .i64 kd) := FS.out.db.cell 5
  have fz5 : W3.frozen? ⟨w2.heap.size, 5, none⟩ = false := FS.out.db.free 5
  have z6 : W3.cell? ⟨w2.heap.size, 6, none⟩ = some (.bool no) := FS.out.db.cell 6
  have fz6 : W3.frozen? ⟨w2.heap.size, 6, none⟩ = false := FS.out.db.free 6
  have y0 : W3.cell? ⟨w.heap.size, 0, none⟩ = some (.int .i64 ck) := FS.out.cb.cell 0
  have y1 : W3.cell? ⟨w.heap.size, 1, none⟩ = some (.string (forty tn)) := FS.out.cb.cell 1
  have y2 : W3.cell? ⟨w.heap.size, 2, none⟩ = some (.slice A5 n5 c5) := FS.out.cb.cell 2
  have y3 : W3.cell? ⟨w.heap.size, 3, none⟩ = some (.int .i64 K4) := FS.out.cb.cell 3
  have y4 : W3.cell? ⟨w.heap.size, 4, none⟩ = some (.string (forty cn)) := FS.out.cb.cell 4
  have y5 : W3.cell? ⟨w.heap.size, 5, none⟩ = some (.int .i64 kd) := FS.out.cb.cell 5
  have y6 : W3.cell? ⟨w.heap.size, 6, none⟩ = some (.bool no) := FS.out.cb.cell 6
  by_cases hz : 0 < n7
  · have hz0 : (0 : Int) < (n7 : Int) := by omega
    by_cases hneg : at_ < 0
    · obtain ⟨m, hm⟩ : ∃ m : Nat, -(at_ + 1) = (m : Int) := ⟨(-(at_ + 1)).toNat, by omega⟩
      obtain ⟨jj, hjj, hjl⟩ : ∃ jj : Nat, (m : Int) % (n7 : Int) = (jj : Int) ∧ jj < n7 := ⟨m % n7, by omega, Nat.mod_lt _ hz⟩
      have hjl0 : jj < G.length := by rw [HN7.out]; exact hjl
      obtain ⟨Ag, cg, hvg, _, _, hrg, _⟩ := ownT_row FS.out.own
      injection hvg with hvg1 hvg2 hvg3
      subst hvg1
      clear hvg2 hvg3
      obtain ⟨bg, og, rfl, hcg⟩ := hrg (by intro e; rw [e] at hjl0; simp at hjl0)
      obtain ⟨cg0, _, _⟩ := hcg jj hjl0
      have hnz : G[jj].nm.size ≤ 140737488355328 := by have := (goodT_fit HG.out.1 _ (List.getElem_mem hjl0)).1; omega
      generalize G[jj].nm = nm at *
      clear hcg hrg
      have hjz : (jj : Int) < (n7 : Int) := by omega
      have FSp := Lib.hid (FS.out.puts hwl 1 (.string nm))
      obtain ⟨W3p, hW3p⟩ : ∃ W3p, W3.setCell ⟨w2.heap.size, 1, none⟩ (.string nm) = W3p := ⟨_, rfl⟩
      rw [hW3p] at FSp
      have FSp : Hid (FSt w G (.slice (some ⟨bg, og, none⟩) n7 c7) w2.heap.size #[.int .i64 ck, .string (forty tn), .slice A5 n5 c5, .int .i64 K4, .string (forty cn), .int .i64 kd, .bool no] #[.int .i64 ck, .string nm, .slice A5 n5 c5, .int .i64 K4, .string (forty cn), .int .i64 kd, .bool no] A5 n5 c5 (cutL L4) W3p) := FSp
      have zp2 : W3p.cell? ⟨w2.heap.size, 2, none⟩ = some (.slice A5 n5 c5) := FSp.out.db.cell 2
      have zp3 : W3p.cell? ⟨w2.heap.size, 3, none⟩ = some (.int .i64 K4) := FSp.out.db.cell 3
      have HG5 := Lib.hid (fun (W : World) (h : Hid (FSt w G (.slice (some ⟨bg, og, none⟩) n7 c7) w2.heap.size #[.int .i64 ck, .string (forty tn), .slice A5 n5 c5, .int .i64 K4, .string (forty cn), .int .i64 kd, .bool no] #[.int .i64 ck, .string nm, .slice A5 n5 c5, .int .i64 K4, .string (forty cn), .int .i64 kd, .bool no] A5 n5 c5 (cutL L4) W)) => rgood_any A5 (cutL L4) n5 c5 K4 W HN5.out hnc5 hcm5 (h.out.cut.row rfl) HFT.out hK4.1 hK4.2)
      go_wp2_with fail
      refine (HG5.out W3p FSp).mono ?_
      rintro e w4 ⟨v6, rfl, ho6, hb6⟩
      obtain ⟨A6, n6, c6, rfl, HN6, hnc6, hcm6, HV6, HZ6⟩ := ownC_open ho6.out
      have FS4 := Lib.hid (FSp.out.below hb6.out)
      have HO6 := Lib.hid ho6.out
      clear ho6 hb6 z0 z1 z2 z3 z4 z5 z6 fz0 fz1 fz2 fz3 fz4 fz5 fz6 y0 y1 y2 y3 y4 y5 y6
      have z0 : w4.cell? ⟨w2.heap.size, 0, none⟩ = some (.int .i64 ck) := FS4.out.db.cell 0
      have fz0 : w4.frozen? ⟨w2.heap.size, 0, none⟩ = false := FS4.out.db.free 0
      have z1 : w4.cell? ⟨w2.heap.size, 1, none⟩ = some (.string nm) := FS4.out.db.cell 1
      have fz1 : w4.frozen? ⟨w2.heap.size, 1, none⟩ = false := FS4.out.db.free 1
      have z2 : w4.cell? ⟨w2.heap.size, 2, none⟩ = some (.slice A5 n5 c5) := FS4.out.db.cell 2
      have fz2 : w4.frozen? ⟨w2.heap.size, 2, none⟩ = false := FS4.out.db.free 2
      have z3 : w4.cell? ⟨w2.heap.size, 3, none⟩ = some (.int .i64 K4) := FS4.out.db.cell 3
      have fz3 : w4.frozen? ⟨w2.heap.size, 3, none⟩ = false := FS4.out.db.free 3
      have z4 : w4.cell? ⟨w2.heap.size, 4, none⟩ = some (.string (forty cn)) := FS4.out.db.cell 4
      have fz4 : w4.frozen? ⟨w2.heap.size, 4, none⟩ = false := FS4.out.db.free 4
      have z5 : w4.cell? ⟨w2.heap.size, 5, none⟩ = some (.int .i64 kd) := FS4.out.db.cell 5
      have fz5 : w4.frozen? ⟨w2.heap.size, 5, none⟩ = false := FS4.out.db.free 5
      have z6 : w4.cell? ⟨w2.heap.size, 6, none⟩ = some (.bool no) := FS4.out.db.cell 6
      have fz6 : w4.frozen? ⟨w2.heap.size, 6, none⟩ = false := FS4.out.db.free 6
      have y0 : w4.cell? ⟨w.heap.size, 0, none⟩ = some (.int .i64 ck) := FS4.out.cb.cell 0
      have y1 : w4.cell? ⟨w.heap.size, 1, none⟩ = some (.string (forty tn)) := FS4.out.cb.cell 1
      have y2 : w4.cell? ⟨w.heap.size, 2, none⟩ = some (.slice A5 n5 c5) := FS4.out.cb.cell 2
      have y3 : w4.cell? ⟨w.heap.size, 3, none⟩ = some (.int .i64 K4) := FS4.out.cb.cell 3
      have y4 : w4.cell? ⟨w.heap.size, 4, none⟩ = some (.string (forty cn)) := FS4.out.cb.cell 4
      have y5 : w4.cell? ⟨w.heap.size, 5, none⟩ = some (.int .i64 kd) := FS4.out.cb.cell 5
      have y6 : w4.cell? ⟨w.heap.size, 6, none⟩ = some (.bool no) := FS4.out.cb.cell 6
      clear hW3 hW3p
      have hlt23 : w2.heap.size < W3p.heap.size := FSp.out.db.lt
      have hal : Below (((w4.setCell ⟨w2.heap.size, 2, none⟩ (.slice A6 n6 c6)).setCell ⟨w2.heap.size, 3, none⟩ (.int .i64 (gdK (cutL L4) K4)))).heap.size ((w4.setCell ⟨w2.heap.size, 2, none⟩ (.slice A6 n6 c6)).setCell ⟨w2.heap.size, 3, none⟩ (.int .i64 (gdK (cutL L4) K4))) (((w4.setCell ⟨w2.heap.size, 2, none⟩ (.slice A6 n6 c6)).setCell ⟨w2.heap.size, 3, none⟩ (.int .i64 (gdK (cutL L4) K4))).alloc (.cells #[.int .i64 ck, .string (forty tn), .slice A5 n5 c5, .int .i64 K4, .string (forty cn), .int .i64 kd, .bool no, .int .i64 ck, .string nm, .slice A6 n6 c6, .int .i64 (gdK (cutL L4) K4), .string (forty cn), .int .i64 kd, .bool no] 40)) := (Below.refl _ _).alloc (Nat.le_refl _) _
      have e4 : (((w4.setCell ⟨w2.heap.size, 2, none⟩ (.slice A6 n6 c6)).setCell ⟨w2.heap.size, 3, none⟩ (.int .i64 (gdK (cutL L4) K4)))).heap.size = w4.heap.size := by simp
      have FS5 := Lib.hid (((FS4.out.puts hwl 2 (.slice A6 n6 c6)).puts hwl 3 (.int .i64 (gdK (cutL L4) K4))).below hal)
      have HO6' := Lib.hid (((HO6.out.far (p := ⟨w2.heap.size, 2, none⟩) hlt23 (.slice A6 n6 c6)).far (p := ⟨w2.heap.size, 3, none⟩) hlt23 (.int .i64 (gdK (cutL L4) K4))).below hal)
      have hna := Has.new ((w4.setCell ⟨w2.heap.size, 2, none⟩ (.slice A6 n6 c6)).setCell ⟨w2.heap.size, 3, none⟩ (.int .i64 (gdK (cutL L4) K4))) 40 #[.int .i64 ck, .string (forty tn), .slice A5 n5 c5, .int .i64 K4, .string (forty cn), .int .i64 kd, .bool no, .int .i64 ck, .string nm, .slice A6 n6 c6, .int .i64 (gdK (cutL L4) K4), .string (forty cn), .int .i64 kd, .bool no]
      rw [e4] at hna
      have HAA := Lib.hid hna
      obtain ⟨wB, hwB⟩ : ∃ wB, ((w4.setCell ⟨w2.heap.size, 2, none⟩ (.slice A6 n6 c6)).setCell ⟨w2.heap.size, 3, none⟩ (.int .i64 (gdK (cutL L4) K4))).alloc (.cells #[.int .i64 ck, .string (forty tn), .slice A5 n5 c5, .int .i64 K4, .string (forty cn), .int .i64 kd, .bool no, .int .i64 ck, .string nm, .slice A6 n6 c6, .int .i64 (gdK (cutL L4) K4), .string (forty cn), .int .i64 kd, .bool no] 40) = wB := ⟨_, rfl⟩
      rw [hwB] at FS5 HO6' HAA
      clear hal e4 hna HO6 FS4 FSp
      go_wp2_with fail
      try rw [hwB]
      clear hwB z0 z1 z2 z3 z4 z5 z6 fz0 fz1 fz2 fz3 fz4 fz5 fz6 y0 y1 y2 y3 y4 y5 y6
      have HBB := Lib.hid FS5.out.bel
      have HKg := Lib.hid (FS5.out.oks HG.out.1)
      obtain ⟨Ag, cg, hvg, _, _, hrg, _⟩ := ownT_row FS5.out.own
      injection hvg with hvg1 hvg2 hvg3
      subst hvg1
      clear hvg2 hvg3
      have HVg := Lib.hid hrg
      have HXX : Hid (∀ k, k < 2 → ∃ (tk : ByteArray) (Ak : Option Addr) (nk ek : Nat) (Lk : List Cl) (Kk : Int), (wB.cell? ⟨w4.heap.size, k * 7, none⟩ = some (.int .i64 ck) ∧ wB.cell? ⟨w4.heap.size, k * 7 + 1, none⟩ = some (.string tk) ∧ wB.cell? ⟨w4.heap.size, k * 7 + 2, none⟩ = some (.slice Ak nk ek) ∧ wB.cell? ⟨w4.heap.size, k * 7 + 3, none⟩ = some (.int .i64 Kk) ∧ wB.cell? ⟨w4.heap.size, k * 7 + 4, none⟩ = some (.string (forty cn)) ∧ wB.cell? ⟨w4.heap.size, k * 7 + 5, none⟩ = some (.int .i64 kd) ∧ wB.cell? ⟨w4.heap.size, k * 7 + 6, none⟩ = some (.bool no)) ∧ Lk.length = nk ∧ nk ≤ ek ∧ ek ≤ maxLen ∧ CRow wB Ak Lk ∧ (Ak = none → ek = 0) ∧ tk.size ≤ 140737488355328 ∧ ∀ y ∈ Lk, y.fit) := fun k hk => by
        have hk2 : k = 0 ∨ k = 1 := by omega
        rcases hk2 with rfl | rfl
        · exact ⟨_, _, _, _, cutL L4, _, ⟨HAA.out.cell (0 * 7), HAA.out.cell (0 * 7 + 1), HAA.out.cell (0 * 7 + 2), HAA.out.cell (0 * 7 + 3), HAA.out.cell (0 * 7 + 4), HAA.out.cell (0 * 7 + 5), HAA.out.cell (0 * 7 + 6)⟩, HN5.out, hnc5, hcm5, FS5.out.cut.row rfl, HZ5.out, by have := forty_size tn; omega, HFT.out⟩
        · exact ⟨_, _, _, _, gdC (cutL L4) K4, _, ⟨HAA.out.cell (1 * 7), HAA.out.cell (1 * 7 + 1), HAA.out.cell (1 * 7 + 2), HAA.out.cell (1 * 7 + 3), HAA.out.cell (1 * 7 + 4), HAA.out.cell (1 * 7 + 5), HAA.out.cell (1 * 7 + 6)⟩, HN6.out, hnc6, hcm6, HO6'.out.row rfl, HZ6.out, hnz, fun y hy => (goodS_fit _ _ (goodS_is (cutL L4) K4) y hy).2.2.2⟩
      obtain ⟨ga, hga⟩ : ∃ ga, w4.heap.size = ga := ⟨_, rfl⟩
      rw [hga] at HXX ⊢
      clear hga HAA HO6' FS5 hrg
      have hS := Lib.hid (goodT_sort HG.out.1)
      have hsm : ∀ x ∈ G, 0 < x.L.length ∧ x.L.length ≤ 800 := fun x hx => by
        obtain ⟨_, k, _, h2⟩ := goodT_ok HG.out.1 x hx
        have := h2.len
        omega
      have HSM := Lib.hid hsm
      have hcn9 : (forty cn).size ≤ 140737488355328 := by have := forty_size cn; omega
      clear hsm
      go_loopw [10] (fun i wr => ∃ k : Nat, k ≤ 2 ∧ i = .int .i64 k ∧ Hid (Below wB.heap.size wB wr)) (fun i _ => 2 - (intOf i).toNat)
      case atStart => exact ⟨0, by omega, rfl, Below.refl _ _⟩
      case round =>
        obtain ⟨k, hk, rfl, HB⟩ := hrel
        obtain ⟨wo, rfl⟩ : ∃ wo : World, wo = wr := ⟨_, rfl⟩
        by_cases hlt : k < 2
        · have hkz : (k : Int) < 2 := by omega
          obtain ⟨tk, Ak, nk, ek, Lk, Kk, ⟨q0, q1, q2, q3, q4, q5, q6⟩, hlk, hck, hmk, hrk, hzk, htk, hfk⟩ := HXX.out k hlt
          have HPF := Lib.hid (pfollow_any (some ⟨bg, og, none⟩) G n7 c7 ck tk Ak nk ek Lk Kk (forty cn) kd no wo HN7.out hnc7 hcm7 (by omega) (HVg.out.below HB.out) HZ7.out (HKg.out.below HB.out) hS.out HSM.out hlk hck hmk (hrk.below HB.out) hzk htk hcn9 hfk)
          have HRF := Lib.hid (fun (W : World) (hb : Below wB.heap.size wB W) => rfollow_any (some ⟨bg, og, none⟩) G n7 c7 ck tk Ak nk ek Lk Kk (forty cn) kd no W HN7.out hnc7 hcm7 (by omega) (HVg.out.below hb) HZ7.out (HKg.out.below hb) hS.out HSM.out hlk hck hmk (hrk.below hb) hzk)
          have s0 := keepC HB.out q0
          have s1 := keepC HB.out q1
          have s2 := keepC HB.out q2
          have s3 := keepC HB.out q3
          have s4 := keepC HB.out q4
          have s5 := keepC HB.out q5
          have s6 := keepC HB.out q6
          clear q0 q1 q2 q3 q4 q5 q6 hrk
          go_wp2_with fail
          refine HPF.out.mono ?_
          rintro e w5 ⟨v3, T3, rfl, ho3, ht3, hb3⟩
          obtain ⟨A3, n3, c3, rfl, HN3, hnc3, hcm3, HV3, HZ3⟩ := ownT_open ho3.out.own
          have HB3 := Lib.hid (HB.out.trans (hb3.out.mono HB.out.size))
          have r0 := keepC hb3.out s0
          have r1 := keepC hb3.out s1
          have r2 := keepC hb3.out s2
          have r3 := keepC hb3.out s3
          have r4 := keepC hb3.out s4
          have r5 := keepC hb3.out s5
          have r6 := keepC hb3.out s6
          have HO3 := Lib.hid ho3.out
          have HT3 := Lib.hid ht3.out
          have HR3 := Lib.hid hb3.out
          clear ho3 hb3 ht3 s0 s1 s2 s3 s4 s5 s6 HPF
          go_wp2_with fail
          refine (HRF.out w5 HB3.out).mono ?_
          rintro e w6 ⟨v4, T4, rfl, ho4, hok4, ht4, hb4⟩
          obtain ⟨A8, n8, c8, rfl, HN8, hnc8, hcm8, HV8, HZ8⟩ := ownT_open ho4.out
          have htd : tds T3 = tds T4 := HT3.out.trans ht4.out.symm
          have HB4 := Lib.hid (HB3.out.trans (hb4.out.mono HB3.out.size))
          have HR4 := Lib.hid (HR3.out.trans (hb4.out.mono HR3.out.size))
          have HO4 : Hid (OwnTs wo.heap.size w6 (.slice A3 n3 c3) T3) := HO3.out.below hb4.out
          have hl3 : ∀ x ∈ T3, x.L.length ≤ 900 := fun x hx => by
            have h1 : x.td ∈ tds T4 := by rw [← htd]; exact List.mem_map_of_mem hx
            obtain ⟨y, hy, he⟩ := List.mem_map.1 h1
            have h2 := hok4.out y hy
            have h3 : y.L = x.L := congrArg Td.L he
            have h4 := h2.len
            have h5 := h2.few
            rw [← h3]; omega
          have HK3 := Lib.hid (HO4.out.oks hl3)
          obtain ⟨E, hE⟩ : ∃ E, foE G ck tk Lk Kk (forty cn) kd no = E := ⟨_, rfl⟩
          have hE4 : n3 ≤ 4 ∧ (E = 0 → rightF T3 = true ∧ ∀ x ∈ T3, x.nm.size ≤ 140737488355328 ∧ ∀ y ∈ x.L, y.fit) := by
            by_cases h0 : E = 0
            · have h := follow_right HG.out.1 (by have := HG.out.2; rw [tds_len] at this; exact this) (hE.trans h0) HT3.out
              exact ⟨by have := HN3.out; omega, fun _ => h.1⟩
            · have h := HT3.out
              rw [foD_bad (by rw [hE]; exact h0)] at h
              have h3 : T3 = [] := List.map_eq_nil_iff.1 h
              have := HN3.out
              rw [h3] at this
              exact ⟨by simp at this; omega, fun h => absurd h h0⟩
          have HST := Lib.hid (rst_any A3 T3 n3 c3 A8 T4 n8 c8 w6 HN3.out HN8.out (by omega) (HV3.out.below hb4.out) HV8.out HK3.out hok4.out htd)
          have HPR := Lib.hid (fun (W : World) (hb : Below w6.heap.size w6 W) (h0 : E = 0) => pright_any A3 T3 n3 c3 W HN3.out (by omega) ((HV3.out.below hb4.out).below hb) ((HK3.out.below hb).tin) (hE4.2 h0).2)
          have HRT := Lib.hid hE4.2
          have h34 := hE4.1
          rw [hE]
          clear hE ho4 hok4 ht4 hb4 htd hl3 hE4 HRF r0 r1 r2 r3 r4 r5 r6 HO3 HV3
          go_wp2_with fail
          refine HST.out.mono ?_
          rintro e w7 ⟨rfl, hb7⟩
          have HB7 := Lib.hid (HB4.out.trans (hb7.out.mono HB4.out.size))
          have HR7 := Lib.hid (HR4.out.trans (hb7.out.mono HR4.out.size))
          have HO7 := Lib.hid (HO4.out.below hb7.out)
          have HP7 := Lib.hid (fun h0 => HPR.out w7 hb7.out h0)
          clear hb7 HST HPR
          by_cases h0 : E = 0
          · subst h0
            have HP8 := Lib.hid (HP7.out rfl)
            rw [(HRT.out rfl).1] at HP8
            go_wp2_with fail
            refine HP8.out.mono ?_
            rintro e w8 ⟨rfl, hb8⟩
            have HB8 := Lib.hid (HB7.out.trans (hb8.out.mono HB7.out.size))
            have HR8 := Lib.hid (HR7.out.trans (hb8.out.mono HR7.out.size))
            have HS8 := Lib.hid ((HO7.out.below hb8.out).sp)
            clear hb8 HP8 HP7
            go_wp2_with fail
            go_loopw [15] (fun i wz => ∃ kk : Nat, kk ≤ n3 ∧ i = .int .i64 kk ∧ Hid (Sp wo.heap.size wz (.slice A3 n3 c3) T3) ∧ Hid (Below wo.heap.size wo wz)) (fun i _ => n3 - (intOf i).toNat)
            case atStart => exact ⟨0, by omega, rfl, HS8, HR8⟩
            case round =>
              obtain ⟨kk, hkk, rfl, HSk, HRk⟩ := hrel
              clear HS8 HR8 HB8 HB7 HR7 HO7
              by_cases hl3 : kk < n3
              · have hkk3 : kk < T3.length := by rw [HN3.out]; exact hl3
                obtain ⟨y, hy⟩ : ∃ y, T3[kk] = y := ⟨_, rfl⟩
                have hym : y ∈ T3 := by rw [← hy]; exact List.getElem_mem hkk3
                obtain ⟨b3, o3, rfl, HCL⟩ := HSk.out.cell hkk3
                rw [hy] at HCL
                have HCL := Lib.hid HCL
                have hy9 := (HK3.out y hym).few
                clear hy
                obtain ⟨ys, yA, yn, yc, yL, yK⟩ := y
                simp only at hy9
                have hkkz : (kk : Int) < (n3 : Int) := by omega
                go_wp2_with fail
                go_loopw [16] (fun i wz => ∃ j : Nat, j ≤ yn ∧ i = .int .i64 j ∧ Hid (Sp wo.heap.size wz (.slice (some ⟨b3, o3, none⟩) n3 c3) T3) ∧ Hid (Below wo.heap.size wo wz)) (fun i _ => yn - (intOf i).toNat)
                case atStart => exact ⟨0, by omega, rfl, HSk, HRk⟩
                case round =>
                  obtain ⟨j, hj, rfl, HSj, HRj⟩ := hrel
                  have r1 : wr.cell? ⟨b3, o3 + kk * 3 + 1, none⟩ = some (.slice yA yn yc) := HCL.out wr HSj.out
                  by_cases hjl : j < yn
                  · have hjz : (j : Int) < (yn : Int) := by omega
                    rcases HSj.out.col _ hym with h0 | ⟨gy, cur, hA, hgy, hh, hs⟩
                    · exfalso
                      simp only at h0
                      omega
                    · simp only at hA hs
                      subst hA
                      have hcell : ∃ u, wr.cell? ⟨gy, j * 3, none⟩ = some u := ⟨cur[j * 3]'(by omega), by rw [Has.cell (t := 38) (cs := cur) hh]; exact Array.getElem?_eq_getElem (by omega)⟩
                      obtain ⟨u, hu⟩ := hcell
                      have hfz : wr.frozen? ⟨gy, j * 3, none⟩ = false := Has.free (t := 38) (cs := cur) hh _
                      have HS2 := Lib.hid (HSj.out.set hh (j * 3) (.string ⟨#[115, 112, 111, 105, 108, 101, 100]⟩))
                      have HR2 := Lib.hid (HRj.out.setCell (p := ⟨gy, j * 3, none⟩) hgy (.string ⟨#[115, 112, 111, 105, 108, 101, 100]⟩))
                      clear hh hs hgy
                      go_wp2_with fail
                      go_roundw
                      case rel => exact ⟨j + 1, by omega, by go_num, HS2, HR2⟩
                      case measure => simp [intOf]; omega
                  · obtain rfl : j = yn := by omega
                    have hjz : ¬ (j : Int) < (j : Int) := by omega
                    go_wp2_with fail
                    go_roundw
                    case rel => exact ⟨kk + 1, by omega, by go_num, HSj, HRj⟩
                    case measure => simp [intOf]; omega
              · obtain rfl : kk = n3 := by omega
                have hkkz : ¬ (kk : Int) < (kk : Int) := by omega
                have HBz := Lib.hid (HB.out.trans (HRk.out.mono HB.out.size))
                go_wp2_with fail
                go_roundw
                case rel => exact ⟨k + 1, by omega, by go_num, HBz⟩
                case measure => simp [intOf]; omega
          · have HB8 := HB7
            have HR8 := HR7
            have HS8 := Lib.hid (HO7.out.sp)
            obtain ⟨w8, hw8⟩ : ∃ w8, w7 = w8 := ⟨_, rfl⟩
            subst hw8
            clear HP7
            go_wp2_with fail
            go_loopw [15] (fun i wz => ∃ kk : Nat, kk ≤ n3 ∧ i = .int .i64 kk ∧ Hid (Sp wo.heap.size wz (.slice A3 n3 c3) T3) ∧ Hid (Below wo.heap.size wo wz)) (fun i _ => n3 - (intOf i).toNat)
            case atStart => exact ⟨0, by omega, rfl, HS8, HR8⟩
            case round =>
              obtain ⟨kk, hkk, rfl, HSk, HRk⟩ := hrel
              clear HS8 HR8 HB8 HB7 HR7 HO7
              by_cases hl3 : kk < n3
              · have hkk3 : kk < T3.length := by rw [HN3.out]; exact hl3
                obtain ⟨y, hy⟩ : ∃ y, T3[kk] = y := ⟨_, rfl⟩
                have hym : y ∈ T3 := by rw [← hy]; exact List.getElem_mem hkk3
                obtain ⟨b3, o3, rfl, HCL⟩ := HSk.out.cell hkk3
                rw [hy] at HCL
                have HCL := Lib.hid HCL
                have hy9 := (HK3.out y hym).few
                clear hy
                obtain ⟨ys, yA, yn, yc, yL, yK⟩ := y
                simp only at hy9
                have hkkz : (kk : Int) < (n3 : Int) := by omega
                go_wp2_with fail
                go_loopw [16] (fun i wz => ∃ j : Nat, j ≤ yn ∧ i = .int .i64 j ∧ Hid (Sp wo.heap.size wz (.slice (some ⟨b3, o3, none⟩) n3 c3) T3) ∧ Hid (Below wo.heap.size wo wz)) (fun i _ => yn - (intOf i).toNat)
                case atStart => exact ⟨0, by omega, rfl, HSk, HRk⟩
                case round =>
                  obtain ⟨j, hj, rfl, HSj, HRj⟩ := hrel
                  have r1 : wr.cell? ⟨b3, o3 + kk * 3 + 1, none⟩ = some (.slice yA yn yc) := HCL.out wr HSj.out
                  by_cases hjl : j < yn
                  · have hjz : (j : Int) < (yn : Int) := by omega
                    rcases HSj.out.col _ hym with h0 | ⟨gy, cur, hA, hgy, hh, hs⟩
                    · exfalso
                      simp only at h0
                      omega
                    · simp only at hA hs
                      subst hA
                      have hcell : ∃ u, wr.cell? ⟨gy, j * 3, none⟩ = some u := ⟨cur[j * 3]'(by omega), by rw [Has.cell (t := 38) (cs := cur) hh]; exact Array.getElem?_eq_getElem (by omega)⟩
                      obtain ⟨u, hu⟩ := hcell
                      have hfz : wr.frozen? ⟨gy, j * 3, none⟩ = false := Has.free (t := 38) (cs := cur) hh _
                      have HS2 := Lib.hid (HSj.out.set hh (j * 3) (.string ⟨#[115, 112, 111, 105, 108, 101, 100]⟩))
                      have HR2 := Lib.hid (HRj.out.setCell (p := ⟨gy, j * 3, none⟩) hgy (.string ⟨#[115, 112, 111, 105, 108, 101, 100]⟩))
                      clear hh hs hgy
                      go_wp2_with fail
                      go_roundw
                      case rel => exact ⟨j + 1, by omega, by go_num, HS2, HR2⟩
                      case measure => simp [intOf]; omega
                  · obtain rfl : j = yn := by omega
                    have hjz : ¬ (j : Int) < (j : Int) := by omega
                    go_wp2_with fail
                    go_roundw
                    case rel => exact ⟨kk + 1, by omega, by go_num, HSj, HRj⟩
                    case measure => simp [intOf]; omega
              · obtain rfl : kk = n3 := by omega
                have hkkz : ¬ (kk : Int) < (kk : Int) := by omega
                have HBz := Lib.hid (HB.out.trans (HRk.out.mono HB.out.size))
                go_wp2_with fail
                go_roundw
                case rel => exact ⟨k + 1, by omega, by go_num, HBz⟩
                case measure => simp [intOf]; omega
        · have hk2 : k = 2 := by omega
          subst hk2
          have HBz := Lib.hid (HBB.out.trans (HB.out.mono HBB.out.size))
          go_wp2_with fail
          refine (HGD.out wo HBz.out).mono ?_
          rintro e w5 ⟨v5, G2, rfl, ho5, ht5, hok5, hcl5, hb5⟩
          obtain ⟨A9, n9, c9, rfl, HN9, hnc9, hcm9, HV9, HZ9⟩ := ownT_open ho5.out
          have HST := Lib.hid (rst_any (some ⟨bg, og, none⟩) G n7 c7 A9 G2 n9 c9 w5 HN7.out HN9.out (by omega) ((HVg.out.below HB.out).below hb5.out) HV9.out ((HKg.out.below HB.out).below hb5.out) hok5.out (HT.out.trans ht5.out.symm))
          have HB5 := Lib.hid (HBz.out.trans (hb5.out.mono HBz.out.size))
          clear ho5 hok5 hcl5 hb5
          go_wp2_with fail
          refine HST.out.mono ?_
          rintro e w6 ⟨rfl, hb6⟩
          have HB6 := Lib.hid (HB5.out.trans (hb6.out.mono HB5.out.size))
          clear hb6 HST
          go_wp2_with fail
          refine (lives6_any _).mono ?_
          rintro e wf ⟨rfl, hbf⟩
          have HBf := Lib.hid (HB6.out.trans (hbf.out.mono HB6.out.size))
          clear hbf
          go_wp2_with fail
          go_ret
          exact ⟨rfl, HBf.out⟩
    · obtain ⟨m, rfl⟩ : ∃ m : Nat, at_ = (m : Int) := ⟨at_.toNat, by omega⟩
      obtain ⟨jj, hjj, hjl⟩ : ∃ jj : Nat, (m : Int) % (n7 : Int) = (jj : Int) ∧ jj < n7 := ⟨m % n7, by omega, Nat.mod_lt _ hz⟩
      have hjl0 : jj < G.length := by rw [HN7.out]; exact hjl
      obtain ⟨Ag, cg, hvg, _, _, hrg, _⟩ := ownT_row FS.out.own
      injection hvg with hvg1 hvg2 hvg3
      subst hvg1
      clear hvg2 hvg3
      obtain ⟨bg, og, rfl, hcg⟩ := hrg (by intro e; rw [e] at hjl0; simp at hjl0)
      obtain ⟨cg0, _, _⟩ := hcg jj hjl0
      have hnz : G[jj].nm.size ≤ 140737488355328 := by have := (goodT_fit HG.out.1 _ (List.getElem_mem hjl0)).1; omega
      generalize G[jj].nm = nm at *
      clear hcg hrg
      have hjz : (jj : Int) < (n7 : Int) := by omega
      have FSp := Lib.hid (FS.out.puts hwl 1 (.string nm))
      obtain ⟨W3p, hW3p⟩ : ∃ W3p, W3.setCell ⟨w2.heap.size, 1, none⟩ (.string nm) = W3p := ⟨_, rfl⟩
      rw [hW3p] at FSp
      have FSp : Hid (FSt w G (.slice (some ⟨bg, og, none⟩) n7 c7) w2.heap.size #[.int .i64 ck, .string (forty tn), .slice A5 n5 c5, .int .i64 K4, .string (forty cn), .int .i64 kd, .bool no] #[.int .i64 ck, .string nm, .slice A5 n5 c5, .int .i64 K4, .string (forty cn), .int .i64 kd, .bool no] A5 n5 c5 (cutL L4) W3p) := FSp
      have zp2 : W3p.cell? ⟨w2.heap.size, 2, none⟩ = some (.slice A5 n5 c5) := FSp.out.db.cell 2
      have zp3 : W3p.cell? ⟨w2.heap.size, 3, none⟩ = some (.int .i64 K4) := FSp.out.db.cell 3
      have HG5 := Lib.hid (fun (W : World) (h : Hid (FSt w G (.slice (some ⟨bg, og, none⟩) n7 c7) w2.heap.size #[.int .i64 ck, .string (forty tn), .slice A5 n5 c5, .int .i64 K4, .string (forty cn), .int .i64 kd, .bool no] #[.int .i64 ck, .string nm, .slice A5 n5 c5, .int .i64 K4, .string (forty cn), .int .i64 kd, .bool no] A5 n5 c5 (cutL L4) W)) => rgood_any A5 (cutL L4) n5 c5 K4 W HN5.out hnc5 hcm5 (h.out.cut.row rfl) HFT.out hK4.1 hK4.2)
      go_wp2_with fail
      refine (HG5.out W3p FSp).mono ?_
      rintro e w4 ⟨v6, rfl, ho6, hb6⟩
      obtain ⟨A6, n6, c6, rfl, HN6, hnc6, hcm6, HV6, HZ6⟩ := ownC_open ho6.out
      have FS4 := Lib.hid (FSp.out.below hb6.out)
      have HO6 := Lib.hid ho6.out
      clear ho6 hb6 z0 z1 z2 z3 z4 z5 z6 fz0 fz1 fz2 fz3 fz4 fz5 fz6 y0 y1 y2 y3 y4 y5 y6
      have z0 : w4.cell? ⟨w2.heap.size, 0, none⟩ = some (.int .i64 ck) := FS4.out.db.cell 0
      have fz0 : w4.frozen? ⟨w2.heap.size, 0, none⟩ = false := FS4.out.db.free 0
      have z1 : w4.cell? ⟨w2.heap.size, 1, none⟩ = some (.string nm) := FS4.out.db.cell 1
      have fz1 : w4.frozen? ⟨w2.heap.size, 1, none⟩ = false := FS4.out.db.free 1
      have z2 : w4.cell? ⟨w2.heap.size, 2, none⟩ = some (.slice A5 n5 c5) := FS4.out.db.cell 2
      have fz2 : w4.frozen? ⟨w2.heap.size, 2, none⟩ = false := FS4.out.db.free 2
      have z3 : w4.cell? ⟨w2.heap.size, 3, none⟩ = some (.int .i64 K4) := FS4.out.db.cell 3
      have fz3 : w4.frozen? ⟨w2.heap.size, 3, none⟩ = false := FS4.out.db.free 3
      have z4 : w4.cell? ⟨w2.heap.size, 4, none⟩ = some (.string (forty cn)) := FS4.out.db.cell 4
      have fz4 : w4.frozen? ⟨w2.heap.size, 4, none⟩ = false := FS4.out.db.free 4
      have z5 : w4.cell? ⟨w2.heap.size, 5, none⟩ = some (.int .i64 kd) := FS4.out.db.cell 5
      have fz5 : w4.frozen? ⟨w2.heap.size, 5, none⟩ = false := FS4.out.db.free 5
      have z6 : w4.cell? ⟨w2.heap.size, 6, none⟩ = some (.bool no) := FS4.out.db.cell 6
      have fz6 : w4.frozen? ⟨w2.heap.size, 6, none⟩ = false := FS4.out.db.free 6
      have y0 : w4.cell? ⟨w.heap.size, 0, none⟩ = some (.int .i64 ck) := FS4.out.cb.cell 0
      have y1 : w4.cell? ⟨w.heap.size, 1, none⟩ = some (.string (forty tn)) := FS4.out.cb.cell 1
      have y2 : w4.cell? ⟨w.heap.size, 2, none⟩ = some (.slice A5 n5 c5) := FS4.out.cb.cell 2
      have y3 : w4.cell? ⟨w.heap.size, 3, none⟩ = some (.int .i64 K4) := FS4.out.cb.cell 3
      have y4 : w4.cell? ⟨w.heap.size, 4, none⟩ = some (.string (forty cn)) := FS4.out.cb.cell 4
      have y5 : w4.cell? ⟨w.heap.size, 5, none⟩ = some (.int .i64 kd) := FS4.out.cb.cell 5
      have y6 : w4.cell? ⟨w.heap.size, 6, none⟩ = some (.bool no) := FS4.out.cb.cell 6
      clear hW3 hW3p
      have hlt23 : w2.heap.size < W3p.heap.size := FSp.out.db.lt
      have hal : Below (((w4.setCell ⟨w2.heap.size, 2, none⟩ (.slice A6 n6 c6)).setCell ⟨w2.heap.size, 3, none⟩ (.int .i64 (gdK (cutL L4) K4)))).heap.size ((w4.setCell ⟨w2.heap.size, 2, none⟩ (.slice A6 n6 c6)).setCell ⟨w2.heap.size, 3, none⟩ (.int .i64 (gdK (cutL L4) K4))) (((w4.setCell ⟨w2.heap.size, 2, none⟩ (.slice A6 n6 c6)).setCell ⟨w2.heap.size, 3, none⟩ (.int .i64 (gdK (cutL L4) K4))).alloc (.cells #[.int .i64 ck, .string (forty tn), .slice A5 n5 c5, .int .i64 K4, .string (forty cn), .int .i64 kd, .bool no, .int .i64 ck, .string nm, .slice A6 n6 c6, .int .i64 (gdK (cutL L4) K4), .string (forty cn), .int .i64 kd, .bool no] 40)) := (Below.refl _ _).alloc (Nat.le_refl _) _
      have e4 : (((w4.setCell ⟨w2.heap.size, 2, none⟩ (.slice A6 n6 c6)).setCell ⟨w2.heap.size, 3, none⟩ (.int .i64 (gdK (cutL L4) K4)))).heap.size = w4.heap.size := by simp
      have FS5 := Lib.hid (((FS4.out.puts hwl 2 (.slice A6 n6 c6)).puts hwl 3 (.int .i64 (gdK (cutL L4) K4))).below hal)
      have HO6' := Lib.hid (((HO6.out.far (p := ⟨w2.heap.size, 2, none⟩) hlt23 (.slice A6 n6 c6)).far (p := ⟨w2.heap.size, 3, none⟩) hlt23 (.int .i64 (gdK (cutL L4) K4))).below hal)
      have hna := Has.new ((w4.setCell ⟨w2.heap.size, 2, none⟩ (.slice A6 n6 c6)).setCell ⟨w2.heap.size, 3, none⟩ (.int .i64 (gdK (cutL L4) K4))) 40 #[.int .i64 ck, .string (forty tn), .slice A5 n5 c5, .int .i64 K4, .string (forty cn), .int .i64 kd, .bool no, .int .i64 ck, .string nm, .slice A6 n6 c6, .int .i64 (gdK (cutL L4) K4), .string (forty cn), .int .i64 kd, .bool no]
      rw [e4] at hna
      have HAA := Lib.hid hna
      obtain ⟨wB, hwB⟩ : ∃ wB, ((w4.setCell ⟨w2.heap.size, 2, none⟩ (.slice A6 n6 c6)).setCell ⟨w2.heap.size, 3, none⟩ (.int .i64 (gdK (cutL L4) K4))).alloc (.cells #[.int .i64 ck, .string (forty tn), .slice A5 n5 c5, .int .i64 K4, .string (forty cn), .int .i64 kd, .bool no, .int .i64 ck, .string nm, .slice A6 n6 c6, .int .i64 (gdK (cutL L4) K4), .string (forty cn), .int .i64 kd, .bool no] 40) = wB := ⟨_, rfl⟩
      rw [hwB] at FS5 HO6' HAA
      clear hal e4 hna HO6 FS4 FSp
      go_wp2_with fail
      try rw [hwB]
      clear hwB z0 z1 z2 z3 z4 z5 z6 fz0 fz1 fz2 fz3 fz4 fz5 fz6 y0 y1 y2 y3 y4 y5 y6
      have HBB := Lib.hid FS5.out.bel
      have HKg := Lib.hid (FS5.out.oks HG.out.1)
      obtain ⟨Ag, cg, hvg, _, _, hrg, _⟩ := ownT_row FS5.out.own
      injection hvg with hvg1 hvg2 hvg3
      subst hvg1
      clear hvg2 hvg3
      have HVg := Lib.hid hrg
      have HXX : Hid (∀ k, k < 2 → ∃ (tk : ByteArray) (Ak : Option Addr) (nk ek : Nat) (Lk : List Cl) (Kk : Int), (wB.cell? ⟨w4.heap.size, k * 7, none⟩ = some (.int .i64 ck) ∧ wB.cell? ⟨w4.heap.size, k * 7 + 1, none⟩ = some (.string tk) ∧ wB.cell? ⟨w4.heap.size, k * 7 + 2, none⟩ = some (.slice Ak nk ek) ∧ wB.cell? ⟨w4.heap.size, k * 7 + 3, none⟩ = some (.int .i64 Kk) ∧ wB.cell? ⟨w4.heap.size, k * 7 + 4, none⟩ = some (.string (forty cn)) ∧ wB.cell? ⟨w4.heap.size, k * 7 + 5, none⟩ = some (.int .i64 kd) ∧ wB.cell? ⟨w4.heap.size, k * 7 + 6, none⟩ = some (.bool no)) ∧ Lk.length = nk ∧ nk ≤ ek ∧ ek ≤ maxLen ∧ CRow wB Ak Lk ∧ (Ak = none → ek = 0) ∧ tk.size ≤ 140737488355328 ∧ ∀ y ∈ Lk, y.fit) := fun k hk => by
        have hk2 : k = 0 ∨ k = 1 := by omega
        rcases hk2 with rfl | rfl
        · exact ⟨_, _, _, _, cutL L4, _, ⟨HAA.out.cell (0 * 7), HAA.out.cell (0 * 7 + 1), HAA.out.cell (0 * 7 + 2), HAA.out.cell (0 * 7 + 3), HAA.out.cell (0 * 7 + 4), HAA.out.cell (0 * 7 + 5), HAA.out.cell (0 * 7 + 6)⟩, HN5.out, hnc5, hcm5, FS5.out.cut.row rfl, HZ5.out, by have := forty_size tn; omega, HFT.out⟩
        · exact ⟨_, _, _, _, gdC (cutL L4) K4, _, ⟨HAA.out.cell (1 * 7), HAA.out.cell (1 * 7 + 1), HAA.out.cell (1 * 7 + 2), HAA.out.cell (1 * 7 + 3), HAA.out.cell (1 * 7 + 4), HAA.out.cell (1 * 7 + 5), HAA.out.cell (1 * 7 + 6)⟩, HN6.out, hnc6, hcm6, HO6'.out.row rfl, HZ6.out, hnz, fun y hy => (goodS_fit _ _ (goodS_is (cutL L4) K4) y hy).2.2.2⟩
      obtain ⟨ga, hga⟩ : ∃ ga, w4.heap.size = ga := ⟨_, rfl⟩
      rw [hga] at HXX ⊢
      clear hga HAA HO6' FS5 hrg
      have hS := Lib.hid (goodT_sort HG.out.1)
      have hsm : ∀ x ∈ G, 0 < x.L.length ∧ x.L.length ≤ 800 := fun x hx => by
        obtain ⟨_, k, _, h2⟩ := goodT_ok HG.out.1 x hx
        have := h2.len
        omega
      have HSM := Lib.hid hsm
      have hcn9 : (forty cn).size ≤ 140737488355328 := by have := forty_size cn; omega
      clear hsm
      go_loopw [10] (fun i wr => ∃ k : Nat, k ≤ 2 ∧ i = .int .i64 k ∧ Hid (Below wB.heap.size wB wr)) (fun i _ => 2 - (intOf i).toNat)
      case atStart => exact ⟨0, by omega, rfl, Below.refl _ _⟩
      case round =>
        obtain ⟨k, hk, rfl, HB⟩ := hrel
        obtain ⟨wo, rfl⟩ : ∃ wo : World, wo = wr := ⟨_, rfl⟩
        by_cases hlt : k < 2
        · have hkz : (k : Int) < 2 := by omega
          obtain ⟨tk, Ak, nk, ek, Lk, Kk, ⟨q0, q1, q2, q3, q4, q5, q6⟩, hlk, hck, hmk, hrk, hzk, htk, hfk⟩ := HXX.out k hlt
          have HPF := Lib.hid (pfollow_any (some ⟨bg, og, none⟩) G n7 c7 ck tk Ak nk ek Lk Kk (forty cn) kd no wo HN7.out hnc7 hcm7 (by omega) (HVg.out.below HB.out) HZ7.out (HKg.out.below HB.out) hS.out HSM.out hlk hck hmk (hrk.below HB.out) hzk htk hcn9 hfk)
          have HRF := Lib.hid (fun (W : World) (hb : Below wB.heap.size wB W) => rfollow_any (some ⟨bg, og, none⟩) G n7 c7 ck tk Ak nk ek Lk Kk (forty cn) kd no W HN7.out hnc7 hcm7 (by omega) (HVg.out.below hb) HZ7.out (HKg.out.below hb) hS.out HSM.out hlk hck hmk (hrk.below hb) hzk)
          have s0 := keepC HB.out q0
          have s1 := keepC HB.out q1
          have s2 := keepC HB.out q2
          have s3 := keepC HB.out q3
          have s4 := keepC HB.out q4
          have s5 := keepC HB.out q5
          have s6 := keepC HB.out q6
          clear q0 q1 q2 q3 q4 q5 q6 hrk
          go_wp2_with fail
          refine HPF.out.mono ?_
          rintro e w5 ⟨v3, T3, rfl, ho3, ht3, hb3⟩
          obtain ⟨A3, n3, c3, rfl, HN3, hnc3, hcm3, HV3, HZ3⟩ := ownT_open ho3.out.own
          have HB3 := Lib.hid (HB.out.trans (hb3.out.mono HB.out.size))
          have r0 := keepC hb3.out s0
          have r1 := keepC hb3.out s1
          have r2 := keepC hb3.out s2
          have r3 := keepC hb3.out s3
          have r4 := keepC hb3.out s4
          have r5 := keepC hb3.out s5
          have r6 := keepC hb3.out s6
          have HO3 := Lib.hid ho3.out
          have HT3 := Lib.hid ht3.out
          have HR3 := Lib.hid hb3.out
          clear ho3 hb3 ht3 s0 s1 s2 s3 s4 s5 s6 HPF
          go_wp2_with fail
          refine (HRF.out w5 HB3.out).mono ?_
          rintro e w6 ⟨v4, T4, rfl, ho4, hok4, ht4, hb4⟩
          obtain ⟨A8, n8, c8, rfl, HN8, hnc8, hcm8, HV8, HZ8⟩ := ownT_open ho4.out
          have htd : tds T3 = tds T4 := HT3.out.trans ht4.out.symm
          have HB4 := Lib.hid (HB3.out.trans (hb4.out.mono HB3.out.size))
          have HR4 := Lib.hid (HR3.out.trans (hb4.out.mono HR3.out.size))
          have HO4 : Hid (OwnTs wo.heap.size w6 (.slice A3 n3 c3) T3) := HO3.out.below hb4.out
          have hl3 : ∀ x ∈ T3, x.L.length ≤ 900 := fun x hx => by
            have h1 : x.td ∈ tds T4 := by rw [← htd]; exact List.mem_map_of_mem hx
            obtain ⟨y, hy, he⟩ := List.mem_map.1 h1
            have h2 := hok4.out y hy
            have h3 : y.L = x.L := congrArg Td.L he
            have h4 := h2.len
            have h5 := h2.few
            rw [← h3]; omega
          have HK3 := Lib.hid (HO4.out.oks hl3)
          obtain ⟨E, hE⟩ : ∃ E, foE G ck tk Lk Kk (forty cn) kd no = E := ⟨_, rfl⟩
          have hE4 : n3 ≤ 4 ∧ (E = 0 → rightF T3 = true ∧ ∀ x ∈ T3, x.nm.size ≤ 140737488355328 ∧ ∀ y ∈ x.L, y.fit) := by
            by_cases h0 : E = 0
            · have h := follow_right HG.out.1 (by have := HG.out.2; rw [tds_len] at this; exact this) (hE.trans h0) HT3.out
              exact ⟨by have := HN3.out; omega, fun _ => h.1⟩
            · have h := HT3.out
              rw [foD_bad (by rw [hE]; exact h0)] at h
              have h3 : T3 = [] := List.map_eq_nil_iff.1 h
              have := HN3.out
              rw [h3] at this
              exact ⟨by simp at this; omega, fun h => absurd h h0⟩
          have HST := Lib.hid (rst_any A3 T3 n3 c3 A8 T4 n8 c8 w6 HN3.out HN8.out (by omega) (HV3.out.below hb4.out) HV8.out HK3.out hok4.out htd)
          have HPR := Lib.hid (fun (W : World) (hb : Below w6.heap.size w6 W) (h0 : E = 0) => pright_any A3 T3 n3 c3 W HN3.out (by omega) ((HV3.out.below hb4.out).below hb) ((HK3.out.below hb).tin) (hE4.2 h0).2)
          have HRT := Lib.hid hE4.2
          have h34 := hE4.1
          rw [hE]
          clear hE ho4 hok4 ht4 hb4 htd hl3 hE4 HRF r0 r1 r2 r3 r4 r5 r6 HO3 HV3
          go_wp2_with fail
          refine HST.out.mono ?_
          rintro e w7 ⟨rfl, hb7⟩
          have HB7 := Lib.hid (HB4.out.trans (hb7.out.mono HB4.out.size))
          have HR7 := Lib.hid (HR4.out.trans (hb7.out.mono HR4.out.size))
          have HO7 := Lib.hid (HO4.out.below hb7.out)
          have HP7 := Lib.hid (fun h0 => HPR.out w7 hb7.out h0)
          clear hb7 HST HPR
          by_cases h0 : E = 0
          · subst h0
            have HP8 := Lib.hid (HP7.out rfl)
            rw [(HRT.out rfl).1] at HP8
            go_wp2_with fail
            refine HP8.out.mono ?_
            rintro e w8 ⟨rfl, hb8⟩
            have HB8 := Lib.hid (HB7.out.trans (hb8.out.mono HB7.out.size))
            have HR8 := Lib.hid (HR7.out.trans (hb8.out.mono HR7.out.size))
            have HS8 := Lib.hid ((HO7.out.below hb8.out).sp)
            clear hb8 HP8 HP7
            go_wp2_with fail
            go_loopw [15] (fun i wz => ∃ kk : Nat, kk ≤ n3 ∧ i = .int .i64 kk ∧ Hid (Sp wo.heap.size wz (.slice A3 n3 c3) T3) ∧ Hid (Below wo.heap.size wo wz)) (fun i _ => n3 - (intOf i).toNat)
            case atStart => exact ⟨0, by omega, rfl, HS8, HR8⟩
            case round =>
              obtain ⟨kk, hkk, rfl, HSk, HRk⟩ := hrel
              clear HS8 HR8 HB8 HB7 HR7 HO7
              by_cases hl3 : kk < n3
              · have hkk3 : kk < T3.length := by rw [HN3.out]; exact hl3
                obtain ⟨y, hy⟩ : ∃ y, T3[kk] = y := ⟨_, rfl⟩
                have hym : y ∈ T3 := by rw [← hy]; exact List.getElem_mem hkk3
                obtain ⟨b3, o3, rfl, HCL⟩ := HSk.out.cell hkk3
                rw [hy] at HCL
                have HCL := Lib.hid HCL
                have hy9 := (HK3.out y hym).few
                clear hy
                obtain ⟨ys, yA, yn, yc, yL, yK⟩ := y
                simp only at hy9
                have hkkz : (kk : Int) < (n3 : Int) := by omega
                go_wp2_with fail
                go_loopw [16] (fun i wz => ∃ j : Nat, j ≤ yn ∧ i = .int .i64 j ∧ Hid (Sp wo.heap.size wz (.slice (some ⟨b3, o3, none⟩) n3 c3) T3) ∧ Hid (Below wo.heap.size wo wz)) (fun i _ => yn - (intOf i).toNat)
                case atStart => exact ⟨0, by omega, rfl, HSk, HRk⟩
                case round =>
                  obtain ⟨j, hj, rfl, HSj, HRj⟩ := hrel
                  have r1 : wr.cell? ⟨b3, o3 + kk * 3 + 1, none⟩ = some (.slice yA yn yc) := HCL.out wr HSj.out
                  by_cases hjl : j < yn
                  · have hjz : (j : Int) < (yn : Int) := by omega
                    rcases HSj.out.col _ hym with h0 | ⟨gy, cur, hA, hgy, hh, hs⟩
                    · exfalso
                      simp only at h0
                      omega
                    · simp only at hA hs
                      subst hA
                      have hcell : ∃ u, wr.cell? ⟨gy, j * 3, none⟩ = some u := ⟨cur[j * 3]'(by omega), by rw [Has.cell (t := 38) (cs := cur) hh]; exact Array.getElem?_eq_getElem (by omega)⟩
                      obtain ⟨u, hu⟩ := hcell
                      have hfz : wr.frozen? ⟨gy, j * 3, none⟩ = false := Has.free (t := 38) (cs := cur) hh _
                      have HS2 := Lib.hid (HSj.out.set hh (j * 3) (.string ⟨#[115, 112, 111, 105, 108, 101, 100]⟩))
                      have HR2 := Lib.hid (HRj.out.setCell (p := ⟨gy, j * 3, none⟩) hgy (.string ⟨#[115, 112, 111, 105, 108, 101, 100]⟩))
                      clear hh hs hgy
                      go_wp2_with fail
                      go_roundw
                      case rel => exact ⟨j + 1, by omega, by go_num, HS2, HR2⟩
                      case measure => simp [intOf]; omega
                  · obtain rfl : j = yn := by omega
                    have hjz : ¬ (j : Int) < (j : Int) := by omega
                    go_wp2_with fail
                    go_roundw
                    case rel => exact ⟨kk + 1, by omega, by go_num, HSj, HRj⟩
                    case measure => simp [intOf]; omega
              · obtain rfl : kk = n3 := by omega
                have hkkz : ¬ (kk : Int) < (kk : Int) := by omega
                have HBz := Lib.hid (HB.out.trans (HRk.out.mono HB.out.size))
                go_wp2_with fail
                go_roundw
                case rel => exact ⟨k + 1, by omega, by go_num, HBz⟩
                case measure => simp [intOf]; omega
          · have HB8 := HB7
            have HR8 := HR7
            have HS8 := Lib.hid (HO7.out.sp)
            obtain ⟨w8, hw8⟩ : ∃ w8, w7 = w8 := ⟨_, rfl⟩
            subst hw8
            clear HP7
            go_wp2_with fail
            go_loopw [15] (fun i wz => ∃ kk : Nat, kk ≤ n3 ∧ i = .int .i64 kk ∧ Hid (Sp wo.heap.size wz (.slice A3 n3 c3) T3) ∧ Hid (Below wo.heap.size wo wz)) (fun i _ => n3 - (intOf i).toNat)
            case atStart => exact ⟨0, by omega, rfl, HS8, HR8⟩
            case round =>
              obtain ⟨kk, hkk, rfl, HSk, HRk⟩ := hrel
              clear HS8 HR8 HB8 HB7 HR7 HO7
              by_cases hl3 : kk < n3
              · have hkk3 : kk < T3.length := by rw [HN3.out]; exact hl3
                obtain ⟨y, hy⟩ : ∃ y, T3[kk] = y := ⟨_, rfl⟩
                have hym : y ∈ T3 := by rw [← hy]; exact List.getElem_mem hkk3
                obtain ⟨b3, o3, rfl, HCL⟩ := HSk.out.cell hkk3
                rw [hy] at HCL
                have HCL := Lib.hid HCL
                have hy9 := (HK3.out y hym).few
                clear hy
                obtain ⟨ys, yA, yn, yc, yL, yK⟩ := y
                simp only at hy9
                have hkkz : (kk : Int) < (n3 : Int) := by omega
                go_wp2_with fail
                go_loopw [16] (fun i wz => ∃ j : Nat, j ≤ yn ∧ i = .int .i64 j ∧ Hid (Sp wo.heap.size wz (.slice (some ⟨b3, o3, none⟩) n3 c3) T3) ∧ Hid (Below wo.heap.size wo wz)) (fun i _ => yn - (intOf i).toNat)
                case atStart => exact ⟨0, by omega, rfl, HSk, HRk⟩
                case round =>
                  obtain ⟨j, hj, rfl, HSj, HRj⟩ := hrel
                  have r1 : wr.cell? ⟨b3, o3 + kk * 3 + 1, none⟩ = some (.slice yA yn yc) := HCL.out wr HSj.out
                  by_cases hjl : j < yn
                  · have hjz : (j : Int) < (yn : Int) := by omega
                    rcases HSj.out.col _ hym with h0 | ⟨gy, cur, hA, hgy, hh, hs⟩
                    · exfalso
                      simp only at h0
                      omega
                    · simp only at hA hs
                      subst hA
                      have hcell : ∃ u, wr.cell? ⟨gy, j * 3, none⟩ = some u := ⟨cur[j * 3]'(by omega), by rw [Has.cell (t := 38) (cs := cur) hh]; exact Array.getElem?_eq_getElem (by omega)⟩
                      obtain ⟨u, hu⟩ := hcell
                      have hfz : wr.frozen? ⟨gy, j * 3, none⟩ = false := Has.free (t := 38) (cs := cur) hh _
                      have HS2 := Lib.hid (HSj.out.set hh (j * 3) (.string ⟨#[115, 112, 111, 105, 108, 101, 100]⟩))
                      have HR2 := Lib.hid (HRj.out.setCell (p := ⟨gy, j * 3, none⟩) hgy (.string ⟨#[115, 112, 111, 105, 108, 101, 100]⟩))
                      clear hh hs hgy
                      go_wp2_with fail
                      go_roundw
                      case rel => exact ⟨j + 1, by omega, by go_num, HS2, HR2⟩
                      case measure => simp [intOf]; omega
                  · obtain rfl : j = yn := by omega
                    have hjz : ¬ (j : Int) < (j : Int) := by omega
                    go_wp2_with fail
                    go_roundw
                    case rel => exact ⟨kk + 1, by omega, by go_num, HSj, HRj⟩
                    case measure => simp [intOf]; omega
              · obtain rfl : kk = n3 := by omega
                have hkkz : ¬ (kk : Int) < (kk : Int) := by omega
                have HBz := Lib.hid (HB.out.trans (HRk.out.mono HB.out.size))
                go_wp2_with fail
                go_roundw
                case rel => exact ⟨k + 1, by omega, by go_num, HBz⟩
                case measure => simp [intOf]; omega
        · have hk2 : k = 2 := by omega
          subst hk2
          have HBz := Lib.hid (HBB.out.trans (HB.out.mono HBB.out.size))
          go_wp2_with fail
          refine (HGD.out wo HBz.out).mono ?_
          rintro e w5 ⟨v5, G2, rfl, ho5, ht5, hok5, hcl5, hb5⟩
          obtain ⟨A9, n9, c9, rfl, HN9, hnc9, hcm9, HV9, HZ9⟩ := ownT_open ho5.out
          have HST := Lib.hid (rst_any (some ⟨bg, og, none⟩) G n7 c7 A9 G2 n9 c9 w5 HN7.out HN9.out (by omega) ((HVg.out.below HB.out).below hb5.out) HV9.out ((HKg.out.below HB.out).below hb5.out) hok5.out (HT.out.trans ht5.out.symm))
          have HB5 := Lib.hid (HBz.out.trans (hb5.out.mono HBz.out.size))
          clear ho5 hok5 hcl5 hb5
          go_wp2_with fail
          refine HST.out.mono ?_
          rintro e w6 ⟨rfl, hb6⟩
          have HB6 := Lib.hid (HB5.out.trans (hb6.out.mono HB5.out.size))
          clear hb6 HST
          go_wp2_with fail
          refine (lives6_any _).mono ?_
          rintro e wf ⟨rfl, hbf⟩
          have HBf := Lib.hid (HB6.out.trans (hbf.out.mono HB6.out.size))
          clear hbf
          go_wp2_with fail
          go_ret
          exact ⟨rfl, HBf.out⟩
  · have hz0 : ¬ (0 : Int) < (n7 : Int) := by omega
    have HG5 := Lib.hid (fun (W : World) (h : Hid (FSt w G (.slice A7 n7 c7) w2.heap.size #[.int .i64 ck, .string (forty tn), .slice A5 n5 c5, .int .i64 K4, .string (forty cn), .int .i64 kd, .bool no] #[.int .i64 ck, .string (forty tn), .slice A5 n5 c5, .int .i64 K4, .string (forty cn), .int .i64 kd, .bool no] A5 n5 c5 (cutL L4) W)) => rgood_any A5 (cutL L4) n5 c5 K4 W HN5.out hnc5 hcm5 (h.out.cut.row rfl) HFT.out hK4.1 hK4.2)
    go_wp2_with fail
    refine (HG5.out W3 FS).mono ?_
    rintro e w4 ⟨v6, rfl, ho6, hb6⟩
    obtain ⟨A6, n6, c6, rfl, HN6, hnc6, hcm6, HV6, HZ6⟩ := ownC_open ho6.out
    have FS4 := Lib.hid (FS.out.below hb6.out)
    have HO6 := Lib.hid ho6.out
    clear ho6 hb6 z0 z1 z2 z3 z4 z5 z6 fz0 fz1 fz2 fz3 fz4 fz5 fz6 y0 y1 y2 y3 y4 y5 y6
    have z0 : w4.cell? ⟨w2.heap.size, 0, none⟩ = some (.int .i64 ck) := FS4.out.db.cell 0
    have fz0 : w4.frozen? ⟨w2.heap.size, 0, none⟩ = false := FS4.out.db.free 0
    have z1 : w4.cell? ⟨w2.heap.size, 1, none⟩ = some (.string (forty tn)) := FS4.out.db.cell 1
    have fz1 : w4.frozen? ⟨w2.heap.size, 1, none⟩ = false := FS4.out.db.free 1
    have z2 : w4.cell? ⟨w2.heap.size, 2, none⟩ = some (.slice A5 n5 c5) := FS4.out.db.cell 2
    have fz2 : w4.frozen? ⟨w2.heap.size, 2, none⟩ = false := FS4.out.db.free 2
    have z3 : w4.cell? ⟨w2.heap.size, 3, none⟩ = some (.int .i64 K4) := FS4.out.db.cell 3
    have fz3 : w4.frozen? ⟨w2.heap.size, 3, none⟩ = false := FS4.out.db.free 3
    have z4 : w4.cell? ⟨w2.heap.size, 4, none⟩ = some (.string (forty cn)) := FS4.out.db.cell 4
    have fz4 : w4.frozen? ⟨w2.heap.size, 4, none⟩ = false := FS4.out.db.free 4
    have z5 : w4.cell? ⟨w2.heap.size, 5, none⟩ = some (.int .i64 kd) := FS4.out.db.cell 5
    have fz5 : w4.frozen? ⟨w2.heap.size, 5, none⟩ = false := FS4.out.db.free 5
    have z6 : w4.cell? ⟨w2.heap.size, 6, none⟩ = some (.bool no) := FS4.out.db.cell 6
    have fz6 : w4.frozen? ⟨w2.heap.size, 6, none⟩ = false := FS4.out.db.free 6
    have y0 : w4.cell? ⟨w.heap.size, 0, none⟩ = some (.int .i64 ck) := FS4.out.cb.cell 0
    have y1 : w4.cell? ⟨w.heap.size, 1, none⟩ = some (.string (forty tn)) := FS4.out.cb.cell 1
    have y2 : w4.cell? ⟨w.heap.size, 2, none⟩ = some (.slice A5 n5 c5) := FS4.out.cb.cell 2
    have y3 : w4.cell? ⟨w.heap.size, 3, none⟩ = some (.int .i64 K4) := FS4.out.cb.cell 3
    have y4 : w4.cell? ⟨w.heap.size, 4, none⟩ = some (.string (forty cn)) := FS4.out.cb.cell 4
    have y5 : w4.cell? ⟨w.heap.size, 5, none⟩ = some (.int .i64 kd) := FS4.out.cb.cell 5
    have y6 : w4.cell? ⟨w.heap.size, 6, none⟩ = some (.bool no) := FS4.out.cb.cell 6
    clear hW3
    have hlt23 : w2.heap.size < W3.heap.size := FS.out.db.lt
    have hal : Below (((w4.setCell ⟨w2.heap.size, 2, none⟩ (.slice A6 n6 c6)).setCell ⟨w2.heap.size, 3, none⟩ (.int .i64 (gdK (cutL L4) K4)))).heap.size ((w4.setCell ⟨w2.heap.size, 2, none⟩ (.slice A6 n6 c6)).setCell ⟨w2.heap.size, 3, none⟩ (.int .i64 (gdK (cutL L4) K4))) (((w4.setCell ⟨w2.heap.size, 2, none⟩ (.slice A6 n6 c6)).setCell ⟨w2.heap.size, 3, none⟩ (.int .i64 (gdK (cutL L4) K4))).alloc (.cells #[.int .i64 ck, .string (forty tn), .slice A5 n5 c5, .int .i64 K4, .string (forty cn), .int .i64 kd, .bool no, .int .i64 ck, .string (forty tn), .slice A6 n6 c6, .int .i64 (gdK (cutL L4) K4), .string (forty cn), .int .i64 kd, .bool no] 40)) := (Below.refl _ _).alloc (Nat.le_refl _) _
    have e4 : (((w4.setCell ⟨w2.heap.size, 2, none⟩ (.slice A6 n6 c6)).setCell ⟨w2.heap.size, 3, none⟩ (.int .i64 (gdK (cutL L4) K4)))).heap.size = w4.heap.size := by simp
    have FS5 := Lib.hid (((FS4.out.puts hwl 2 (.slice A6 n6 c6)).puts hwl 3 (.int .i64 (gdK (cutL L4) K4))).below hal)
    have HO6' := Lib.hid (((HO6.out.far (p := ⟨w2.heap.size, 2, none⟩) hlt23 (.slice A6 n6 c6)).far (p := ⟨w2.heap.size, 3, none⟩) hlt23 (.int .i64 (gdK (cutL L4) K4))).below hal)
    have hna := Has.new ((w4.setCell ⟨w2.heap.size, 2, none⟩ (.slice A6 n6 c6)).setCell ⟨w2.heap.size, 3, none⟩ (.int .i64 (gdK (cutL L4) K4))) 40 #[.int .i64 ck, .string (forty tn), .slice A5 n5 c5, .int .i64 K4, .string (forty cn), .int .i64 kd, .bool no, .int .i64 ck, .string (forty tn), .slice A6 n6 c6, .int .i64 (gdK (cutL L4) K4), .string (forty cn), .int .i64 kd, .bool no]
    rw [e4] at hna
    have HAA := Lib.hid hna
    obtain ⟨wB, hwB⟩ : ∃ wB, ((w4.setCell ⟨w2.heap.size, 2, none⟩ (.slice A6 n6 c6)).setCell ⟨w2.heap.size, 3, none⟩ (.int .i64 (gdK (cutL L4) K4))).alloc (.cells #[.int .i64 ck, .string (forty tn), .slice A5 n5 c5, .int .i64 K4, .string (forty cn), .int .i64 kd, .bool no, .int .i64 ck, .string (forty tn), .slice A6 n6 c6, .int .i64 (gdK (cutL L4) K4), .string (forty cn), .int .i64 kd, .bool no] 40) = wB := ⟨_, rfl⟩
    rw [hwB] at FS5 HO6' HAA
    clear hal e4 hna HO6 FS4 FS
    go_wp2_with fail
    try rw [hwB]
    clear hwB z0 z1 z2 z3 z4 z5 z6 fz0 fz1 fz2 fz3 fz4 fz5 fz6 y0 y1 y2 y3 y4 y5 y6
    have HBB := Lib.hid FS5.out.bel
    have HKg := Lib.hid (FS5.out.oks HG.out.1)
    obtain ⟨Ag, cg, hvg, _, _, hrg, _⟩ := ownT_row FS5.out.own
    injection hvg with hvg1 hvg2 hvg3
    subst hvg1
    clear hvg2 hvg3
    have HVg := Lib.hid hrg
    have HXX : Hid (∀ k, k < 2 → ∃ (tk : ByteArray) (Ak : Option Addr) (nk ek : Nat) (Lk : List Cl) (Kk : Int), (wB.cell? ⟨w4.heap.size, k * 7, none⟩ = some (.int .i64 ck) ∧ wB.cell? ⟨w4.heap.size, k * 7 + 1, none⟩ = some (.string tk) ∧ wB.cell? ⟨w4.heap.size, k * 7 + 2, none⟩ = some (.slice Ak nk ek) ∧ wB.cell? ⟨w4.heap.size, k * 7 + 3, none⟩ = some (.int .i64 Kk) ∧ wB.cell? ⟨w4.heap.size, k * 7 + 4, none⟩ = some (.string (forty cn)) ∧ wB.cell? ⟨w4.heap.size, k * 7 + 5, none⟩ = some (.int .i64 kd) ∧ wB.cell? ⟨w4.heap.size, k * 7 + 6, none⟩ = some (.bool no)) ∧ Lk.length = nk ∧ nk ≤ ek ∧ ek ≤ maxLen ∧ CRow wB Ak Lk ∧ (Ak = none → ek = 0) ∧ tk.size ≤ 140737488355328 ∧ ∀ y ∈ Lk, y.fit) := fun k hk => by
      have hk2 : k = 0 ∨ k = 1 := by omega
      rcases hk2 with rfl | rfl
      · exact ⟨_, _, _, _, cutL L4, _, ⟨HAA.out.cell (0 * 7), HAA.out.cell (0 * 7 + 1), HAA.out.cell (0 * 7 + 2), HAA.out.cell (0 * 7 + 3), HAA.out.cell (0 * 7 + 4), HAA.out.cell (0 * 7 + 5), HAA.out.cell (0 * 7 + 6)⟩, HN5.out, hnc5, hcm5, FS5.out.cut.row rfl, HZ5.out, by have := forty_size tn; omega, HFT.out⟩
      · exact ⟨_, _, _, _, gdC (cutL L4) K4, _, ⟨HAA.out.cell (1 * 7), HAA.out.cell (1 * 7 + 1), HAA.out.cell (1 * 7 + 2), HAA.out.cell (1 * 7 + 3), HAA.out.cell (1 * 7 + 4), HAA.out.cell (1 * 7 + 5), HAA.out.cell (1 * 7 + 6)⟩, HN6.out, hnc6, hcm6, HO6'.out.row rfl, HZ6.out, by have := forty_size tn; omega, fun y hy => (goodS_fit _ _ (goodS_is (cutL L4) K4) y hy).2.2.2⟩
    obtain ⟨ga, hga⟩ : ∃ ga, w4.heap.size = ga := ⟨_, rfl⟩
    rw [hga] at HXX ⊢
    clear hga HAA HO6' FS5 hrg
    have hS := Lib.hid (goodT_sort HG.out.1)
    have hsm : ∀ x ∈ G, 0 < x.L.length ∧ x.L.length ≤ 800 := fun x hx => by
      obtain ⟨_, k, _, h2⟩ := goodT_ok HG.out.1 x hx
      have := h2.len
      omega
    have HSM := Lib.hid hsm
    have hcn9 : (forty cn).size ≤ 140737488355328 := by have := forty_size cn; omega
    clear hsm
    go_loopw [10] (fun i wr => ∃ k : Nat, k ≤ 2 ∧ i = .int .i64 k ∧ Hid (Below wB.heap.size wB wr)) (fun i _ => 2 - (intOf i).toNat)
    case atStart => exact ⟨0, by omega, rfl, Below.refl _ _⟩
    case round =>
      obtain ⟨k, hk, rfl, HB⟩ := hrel
      obtain ⟨wo, rfl⟩ : ∃ wo : World, wo = wr := ⟨_, rfl⟩
      by_cases hlt : k < 2
      · have hkz : (k : Int) < 2 := by omega
        obtain ⟨tk, Ak, nk, ek, Lk, Kk, ⟨q0, q1, q2, q3, q4, q5, q6⟩, hlk, hck, hmk, hrk, hzk, htk, hfk⟩ := HXX.out k hlt
        have HPF := Lib.hid (pfollow_any A7 G n7 c7 ck tk Ak nk ek Lk Kk (forty cn) kd no wo HN7.out hnc7 hcm7 (by omega) (HVg.out.below HB.out) HZ7.out (HKg.out.below HB.out) hS.out HSM.out hlk hck hmk (hrk.below HB.out) hzk htk hcn9 hfk)
        have HRF := Lib.hid (fun (W : World) (hb : Below wB.heap.size wB W) => rfollow_any A7 G n7 c7 ck tk Ak nk ek Lk Kk (forty cn) kd no W HN7.out hnc7 hcm7 (by omega) (HVg.out.below hb) HZ7.out (HKg.out.below hb) hS.out HSM.out hlk hck hmk (hrk.below hb) hzk)
        have s0 := keepC HB.out q0
        have s1 := keepC HB.out q1
        have s2 := keepC HB.out q2
        have s3 := keepC HB.out q3
        have s4 := keepC HB.out q4
        have s5 := keepC HB.out q5
        have s6 := keepC HB.out q6
        clear q0 q1 q2 q3 q4 q5 q6 hrk
        go_wp2_with fail
        refine HPF.out.mono ?_
        rintro e w5 ⟨v3, T3, rfl, ho3, ht3, hb3⟩
        obtain ⟨A3, n3, c3, rfl, HN3, hnc3, hcm3, HV3, HZ3⟩ := ownT_open ho3.out.own
        have HB3 := Lib.hid (HB.out.trans (hb3.out.mono HB.out.size))
        have r0 := keepC hb3.out s0
        have r1 := keepC hb3.out s1
        have r2 := keepC hb3.out s2
        have r3 := keepC hb3.out s3
        have r4 := keepC hb3.out s4
        have r5 := keepC hb3.out s5
        have r6 := keepC hb3.out s6
        have HO3 := Lib.hid ho3.out
        have HT3 := Lib.hid ht3.out
        have HR3 := Lib.hid hb3.out
        clear ho3 hb3 ht3 s0 s1 s2 s3 s4 s5 s6 HPF
        go_wp2_with fail
        refine (HRF.out w5 HB3.out).mono ?_
        rintro e w6 ⟨v4, T4, rfl, ho4, hok4, ht4, hb4⟩
        obtain ⟨A8, n8, c8, rfl, HN8, hnc8, hcm8, HV8, HZ8⟩ := ownT_open ho4.out
        have htd : tds T3 = tds T4 := HT3.out.trans ht4.out.symm
        have HB4 := Lib.hid (HB3.out.trans (hb4.out.mono HB3.out.size))
        have HR4 := Lib.hid (HR3.out.trans (hb4.out.mono HR3.out.size))
        have HO4 : Hid (OwnTs wo.heap.size w6 (.slice A3 n3 c3) T3) := HO3.out.below hb4.out
        have hl3 : ∀ x ∈ T3, x.L.length ≤ 900 := fun x hx => by
          have h1 : x.td ∈ tds T4 := by rw [← htd]; exact List.mem_map_of_mem hx
          obtain ⟨y, hy, he⟩ := List.mem_map.1 h1
          have h2 := hok4.out y hy
          have h3 : y.L = x.L := congrArg Td.L he
          have h4 := h2.len
          have h5 := h2.few
          rw [← h3]; omega
        have HK3 := Lib.hid (HO4.out.oks hl3)
        obtain ⟨E, hE⟩ : ∃ E, foE G ck tk Lk Kk (forty cn) kd no = E := ⟨_, rfl⟩
        have hE4 : n3 ≤ 4 ∧ (E = 0 → rightF T3 = true ∧ ∀ x ∈ T3, x.nm.size ≤ 140737488355328 ∧ ∀ y ∈ x.L, y.fit) := by
          by_cases h0 : E = 0
          · have h := follow_right HG.out.1 (by have := HG.out.2; rw [tds_len] at this; exact this) (hE.trans h0) HT3.out
            exact ⟨by have := HN3.out; omega, fun _ => h.1⟩
          · have h := HT3.out
            rw [foD_bad (by rw [hE]; exact h0)] at h
            have h3 : T3 = [] := List.map_eq_nil_iff.1 h
            have := HN3.out
            rw [h3] at this
            exact ⟨by simp at this; omega, fun h => absurd h h0⟩
        have HST := Lib.hid (rst_any A3 T3 n3 c3 A8 T4 n8 c8 w6 HN3.out HN8.out (by omega) (HV3.out.below hb4.out) HV8.out HK3.out hok4.out htd)
        have HPR := Lib.hid (fun (W : World) (hb : Below w6.heap.size w6 W) (h0 : E = 0) => pright_any A3 T3 n3 c3 W HN3.out (by omega) ((HV3.out.below hb4.out).below hb) ((HK3.out.below hb).tin) (hE4.2 h0).2)
        have HRT := Lib.hid hE4.2
        have h34 := hE4.1
        rw [hE]
        clear hE ho4 hok4 ht4 hb4 htd hl3 hE4 HRF r0 r1 r2 r3 r4 r5 r6 HO3 HV3
        go_wp2_with fail
        refine HST.out.mono ?_
        rintro e w7 ⟨rfl, hb7⟩
        have HB7 := Lib.hid (HB4.out.trans (hb7.out.mono HB4.out.size))
        have HR7 := Lib.hid (HR4.out.trans (hb7.out.mono HR4.out.size))
        have HO7 := Lib.hid (HO4.out.below hb7.out)
        have HP7 := Lib.hid (fun h0 => HPR.out w7 hb7.out h0)
        clear hb7 HST HPR
        by_cases h0 : E = 0
        · subst h0
          have HP8 := Lib.hid (HP7.out rfl)
          rw [(HRT.out rfl).1] at HP8
          go_wp2_with fail
          refine HP8.out.mono ?_
          rintro e w8 ⟨rfl, hb8⟩
          have HB8 := Lib.hid (HB7.out.trans (hb8.out.mono HB7.out.size))
          have HR8 := Lib.hid (HR7.out.trans (hb8.out.mono HR7.out.size))
          have HS8 := Lib.hid ((HO7.out.below hb8.out).sp)
          clear hb8 HP8 HP7
          go_wp2_with fail
          go_loopw [15] (fun i wz => ∃ kk : Nat, kk ≤ n3 ∧ i = .int .i64 kk ∧ Hid (Sp wo.heap.size wz (.slice A3 n3 c3) T3) ∧ Hid (Below wo.heap.size wo wz)) (fun i _ => n3 - (intOf i).toNat)
          case atStart => exact ⟨0, by omega, rfl, HS8, HR8⟩
          case round =>
            obtain ⟨kk, hkk, rfl, HSk, HRk⟩ := hrel
            clear HS8 HR8 HB8 HB7 HR7 HO7
            by_cases hl3 : kk < n3
            · have hkk3 : kk < T3.length := by rw [HN3.out]; exact hl3
              obtain ⟨y, hy⟩ : ∃ y, T3[kk] = y := ⟨_, rfl⟩
              have hym : y ∈ T3 := by rw [← hy]; exact List.getElem_mem hkk3
              obtain ⟨b3, o3, rfl, HCL⟩ := HSk.out.cell hkk3
              rw [hy] at HCL
              have HCL := Lib.hid HCL
              have hy9 := (HK3.out y hym).few
              clear hy
              obtain ⟨ys, yA, yn, yc, yL, yK⟩ := y
              simp only at hy9
              have hkkz : (kk : Int) < (n3 : Int) := by omega
              go_wp2_with fail
              go_loopw [16] (fun i wz => ∃ j : Nat, j ≤ yn ∧ i = .int .i64 j ∧ Hid (Sp wo.heap.size wz (.slice (some ⟨b3, o3, none⟩) n3 c3) T3) ∧ Hid (Below wo.heap.size wo wz)) (fun i _ => yn - (intOf i).toNat)
              case atStart => exact ⟨0, by omega, rfl, HSk, HRk⟩
              case round =>
                obtain ⟨j, hj, rfl, HSj, HRj⟩ := hrel
                have r1 : wr.cell? ⟨b3, o3 + kk * 3 + 1, none⟩ = some (.slice yA yn yc) := HCL.out wr HSj.out
                by_cases hjl : j < yn
                · have hjz : (j : Int) < (yn : Int) := by omega
                  rcases HSj.out.col _ hym with h0 | ⟨gy, cur, hA, hgy, hh, hs⟩
                  · exfalso
                    simp only at h0
                    omega
                  · simp only at hA hs
                    subst hA
                    have hcell : ∃ u, wr.cell? ⟨gy, j * 3, none⟩ = some u := ⟨cur[j * 3]'(by omega), by rw [Has.cell (t := 38) (cs := cur) hh]; exact Array.getElem?_eq_getElem (by omega)⟩
                    obtain ⟨u, hu⟩ := hcell
                    have hfz : wr.frozen? ⟨gy, j * 3, none⟩ = false := Has.free (t := 38) (cs := cur) hh _
                    have HS2 := Lib.hid (HSj.out.set hh (j * 3) (.string ⟨#[115, 112, 111, 105, 108, 101, 100]⟩))
                    have HR2 := Lib.hid (HRj.out.setCell (p := ⟨gy, j * 3, none⟩) hgy (.string ⟨#[115, 112, 111, 105, 108, 101, 100]⟩))
                    clear hh hs hgy
                    go_wp2_with fail
                    go_roundw
                    case rel => exact ⟨j + 1, by omega, by go_num, HS2, HR2⟩
                    case measure => simp [intOf]; omega
                · obtain rfl : j = yn := by omega
                  have hjz : ¬ (j : Int) < (j : Int) := by omega
                  go_wp2_with fail
                  go_roundw
                  case rel => exact ⟨kk + 1, by omega, by go_num, HSj, HRj⟩
                  case measure => simp [intOf]; omega
            · obtain rfl : kk = n3 := by omega
              have hkkz : ¬ (kk : Int) < (kk : Int) := by omega
              have HBz := Lib.hid (HB.out.trans (HRk.out.mono HB.out.size))
              go_wp2_with fail
              go_roundw
              case rel => exact ⟨k + 1, by omega, by go_num, HBz⟩
              case measure => simp [intOf]; omega
        · have HB8 := HB7
          have HR8 := HR7
          have HS8 := Lib.hid (HO7.out.sp)
          obtain ⟨w8, hw8⟩ : ∃ w8, w7 = w8 := ⟨_, rfl⟩
          subst hw8
          clear HP7
          go_wp2_with fail
          go_loopw [15] (fun i wz => ∃ kk : Nat, kk ≤ n3 ∧ i = .int .i64 kk ∧ Hid (Sp wo.heap.size wz (.slice A3 n3 c3) T3) ∧ Hid (Below wo.heap.size wo wz)) (fun i _ => n3 - (intOf i).toNat)
          case atStart => exact ⟨0, by omega, rfl, HS8, HR8⟩
          case round =>
            obtain ⟨kk, hkk, rfl, HSk, HRk⟩ := hrel
            clear HS8 HR8 HB8 HB7 HR7 HO7
            by_cases hl3 : kk < n3
            · have hkk3 : kk < T3.length := by rw [HN3.out]; exact hl3
              obtain ⟨y, hy⟩ : ∃ y, T3[kk] = y := ⟨_, rfl⟩
              have hym : y ∈ T3 := by rw [← hy]; exact List.getElem_mem hkk3
              obtain ⟨b3, o3, rfl, HCL⟩ := HSk.out.cell hkk3
              rw [hy] at HCL
              have HCL := Lib.hid HCL
              have hy9 := (HK3.out y hym).few
              clear hy
              obtain ⟨ys, yA, yn, yc, yL, yK⟩ := y
              simp only at hy9
              have hkkz : (kk : Int) < (n3 : Int) := by omega
              go_wp2_with fail
              go_loopw [16] (fun i wz => ∃ j : Nat, j ≤ yn ∧ i = .int .i64 j ∧ Hid (Sp wo.heap.size wz (.slice (some ⟨b3, o3, none⟩) n3 c3) T3) ∧ Hid (Below wo.heap.size wo wz)) (fun i _ => yn - (intOf i).toNat)
              case atStart => exact ⟨0, by omega, rfl, HSk, HRk⟩
              case round =>
                obtain ⟨j, hj, rfl, HSj, HRj⟩ := hrel
                have r1 : wr.cell? ⟨b3, o3 + kk * 3 + 1, none⟩ = some (.slice yA yn yc) := HCL.out wr HSj.out
                by_cases hjl : j < yn
                · have hjz : (j : Int) < (yn : Int) := by omega
                  rcases HSj.out.col _ hym with h0 | ⟨gy, cur, hA, hgy, hh, hs⟩
                  · exfalso
                    simp only at h0
                    omega
                  · simp only at hA hs
                    subst hA
                    have hcell : ∃ u, wr.cell? ⟨gy, j * 3, none⟩ = some u := ⟨cur[j * 3]'(by omega), by rw [Has.cell (t := 38) (cs := cur) hh]; exact Array.getElem?_eq_getElem (by omega)⟩
                    obtain ⟨u, hu⟩ := hcell
                    have hfz : wr.frozen? ⟨gy, j * 3, none⟩ = false := Has.free (t := 38) (cs := cur) hh _
                    have HS2 := Lib.hid (HSj.out.set hh (j * 3) (.string ⟨#[115, 112, 111, 105, 108, 101, 100]⟩))
                    have HR2 := Lib.hid (HRj.out.setCell (p := ⟨gy, j * 3, none⟩) hgy (.string ⟨#[115, 112, 111, 105, 108, 101, 100]⟩))
                    clear hh hs hgy
                    go_wp2_with fail
                    go_roundw
                    case rel => exact ⟨j + 1, by omega, by go_num, HS2, HR2⟩
                    case measure => simp [intOf]; omega
                · obtain rfl : j = yn := by omega
                  have hjz : ¬ (j : Int) < (j : Int) := by omega
                  go_wp2_with fail
                  go_roundw
                  case rel => exact ⟨kk + 1, by omega, by go_num, HSj, HRj⟩
                  case measure => simp [intOf]; omega
            · obtain rfl : kk = n3 := by omega
              have hkkz : ¬ (kk : Int) < (kk : Int) := by omega
              have HBz := Lib.hid (HB.out.trans (HRk.out.mono HB.out.size))
              go_wp2_with fail
              go_roundw
              case rel => exact ⟨k + 1, by omega, by go_num, HBz⟩
              case measure => simp [intOf]; omega
      · have hk2 : k = 2 := by omega
        subst hk2
        have HBz := Lib.hid (HBB.out.trans (HB.out.mono HBB.out.size))
        go_wp2_with fail
        refine (HGD.out wo HBz.out).mono ?_
        rintro e w5 ⟨v5, G2, rfl, ho5, ht5, hok5, hcl5, hb5⟩
        obtain ⟨A9, n9, c9, rfl, HN9, hnc9, hcm9, HV9, HZ9⟩ := ownT_open ho5.out
        have HST := Lib.hid (rst_any A7 G n7 c7 A9 G2 n9 c9 w5 HN7.out HN9.out (by omega) ((HVg.out.below HB.out).below hb5.out) HV9.out ((HKg.out.below HB.out).below hb5.out) hok5.out (HT.out.trans ht5.out.symm))
        have HB5 := Lib.hid (HBz.out.trans (hb5.out.mono HBz.out.size))
        clear ho5 hok5 hcl5 hb5
        go_wp2_with fail
        refine HST.out.mono ?_
        rintro e w6 ⟨rfl, hb6⟩
        have HB6 := Lib.hid (HB5.out.trans (hb6.out.mono HB5.out.size))
        clear hb6 HST
        go_wp2_with fail
        refine (lives6_any _).mono ?_
        rintro e wf ⟨rfl, hbf⟩
        have HBf := Lib.hid (HB6.out.trans (hbf.out.mono HB6.out.size))
        clear hbf
        go_wp2_with fail
        go_ret
        exact ⟨rfl, HBf.out⟩
end Go.Proofs.YtiefogofiajmnaaDoor.eventFollows
