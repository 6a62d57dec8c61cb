/-
  The law EventSame walked.
-/
import Derived.Test.YtbbdmajlbofcmaaDoorCut6
import Derived.Test.YtbbdmajlbofcmaaDoorLives6
import Derived.Test.YtbbdmajlbofcmaaDoorArgsE
namespace Go.Proofs.YtbbdmajlbofcmaaDoor.eventSame
open Go.RowKit Dg
theorem far7' {W : World} {g B : Nat} (hg : g < B) {v : Value} {M : List Cl} (h : OwnC B W v M) (u0 u1 u2 u3 u4 u5 u6 : Value) : OwnC B (((((((W.setCell ⟨g, 5, none⟩ u0).setCell ⟨g, 6, none⟩ u1).setCell ⟨g, 7, none⟩ u2).setCell ⟨g, 8, none⟩ u3).setCell ⟨g, 9, none⟩ u4).setCell ⟨g, 10, none⟩ u5).setCell ⟨g, 11, none⟩ u6) v M :=
  OwnC.far (OwnC.far (OwnC.far (OwnC.far (OwnC.far (OwnC.far (OwnC.far h (p := ⟨g, 5, none⟩) hg u0) (p := ⟨g, 6, none⟩) hg u1) (p := ⟨g, 7, none⟩) hg u2) (p := ⟨g, 8, none⟩) hg u3) (p := ⟨g, 9, none⟩) hg u4) (p := ⟨g, 10, none⟩) hg u5) (p := ⟨g, 11, none⟩) hg u6
theorem below7' {w W : World} {k g : Nat} (hg : k ≤ g) (h : Below k w W) (u0 u1 u2 u3 u4 u5 u6 : Value) : Below k w (((((((W.setCell ⟨g, 5, none⟩ u0).setCell ⟨g, 6, none⟩ u1).setCell ⟨g, 7, none⟩ u2).setCell ⟨g, 8, none⟩ u3).setCell ⟨g, 9, none⟩ u4).setCell ⟨g, 10, none⟩ u5).setCell ⟨g, 11, none⟩ u6) :=
  ((((((h.setCell (p := ⟨g, 5, none⟩) hg u0).setCell (p := ⟨g, 6, none⟩) hg u1).setCell (p := ⟨g, 7, none⟩) hg u2).setCell (p := ⟨g, 8, none⟩) hg u3).setCell (p := ⟨g, 9, none⟩) hg u4).setCell (p := ⟨g, 10, none⟩) hg u5).setCell (p := ⟨g, 11, none⟩) hg u6
theorem hfar7 {W : World} {g q : Nat} {t : TypeId} {xs : Array Value} (hg : q ≠ g) (h : Has W q t xs) (u0 u1 u2 u3 u4 u5 u6 : Value) : Has (((((((W.setCell ⟨g, 5, none⟩ u0).setCell ⟨g, 6, none⟩ u1).setCell ⟨g, 7, none⟩ u2).setCell ⟨g, 8, none⟩ u3).setCell ⟨g, 9, none⟩ u4).setCell ⟨g, 10, none⟩ u5).setCell ⟨g, 11, none⟩ u6) q t xs :=
  ((((((h.far (p := ⟨g, 5, none⟩) hg u0).far (p := ⟨g, 6, none⟩) hg u1).far (p := ⟨g, 7, none⟩) hg u2).far (p := ⟨g, 8, none⟩) hg u3).far (p := ⟨g, 9, none⟩) hg u4).far (p := ⟨g, 10, none⟩) hg u5).far (p := ⟨g, 11, none⟩) hg u6
set_option maxHeartbeats 4000000 in
theorem put7 {W : World} {g : Nat} {t : TypeId} {a0 a1 a2 a3 a4 b0 b1 b2 b3 b4 b5 b6 : Value} (h : Has W g t #[a0, a1, a2, a3, a4, b0, b1, b2, b3, b4, b5, b6]) (u0 u1 u2 u3 u4 u5 u6 : Value) : Has (((((((W.setCell ⟨g, 5, none⟩ u0).setCell ⟨g, 6, none⟩ u1).setCell ⟨g, 7, none⟩ u2).setCell ⟨g, 8, none⟩ u3).setCell ⟨g, 9, none⟩ u4).setCell ⟨g, 10, none⟩ u5).setCell ⟨g, 11, none⟩ u6) g t #[a0, a1, a2, a3, a4, u0, u1, u2, u3, u4, u5, u6] :=
  ((((((h.put 5 u0).put 6 u1).put 7 u2).put 8 u3).put 9 u4).put 10 u5).put 11 u6
theorem ownC_rowA {B : Nat} {w : World} {v : Value} {L : List Cl} (h : OwnC B w v L) {A : Option Addr} {n c : Nat} (hv : v = .slice A n c) : CRow w A L := by
  obtain ⟨A2, c2, e, _, _, hr, _⟩ := ownC_row h
  rw [hv] at e
  injection e with e1 _ _
  rw [e1]; exact hr
set_option maxHeartbeats 6000000 in
set_option maxRecDepth 100000 in
theorem walk (k m : Int) (t : ByteArray) (Ab : Option Addr) (nb zb : Nat) (Bl : List Vl) (Aa : Option Addr) (na za : Nat) (Al : List Vl) (ck : Int) (ct : ByteArray) (A : Option Addr) (n c : Nat) (L : List Cl) (K : Int) (cn : ByteArray) (cq : Int) (cb : Bool) (k' m' : Int) (t' : ByteArray) (Ab' : Option Addr) (nb' zb' : Nat) (Bl' : List Vl) (Aa' : Option Addr) (na' za' : Nat) (Al' : List Vl) (ck' : Int) (ct' : ByteArray) (A' : Option Addr) (n' c' : Nat) (L' : List Cl) (K' : Int) (cn' : ByteArray) (cq' : Int) (cb' : Bool) (w : World) (_hk : -9223372036854775808 ≤ k ∧ k ≤ 9223372036854775807) (_hm : -9223372036854775808 ≤ m ∧ m ≤ 9223372036854775807) (hB : RowIn w Ab nb zb Bl) (hA : RowIn w Aa na za Al) (hL : L.length = n ∧ n ≤ c ∧ c ≤ maxLen ∧ CRow w A L ∧ ∀ v ∈ L, v.fit) (hq : (Cl.mk cn cq cb).fit ∧ ct.size ≤ 140737488355328) (_ht : t.size ≤ 140737488355328) (_hk' : -9223372036854775808 ≤ k' ∧ k' ≤ 9223372036854775807) (_hm' : -9223372036854775808 ≤ m' ∧ m' ≤ 9223372036854775807) (hB' : RowIn w Ab' nb' zb' Bl') (hA' : RowIn w Aa' na' za' Al') (hL' : L'.length = n' ∧ n' ≤ c' ∧ c' ≤ maxLen ∧ CRow w A' L' ∧ ∀ v ∈ L', v.fit) (hq' : (Cl.mk cn' cq' cb').fit ∧ ct'.size ≤ 140737488355328) (_ht' : t'.size ≤ 140737488355328) :
    Calls Tryd.prog 8 #[.agg #[.int .i64 k, .int .i64 m, .string t, .slice Ab nb zb, .slice Aa na za, .int .i64 ck, .string ct, .slice A n c, .int .i64 K, .string cn, .int .i64 cq, .bool cb], .agg #[.int .i64 k', .int .i64 m', .string t', .slice Ab' nb' zb', .slice Aa' na' za', .int .i64 ck', .string ct', .slice A' n' c', .int .i64 K', .string cn', .int .i64 cq', .bool cb']] w fun e w' => e = .returned (.bool true) ∧ Below w.heap.size w w' := by
  have HB := Lib.hid (((Below.refl w.heap.size w).alloc (Nat.le_refl _) (.cells #[.int .i64 k, .int .i64 m, .string t, .slice Ab nb zb, .slice Aa na za, .int .i64 ck, .string ct, .slice A n c, .int .i64 K, .string cn, .int .i64 cq, .bool cb] 68)).alloc (by simp) (.cells #[.int .i64 k', .int .i64 m', .string t', .slice Ab' nb' zb', .slice Aa' na' za', .int .i64 ck', .string ct', .slice A' n' c', .int .i64 K', .string cn', .int .i64 cq', .bool cb'] 68))
  have HX := Lib.hid ((Has.new w 68 #[.int .i64 k, .int .i64 m, .string t, .slice Ab nb zb, .slice Aa na za, .int .i64 ck, .string ct, .slice A n c, .int .i64 K, .string cn, .int .i64 cq, .bool cb]).alloc (.cells #[.int .i64 k', .int .i64 m', .string t', .slice Ab' nb' zb', .slice Aa' na' za', .int .i64 ck', .string ct', .slice A' n' c', .int .i64 K', .string cn', .int .i64 cq', .bool cb'] 68))
  have hy := Has.new (w.alloc (.cells #[.int .i64 k, .int .i64 m, .string t, .slice Ab nb zb, .slice Aa na za, .int .i64 ck, .string ct, .slice A n c, .int .i64 K, .string cn, .int .i64 cq, .bool cb] 68)) 68 #[.int .i64 k', .int .i64 m', .string t', .slice Ab' nb' zb', .slice Aa' na' za', .int .i64 ck', .string ct', .slice A' n' c', .int .i64 K', .string cn', .int .i64 cq', .bool cb']
  rw [show (w.alloc (.cells #[.int .i64 k, .int .i64 m, .string t, .slice Ab nb zb, .slice Aa na za, .int .i64 ck, .string ct, .slice A n c, .int .i64 K, .string cn, .int .i64 cq, .bool cb] 68)).heap.size = w.heap.size + 1 by simp] at hy
  have HY := Lib.hid hy
  have HRB := Lib.hid hB
  have HRA := Lib.hid hA
  have HRB' := Lib.hid hB'
  have HRA' := Lib.hid hA'
  have C1 := Lib.hid (fun (W : World) (hb : Below w.heap.size w W) => cut6_any ck ct A L n c K cn cq cb W hL.1 hL.2.1 hL.2.2.1 (hL.2.2.2.1.below hb) hL.2.2.2.2 hq.2 hq.1.1)
  have C2 := Lib.hid (fun (W : World) (hb : Below w.heap.size w W) => cut6_any ck' ct' A' L' n' c' K' cn' cq' cb' W hL'.1 hL'.2.1 hL'.2.2.1 (hL'.2.2.2.1.below hb) hL'.2.2.2.2 hq'.2 hq'.1.1)
  clear hy hB hA hB' hA' hL hL' hq hq' _hk _hk' _hm _hm' _ht _ht'
  go_enter Tryd.func8, Tryd.ntmps8
  go_wp2_with fail
  refine (C1.out _ HB.out).mono ?_
  rintro e w1 ⟨v, rfl, ho, hb1⟩
  generalize forty ct = ft at *
  generalize forty cn = fn at *
  have HSZ : Hid (w.heap.size + 2 ≤ w1.heap.size) := by have h := hb1.out.size; simp at h; exact h
  rw [show ((w.alloc (.cells #[.int .i64 k, .int .i64 m, .string t, .slice Ab nb zb, .slice Aa na za, .int .i64 ck, .string ct, .slice A n c, .int .i64 K, .string cn, .int .i64 cq, .bool cb] 68)).alloc (.cells #[.int .i64 k', .int .i64 m', .string t', .slice Ab' nb' zb', .slice Aa' na' za', .int .i64 ck', .string ct', .slice A' n' c', .int .i64 K', .string cn', .int .i64 cq', .bool cb'] 68)).heap.size = w.heap.size + 2 by simp] at ho
  obtain ⟨Ao, no, co, rfl, HNO, hnoc, hcom, _, _⟩ := ownC_open ho.out
  have HO := Lib.hid ho.out
  replace HB := Lib.hid (HB.out.trans (hb1.out.mono HB.out.size))
  replace HX := Lib.hid (HX.out.below hb1.out HX.out.lt)
  replace HY := Lib.hid (HY.out.below hb1.out HY.out.lt)
  clear hb1 C1 ho
  have x5 : w1.cell? ⟨w.heap.size, 5, none⟩ = some (.int .i64 ck) := HX.out.cell 5
  have f5 : w1.frozen? ⟨w.heap.size, 5, none⟩ = false := HX.out.free 5
  have x6 : w1.cell? ⟨w.heap.size, 6, none⟩ = some (.string ct) := HX.out.cell 6
  have f6 : w1.frozen? ⟨w.heap.size, 6, none⟩ = false := HX.out.free 6
  have x7 : w1.cell? ⟨w.heap.size, 7, none⟩ = some (.slice A n c) := HX.out.cell 7
  have f7 : w1.frozen? ⟨w.heap.size, 7, none⟩ = false := HX.out.free 7
  have x8 : w1.cell? ⟨w.heap.size, 8, none⟩ = some (.int .i64 K) := HX.out.cell 8
  have f8 : w1.frozen? ⟨w.heap.size, 8, none⟩ = false := HX.out.free 8
  have x9 : w1.cell? ⟨w.heap.size, 9, none⟩ = some (.string cn) := HX.out.cell 9
  have f9 : w1.frozen? ⟨w.heap.size, 9, none⟩ = false := HX.out.free 9
  have x10 : w1.cell? ⟨w.heap.size, 10, none⟩ = some (.int .i64 cq) := HX.out.cell 10
  have f10 : w1.frozen? ⟨w.heap.size, 10, none⟩ = false := HX.out.free 10
  have x11 : w1.cell? ⟨w.heap.size, 11, none⟩ = some (.bool cb) := HX.out.cell 11
  have f11 : w1.frozen? ⟨w.heap.size, 11, none⟩ = false := HX.out.free 11
  have HP := Lib.hid (put7 HX.out (.int .i64 ck) (.string ft) (.slice Ao no co) (.int .i64 K) (.string fn) (.int .i64 cq) (.bool cb))
  have HQ := Lib.hid (hfar7 (g := w.heap.size) (by omega) HY.out (.int .i64 ck) (.string ft) (.slice Ao no co) (.int .i64 K) (.string fn) (.int .i64 cq) (.bool cb))
  have HO7 := Lib.hid (far7' (g := w.heap.size) (by omega) HO.out (.int .i64 ck) (.string ft) (.slice Ao no co) (.int .i64 K) (.string fn) (.int .i64 cq) (.bool cb))
  have HB7 := Lib.hid (below7' (g := w.heap.size) (by omega) HB.out (.int .i64 ck) (.string ft) (.slice Ao no co) (.int .i64 K) (.string fn) (.int .i64 cq) (.bool cb))
  have y5 : (((((((w1.setCell ⟨w.heap.size, 5, none⟩ (.int .i64 ck)).setCell ⟨w.heap.size, 6, none⟩ (.string ft)).setCell ⟨w.heap.size, 7, none⟩ (.slice Ao no co)).setCell ⟨w.heap.size, 8, none⟩ (.int .i64 K)).setCell ⟨w.heap.size, 9, none⟩ (.string fn)).setCell ⟨w.heap.size, 10, none⟩ (.int .i64 cq)).setCell ⟨w.heap.size, 11, none⟩ (.bool cb)).cell? ⟨w.heap.size + 1, 5, none⟩ = some (.int .i64 ck') := HQ.out.cell 5
  have y6 : (((((((w1.setCell ⟨w.heap.size, 5, none⟩ (.int .i64 ck)).setCell ⟨w.heap.size, 6, none⟩ (.string ft)).setCell ⟨w.heap.size, 7, none⟩ (.slice Ao no co)).setCell ⟨w.heap.size, 8, none⟩ (.int .i64 K)).setCell ⟨w.heap.size, 9, none⟩ (.string fn)).setCell ⟨w.heap.size, 10, none⟩ (.int .i64 cq)).setCell ⟨w.heap.size, 11, none⟩ (.bool cb)).cell? ⟨w.heap.size + 1, 6, none⟩ = some (.string ct') := HQ.out.cell 6
  have y7 : (((((((w1.setCell ⟨w.heap.size, 5, none⟩ (.int .i64 ck)).setCell ⟨w.heap.size, 6, none⟩ (.string ft)).setCell ⟨w.heap.size, 7, none⟩ (.slice Ao no co)).setCell ⟨w.heap.size, 8, none⟩ (.int .i64 K)).setCell ⟨w.heap.size, 9, none⟩ (.string fn)).setCell ⟨w.heap.size, 10, none⟩ (.int .i64 cq)).setCell ⟨w.heap.size, 11, none⟩ (.bool cb)).cell? ⟨w.heap.size + 1, 7, none⟩ = some (.slice A' n' c') := HQ.out.cell 7
  have y8 : (((((((w1.setCell ⟨w.heap.size, 5, none⟩ (.int .i64 ck)).setCell ⟨w.heap.size, 6, none⟩ (.string ft)).setCell ⟨w.heap.size, 7, none⟩ (.slice Ao no co)).setCell ⟨w.heap.size, 8, none⟩ (.int .i64 K)).setCell ⟨w.heap.size, 9, none⟩ (.string fn)).setCell ⟨w.heap.size, 10, none⟩ (.int .i64 cq)).setCell ⟨w.heap.size, 11, none⟩ (.bool cb)).cell? ⟨w.heap.size + 1, 8, none⟩ = some (.int .i64 K') := HQ.out.cell 8
  have y9 : (((((((w1.setCell ⟨w.heap.size, 5, none⟩ (.int .i64 ck)).setCell ⟨w.heap.size, 6, none⟩ (.string ft)).setCell ⟨w.heap.size, 7, none⟩ (.slice Ao no co)).setCell ⟨w.heap.size, 8, none⟩ (.int .i64 K)).setCell ⟨w.heap.size, 9, none⟩ (.string fn)).setCell ⟨w.heap.size, 10, none⟩ (.int .i64 cq)).setCell ⟨w.heap.size, 11, none⟩ (.bool cb)).cell? ⟨w.heap.size + 1, 9, none⟩ = some (.string cn') := HQ.out.cell 9
  have y10 : (((((((w1.setCell ⟨w.heap.size, 5, none⟩ (.int .i64 ck)).setCell ⟨w.heap.size, 6, none⟩ (.string ft)).setCell ⟨w.heap.size, 7, none⟩ (.slice Ao no co)).setCell ⟨w.heap.size, 8, none⟩ (.int .i64 K)).setCell ⟨w.heap.size, 9, none⟩ (.string fn)).setCell ⟨w.heap.size, 10, none⟩ (.int .i64 cq)).setCell ⟨w.heap.size, 11, none⟩ (.bool cb)).cell? ⟨w.heap.size + 1, 10, none⟩ = some (.int .i64 cq') := HQ.out.cell 10
  have y11 : (((((((w1.setCell ⟨w.heap.size, 5, none⟩ (.int .i64 ck)).setCell ⟨w.heap.size, 6, none⟩ (.string ft)).setCell ⟨w.heap.size, 7, none⟩ (.slice Ao no co)).setCell ⟨w.heap.size, 8, none⟩ (.int .i64 K)).setCell ⟨w.heap.size, 9, none⟩ (.string fn)).setCell ⟨w.heap.size, 10, none⟩ (.int .i64 cq)).setCell ⟨w.heap.size, 11, none⟩ (.bool cb)).cell? ⟨w.heap.size + 1, 11, none⟩ = some (.bool cb') := HQ.out.cell 11
  go_wp2_with fail
  clear x5 f5 y5 x6 f6 y6 x7 f7 y7 x8 f8 y8 x9 f9 y9 x10 f10 y10 x11 f11 y11 HX HY HO HB
  obtain ⟨W2, hW⟩ : ∃ W, W = (((((((w1.setCell ⟨w.heap.size, 5, none⟩ (.int .i64 ck)).setCell ⟨w.heap.size, 6, none⟩ (.string ft)).setCell ⟨w.heap.size, 7, none⟩ (.slice Ao no co)).setCell ⟨w.heap.size, 8, none⟩ (.int .i64 K)).setCell ⟨w.heap.size, 9, none⟩ (.string fn)).setCell ⟨w.heap.size, 10, none⟩ (.int .i64 cq)).setCell ⟨w.heap.size, 11, none⟩ (.bool cb)) := ⟨_, rfl⟩
  rw [← hW] at HP HQ HO7 HB7 ⊢
  have HS2 : Hid (w.heap.size + 2 ≤ W2.heap.size) := by show _ ≤ _; rw [hW]; have := HSZ.out; simpa [size_set] using this
  clear hW HSZ
  refine (C2.out _ HB7.out).mono ?_
  rintro e w3 ⟨v, rfl, ho, hb1⟩
  generalize forty ct' = ft' at *
  generalize forty cn' = fn' at *
  obtain ⟨Ao', no', co', rfl, HNO', hnoc', hcom', _, _⟩ := ownC_open ho.out
  have HO' := Lib.hid ho.out
  have HB := Lib.hid (HB7.out.trans (hb1.out.mono HB7.out.size))
  have HX := Lib.hid (HP.out.below hb1.out HP.out.lt)
  have HY := Lib.hid (HQ.out.below hb1.out HQ.out.lt)
  have HO := Lib.hid (HO7.out.below hb1.out)
  have HS3 : Hid (w.heap.size + 2 ≤ w3.heap.size) := Nat.le_trans HS2.out hb1.out.size
  clear hb1 C2 ho HP HQ HO7 HB7
  have x5 : w3.cell? ⟨w.heap.size + 1, 5, none⟩ = some (.int .i64 ck') := HY.out.cell 5
  have f5 : w3.frozen? ⟨w.heap.size + 1, 5, none⟩ = false := HY.out.free 5
  have x6 : w3.cell? ⟨w.heap.size + 1, 6, none⟩ = some (.string ct') := HY.out.cell 6
  have f6 : w3.frozen? ⟨w.heap.size + 1, 6, none⟩ = false := HY.out.free 6
  have x7 : w3.cell? ⟨w.heap.size + 1, 7, none⟩ = some (.slice A' n' c') := HY.out.cell 7
  have f7 : w3.frozen? ⟨w.heap.size + 1, 7, none⟩ = false := HY.out.free 7
  have x8 : w3.cell? ⟨w.heap.size + 1, 8, none⟩ = some (.int .i64 K') := HY.out.cell 8
  have f8 : w3.frozen? ⟨w.heap.size + 1, 8, none⟩ = false := HY.out.free 8
  have x9 : w3.cell? ⟨w.heap.size + 1, 9, none⟩ = some (.string cn') := HY.out.cell 9
  have f9 : w3.frozen? ⟨w.heap.size + 1, 9, none⟩ = false := HY.out.free 9
  have x10 : w3.cell? ⟨w.heap.size + 1, 10, none⟩ = some (.int .i64 cq') := HY.out.cell 10
  have f10 : w3.frozen? ⟨w.heap.size + 1, 10, none⟩ = false := HY.out.free 10
  have x11 : w3.cell? ⟨w.heap.size + 1, 11, none⟩ = some (.bool cb') := HY.out.cell 11
  have f11 : w3.frozen? ⟨w.heap.size + 1, 11, none⟩ = false := HY.out.free 11
  have HP := Lib.hid (put7 HY.out (.int .i64 ck') (.string ft') (.slice Ao' no' co') (.int .i64 K') (.string fn') (.int .i64 cq') (.bool cb'))
  have HQ := Lib.hid (hfar7 (g := w.heap.size + 1) (by omega) HX.out (.int .i64 ck') (.string ft') (.slice Ao' no' co') (.int .i64 K') (.string fn') (.int .i64 cq') (.bool cb'))
  have HO7 := Lib.hid (far7' (g := w.heap.size + 1) (by omega) HO.out (.int .i64 ck') (.string ft') (.slice Ao' no' co') (.int .i64 K') (.string fn') (.int .i64 cq') (.bool cb'))
  have HO7' := Lib.hid (far7' (g := w.heap.size + 1) (by have := HS2.out; omega) HO'.out (.int .i64 ck') (.string ft') (.slice Ao' no' co') (.int .i64 K') (.string fn') (.int .i64 cq') (.bool cb'))
  have HB7 := Lib.hid (below7' (g := w.heap.size + 1) (by omega) HB.out (.int .i64 ck') (.string ft') (.slice Ao' no' co') (.int .i64 K') (.string fn') (.int .i64 cq') (.bool cb'))
  go_wp2_with fail
  clear x5 f5 x6 f6 x7 f7 x8 f8 x9 f9 x10 f10 x11 f11 HX HY HO HB HO'
  obtain ⟨W4, hW⟩ : ∃ W, W = (((((((w3.setCell ⟨w.heap.size + 1, 5, none⟩ (.int .i64 ck')).setCell ⟨w.heap.size + 1, 6, none⟩ (.string ft')).setCell ⟨w.heap.size + 1, 7, none⟩ (.slice Ao' no' co')).setCell ⟨w.heap.size + 1, 8, none⟩ (.int .i64 K')).setCell ⟨w.heap.size + 1, 9, none⟩ (.string fn')).setCell ⟨w.heap.size + 1, 10, none⟩ (.int .i64 cq')).setCell ⟨w.heap.size + 1, 11, none⟩ (.bool cb')) := ⟨_, rfl⟩
  rw [← hW] at HP HQ HO7 HB7 HO7' ⊢
  clear hW
  have HEX : Hid (EvAt W4 (.agg #[.int .i64 k, .int .i64 m, .string t, .slice Ab nb zb, .slice Aa na za, .int .i64 ck, .string ft, .slice Ao no co, .int .i64 K, .string fn, .int .i64 cq, .bool cb]) (Ev.mk k m t Bl Al ck ft (cutL L) K ⟨fn, cq, cb⟩)) := ⟨_, _, _, _, _, _, _, _, _, rfl, ⟨HRB.out.1, by have h1 := HRB.out.2.1; have h2 := HRB.out.2.2.1; unfold maxLen at h2; omega, HRB.out.2.2.2.1.below HB7.out⟩, ⟨HRA.out.1, by have h1 := HRA.out.2.1; have h2 := HRA.out.2.2.1; unfold maxLen at h2; omega, HRA.out.2.2.2.1.below HB7.out⟩, HNO.out, by have h1 := cutTo_len L 20; have h2 := HNO.out; unfold cutL at h2; omega, ownC_rowA HO7.out rfl⟩
  have HEY : Hid (EvAt W4 (.agg #[.int .i64 k', .int .i64 m', .string t', .slice Ab' nb' zb', .slice Aa' na' za', .int .i64 ck', .string ft', .slice Ao' no' co', .int .i64 K', .string fn', .int .i64 cq', .bool cb']) (Ev.mk k' m' t' Bl' Al' ck' ft' (cutL L') K' ⟨fn', cq', cb'⟩)) := ⟨_, _, _, _, _, _, _, _, _, rfl, ⟨HRB'.out.1, by have h1 := HRB'.out.2.1; have h2 := HRB'.out.2.2.1; unfold maxLen at h2; omega, HRB'.out.2.2.2.1.below HB7.out⟩, ⟨HRA'.out.1, by have h1 := HRA'.out.2.1; have h2 := HRA'.out.2.2.1; unfold maxLen at h2; omega, HRA'.out.2.2.2.1.below HB7.out⟩, HNO'.out, by have h1 := cutTo_len L' 20; have h2 := HNO'.out; unfold cutL at h2; omega, ownC_rowA HO7'.out rfl⟩
  obtain ⟨q, hq⟩ : ∃ q, evF (Ev.mk k m t Bl Al ck ft (cutL L) K ⟨fn, cq, cb⟩) (Ev.mk k' m' t' Bl' Al' ck' ft' (cutL L') K' ⟨fn', cq', cb'⟩) = q := ⟨_, rfl⟩
  have HQV := Lib.hid hq
  have HQS := Lib.hid ((evF_symm (Ev.mk k' m' t' Bl' Al' ck' ft' (cutL L') K' ⟨fn', cq', cb'⟩) (Ev.mk k m t Bl Al ck ft (cutL L) K ⟨fn, cq, cb⟩)).trans hq)
  clear hq
  have hd0 : Hid (Below W4.heap.size W4 W4.drew) := (Below.refl _ W4).drew
  clear HRB HRA HRB' HRA' HO7 HO7' HNO HNO' HS2 HS3 hnoc hnoc' hcom hcom'
  have z0 : W4.cell? ⟨w.heap.size, 0, none⟩ = some (.int .i64 k) := HQ.out.cell 0
  have z1 : W4.cell? ⟨w.heap.size, 1, none⟩ = some (.int .i64 m) := HQ.out.cell 1
  have z2 : W4.cell? ⟨w.heap.size, 2, none⟩ = some (.string t) := HQ.out.cell 2
  have z3 : W4.cell? ⟨w.heap.size, 3, none⟩ = some (.slice Ab nb zb) := HQ.out.cell 3
  have z4 : W4.cell? ⟨w.heap.size, 4, none⟩ = some (.slice Aa na za) := HQ.out.cell 4
  have z5 : W4.cell? ⟨w.heap.size, 5, none⟩ = some (.int .i64 ck) := HQ.out.cell 5
  have z6 : W4.cell? ⟨w.heap.size, 6, none⟩ = some (.string ft) := HQ.out.cell 6
  have z7 : W4.cell? ⟨w.heap.size, 7, none⟩ = some (.slice Ao no co) := HQ.out.cell 7
  have z8 : W4.cell? ⟨w.heap.size, 8, none⟩ = some (.int .i64 K) := HQ.out.cell 8
  have z9 : W4.cell? ⟨w.heap.size, 9, none⟩ = some (.string fn) := HQ.out.cell 9
  have z10 : W4.cell? ⟨w.heap.size, 10, none⟩ = some (.int .i64 cq) := HQ.out.cell 10
  have z11 : W4.cell? ⟨w.heap.size, 11, none⟩ = some (.bool cb) := HQ.out.cell 11
  have u0 : W4.cell? ⟨w.heap.size + 1, 0, none⟩ = some (.int .i64 k') := HP.out.cell 0
  have u1 : W4.cell? ⟨w.heap.size + 1, 1, none⟩ = some (.int .i64 m') := HP.out.cell 1
  have u2 : W4.cell? ⟨w.heap.size + 1, 2, none⟩ = some (.string t') := HP.out.cell 2
  have u3 : W4.cell? ⟨w.heap.size + 1, 3, none⟩ = some (.slice Ab' nb' zb') := HP.out.cell 3
  have u4 : W4.cell? ⟨w.heap.size + 1, 4, none⟩ = some (.slice Aa' na' za') := HP.out.cell 4
  have u5 : W4.cell? ⟨w.heap.size + 1, 5, none⟩ = some (.int .i64 ck') := HP.out.cell 5
  have u6 : W4.cell? ⟨w.heap.size + 1, 6, none⟩ = some (.string ft') := HP.out.cell 6
  have u7 : W4.cell? ⟨w.heap.size + 1, 7, none⟩ = some (.slice Ao' no' co') := HP.out.cell 7
  have u8 : W4.cell? ⟨w.heap.size + 1, 8, none⟩ = some (.int .i64 K') := HP.out.cell 8
  have u9 : W4.cell? ⟨w.heap.size + 1, 9, none⟩ = some (.string fn') := HP.out.cell 9
  have u10 : W4.cell? ⟨w.heap.size + 1, 10, none⟩ = some (.int .i64 cq') := HP.out.cell 10
  have u11 : W4.cell? ⟨w.heap.size + 1, 11, none⟩ = some (.bool cb') := HP.out.cell 11
  have CAB := Lib.hid (fun (X : World) (hb : Hid (Below W4.heap.size W4 X)) => (esame_any (.agg #[.int .i64 k, .int .i64 m, .string t, .slice Ab nb zb, .slice Aa na za, .int .i64 ck, .string ft, .slice Ao no co, .int .i64 K, .string fn, .int .i64 cq, .bool cb]) (.agg #[.int .i64 k', .int .i64 m', .string t', .slice Ab' nb' zb', .slice Aa' na' za', .int .i64 ck', .string ft', .slice Ao' no' co', .int .i64 K', .string fn', .int .i64 cq', .bool cb']) (Ev.mk k m t Bl Al ck ft (cutL L) K ⟨fn, cq, cb⟩) (Ev.mk k' m' t' Bl' Al' ck' ft' (cutL L') K' ⟨fn', cq', cb'⟩) X (HEX.out.below hb.out) (HEY.out.below hb.out)).mono (R' := fun e w' => e = .returned (.bool q) ∧ Hid (Below W4.heap.size W4 w')) fun e w' h => ⟨by rw [h.1, HQV.out], hb.out.trans (h.2.out.mono hb.out.size)⟩)
  have CAA := Lib.hid (fun (X : World) (hb : Hid (Below W4.heap.size W4 X)) => (esame_any (.agg #[.int .i64 k, .int .i64 m, .string t, .slice Ab nb zb, .slice Aa na za, .int .i64 ck, .string ft, .slice Ao no co, .int .i64 K, .string fn, .int .i64 cq, .bool cb]) (.agg #[.int .i64 k, .int .i64 m, .string t, .slice Ab nb zb, .slice Aa na za, .int .i64 ck, .string ft, .slice Ao no co, .int .i64 K, .string fn, .int .i64 cq, .bool cb]) (Ev.mk k m t Bl Al ck ft (cutL L) K ⟨fn, cq, cb⟩) (Ev.mk k m t Bl Al ck ft (cutL L) K ⟨fn, cq, cb⟩) X (HEX.out.below hb.out) (HEX.out.below hb.out)).mono (R' := fun e w' => e = .returned (.bool true) ∧ Hid (Below W4.heap.size W4 w')) fun e w' h => ⟨by rw [h.1, evF_refl], hb.out.trans (h.2.out.mono hb.out.size)⟩)
  have CBA := Lib.hid (fun (X : World) (hb : Hid (Below W4.heap.size W4 X)) => (esame_any (.agg #[.int .i64 k', .int .i64 m', .string t', .slice Ab' nb' zb', .slice Aa' na' za', .int .i64 ck', .string ft', .slice Ao' no' co', .int .i64 K', .string fn', .int .i64 cq', .bool cb']) (.agg #[.int .i64 k, .int .i64 m, .string t, .slice Ab nb zb, .slice Aa na za, .int .i64 ck, .string ft, .slice Ao no co, .int .i64 K, .string fn, .int .i64 cq, .bool cb]) (Ev.mk k' m' t' Bl' Al' ck' ft' (cutL L') K' ⟨fn', cq', cb'⟩) (Ev.mk k m t Bl Al ck ft (cutL L) K ⟨fn, cq, cb⟩) X (HEY.out.below hb.out) (HEX.out.below hb.out)).mono (R' := fun e w' => e = .returned (.bool q) ∧ Hid (Below W4.heap.size W4 w')) fun e w' h => ⟨by rw [h.1, HQS.out], hb.out.trans (h.2.out.mono hb.out.size)⟩)
  have CRR := Lib.hid (fun (X : World) (hb : Hid (Below W4.heap.size W4 X)) => (resame_any (.agg #[.int .i64 k, .int .i64 m, .string t, .slice Ab nb zb, .slice Aa na za, .int .i64 ck, .string ft, .slice Ao no co, .int .i64 K, .string fn, .int .i64 cq, .bool cb]) (.agg #[.int .i64 k', .int .i64 m', .string t', .slice Ab' nb' zb', .slice Aa' na' za', .int .i64 ck', .string ft', .slice Ao' no' co', .int .i64 K', .string fn', .int .i64 cq', .bool cb']) (Ev.mk k m t Bl Al ck ft (cutL L) K ⟨fn, cq, cb⟩) (Ev.mk k' m' t' Bl' Al' ck' ft' (cutL L') K' ⟨fn', cq', cb'⟩) X (HEX.out.below hb.out) (HEY.out.below hb.out)).mono (R' := fun e w' => e = .returned (.bool q) ∧ Hid (Below W4.heap.size W4 w')) fun e w' h => ⟨by rw [h.1, HQV.out], hb.out.trans (h.2.out.mono hb.out.size)⟩)
  have CL := Lib.hid (fun (X : World) (hb : Hid (Below W4.heap.size W4 X)) => (lives6_any X).mono (R' := fun e w' => e = .returned (.bool true) ∧ Hid (Below W4.heap.size W4 w')) fun e w' h => ⟨h.1, hb.out.trans (h.2.out.mono hb.out.size)⟩)
  clear HQV HQS HEX HEY HP HQ
  go_region_held3 (fun X => Hid (Below W4.heap.size W4 X) ∧ X.cell? ⟨w.heap.size, 0, none⟩ = some (.int .i64 k) ∧ X.cell? ⟨w.heap.size, 1, none⟩ = some (.int .i64 m) ∧ X.cell? ⟨w.heap.size, 2, none⟩ = some (.string t) ∧ X.cell? ⟨w.heap.size, 3, none⟩ = some (.slice Ab nb zb) ∧ X.cell? ⟨w.heap.size, 4, none⟩ = some (.slice Aa na za) ∧ X.cell? ⟨w.heap.size, 5, none⟩ = some (.int .i64 ck) ∧ X.cell? ⟨w.heap.size, 6, none⟩ = some (.string ft) ∧ X.cell? ⟨w.heap.size, 7, none⟩ = some (.slice Ao no co) ∧ X.cell? ⟨w.heap.size, 8, none⟩ = some (.int .i64 K) ∧ X.cell? ⟨w.heap.size, 9, none⟩ = some (.string fn) ∧ X.cell? ⟨w.heap.size, 10, none⟩ = some (.int .i64 cq) ∧ X.cell? ⟨w.heap.size, 11, none⟩ = some (.bool cb) ∧ X.cell? ⟨w.heap.size + 1, 0, none⟩ = some (.int .i64 k') ∧ X.cell? ⟨w.heap.size + 1, 1, none⟩ = some (.int .i64 m') ∧ X.cell? ⟨w.heap.size + 1, 2, none⟩ = some (.string t') ∧ X.cell? ⟨w.heap.size + 1, 3, none⟩ = some (.slice Ab' nb' zb') ∧ X.cell? ⟨w.heap.size + 1, 4, none⟩ = some (.slice Aa' na' za') ∧ X.cell? ⟨w.heap.size + 1, 5, none⟩ = some (.int .i64 ck') ∧ X.cell? ⟨w.heap.size + 1, 6, none⟩ = some (.string ft') ∧ X.cell? ⟨w.heap.size + 1, 7, none⟩ = some (.slice Ao' no' co') ∧ X.cell? ⟨w.heap.size + 1, 8, none⟩ = some (.int .i64 K') ∧ X.cell? ⟨w.heap.size + 1, 9, none⟩ = some (.string fn') ∧ X.cell? ⟨w.heap.size + 1, 10, none⟩ = some (.int .i64 cq') ∧ X.cell? ⟨w.heap.size + 1, 11, none⟩ = some (.bool cb')) ((first | assumption | (refine ⟨by assumption, ?_⟩; go_keep))) (first
    | (go_at_call 38; (with_reducible refine (CAB.out _ (by first | assumption | exact And.left (by assumption))).mono ?_); rintro e x ⟨rfl, hd⟩; have kz0 := keepC hd.out z0; have kz1 := keepC hd.out z1; have kz2 := keepC hd.out z2; have kz3 := keepC hd.out z3; have kz4 := keepC hd.out z4; have kz5 := keepC hd.out z5; have kz6 := keepC hd.out z6; have kz7 := keepC hd.out z7; have kz8 := keepC hd.out z8; have kz9 := keepC hd.out z9; have kz10 := keepC hd.out z10; have kz11 := keepC hd.out z11; have ku0 := keepC hd.out u0; have ku1 := keepC hd.out u1; have ku2 := keepC hd.out u2; have ku3 := keepC hd.out u3; have ku4 := keepC hd.out u4; have ku5 := keepC hd.out u5; have ku6 := keepC hd.out u6; have ku7 := keepC hd.out u7; have ku8 := keepC hd.out u8; have ku9 := keepC hd.out u9; have ku10 := keepC hd.out u10; have ku11 := keepC hd.out u11)
    | (go_at_call 38; (with_reducible refine (CAA.out _ (by first | assumption | exact And.left (by assumption))).mono ?_); rintro e x ⟨rfl, hd⟩; have kz0 := keepC hd.out z0; have kz1 := keepC hd.out z1; have kz2 := keepC hd.out z2; have kz3 := keepC hd.out z3; have kz4 := keepC hd.out z4; have kz5 := keepC hd.out z5; have kz6 := keepC hd.out z6; have kz7 := keepC hd.out z7; have kz8 := keepC hd.out z8; have kz9 := keepC hd.out z9; have kz10 := keepC hd.out z10; have kz11 := keepC hd.out z11; have ku0 := keepC hd.out u0; have ku1 := keepC hd.out u1; have ku2 := keepC hd.out u2; have ku3 := keepC hd.out u3; have ku4 := keepC hd.out u4; have ku5 := keepC hd.out u5; have ku6 := keepC hd.out u6; have ku7 := keepC hd.out u7; have ku8 := keepC hd.out u8; have ku9 := keepC hd.out u9; have ku10 := keepC hd.out u10; have ku11 := keepC hd.out u11)
    | (go_at_call 38; (with_reducible refine (CBA.out _ (by first | assumption | exact And.left (by assumption))).mono ?_); rintro e x ⟨rfl, hd⟩; have kz0 := keepC hd.out z0; have kz1 := keepC hd.out z1; have kz2 := keepC hd.out z2; have kz3 := keepC hd.out z3; have kz4 := keepC hd.out z4; have kz5 := keepC hd.out z5; have kz6 := keepC hd.out z6; have kz7 := keepC hd.out z7; have kz8 := keepC hd.out z8; have kz9 := keepC hd.out z9; have kz10 := keepC hd.out z10; have kz11 := keepC hd.out z11; have ku0 := keepC hd.out u0; have ku1 := keepC hd.out u1; have ku2 := keepC hd.out u2; have ku3 := keepC hd.out u3; have ku4 := keepC hd.out u4; have ku5 := keepC hd.out u5; have ku6 := keepC hd.out u6; have ku7 := keepC hd.out u7; have ku8 := keepC hd.out u8; have ku9 := keepC hd.out u9; have ku10 := keepC hd.out u10; have ku11 := keepC hd.out u11)
    | (go_at_call 39; (with_reducible refine (CRR.out _ (by first | assumption | exact And.left (by assumption))).mono ?_); rintro e x ⟨rfl, hd⟩; have kz0 := keepC hd.out z0; have kz1 := keepC hd.out z1; have kz2 := keepC hd.out z2; have kz3 := keepC hd.out z3; have kz4 := keepC hd.out z4; have kz5 := keepC hd.out z5; have kz6 := keepC hd.out z6; have kz7 := keepC hd.out z7; have kz8 := keepC hd.out z8; have kz9 := keepC hd.out z9; have kz10 := keepC hd.out z10; have kz11 := keepC hd.out z11; have ku0 := keepC hd.out u0; have ku1 := keepC hd.out u1; have ku2 := keepC hd.out u2; have ku3 := keepC hd.out u3; have ku4 := keepC hd.out u4; have ku5 := keepC hd.out u5; have ku6 := keepC hd.out u6; have ku7 := keepC hd.out u7; have ku8 := keepC hd.out u8; have ku9 := keepC hd.out u9; have ku10 := keepC hd.out u10; have ku11 := keepC hd.out u11)
    | (go_at_call 30; (with_reducible refine (CL.out _ (by first | assumption | exact And.left (by assumption))).mono ?_); rintro e x ⟨rfl, hd⟩; have kz0 := keepC hd.out z0; have kz1 := keepC hd.out z1; have kz2 := keepC hd.out z2; have kz3 := keepC hd.out z3; have kz4 := keepC hd.out z4; have kz5 := keepC hd.out z5; have kz6 := keepC hd.out z6; have kz7 := keepC hd.out z7; have kz8 := keepC hd.out z8; have kz9 := keepC hd.out z9; have kz10 := keepC hd.out z10; have kz11 := keepC hd.out z11; have ku0 := keepC hd.out u0; have ku1 := keepC hd.out u1; have ku2 := keepC hd.out u2; have ku3 := keepC hd.out u3; have ku4 := keepC hd.out u4; have ku5 := keepC hd.out u5; have ku6 := keepC hd.out u6; have ku7 := keepC hd.out u7; have ku8 := keepC hd.out u8; have ku9 := keepC hd.out u9; have ku10 := keepC hd.out u10; have ku11 := keepC hd.out u11))
  go_wp2_with fail
  go_ret
  exact ⟨rfl, HB7.out.trans (hd.out.mono HB7.out.size)⟩
end Go.Proofs.YtbbdmajlbofcmaaDoor.eventSame
