/-
  Put together, as far as it is used: EwA.
-/
import Derived.Test.YtnpmgempkoeapaaGreatDoorPeal
import Derived.Test.YtnpmgempkoeapaaGreatDoorPebb
import Derived.Test.YtnpmgempkoeapaaGreatDoorPeak
set_option linter.unusedVariables false
set_option linter.unusedSimpArgs false
set_option linter.defProp false
namespace Go.Proofs.YtnpmgempkoeapaaGreatDoor
open Go.RowKit Go.Maps Dg
set_option maxRecDepth 100000
theorem eown_app (w : World) (B : Nat) (v : Value) (l : List Nat) (h : Own B w v l) (hB : B ≤ w.heap.size) (A : Option Addr) (m : List Nat) (k c : Nat) (hk : m.length = k) (hm : Rd w A m) (hs : l.length + k ≤ 1000000) (hA : A = none → c = 0) :
 ∃ R W', (Builtin.append_ #[37, 37] 37 #[v, .slice A k c]).run Tryz.prog w = .ok R W' ∧ Own B W' R (l ++ m) ∧ Below B w W' ∧ Kept w W' := by
 subst hk
 obtain ⟨i0, hi, hz0, hz1, hz2⟩ := info_parts info5
 rcases A with _ | a
 ·have hl : m = [] := by
   rcases m with _ | ⟨x, m⟩
   ·rfl
   ·obtain ⟨b, off, e, _⟩ := hm (by simp)
    cases e
  subst hl
  rw [hA rfl, List.append_nil]
  exact ⟨v, w, run_append_owned_none w B 37 37 5 i0 1 Tryz.underlying37 hi v _ _ h, h, Below.refl _ _, fun _ _ _ _ hh => hh⟩
 ·have hc : ∀ j u, (m.map bv)[j]? = some u → w.cell? (a.add j) = some u := by
   intro j u hj
   have hjl : j < m.length := by
    have := (List.getElem?_eq_some_iff.1 hj).1
    simpa using this
   obtain ⟨b, off, e, hc⟩ := hm (by rintro rfl; simp at hjl)
   injection e with e
   subst e
   rw [Addr.add_lit, hc j hjl]
   simpa [hjl] using hj
  obtain ⟨R, W', hrun, hown, hg, _⟩ := run_append_own (P := Tryz.prog) w B 37 37 5 i0 (.int .u8 0) 1 1 Tryz.underlying37 hi hz0 hz1 hz2 rfl (by decide) v l.length (l.map bv) h a m.length c (m.map bv) (by simp) hc (bv_one m) (by unfold maxLen; omega) (by omega) hB
  refine ⟨R, W', hrun, ?_, (Below.refl B w).grown hg hB fun k hk => (World.ownsRow.lt h k hk).1, ?_⟩
  ·unfold Own; rw [List.map_append, List.length_append]; exact hown
  ·intro g t cs ht hh
   refine (hg.block g hh.lt fun e => ?_).trans hh
   rcases h.2 with ⟨hv, _⟩ | ⟨g', cap, cur, hv, _, hc2, _⟩
   ·rw [hv] at e; cases e
   ·rw [hv] at e
    have e2 : g = g' := by simpa [Value.ownBlock] using e
    subst e2
    unfold Has at hh
    rw [hc2] at hh
    simp at hh
    exact ht hh.2.symm
theorem estep_app {P : Program} {ops : Array Oper} {o : Oper} {a : Act} {w : World} {K : Act → World → Prop} {Q : Exit → Act → World → Prop} {E : Prop} (hgd : o.guard = none) (s x : Operand) (t tx : TypeId)
 (ho : o.op = .call { callee := .builtin .append, args := #[s, x], argTypes := #[t, tx] }) (v xv : Value) (hs : a.eval s = v) (hx : a.eval x = xv)
 (hrun : ∃ R W', (Builtin.append_ #[t, tx] o.type #[v, xv]).run P w = .ok R W' ∧ K (a.put o.dst R) W') :
 if Region.wanted o (yielded ops a.tmps) = true then Oper.wp P o a w K Q else E := by
 have hw : Region.wanted o (yielded ops a.tmps) = true := by simp [Region.wanted, hgd]
 rw [if_pos hw]
 obtain ⟨R, W', hrun, h⟩ := hrun
 unfold Oper.wp execOp
 simp only [ho, resolve, invoke, builtin, Sem.run_bind, Sem.run_pure, Result.andThen_ok, List.map_toArray, List.map_cons, List.map_nil, hs, hx, hrun]
 exact h
theorem run_app_growO (w : World) {tx : TypeId} (A : Option Addr) (l : List Nat) (c : Nat) (hl : Rd w A l) (x : Value) (m : List Nat) (hs : Src Tryz.prog 1 tx x m.length (m.map bv) w) (hg : c < l.length + m.length) (hb : l.length + m.length ≤ 1000000) :
 ∃ R W', (Builtin.append_ #[37, tx] 37 #[.slice A l.length c, x]).run Tryz.prog w = .ok R W' ∧ Own w.heap.size W' R (l ++ m) ∧ Below w.heap.size w W' := by
 obtain ⟨i, hi, hz, h1, h2⟩ := info_parts info5
 have hge := grownCap_ge w (l.length + m.length) c 5
 have hle := grownCap_le_maxLen w (l.length + m.length) c 5 (by unfold maxLen; omega)
 have hr := run_append_grow_src (P := Tryz.prog) w 37 tx 37 5 i (.int .u8 0) Tryz.underlying37 hi hz A l.length c (l.map bv) (by rw [h1]; exact firstCells_rd w.drew A l c hl) x m.length (m.map bv) (by rw [h1]; exact hs) hg (by omega) (growslice_fits hg (by rw [h2]; omega))
 refine ⟨_, _, hr, ?_, ((Below.refl _ w).drew).alloc (Nat.le_refl _) _⟩
 unfold Own
 rw [List.length_append, List.map_append]
 refine ⟨by simp, .inr ⟨w.heap.size, _, _, rfl, Nat.le_refl _, heap_alloc_new w.drew _, hge, hle, ?_, ?_⟩⟩
 ·simp only [Array.size_append, List.size_toArray, List.length_append, List.length_map, Nat.mul_one]
  rw [size_zeroCells]
  simp [Value.cells]
  omega
 ·simp only [Array.toList_append, Nat.mul_one]
  have e : (l.map bv ++ m.map bv).length = l.length + m.length := by simp
  rw [← e]
  exact List.take_left
set_option maxHeartbeats 400000 in
theorem behindW_any (A : Option Addr) (l : List Nat) (c : Nat) (A' : Option Addr) (m : List Nat) (d : Nat) (w : World) (hn : l.length ≤ c) (hA : Rd w A l) (hA' : Rd w A' m) (hm : 0 < m.length) (hb : l.length + m.length ≤ 1000000) :
 Calls Tryz.prog 59 #[.slice A l.length c, .slice A' m.length d] w (OutO w (l ++ m)) := by
 have hr := run_app_growO w (tx := 37) A l l.length hA _ m (src_rd w Tryz.underlying37 A' m d hA') (by omega) hb
 have HR := Lib.hid hr
 clear hr
 go_enter Tryz.func59, Tryz.ntmps59
 go_wp2_with (at_builtin; refine wpList_app rfl _ _ 37 37 rfl (.slice A l.length l.length) (.slice A' m.length d) rfl rfl ?_; obtain ⟨R, W', hrun, hmade⟩ := HR.out; refine ⟨R, W', hrun, ?_⟩; have HM := Lib.hid hmade; clear hrun hmade)
 go_ret
 exact ⟨R, rfl, HM.out.1, HM.out.2⟩
set_option maxHeartbeats 400000 in
theorem TextW_any (A : Option Addr) (l : List Nat) (n c : Nat) (s : ByteArray) (w : World) (hl : l.length = n) (hn : n ≤ c) (hA : Rd w A l) (hb : n ≤ 900000) (h0 : s.size ≤ 1000) :
 Calls Tryz.prog 26 #[.slice A n c, .string s] w fun e w' => ∃ v, e = .returned v ∧ Hid (Own w.heap.size w' v (l ++ ytxt s)) ∧ Hid (Below w.heap.size w w') := by
 subst hl
 have hbig : s.size < ybig := by unfold ybig; omega
 have ht := digs_le_ten s.size hbig
 have hp := digs_pos s.size
 go_enter Tryz.func26, Tryz.ntmps26
 go_wp2_with fail
 refine (ydigits_any s.size _ hbig).mono ?_
 intro e w1 hd
 obtain ⟨rfl, hh, _, hb1⟩ := hd
 have hr : Rd w1 (some ⟨w.heap.size, 0, none⟩) (digs s.size) := Rd.of_has hh fun i hi => by simp [hi]
 have HR := Lib.hid (ytext_run w1 w.heap.size 0 (digs s.size) s hr (by omega))
 clear hh hr
 go_wp2_with (at_builtin; refine wpList_app rfl _ _ 37 9 rfl (.slice (some ⟨w.heap.size, 0, none⟩) (digs s.size).length (digs s.size).length) (.string s) rfl rfl ?_; obtain ⟨R, W', hrun, hmade⟩ := HR.out; refine ⟨R, W', hrun, ?_⟩; have HM := Lib.hid hmade; clear hrun hmade)
 obtain ⟨A', d, rfl, hd, hr2, hb2⟩ := HM.out
 have HR2 := Lib.hid hr2
 clear hr2
 go_wp2_with fail
 refine (behindW_any A l c A' (digs s.size ++ sb s) d _ hn ((hA.below hb1).below (hb2.mono (Nat.le_refl _))) HR2.out (by rw [List.length_append]; omega) (by rw [List.length_append, sb_length]; omega)).mono ?_
 rintro e w2 ⟨v, rfl, ho, hb3⟩
 have hs2 := hb2.size
 have HV := Lib.hid (own_down ho (Nat.le_trans hb1.size hs2))
 have HB := Lib.hid ((hb1.trans (hb2.mono hb1.size)).trans (hb3.mono (Nat.le_trans hb1.size hs2)))
 clear ho hb3 HR2 HM HR
 go_wp2_with fail
 go_ret
 exact ⟨v, rfl, HV, HB⟩
set_option maxHeartbeats 400000 in
theorem NumberW_any (A : Option Addr) (l : List Nat) (m c : Nat) (n : Nat) (w : World) (hl : l.length = m) (hn : m ≤ c) (hA : Rd w A l) (hb : m ≤ 900000) (hn63 : (n : Int) ≤ 9223372036854775807) :
 Calls Tryz.prog 29 #[.slice A m c, .int .i64 n] w fun e w' => ∃ v, e = .returned v ∧ Hid (Own w.heap.size w' v (l ++ digs n)) ∧ Hid (Below w.heap.size w w') := by
 subst hl
 have hbig : n < ybig := by unfold ybig; omega
 have ht := digs_le_ten n hbig
 have hp := digs_pos n
 go_enter Tryz.func29, Tryz.ntmps29
 go_wp2_with fail
 refine (ydigits_any n _ hbig).mono ?_
 intro e w1 hd
 obtain ⟨A', d, rfl, hr, hb1⟩ := hd.out
 have HR := Lib.hid hr
 clear hr hd
 go_wp2_with fail
 refine (behindW_any A l c A' (digs n) d _ hn (hA.below hb1) HR.out hp (by omega)).mono ?_
 rintro e w2 ⟨v, rfl, ho, hb3⟩
 have HV := Lib.hid (own_down ho hb1.size)
 have HB := Lib.hid (hb1.trans (hb3.mono hb1.size))
 clear ho hb3 HR
 go_wp2_with fail
 go_ret
 exact ⟨v, rfl, HV, HB⟩
def colB (s : ByteArray) (k : Nat) (no : Bool) : List Nat := ytxt s ++ [k, if no then 1 else 0]
theorem u8_wrap (k : Nat) (h : k < 256) : IntKind.u8.wrap (k : Int) = (k : Int) := by
 unfold IntKind.wrap
 simp [IntKind.signed, IntKind.bits]
 omega
theorem rd_two (w : World) (x y : Nat) : Rd (w.alloc (.cells #[.int .u8 x, .int .u8 y] 5)) (some ⟨w.heap.size, 0, none⟩) [x, y] :=
 Rd.of_has (Has.new w 5 #[.int .u8 x, .int .u8 y]) fun i hi => by
  rcases i with _ | _ | i
  ·rfl
  ·rfl
  ·simp at hi; omega
set_option maxHeartbeats 4000000 in
theorem addColumn_true (A : Option Addr) (l : List Nat) (n c : Nat) (s : ByteArray) (k : Nat) (w : World) (hl : l.length = n) (hn : n ≤ c) (hA : Rd w A l) (hb : n ≤ 800000) (h0 : s.size ≤ 1000) (hk : k < 256) :
 Calls Tryz.prog 62 #[.slice A n c, .agg #[.string s, .int .i64 (k : Int), .bool true]] w fun e w' => ∃ v, e = .returned v ∧ Hid (Own w.heap.size w' v (l ++ colB s k true)) ∧ Hid (Below w.heap.size w w') := by
 obtain ⟨w1, hw1⟩ : ∃ W, w.alloc (.cells #[.string s, .int .i64 (k : Int), .bool true] 29) = W := ⟨_, rfl⟩
 have HB : Hid (Below w.heap.size w w1) := by rw [← hw1]; exact (Below.refl _ w).alloc (Nat.le_refl _) _
 have HH : Hid (Has w1 w.heap.size 29 #[.string s, .int .i64 (k : Int), .bool true]) := by rw [← hw1]; exact Has.new _ _ _
 have HT := Lib.hid (fun (W : World) (hb1 : Below w1.heap.size w1 W) => TextW_any A l n c s W hl hn ((hA.below HB.out).below hb1) (by omega) h0)
 have hln : (l ++ ytxt s).length ≤ 900000 := by
  have := digs_le_ten s.size (by omega)
  unfold ytxt; simp only [List.length_append, sb_length]; omega
 have hwk := u8_wrap k hk
 have c0 : w1.cell? ⟨w.heap.size, 0, none⟩ = some (.string s) := HH.out.cell 0
 have c1 : w1.cell? ⟨w.heap.size, 1, none⟩ = some (.int .i64 k) := HH.out.cell 1
 have c2 : w1.cell? ⟨w.heap.size, 2, none⟩ = some (.bool true) := HH.out.cell 2
 clear hA
 go_enter Tryz.func62, Tryz.ntmps62
 go_wp2_with fail
 clear hw1
 refine wp_region_held_drew (S := (fun X : World => X.cell? ⟨w.heap.size, 0, none⟩ = some (.string s) ∧ X.cell? ⟨w.heap.size, 1, none⟩ = some (.int .i64 k))) (by kernel_rfl) (by exact ⟨c0, c1⟩) (fun _ => ?_)
 (refine wpAnyH_take (i := 0) (v := ?_) rfl (by kernel_rfl) (by kernel_rfl) (by kernel_rfl) (fun _ _ _ h => h) (Or.inl ⟨by rfl, ?_⟩) (by assumption) ?_; rotate_left; (intro w hSw; (try dsimp only at hSw); go_simp; try with_reducible rfl); ((try simp only [zA, zB, zC, Act.put, zD, zE, zF])))
 (refine wpAnyH_take (i := 1) (v := ?_) rfl (by kernel_rfl) (by kernel_rfl) (by kernel_rfl) (fun _ _ _ h => h) (Or.inl ⟨by rfl, ?_⟩) (by assumption) ?_; rotate_left; (intro w hSw; (try dsimp only at hSw); go_simp; try with_reducible rfl); ((try simp only [zA, zB, zC, Act.put, zD, zE, zF])))
 (refine wpAnyH_take (i := 2) (v := ?_) rfl (by kernel_rfl) (by kernel_rfl) (by kernel_rfl) (fun _ _ _ h => h) (Or.inl ⟨by rfl, ?_⟩) (by assumption) ?_; rotate_left; (intro w hSw; (try dsimp only at hSw); go_simp; try with_reducible rfl); ((try simp only [zA, zB, zC, Act.put, zD, zE, zF])))
 (refine wpAnyH_take (i := 4) (v := ?_) rfl (by kernel_rfl) (by kernel_rfl) (by kernel_rfl) (fun _ _ _ h => h) (Or.inl ⟨by rfl, ?_⟩) (by assumption) ?_; rotate_left; (intro w hSw; (try dsimp only at hSw); go_simp; try with_reducible rfl); ((try simp only [zA, zB, zC, Act.put, zD, zE, zF])))
 (refine wpAnyH_take (i := 5) (v := ?_) rfl (by kernel_rfl) (by kernel_rfl) (by kernel_rfl) (fun _ _ _ h => h) (Or.inl ⟨by rfl, ?_⟩) (by assumption) ?_; rotate_left; (intro w hSw; (try dsimp only at hSw); go_simp; try with_reducible rfl); ((try simp only [zA, zB, zC, Act.put, zD, zE, zF])))
 (refine wpAnyH_take (i := 6) (v := ?_) rfl (by kernel_rfl) (by kernel_rfl) (by kernel_rfl) (fun _ _ _ h => h) (Or.inl ⟨by rfl, ?_⟩) (by assumption) ?_; rotate_left; (intro w hSw; (try dsimp only at hSw); go_simp; try with_reducible rfl); ((try simp only [zA, zB, zC, Act.put, zD, zE, zF])))
 (refine wpAnyH_take (i := 7) (v := ?_) rfl (by kernel_rfl) (by kernel_rfl) (by kernel_rfl) (fun _ _ _ h => h) (Or.inl ⟨by rfl, ?_⟩) (by assumption) ?_; rotate_left; (intro w hSw; (try dsimp only at hSw); go_simp; try with_reducible rfl); ((try simp only [zA, zB, zC, Act.put, zD, zE, zF])))
 refine wpAnyH_ready (rs := [3, 8]) (by kernel_rfl) (by simp) ?_
 refine AllReadyH.cons rfl (fun K2 hK2 => ?_) (AllReadyH.cons rfl (fun K2 hK2 => ?_) AllReadyH.nil)
 ·go_simp
  refine (HT.out _ (Below.refl _ _).drew).mono ?_
  rintro e w2 ⟨v2, rfl, ho, hb⟩
  have hb12 : Below w1.heap.size w1 w2 := (Below.refl w1.heap.size w1).drew.trans hb.out
  have HH2 := Lib.hid (HH.out.below hb12 HH.out.lt)
  have HB2 := Lib.hid (HB.out.trans (hb12.mono HB.out.size))
  have HO2 := Lib.hid (own_down ho.out HB.out.size)
  clear ho hb hb12
  have c0w2 : w2.cell? ⟨w.heap.size, 0, none⟩ = some (.string s) := HH2.out.cell 0
  have c1w2 : w2.cell? ⟨w.heap.size, 1, none⟩ = some (.int .i64 k) := HH2.out.cell 1
  go_wp2_with fail
  refine hK2.out _ _ (by (try dsimp only); exact ⟨c0w2, c1w2⟩) (fun _ => ?_)
  clear hK2 K2
  (try simp only [zA, zB, zC, Act.put, zD, zE, zF])
  obtain ⟨w3, hw3⟩ : ∃ W, w2.alloc (.cells #[.int .u8 k, .int .u8 1] 5) = W := ⟨_, rfl⟩
  have hb3 : Below w2.heap.size w2 w3 := by rw [← hw3]; exact (Below.refl _ w2).alloc (Nat.le_refl _) _
  have HRl : Hid (Rd w3 (some ⟨w2.heap.size, 0, none⟩) [k, 1]) := by rw [← hw3]; exact rd_two w2 k 1
  have HHw := Lib.hid (HH2.out.below hb3 HH2.out.lt)
  have HBw := Lib.hid (HB2.out.trans (hb3.mono HB2.out.size))
  have HO := Lib.hid (HO2.out.below hb3)
  clear hb3
  have c0w3 : w3.cell? ⟨w.heap.size, 0, none⟩ = some (.string s) := HHw.out.cell 0
  have c1w3 : w3.cell? ⟨w.heap.size, 1, none⟩ = some (.int .i64 k) := HHw.out.cell 1
  refine wpAnyH_ready (rs := [8]) (by kernel_rfl) (by simp) ?_
  refine AllReadyH.cons rfl (fun K2 hK2 => ?_) AllReadyH.nil
  go_simp
  (try rw [hw3])
  clear hw3
  generalize w2.heap.size = g at *
  refine hK2.out _ _ (by (try dsimp only); exact ⟨c0w3, c1w3⟩) (fun _ => ?_)
  clear hK2 K2
  (try simp only [zA, zB, zC, Act.put, zD, zE, zF])
  refine wpAnyH_ready (rs := [9]) (by kernel_rfl) (by simp) ?_
  refine AllReadyH.cons rfl (fun K2 hK2 => ?_) AllReadyH.nil
  obtain ⟨R9, W9, hrun9, ho9, hb9, hk9⟩ := eown_app w3 w.heap.size v2 _ HO.out HBw.out.size (some ⟨g, 0, none⟩) [k, 1] 2 2 rfl HRl.out (by omega) (fun e => by cases e)
  refine estep_app (by rfl) _ _ _ _ (by rfl) (v2) (.slice (some ⟨g, 0, none⟩) 2 2) (by rfl) (by rfl) ⟨R9, W9, hrun9, ?_⟩
  have HO9 := Lib.hid ho9
  have HB9 := Lib.hid (HBw.out.trans hb9)
  have HC9 := Lib.hid (hk9 w.heap.size 29 _ (by decide) HHw.out)
  clear ho9 hb9 hk9
  refine hK2.out _ _ (by (try dsimp only); exact ⟨HC9.out.cell 0, HC9.out.cell 1⟩) (fun _ => ?_)
  clear hK2 K2 hrun9
  (try simp only [zA, zB, zC, Act.put, zD, zE, zF])
  (refine wpAnyH_take (i := 10) (v := ?_) rfl (by kernel_rfl) (by kernel_rfl) (by kernel_rfl) (fun _ _ _ h => h) (Or.inl ⟨by rfl, ?_⟩) (by assumption) ?_; rotate_left; (intro w hSw; (try dsimp only at hSw); go_simp; try with_reducible rfl); ((try simp only [zA, zB, zC, Act.put, zD, zE, zF])))
  refine wpAnyH_done (by kernel_rfl) ?_ _
  go_wp2_with fail
  go_ret
  refine ⟨_, rfl, ?_, HB9⟩
  have ho := HO9.out
  rw [List.append_assoc] at ho
  exact ho
 ·go_simp
  obtain ⟨w3, hw3⟩ : ∃ W, (w1.alloc (.cells #[.int .u8 k, .int .u8 1] 5)).drew = W := ⟨_, rfl⟩
  have hb13 : Below w1.heap.size w1 w3 := by rw [← hw3]; exact ((Below.refl _ w1).alloc (Nat.le_refl _) _).drew
  have HR3 : Hid (Rd w3 (some ⟨w1.heap.size, 0, none⟩) [k, 1]) := by rw [← hw3]; exact (rd_two w1 k 1).below (Below.refl _ _).drew
  have HH3 := Lib.hid (HH.out.below hb13 HH.out.lt)
  have HB3 := Lib.hid (HB.out.trans (hb13.mono HB.out.size))
  have HB13 := Lib.hid hb13
  clear hb13
  have c0w3 : w3.cell? ⟨w.heap.size, 0, none⟩ = some (.string s) := HH3.out.cell 0
  have c1w3 : w3.cell? ⟨w.heap.size, 1, none⟩ = some (.int .i64 k) := HH3.out.cell 1
  (try rw [hw3])
  clear hw3
  obtain ⟨g, hg⟩ : ∃ g, w1.heap.size = g := ⟨_, rfl⟩
  rw [hg] at HR3 ⊢
  clear hg
  refine hK2.out _ _ (by (try dsimp only); exact ⟨c0w3, c1w3⟩) (fun _ => ?_)
  clear hK2 K2
  (try simp only [zA, zB, zC, Act.put, zD, zE, zF])
  refine wpAnyH_ready (rs := [3]) (by kernel_rfl) (by simp) ?_
  refine AllReadyH.cons rfl (fun K2 hK2 => ?_) AllReadyH.nil
  go_simp
  refine (HT.out _ HB13.out).mono ?_
  rintro e w4 ⟨v2, rfl, ho, hb⟩
  have HHw := Lib.hid (HH3.out.below hb.out HH3.out.lt)
  have HBw := Lib.hid (HB3.out.trans (hb.out.mono HB3.out.size))
  have HO := Lib.hid (own_down ho.out HB3.out.size)
  have HRl := Lib.hid (HR3.out.below hb.out)
  clear ho hb
  have c0w4 : w4.cell? ⟨w.heap.size, 0, none⟩ = some (.string s) := HHw.out.cell 0
  have c1w4 : w4.cell? ⟨w.heap.size, 1, none⟩ = some (.int .i64 k) := HHw.out.cell 1
  go_wp2_with fail
  refine hK2.out _ _ (by (try dsimp only); exact ⟨c0w4, c1w4⟩) (fun _ => ?_)
  clear hK2 K2
  (try simp only [zA, zB, zC, Act.put, zD, zE, zF])
  refine wpAnyH_ready (rs := [9]) (by kernel_rfl) (by simp) ?_
  refine AllReadyH.cons rfl (fun K2 hK2 => ?_) AllReadyH.nil
  obtain ⟨R9, W9, hrun9, ho9, hb9, hk9⟩ := eown_app w4 w.heap.size v2 _ HO.out HBw.out.size (some ⟨g, 0, none⟩) [k, 1] 2 2 rfl HRl.out (by omega) (fun e => by cases e)
  refine estep_app (by rfl) _ _ _ _ (by rfl) (v2) (.slice (some ⟨g, 0, none⟩) 2 2) (by rfl) (by rfl) ⟨R9, W9, hrun9, ?_⟩
  have HO9 := Lib.hid ho9
  have HB9 := Lib.hid (HBw.out.trans hb9)
  have HC9 := Lib.hid (hk9 w.heap.size 29 _ (by decide) HHw.out)
  clear ho9 hb9 hk9
  refine hK2.out _ _ (by (try dsimp only); exact ⟨HC9.out.cell 0, HC9.out.cell 1⟩) (fun _ => ?_)
  clear hK2 K2 hrun9
  (try simp only [zA, zB, zC, Act.put, zD, zE, zF])
  (refine wpAnyH_take (i := 10) (v := ?_) rfl (by kernel_rfl) (by kernel_rfl) (by kernel_rfl) (fun _ _ _ h => h) (Or.inl ⟨by rfl, ?_⟩) (by assumption) ?_; rotate_left; (intro w hSw; (try dsimp only at hSw); go_simp; try with_reducible rfl); ((try simp only [zA, zB, zC, Act.put, zD, zE, zF])))
  refine wpAnyH_done (by kernel_rfl) ?_ _
  go_wp2_with fail
  go_ret
  refine ⟨_, rfl, ?_, HB9⟩
  have ho := HO9.out
  rw [List.append_assoc] at ho
  exact ho
set_option maxHeartbeats 4000000 in
theorem addColumn_false (A : Option Addr) (l : List Nat) (n c : Nat) (s : ByteArray) (k : Nat) (w : World) (hl : l.length = n) (hn : n ≤ c) (hA : Rd w A l) (hb : n ≤ 800000) (h0 : s.size ≤ 1000) (hk : k < 256) :
 Calls Tryz.prog 62 #[.slice A n c, .agg #[.string s, .int .i64 (k : Int), .bool false]] w fun e w' => ∃ v, e = .returned v ∧ Hid (Own w.heap.size w' v (l ++ colB s k false)) ∧ Hid (Below w.heap.size w w') := by
 obtain ⟨w1, hw1⟩ : ∃ W, w.alloc (.cells #[.string s, .int .i64 (k : Int), .bool false] 29) = W := ⟨_, rfl⟩
 have HB : Hid (Below w.heap.size w w1) := by rw [← hw1]; exact (Below.refl _ w).alloc (Nat.le_refl _) _
 have HH : Hid (Has w1 w.heap.size 29 #[.string s, .int .i64 (k : Int), .bool false]) := by rw [← hw1]; exact Has.new _ _ _
 have HT := Lib.hid (fun (W : World) (hb1 : Below w1.heap.size w1 W) => TextW_any A l n c s W hl hn ((hA.below HB.out).below hb1) (by omega) h0)
 have hln : (l ++ ytxt s).length ≤ 900000 := by
  have := digs_le_ten s.size (by omega)
  unfold ytxt; simp only [List.length_append, sb_length]; omega
 have hwk := u8_wrap k hk
 have c0 : w1.cell? ⟨w.heap.size, 0, none⟩ = some (.string s) := HH.out.cell 0
 have c1 : w1.cell? ⟨w.heap.size, 1, none⟩ = some (.int .i64 k) := HH.out.cell 1
 have c2 : w1.cell? ⟨w.heap.size, 2, none⟩ = some (.bool false) := HH.out.cell 2
 clear hA
 go_enter Tryz.func62, Tryz.ntmps62
 go_wp2_with fail
 clear hw1
 refine wp_region_held_drew (S := (fun X : World => X.cell? ⟨w.heap.size, 0, none⟩ = some (.string s) ∧ X.cell? ⟨w.heap.size, 1, none⟩ = some (.int .i64 k))) (by kernel_rfl) (by exact ⟨c0, c1⟩) (fun _ => ?_)
 (refine wpAnyH_take (i := 0) (v := ?_) rfl (by kernel_rfl) (by kernel_rfl) (by kernel_rfl) (fun _ _ _ h => h) (Or.inl ⟨by rfl, ?_⟩) (by assumption) ?_; rotate_left; (intro w hSw; (try dsimp only at hSw); go_simp; try with_reducible rfl); ((try simp only [zA, zB, zC, Act.put, zD, zE, zF])))
 (refine wpAnyH_take (i := 1) (v := ?_) rfl (by kernel_rfl) (by kernel_rfl) (by kernel_rfl) (fun _ _ _ h => h) (Or.inl ⟨by rfl, ?_⟩) (by assumption) ?_; rotate_left; (intro w hSw; (try dsimp only at hSw); go_simp; try with_reducible rfl); ((try simp only [zA, zB, zC, Act.put, zD, zE, zF])))
 (refine wpAnyH_take (i := 2) (v := ?_) rfl (by kernel_rfl) (by kernel_rfl) (by kernel_rfl) (fun _ _ _ h => h) (Or.inl ⟨by rfl, ?_⟩) (by assumption) ?_; rotate_left; (intro w hSw; (try dsimp only at hSw); go_simp; try with_reducible rfl); ((try simp only [zA, zB, zC, Act.put, zD, zE, zF])))
 (refine wpAnyH_take (i := 4) (v := ?_) rfl (by kernel_rfl) (by kernel_rfl) (by kernel_rfl) (fun _ _ _ h => h) (Or.inl ⟨by rfl, ?_⟩) (by assumption) ?_; rotate_left; (intro w hSw; (try dsimp only at hSw); go_simp; try with_reducible rfl); ((try simp only [zA, zB, zC, Act.put, zD, zE, zF])))
 (refine wpAnyH_take (i := 5) (v := ?_) rfl (by kernel_rfl) (by kernel_rfl) (by kernel_rfl) (fun _ _ _ h => h) (Or.inl ⟨by rfl, ?_⟩) (by assumption) ?_; rotate_left; (intro w hSw; (try dsimp only at hSw); go_simp; try with_reducible rfl); ((try simp only [zA, zB, zC, Act.put, zD, zE, zF])))
 (refine wpAnyH_take (i := 6) (v := ?_) rfl (by kernel_rfl) (by kernel_rfl) (by kernel_rfl) (fun _ _ _ h => h) (Or.inl ⟨by rfl, ?_⟩) (by assumption) ?_; rotate_left; (intro w hSw; (try dsimp only at hSw); go_simp; try with_reducible rfl); ((try simp only [zA, zB, zC, Act.put, zD, zE, zF])))
 (refine wpAnyH_take (i := 7) (v := ?_) rfl (by kernel_rfl) (by kernel_rfl) (by kernel_rfl) (fun _ _ _ h => h) (Or.inl ⟨by rfl, ?_⟩) (by assumption) ?_; rotate_left; (intro w hSw; (try dsimp only at hSw); go_simp; try with_reducible rfl); ((try simp only [zA, zB, zC, Act.put, zD, zE, zF])))
 refine wpAnyH_ready (rs := [3, 8]) (by kernel_rfl) (by simp) ?_
 refine AllReadyH.cons rfl (fun K2 hK2 => ?_) (AllReadyH.cons rfl (fun K2 hK2 => ?_) AllReadyH.nil)
 ·go_simp
  refine (HT.out _ (Below.refl _ _).drew).mono ?_
  rintro e w2 ⟨v2, rfl, ho, hb⟩
  have hb12 : Below w1.heap.size w1 w2 := (Below.refl w1.heap.size w1).drew.trans hb.out
  have HH2 := Lib.hid (HH.out.below hb12 HH.out.lt)
  have HB2 := Lib.hid (HB.out.trans (hb12.mono HB.out.size))
  have HO2 := Lib.hid (own_down ho.out HB.out.size)
  clear ho hb hb12
  have c0w2 : w2.cell? ⟨w.heap.size, 0, none⟩ = some (.string s) := HH2.out.cell 0
  have c1w2 : w2.cell? ⟨w.heap.size, 1, none⟩ = some (.int .i64 k) := HH2.out.cell 1
  go_wp2_with fail
  refine hK2.out _ _ (by (try dsimp only); exact ⟨c0w2, c1w2⟩) (fun _ => ?_)
  clear hK2 K2
  (try simp only [zA, zB, zC, Act.put, zD, zE, zF])
  obtain ⟨w3, hw3⟩ : ∃ W, w2.alloc (.cells #[.int .u8 k, .int .u8 0] 5) = W := ⟨_, rfl⟩
  have hb3 : Below w2.heap.size w2 w3 := by rw [← hw3]; exact (Below.refl _ w2).alloc (Nat.le_refl _) _
  have HRl : Hid (Rd w3 (some ⟨w2.heap.size, 0, none⟩) [k, 0]) := by rw [← hw3]; exact rd_two w2 k 0
  have HHw := Lib.hid (HH2.out.below hb3 HH2.out.lt)
  have HBw := Lib.hid (HB2.out.trans (hb3.mono HB2.out.size))
  have HO := Lib.hid (HO2.out.below hb3)
  clear hb3
  have c0w3 : w3.cell? ⟨w.heap.size, 0, none⟩ = some (.string s) := HHw.out.cell 0
  have c1w3 : w3.cell? ⟨w.heap.size, 1, none⟩ = some (.int .i64 k) := HHw.out.cell 1
  refine wpAnyH_ready (rs := [8]) (by kernel_rfl) (by simp) ?_
  refine AllReadyH.cons rfl (fun K2 hK2 => ?_) AllReadyH.nil
  go_simp
  (try rw [hw3])
  clear hw3
  generalize w2.heap.size = g at *
  refine hK2.out _ _ (by (try dsimp only); exact ⟨c0w3, c1w3⟩) (fun _ => ?_)
  clear hK2 K2
  (try simp only [zA, zB, zC, Act.put, zD, zE, zF])
  refine wpAnyH_ready (rs := [9]) (by kernel_rfl) (by simp) ?_
  refine AllReadyH.cons rfl (fun K2 hK2 => ?_) AllReadyH.nil
  obtain ⟨R9, W9, hrun9, ho9, hb9, hk9⟩ := eown_app w3 w.heap.size v2 _ HO.out HBw.out.size (some ⟨g, 0, none⟩) [k, 0] 2 2 rfl HRl.out (by omega) (fun e => by cases e)
  refine estep_app (by rfl) _ _ _ _ (by rfl) (v2) (.slice (some ⟨g, 0, none⟩) 2 2) (by rfl) (by rfl) ⟨R9, W9, hrun9, ?_⟩
  have HO9 := Lib.hid ho9
  have HB9 := Lib.hid (HBw.out.trans hb9)
  have HC9 := Lib.hid (hk9 w.heap.size 29 _ (by decide) HHw.out)
  clear ho9 hb9 hk9
  refine hK2.out _ _ (by (try dsimp only); exact ⟨HC9.out.cell 0, HC9.out.cell 1⟩) (fun _ => ?_)
  clear hK2 K2 hrun9
  (try simp only [zA, zB, zC, Act.put, zD, zE, zF])
  (refine wpAnyH_take (i := 10) (v := ?_) rfl (by kernel_rfl) (by kernel_rfl) (by kernel_rfl) (fun _ _ _ h => h) (Or.inl ⟨by rfl, ?_⟩) (by assumption) ?_; rotate_left; (intro w hSw; (try dsimp only at hSw); go_simp; try with_reducible rfl); ((try simp only [zA, zB, zC, Act.put, zD, zE, zF])))
  refine wpAnyH_done (by kernel_rfl) ?_ _
  go_wp2_with fail
  go_ret
  refine ⟨_, rfl, ?_, HB9⟩
  have ho := HO9.out
  rw [List.append_assoc] at ho
  exact ho
 ·go_simp
  obtain ⟨w3, hw3⟩ : ∃ W, (w1.alloc (.cells #[.int .u8 k, .int .u8 0] 5)).drew = W := ⟨_, rfl⟩
  have hb13 : Below w1.heap.size w1 w3 := by rw [← hw3]; exact ((Below.refl _ w1).alloc (Nat.le_refl _) _).drew
  have HR3 : Hid (Rd w3 (some ⟨w1.heap.size, 0, none⟩) [k, 0]) := by rw [← hw3]; exact (rd_two w1 k 0).below (Below.refl _ _).drew
  have HH3 := Lib.hid (HH.out.below hb13 HH.out.lt)
  have HB3 := Lib.hid (HB.out.trans (hb13.mono HB.out.size))
  have HB13 := Lib.hid hb13
  clear hb13
  have c0w3 : w3.cell? ⟨w.heap.size, 0, none⟩ = some (.string s) := HH3.out.cell 0
  have c1w3 : w3.cell? ⟨w.heap.size, 1, none⟩ = some (.int .i64 k) := HH3.out.cell 1
  (try rw [hw3])
  clear hw3
  obtain ⟨g, hg⟩ : ∃ g, w1.heap.size = g := ⟨_, rfl⟩
  rw [hg] at HR3 ⊢
  clear hg
  refine hK2.out _ _ (by (try dsimp only); exact ⟨c0w3, c1w3⟩) (fun _ => ?_)
  clear hK2 K2
  (try simp only [zA, zB, zC, Act.put, zD, zE, zF])
  refine wpAnyH_ready (rs := [3]) (by kernel_rfl) (by simp) ?_
  refine AllReadyH.cons rfl (fun K2 hK2 => ?_) AllReadyH.nil
  go_simp
  refine (HT.out _ HB13.out).mono ?_
  rintro e w4 ⟨v2, rfl, ho, hb⟩
  have HHw := Lib.hid (HH3.out.below hb.out HH3.out.lt)
  have HBw := Lib.hid (HB3.out.trans (hb.out.mono HB3.out.size))
  have HO := Lib.hid (own_down ho.out HB3.out.size)
  have HRl := Lib.hid (HR3.out.below hb.out)
  clear ho hb
  have c0w4 : w4.cell? ⟨w.heap.size, 0, none⟩ = some (.string s) := HHw.out.cell 0
  have c1w4 : w4.cell? ⟨w.heap.size, 1, none⟩ = some (.int .i64 k) := HHw.out.cell 1
  go_wp2_with fail
  refine hK2.out _ _ (by (try dsimp only); exact ⟨c0w4, c1w4⟩) (fun _ => ?_)
  clear hK2 K2
  (try simp only [zA, zB, zC, Act.put, zD, zE, zF])
  refine wpAnyH_ready (rs := [9]) (by kernel_rfl) (by simp) ?_
  refine AllReadyH.cons rfl (fun K2 hK2 => ?_) AllReadyH.nil
  obtain ⟨R9, W9, hrun9, ho9, hb9, hk9⟩ := eown_app w4 w.heap.size v2 _ HO.out HBw.out.size (some ⟨g, 0, none⟩) [k, 0] 2 2 rfl HRl.out (by omega) (fun e => by cases e)
  refine estep_app (by rfl) _ _ _ _ (by rfl) (v2) (.slice (some ⟨g, 0, none⟩) 2 2) (by rfl) (by rfl) ⟨R9, W9, hrun9, ?_⟩
  have HO9 := Lib.hid ho9
  have HB9 := Lib.hid (HBw.out.trans hb9)
  have HC9 := Lib.hid (hk9 w.heap.size 29 _ (by decide) HHw.out)
  clear ho9 hb9 hk9
  refine hK2.out _ _ (by (try dsimp only); exact ⟨HC9.out.cell 0, HC9.out.cell 1⟩) (fun _ => ?_)
  clear hK2 K2 hrun9
  (try simp only [zA, zB, zC, Act.put, zD, zE, zF])
  (refine wpAnyH_take (i := 10) (v := ?_) rfl (by kernel_rfl) (by kernel_rfl) (by kernel_rfl) (fun _ _ _ h => h) (Or.inl ⟨by rfl, ?_⟩) (by assumption) ?_; rotate_left; (intro w hSw; (try dsimp only at hSw); go_simp; try with_reducible rfl); ((try simp only [zA, zB, zC, Act.put, zD, zE, zF])))
  refine wpAnyH_done (by kernel_rfl) ?_ _
  go_wp2_with fail
  go_ret
  refine ⟨_, rfl, ?_, HB9⟩
  have ho := HO9.out
  rw [List.append_assoc] at ho
  exact ho
theorem addColumn_any (A : Option Addr) (l : List Nat) (n c : Nat) (s : ByteArray) (k : Nat) (no : Bool) (w : World) (hl : l.length = n) (hn : n ≤ c) (hA : Rd w A l) (hb : n ≤ 800000) (h0 : s.size ≤ 1000) (hk : k < 256) :
 Calls Tryz.prog 62 #[.slice A n c, .agg #[.string s, .int .i64 (k : Int), .bool no]] w fun e w' => ∃ v, e = .returned v ∧ Hid (Own w.heap.size w' v (l ++ colB s k no)) ∧ Hid (Below w.heap.size w w') := by
 rcases no with _ | _
 ·exact addColumn_false A l n c s k w hl hn hA hb h0 hk
 ·exact addColumn_true A l n c s k w hl hn hA hb h0 hk
end Go.Proofs.YtnpmgempkoeapaaGreatDoor
