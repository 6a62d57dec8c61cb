/-
  Put together, as far as it is used: Mb, PtZ, WvN, WvR, WvX, Col, Qa, Qb, Qc.
-/
import Derived.Test.YtlnbhlgkehenpaaGreatDoorPwb
import Derived.RegionTactic
import Derived.Deep.QuietTactic
import Derived.BigQuiet
import Derived.Lib.AppendZerosOnto
import Derived.Laws.AppendOwnNone
import Derived.Deep.RegionHeld3
set_option linter.unusedVariables false
set_option linter.unusedSimpArgs false
set_option linter.defProp false
namespace Go.Proofs.YtlnbhlgkehenpaaGreatDoor
open Go.RowKit Dg
set_option maxRecDepth 100000
def wkB (x : Wk) : List Nat := ytxt x.t ++ ([if x.d then 1 else 0] ++ ytxt x.k)
def worksB (T : List Wk) (k : Nat) : List Nat := (T.take k).flatMap wkB
def numsB (x y z n : Nat) : List Nat := digs x ++ digs y ++ digs z ++ digs n
def ptB (x y z : Int) (T : List Wk) : List Nat := numsB x.toNat y.toNat z.toNat T.length ++ worksB T T.length
theorem worksB_succ (T : List Wk) (k : Nat) (h : k < T.length) : worksB T (k + 1) = worksB T k ++ wkB T[k] := by
 unfold worksB
 rw [List.take_succ_eq_append_getElem h, List.flatMap_append]
 simp
theorem txt_len (s : ByteArray) (h : s.size ≤ 900) : (ytxt s).length ≤ 910 := by
 unfold ytxt; rw [List.length_append, sb_length]; have := digs_le_ten s.size (by omega); omega
theorem wkB_len {x : Wk} (h : x.t.size ≤ 40 ∧ x.k.size ≤ 40) : (wkB x).length ≤ 1821 := by
 unfold wkB
 have h1 := txt_len x.t (by omega)
 have h2 := txt_len x.k (by omega)
 simp only [List.length_append, List.length_singleton]
 omega
theorem worksB_len {T : List Wk} (h : Short T) (k : Nat) (hk : k ≤ T.length) : (worksB T k).length ≤ 1821 * k := by
 induction k with
 | zero => simp [worksB]
 | succ k ih =>
   rw [worksB_succ T k (by omega), List.length_append]
   have h1 := ih (by omega)
   have h2 := wkB_len (h T[k] (List.getElem_mem (by omega)))
   omega
theorem numsB_len (x y z n : Nat) (hx : x < 9223372036854775808) (hy : y < 9223372036854775808) (hz : z < 9223372036854775808) (hn : n < 9223372036854775808) : (numsB x y z n).length ≤ 40 := by
 unfold numsB
 have h1 := digs_le_ten x (by omega)
 have h2 := digs_le_ten y (by omega)
 have h3 := digs_le_ten z (by omega)
 have h4 := digs_le_ten n (by omega)
 simp only [List.length_append]
 omega
def fourN (x y z n : Nat) (k : Nat) : Nat := if k = 0 then x else if k = 1 then y else if k = 2 then z else n
def fourB (x y z n : Nat) (k : Nat) : List Nat := (List.range k).flatMap fun i => digs (fourN x y z n i)
theorem fourB_succ (x y z n k : Nat) : fourB x y z n (k + 1) = fourB x y z n k ++ digs (fourN x y z n k) := by
 unfold fourB; rw [List.range_succ, List.flatMap_append]; simp
theorem fourB_all (x y z n : Nat) : fourB x y z n 4 = numsB x y z n := by
 simp [fourB, numsB, fourN, List.range_succ]
theorem fourB_len (x y z n k : Nat) (hx : x < 9223372036854775808) (hy : y < 9223372036854775808) (hz : z < 9223372036854775808) (hn : n < 9223372036854775808) (hk : k ≤ 4) : (fourB x y z n k).length ≤ 10 * k := by
 induction k with
 | zero => simp [fourB]
 | succ k ih =>
   rw [fourB_succ, List.length_append]
   have h1 := ih (by omega)
   have h2 : fourN x y z n k < 9223372036854775808 := by unfold fourN; split; exact hx; split; exact hy; split <;> assumption
   have h3 := digs_le_ten (fourN x y z n k) (by omega)
   omega
theorem num0_any (n : Nat) (w : World) (hn : (n : Int) ≤ 9223372036854775807) : Calls Tryz.prog 41 #[.slice none 0 0, .int .i64 n] w fun e w' => ∃ A m c, e = .returned (.slice A m c) ∧ Hid ((digs n).length = m) ∧ Hid (Rd w' A (digs n)) ∧ Hid (A = none → c = 0) ∧ Hid (Below w.heap.size w w') := by
 refine (yNumber_any none [] 0 n w (Nat.le_refl _) (Rd.nil _ _) (by simp) hn).mono ?_
 rintro e w' ⟨v, rfl, A, c, rfl, hc, hr, hb⟩
 rw [List.nil_append] at hr hc ⊢
 refine ⟨A, _, c, rfl, rfl, hr, fun e => ?_, hb⟩
 have hp := digs_pos n
 obtain ⟨b, off, e2, _⟩ := hr (by intro h; rw [h] at hp; simp at hp)
 rw [e] at e2; cases e2
theorem txt0_any (s : ByteArray) (w : World) (hs : s.size ≤ 900) : Calls Tryz.prog 43 #[.slice none 0 0, .string s] w fun e w' => ∃ A m c, e = .returned (.slice A m c) ∧ Hid ((ytxt s).length = m) ∧ Hid (Rd w' A (ytxt s)) ∧ Hid (A = none → c = 0) ∧ Hid (Below w.heap.size w w') := by
 refine (yText_any none [] 0 s w (Nat.le_refl _) (Rd.nil _ _) (by simp) (by omega)).mono ?_
 rintro e w' ⟨v, rfl, A, c, rfl, hc, hr, hb⟩
 have e1 : ([] : List Nat) ++ (digs s.size ++ sb s) = ytxt s := by unfold ytxt; simp
 rw [e1] at hr hc ⊢
 refine ⟨A, _, c, rfl, rfl, hr, fun e => ?_, hb⟩
 have hp := ytxt_pos s
 obtain ⟨b, off, e2, _⟩ := hr (by intro h; rw [h] at hp; simp at hp)
 rw [e] at e2; cases e2
set_option maxHeartbeats 1000000 in
theorem flag_any11 (d : Bool) (w : World) : Calls Tryz.prog 66 #[.bool d] w fun e w' => e = .returned (.int .u8 (if d then 1 else 0)) ∧ w' = w := by
 cases d
 all_goals
  go_enter Tryz.func66, Tryz.ntmps66
  go_wp2_with fail
  go_ret
  exact ⟨rfl, rfl⟩
theorem own_appK (w : World) (B : Nat) (v : Value) (l : List Nat) (h : Own B w v l) (hB : B ≤ w.heap.size) (A : Option Addr) (m : List Nat) (k c : Nat) (hk : m.length = k) (hm : Rd w A m) (hs : l.length + k ≤ 1000000) (hA : A = none → c = 0) :
 ∃ R W', (Builtin.append_ #[70, 70] 70 #[v, .slice A k c]).run Tryz.prog w = .ok R W' ∧ Own B W' R (l ++ m) ∧ Below B w W' ∧ Kept w W' := by
 subst hk
 obtain ⟨i0, hi, hz0, hz1, hz2⟩ := info_parts info5
 rcases A with _ | a
 ·have hl : m = [] := by
   rcases m with _ | ⟨x, m⟩
   ·rfl
   ·obtain ⟨b, off, e, _⟩ := hm (by simp)
    cases e
  subst hl
  rw [hA rfl, List.append_nil]
  exact ⟨v, w, run_append_owned_none w B 70 70 5 i0 1 Tryz.underlying70 hi v _ _ h, h, Below.refl _ _, fun _ _ _ _ hh => hh⟩
 ·have hc : ∀ j u, (m.map bv)[j]? = some u → w.cell? (a.add j) = some u := by
   intro j u hj
   have hjl : j < m.length := by
    have := (List.getElem?_eq_some_iff.1 hj).1
    simpa using this
   obtain ⟨b, off, e, hc⟩ := hm (by rintro rfl; simp at hjl)
   injection e with e
   subst e
   rw [Addr.add_lit, hc j hjl]
   simpa [hjl] using hj
  obtain ⟨R, W', hrun, hown, hg, _⟩ := run_append_own (P := Tryz.prog) w B 70 70 5 i0 (.int .u8 0) 1 1 Tryz.underlying70 hi hz0 hz1 hz2 rfl (by decide) v l.length (l.map bv) h a m.length c (m.map bv) (by simp) hc (bv_one m) (by unfold maxLen; omega) (by omega) hB
  refine ⟨R, W', hrun, ?_, (Below.refl B w).grown hg hB fun k hk => (World.ownsRow.lt h k hk).1, ?_⟩
  ·unfold Own; rw [List.map_append, List.length_append]; exact hown
  ·intro g t cs ht hh
   refine (hg.block g hh.lt fun e => ?_).trans hh
   rcases h.2 with ⟨hv, _⟩ | ⟨g', cap, cur, hv, _, hc2, _⟩
   ·rw [hv] at e; cases e
   ·rw [hv] at e
    have e2 : g = g' := by simpa [Value.ownBlock] using e
    subst e2
    unfold Has at hh
    rw [hc2] at hh
    simp at hh
    exact ht hh.2.symm
theorem idx4 (a b c d : Int) (w : World) :
 (Instr.index 118 (.agg #[.int .i64 a, .int .i64 b, .int .i64 c, .int .i64 d]) (.int .i64 0)).run Tryz.prog w = .ok (.int .i64 a) w ∧ (Instr.index 118 (.agg #[.int .i64 a, .int .i64 b, .int .i64 c, .int .i64 d]) (.int .i64 1)).run Tryz.prog w = .ok (.int .i64 b) w ∧
 (Instr.index 118 (.agg #[.int .i64 a, .int .i64 b, .int .i64 c, .int .i64 d]) (.int .i64 2)).run Tryz.prog w = .ok (.int .i64 c) w ∧ (Instr.index 118 (.agg #[.int .i64 a, .int .i64 b, .int .i64 c, .int .i64 d]) (.int .i64 3)).run Tryz.prog w = .ok (.int .i64 d) w := by
 refine ⟨?_, ?_, ?_, ?_⟩
 ·simp [Instr.index, run_underlying Tryz.underlying118, asIntOf, go_sem]
 ·simp [Instr.index, run_underlying Tryz.underlying118, asIntOf, go_sem]
 ·simp [Instr.index, run_underlying Tryz.underlying118, asIntOf, go_sem]
 ·simp [Instr.index, run_underlying Tryz.underlying118, asIntOf, go_sem]
theorem flag_lit (w : World) : (Calls Tryz.prog 66 #[.bool true] w fun e w' => e = .returned (.int .u8 1) ∧ w' = w) ∧ (Calls Tryz.prog 66 #[.bool false] w fun e w' => e = .returned (.int .u8 0) ∧ w' = w) :=
 ⟨flag_any11 true w, flag_any11 false w⟩
theorem Kept.has {w w' : World} (h : Kept w w') {g : Nat} {t : TypeId} {cs : Array Value} (hh : Has w g t cs) (ht : t ≠ 5) : Has w' g t cs := h g t cs ht hh
set_option maxHeartbeats 16000000 in
theorem pwrite_any {B : Nat} {A : Option Addr} {n c : Nat} {T : List Wk} (x y z : Int) (w : World) (h : OwnW B w (.slice A n c) T) (hsh : Short T) (hl : T.length ≤ 6) (hx : x ≤ 9223372036854775807) (hy : y ≤ 9223372036854775807) (hz : z ≤ 9223372036854775807) (hT : Tabs w) (hT0 : T = []) :
 Calls Tryz.prog 40 #[.agg #[.int .i64 x, .int .i64 y, .int .i64 z, .slice A n c]] w fun e w' => ∃ v, e = .returned (.tuple #[v, .int .i64 (if ptOk x y z T then 0 else 1)]) ∧ Hid (Own w.heap.size w' v (if ptOk x y z T then ptB x y z T else [])) ∧ Hid (Below w.heap.size w w') := by
 have HT0 := Lib.hid hT0
 clear hT0
 have hb0 : Below w.heap.size w (w.alloc (.cells #[.int .i64 x, .int .i64 y, .int .i64 z, .slice A n c] 75)) := (Below.refl _ w).alloc (Nat.le_refl _) _
 have HMY := Lib.hid (pptmay_any x y z _ (h.below hb0) (by omega) (fun x hx => by have := hsh x hx; omega) (hT.below hb0) HT0.out)
 have HX0 := Lib.hid (Has.new w 75 #[.int .i64 x, .int .i64 y, .int .i64 z, .slice A n c])
 have HB0 := Lib.hid hb0
 obtain ⟨A2, n2, c2, e2, HN, hnc, hcm, HR, HZ⟩ := ownW_open h
 obtain ⟨rfl, rfl, rfl⟩ := slice_inj e2
 have HSH := Lib.hid hsh
 clear h hT hb0 hsh e2
 unfold maxLen at hcm
 cases hok : ptOk x y z T
 ·rw [hok] at HMY
  go_enter Tryz.func40, Tryz.ntmps40
  have x0 := HX0.out.cell 0
  have x1 := HX0.out.cell 1
  have x2 := HX0.out.cell 2
  have x3 := HX0.out.cell 3
  simp at x0 x1 x2 x3
  go_wp2_with fail
  refine HMY.out.mono ?_
  rintro e w1 ⟨rfl, hb1⟩
  have HB1 := Lib.hid (HB0.out.trans (hb1.out.mono HB0.out.size))
  clear x0 x1 x2 x3
  go_wp2_with fail
  go_ret2
  exact ⟨_, rfl, own_nil _ _, HB1⟩
 ·rw [hok] at HMY
  have hpos : 0 ≤ x ∧ 0 ≤ y ∧ 0 ≤ z := by
   unfold ptOk at hok
   simp only [Bool.and_eq_true, decide_eq_true_eq] at hok
   exact ⟨hok.1.1.1, hok.1.1.2, hok.1.2⟩
  obtain ⟨h0, h1, h2⟩ := hpos
  obtain ⟨X, rfl⟩ : ∃ X : Nat, x = (X : Int) := ⟨x.toNat, by omega⟩
  obtain ⟨Y, rfl⟩ : ∃ Y : Nat, y = (Y : Int) := ⟨y.toNat, by omega⟩
  obtain ⟨Z, rfl⟩ : ∃ Z : Nat, z = (Z : Int) := ⟨z.toNat, by omega⟩
  have HPB : Hid (ptB (X : Int) (Y : Int) (Z : Int) T = numsB X Y Z n ++ worksB T n) := by show _ = _; unfold ptB; rw [HN.out]; rfl
  have hn6 : n ≤ 6 := by have := HN.out; omega
  clear hok
  generalize ptB (X : Int) (Y : Int) (Z : Int) T = PB at *
  go_enter Tryz.func40, Tryz.ntmps40
  have x0 := HX0.out.cell 0
  have x1 := HX0.out.cell 1
  have x2 := HX0.out.cell 2
  have x3 := HX0.out.cell 3
  simp at x0 x1 x2 x3
  go_wp2_with fail
  refine HMY.out.mono ?_
  rintro e w1 ⟨rfl, hb1⟩
  have HB1 := Lib.hid (HB0.out.trans (hb1.out.mono HB0.out.size))
  have HX1 := Lib.hid (HX0.out.below hb1.out HX0.out.lt)
  have hs1 : w.heap.size + 1 ≤ w1.heap.size := by have := hb1.out.size; simpa using this
  clear x0 x1 x2 x3 hb1 HX0 HB0 HMY
  have x0 : w1.cell? ⟨w.heap.size, 0, none⟩ = some (.int .i64 (X : Int)) := HX1.out.cell 0
  have x1 : w1.cell? ⟨w.heap.size, 1, none⟩ = some (.int .i64 (Y : Int)) := HX1.out.cell 1
  have x2 : w1.cell? ⟨w.heap.size, 2, none⟩ = some (.int .i64 (Z : Int)) := HX1.out.cell 2
  have x3 : w1.cell? ⟨w.heap.size, 3, none⟩ = some (.slice A n c) := HX1.out.cell 3
  go_wp2_with fail
  clear x0 x1 x2 x3
  go_loopw [4, 22] (fun b i wr => ∃ (k : Nat) (u : Value), k ≤ 4 ∧ i = .int .i64 k ∧ u = b ∧ Hid (Own (w.heap.size + 1) wr u (fourB X Y Z n k)) ∧ Hid (Below (w.heap.size + 1) w1 wr)) (fun _ i _ => 4 - (intOf i).toNat)
  case atStart => exact ⟨0, _, by omega, rfl, rfl, own_nil _ _, Below.refl _ _⟩
  case round =>
   obtain ⟨k, u, hk, rfl, rfl, HO, HB⟩ := hrel
   by_cases hk4 : k < 4
   ·have HSU := Lib.hid (fourB_succ X Y Z n k)
    have HLE := Lib.hid (fourB_len X Y Z n k (by omega) (by omega) (by omega) (by omega) (by omega))
    generalize fourB X Y Z n k = M at *
    have hkk : k = 0 ∨ k = 1 ∨ k = 2 ∨ k = 3 := by omega
    have hix := fun (W : World) => idx4 (X : Int) (Y : Int) (Z : Int) (n : Int) W
    obtain ⟨hi0, hi1, hi2, hi3⟩ : (∀ W, _) ∧ (∀ W, _) ∧ (∀ W, _) ∧ (∀ W, _) := ⟨fun W => (hix W).1, fun W => (hix W).2.1, fun W => (hix W).2.2.1, fun W => (hix W).2.2.2⟩
    clear hix
    rcases hkk with rfl | rfl | rfl | rfl
    ·go_wp2_with fail
     refine (num0_any X wr (by omega)).mono ?_
     rintro e w3 ⟨A3, m3, c3, rfl, hm3, hr3, hz3, hb3⟩
     have hOO : Own (w.heap.size + 1) w3 u M := HO.out.below hb3.out
     obtain ⟨R4, W4, hrun4, ho4, hb4, _⟩ := own_appK w3 (w.heap.size + 1) u M hOO (Nat.le_trans hs1 (Nat.le_trans HB.out.size hb3.out.size)) A3 (digs X) m3 c3 hm3.out hr3.out (by have := HLE.out; have := hm3.out; have := digs_le_ten X (by omega); omega) hz3.out
     have HO4 : Hid (Own (w.heap.size + 1) W4 R4 (fourB X Y Z n (0 + 1))) := by show Own _ _ _ _; rw [HSU.out]; exact ho4
     have HB4 := Lib.hid ((HB.out.trans (hb3.out.mono (Nat.le_trans hs1 HB.out.size))).trans hb4)
     clear ho4 hb4 hOO hb3
     go_wp2_with (at_builtin; refine wpList_app rfl _ _ 70 70 rfl u (.slice A3 m3 c3) rfl rfl ⟨_, _, hrun4, ?_⟩)
     go_roundw
     case rel => exact ⟨0 + 1, R4, by omega, by go_num, rfl, HO4.out, HB4.out⟩
     case measure => simp [intOf]
    ·go_wp2_with fail
     refine (num0_any Y wr (by omega)).mono ?_
     rintro e w3 ⟨A3, m3, c3, rfl, hm3, hr3, hz3, hb3⟩
     have hOO : Own (w.heap.size + 1) w3 u M := HO.out.below hb3.out
     obtain ⟨R4, W4, hrun4, ho4, hb4, _⟩ := own_appK w3 (w.heap.size + 1) u M hOO (Nat.le_trans hs1 (Nat.le_trans HB.out.size hb3.out.size)) A3 (digs Y) m3 c3 hm3.out hr3.out (by have := HLE.out; have := hm3.out; have := digs_le_ten Y (by omega); omega) hz3.out
     have HO4 : Hid (Own (w.heap.size + 1) W4 R4 (fourB X Y Z n (1 + 1))) := by show Own _ _ _ _; rw [HSU.out]; exact ho4
     have HB4 := Lib.hid ((HB.out.trans (hb3.out.mono (Nat.le_trans hs1 HB.out.size))).trans hb4)
     clear ho4 hb4 hOO hb3
     go_wp2_with (at_builtin; refine wpList_app rfl _ _ 70 70 rfl u (.slice A3 m3 c3) rfl rfl ⟨_, _, hrun4, ?_⟩)
     go_roundw
     case rel => exact ⟨1 + 1, R4, by omega, by go_num, rfl, HO4.out, HB4.out⟩
     case measure => simp [intOf]
    ·go_wp2_with fail
     refine (num0_any Z wr (by omega)).mono ?_
     rintro e w3 ⟨A3, m3, c3, rfl, hm3, hr3, hz3, hb3⟩
     have hOO : Own (w.heap.size + 1) w3 u M := HO.out.below hb3.out
     obtain ⟨R4, W4, hrun4, ho4, hb4, _⟩ := own_appK w3 (w.heap.size + 1) u M hOO (Nat.le_trans hs1 (Nat.le_trans HB.out.size hb3.out.size)) A3 (digs Z) m3 c3 hm3.out hr3.out (by have := HLE.out; have := hm3.out; have := digs_le_ten Z (by omega); omega) hz3.out
     have HO4 : Hid (Own (w.heap.size + 1) W4 R4 (fourB X Y Z n (2 + 1))) := by show Own _ _ _ _; rw [HSU.out]; exact ho4
     have HB4 := Lib.hid ((HB.out.trans (hb3.out.mono (Nat.le_trans hs1 HB.out.size))).trans hb4)
     clear ho4 hb4 hOO hb3
     go_wp2_with (at_builtin; refine wpList_app rfl _ _ 70 70 rfl u (.slice A3 m3 c3) rfl rfl ⟨_, _, hrun4, ?_⟩)
     go_roundw
     case rel => exact ⟨2 + 1, R4, by omega, by go_num, rfl, HO4.out, HB4.out⟩
     case measure => simp [intOf]
    ·go_wp2_with fail
     refine (num0_any n wr (by omega)).mono ?_
     rintro e w3 ⟨A3, m3, c3, rfl, hm3, hr3, hz3, hb3⟩
     have hOO : Own (w.heap.size + 1) w3 u M := HO.out.below hb3.out
     obtain ⟨R4, W4, hrun4, ho4, hb4, _⟩ := own_appK w3 (w.heap.size + 1) u M hOO (Nat.le_trans hs1 (Nat.le_trans HB.out.size hb3.out.size)) A3 (digs n) m3 c3 hm3.out hr3.out (by have := HLE.out; have := hm3.out; have := digs_le_ten n (by omega); omega) hz3.out
     have HO4 : Hid (Own (w.heap.size + 1) W4 R4 (fourB X Y Z n (3 + 1))) := by show Own _ _ _ _; rw [HSU.out]; exact ho4
     have HB4 := Lib.hid ((HB.out.trans (hb3.out.mono (Nat.le_trans hs1 HB.out.size))).trans hb4)
     clear ho4 hb4 hOO hb3
     go_wp2_with (at_builtin; refine wpList_app rfl _ _ 70 70 rfl u (.slice A3 m3 c3) rfl rfl ⟨_, _, hrun4, ?_⟩)
     go_roundw
     case rel => exact ⟨3 + 1, R4, by omega, by go_num, rfl, HO4.out, HB4.out⟩
     case measure => simp [intOf]
   ·obtain rfl : k = 4 := by omega
    rw [show ((4 : Nat) : Int) = 4 from rfl]
    have HF := Lib.hid (fourB_all X Y Z n)
    have HNL := numsB_len X Y Z n (by omega) (by omega) (by omega) (by omega)
    have HX2 := Lib.hid (HX1.out.below HB.out (by omega))
    have x3 : wr.cell? ⟨w.heap.size, 3, none⟩ = some (.slice A n c) := HX2.out.cell 3
    rw [HF.out] at HO
    obtain ⟨wo, rfl⟩ : ∃ wo : World, wo = wr := ⟨_, rfl⟩
    have HBX := Lib.hid (HB1.out.trans (HB.out.mono (by omega)))
    have hso : w.heap.size + 1 ≤ wo.heap.size := Nat.le_trans hs1 HB.out.size
    have HRO := Lib.hid (HR.out.below HBX.out)
    generalize numsB X Y Z n = NB at *
    go_wp2_with fail
    clear x3
    go_loopw [4, 33] (fun b i wx => ∃ (k : Nat) (u : Value), k ≤ n ∧ i = .int .i64 k ∧ u = b ∧ Hid (Own (w.heap.size + 1) wx u (NB ++ worksB T k)) ∧ Hid (Below (w.heap.size + 1) wo wx)) (fun _ i _ => n - (intOf i).toNat)
    case atStart => exact ⟨0, _, by omega, rfl, rfl, by show Own _ _ _ _; simpa [worksB] using HO.out, Below.refl _ _⟩
    case round =>
     obtain ⟨k, u2, hkn, rfl, rfl, HO2, HB2⟩ := hrel
     have HW2 := Lib.hid (HBX.out.trans (HB2.out.mono (by omega)))
     by_cases hkl : k < n
     ·have hkt : k < T.length := by rw [HN.out]; exact hkl
      obtain ⟨b, off, rfl, hc0⟩ := (HR.out.below HW2.out) (by intro e; rw [e] at hkt; simp at hkt)
      obtain ⟨c0, c1, c2⟩ := hc0 k hkt
      have HSU := Lib.hid (worksB_succ T k hkt)
      have HLE := Lib.hid (worksB_len HSH.out k (by omega))
      have hxs := HSH.out T[k] (List.getElem_mem hkt)
      have hkz : (k : Int) < (n : Int) := by omega
      clear hc0
      generalize worksB T k = M at *
      generalize T[k] = xk at *
      obtain ⟨xt, xd, xq⟩ := xk
      simp only at c0 c1 c2 hxs
      have ht1 := txt_len xt (by omega)
      have ht2 := txt_len xq (by omega)
      have HT1 := Lib.hid (fun W => txt0_any xt W (by omega))
      have HT2 := Lib.hid (fun W => txt0_any xq W (by omega))
      cases xd
      ·have HWB : Hid (wkB ⟨xt, false, xq⟩ = ytxt xt ++ ([0] ++ ytxt xq)) := rfl
       obtain ⟨q, hq⟩ : ∃ q, wr.heap.size = q := ⟨_, rfl⟩
       have HQ := Lib.hid (Has.new wr 120 #[.string xt, .bool false, .string xq])
       have hba : Below wr.heap.size wr (wr.alloc (.cells #[.string xt, .bool false, .string xq] 120)) := (Below.refl _ wr).alloc (Nat.le_refl _) _
       have hO5 := HO2.out.below hba
       have hsr : w.heap.size + 1 ≤ wr.heap.size := Nat.le_trans hso HB2.out.size
       have HB5 := Lib.hid (HB2.out.trans (hba.mono hsr))
       go_wp2_with fail
       obtain ⟨W5, hW5⟩ : ∃ W, W = wr.alloc (.cells #[.string xt, .bool false, .string xq] 120) := ⟨_, rfl⟩
       rw [← hW5] at HQ hba hO5 HB5 ⊢
       have HO5 := Lib.hid hO5
       have hs5 : w.heap.size + 1 ≤ W5.heap.size := Nat.le_trans hsr hba.size
       clear hW5 hba hO5
       rw [hq] at HQ
       clear hq c0 c1 c2
       refine (HT1.out W5).mono ?_
       rintro e w6 ⟨A6, m6, c6, rfl, hm6, hr6, hz6, hb6⟩
       obtain ⟨R7, W7, hrun7, ho7, hb7, hk7⟩ := own_appK w6 (w.heap.size + 1) u2 (NB ++ M) (HO5.out.below hb6.out) (Nat.le_trans hs5 hb6.out.size) A6 (ytxt xt) m6 c6 hm6.out hr6.out (by rw [List.length_append]; have := HLE.out; have := hm6.out; omega) hz6.out
       have HO7 := Lib.hid ho7
       have HB7 := Lib.hid ((HB5.out.trans (hb6.out.mono hs5)).trans hb7)
       have HQ7 := Lib.hid (hk7.has (HQ.out.below hb6.out HQ.out.lt) (by decide))
       have hs7 : w.heap.size + 1 ≤ W7.heap.size := Nat.le_trans hso HB7.out.size
       have d1 : W7.cell? ⟨q, 1, none⟩ = some (.bool false) := HQ7.out.cell 1
       clear ho7 hb7 hk7 hb6 HB5 HO5 HQ
       have hlen7 : (NB ++ M ++ ytxt xt).length ≤ 12000 := by simp only [List.length_append]; have := HLE.out; omega
       have HA8 := Lib.hid (app_new W7 (w.heap.size + 1) R7 (NB ++ M ++ ytxt xt) [0] #[.int .u8 0] (by simp [bv]) 1 rfl HO7.out hs7 (by omega))
       obtain ⟨R8, W8, hrun8, ho8, hb8⟩ := HA8.out
       have hk8 := (app_at W7 W7.heap.size rfl (w.heap.size + 1) R7 (NB ++ M ++ ytxt xt) [0] #[.int .u8 0] (by simp [bv]) 1 rfl HO7.out hs7 (by omega))
       obtain ⟨R8b, W8b, hrun8b, _, _, hk8⟩ := hk8
       obtain ⟨rfl, rfl⟩ : R8b = R8 ∧ W8b = W8 := by rw [hrun8] at hrun8b; injection hrun8b with e1 e2; exact ⟨e1.symm, e2.symm⟩
       have HO8 := Lib.hid ho8
       have HB8 := Lib.hid (HB7.out.trans hb8)
       have HQ8 := Lib.hid (hk8.has HQ7.out (by decide))
       have hs8 : w.heap.size + 1 ≤ W8b.heap.size := Nat.le_trans hso HB8.out.size
       have d2 : W8b.cell? ⟨q, 2, none⟩ = some (.string xq) := HQ8.out.cell 2
       clear ho8 hb8 hk8 hrun8b HA8
       have HFL := Lib.hid ((flag_lit W7).2)
       go_wp2_with (at_builtin; refine wpList_app rfl _ _ 70 70 rfl u2 (.slice A6 m6 c6) rfl rfl ⟨_, _, hrun7, ?_⟩)
       refine HFL.out.mono ?_
       rintro e w9 ⟨rfl, rfl⟩
       go_wp2_with (at_builtin; refine wpList_app rfl _ _ 70 70 rfl R7 (.slice (some ⟨w9.heap.size, 0, none⟩) 1 1) rfl rfl ⟨_, _, hrun8, ?_⟩)
       refine (HT2.out _).mono ?_
       rintro e w10 ⟨A10, m10, c10, rfl, hm10, hr10, hz10, hb10⟩
       obtain ⟨R11, W11, hrun11, ho11, hb11, _⟩ := own_appK w10 (w.heap.size + 1) R8b (NB ++ M ++ ytxt xt ++ [0]) (HO8.out.below hb10.out) (Nat.le_trans hs8 hb10.out.size) A10 (ytxt xq) m10 c10 hm10.out hr10.out (by rw [List.length_append]; simp only [List.length_singleton]; have := hm10.out; omega) hz10.out
       have HO11 : Hid (Own (w.heap.size + 1) W11 R11 (NB ++ worksB T (k + 1))) := by show Own _ _ _ _; rw [HSU.out, HWB.out]; simpa [List.append_assoc] using ho11
       have HB11 := Lib.hid ((HB8.out.trans (hb10.out.mono hs8)).trans hb11)
       clear ho11 hb11 hb10
       go_wp2_with (at_builtin; refine wpList_app rfl _ _ 70 70 rfl R8b (.slice A10 m10 c10) rfl rfl ⟨_, _, hrun11, ?_⟩)
       go_roundw
       case rel => exact ⟨k + 1, R11, by omega, by go_num, rfl, HO11.out, HB11.out⟩
       case measure => simp [intOf]; omega
      ·have HWB : Hid (wkB ⟨xt, true, xq⟩ = ytxt xt ++ ([1] ++ ytxt xq)) := rfl
       obtain ⟨q, hq⟩ : ∃ q, wr.heap.size = q := ⟨_, rfl⟩
       have HQ := Lib.hid (Has.new wr 120 #[.string xt, .bool true, .string xq])
       have hba : Below wr.heap.size wr (wr.alloc (.cells #[.string xt, .bool true, .string xq] 120)) := (Below.refl _ wr).alloc (Nat.le_refl _) _
       have hO5 := HO2.out.below hba
       have hsr : w.heap.size + 1 ≤ wr.heap.size := Nat.le_trans hso HB2.out.size
       have HB5 := Lib.hid (HB2.out.trans (hba.mono hsr))
       go_wp2_with fail
       obtain ⟨W5, hW5⟩ : ∃ W, W = wr.alloc (.cells #[.string xt, .bool true, .string xq] 120) := ⟨_, rfl⟩
       rw [← hW5] at HQ hba hO5 HB5 ⊢
       have HO5 := Lib.hid hO5
       have hs5 : w.heap.size + 1 ≤ W5.heap.size := Nat.le_trans hsr hba.size
       clear hW5 hba hO5
       rw [hq] at HQ
       clear hq c0 c1 c2
       refine (HT1.out W5).mono ?_
       rintro e w6 ⟨A6, m6, c6, rfl, hm6, hr6, hz6, hb6⟩
       obtain ⟨R7, W7, hrun7, ho7, hb7, hk7⟩ := own_appK w6 (w.heap.size + 1) u2 (NB ++ M) (HO5.out.below hb6.out) (Nat.le_trans hs5 hb6.out.size) A6 (ytxt xt) m6 c6 hm6.out hr6.out (by rw [List.length_append]; have := HLE.out; have := hm6.out; omega) hz6.out
       have HO7 := Lib.hid ho7
       have HB7 := Lib.hid ((HB5.out.trans (hb6.out.mono hs5)).trans hb7)
       have HQ7 := Lib.hid (hk7.has (HQ.out.below hb6.out HQ.out.lt) (by decide))
       have hs7 : w.heap.size + 1 ≤ W7.heap.size := Nat.le_trans hso HB7.out.size
       have d1 : W7.cell? ⟨q, 1, none⟩ = some (.bool true) := HQ7.out.cell 1
       clear ho7 hb7 hk7 hb6 HB5 HO5 HQ
       have hlen7 : (NB ++ M ++ ytxt xt).length ≤ 12000 := by simp only [List.length_append]; have := HLE.out; omega
       have HA8 := Lib.hid (app_new W7 (w.heap.size + 1) R7 (NB ++ M ++ ytxt xt) [1] #[.int .u8 1] (by simp [bv]) 1 rfl HO7.out hs7 (by omega))
       obtain ⟨R8, W8, hrun8, ho8, hb8⟩ := HA8.out
       have hk8 := (app_at W7 W7.heap.size rfl (w.heap.size + 1) R7 (NB ++ M ++ ytxt xt) [1] #[.int .u8 1] (by simp [bv]) 1 rfl HO7.out hs7 (by omega))
       obtain ⟨R8b, W8b, hrun8b, _, _, hk8⟩ := hk8
       obtain ⟨rfl, rfl⟩ : R8b = R8 ∧ W8b = W8 := by rw [hrun8] at hrun8b; injection hrun8b with e1 e2; exact ⟨e1.symm, e2.symm⟩
       have HO8 := Lib.hid ho8
       have HB8 := Lib.hid (HB7.out.trans hb8)
       have HQ8 := Lib.hid (hk8.has HQ7.out (by decide))
       have hs8 : w.heap.size + 1 ≤ W8b.heap.size := Nat.le_trans hso HB8.out.size
       have d2 : W8b.cell? ⟨q, 2, none⟩ = some (.string xq) := HQ8.out.cell 2
       clear ho8 hb8 hk8 hrun8b HA8
       have HFL := Lib.hid ((flag_lit W7).1)
       go_wp2_with (at_builtin; refine wpList_app rfl _ _ 70 70 rfl u2 (.slice A6 m6 c6) rfl rfl ⟨_, _, hrun7, ?_⟩)
       refine HFL.out.mono ?_
       rintro e w9 ⟨rfl, rfl⟩
       go_wp2_with (at_builtin; refine wpList_app rfl _ _ 70 70 rfl R7 (.slice (some ⟨w9.heap.size, 0, none⟩) 1 1) rfl rfl ⟨_, _, hrun8, ?_⟩)
       refine (HT2.out _).mono ?_
       rintro e w10 ⟨A10, m10, c10, rfl, hm10, hr10, hz10, hb10⟩
       obtain ⟨R11, W11, hrun11, ho11, hb11, _⟩ := own_appK w10 (w.heap.size + 1) R8b (NB ++ M ++ ytxt xt ++ [1]) (HO8.out.below hb10.out) (Nat.le_trans hs8 hb10.out.size) A10 (ytxt xq) m10 c10 hm10.out hr10.out (by rw [List.length_append]; simp only [List.length_singleton]; have := hm10.out; omega) hz10.out
       have HO11 : Hid (Own (w.heap.size + 1) W11 R11 (NB ++ worksB T (k + 1))) := by show Own _ _ _ _; rw [HSU.out, HWB.out]; simpa [List.append_assoc] using ho11
       have HB11 := Lib.hid ((HB8.out.trans (hb10.out.mono hs8)).trans hb11)
       clear ho11 hb11 hb10
       go_wp2_with (at_builtin; refine wpList_app rfl _ _ 70 70 rfl R8b (.slice A10 m10 c10) rfl rfl ⟨_, _, hrun11, ?_⟩)
       go_roundw
       case rel => exact ⟨k + 1, R11, by omega, by go_num, rfl, HO11.out, HB11.out⟩
       case measure => simp [intOf]; omega
     ·obtain rfl : k = n := by omega
      have hkz : ¬ ((k : Int) < (k : Int)) := by omega
      go_wp2_with fail
      go_ret2
      exact ⟨_, rfl, by rw [HPB.out]; exact own_down HO2.out (by omega), HW2⟩
theorem own_open {B : Nat} {w : World} {v : Value} {l : List Nat} (h : Own B w v l) (h0 : 0 < l.length) : ∃ A m c, v = .slice A m c ∧ Hid (l.length = m) ∧ Hid (Rd w A l) ∧ Hid (A = none → c = 0) := by
 obtain ⟨A, c, e, _, hr⟩ := own_full h
 refine ⟨A, _, c, e, rfl, hr, fun e2 => ?_⟩
 obtain ⟨b, off, e3, _⟩ := hr (by intro h; rw [h] at h0; simp at h0)
 rw [e2] at e3; cases e3
theorem ptbox2 {w : World} {x y z x' y' z' : Int} {A A' : Option Addr} {n c n' c' : Nat} : Hid (Has ((w.alloc (.cells #[.int .i64 x, .int .i64 y, .int .i64 z, .slice A n c] 75)).alloc (.cells #[.int .i64 x', .int .i64 y', .int .i64 z', .slice A' n' c'] 75)) w.heap.size 75 #[.int .i64 x, .int .i64 y, .int .i64 z, .slice A n c]) ∧ Hid (Has ((w.alloc (.cells #[.int .i64 x, .int .i64 y, .int .i64 z, .slice A n c] 75)).alloc (.cells #[.int .i64 x', .int .i64 y', .int .i64 z', .slice A' n' c'] 75)) (w.heap.size + 1) 75 #[.int .i64 x', .int .i64 y', .int .i64 z', .slice A' n' c']) ∧ Below w.heap.size w ((w.alloc (.cells #[.int .i64 x, .int .i64 y, .int .i64 z, .slice A n c] 75)).alloc (.cells #[.int .i64 x', .int .i64 y', .int .i64 z', .slice A' n' c'] 75)) := by
 refine ⟨(Has.new w 75 _).alloc _, ?_, ((Below.refl _ w).alloc (Nat.le_refl _) _).alloc (by simp) _⟩
 have h := Has.new (w.alloc (.cells #[.int .i64 x, .int .i64 y, .int .i64 z, .slice A n c] 75)) 75 #[.int .i64 x', .int .i64 y', .int .i64 z', .slice A' n' c']
 rw [show (w.alloc (.cells #[.int .i64 x, .int .i64 y, .int .i64 z, .slice A n c] 75)).heap.size = w.heap.size + 1 by simp] at h
 exact h
set_option maxHeartbeats 4000000 in
theorem rsame_pt {B B' : Nat} {A A' : Option Addr} {n c n' c' : Nat} {T : List Wk} (x y z : Int) (w : World) (h : OwnW B w (.slice A n c) T) (h' : OwnW B' w (.slice A' n' c') T) (hl : T.length ≤ 1000) :
 Calls Tryz.prog 26 #[.agg #[.int .i64 x, .int .i64 y, .int .i64 z, .slice A n c], .agg #[.int .i64 x, .int .i64 y, .int .i64 z, .slice A' n' c']] w fun e w' => e = .returned (.bool true) ∧ Hid (Below w.heap.size w w') := by
 obtain ⟨H1, H2, hb⟩ := ptbox2 (w := w) (x := x) (y := y) (z := z) (x' := x) (y' := y) (z' := z) (A := A) (n := n) (c := c) (A' := A') (n' := n') (c' := c')
 have HE := Lib.hid (sameW_any _ (h.below hb) (h'.below hb) hl)
 rw [sameW_self] at HE
 have HB := Lib.hid hb
 clear h h' hb
 go_enter Tryz.func26, Tryz.ntmps26
 have a3 := H1.out.cell 3
 have b3 := H2.out.cell 3
 simp at a3 b3
 go_wp2_with fail
 refine HE.out.mono ?_
 rintro e w1 ⟨rfl, hb1⟩
 have HB1 := Lib.hid (HB.out.trans (hb1.out.mono HB.out.size))
 have G1 := Lib.hid (H1.out.below hb1.out H1.out.lt)
 have G2 := Lib.hid (H2.out.below hb1.out H2.out.lt)
 have a0 : w1.cell? ⟨w.heap.size, 0, none⟩ = some (.int .i64 x) := G1.out.cell 0
 have a1 : w1.cell? ⟨w.heap.size, 1, none⟩ = some (.int .i64 y) := G1.out.cell 1
 have a2 : w1.cell? ⟨w.heap.size, 2, none⟩ = some (.int .i64 z) := G1.out.cell 2
 have b0 : w1.cell? ⟨w.heap.size + 1, 0, none⟩ = some (.int .i64 x) := G2.out.cell 0
 have b1 : w1.cell? ⟨w.heap.size + 1, 1, none⟩ = some (.int .i64 y) := G2.out.cell 1
 have b2 : w1.cell? ⟨w.heap.size + 1, 2, none⟩ = some (.int .i64 z) := G2.out.cell 2
 clear a3 b3 hb1 HE
 go_wp2_with fail
 go_ret
 exact ⟨rfl, HB1⟩
set_option maxHeartbeats 400000 in
theorem NumberD_get {D : Nat} (g : Nat) (l : List Nat) (e : Nat) (w : World) (h : RdrD D w g l e) (hl : ∀ x ∈ l, x < 256) (hb : l.length ≤ 1000000) :
 Calls Tryz.prog 45 #[.pointer (some ⟨g, 0, none⟩)] w (StepD D w g (.int .i64 ((numF 9223372036854775807 l e).1 : Int)) (numF 9223372036854775807 l e).2.1 (numF 9223372036854775807 l e).2.2) := by
 have hc := numberD_any g l e w 9223372036854775807 h hl hb
 have hle := numF_le 9223372036854775807 l e
 generalize numF 9223372036854775807 l e = R at *
 obtain ⟨r1, r2, r3⟩ := R
 simp only at hle hc ⊢
 have HC := Lib.hid hc
 clear hc h
 go_enter Tryz.func45, Tryz.ntmps45
 go_wp2_with fail
 refine HC.out.mono ?_
 rintro x w1 ⟨rfl, hd, hg⟩
 have HD := Lib.hid hd
 have HG := Lib.hid hg
 clear hd hg
 go_wp2_with fail
 go_ret
 exact ⟨rfl, HD.out, HG.out⟩
theorem numD_put {D : Nat} (g n : Nat) (rest : List Nat) (w : World) (h : RdrD D w g (digs n ++ rest) 0) (hn : n ≤ 9223372036854775807) (hl : ∀ x ∈ digs n ++ rest, x < 256) (hb : (digs n ++ rest).length ≤ 1000000) :
 Calls Tryz.prog 45 #[.pointer (some ⟨g, 0, none⟩)] w fun x w' => x = .returned (.int .i64 (n : Int)) ∧ Hid (RdrD D w' g rest 0) ∧ Hid (w.grownBy w' (some g)) := by
 refine (NumberD_get g _ 0 w h hl hb).mono ?_
 rintro x w' ⟨rfl, h1, h2⟩
 rw [numF_whole 9223372036854775807 n rest (by omega) hn] at h1 ⊢
 exact ⟨rfl, h1, h2⟩
theorem textF_gen (most : Int) (s : ByteArray) (hs : s.size ≤ 900) (hm : (s.size : Int) ≤ most) (rest : List Nat) : textF most (ytxt s ++ rest) 0 = (sb s, rest, 0) := by
 have hn : s.size < 18446744073709551616 := by omega
 unfold textF ytxt
 rw [if_neg (by simp), List.append_assoc, head_whole _ s.size _ hn (by omega)]
 simp only
 rw [if_neg (by simp), if_neg (by omega), if_neg]
 ·have h1 : (digs s.size ++ (sb s ++ rest)).drop (digs s.size).length = sb s ++ rest := List.drop_left
  rw [← List.drop_drop, h1]
  have h2 : (sb s ++ rest).take s.size = sb s := by rw [← sb_length s]; exact List.take_left
  have h3 : (sb s ++ rest).drop s.size = rest := by rw [← sb_length s]; exact List.drop_left
  rw [h2, h3]
 ·rw [List.length_append, List.length_append, sb_length]
  omega
theorem txtD_put {D : Nat} (g : Nat) (most : Int) (s : ByteArray) (rest : List Nat) (w : World) (h : RdrD D w g (ytxt s ++ rest) 0) (hs : s.size ≤ 900) (hm : (s.size : Int) ≤ most) (hl : ∀ x ∈ ytxt s ++ rest, x < 256) (hb : (ytxt s ++ rest).length ≤ 1000000) :
 Calls Tryz.prog 77 #[.pointer (some ⟨g, 0, none⟩), .int .i64 most] w fun x w' => x = .returned (.string s) ∧ Hid (RdrD D w' g rest 0) ∧ Hid (w.grownBy w' (some g)) := by
 refine (TextD_get g _ 0 w most h hl hb).mono ?_
 rintro x w' ⟨rfl, h1, h2⟩
 rw [textF_gen most s hs hm rest] at h1 ⊢
 exact ⟨by rw [bs_sb], h1, h2⟩
theorem byteD_put {D : Nat} (g y : Nat) (rest : List Nat) (w : World) (h : RdrD D w g (y :: rest) 0) (hl : ∀ x ∈ y :: rest, x < 256) (hb : (y :: rest).length ≤ 1000000) :
 Calls Tryz.prog 107 #[.pointer (some ⟨g, 0, none⟩)] w fun x w' => x = .returned (.int .i64 (y : Int)) ∧ Hid (RdrD D w' g rest 0) ∧ Hid (w.grownBy w' (some g)) := by
 refine (ByteD_get g _ 0 w h hl hb).mono ?_
 rintro x w' ⟨rfl, h1, h2⟩
 exact ⟨rfl, h1, h2⟩
theorem Has.grn {w w' : World} {g g' : Nat} {t : TypeId} {cs : Array Value} (h : Has w g' t cs) (hg : w.grownBy w' (some g)) (hne : g' ≠ g) : Has w' g' t cs :=
 (hg.block g' h.lt (fun e => hne (Option.some.inj e))).trans h
theorem RdrD.al {D : Nat} {w : World} {g : Nat} {l : List Nat} {e : Nat} (h : RdrD D w g l e) (hg : g < D) (hD : D ≤ w.heap.size) (o : Obj) : RdrD D (w.alloc o) g l e := h.keep hg ((Below.refl D w).alloc hD o)
theorem grn_set {w x : World} {g : Nat} (h : w.grownBy x (some g)) {p : Addr} (hp : w.heap.size ≤ p.block) (u : Value) : w.grownBy (x.setCell p u) (some g) :=
 ⟨h.os, h.tape, h.output, by rw [size_set]; exact h.size, fun b hb hne => by
   have := h.block b hb hne
   rw [← this]
   exact (Below.heap_setCell x p u b (by omega))⟩
theorem grn_below {w x y : World} {g : Nat} (h : w.grownBy x (some g)) (hb : Below x.heap.size x y) : w.grownBy y (some g) :=
 ⟨hb.os.trans h.os, hb.tape.trans h.tape, hb.output.trans h.output, Nat.le_trans h.size hb.size, fun b hlt hne => (hb.block b (Nat.lt_of_lt_of_le hlt h.size)).trans (h.block b hlt hne)⟩
set_option maxHeartbeats 16000000 in
theorem pwork_any {D : Nat} (g : Nat) (t k : ByteArray) (d : Bool) (rest : List Nat) (w : World) (h : RdrD D w g (wkB ⟨t, d, k⟩ ++ rest) 0) (hg : g < D) (hD : D ≤ w.heap.size) (ht : t.size ≤ 32) (hk : k.size ≤ 900) (hl : ∀ x ∈ wkB ⟨t, d, k⟩ ++ rest, x < 256) (hb : (wkB ⟨t, d, k⟩ ++ rest).length ≤ 1000000) :
 Calls Tryz.prog 79 #[.pointer (some ⟨g, 0, none⟩)] w fun e w' => e = .returned (.tuple #[.agg #[.string t, .bool d, .string k], .bool true]) ∧ Hid (RdrD D w' g rest 0) ∧ Hid (w.grownBy w' (some g)) := by
 have hwk : wkB ⟨t, d, k⟩ ++ rest = ytxt t ++ ((if d then 1 else 0) :: (ytxt k ++ rest)) := by
  unfold wkB
  simp
 rw [hwk] at h hl hb
 obtain ⟨y, hy⟩ : ∃ y : Nat, (if d then 1 else 0) = y := ⟨_, rfl⟩
 rw [hy] at h hl hb
 have hl1 : ∀ x ∈ y :: (ytxt k ++ rest), x < 256 := fun x hx => hl x (List.mem_append_right _ hx)
 have hl2 : ∀ x ∈ ytxt k ++ rest, x < 256 := fun x hx => hl1 x (List.mem_cons_of_mem _ hx)
 have hb1 : (y :: (ytxt k ++ rest)).length ≤ 1000000 := by rw [List.length_append] at hb; omega
 have hb2 : (ytxt k ++ rest).length ≤ 1000000 := by rw [List.length_cons] at hb1; omega
 have HT1 := Lib.hid (fun W (hr : RdrD D W g (ytxt t ++ (y :: (ytxt k ++ rest))) 0) => txtD_put g 32 t (y :: (ytxt k ++ rest)) W hr (by omega) (by omega) hl hb)
 have HY := Lib.hid (fun W (hr : RdrD D W g (y :: (ytxt k ++ rest)) 0) => byteD_put g y (ytxt k ++ rest) W hr hl1 hb1)
 have HT2 := Lib.hid (fun W (hr : RdrD D W g (ytxt k ++ rest) 0) => txtD_put g 9223372036854775807 k rest W hr hk (by omega) hl2 hb2)
 have HR1 := Lib.hid (h.al hg hD (.cells #[.string ⟨#[]⟩, .bool false, .string ⟨#[]⟩] 120))
 have HQ1 := Lib.hid (Has.new w 120 #[.string ⟨#[]⟩, .bool false, .string ⟨#[]⟩])
 have HG1 := Lib.hid (grn_below (grown_refl w g) ((Below.refl w.heap.size w).alloc (Nat.le_refl _) (.cells #[.string ⟨#[]⟩, .bool false, .string ⟨#[]⟩] 120)))
 obtain ⟨q1, hq1⟩ : ∃ q, w.heap.size = q := ⟨_, rfl⟩
 have hgq : g < q1 := by omega
 clear h hwk hl hb hl1 hl2 hb1 hb2
 go_enter Tryz.func79, Tryz.ntmps79
 go_wp2_with fail
 obtain ⟨W1, hW1⟩ : ∃ W, W = w.alloc (.cells #[.string ⟨#[]⟩, .bool false, .string ⟨#[]⟩] 120) := ⟨_, rfl⟩
 rw [← hW1] at HR1 HQ1 HG1 ⊢
 have hs1 : q1 < W1.heap.size := by rw [hW1, ← hq1]; simp
 rw [hq1] at HQ1
 clear hW1
 refine (HT1.out _ HR1.out).mono ?_
 rintro e w2 ⟨rfl, hr2, hg2⟩
 have HQ2 := Lib.hid (HQ1.out.grn hg2.out (by omega))
 have HG2 := Lib.hid (grown_trans HG1.out hg2.out)
 have hs2 : q1 < w2.heap.size := Nat.lt_of_lt_of_le hs1 hg2.out.size
 have HR3 := Lib.hid (hr2.out.al hg (by omega) (.cells #[.string t, .bool false, .string ⟨#[]⟩] 120))
 have HB3 := Lib.hid (Has.new w2 120 #[.string t, .bool false, .string ⟨#[]⟩])
 have hbw : Below w2.heap.size w2 (w2.alloc (.cells #[.string t, .bool false, .string ⟨#[]⟩] 120)) := (Below.refl _ w2).alloc (Nat.le_refl _) _
 have HQ3 := Lib.hid (HQ2.out.below hbw HQ2.out.lt)
 have HG3 := Lib.hid (grn_below HG2.out hbw)
 have hs3 : w2.heap.size < (w2.alloc (.cells #[.string t, .bool false, .string ⟨#[]⟩] 120)).heap.size := by simp
 clear hr2 hg2 hbw HR1 HQ1 HG1 HQ2 HG2 HT1
 go_wp2_with fail
 obtain ⟨W3, hW3⟩ : ∃ W, W = w2.alloc (.cells #[.string t, .bool false, .string ⟨#[]⟩] 120) := ⟨_, rfl⟩
 rw [← hW3] at HR3 HB3 HQ3 HG3 hs3 ⊢
 clear hW3
 generalize w2.heap.size = q2 at *
 refine (HY.out _ HR3.out).mono ?_
 rintro e w4 ⟨rfl, hr4, hg4⟩
 have HB4 := Lib.hid (HB3.out.grn hg4.out (by omega))
 have HQ4 := Lib.hid (HQ3.out.grn hg4.out (by omega))
 have HG4 := Lib.hid (grown_trans HG3.out hg4.out)
 have hs4 : q2 < w4.heap.size := Nat.lt_of_lt_of_le hs3 hg4.out.size
 have HR4 := hr4
 clear hr4 hg4 HR3 HB3 HQ3 HG3 HY
 have c1 : w4.cell? ⟨q2, 1, none⟩ = some (.bool false) := HB4.out.cell 1
 have f1 : w4.frozen? ⟨q2, 1, none⟩ = false := HB4.out.free 1
 have hyd : ((y : Int) == 1) = d := by rw [← hy]; cases d <;> rfl
 have hyl : (y : Int) ≤ 1 := by rw [← hy]; cases d <;> simp
 have HB5 : Hid (Has (w4.setCell ⟨q2, 1, none⟩ (.bool d)) q2 120 #[.string t, .bool d, .string ⟨#[]⟩]) := HB4.out.put 1 _
 have HQ5 := Lib.hid (HQ4.out.far (p := ⟨q2, 1, none⟩) (by show q1 ≠ q2; omega) (.bool d))
 have HG5 := Lib.hid (grn_set HG4.out (p := ⟨q2, 1, none⟩) (by show w.heap.size ≤ q2; omega) (.bool d))
 have HR5 := Lib.hid (HR4.out.keep hg ((Below.refl D w4).setCell (p := ⟨q2, 1, none⟩) (by show D ≤ q2; omega) (.bool d)))
 have hs5 : q2 < (w4.setCell ⟨q2, 1, none⟩ (.bool d)).heap.size := by rw [size_set]; exact hs4
 clear HB4 HQ4 HG4 HR4 hs4 hy
 go_wp2_with fail
 obtain ⟨W5, hW5⟩ : ∃ W, W = w4.setCell ⟨q2, 1, none⟩ (.bool d) := ⟨_, rfl⟩
 rw [← hW5] at HB5 HQ5 HG5 HR5 hs5 ⊢
 clear hW5 c1 f1
 refine (HT2.out _ HR5.out).mono ?_
 rintro e w6 ⟨rfl, hr6, hg6⟩
 have HB6 := Lib.hid (HB5.out.grn hg6.out (by omega))
 have HQ6 := Lib.hid (HQ5.out.grn hg6.out (by omega))
 have HG6 := Lib.hid (grown_trans HG5.out hg6.out)
 have HR6 := hr6
 clear hr6 hg6 HB5 HQ5 HG5 HR5 HT2
 have c2 : w6.cell? ⟨q2, 2, none⟩ = some (.string ⟨#[]⟩) := HB6.out.cell 2
 have f2 : w6.frozen? ⟨q2, 2, none⟩ = false := HB6.out.free 2
 have HB7 : Hid (Has (w6.setCell ⟨q2, 2, none⟩ (.string k)) q2 120 #[.string t, .bool d, .string k]) := HB6.out.put 2 _
 have HQ7 := Lib.hid (HQ6.out.far (p := ⟨q2, 2, none⟩) (by show q1 ≠ q2; omega) (.string k))
 have HG7 := Lib.hid (grn_set HG6.out (p := ⟨q2, 2, none⟩) (by show w.heap.size ≤ q2; omega) (.string k))
 have HR7 := Lib.hid (HR6.out.keep hg ((Below.refl D w6).setCell (p := ⟨q2, 2, none⟩) (by show D ≤ q2; omega) (.string k)))
 clear HB6 HQ6 HG6 HR6
 go_wp2_with fail
 obtain ⟨W7, hW7⟩ : ∃ W, W = w6.setCell ⟨q2, 2, none⟩ (.string k) := ⟨_, rfl⟩
 rw [← hW7] at HB7 HQ7 HG7 HR7 ⊢
 clear hW7 c2 f2
 have HE := Lib.hid (fun W (hr : RdrD D W g rest 0) => Errno_get g rest 0 W hr.rdr)
 have hb8 : Below W7.heap.size W7 W7.drew := (Below.refl _ W7).drew
 have HB8 := Lib.hid (HB7.out.drew)
 have HQ8 := Lib.hid (HQ7.out.drew)
 have HG8 := Lib.hid (grn_below HG7.out hb8)
 have HR8 := Lib.hid (HR7.out.keep hg ((Below.refl D W7).drew))
 obtain ⟨W8, hW8⟩ : ∃ W, W = W7.drew := ⟨_, rfl⟩
 have hS0 : (fun X : World => X.cell? ⟨q2, 0, none⟩ = some (.string t) ∧ X.cell? ⟨q2, 1, none⟩ = some (.bool d) ∧ X.cell? ⟨q2, 2, none⟩ = some (.string k)) W7.drew := ⟨HB8.out.cell 0, HB8.out.cell 1, HB8.out.cell 2⟩
 have r0 : W7.drew.cell? ⟨q1, 0, none⟩ = some (.string ⟨#[]⟩) := HQ8.out.cell 0
 have r1 : W7.drew.cell? ⟨q1, 1, none⟩ = some (.bool false) := HQ8.out.cell 1
 have r2 : W7.drew.cell? ⟨q1, 2, none⟩ = some (.string ⟨#[]⟩) := HQ8.out.cell 2
 have t0 : W7.drew.frozen? ⟨q1, 0, none⟩ = false := HQ8.out.free 0
 have t1 : W7.drew.frozen? ⟨q1, 1, none⟩ = false := HQ8.out.free 1
 have t2 : W7.drew.frozen? ⟨q1, 2, none⟩ = false := HQ8.out.free 2
 have r1' : W7.cell? ⟨q1, 1, none⟩ = some (.bool false) := HQ7.out.cell 1
 have r2' : W7.cell? ⟨q1, 2, none⟩ = some (.string ⟨#[]⟩) := HQ7.out.cell 2
 have t1' : W7.frozen? ⟨q1, 1, none⟩ = false := HQ7.out.free 1
 have t2' : W7.frozen? ⟨q1, 2, none⟩ = false := HQ7.out.free 2
 have HP := Lib.hid (hput3 HQ8.out (.string t) (.bool d) (.string k))
 have HBf := Lib.hid (((HB8.out.far (p := ⟨q1, 0, none⟩) (by show q2 ≠ q1; omega) (.string t)).far (p := ⟨q1, 1, none⟩) (by show q2 ≠ q1; omega) (.bool d)).far (p := ⟨q1, 2, none⟩) (by show q2 ≠ q1; omega) (.string k))
 have HGf := Lib.hid (grn_set (grn_set (grn_set HG8.out (p := ⟨q1, 0, none⟩) (by show w.heap.size ≤ q1; omega) (.string t)) (p := ⟨q1, 1, none⟩) (by show w.heap.size ≤ q1; omega) (.bool d)) (p := ⟨q1, 2, none⟩) (by show w.heap.size ≤ q1; omega) (.string k))
 have HRf := Lib.hid (HR8.out.keep hg ((((Below.refl D W7.drew).setCell (p := ⟨q1, 0, none⟩) (by show D ≤ q1; omega) (.string t)).setCell (p := ⟨q1, 1, none⟩) (by show D ≤ q1; omega) (.bool d)).setCell (p := ⟨q1, 2, none⟩) (by show D ≤ q1; omega) (.string k)))
 have hSf : (fun X : World => X.cell? ⟨q2, 0, none⟩ = some (.string t) ∧ X.cell? ⟨q2, 1, none⟩ = some (.bool d) ∧ X.cell? ⟨q2, 2, none⟩ = some (.string k)) (((W7.drew.setCell ⟨q1, 0, none⟩ (.string t)).setCell ⟨q1, 1, none⟩ (.bool d)).setCell ⟨q1, 2, none⟩ (.string k)) := ⟨HBf.out.cell 0, HBf.out.cell 1, HBf.out.cell 2⟩
 clear hW8
 refine wp_region_held_drew (S := (fun X : World => X.cell? ⟨q2, 0, none⟩ = some (.string t) ∧ X.cell? ⟨q2, 1, none⟩ = some (.bool d) ∧ X.cell? ⟨q2, 2, none⟩ = some (.string k))) (by kernel_rfl) hS0 (fun _ => ?_)
 (refine wpAnyH_take (i := 0) (v := ?_) rfl (by kernel_rfl) (by kernel_rfl) (by kernel_rfl) (fun _ _ _ h => h) (Or.inl ⟨by rfl, ?_⟩) (by assumption) ?_; rotate_left; (intro w hSw; (try dsimp only at hSw); go_simp; try with_reducible rfl); ((try simp only [zA, zB, zC, Act.put, zD, zE, zF])))
 (refine wpAnyH_take (i := 1) (v := ?_) rfl (by kernel_rfl) (by kernel_rfl) (by kernel_rfl) (fun _ _ _ h => h) (Or.inl ⟨by rfl, ?_⟩) (by assumption) ?_; rotate_left; (intro w hSw; (try dsimp only at hSw); go_simp; try with_reducible rfl); ((try simp only [zA, zB, zC, Act.put, zD, zE, zF])))
 (refine wpAnyH_take (i := 2) (v := ?_) rfl (by kernel_rfl) (by kernel_rfl) (by kernel_rfl) (fun _ _ _ h => h) (Or.inl ⟨by rfl, ?_⟩) (by assumption) ?_; rotate_left; (intro w hSw; (try dsimp only at hSw); go_simp; try with_reducible rfl); ((try simp only [zA, zB, zC, Act.put, zD, zE, zF])))
 (refine wpAnyH_take (i := 3) (v := ?_) rfl (by kernel_rfl) (by kernel_rfl) (by kernel_rfl) (fun _ _ _ h => h) (Or.inl ⟨by rfl, ?_⟩) (by assumption) ?_; rotate_left; (intro w hSw; (try dsimp only at hSw); go_simp; try with_reducible rfl); ((try simp only [zA, zB, zC, Act.put, zD, zE, zF])))
 (refine wpAnyH_take (i := 4) (v := ?_) rfl (by kernel_rfl) (by kernel_rfl) (by kernel_rfl) (fun _ _ _ h => h) (Or.inl ⟨by rfl, ?_⟩) (by assumption) ?_; rotate_left; (intro w hSw; (try dsimp only at hSw); go_simp; try with_reducible rfl); ((try simp only [zA, zB, zC, Act.put, zD, zE, zF])))
 refine wpAnyH_ready (rs := [5]) (by kernel_rfl) (by simp) ?_
 refine AllReadyH.cons rfl (fun K2 hK2 => ?_) AllReadyH.nil
 go_simp
 refine (HE.out _ HR8.out).mono ?_
 rintro e x5 ⟨rfl, rfl⟩
 go_wp2_with fail
 refine hK2.out _ _ (by (try dsimp only); exact hS0) (fun _ => ?_)
 clear hK2 K2
 (try simp only [zA, zB, zC, Act.put, zD, zE, zF])
 (refine wpAnyH_take (i := 6) (v := ?_) rfl (by kernel_rfl) (by kernel_rfl) (by kernel_rfl) (fun _ _ _ h => h) (Or.inl ⟨by rfl, ?_⟩) (by assumption) ?_; rotate_left; (intro w hSw; (try dsimp only at hSw); go_simp; try with_reducible rfl); ((try simp only [zA, zB, zC, Act.put, zD, zE, zF])))
 (refine wpAnyH_take (i := 7) (v := ?_) rfl (by kernel_rfl) (by kernel_rfl) (by kernel_rfl) (fun _ _ _ h => h) (Or.inl ⟨by rfl, ?_⟩) (by assumption) ?_; rotate_left; (intro w hSw; (try dsimp only at hSw); go_simp; try with_reducible rfl); ((try simp only [zA, zB, zC, Act.put, zD, zE, zF])))
 refine wpAnyH_ready (rs := [8]) (by kernel_rfl) (by simp) ?_
 refine AllReadyH.cons rfl (fun K2 hK2 => ?_) AllReadyH.nil
 go_simp
 refine hK2.out _ _ (by (try dsimp only); exact hSf) (fun _ => ?_)
 clear hK2 K2
 (try simp only [zA, zB, zC, Act.put, zD, zE, zF])
 (refine wpAnyH_take (i := 9) (v := ?_) rfl (by kernel_rfl) (by kernel_rfl) (by kernel_rfl) (fun _ _ _ h => h) (Or.inl ⟨by rfl, ?_⟩) (by assumption) ?_; rotate_left; (intro w hSw; (try dsimp only at hSw); go_simp; try with_reducible rfl); ((try simp only [zA, zB, zC, Act.put, zD, zE, zF])))
 refine wpAnyH_done (by kernel_rfl) ?_ _
 go_wp2_with fail
 exact bodyPost_ret (wEnd2 rfl _ q1 _ _ _ _ rfl HP.out) rfl ⟨rfl, HRf, HGf⟩
theorem OwnW.grn {B : Nat} {w w' : World} {g : Nat} {v : Value} {L : List Wk} (h : OwnW B w v L) (hb : w.grownBy w' (some g)) (hg : g < B) : OwnW B w' v L := by
 rcases h.2 with ⟨hv, hn⟩ | ⟨q, cap, cur, hv, hq, hh, hc, hcm, hsz, ht⟩
 ·exact ⟨h.1, .inl ⟨hv, hn⟩⟩
 ·exact ⟨h.1, .inr ⟨q, cap, cur, hv, hq, Has.grn (t := 120) (cs := cur) hh hb (by omega), hc, hcm, hsz, ht⟩⟩
theorem grn_belowB {B : Nat} {w x y : World} {g : Nat} (h : w.grownBy x (some g)) (hB : w.heap.size ≤ B) (hb : Below B x y) : w.grownBy y (some g) :=
 ⟨hb.os.trans h.os, hb.tape.trans h.tape, hb.output.trans h.output, Nat.le_trans h.size hb.size, fun b hlt hne => (hb.block b (Nat.lt_of_lt_of_le hlt hB)).trans (h.block b hlt hne)⟩
theorem wdrop_mem {T : List Wk} {k x : Nat} (h : x ∈ (T.drop k).flatMap wkB) : x ∈ T.flatMap wkB := by
 obtain ⟨y, hy, hx⟩ := List.mem_flatMap.1 h
 exact List.mem_flatMap.2 ⟨y, List.mem_of_mem_drop hy, hx⟩
theorem wdrop_len (T : List Wk) (k : Nat) : ((T.drop k).flatMap wkB).length ≤ (T.flatMap wkB).length := by
 have : (T.flatMap wkB).length = ((T.take k).flatMap wkB).length + ((T.drop k).flatMap wkB).length := by rw [← List.length_append, ← List.flatMap_append, List.take_append_drop]
 omega
theorem wdrop_cons (T : List Wk) (k : Nat) (h : k < T.length) : (T.drop k).flatMap wkB = wkB ⟨T[k].t, T[k].d, T[k].k⟩ ++ (T.drop (k + 1)).flatMap wkB := by
 rw [List.drop_eq_getElem_cons h, List.flatMap_cons]
theorem pEnd2 {fn : Func} {p u : Tmp} (h : fn.results = #[.cell p 75, .tmp u]) (w' : World) (g : Nat) (c0 c1 c2 c3 : Value) (tmps : Array Value) (hp : tmps.getD p undef = .pointer (some ⟨g, 0, none⟩)) (hh : Has w' g 75 #[c0, c1, c2, c3]) :
 (results fn tmps).run Tryz.prog w' = .ok (.tuple #[.agg #[c0, c1, c2, c3], tmps.getD u undef]) w' := by
 rw [results_cell_tmp h, hp]
 simp only [asAddr, Sem.run_pure, Result.andThen_ok]
 rw [run_loadVar_row w' g 75 75 #[c0, c1, c2, c3] (0, 0) _ hh Tryz.underlying75 rfl (by kernel_rfl)]
 rfl
set_option maxHeartbeats 16000000 in
theorem pread_any (X Y Z : Nat) (T : List Wk) (A : Option Addr) (n c : Nat) (w : World) (hr : Rd w A (ptB (X : Int) (Y : Int) (Z : Int) T)) (hn : (ptB (X : Int) (Y : Int) (Z : Int) T).length = n) (hlen : n ≤ 1000000) (h256 : ∀ x ∈ ptB (X : Int) (Y : Int) (Z : Int) T, x < 256) (hx : X ≤ 9223372036854775807) (hy : Y ≤ 9223372036854775807) (hz : Z ≤ 9223372036854775807) (hT : T.length ≤ 6) (hS : ∀ x ∈ T, x.t.size ≤ 32 ∧ x.k.size ≤ 900) (hTb : Tabs w) (hok : ptOk (X : Int) (Y : Int) (Z : Int) T = true) (hT0 : T = []) :
 Calls Tryz.prog 48 #[.slice A n c] w fun e w' => ∃ v, e = .returned (.tuple #[.agg #[.int .i64 (X : Int), .int .i64 (Y : Int), .int .i64 (Z : Int), v], .int .i64 0]) ∧ Hid (OwnW w.heap.size w' v T) ∧ Hid (Below w.heap.size w w') := by
 have HT0 := Lib.hid hT0
 clear hT0
 have hsp : ptB (X : Int) (Y : Int) (Z : Int) T = digs X ++ (digs Y ++ (digs Z ++ (digs T.length ++ worksB T T.length))) := by
  unfold ptB numsB
  simp
 have hb0 : Below w.heap.size w (w.alloc (.cells #[.int .i64 0, .int .i64 0, .int .i64 0, .slice none 0 0] 75)) := (Below.refl _ w).alloc (Nat.le_refl _) _
 have HR0 := Lib.hid (hr.below hb0)
 have HQ0 := Lib.hid (Has.new w 75 #[.int .i64 0, .int .i64 0, .int .i64 0, .slice none 0 0])
 have HB0 := Lib.hid hb0
 rw [hsp] at HR0 hn h256
 have h2 : ∀ x ∈ digs Y ++ (digs Z ++ (digs T.length ++ worksB T T.length)), x < 256 := fun x hx => h256 x (List.mem_append_right _ hx)
 have h3 : ∀ x ∈ digs Z ++ (digs T.length ++ worksB T T.length), x < 256 := fun x hx => h2 x (List.mem_append_right _ hx)
 have h4 : ∀ x ∈ digs T.length ++ worksB T T.length, x < 256 := fun x hx => h3 x (List.mem_append_right _ hx)
 have h5 : ∀ x ∈ worksB T T.length, x < 256 := fun x hx => h4 x (List.mem_append_right _ hx)
 have n1 : (digs X ++ (digs Y ++ (digs Z ++ (digs T.length ++ worksB T T.length)))).length ≤ 1000000 := by omega
 have n2 : (digs Y ++ (digs Z ++ (digs T.length ++ worksB T T.length))).length ≤ 1000000 := by rw [List.length_append] at n1; omega
 have n3 : (digs Z ++ (digs T.length ++ worksB T T.length)).length ≤ 1000000 := by rw [List.length_append] at n2; omega
 have n4 : (digs T.length ++ worksB T T.length).length ≤ 1000000 := by rw [List.length_append] at n3; omega
 have n5 : (worksB T T.length).length ≤ 1000000 := by rw [List.length_append] at n4; omega
 clear hr hb0 hsp
 obtain ⟨N, hN⟩ : ∃ N, T.length = N := ⟨_, rfl⟩
 rw [hN] at HR0 hn h256 h2 h3 h4 h5 n1 n2 n3 n4 n5
 have HRD := Lib.hid (fun W (h : Rd W A (digs X ++ (digs Y ++ (digs Z ++ (digs N ++ worksB T N))))) => Read_len A _ n c W hn h hlen)
 have HN1 := Lib.hid (fun D g W (hr : RdrD D W g (digs X ++ (digs Y ++ (digs Z ++ (digs N ++ worksB T N)))) 0) => numD_put g X _ W hr hx h256 n1)
 have HN2 := Lib.hid (fun D g W (hr : RdrD D W g (digs Y ++ (digs Z ++ (digs N ++ worksB T N))) 0) => numD_put g Y _ W hr hy h2 n2)
 have HN3 := Lib.hid (fun D g W (hr : RdrD D W g (digs Z ++ (digs N ++ worksB T N)) 0) => numD_put g Z _ W hr hz h3 n3)
 have HN4 := Lib.hid (fun D g W (hr : RdrD D W g (digs N ++ worksB T N) 0) => numD_put g N _ W hr (by omega) h4 n4)
 have hWB : worksB T N = T.flatMap wkB := by unfold worksB; rw [← hN, List.take_length]
 rw [hWB] at h5 n5
 have H5 := Lib.hid h5
 have HSH := Lib.hid hS
 clear h5 hS hWB
 clear h256 h2 h3 h4 n1 n2 n3 n4
 go_enter Tryz.func48, Tryz.ntmps48
 go_wp2_with fail
 obtain ⟨q0, hq0⟩ : ∃ q, w.heap.size = q := ⟨_, rfl⟩
 obtain ⟨W0, hW0⟩ : ∃ W, W = w.alloc (.cells #[.int .i64 0, .int .i64 0, .int .i64 0, .slice none 0 0] 75) := ⟨_, rfl⟩
 have hs0 : q0 < W0.heap.size := by rw [hW0, ← hq0]; simp
 rw [← hW0] at HR0 HQ0 HB0 ⊢
 rw [hq0] at HQ0 HB0 ⊢
 clear hW0
 refine (HRD.out _ HR0.out).mono ?_
 rintro e w1 ⟨g, rfl, hg0, hr1, hb1⟩
 have HQ1 := Lib.hid (HQ0.out.below hb1.out hs0)
 have HB1 := Lib.hid (HB0.out.trans (hb1.out.mono (Nat.le_of_lt hs0)))
 obtain ⟨D, hD⟩ : ∃ D, w1.heap.size = D := ⟨_, rfl⟩
 have hgD : g < D := by obtain ⟨_, _, hh, _⟩ := hr1.out; rw [← hD]; exact hh.lt
 have HR1 := Lib.hid (hr1.out.dd)
 rw [hD] at HR1
 clear hr1 hb1 HQ0 HB0 HR0 HRD
 go_wp2_with fail
 refine (HN1.out _ _ _ HR1.out).mono ?_
 rintro e w2 ⟨rfl, hr2, hg2⟩
 go_wp2_with fail
 refine (HN2.out _ _ _ hr2.out).mono ?_
 rintro e w3 ⟨rfl, hr3, hg3⟩
 have hg3b := Lib.hid (grown_trans hg2.out hg3.out)
 go_wp2_with fail
 refine (HN3.out _ _ _ hr3.out).mono ?_
 rintro e w4 ⟨rfl, hr4, hg4⟩
 have HG4 := Lib.hid (grown_trans hg3b.out hg4.out)
 have HR4 := hr4
 have HQ4 := Lib.hid (HQ1.out.grn HG4.out (by omega))
 have hs4 : D ≤ w4.heap.size := by rw [← hD]; exact HG4.out.size
 clear hr2 hg2 hr3 hg3 hg3b hr4 hg4 HR1 HN1 HN2 HN3 HQ1
 have hb5 : Below w4.heap.size w4 (w4.alloc (.cells #[.int .i64 (X : Int), .int .i64 (Y : Int), .int .i64 (Z : Int), .slice none 0 0] 75)) := (Below.refl _ w4).alloc (Nat.le_refl _) _
 have HP5 := Lib.hid (Has.new w4 75 #[.int .i64 (X : Int), .int .i64 (Y : Int), .int .i64 (Z : Int), .slice none 0 0])
 have HQ5 := Lib.hid (HQ4.out.below hb5 HQ4.out.lt)
 have HG5 := Lib.hid (grn_below HG4.out hb5)
 have HR5 := Lib.hid (HR4.out.al hgD hs4 (.cells #[.int .i64 (X : Int), .int .i64 (Y : Int), .int .i64 (Z : Int), .slice none 0 0] 75))
 clear hb5 HR4 HQ4 HG4
 go_wp2_with fail
 obtain ⟨W5, hW5⟩ : ∃ W, W = w4.alloc (.cells #[.int .i64 (X : Int), .int .i64 (Y : Int), .int .i64 (Z : Int), .slice none 0 0] 75) := ⟨_, rfl⟩
 have hs5 : w4.heap.size < W5.heap.size := by rw [hW5]; simp
 rw [← hW5] at HP5 HQ5 HG5 HR5 ⊢
 clear hW5
 generalize w4.heap.size = q5 at *
 refine (HN4.out _ _ _ HR5.out).mono ?_
 rintro e w6 ⟨rfl, hr6, hg6⟩
 have HP6 := Lib.hid (HP5.out.grn hg6.out (by omega))
 have HQ6 := Lib.hid (HQ5.out.grn hg6.out (by omega))
 have HG6 := Lib.hid (grown_trans HG5.out hg6.out)
 have HR6 := hr6
 have hs6 : q5 < w6.heap.size := Nat.lt_of_lt_of_le hs5 hg6.out.size
 clear hr6 hg6 HP5 HQ5 HG5 HR5 HN4
 go_wp2_with fail
 obtain ⟨wo, rfl⟩ : ∃ wo : World, wo = w6 := ⟨_, rfl⟩
 go_loopw [19] (fun i wx => ∃ (k : Nat) (v : Value), k ≤ N ∧ i = .int .i64 k ∧ Hid (Has wx q5 75 #[.int .i64 (X : Int), .int .i64 (Y : Int), .int .i64 (Z : Int), v]) ∧ Hid (OwnW (q5 + 1) wx v (T.take k)) ∧ Hid (RdrD D wx g ((T.drop k).flatMap wkB) 0) ∧ Hid (Has wx q0 75 #[.int .i64 0, .int .i64 0, .int .i64 0, .slice none 0 0]) ∧ Hid (w1.grownBy wx (some g))) (fun i _ => N - (intOf i).toNat)
 case atStart =>
  refine ⟨0, _, by omega, rfl, HP6.out, ownW_nil _ _, ?_, HQ6.out, HG6.out⟩
  have := HR6.out
  rw [← hN] at this
  unfold worksB at this
  rw [List.take_length] at this
  exact this
 case round =>
  obtain ⟨k, v, hkn, rfl, HPr, HOr, HRr, HQr, HGr⟩ := hrel
  by_cases hkl : k < N
  ·have hkt : k < T.length := by omega
   have HR7 := Lib.hid HRr.out
   rw [wdrop_cons T k hkt] at HR7
   have hxs := HSH.out T[k] (List.getElem_mem hkt)
   have hl : ∀ x ∈ wkB ⟨T[k].t, T[k].d, T[k].k⟩ ++ (T.drop (k + 1)).flatMap wkB, x < 256 := fun x hx => H5.out x (wdrop_mem (by rw [wdrop_cons T k hkt]; exact hx))
   have hb : (wkB ⟨T[k].t, T[k].d, T[k].k⟩ ++ (T.drop (k + 1)).flatMap wkB).length ≤ 1000000 := by rw [← wdrop_cons T k hkt]; exact Nat.le_trans (wdrop_len T k) n5
   have HW := Lib.hid (pwork_any g T[k].t T[k].k T[k].d _ wr HR7.out hgD (by rw [← hD]; exact HGr.out.size) hxs.1 hxs.2 hl hb)
   have hkz : (k : Int) < (N : Int) := by omega
   clear HR7 hl hb HRr
   go_wp2_with fail
   refine HW.out.mono ?_
   rintro e w8 ⟨rfl, hr8, hg8⟩
   have hsr : q5 < wr.heap.size := HPr.out.lt
   have hs8 : q5 < w8.heap.size := Nat.lt_of_lt_of_le hsr hg8.out.size
   have hb9 : Below w8.heap.size w8 (w8.alloc (.cells #[.string T[k].t, .bool T[k].d, .string T[k].k] 120)) := (Below.refl _ w8).alloc (Nat.le_refl _) _
   have HP8 := HPr.out.grn hg8.out (by omega)
   have HQ8 := HQr.out.grn hg8.out (by omega)
   have HP9 := Lib.hid (HP8.below hb9 HP8.lt)
   have HQ9 := Lib.hid (HQ8.below hb9 HQ8.lt)
   have HO9 := Lib.hid ((HOr.out.grn hg8.out (by omega)).below hb9)
   have HG9 := Lib.hid (grn_below (grown_trans HGr.out hg8.out) hb9)
   have HR9 := Lib.hid (hr8.out.al hgD (by omega) (.cells #[.string T[k].t, .bool T[k].d, .string T[k].k] 120))
   have HB9 := Lib.hid (Has.new w8 120 #[.string T[k].t, .bool T[k].d, .string T[k].k])
   have hs9 : w8.heap.size < (w8.alloc (.cells #[.string T[k].t, .bool T[k].d, .string T[k].k] 120)).heap.size := by simp
   clear hb9 HP8 HQ8 hr8 hg8 HPr HQr HOr HGr HW
   have HAP := Lib.hid (appW (w8.alloc (.cells #[.string T[k].t, .bool T[k].d, .string T[k].k] 120)) (w8.heap.size + 1) (by simp) (q5 + 1) v (T.take k) ⟨T[k].t, T[k].d, T[k].k⟩ HO9.out (by omega) (by rw [List.length_take]; omega))
   have p3 : (w8.alloc (.cells #[.string T[k].t, .bool T[k].d, .string T[k].k] 120)).cell? ⟨q5, 3, none⟩ = some v := HP9.out.cell 3
   have b0 : (w8.alloc (.cells #[.string T[k].t, .bool T[k].d, .string T[k].k] 120)).cell? ⟨w8.heap.size, 0, none⟩ = some (.string T[k].t) := HB9.out.cell 0
   have b1 : (w8.alloc (.cells #[.string T[k].t, .bool T[k].d, .string T[k].k] 120)).cell? ⟨w8.heap.size, 1, none⟩ = some (.bool T[k].d) := HB9.out.cell 1
   have b2 : (w8.alloc (.cells #[.string T[k].t, .bool T[k].d, .string T[k].k] 120)).cell? ⟨w8.heap.size, 2, none⟩ = some (.string T[k].k) := HB9.out.cell 2
   go_wp2_with (at_builtin; refine wpList_app rfl _ _ 73 73 rfl v (.slice (some ⟨w8.heap.size + 1, 0, none⟩) 1 1) rfl rfl ?_; obtain ⟨R, W', hrun, hmade⟩ := HAP.out; refine ⟨R, W', hrun, ?_⟩; obtain ⟨RA, rn, rc, rfl, _⟩ := ownW_open hmade.1; have HM := Lib.hid hmade; have HPm := Lib.hid (HP9.out.below hmade.2 (by omega)); have m3 : W'.cell? ⟨q5, 3, none⟩ = some v := HPm.out.cell 3; have m4 : W'.frozen? ⟨q5, 3, none⟩ = false := HPm.out.free 3; clear hrun hmade HAP)
   go_roundw
   case rel =>
    refine ⟨k + 1, .slice RA rn rc, by omega, by go_num, HPm.out.put 3 _, ?_, ?_, (HQ9.out.below HM.out.2 (by omega)).far (p := ⟨q5, 3, none⟩) (by show q0 ≠ q5; omega) _, grn_set (grn_belowB HG9.out (by omega) HM.out.2) (p := ⟨q5, 3, none⟩) (by show w1.heap.size ≤ q5; omega) _⟩
    ·have h1 := HM.out.1.far (p := ⟨q5, 3, none⟩) (by show q5 < q5 + 1; omega) (.slice RA rn rc)
     rw [List.take_succ_eq_append_getElem hkt]
     exact h1
    ·exact HR9.out.keep hgD ((HM.out.2.mono (by omega)).setCell (p := ⟨q5, 3, none⟩) (by show D ≤ q5; omega) _)
   case measure => simp [intOf]; omega
  ·obtain rfl : k = N := by omega
   have hkz : ¬ (k : Int) < (k : Int) := by omega
   have HEN := Lib.hid (End_get g _ 0 wr HRr.out.rdr (by rw [← hN, List.drop_length]; simp))
   have hed : endF ((T.drop k).flatMap wkB) 0 = 0 := by rw [← hN, List.drop_length]; rfl
   rw [hed] at HEN
   obtain ⟨VA, vn, vc, rfl, _⟩ := ownW_open HOr.out
   have p0 : wr.cell? ⟨q5, 0, none⟩ = some (.int .i64 (X : Int)) := HPr.out.cell 0
   have p1 : wr.cell? ⟨q5, 1, none⟩ = some (.int .i64 (Y : Int)) := HPr.out.cell 1
   have p2 : wr.cell? ⟨q5, 2, none⟩ = some (.int .i64 (Z : Int)) := HPr.out.cell 2
   have p3 : wr.cell? ⟨q5, 3, none⟩ = some (.slice VA vn vc) := HPr.out.cell 3
   go_wp2_with fail
   refine HEN.out.mono ?_
   rintro e x ⟨rfl, rfl⟩
   go_wp2_with fail
   have HBR : Hid (Below w.heap.size w wr) := Below.turn (by rw [hq0]; exact HB1.out) HGr.out (by rw [hq0]; omega)
   have HOT : Hid (OwnW (q5 + 1) wr (.slice VA vn vc) T) := by have h1 := HOr.out; rw [← hN, List.take_length] at h1; exact h1
   have hMY := pptmay_any (X : Int) (Y : Int) (Z : Int) wr HOT.out (by omega) (fun x hx => ⟨by have := (HSH.out x hx).1; omega, (HSH.out x hx).2⟩) (hTb.below HBR.out) HT0.out
   rw [hok] at hMY
   refine hMY.mono ?_
   rintro e w10 ⟨rfl, hb10⟩
   have P10 := Lib.hid (HPr.out.below hb10.out HPr.out.lt)
   have Q10 := Lib.hid (HQr.out.below hb10.out HQr.out.lt)
   have O10 := Lib.hid (HOT.out.below hb10.out)
   have B10 := Lib.hid (HBR.out.trans (hb10.out.mono HBR.out.size))
   have P0 : w10.cell? ⟨q5, 0, none⟩ = some (.int .i64 (X : Int)) := P10.out.cell 0
   have P1 : w10.cell? ⟨q5, 1, none⟩ = some (.int .i64 (Y : Int)) := P10.out.cell 1
   have P2 : w10.cell? ⟨q5, 2, none⟩ = some (.int .i64 (Z : Int)) := P10.out.cell 2
   have P3 : w10.cell? ⟨q5, 3, none⟩ = some (.slice VA vn vc) := P10.out.cell 3
   have Q0 : w10.cell? ⟨q0, 0, none⟩ = some (.int .i64 0) := Q10.out.cell 0
   have Q1 : w10.cell? ⟨q0, 1, none⟩ = some (.int .i64 0) := Q10.out.cell 1
   have Q2 : w10.cell? ⟨q0, 2, none⟩ = some (.int .i64 0) := Q10.out.cell 2
   have Q3 : w10.cell? ⟨q0, 3, none⟩ = some (.slice none 0 0) := Q10.out.cell 3
   have F0 : w10.frozen? ⟨q0, 0, none⟩ = false := Q10.out.free 0
   have F1 : w10.frozen? ⟨q0, 1, none⟩ = false := Q10.out.free 1
   have F2 : w10.frozen? ⟨q0, 2, none⟩ = false := Q10.out.free 2
   have F3 : w10.frozen? ⟨q0, 3, none⟩ = false := Q10.out.free 3
   clear hMY
   go_wp2_with fail
   have hE : Hid (Has ((((w10.setCell ⟨q0, 0, none⟩ (.int .i64 (X : Int))).setCell ⟨q0, 1, none⟩ (.int .i64 (Y : Int))).setCell ⟨q0, 2, none⟩ (.int .i64 (Z : Int))).setCell ⟨q0, 3, none⟩ (.slice VA vn vc)) q0 75 #[.int .i64 (X : Int), .int .i64 (Y : Int), .int .i64 (Z : Int), .slice VA vn vc]) := (((Q10.out.put 0 _).put 1 _).put 2 _).put 3 _
   have hO : Hid (OwnW w.heap.size ((((w10.setCell ⟨q0, 0, none⟩ (.int .i64 (X : Int))).setCell ⟨q0, 1, none⟩ (.int .i64 (Y : Int))).setCell ⟨q0, 2, none⟩ (.int .i64 (Z : Int))).setCell ⟨q0, 3, none⟩ (.slice VA vn vc)) (.slice VA vn vc) T) := ownW_down ((((O10.out.far (p := ⟨q0, 0, none⟩) (by show q0 < q5 + 1; omega) _).far (p := ⟨q0, 1, none⟩) (by show q0 < q5 + 1; omega) _).far (p := ⟨q0, 2, none⟩) (by show q0 < q5 + 1; omega) _).far (p := ⟨q0, 3, none⟩) (by show q0 < q5 + 1; omega) _) (by omega)
   have hB : Hid (Below w.heap.size w ((((w10.setCell ⟨q0, 0, none⟩ (.int .i64 (X : Int))).setCell ⟨q0, 1, none⟩ (.int .i64 (Y : Int))).setCell ⟨q0, 2, none⟩ (.int .i64 (Z : Int))).setCell ⟨q0, 3, none⟩ (.slice VA vn vc))) := (((B10.out.setCell (p := ⟨q0, 0, none⟩) (by show w.heap.size ≤ q0; omega) _).setCell (p := ⟨q0, 1, none⟩) (by show w.heap.size ≤ q0; omega) _).setCell (p := ⟨q0, 2, none⟩) (by show w.heap.size ≤ q0; omega) _).setCell (p := ⟨q0, 3, none⟩) (by show w.heap.size ≤ q0; omega) _
   exact bodyPost_ret (pEnd2 rfl _ q0 _ _ _ _ _ rfl hE.out) rfl ⟨_, rfl, hO, hB⟩
end Go.Proofs.YtlnbhlgkehenpaaGreatDoor
namespace Go.Proofs.YtlnbhlgkehenpaaGreatDoor
open Go.RowKit Go.Shelf Go.Maps Dg
set_option maxRecDepth 100000
theorem behindO_any (A' : Option Addr) (m : List Nat) (d : Nat) (w : World) (hA' : Rd w A' m) (hm : 0 < m.length) (hb : m.length ≤ 1000000) :
 Calls Tryz.prog 67 #[.slice none 0 0, .slice A' m.length d] w (OutO w m) := by
 obtain ⟨R, W', hrun, ho, hb', _⟩ := own_appK w w.heap.size (.slice none 0 0) [] (own_nil _ _) (Nat.le_refl _) A' m m.length d rfl hA' (by simpa using hb) (fun e => by
  subst e
  obtain ⟨b, off, e, _⟩ := hA' (by intro e; rw [e] at hm; simp at hm)
  cases e)
 rw [List.nil_append] at ho
 have HO := Lib.hid ho
 have HB := Lib.hid hb'
 clear ho hb' hA'
 go_enter Tryz.func67, Tryz.ntmps67
 go_wp2_with (at_builtin; refine wpList_app rfl _ _ 70 70 rfl (.slice none 0 0) (.slice A' m.length d) rfl rfl ⟨R, W', hrun, ?_⟩)
 go_ret
 exact ⟨R, rfl, HO.out, HB.out⟩
theorem NumberO_any (n : Nat) (w : World) (hn63 : (n : Int) ≤ 9223372036854775807) :
 Calls Tryz.prog 41 #[.slice none 0 0, .int .i64 n] w (OutO w (digs n)) := by
 have hbig : n < ybig := by unfold ybig; omega
 have ht := digs_le_ten n hbig
 have hp := digs_pos n
 go_enter Tryz.func41, Tryz.ntmps41
 go_wp2_with fail
 refine (ydigits_any n _ hbig).mono ?_
 intro e w1 hd
 obtain ⟨A', d, rfl, hr, hb1⟩ := hd.out
 have HR := Lib.hid hr
 clear hr hd
 go_wp2_with fail
 refine (behindO_any A' (digs n) d _ HR.out hp (by omega)).mono ?_
 intro e w2 ho
 have HO := Lib.hid ho
 clear ho
 obtain ⟨v, rfl, hv, hb2⟩ := HO.out
 have HV := Lib.hid (own_down hv hb1.size)
 have HB := Lib.hid (hb1.trans (hb2.mono hb1.size))
 clear hv hb1 hb2 HO HR
 go_wp2_with fail
 go_ret
 exact ⟨v, rfl, HV.out, HB.out⟩
theorem wpListIn_app {F : Fence} {k : Nat} {P : Program} {ops : Array Oper} {rest : List Oper} {o : Oper} {a : Act} {w : World} {Q : Exit → Act → World → Prop} (hgd : o.guard = none) (s x : Operand) (t tx : TypeId)
 (ho : o.op = .call { callee := .builtin .append, args := #[s, x], argTypes := #[t, tx] }) (v xv : Value) (hs : a.eval s = v) (hx : a.eval x = xv)
 (hrun : ∃ R W', (Builtin.append_ #[t, tx] o.type #[v, xv]).run P w = .ok R W' ∧ wpListIn F k P ops Q rest (a.put o.dst R) W') : wpListIn F k P ops Q (o :: rest) a w := by
 obtain ⟨R, W', hrun, h⟩ := hrun
 refine wpListIn_plain hgd fun K hK' => ?_
 unfold Oper.wpIn
 refine ⟨?_, ?_⟩
 ·simp [Oper.about, ho, resolve, Target.leads, Sem.run_pure]
 ·rw [Oper.semAt_plain F _ _ (by rw [ho]; intro c hc'; cases hc')]
  simp [execOp, ho, resolve, invoke, builtin, hs, hx, hrun, Result.andThen]
  exact hK' _ _ h
theorem run_loadVar_one {P : Program} (w : World) (g : Nat) (t ty : TypeId) (v : Value) (d : TypeDesc) (hg : Has w g t #[v]) (hu : P.underlying ty = some d) (hd : (match d with | .struct _ | .array _ _ => true | _ => false) = false) :
 (loadVar ty ⟨g, 0, none⟩).run P w = .ok v w := by
 have hagg : (isAgg ty).run P w = .ok false w := by
  unfold isAgg
  rw [Sem.run_bind, run_underlying hu w]
  cases d <;> simp_all
 have hc : w.cell? ⟨g, 0, none⟩ = some v := hg.cell 0
 simp [loadVar, Sem.run_bind, hagg, hc, go_sem]
def KeptR (w w' : World) : Prop := ∀ b, b < w.heap.size → Rec w b → w'.heap[b]? = w.heap[b]?
theorem own_appD (w : World) (B : Nat) (v : Value) (l : List Nat) (h : Own B w v l) (hB : B ≤ w.heap.size) (A : Option Addr) (m : List Nat) (k c : Nat) (hk : m.length = k) (hm : Rd w A m) (hs : l.length + k ≤ 1000000) (hA : A = none → c = 0) :
 ∃ R W', (Builtin.append_ #[70, 70] 70 #[v, .slice A k c]).run Tryz.prog w = .ok R W' ∧ Own B W' R (l ++ m) ∧ Below B w W' ∧ Kept w W' ∧ KeptR w W' ∧ Tur v.ownBlock.toList w W' ∧ (∀ k, R.ownBlock = some k → v.ownBlock = some k ∨ w.heap.size ≤ k) := by
 subst hk
 obtain ⟨i0, hi, hz0, hz1, hz2⟩ := info_parts info5
 rcases A with _ | a
 ·have hl : m = [] := by
   rcases m with _ | ⟨x, m⟩
   ·rfl
   ·obtain ⟨b, off, e, _⟩ := hm (by simp)
    cases e
  subst hl
  rw [hA rfl, List.append_nil]
  exact ⟨v, w, run_append_owned_none w B 70 70 5 i0 1 Tryz.underlying70 hi v _ _ h, h, Below.refl _ _, fun _ _ _ _ hh => hh, fun _ _ _ => rfl, Tur.refl _ _, fun _ hk => .inl hk⟩
 ·have hc : ∀ j u, (m.map bv)[j]? = some u → w.cell? (a.add j) = some u := by
   intro j u hj
   have hjl : j < m.length := by
    have := (List.getElem?_eq_some_iff.1 hj).1
    simpa using this
   obtain ⟨b, off, e, hc⟩ := hm (by rintro rfl; simp at hjl)
   injection e with e
   subst e
   rw [Addr.add_lit, hc j hjl]
   simpa [hjl] using hj
  obtain ⟨R, W', hrun, hown, hg, _, hx⟩ := run_append_own_at (P := Tryz.prog) w B 70 70 5 i0 (.int .u8 0) 1 1 Tryz.underlying70 hi hz0 hz1 hz2 rfl (by decide) v l.length (l.map bv) h a m.length c (m.map bv) (by simp) hc (bv_one m) (by unfold maxLen; omega) (by omega) hB
  have hne : ∀ b t cs, Has w b t cs → t ≠ 5 → some b ≠ v.ownBlock := by
   intro g t cs hh ht e
   rcases h.2 with ⟨hv, _⟩ | ⟨g', cap, cur, hv, _, hc2, _⟩
   ·rw [hv] at e; cases e
   ·rw [hv] at e
    have e2 : g = g' := by simpa [Value.ownBlock] using e
    subst e2
    unfold Has at hh
    rw [hc2] at hh
    simp at hh
    exact ht hh.2.symm
  refine ⟨R, W', hrun, ?_, (Below.refl B w).grown hg hB fun k hk => (World.ownsRow.lt h k hk).1, ?_, ?_, Tur.grown hg fun k hk => by rw [hk]; simp, ?_⟩
  ·unfold Own; rw [List.map_append, List.length_append]; exact hown
  ·exact fun g t cs ht hh => (hg.block g hh.lt (hne g t cs hh ht)).trans hh
  ·intro b hb hr
   refine hg.block b hb fun e => ?_
   rcases h.2 with ⟨hv, _⟩ | ⟨g', cap, cur, hv, _, hc2, _⟩
   ·rw [hv] at e; cases e
   ·rw [hv] at e
    have e2 : b = g' := by simpa [Value.ownBlock] using e
    subst e2
    exact hr 5 cur hc2
  ·intro k hk
   rcases hx with hx | hx
   ·exact .inl (hx ▸ hk)
   ·rw [hx] at hk
    injection hk with hk
    exact .inr (by omega)
theorem own_tur {X : List Nat} {B : Nat} {w w' : World} {v : Value} {l : List Nat} (h : Own B w v l) (ht : Tur X w w') (hx : ∀ g, v.ownBlock = some g → g ∉ X) : Own B w' v l := by
 rcases h.2 with ⟨hv, hn⟩ | ⟨g, cap, cur, hv, hg, hh, hc, hcm, hsz, htk⟩
 ·exact ⟨h.1, .inl ⟨hv, hn⟩⟩
 ·exact ⟨h.1, .inr ⟨g, cap, cur, hv, hg, Has.tur (t := 5) (cs := cur) hh ht (hx g (by rw [hv]; rfl)), hc, hcm, hsz, htk⟩⟩
theorem digs_zero : digs 0 = [0] := by decide +kernel
theorem results_cc {fn : Func} {p0 p1 : Tmp} {t0 t1 : TypeId} (h : fn.results = #[.cell p0 t0, .cell p1 t1]) (tmps : Array Value) (P : Program) (w : World) :
 (results fn tmps).run P w = ((asAddr (tmps.getD p0 undef)).run P w).andThen fun a w₁ => ((loadVar t0 a).run P w₁).andThen fun v w₂ => ((asAddr (tmps.getD p1 undef)).run P w₂).andThen fun a2 w₃ => ((loadVar t1 a2).run P w₃).andThen fun v2 w₄ => .ok (.tuple #[v, v2]) w₄ := by
 simp only [results, h]
 simp [Sem.run_bind, Result.andThen]
 try (split <;> first | rfl | (simp [Result.andThen]; done) | skip)
set_option maxHeartbeats 4000000 in
theorem wwrite0_any {B : Nat} {A : Option Addr} {n c : Nat} {T : List Wk} (Al : Option Addr) (nl cl : Nat) (Aw : Option Addr) (cw : Nat) (x y z : Int) (w : World) (h : OwnW B w (.slice A n c) T) (hsh : Short T) (hl : T.length ≤ 6) (hx : x ≤ 9223372036854775807) (hy : y ≤ 9223372036854775807) (hz : z ≤ 9223372036854775807) (hT : Tabs w) (hok : ptOk x y z T = true) (hlen : (ptB x y z T).length ≤ 900000) (hT0 : T = []) :
 Calls Tryz.prog 24 #[.slice Al nl cl, .slice Aw 0 cw, .agg #[.int .i64 x, .int .i64 y, .int .i64 z, .slice A n c]] w fun e w' => ∃ v, e = .returned (.tuple #[v, .int .i64 0]) ∧ Hid (Own w.heap.size w' v (0 :: ptB x y z T)) ∧ Hid (Below w.heap.size w w') := by
 have HT0 := Lib.hid hT0
 clear hT0
 have b1 : Below w.heap.size w (((w.alloc (.cells #[.int .i64 x, .int .i64 y, .int .i64 z, .slice A n c] 75)).alloc (.cells #[.slice none 0 0] 70)).alloc (.cells #[.int .i64 0] 27)) := (((Below.refl _ w).alloc (Nat.le_refl _) _).alloc (by simp) _).alloc (by simp; omega) _
 have hp : Has (((w.alloc (.cells #[.int .i64 x, .int .i64 y, .int .i64 z, .slice A n c] 75)).alloc (.cells #[.slice none 0 0] 70)).alloc (.cells #[.int .i64 0] 27)) (w.heap.size + 1) 70 #[.slice none 0 0] := by
  have h := Has.new (w.alloc (.cells #[.int .i64 x, .int .i64 y, .int .i64 z, .slice A n c] 75)) 70 #[.slice none 0 0]
  rw [World.size_alloc] at h
  exact h.alloc _
 have hq : Has (((w.alloc (.cells #[.int .i64 x, .int .i64 y, .int .i64 z, .slice A n c] 75)).alloc (.cells #[.slice none 0 0] 70)).alloc (.cells #[.int .i64 0] 27)) (w.heap.size + 1 + 1) 27 #[.int .i64 0] := by
  have h := Has.new ((w.alloc (.cells #[.int .i64 x, .int .i64 y, .int .i64 z, .slice A n c] 75)).alloc (.cells #[.slice none 0 0] 70)) 27 #[.int .i64 0]
  rw [World.size_alloc, World.size_alloc] at h
  exact h
 obtain ⟨k, hk⟩ : ∃ k : Nat, Hid (k = 3) := ⟨3, rfl⟩
 refine (callsIn_wide (n := k)).1 ?_
 have hro : Fence.wide.round = none := rfl
 have hdd : ∀ k : Nat, (Fence.wide.depth.isSome = true → 1 ≤ k) := fun k h => by cases h
 refine callsIn_of_wp_marks Tryz.func24 rfl trivial ?_ rfl
 simp only [Tryz.ntmps24, List.size_toArray, List.length_cons, List.length_nil, Nat.reduceAdd, Nat.reduceSub, Array.replicate_succ, Array.replicate_zero, List.push_toArray, List.append_toArray, List.nil_append, List.cons_append]
 have HWR := fun W (hb : Below w.heap.size w W) => Lib.hid (pwrite_any x y z W (h.below hb) hsh hl hx hy hz (hT.below hb) HT0.out)
 rw [hok] at HWR
 have hpos : 0 < (ptB x y z T).length := by
  unfold ptB numsB
  have := digs_pos x.toNat
  simp only [List.length_append]
  omega
 gi_wp2
 obtain ⟨W1, hW1⟩ : ∃ W, W = (((w.alloc (.cells #[.int .i64 x, .int .i64 y, .int .i64 z, .slice A n c] 75)).alloc (.cells #[.slice none 0 0] 70)).alloc (.cells #[.int .i64 0] 27)) := ⟨_, rfl⟩
 rw [← hW1] at b1 hp hq ⊢
 clear hW1
 refine ⟨trivial, hdd _, ?_⟩
 refine (callsIn_wide.2 (HWR W1 b1).out).mono ?_
 rintro e w2 ⟨v2, rfl, ho2, hb2⟩
 simp only [if_true] at ho2
 obtain ⟨A2, n2, c2, rfl, hn2, hr2, hz2⟩ := own_open ho2.out hpos
 have HP := Lib.hid (hp.below hb2.out hp.lt)
 have HQ := Lib.hid (hq.below hb2.out hq.lt)
 have HB2 := Lib.hid (b1.trans (hb2.out.mono b1.size))
 have hs2 := HB2.out.size
 have hp2 : w.heap.size + 1 < w2.heap.size := HP.out.lt
 have hq2 : w.heap.size + 1 + 1 < w2.heap.size := HQ.out.lt
 clear HWR h hT hsh hp hq b1 ho2 hb2
 gi_wp2
 refine ⟨trivial, hdd _, ?_⟩
 refine (callsIn_wide.2 (NumberO_any 0 w2 (by decide))).mono ?_
 rintro e w3 ⟨v3, rfl, ho3, hb3⟩
 rw [digs_zero] at ho3
 obtain ⟨A3, n3, c3, rfl, hn3, hr3, hz3⟩ := own_open ho3 (by simp)
 have HO3 := Lib.hid ho3
 have hs23 := hb3.size
 have hb2s : w.heap.size ≤ w3.heap.size := Nat.le_trans hs2 hs23
 have HP3 := Lib.hid (HP.out.below hb3 HP.out.lt)
 have HQ3 := Lib.hid (HQ.out.below hb3 HQ.out.lt)
 have HR3 := Lib.hid (hr2.out.below hb3)
 have HB3 := Lib.hid (HB2.out.trans (hb3.mono HB2.out.size))
 clear ho3 hb3 hr2 HP HQ HB2 hn3 hr3 hz3
 have hb4 : Below w3.heap.size w3 (w3.alloc (.cells #[.slice A3 n3 c3] 70)) := (Below.refl _ w3).alloc (Nat.le_refl _) _
 have HX4 := Lib.hid (Has.new w3 70 #[.slice A3 n3 c3])
 have HO4 := Lib.hid (HO3.out.below hb4)
 have HP4 := Lib.hid (HP3.out.below hb4 HP3.out.lt)
 have HQ4 := Lib.hid (HQ3.out.below hb4 HQ3.out.lt)
 have HR4 := Lib.hid (HR3.out.below hb4)
 have HB4 := Lib.hid (HB3.out.trans (hb4.mono HB3.out.size))
 gi_wp2
 obtain ⟨W4, hW4⟩ : ∃ W, W = w3.alloc (.cells #[.slice A3 n3 c3] 70) := ⟨_, rfl⟩
 have hl4 : w2.heap.size ≤ W4.heap.size := by rw [hW4]; exact Nat.le_trans hs23 hb4.size
 rw [← hW4] at HX4
 rw [← hW4] at HO4 HP4 HQ4 HR4 HB4
 rw [← hW4]
 clear hW4 hb4 HO3 HP3 HQ3 HR3 HB3
 refine ⟨trivial, hdd _, ?_⟩
 refine (callsIn_wide.2 (given_any W4 Aw 0 cw)).mono ?_
 rintro e w5 ⟨rfl, hw5⟩
 have hb5 : Below W4.heap.size W4 w5 := by rw [hw5]; exact (Below.refl _ W4).alloc (Nat.le_refl _) _
 clear hw5
 gi_wp2
 refine ⟨trivial, hdd _, ?_⟩
 refine (callsIn_wide.2 (moments_any w5 Al nl cl 0 _ _)).mono ?_
 rintro e w6 ⟨rfl, hw6⟩
 have hb6 : Below w5.heap.size w5 w6 := by rw [hw6]; exact (((Below.refl _ w5).alloc (Nat.le_refl _) _).alloc (by simp) _).alloc (by simp; omega) _
 have ha6 : Has w6 w5.heap.size 22 #[.slice Al nl cl] := by rw [hw6]; exact ((Has.new w5 _ _).alloc _).alloc _
 have hc6 : Has w6 (w5.heap.size + 1) 3 #[.int .i64 0] := by
  have h := Has.new (w5.alloc (.cells #[.slice Al nl cl] 22)) 3 #[.int .i64 0]
  rw [World.size_alloc] at h
  rw [hw6]
  exact h.alloc _
 clear hw6
 have hb56 := hb5.trans (hb6.mono hb5.size)
 have HX6 := Lib.hid (HX4.out.below hb56 HX4.out.lt)
 have HO6 := Lib.hid (HO4.out.below hb56)
 have HP6 := Lib.hid (HP4.out.below hb56 HP4.out.lt)
 have HQ6 := Lib.hid (HQ4.out.below hb56 HQ4.out.lt)
 have HR6 := Lib.hid (HR4.out.below hb56)
 have HB6 := Lib.hid (HB4.out.trans (hb56.mono HB4.out.size))
 clear HX4 HO4 HP4 HQ4 HR4 HB4 hb5 hb6
 gi_wp2
 refine wp_tells (xs := ([] : List Empty)) rfl rfl (gf := 31) (by rfl) trivial (enters_of Tryz.func31 (by kernel_rfl) rfl)
  (it0_tells w6 w5.heap.size (w5.heap.size + 1) (w5.heap.size + 2) Al nl cl ha6 hc6) (Nat.le_refl _) (fun _ _ => rfl) (by rintro c (rfl | rfl); exact ha6.lt; exact hc6.lt) (fun x => x.elim)
  (fun p Y U => Y = [] ∧ Below w6.heap.size w6 U)
  (fun c p Y U => False)
  (fun p Y U U' Z h ht hz => ⟨h.1, h.2.trans (ht.below (fun b hb => (hz b hb).1) h.2.size)⟩)
  (fun c p Y U U' Z h ht hz => h)
  (fun p Y U h b hb => by rw [h.1] at hb; cases hb)
  [] (by simp) ⟨rfl, Below.refl _ _⟩ ?loop ?done ?stop
 case loop => exact ⟨fun x => x.elim, fun _ _ x => x.elim, fun _ _ _ x => x.elim⟩
 case stop => rintro D c p Y U hD ⟨⟩
 case done =>
  rintro D Y U hD ⟨_, hbu⟩ _ hDd
  have HX7 := Lib.hid (HX6.out.below hbu HX6.out.lt)
  have HP7 := Lib.hid (HP6.out.below hbu HP6.out.lt)
  have HQ7 := Lib.hid (HQ6.out.below hbu HQ6.out.lt)
  have HO7 := Lib.hid (HO6.out.below hbu)
  have HR7 := Lib.hid (HR6.out.below hbu)
  have HB7 := Lib.hid (HB6.out.trans (hbu.mono HB6.out.size))
  have hs7 : w2.heap.size ≤ U.heap.size := Nat.le_trans hl4 (Nat.le_trans hb56.size hbu.size)
  clear HX6 HP6 HQ6 HO6 HR6 HB6
  have c0 := HX7.out.cell 0
  obtain ⟨R8, W8, hrun8, ho8, hb8, hk8, hr8, ht8, hx8⟩ := own_appD U w2.heap.size (.slice A3 n3 c3) [0] HO7.out hs7 A2 (ptB x y z T) n2 c2 hn2.out HR7.out (by have := hn2.out; simp; omega) hz2.out
  obtain ⟨A8, n8, c8, rfl, _, _, _⟩ := own_open ho8 (by simp)
  have HP8 := Lib.hid (hk8 _ _ _ (by decide) HP7.out)
  have HQ8 := Lib.hid (hk8 _ _ _ (by decide) HQ7.out)
  have HB8 := Lib.hid (HB7.out.trans (hb8.mono hs2))
  have HO8 := Lib.hid ho8
  have p8 := HP8.out.free 0
  have p9 := HP8.out.cell 0
  have HQ9 := Lib.hid (HQ8.out.far (p := ⟨w.heap.size + 1, 0, none⟩) (by show w.heap.size + 1 + 1 ≠ w.heap.size + 1; omega) (.slice A8 n8 c8))
  have q8 := HQ9.out.free 0
  have q9 := HQ9.out.cell 0
  have HP9 := Lib.hid (HP8.out.put 0 (.slice A8 n8 c8))
  have HPA := Lib.hid (HP9.out.far (p := ⟨w.heap.size + 1 + 1, 0, none⟩) (by show w.heap.size + 1 ≠ w.heap.size + 1 + 1; omega) (.int .i64 0))
  have HQA := Lib.hid (HQ9.out.put 0 (.int .i64 0))
  clear ho8 hb8 hk8 HX7 HP7 HQ7 HO7 HR7 HB7
  gi_wp2_with (gi_at_builtin; refine wpListIn_app rfl _ _ 70 70 rfl (.slice A3 n3 c3) (.slice A2 n2 c2) rfl rfl ⟨.slice A8 n8 c8, W8, hrun8, ?_⟩)
  have hd9 : ((W8.setCell ⟨w.heap.size + 1, 0, none⟩ (.slice A8 n8 c8)).setCell ⟨w.heap.size + 1 + 1, 0, none⟩ (.int .i64 0)).heap[D]? = some (.deferred (some [])) := by
   have hDl : D < U.heap.size := (Array.getElem?_eq_some_iff.1 hDd).1
   have h8 := (hr8 D hDl (rec_of hDd (fun _ _ => by simp))).trans hDd
   have n1 : D ≠ w.heap.size + 1 := fun e => by have := HP8.out; rw [← e] at this; rw [this] at h8; cases h8
   have n2 : D ≠ w.heap.size + 1 + 1 := fun e => by have := HQ8.out; rw [← e] at this; rw [this] at h8; cases h8
   rw [Below.heap_setCell _ _ _ _ (by exact fun e => n2 e), Below.heap_setCell _ _ _ _ (by exact fun e => n1 e)]
   exact h8
  have HBA := Lib.hid ((HB8.out.setCell (p := ⟨w.heap.size + 1, 0, none⟩) (by show w.heap.size ≤ w.heap.size + 1; omega) (.slice A8 n8 c8)).setCell (p := ⟨w.heap.size + 1 + 1, 0, none⟩) (by show w.heap.size ≤ w.heap.size + 1 + 1; omega) (.int .i64 0))
  have ht9 : Tur [w.heap.size + 1, w.heap.size + 1 + 1] W8 ((W8.setCell ⟨w.heap.size + 1, 0, none⟩ (.slice A8 n8 c8)).setCell ⟨w.heap.size + 1 + 1, 0, none⟩ (.int .i64 0)) := (Tur.setCell W8 (p := ⟨w.heap.size + 1, 0, none⟩) (by simp) _).trans (Tur.setCell _ (p := ⟨w.heap.size + 1 + 1, 0, none⟩) (by simp) _) (Fre.refl _ _)
  have HOA := Lib.hid (own_tur HO8.out ht9 (fun g hg => by have := (World.ownsRow.lt HO8.out g hg).1; simp; omega))
  have hnD : ∀ g, (Value.slice A8 n8 c8).ownBlock = some g → g ∉ [D] := fun g hg hh => by
   rw [List.mem_singleton.1 hh] at hg
   have hDl : D < U.heap.size := (Array.getElem?_eq_some_iff.1 hDd).1
   rcases HO8.out.2 with ⟨hv, _⟩ | ⟨g', cap, cur, hv, _, hc2, _⟩
   ·rw [hv] at hg; cases hg
   ·rw [hv] at hg
    have e2 : D = g' := by have := hg; simp [Value.ownBlock] at this; exact this.symm
    subst e2
    have h8 := (hr8 D hDl (rec_of hDd (fun _ _ => by simp))).trans hDd
    rw [hc2] at h8
    cases h8
  obtain ⟨W9, hW9⟩ : ∃ W, W = ((W8.setCell ⟨w.heap.size + 1, 0, none⟩ (.slice A8 n8 c8)).setCell ⟨w.heap.size + 1 + 1, 0, none⟩ (.int .i64 0)) := ⟨_, rfl⟩
  rw [← hW9] at hd9 HBA HOA HPA HQA ⊢
  have htD : Tur [D] W9 (W9.putObj D (.deferred none)) := Tur.putObj W9 (by simp) _
  refine ⟨by simp, .inl ⟨_, _, rfl, run_takeDeferred hd9, ?_⟩⟩
  have hwD : w.heap.size + 1 + 1 < D := by have := hb56.size; omega
  have hHP := HPA.out.tur htD (by simp; omega)
  have hHQ := HQA.out.tur htD (by simp; omega)
  refine ⟨.tuple #[.slice A8 n8 c8, .int .i64 0], ?_, .slice A8 n8 c8, rfl, ?_, ?_⟩
  ·rw [results_cc (fn := Tryz.f24) rfl]
   simp only [Array.getD_eq_getD_getElem?, zG, zI, zH, Option.getD_some, asAddr, Sem.run_pure, Result.andThen_ok]
   rw [run_loadVar_one _ _ _ _ _ _ hHP Tryz.underlying70 rfl]
   simp only [Result.andThen_ok]
   rw [run_loadVar_one _ _ _ _ _ _ hHQ Tryz.underlying27 rfl]
   rfl
  ·exact own_down (own_tur HOA.out htD hnD) hs2
  ·exact HBA.out.trans (htD.below (B := w.heap.size) (by simp; omega) HBA.out.size)
theorem pt_byte (x y z : Int) (T : List Wk) : ∀ b ∈ ptB x y z T, b < 256 := by
 intro b hb
 unfold ptB numsB worksB at hb
 rcases List.mem_append.1 hb with h | h
 ·rcases List.mem_append.1 h with h | h
  ·rcases List.mem_append.1 h with h | h
   ·rcases List.mem_append.1 h with h | h
    ·exact digs_byte _ b h
    ·exact digs_byte _ b h
   ·exact digs_byte _ b h
  ·exact digs_byte _ b h
 ·obtain ⟨x, hx, hb⟩ := List.mem_flatMap.1 h
  unfold wkB at hb
  rcases List.mem_append.1 hb with h | h
  ·exact ytxt_byte _ b h
  ·rcases List.mem_append.1 h with h | h
   ·cases hd : x.d <;> simp [hd] at h <;> omega
   ·exact ytxt_byte _ b h
theorem left14_any (g : Nat) (l : List Nat) (e : Nat) (w : World) (h : Rdr w g l e) :
 Calls Tryz.prog 49 #[.pointer (some ⟨g, 0, none⟩)] w fun x w' => x = .returned (.int .i64 l.length) ∧ w = w' := by
 obtain ⟨A, c, hh, hn, hr⟩ := h
 have HH := Lib.hid hh
 clear hh hr
 have c0 := HH.out.cell 0
 simp at c0
 go_enter Tryz.func49, Tryz.ntmps49
 go_wp2_with fail
 go_ret
 exact ⟨rfl, rfl⟩
def noPanic (Q : Exit → Act → World → Prop) : Exit → Act → World → Prop
 | .panic _, _, _ => False
 | e, a, w => Q e a w
theorem wpIn_noPanic {c : Code} {F : Fence} {n : Nat} {P : Program} {Q : Exit → Act → World → Prop} {a : Act} {w : World} (h : c.wpIn F n P (noPanic Q) a w) : c.wpIn F n P Q a w :=
 wpIn_mono h (by intro e a W h; cases e <;> first | exact h | exact h.elim)
theorem ownW_tur {X : List Nat} {B : Nat} {w w' : World} {v : Value} {T : List Wk} (h : OwnW B w v T) (ht : Tur X w w') (hx : ∀ g, v.ownBlock = some g → g ∉ X) : OwnW B w' v T := by
 rcases h.2 with ⟨hv, hn⟩ | ⟨g, cap, cur, hv, hg, hh, hc, hcm, hsz, htk⟩
 ·exact ⟨h.1, .inl ⟨hv, hn⟩⟩
 ·exact ⟨h.1, .inr ⟨g, cap, cur, hv, hg, Has.tur (t := 120) (cs := cur) hh ht (hx g (by rw [hv]; rfl)), hc, hcm, hsz, htk⟩⟩
theorem results_ccc {fn : Func} {p0 p1 p2 : Tmp} {t0 t1 t2 : TypeId} (h : fn.results = #[.cell p0 t0, .cell p1 t1, .cell p2 t2]) (tmps : Array Value) (P : Program) (w : World) :
 (results fn tmps).run P w = ((asAddr (tmps.getD p0 undef)).run P w).andThen fun a w₁ => ((loadVar t0 a).run P w₁).andThen fun v w₂ => ((asAddr (tmps.getD p1 undef)).run P w₂).andThen fun a2 w₃ => ((loadVar t1 a2).run P w₃).andThen fun v2 w₄ => ((asAddr (tmps.getD p2 undef)).run P w₄).andThen fun a3 w₅ => ((loadVar t2 a3).run P w₅).andThen fun v3 w₆ => .ok (.tuple #[v, v2, v3]) w₆ := by
 simp only [results, h]
 simp [Sem.run_bind, Result.andThen]
 try (split <;> first | rfl | (simp [Result.andThen]; done) | skip)
theorem rd_tail {w : World} {A : Option Addr} {x : Nat} {l : List Nat} (h : Rd w A (x :: l)) : ∃ b off, A = some ⟨b, off, none⟩ ∧ Rd w (some ⟨b, off + 1, none⟩) l := by
 obtain ⟨b, off, e, hc⟩ := h (by simp)
 refine ⟨b, off, e, fun hl => ⟨b, off + 1, rfl, fun i hi => ?_⟩⟩
 have := hc (i + 1) (by simpa using hi)
 rw [show off + 1 + i = off + (i + 1) by omega, this]
 simp
set_option maxHeartbeats 4000000 in
theorem wread0_any (X Y Z : Nat) (T : List Wk) (Al : Option Addr) (nl cl : Nat) (A : Option Addr) (n c : Nat) (w : World) (hr : Rd w A (0 :: ptB (X : Int) (Y : Int) (Z : Int) T)) (hn : (ptB (X : Int) (Y : Int) (Z : Int) T).length + 1 = n) (hnc : n ≤ c) (hlen : n ≤ 1000000) (hx : X ≤ 9223372036854775807) (hy : Y ≤ 9223372036854775807) (hz : Z ≤ 9223372036854775807) (hT : T.length ≤ 6) (hS : ∀ x ∈ T, x.t.size ≤ 32 ∧ x.k.size ≤ 900) (hTb : Tabs w) (hok : ptOk (X : Int) (Y : Int) (Z : Int) T = true) (hT0 : T = []) :
 Calls Tryz.prog 25 #[.slice Al nl cl, .slice A n c] w fun e w' => ∃ v, e = .returned (.tuple #[.slice none 0 0, .agg #[.int .i64 (X : Int), .int .i64 (Y : Int), .int .i64 (Z : Int), v], .int .i64 0]) ∧ Hid (OwnW w.heap.size w' v T) ∧ Hid (Below w.heap.size w w') := by
 have HT0 := Lib.hid hT0
 clear hT0
 have b1 : Below w.heap.size w (((w.alloc (.cells #[.slice none 0 0] 23)).alloc (.cells #[.int .i64 0, .int .i64 0, .int .i64 0, .slice none 0 0] 75)).alloc (.cells #[.int .i64 0] 27)) := (((Below.refl _ w).alloc (Nat.le_refl _) _).alloc (by simp) _).alloc (by simp; omega) _
 have hp : Has (((w.alloc (.cells #[.slice none 0 0] 23)).alloc (.cells #[.int .i64 0, .int .i64 0, .int .i64 0, .slice none 0 0] 75)).alloc (.cells #[.int .i64 0] 27)) w.heap.size 23 #[.slice none 0 0] := ((Has.new w _ _).alloc _).alloc _
 have hq : Has (((w.alloc (.cells #[.slice none 0 0] 23)).alloc (.cells #[.int .i64 0, .int .i64 0, .int .i64 0, .slice none 0 0] 75)).alloc (.cells #[.int .i64 0] 27)) (w.heap.size + 1) 75 #[.int .i64 0, .int .i64 0, .int .i64 0, .slice none 0 0] := by
  have h := Has.new (w.alloc (.cells #[.slice none 0 0] 23)) 75 #[.int .i64 0, .int .i64 0, .int .i64 0, .slice none 0 0]
  rw [World.size_alloc] at h
  exact h.alloc _
 have ho : Has (((w.alloc (.cells #[.slice none 0 0] 23)).alloc (.cells #[.int .i64 0, .int .i64 0, .int .i64 0, .slice none 0 0] 75)).alloc (.cells #[.int .i64 0] 27)) (w.heap.size + 1 + 1) 27 #[.int .i64 0] := by
  have h := Has.new ((w.alloc (.cells #[.slice none 0 0] 23)).alloc (.cells #[.int .i64 0, .int .i64 0, .int .i64 0, .slice none 0 0] 75)) 27 #[.int .i64 0]
  rw [World.size_alloc, World.size_alloc] at h
  exact h
 obtain ⟨k, hk⟩ : ∃ k : Nat, Hid (k = 3) := ⟨3, rfl⟩
 refine (callsIn_wide (n := k)).1 ?_
 have hro : Fence.wide.round = none := rfl
 have hdd : ∀ k : Nat, (Fence.wide.depth.isSome = true → 1 ≤ k) := fun k h => by cases h
 refine callsIn_of_wp_marks Tryz.func25 rfl trivial ?_ rfl
 simp only [Tryz.ntmps25, List.size_toArray, List.length_cons, List.length_nil, Nat.reduceAdd, Nat.reduceSub, Array.replicate_succ, Array.replicate_zero, List.push_toArray, List.append_toArray, List.nil_append, List.cons_append]
 have hpos : 0 < (ptB (X : Int) (Y : Int) (Z : Int) T).length := by
  unfold ptB numsB
  have := digs_pos ((X : Int).toNat)
  simp only [List.length_append]
  omega
 have h256 := pt_byte (X : Int) (Y : Int) (Z : Int) T
 have HPR := Lib.hid (fun (A' : Option Addr) (c' : Nat) (W : World) (hr' : Rd W A' (ptB (X : Int) (Y : Int) (Z : Int) T)) (hT' : Tabs W) => pread_any X Y Z T A' (n - 1) c' W hr' (by omega) (by omega) h256 hx hy hz hT hS hT' hok HT0.out)
 obtain ⟨PB, hPB⟩ : ∃ l, ptB (X : Int) (Y : Int) (Z : Int) T = l := ⟨_, rfl⟩
 rw [hPB] at hr hn hpos h256 HPR
 clear hPB
 obtain ⟨bA, off, rfl, hrt⟩ := rd_tail hr
 have hrd := Lib.hid hr
 gi_wp2
 obtain ⟨W1, hW1⟩ : ∃ W, W = (((w.alloc (.cells #[.slice none 0 0] 23)).alloc (.cells #[.int .i64 0, .int .i64 0, .int .i64 0, .slice none 0 0] 75)).alloc (.cells #[.int .i64 0] 27)) := ⟨_, rfl⟩
 rw [← hW1] at b1 hp hq ho ⊢
 clear hW1
 refine ⟨trivial, hdd _, ?_⟩
 refine (callsIn_wide.2 (Read_len (some ⟨bA, off, none⟩) (0 :: PB) n c W1 (by simpa using hn) (hrd.out.below b1) (by omega))).mono ?_
 rintro e w2 ⟨g, rfl, hg0, hr1, hb2⟩
 have HRD := Lib.hid hr1
 have HP := Lib.hid (hp.below hb2.out hp.lt)
 have HQ := Lib.hid (hq.below hb2.out hq.lt)
 have HO := Lib.hid (ho.below hb2.out ho.lt)
 have HB2 := Lib.hid (b1.trans (hb2.out.mono b1.size))
 have HA2 := Lib.hid ((hrt.below b1).below hb2.out)
 have HTB := Lib.hid (hTb.below (b1.trans (hb2.out.mono b1.size)))
 obtain ⟨D, hD⟩ : ∃ D, w2.heap.size = D := ⟨_, rfl⟩
 have hgD : g < D := by obtain ⟨_, _, hh, _⟩ := hr1.out; rw [← hD]; exact hh.lt
 have HR2 := Lib.hid (hr1.out.dd)
 rw [hD] at HR2
 have hb3 : Below w2.heap.size w2 (w2.alloc (.cells #[.slice none 0 0] 23)) := (Below.refl _ w2).alloc (Nat.le_refl _) _
 have HX3 := Lib.hid (Has.new w2 23 #[.slice none 0 0])
 have HP3 := Lib.hid (HP.out.below hb3 HP.out.lt)
 have HQ3 := Lib.hid (HQ.out.below hb3 HQ.out.lt)
 have HO3 := Lib.hid (HO.out.below hb3 HO.out.lt)
 have HB3 := Lib.hid (HB2.out.trans (hb3.mono HB2.out.size))
 have HR3 := Lib.hid (HR2.out.al hgD (by omega) (.cells #[.slice none 0 0] 23))
 have hs1 : W1.heap.size ≤ g := hg0
 have hsw : w.heap.size + 1 + 1 < W1.heap.size := ho.lt
 clear hr1 HRD HR2 HP HQ HO HB2 HA2 HTB hp hq ho b1
 gi_wp2
 obtain ⟨W3, hW3⟩ : ∃ W, W = w2.alloc (.cells #[.slice none 0 0] 23) := ⟨_, rfl⟩
 have hs3 : D < W3.heap.size := by rw [hW3, ← hD]; simp
 rw [← hW3] at HX3 HP3 HQ3 HO3 HB3 HR3 ⊢
 clear hW3 hb3
 rw [hD] at HX3
 refine ⟨trivial, hdd _, ?_⟩
 have HR3' : Hid (RdrD D W3 g (digs 0 ++ PB) 0) := by rw [digs_zero]; exact HR3.out
 have h256' : ∀ x ∈ digs 0 ++ PB, x < 256 := by rw [digs_zero]; intro x hx; rcases List.mem_append.1 hx with h | h; simp at h; omega; exact h256 x h
 refine (callsIn_wide.2 (numD_put g 0 PB W3 HR3'.out (by omega) h256' (by rw [digs_zero]; simp; omega))).mono ?_
 rintro e w4 ⟨rfl, hr4, hg4⟩
 have hb4 : Below W1.heap.size W3 w4 := (Below.refl W1.heap.size W3).grown hg4.out (by omega) (fun k hk => by injection hk with hk; omega)
 have HX4 := Lib.hid (HX3.out.grn hg4.out (by omega))
 have HP4 := Lib.hid (HP3.out.below hb4 (by omega))
 have HQ4 := Lib.hid (HQ3.out.below hb4 (by omega))
 have HO4 := Lib.hid (HO3.out.below hb4 (by omega))
 have HB4 := Lib.hid (HB3.out.trans (hb4.mono (by omega)))
 have hs4 : D < w4.heap.size := Nat.lt_of_lt_of_le hs3 hg4.out.size
 clear HX3 HP3 HQ3 HO3 HB3 HR3 HR3' hb4 hg4
 gi_wp2
 refine ⟨trivial, hdd _, ?_⟩
 refine (callsIn_wide.2 (standing_any w4 g)).mono ?_
 rintro e w5 ⟨rfl, hw5⟩
 have hb5 : Below w4.heap.size w4 w5 := by rw [hw5]; exact (Below.refl _ w4).alloc (Nat.le_refl _) _
 clear hw5
 gi_wp2
 refine ⟨trivial, hdd _, ?_⟩
 refine (callsIn_wide.2 (moments_any w5 Al nl cl 0 _ _)).mono ?_
 rintro e w6 ⟨rfl, hw6⟩
 have hb6 : Below w5.heap.size w5 w6 := by rw [hw6]; exact (((Below.refl _ w5).alloc (Nat.le_refl _) _).alloc (by simp) _).alloc (by simp; omega) _
 have ha6 : Has w6 w5.heap.size 22 #[.slice Al nl cl] := by rw [hw6]; exact ((Has.new w5 _ _).alloc _).alloc _
 have hc6 : Has w6 (w5.heap.size + 1) 3 #[.int .i64 0] := by
  have h := Has.new (w5.alloc (.cells #[.slice Al nl cl] 22)) 3 #[.int .i64 0]
  rw [World.size_alloc] at h
  rw [hw6]
  exact h.alloc _
 clear hw6
 have hb56 := hb5.trans (hb6.mono hb5.size)
 gi_wp2
 refine wp_tells (xs := ([] : List Empty)) rfl rfl (gf := 31) (by rfl) trivial (enters_of Tryz.func31 (by kernel_rfl) rfl)
  (it0_tells w6 w5.heap.size (w5.heap.size + 1) (w5.heap.size + 2) Al nl cl ha6 hc6) (Nat.le_refl _) (fun _ _ => rfl) (by rintro c (rfl | rfl); exact ha6.lt; exact hc6.lt) (fun x => x.elim)
  (fun p Y U => Y = [] ∧ Below w6.heap.size w6 U)
  (fun c p Y U => False)
  (fun p Y U U' Z h ht hz => ⟨h.1, h.2.trans (ht.below (fun b hb => (hz b hb).1) h.2.size)⟩)
  (fun c p Y U U' Z h ht hz => h)
  (fun p Y U h b hb => by rw [h.1] at hb; cases hb)
  [] (by simp) ⟨rfl, Below.refl _ _⟩ ?loop ?done ?stop
 case loop => exact ⟨fun x => x.elim, fun _ _ x => x.elim, fun _ _ _ x => x.elim⟩
 case stop => rintro D c p Y U hD ⟨⟩
 case done =>
  rintro E Z0 U hE ⟨_, hbu⟩ _ hDd
  have hbU := hb56.trans (hbu.mono hb56.size)
  have HX7 := Lib.hid (HX4.out.below hbU HX4.out.lt)
  have HP7 := Lib.hid (HP4.out.below hbU HP4.out.lt)
  have HQ7 := Lib.hid (HQ4.out.below hbU HQ4.out.lt)
  have HO7 := Lib.hid (HO4.out.below hbU HO4.out.lt)
  have HB7 := Lib.hid (HB4.out.trans (hbU.mono HB4.out.size))
  have HR7 := Lib.hid (hr4.out.keep hgD (hbU.mono (by omega)))
  have hE4 : w4.heap.size ≤ E := Nat.le_trans hb56.size hE
  clear HX4 HP4 HQ4 HO4 HB4 hr4
  have hsub : (n : Int) - (PB.length : Int) = 1 := by omega
  have hlnn : ((PB.length : Nat) : Int) = (n : Int) - 1 := by omega
  have hcn : n ≠ 0 := by omega
  gi_wp2
  refine ⟨trivial, hdd _, ?_⟩
  refine (callsIn_wide.2 (left14_any g PB 0 U HR7.out.rdr)).mono ?_
  rintro e w8 ⟨rfl, rfl⟩
  rw [hlnn]
  gi_wp2
  have hn1 : n - (n - 1) = 1 := by omega
  rw [hn1]
  refine ⟨trivial, hdd _, ?_⟩
  have hBU := Lib.hid HB7.out
  refine (callsIn_wide.2 (HPR.out (some ⟨bA, off + 1, none⟩) (c - 1) U (hrt.below HB7.out) (hTb.below HB7.out))).mono ?_
  rintro e w9 ⟨v9, rfl, ho9, hb9⟩
  obtain ⟨A9, n9, c9, rfl, _, _, _, _, _⟩ := ownW_open ho9.out
  have hb10 : Below w9.heap.size w9 (w9.alloc (.cells #[.int .i64 (X : Int), .int .i64 (Y : Int), .int .i64 (Z : Int), .slice A9 n9 c9] 75)) := (Below.refl _ w9).alloc (Nat.le_refl _) _
  have hbx := hb9.out.trans (hb10.mono hb9.out.size)
  have HV10 := Lib.hid (Has.new w9 75 #[.int .i64 (X : Int), .int .i64 (Y : Int), .int .i64 (Z : Int), .slice A9 n9 c9])
  have HX10 := Lib.hid (HX7.out.below hbx HX7.out.lt)
  have HP10 := Lib.hid (HP7.out.below hbx HP7.out.lt)
  have HQ10 := Lib.hid (HQ7.out.below hbx HQ7.out.lt)
  have HO10 := Lib.hid (HO7.out.below hbx HO7.out.lt)
  have HB10 := Lib.hid (HB7.out.trans (hbx.mono HB7.out.size))
  have HXn : D < w9.heap.size := Nat.lt_of_lt_of_le HX7.out.lt hb9.out.size
  have hEl : E < U.heap.size := (Array.getElem?_eq_some_iff.1 hDd).1
  have hDU : D ≤ U.heap.size := by have := hbU.size; omega
  have HR10 := Lib.hid (HR7.out.keep hgD (hbx.mono hDU))
  have HT10 := Lib.hid (ho9.out.below hb10)
  have hd10 := (hbx.block E hEl).trans hDd
  clear HX7 HP7 HQ7 HO7 HB7 HR7 HPR hBU ho9
  gi_wp2
  obtain ⟨W10, hW10⟩ : ∃ W, W = (w9.alloc (.cells #[.int .i64 (X : Int), .int .i64 (Y : Int), .int .i64 (Z : Int), .slice A9 n9 c9] 75)) := ⟨_, rfl⟩
  rw [← hW10] at HV10 HX10 HP10 HQ10 HO10 HB10 HR10 HT10 hd10 ⊢
  clear hW10
  refine ⟨trivial, hdd _, ?_⟩
  refine (callsIn_wide.2 (Errno_get g PB 0 W10 HR10.out.rdr)).mono ?_
  rintro e w11 ⟨rfl, rfl⟩
  gi_wp2
  rename_i hKr
  refine wpIn_noPanic ?_
  refine wpIn_wide.2 ?_
  obtain ⟨wd, hwd⟩ : ∃ W, W = W10.drew := ⟨_, rfl⟩
  have hbd : Below W10.heap.size W10 wd := by rw [hwd]; exact (Below.refl _ W10).drew
  have HXd := Lib.hid (HX10.out.below hbd HX10.out.lt)
  have HVd := Lib.hid (HV10.out.below hbd HV10.out.lt)
  have HPd := Lib.hid (HP10.out.below hbd HP10.out.lt)
  have HQd := Lib.hid (HQ10.out.below hbd HQ10.out.lt)
  have HOd := Lib.hid (HO10.out.below hbd HO10.out.lt)
  have HTd := Lib.hid (HT10.out.below hbd)
  have HBd := Lib.hid (HB10.out.trans (hbd.mono HB10.out.size))
  have hEl10 : E < W10.heap.size := (Array.getElem?_eq_some_iff.1 hd10).1
  have hdd10 := (hbd.block E hEl10).trans hd10
  have hSd : (fun V : World => V.cell? ⟨D, 0, none⟩ = some (.slice none 0 0) ∧ V.cell? ⟨w9.heap.size, 0, none⟩ = some (.int .i64 (X : Int)) ∧ V.cell? ⟨w9.heap.size, 1, none⟩ = some (.int .i64 (Y : Int)) ∧ V.cell? ⟨w9.heap.size, 2, none⟩ = some (.int .i64 (Z : Int)) ∧ V.cell? ⟨w9.heap.size, 3, none⟩ = some (.slice A9 n9 c9)) wd := ⟨HXd.out.cell 0, HVd.out.cell 0, HVd.out.cell 1, HVd.out.cell 2, HVd.out.cell 3⟩
  refine wp_region_held_drew (S := (fun V : World => V.cell? ⟨D, 0, none⟩ = some (.slice none 0 0) ∧ V.cell? ⟨w9.heap.size, 0, none⟩ = some (.int .i64 (X : Int)) ∧ V.cell? ⟨w9.heap.size, 1, none⟩ = some (.int .i64 (Y : Int)) ∧ V.cell? ⟨w9.heap.size, 2, none⟩ = some (.int .i64 (Z : Int)) ∧ V.cell? ⟨w9.heap.size, 3, none⟩ = some (.slice A9 n9 c9))) (by kernel_rfl) (hwd ▸ hSd) (fun _ => ?_)
  rw [← hwd]
  clear hwd hbd
  (refine wpAnyH_take (i := 0) (v := ?_) rfl (by kernel_rfl) (by kernel_rfl) (by kernel_rfl) (fun _ _ _ h => h) (Or.inl ⟨by rfl, ?_⟩) (by assumption) ?_; rotate_left; (intro w hSw; (try dsimp only at hSw); go_simp; try with_reducible rfl); ((try simp only [zA, zB, zC, Act.put, zD, zE, zF])))
  (refine wpAnyH_take (i := 1) (v := ?_) rfl (by kernel_rfl) (by kernel_rfl) (by kernel_rfl) (fun _ _ _ h => h) (Or.inl ⟨by rfl, ?_⟩) (by assumption) ?_; rotate_left; (intro w hSw; (try dsimp only at hSw); go_simp; try with_reducible rfl); ((try simp only [zA, zB, zC, Act.put, zD, zE, zF])))
  have f2 := HPd.out.free 0
  have g2 := HPd.out.cell 0
  have nD : w.heap.size + 1 + 1 < D := by omega
  have nW : D < w9.heap.size := HXn
  have hX2 := HXd.out.far (p := ⟨w.heap.size, 0, none⟩) (by show D ≠ w.heap.size; omega) (.slice none 0 0)
  have hV2 := HVd.out.far (p := ⟨w.heap.size, 0, none⟩) (by show w9.heap.size ≠ w.heap.size; omega) (.slice none 0 0)
  have hQ2 := HQd.out.far (p := ⟨w.heap.size, 0, none⟩) (by show w.heap.size + 1 ≠ w.heap.size; omega) (.slice none 0 0)
  have hO2 := HOd.out.far (p := ⟨w.heap.size, 0, none⟩) (by show w.heap.size + 1 + 1 ≠ w.heap.size; omega) (.slice none 0 0)
  have hP2 := HPd.out.put 0 (.slice none 0 0)
  refine wpAnyH_ready (rs := [2]) (by kernel_rfl) (by simp) ?_
  refine AllReadyH.cons rfl (fun K2 hK2 => ?_) AllReadyH.nil
  go_simp
  obtain ⟨W2, hW2⟩ : ∃ W, W = wd.setCell ⟨w.heap.size, 0, none⟩ (.slice none 0 0) := ⟨_, rfl⟩
  have t2 : Tur [w.heap.size] wd W2 := by rw [hW2]; exact Tur.setCell wd (p := ⟨w.heap.size, 0, none⟩) (by simp) _
  rw [← hW2] at hX2 hV2 hQ2 hO2 hP2 ⊢
  clear hW2
  refine hK2.out _ _ (by (try dsimp only); exact ⟨hX2.cell 0, hV2.cell 0, hV2.cell 1, hV2.cell 2, hV2.cell 3⟩) (fun _ => ?_)
  clear hK2 K2 f2 g2
  (try simp only [zA, zB, zC, Act.put, zD, zE, zF])
  have q0 := hQ2.free 0
  have r0 := hQ2.cell 0
  have u1 := hQ2.put 0 (.int .i64 (X : Int))
  have q1 := u1.free 1
  have r1 := u1.cell 1
  have u2 := u1.put 1 (.int .i64 (Y : Int))
  have q2 := u2.free 2
  have r2 := u2.cell 2
  have u3 := u2.put 2 (.int .i64 (Z : Int))
  have q3 := u3.free 3
  have r3 := u3.cell 3
  have u4 := u3.put 3 (.slice A9 n9 c9)
  have t3 : Tur [w.heap.size + 1] W2 ((((W2.setCell ⟨w.heap.size + 1, 0, none⟩ (.int .i64 (X : Int))).setCell ⟨w.heap.size + 1, 1, none⟩ (.int .i64 (Y : Int))).setCell ⟨w.heap.size + 1, 2, none⟩ (.int .i64 (Z : Int))).setCell ⟨w.heap.size + 1, 3, none⟩ (.slice A9 n9 c9)) := (((Tur.setCell W2 (p := ⟨w.heap.size + 1, 0, none⟩) (by simp) _).trans (Tur.setCell _ (p := ⟨w.heap.size + 1, 1, none⟩) (by simp) _) (Fre.refl _ _)).trans (Tur.setCell _ (p := ⟨w.heap.size + 1, 2, none⟩) (by simp) _) (Fre.refl _ _)).trans (Tur.setCell _ (p := ⟨w.heap.size + 1, 3, none⟩) (by simp) _) (Fre.refl _ _)
  refine wpAnyH_ready (rs := [3]) (by kernel_rfl) (by simp) ?_
  refine AllReadyH.cons rfl (fun K2 hK2 => ?_) AllReadyH.nil
  go_simp
  obtain ⟨W3b, hW3b⟩ : ∃ W, W = ((((W2.setCell ⟨w.heap.size + 1, 0, none⟩ (.int .i64 (X : Int))).setCell ⟨w.heap.size + 1, 1, none⟩ (.int .i64 (Y : Int))).setCell ⟨w.heap.size + 1, 2, none⟩ (.int .i64 (Z : Int))).setCell ⟨w.heap.size + 1, 3, none⟩ (.slice A9 n9 c9)) := ⟨_, rfl⟩
  have HQ3 : Hid (Has W3b (w.heap.size + 1) 75 #[.int .i64 (X : Int), .int .i64 (Y : Int), .int .i64 (Z : Int), .slice A9 n9 c9]) := by rw [hW3b]; exact u4
  rw [← hW3b] at t3 ⊢
  clear hW3b q0 r0 u1 q1 r1 u2 q2 r2 u3 q3 r3 u4
  have hX3 := hX2.tur t3 (by simp; omega)
  have hV3 := hV2.tur t3 (by simp; omega)
  have hO3 := hO2.tur t3 (by simp; try omega)
  have hP3 := hP2.tur t3 (by simp; try omega)
  refine hK2.out _ _ (by (try dsimp only); exact ⟨hX3.cell 0, hV3.cell 0, hV3.cell 1, hV3.cell 2, hV3.cell 3⟩) (fun _ => ?_)
  clear hK2 K2
  (try simp only [zA, zB, zC, Act.put, zD, zE, zF])
  have f4 := hO3.free 0
  have g4 := hO3.cell 0
  have t4 : Tur [w.heap.size + 1 + 1] W3b (W3b.setCell ⟨w.heap.size + 1 + 1, 0, none⟩ (.int .i64 0)) := Tur.setCell W3b (p := ⟨w.heap.size + 1 + 1, 0, none⟩) (by simp) _
  have hO4 := hO3.put 0 (.int .i64 0)
  refine wpAnyH_ready (rs := [4]) (by kernel_rfl) (by simp) ?_
  refine AllReadyH.cons rfl (fun K2 hK2 => ?_) AllReadyH.nil
  go_simp
  obtain ⟨W4b, hW4b⟩ : ∃ W, W = W3b.setCell ⟨w.heap.size + 1 + 1, 0, none⟩ (.int .i64 0) := ⟨_, rfl⟩
  have HO4 : Hid (Has W4b (w.heap.size + 1 + 1) 27 #[.int .i64 0]) := by rw [hW4b]; exact hO4
  rw [← hW4b] at t4 ⊢
  clear hW4b f4 g4 hO4
  have hX4 := hX3.tur t4 (by simp; omega)
  have hV4 := hV3.tur t4 (by simp; omega)
  have hP4 := hP3.tur t4 (by simp; try omega)
  have hQ4 := HQ3.out.tur t4 (by simp; try omega)
  refine hK2.out _ _ (by (try dsimp only); exact ⟨hX4.cell 0, hV4.cell 0, hV4.cell 1, hV4.cell 2, hV4.cell 3⟩) (fun _ => ?_)
  clear hK2 K2
  (try simp only [zA, zB, zC, Act.put, zD, zE, zF])
  refine wpAnyH_done (by kernel_rfl) ?_ _
  refine hKr _ _ ?_
  gi_wp2
  have hsE : w.heap.size + 1 + 1 < E := by omega
  have hdE : W4b.heap[E]? = some (.deferred (some [])) := by
   have e2 := (t2.block E (Array.getElem?_eq_some_iff.1 hdd10).1 (by simp; omega)).trans hdd10
   have e3 := (t3.block E (Array.getElem?_eq_some_iff.1 e2).1 (by simp; omega)).trans e2
   exact (t4.block E (Array.getElem?_eq_some_iff.1 e3).1 (by simp; omega)).trans e3
  have htE : Tur [E] W4b (W4b.putObj E (.deferred none)) := Tur.putObj W4b (by simp) _
  have hsU : w.heap.size + 1 + 1 < U.heap.size := by omega
  have hob : ∀ q, (Value.slice A9 n9 c9).ownBlock = some q → U.heap.size ≤ q := fun q hq => (World.ownsRow.lt HTd.out q hq).1
  have HT4 := ownW_tur (ownW_tur (ownW_tur (ownW_tur HTd.out t2 (fun q hq => by have := hob q hq; simp; omega)) t3 (fun q hq => by have := hob q hq; simp; omega)) t4 (fun q hq => by have := hob q hq; simp; omega)) htE (fun q hq => by have := hob q hq; simp; omega)
  have HB4b := HBd.out.trans ((((t2.below (B := w.heap.size) (by simp) HBd.out.size).trans (t3.below (B := w.heap.size) (by simp) (Nat.le_trans HBd.out.size t2.size))).trans (t4.below (B := w.heap.size) (by simp; omega) (Nat.le_trans HBd.out.size (Nat.le_trans t2.size t3.size)))).trans (htE.below (B := w.heap.size) (by simp; omega) (Nat.le_trans HBd.out.size (Nat.le_trans t2.size (Nat.le_trans t3.size t4.size)))))
  have hP5 := hP4.tur htE (by simp; omega)
  have hQ5 := hQ4.tur htE (by simp; omega)
  have hO5 := HO4.out.tur htE (by simp; omega)
  refine ⟨by simp, .inl ⟨_, _, rfl, run_takeDeferred hdE, ?_⟩⟩
  refine ⟨.tuple #[.slice none 0 0, .agg #[.int .i64 (X : Int), .int .i64 (Y : Int), .int .i64 (Z : Int), .slice A9 n9 c9], .int .i64 0], ?_, .slice A9 n9 c9, rfl, ?_, HB4b⟩
  ·rw [results_ccc (fn := Tryz.f25) rfl]
   simp only [Array.getD_eq_getD_getElem?, zG, zI, zH, Option.getD_some, asAddr, Sem.run_pure, Result.andThen_ok]
   rw [run_loadVar_one _ _ _ _ _ _ hP5 Tryz.underlying23 rfl]
   simp only [Result.andThen_ok]
   rw [run_loadVar_row _ _ 75 75 #[.int .i64 (X : Int), .int .i64 (Y : Int), .int .i64 (Z : Int), .slice A9 n9 c9] (0, 0) _ hQ5 Tryz.underlying75 rfl (by kernel_rfl)]
   simp only [Result.andThen_ok]
   rw [run_loadVar_one _ _ _ _ _ _ hO5 Tryz.underlying27 rfl]
   rfl
  ·exact ownW_down HT4 (by omega)
theorem ptB0 : ptB 0 0 0 [] = [0, 0, 0, 0] := by decide +kernel
theorem ptOk0 : ptOk 0 0 0 [] = true := by decide +kernel
theorem bs0 : bs [0, 0, 0, 0, 0] = ⟨#[0, 0, 0, 0, 0]⟩ := by decide +kernel
set_option maxHeartbeats 2000000 in
theorem lives14_any (w : World) (hT : Tabs w) : Calls Tryz.prog 11 #[] w fun e w' => e = .returned (.bool true) ∧ Hid (Below w.heap.size w w') := by
 have h1 : Short [] := fun x hx => by cases hx
 have h2 : (ptB 0 0 0 []).length ≤ 900000 := by rw [ptB0]; simp
 have h3 : (0 : Int) ≤ 9223372036854775807 := by omega
 have HWR := Lib.hid (@wwrite0_any w.heap.size none 0 0 [] none 0 0 none 0 0 0 0 w (ownW_nil w.heap.size w) h1 (Nat.zero_le _) h3 h3 h3 hT ptOk0 h2 rfl)
 clear h1 h2 h3
 rw [ptB0] at HWR
 have HT := Lib.hid hT
 clear hT
 go_enter Tryz.func11, Tryz.ntmps11
 go_wp2_with fail
 refine HWR.out.mono ?_
 rintro e w1 ⟨v1, rfl, ho1, hb1⟩
 obtain ⟨A1, n1, c1, rfl, hn1, hr1, hz1⟩ := own_open ho1.out (by simp)
 have hnc : n1 ≤ c1 ∧ n1 = 5 := by
  obtain ⟨A', c', e, h, _⟩ := own_full ho1.out
  injection e with e1 e2 e3
  rw [e2, e3]
  exact ⟨h, rfl⟩
 obtain ⟨hnc, hn5⟩ := hnc
 subst hn5
 have HRD := Lib.hid (wread0_any 0 0 0 [] none 0 0 A1 5 c1 w1 (by rw [show ((0 : Nat) : Int) = 0 from rfl, ptB0]; exact hr1.out) (by rw [show ((0 : Nat) : Int) = 0 from rfl, ptB0]; rfl) hnc (by omega) (by omega) (by omega) (by omega) (by simp) (fun x hx => by cases hx) (HT.out.below hb1.out) ptOk0 rfl)
 obtain ⟨o, ho⟩ : ∃ o : Int, ((0 : Nat) : Int) = o := ⟨_, rfl⟩
 rw [ho] at HRD
 have HOO := Lib.hid ho
 clear ho
 clear HWR ho1 hnc
 go_wp2_with fail
 refine HRD.out.mono ?_
 rintro e w2 ⟨v2, rfl, ho2, hb2⟩
 have HB2 := Lib.hid (hb1.out.trans (hb2.out.mono hb1.out.size))
 have HR2 := Lib.hid (hr1.out.below hb2.out)
 obtain ⟨A2, n2, c2, rfl, _, _, _, _, _⟩ := ownW_open ho2.out
 have hb3 : Below w2.heap.size w2 (w2.alloc (.cells #[.int .i64 o, .int .i64 o, .int .i64 o, .slice A2 n2 c2] 75)) := (Below.refl _ w2).alloc (Nat.le_refl _) _
 have HV := Lib.hid (Has.new w2 75 #[.int .i64 o, .int .i64 o, .int .i64 o, .slice A2 n2 c2])
 have HO3 := Lib.hid (ho2.out.below hb3)
 have HR3 := Lib.hid (HR2.out.below hb3)
 have HB3 := Lib.hid (HB2.out.trans (hb3.mono HB2.out.size))
 clear HRD ho2 hb1 hb2 HB2 HR2 hr1
 go_wp2_with fail
 obtain ⟨W3, hW3⟩ : ∃ W, W = w2.alloc (.cells #[.int .i64 o, .int .i64 o, .int .i64 o, .slice A2 n2 c2] 75) := ⟨_, rfl⟩
 rw [← hW3] at HV HO3 HR3 HB3 ⊢
 clear hW3 hb3
 have hcv : Sem.run Tryz.prog (convert 70 9 (.slice A1 5 c1)) W3 = .ok (.string ⟨#[0, 0, 0, 0, 0]⟩) W3 := by rw [conv_len W3 A1 _ 5 c1 hn1.out HR3.out, bs0]
 have x0 := HV.out.cell 0
 have x1 := HV.out.cell 1
 have x2 := HV.out.cell 2
 have x3 := HV.out.cell 3
 go_wp2_with fail
 rw [hcv]
 go_wp2_with fail
 have ho0 : o = 0 := HOO.out.symm
 rw [ho0]
 refine (rsame_pt 0 0 0 W3 HO3.out (ownW_nil w.heap.size W3) (by simp)).mono ?_
 rintro e w4 ⟨rfl, hb4⟩
 have HB4 := Lib.hid (HB3.out.trans (hb4.out.mono HB3.out.size))
 clear hb4
 go_wp2_with fail
 go_ret
 exact ⟨rfl, HB4⟩
end Go.Proofs.YtlnbhlgkehenpaaGreatDoor
namespace Go.Proofs.YtlnbhlgkehenpaaGreatDoor
open Go.RowKit Dg
structure Cl where
 nm : ByteArray
 k : Int
 no : Bool
def Cl.val (x : Cl) : Value := .agg #[.string x.nm, .int .i64 x.k, .bool x.no]
def Cl.cells (x : Cl) : List Value := [.string x.nm, .int .i64 x.k, .bool x.no]
def Cl.fit (x : Cl) : Prop := x.nm.size ≤ 140737488355328 ∧ -9223372036854775808 ≤ x.k ∧ x.k ≤ 9223372036854775807
def CRow (w : World) (A : Option Addr) (L : List Cl) : Prop :=
 L ≠ [] → ∃ b off, A = some ⟨b, off, none⟩ ∧ ∀ i (h : i < L.length), w.cell? ⟨b, off + i * 3, none⟩ = some (.string L[i].nm) ∧ w.cell? ⟨b, off + i * 3 + 1, none⟩ = some (.int .i64 L[i].k) ∧ w.cell? ⟨b, off + i * 3 + 2, none⟩ = some (.bool L[i].no)
theorem CRow.below {w w' : World} {A : Option Addr} {L : List Cl} (h : CRow w A L) (hb : Below w.heap.size w w') : CRow w' A L := fun hl => by
 obtain ⟨b, off, e, hc⟩ := h hl
 refine ⟨b, off, e, fun i hi => ?_⟩
 obtain ⟨h0, h1, h2⟩ := hc i hi
 exact ⟨(hb.cell (World.block_lt_of_cell? w _ h0)).trans h0, (hb.cell (World.block_lt_of_cell? w _ h1)).trans h1, (hb.cell (World.block_lt_of_cell? w _ h2)).trans h2⟩
theorem infoC : (Tryz.prog.info? 46).map (fun i => (i.zero, i.size, i.bytes)) = some (some (.agg #[.string ⟨#[]⟩, .int .i64 0, .bool false]), 3, 32) := by kernel_rfl
def OwnC (B : Nat) (w : World) (v : Value) (L : List Cl) : Prop := w.ownsRow B 46 3 v L.length (L.flatMap Cl.cells)
theorem ownC_nil (B : Nat) (w : World) : OwnC B w (.slice none 0 0) [] := World.ownsRow_nil _ _ _ _
theorem OwnC.below {B : Nat} {w w' : World} {v : Value} {L : List Cl} (h : OwnC B w v L) (hb : Below w.heap.size w w') : OwnC B w' v L := by
 rcases h.2 with ⟨hv, hn⟩ | ⟨g, cap, cur, hv, hg, hh, hc, hcm, hsz, ht⟩
 ·exact ⟨h.1, .inl ⟨hv, hn⟩⟩
 ·exact ⟨h.1, .inr ⟨g, cap, cur, hv, hg, Has.below (t := 46) (cs := cur) hh hb (Has.lt (t := 46) (cs := cur) hh), hc, hcm, hsz, ht⟩⟩
theorem cflat_len (L : List Cl) : (L.flatMap Cl.cells).length = L.length * 3 := by
 induction L with
 | nil => rfl
 | cons x L ih => rw [List.flatMap_cons, List.length_append, ih]; simp [Cl.cells]; omega
theorem cflat_get (L : List Cl) (i j : Nat) (h : i < L.length) (hj : j < 3) : (L.flatMap Cl.cells)[i * 3 + j]? = L[i].cells[j]? := by
 induction L generalizing i with
 | nil => simp at h
 | cons x L ih =>
   rw [List.flatMap_cons]
   rcases i with _ | i
   ·rw [List.getElem?_append_left (by simp [Cl.cells]; omega)]
    simp
   ·rw [List.getElem?_append_right (by simp [Cl.cells]; omega)]
    have e : (i + 1) * 3 + j - x.cells.length = i * 3 + j := by simp [Cl.cells]; omega
    rw [e, ih i (by simpa using h)]
    simp
theorem ownC_row {B : Nat} {w : World} {v : Value} {L : List Cl} (h : OwnC B w v L) : ∃ A c, v = .slice A L.length c ∧ L.length ≤ c ∧ c ≤ maxLen ∧ CRow w A L ∧ (A = none → c = 0) := by
 rcases h.2 with ⟨hv, hn⟩ | ⟨g, cap, cur, hv, _, hh, hc, hcm, hsz, ht⟩
 ·obtain rfl := List.eq_nil_of_length_eq_zero hn
  exact ⟨none, 0, hv, Nat.le_refl _, Nat.zero_le _, fun h => absurd rfl h, fun _ => rfl⟩
 ·refine ⟨_, _, hv, hc, hcm, fun _ => ⟨g, 0, rfl, fun i hi => ?_⟩, fun e => by cases e⟩
  have hq : ∀ j, j < 3 → w.cell? ⟨g, 0 + (i * 3 + j), none⟩ = L[i].cells[j]? := fun j hj => by
   rw [Nat.zero_add, Has.cell (t := 46) (cs := cur) hh, ← cflat_get L i j hi hj, ← ht, List.getElem?_take, if_pos (by omega)]
   simp
  have q0 := hq 0 (by omega)
  have q1 := hq 1 (by omega)
  have q2 := hq 2 (by omega)
  exact ⟨q0, q1, q2⟩
theorem appC (w : World) (g : Nat) (hg0 : g = w.heap.size) (B : Nat) (v : Value) (L : List Cl) (x : Cl) (h : OwnC B w v L) (hB : B ≤ w.heap.size) (hl : L.length ≤ 1000) :
 ∃ R W', (Builtin.append_ #[37, 37] 37 #[v, .slice (some ⟨g, 0, none⟩) 1 1]).run Tryz.prog (w.alloc (.cells #[.string x.nm, .int .i64 x.k, .bool x.no] 46)) = .ok R W' ∧ OwnC B W' R (L ++ [x]) ∧ Below B w W' := by
 subst hg0
 obtain ⟨i0, hi, hz0, hz1, hz2⟩ := info_parts infoC
 obtain ⟨R, W', hrun, hown, hg, _⟩ := run_append_own (P := Tryz.prog) (w.alloc (.cells x.cells.toArray 46)) B 37 37 46 i0 _ 3 32 Tryz.underlying37 hi hz0 hz1 hz2 rfl (by decide) v L.length (L.flatMap Cl.cells) (h.alloc _)
  ⟨w.heap.size, 0, none⟩ 1 1 x.cells rfl (fun j u hj => by
    have := (Has.new w 46 x.cells.toArray).cell j
    rw [List.getElem?_toArray] at this
    rw [Addr.add_lit, Nat.zero_add]
    exact this.trans hj) (fun u hu => by simp [Cl.cells] at hu; rcases hu with rfl | rfl | rfl <;> rfl) (by unfold maxLen; omega) (by omega) (by simp; omega)
 refine ⟨R, W', hrun, ?_, ?_⟩
 ·unfold OwnC; rw [List.flatMap_append, List.length_append]; simpa using hown
 ·exact ((Below.refl B w).alloc hB _).grown hg (by simp; omega) fun k hk => (World.ownsRow.lt h k hk).1
theorem crow_cell {w : World} {b off : Nat} {M : List Cl} (h : ∀ i (h : i < M.length), w.cell? ⟨b, off + i * 3, none⟩ = some (.string M[i].nm) ∧ w.cell? ⟨b, off + i * 3 + 1, none⟩ = some (.int .i64 M[i].k) ∧ w.cell? ⟨b, off + i * 3 + 2, none⟩ = some (.bool M[i].no)) (j : Nat) (u : Value) (hj : (M.flatMap Cl.cells)[j]? = some u) : w.cell? ⟨b, off + j, none⟩ = some u := by
 have hjl : j < M.length * 3 := by
  have := (List.getElem?_eq_some_iff.1 hj).1
  rwa [cflat_len] at this
 have hi : j / 3 < M.length := by omega
 have e : j = j / 3 * 3 + j % 3 := by omega
 have hr : j % 3 = 0 ∨ j % 3 = 1 ∨ j % 3 = 2 := by omega
 rw [e, cflat_get M (j / 3) (j % 3) hi (by omega)] at hj
 obtain ⟨h0, h1, h2⟩ := h (j / 3) hi
 rw [e]
 rcases hr with hr | hr | hr <;> rw [hr] at hj ⊢
 ·rw [← hj]; exact h0
 ·rw [← hj]; exact h1
 ·rw [← hj]; exact h2
theorem appCs (w : World) (B : Nat) (v : Value) (L : List Cl) (h : OwnC B w v L) (hB : B ≤ w.heap.size) (A : Option Addr) (M : List Cl) (n c : Nat) (hn : M.length = n) (hA : CRow w A M) (h0 : A = none → c = 0) (hl : L.length + n ≤ 1000) :
 ∃ R W', (Builtin.append_ #[37, 37] 37 #[v, .slice A n c]).run Tryz.prog w = .ok R W' ∧ OwnC B W' R (L ++ M) ∧ Below B w W' := by
 subst hn
 obtain ⟨i0, hi, hz0, hz1, hz2⟩ := info_parts infoC
 by_cases hM : M = []
 ·subst hM
  rcases A with _ | a
  ·rw [h0 rfl, List.append_nil]
   exact ⟨v, w, run_append_owned_none w B 37 37 46 i0 3 Tryz.underlying37 hi v _ _ h, h, Below.refl _ _⟩
  ·obtain ⟨R, W', hrun, hown, hg, _⟩ := run_append_own (P := Tryz.prog) w B 37 37 46 i0 _ 3 32 Tryz.underlying37 hi hz0 hz1 hz2 rfl (by decide) v L.length (L.flatMap Cl.cells) h
    a 0 c [] rfl (fun j u hj => by simp at hj) (fun u hu => by cases hu) (by unfold maxLen; omega) (by omega) hB
   refine ⟨R, W', hrun, ?_, (Below.refl B w).grown hg hB fun k hk => (World.ownsRow.lt h k hk).1⟩
   unfold OwnC; simpa using hown
 ·obtain ⟨b, off, rfl, hc⟩ := hA hM
  obtain ⟨R, W', hrun, hown, hg, _⟩ := run_append_own (P := Tryz.prog) w B 37 37 46 i0 _ 3 32 Tryz.underlying37 hi hz0 hz1 hz2 rfl (by decide) v L.length (L.flatMap Cl.cells) h
   ⟨b, off, none⟩ M.length c (M.flatMap Cl.cells) (by rw [cflat_len]) (fun j u hj => by rw [Addr.add_lit]; exact crow_cell hc j u hj) (fun u hu => by
     obtain ⟨x, _, hx⟩ := List.mem_flatMap.1 hu
     simp [Cl.cells] at hx; rcases hx with rfl | rfl | rfl <;> rfl) (by unfold maxLen; omega) (by omega) hB
  refine ⟨R, W', hrun, ?_, (Below.refl B w).grown hg hB fun k hk => (World.ownsRow.lt h k hk).1⟩
  unfold OwnC; rw [List.flatMap_append, List.length_append]; exact hown
theorem ownC_open {B : Nat} {w : World} {v : Value} {L : List Cl} (h : OwnC B w v L) : ∃ A n c, v = .slice A n c ∧ Hid (L.length = n) ∧ n ≤ c ∧ c ≤ maxLen ∧ Hid (CRow w A L) ∧ Hid (A = none → c = 0) := by
 obtain ⟨A, c, e, h1, h2, h3, h4⟩ := ownC_row h
 exact ⟨A, L.length, c, e, rfl, h1, h2, h3, h4⟩
def findN (L : List Cl) (s : ByteArray) : Nat := L.findIdx fun c => c.nm.toList == s.toList
def findI (L : List Cl) (s : ByteArray) : Int := if findN L s < L.length then (findN L s : Int) else -1
theorem findN_at {L : List Cl} {s : ByteArray} {k : Nat} (h : k < L.length) (he : (L[k].nm.toList == s.toList) = true) (hb : ∀ j (hj : j < k), (L[j].nm.toList == s.toList) = false) : findN L s = k := by
 unfold findN
 rw [List.findIdx_eq h]
 exact ⟨he, fun j hj => hb j hj⟩
theorem findI_at {L : List Cl} {s : ByteArray} {k : Nat} (h : k < L.length) (he : (L[k].nm.toList == s.toList) = true) (hb : ∀ j (hj : j < k), (L[j].nm.toList == s.toList) = false) : findI L s = k := by
 unfold findI; rw [findN_at h he hb, if_pos h]
theorem findI_none {L : List Cl} {s : ByteArray} (hb : ∀ j (hj : j < L.length), (L[j].nm.toList == s.toList) = false) : findI L s = -1 := by
 unfold findI
 rw [if_neg]
 unfold findN
 have : L.findIdx (fun c => c.nm.toList == s.toList) = L.length := List.findIdx_eq_length.2 fun x hx => by
  obtain ⟨j, hj, rfl⟩ := List.getElem_of_mem hx
  exact hb j hj
 omega
def kindF (k : Int) : Bool := decide (1 ≤ k) && decide (k ≤ 4)
set_option maxHeartbeats 1000000 in
theorem ofColumn_any (k : Int) (w : World) : Calls Tryz.prog 111 #[.int .i64 k] w fun e w' => e = .returned (.bool (kindF k)) ∧ w' = w := by
 by_cases h : k = 1 ∨ k = 2 ∨ k = 3 ∨ k = 4
 ·rcases h with rfl | rfl | rfl | rfl
  all_goals
   go_enter Tryz.func111, Tryz.ntmps111
   go_wp2_with fail
   go_ret
   exact ⟨by rfl, by trivial⟩
 ·have HK : Hid (kindF k = false) := by
   show _ = _
   cases hh : kindF k
   ·rfl
   ·unfold kindF at hh; simp at hh; omega
  have h1 : (k == 1) = false := by simp; omega
  have h2 : (k == 2) = false := by simp; omega
  have h3 : (k == 3) = false := by simp; omega
  have h4 : (k == 4) = false := by simp; omega
  go_enter Tryz.func111, Tryz.ntmps111
  go_wp2_with fail
  go_ret
  exact ⟨by rw [HK.out]; rfl, by trivial⟩
set_option maxHeartbeats 1000000 in
theorem findOne_any (nm : ByteArray) (k : Int) (no : Bool) (s : ByteArray) (B : Nat) (w : World) (hs : w.cell? ⟨B, 0, none⟩ = some (.string s)) :
 Calls Tryz.prog 131 #[.agg #[.string nm, .int .i64 k, .bool no], .pointer (some ⟨B, 0, none⟩)] w fun e w' => e = .returned (.bool (nm.toList == s.toList)) ∧ Hid (Below w.heap.size w w') := by
 have HB := Lib.hid ((Below.refl w.heap.size w).alloc (Nat.le_refl _) (.cells #[.string nm, .int .i64 k, .bool no] 46))
 have hlt := World.block_lt_of_cell? w _ hs
 have h2 : (w.alloc (.cells #[.string nm, .int .i64 k, .bool no] 46)).cell? ⟨B, 0, none⟩ = some (.string s) := (HB.out.cell hlt).trans hs
 go_enter Tryz.func131, Tryz.ntmps131
 go_wp2_with fail
 go_ret
 exact ⟨by rfl, HB⟩
set_option maxHeartbeats 2000000 in
set_option maxRecDepth 100000 in
theorem index_any (A : Option Addr) (L : List Cl) (n c : Nat) (s : ByteArray) (B : Nat) (w : World) (hn : L.length = n) (hl : n ≤ 4398046511104) (hA : CRow w A L) (hs : w.cell? ⟨B, 0, none⟩ = some (.string s)) :
 Calls Tryz.prog 130 #[.slice A n c, .func (.func 131) #[] #[.pointer (some ⟨B, 0, none⟩)]] w fun e w' => e = .returned (.int .i64 (findI L s)) ∧ Hid (Below w.heap.size w w') := by
 have HN := Lib.hid hn
 have HA := Lib.hid hA
 have HS := Lib.hid hs
 have HL := Lib.hid (World.block_lt_of_cell? w _ hs)
 clear hn hA hs
 go_enter Tryz.func130, Tryz.ntmps130
 go_wp2_with fail
 go_loopw [8] (fun i wr => ∃ k : Nat, k ≤ n ∧ i = .int .i64 k ∧ Hid (∀ j (hj : j < k) (hj2 : j < L.length), (L[j].nm.toList == s.toList) = false) ∧ Hid (Below w.heap.size w wr)) (fun i _ => n - (intOf i).toNat)
 case atStart => exact ⟨0, by omega, rfl, (fun j hj => absurd hj (by omega)), Below.refl _ _⟩
 case round =>
  obtain ⟨k, hk, rfl, HF, HB⟩ := hrel
  by_cases hlt : k < n
  ·have hkl : k < L.length := by rw [HN.out]; exact hlt
   obtain ⟨b, off, rfl, hc⟩ := (HA.out.below HB.out) (by intro e; rw [e] at hkl; simp at hkl)
   obtain ⟨c0, c1, c2⟩ := hc k hkl
   have hcell : wr.cell? ⟨B, 0, none⟩ = some (.string s) := (HB.out.cell HL.out).trans HS.out
   have HC := Lib.hid (findOne_any L[k].nm L[k].k L[k].no s B wr hcell)
   have HAT := Lib.hid (fun he => findI_at (s := s) hkl he (fun j hj => HF.out j hj (by omega)))
   have HNX : Hid ((L[k].nm.toList == s.toList) = false → ∀ j (hj : j < k + 1) (hj2 : j < L.length), (L[j].nm.toList == s.toList) = false) := fun he j hj hj2 => by
    by_cases e : j = k
    ·subst e; exact he
    ·exact HF.out j (by omega) hj2
   clear hc hcell
   generalize L[k].nm = xa at *
   generalize L[k].k = xb at *
   generalize L[k].no = xc at *
   generalize (xa.toList == s.toList) = q at *
   go_wp2_with fail
   go_at_call 131
   refine HC.out.mono ?_
   rintro e w1 ⟨rfl, hb1⟩
   have HB1 := Lib.hid (HB.out.trans (hb1.out.mono HB.out.size))
   clear hb1 c0 c1 c2
   cases q
   ·go_wp2_with fail
    go_roundw
    case rel => exact ⟨k + 1, by omega, by go_num, HNX.out (by trivial), HB1⟩
    case measure => simp [intOf]; omega
   ·go_wp2_with fail
    go_ret
    exact ⟨by rw [HAT.out (by trivial)]; rfl, HB1⟩
  ·obtain rfl : k = n := by omega
   have HF2 := Lib.hid (findI_none (L := L) (s := s) (fun j hj => HF.out j (by rw [← HN.out]; exact hj) hj))
   go_wp2_with fail
   go_ret
   exact ⟨by rw [HF2.out]; rfl, HB⟩
set_option maxHeartbeats 1000000 in
theorem find_any (A : Option Addr) (L : List Cl) (n c : Nat) (K : Int) (s : ByteArray) (w : World) (hn : L.length = n) (hl : n ≤ 4398046511104) (hA : CRow w A L) :
 Calls Tryz.prog 110 #[.agg #[.slice A n c, .int .i64 K], .string s] w fun e w' => e = .returned (.int .i64 (findI L s)) ∧ Hid (Below w.heap.size w w') := by
 have HB := Lib.hid (((Below.refl w.heap.size w).alloc (Nat.le_refl _) (.cells #[.slice A n c, .int .i64 K] 39)).alloc (by simp) (.cells #[.string s] 9))
 have hc : ((w.alloc (.cells #[.slice A n c, .int .i64 K] 39)).alloc (.cells #[.string s] 9)).cell? ⟨w.heap.size + 1, 0, none⟩ = some (.string s) := by
  simp
 have HC := Lib.hid (index_any A L n c s (w.heap.size + 1) _ hn hl (hA.below HB.out) hc)
 clear hn hA hc
 go_enter Tryz.func110, Tryz.ntmps110
 go_wp2_with fail
 refine HC.out.mono ?_
 rintro e w1 ⟨rfl, hb1⟩
 have HB1 := Lib.hid (HB.out.trans (hb1.out.mono HB.out.size))
 clear hb1
 go_wp2_with fail
 go_ret
 exact ⟨rfl, HB1⟩
set_option maxHeartbeats 2000000 in
set_option maxRecDepth 100000 in
theorem refFind_any (A : Option Addr) (L : List Cl) (n c : Nat) (K : Int) (s : ByteArray) (w : World) (hn : L.length = n) (hl : n ≤ 4398046511104) (hA : CRow w A L) :
 Calls Tryz.prog 30 #[.agg #[.slice A n c, .int .i64 K], .string s] w fun e w' => e = .returned (.int .i64 (findI L s)) ∧ Hid (Below w.heap.size w w') := by
 have HN := Lib.hid hn
 have HA := Lib.hid hA
 have HB := Lib.hid ((Below.refl w.heap.size w).alloc (Nat.le_refl _) (.cells #[.slice A n c, .int .i64 K] 39))
 clear hn hA
 go_enter Tryz.func30, Tryz.ntmps30
 go_wp2_with fail
 go_loopw [5] (fun i wr => ∃ k : Nat, k ≤ n ∧ i = .int .i64 k ∧ Hid (∀ j (hj : j < k) (hj2 : j < L.length), (L[j].nm.toList == s.toList) = false) ∧ wr = w.alloc (.cells #[.slice A n c, .int .i64 K] 39)) (fun i _ => n - (intOf i).toNat)
 case atStart => exact ⟨0, by omega, rfl, (fun j hj => absurd hj (by omega)), rfl⟩
 case round =>
  obtain ⟨k, hk, rfl, HF, rfl⟩ := hrel
  by_cases hlt : k < n
  ·have hkl : k < L.length := by rw [HN.out]; exact hlt
   obtain ⟨b, off, rfl, hc⟩ := (HA.out.below HB.out) (by intro e; rw [e] at hkl; simp at hkl)
   obtain ⟨c0, c1, c2⟩ := hc k hkl
   have HAT := Lib.hid (fun he => findI_at (s := s) hkl he (fun j hj => HF.out j hj (by omega)))
   have HNX : Hid ((L[k].nm.toList == s.toList) = false → ∀ j (hj : j < k + 1) (hj2 : j < L.length), (L[j].nm.toList == s.toList) = false) := fun he j hj hj2 => by
    by_cases e : j = k
    ·subst e; exact he
    ·exact HF.out j (by omega) hj2
   clear hc c1 c2
   generalize L[k].nm = xa at *
   cases q : (xa.toList == s.toList)
   ·go_wp2_with fail
    go_roundw
    case rel => exact ⟨k + 1, by omega, by go_num, HNX.out q, by trivial⟩
    case measure => simp [intOf]; omega
   ·go_wp2_with fail
    go_ret
    exact ⟨by rw [HAT.out q]; rfl, HB⟩
  ·obtain rfl : k = n := by omega
   have HF2 := Lib.hid (findI_none (L := L) (s := s) (fun j hj => HF.out j (by rw [← HN.out]; exact hj) hj))
   go_wp2_with fail
   go_ret
   exact ⟨by rw [HF2.out]; rfl, HB⟩
def colOk (L : List Cl) (K : Int) (i : Nat) : Bool := match L[i]? with
 | some c => nameF c.nm && (findI L c.nm == (i : Int)) && kindF c.k && !(c.no && decide ((i : Int) < K))
 | none => true
def colsTo (L : List Cl) (K : Int) (k : Nat) : Bool := (List.range k).all fun i => colOk L K i
theorem colsTo_succ (L : List Cl) (K : Int) (k : Nat) : colsTo L K (k + 1) = (colsTo L K k && colOk L K k) := by
 unfold colsTo; rw [List.range_succ, List.all_append]; simp
theorem colsTo_false (L : List Cl) (K : Int) (k n : Nat) (hk : k < n) (h : colOk L K k = false) : colsTo L K n = false := by
 unfold colsTo; rw [List.all_eq_false]
 exact ⟨k, List.mem_range.2 hk, by simp [h]⟩
theorem colOk_at (L : List Cl) (K : Int) (k : Nat) (h : k < L.length) : colOk L K k = (nameF L[k].nm && (findI L L[k].nm == (k : Int)) && kindF L[k].k && !(L[k].no && decide ((k : Int) < K))) := by
 unfold colOk; rw [List.getElem?_eq_getElem h]
def smayF (L : List Cl) (K : Int) : Bool := decide (1 ≤ L.length) && decide (L.length ≤ 16) && decide (1 ≤ K) && decide (K ≤ 4) && decide (K ≤ L.length) && colsTo L K L.length
theorem smayF_yes {L : List Cl} {K : Int} (h0 : 1 ≤ L.length) (h1 : L.length ≤ 16) (h2 : 1 ≤ K) (h3 : K ≤ 4) (h4 : K ≤ L.length) : smayF L K = colsTo L K L.length := by
 unfold smayF; simp [h0, h1, h2, h3, h4]
theorem smayF_no {L : List Cl} {K : Int} (h : ¬ (1 ≤ L.length ∧ L.length ≤ 16 ∧ 1 ≤ K ∧ K ≤ 4 ∧ K ≤ L.length)) : smayF L K = false := by
 cases e : smayF L K
 ·rfl
 ·unfold smayF at e; simp at e; omega
theorem findI_early {L : List Cl} {s : ByteArray} {j k : Nat} (hjk : j < k) (hk : k < L.length) (he : (L[j].nm.toList == s.toList) = true) : (findI L s == (k : Int)) = false := by
 have h : findN L s ≤ j := by
  by_cases hh : findN L s ≤ j
  ·exact hh
  ·have := List.not_of_lt_findIdx (p := fun c : Cl => c.nm.toList == s.toList) (xs := L) (i := j) (by unfold findN at hh; omega)
   rw [he] at this; cases this
 unfold findI
 split
 ·simp; omega
 ·simp
set_option maxHeartbeats 4000000 in
set_option maxRecDepth 100000 in
theorem smay_any (A : Option Addr) (L : List Cl) (n c : Nat) (K : Int) (w : World) (hn : L.length = n) (hl : n ≤ 4398046511104) (hA : CRow w A L) (hf : ∀ x ∈ L, x.fit) :
 Calls Tryz.prog 85 #[.agg #[.slice A n c, .int .i64 K]] w fun e w' => e = .returned (.bool (smayF L K)) ∧ Hid (Below w.heap.size w w') := by
 have HN := Lib.hid hn
 have HA := Lib.hid hA
 have HF := Lib.hid hf
 have HB0 := Lib.hid ((Below.refl w.heap.size w).alloc (Nat.le_refl _) (.cells #[.slice A n c, .int .i64 K] 39))
 have HH0 := Lib.hid (Has.new w 39 #[.slice A n c, .int .i64 K])
 have HY := Lib.hid (@smayF_yes L K)
 have HNO := Lib.hid (@smayF_no L K)
 rw [hn] at HY HNO
 clear hn hA hf
 by_cases h1 : 1 ≤ n
 ·by_cases h2 : n ≤ 16
  ·by_cases h3 : 1 ≤ K
   ·by_cases h4 : K ≤ 4
    ·by_cases h5 : K ≤ n
     ·have HY2 := Lib.hid (HY.out h1 h2 h3 h4 h5)
      clear HY HNO
      go_enter Tryz.func85, Tryz.ntmps85
      go_wp2_with fail
      go_loopw [34] (fun i wr => ∃ k : Nat, k ≤ n ∧ i = .int .i64 k ∧ Hid (colsTo L K k = true) ∧ Hid (Below w.heap.size w wr) ∧ Hid (Has wr w.heap.size 39 #[.slice A n c, .int .i64 K])) (fun i _ => n - (intOf i).toNat)
      case atStart => exact ⟨0, by omega, rfl, rfl, HB0.out, HH0.out⟩
      case round =>
       obtain ⟨k, hk, rfl, HT, HB, HH⟩ := hrel
       by_cases hlt : k < n
       ·have hkl : k < L.length := by rw [HN.out]; exact hlt
        have HR := Lib.hid (HA.out.below HB.out)
        obtain ⟨b, off, rfl, hc⟩ := HR.out (by intro e; rw [e] at hkl; simp at hkl)
        obtain ⟨c0, c1, c2⟩ := hc k hkl
        have hfit := (HF.out L[k] (List.getElem_mem hkl)).1
        have HFA := Lib.hid (colsTo_false L K k n hlt)
        have HT2 : Hid (colsTo L K (k + 1) = colOk L K k) := by show _ = _; rw [colsTo_succ, HT.out, Bool.true_and]
        have HOK := Lib.hid (colOk_at L K k hkl)
        generalize L[k].nm = xa at *
        generalize L[k].k = xb at *
        generalize L[k].no = xc at *
        generalize colOk L K k = ok at *
        have HW : Hid (Below w.heap.size w (wr.alloc (.cells #[.string xa, .int .i64 xb, .bool xc] 46))) := HB.out.alloc HB.out.size _
        have HR1 : Hid (CRow (wr.alloc (.cells #[.string xa, .int .i64 xb, .bool xc] 46)) (some ⟨b, off, none⟩) L) := HR.out.below ((Below.refl _ wr).alloc (Nat.le_refl _) _)
        have HX : Hid (Has (wr.alloc (.cells #[.string xa, .int .i64 xb, .bool xc] 46)) wr.heap.size 46 #[.string xa, .int .i64 xb, .bool xc]) := Has.new _ _ _
        have HH1 : Hid (Has (wr.alloc (.cells #[.string xa, .int .i64 xb, .bool xc] 46)) w.heap.size 39 #[.slice (some ⟨b, off, none⟩) n c, .int .i64 K]) := HH.out.alloc _
        have a0 := HH.out.cell 0
        have a1 := HH.out.cell 1
        simp at a0 a1
        clear hc HR
        go_wp2_with fail
        refine (name_any xa _ hfit).mono ?_
        rintro e w1 ⟨rfl, hb1⟩
        have HB1 := Lib.hid (HW.out.trans (hb1.out.mono HW.out.size))
        have HX1 := Lib.hid (HX.out.below hb1.out HX.out.lt)
        have HH2 := Lib.hid (HH1.out.below hb1.out HH1.out.lt)
        have HR2 := Lib.hid (HR1.out.below hb1.out)
        clear hb1 HX HH1 HR1 HW c0 c1 c2 a0 a1
        have a0 := HH2.out.cell 0
        have a1 := HH2.out.cell 1
        have c0 := HX1.out.cell 0
        have c1 := HX1.out.cell 1
        have c2 := HX1.out.cell 2
        simp at a0 a1 c0 c1 c2
        generalize nameF xa = q1 at *
        cases q1
        ·have HO : Hid (ok = false) := by show _ = _; rw [HOK.out]; simp
         go_wp2_with fail
         go_ret
         exact ⟨by rw [HY2.out, HFA.out HO.out]; rfl, HB1⟩
        ·go_wp2_with fail
         refine (find_any (some ⟨b, off, none⟩) L n c K xa w1 HN.out hl HR2.out).mono ?_
         rintro e w2 ⟨rfl, hb2⟩
         have HB2 := Lib.hid (HB1.out.trans (hb2.out.mono HB1.out.size))
         have HX2 := Lib.hid (HX1.out.below hb2.out HX1.out.lt)
         have HH3 := Lib.hid (HH2.out.below hb2.out HH2.out.lt)
         clear hb2 HX1 HH2 HR2 HB1 c0 c1 c2 a0 a1
         have a0 := HH3.out.cell 0
         have a1 := HH3.out.cell 1
         have c0 := HX2.out.cell 0
         have c1 := HX2.out.cell 1
         have c2 := HX2.out.cell 2
         simp at a0 a1 c0 c1 c2
         generalize findI L xa = fi at *
         by_cases hq : fi = (k : Int)
         ·subst hq
          go_wp2_with fail
          refine (ofColumn_any xb w2).mono ?_
          rintro e w3 ⟨rfl, rfl⟩
          generalize kindF xb = q3 at *
          cases q3
          ·have HO : Hid (ok = false) := by show _ = _; rw [HOK.out]; simp
           go_wp2_with fail
           go_ret
           exact ⟨by rw [HY2.out, HFA.out HO.out]; rfl, HB2⟩
          ·cases xc
           ·have HO : Hid (ok = true) := by show _ = _; rw [HOK.out]; simp
            go_wp2_with fail
            go_roundw
            case rel => exact ⟨k + 1, by omega, by go_num, by rw [HT2.out]; exact HO, HB2, HH3⟩
            case measure => simp [intOf]; omega
           ·by_cases hkk : (k : Int) < K
            ·have HO : Hid (ok = false) := by show _ = _; rw [HOK.out]; simp; omega
             go_wp2_with fail
             go_ret
             exact ⟨by rw [HY2.out, HFA.out HO.out]; rfl, HB2⟩
            ·have HO : Hid (ok = true) := by show _ = _; rw [HOK.out]; simp; omega
             go_wp2_with fail
             go_roundw
             case rel => exact ⟨k + 1, by omega, by go_num, by rw [HT2.out]; exact HO, HB2, HH3⟩
             case measure => simp [intOf]; omega
         ·have HO : Hid (ok = false) := by show _ = _; rw [HOK.out]; simp [hq]
          have hqb : (fi != (k : Int)) = true := by simp [hq]
          go_wp2_with fail
          go_ret
          exact ⟨by rw [HY2.out, HFA.out HO.out]; rfl, HB2⟩
       ·obtain rfl : k = n := by omega
        go_wp2_with fail
        go_ret
        exact ⟨by rw [HY2.out, HT.out]; rfl, HB⟩
     ·have HO := Lib.hid (HNO.out (by omega))
      clear HY HNO
      have h5' : (n : Int) < K := by omega
      go_enter Tryz.func85, Tryz.ntmps85
      go_wp2_with fail
      go_ret
      exact ⟨by rw [HO.out]; rfl, HB0⟩
    ·have HO := Lib.hid (HNO.out (by omega))
     clear HY HNO
     have h4' : 4 < K := by omega
     go_enter Tryz.func85, Tryz.ntmps85
     go_wp2_with fail
     go_ret
     exact ⟨by rw [HO.out]; rfl, HB0⟩
   ·have HO := Lib.hid (HNO.out (by omega))
    clear HY HNO
    have h3' : K < 1 := by omega
    go_enter Tryz.func85, Tryz.ntmps85
    go_wp2_with fail
    go_ret
    exact ⟨by rw [HO.out]; rfl, HB0⟩
  ·have HO := Lib.hid (HNO.out (by omega))
   clear HY HNO
   have h2' : 16 < (n : Int) := by omega
   go_enter Tryz.func85, Tryz.ntmps85
   go_wp2_with fail
   go_ret
   exact ⟨by rw [HO.out]; rfl, HB0⟩
 ·have HO := Lib.hid (HNO.out (by omega))
  clear HY HNO
  have h1' : (n : Int) < 1 := by omega
  go_enter Tryz.func85, Tryz.ntmps85
  go_wp2_with fail
  go_ret
  exact ⟨by rw [HO.out]; rfl, HB0⟩
theorem cflat_set (L : List Cl) (i j : Nat) (u : Value) (x : Cl) (hi : i < L.length) (hj : j < 3) (hx : x.cells = L[i].cells.set j u) : (L.flatMap Cl.cells).set (i * 3 + j) u = (L.set i x).flatMap Cl.cells := by
 induction L generalizing i with
 | nil => simp at hi
 | cons y L ih =>
   rcases i with _ | i
   ·simp only [zC] at hx
    rw [List.flatMap_cons, List.set_cons_zero, List.flatMap_cons, hx, Nat.zero_mul, Nat.zero_add]
    rw [List.set_append_left _ _ (by simp [Cl.cells]; omega)]
   ·simp only [zB] at hx
    rw [List.flatMap_cons, List.set_cons_succ, List.flatMap_cons, ← ih i (by simpa using hi) hx]
    rw [List.set_append_right _ _ (by simp [Cl.cells]; omega)]
    have e : (i + 1) * 3 + j - y.cells.length = i * 3 + j := by simp [Cl.cells]; omega
    rw [e]
theorem ownC_put {B : Nat} {w : World} {v : Value} {L : List Cl} (h : OwnC B w v L) (i : Nat) (hi : i < L.length) (j : Nat) (hj : j < 3) (u : Value) (x : Cl) (hx : x.cells = L[i].cells.set j u) :
 ∃ g c, v = .slice (some ⟨g, 0, none⟩) L.length c ∧ B ≤ g ∧ L.length ≤ c ∧ w.frozen? ⟨g, i * 3 + j, none⟩ = false ∧ w.cell? ⟨g, i * 3 + j, none⟩ = L[i].cells[j]? ∧ OwnC B (w.setCell ⟨g, i * 3 + j, none⟩ u) v (L.set i x) := by
 rcases h.2 with ⟨hv, hn⟩ | ⟨g, cap, cur, hv, hg, hh, hc, hcm, hsz, ht⟩
 ·omega
 ·refine ⟨g, cap, hv, hg, hc, Has.free (t := 46) (cs := cur) hh _, ?_, ?_⟩
  ·rw [Has.cell (t := 46) (cs := cur) hh, ← cflat_get L i j hi hj, ← ht, List.getElem?_take, if_pos (by omega)]
   simp
  ·refine ⟨by rw [cflat_len], .inr ⟨g, cap, cur.setIfInBounds (i * 3 + j) u, by rw [List.length_set]; exact hv, hg, Has.put (t := 46) (cs := cur) hh (i * 3 + j) u, by rw [List.length_set]; exact hc, hcm, by simpa using hsz, ?_⟩⟩
   rw [List.length_set, ← cflat_set L i j u x hi hj hx, ← ht, Array.toList_setIfInBounds, List.take_set]
theorem findI_lt0 (L : List Cl) (s : ByteArray) : findI L s < L.length := by
 unfold findI; split <;> omega
def pool (i : Nat) : ByteArray := if i = 0 then ⟨#[105, 100]⟩ else if i = 1 then ⟨#[110, 97, 109, 101]⟩ else if i = 2 then ⟨#[110]⟩ else if i = 3 then ⟨#[102, 108, 97, 103]⟩ else if i = 4 then ⟨#[114, 97, 119]⟩ else ⟨#[120]⟩
theorem pool_name (i : Nat) : nameF (pool i) = true := by
 unfold pool
 split
 ·decide +kernel
 split
 ·decide +kernel
 split
 ·decide +kernel
 split
 ·decide +kernel
 split
 ·decide +kernel
 ·decide +kernel
def kind4 (k : Int) : Int := (if k < 0 then -(k + 1) else k) % 4
theorem kind4_range (k : Int) : 0 ≤ kind4 k ∧ kind4 k ≤ 3 := by unfold kind4; split <;> omega
theorem kind4_neg {k : Int} (h : k < 0) : -((k + 1).tmod 4) = kind4 k := by
 unfold kind4
 rw [if_pos h, ← Int.neg_tmod, Int.tmod_eq_emod_of_nonneg (by omega)]
theorem kind4_pos {k : Int} (h : ¬ k < 0) : k.tmod 4 = kind4 k := by
 unfold kind4
 rw [if_neg h, Int.tmod_eq_emod_of_nonneg (by omega)]
def gName (out : List Cl) (c : Cl) (i : Nat) : ByteArray := if nameF c.nm = true ∧ findI out c.nm < 0 then c.nm else pool i
def gStep (out : List Cl) (c : Cl) (i : Nat) : List Cl := if findI out (gName out c i) < 0 then out ++ [⟨gName out c i, 1 + kind4 c.k, c.no⟩] else out
def gTo (L : List Cl) : Nat → List Cl
 | 0 => []
 | k + 1 => match L[k]? with
   | some c => gStep (gTo L k) c k
   | none => gTo L k
theorem gTo_succ (L : List Cl) (k : Nat) (h : k < L.length) : gTo L (k + 1) = gStep (gTo L k) L[k] k := by
 have e : gTo L (k + 1) = match L[k]? with | some c => gStep (gTo L k) c k | none => gTo L k := rfl
 rw [e, List.getElem?_eq_getElem h]
def gOne : List Cl := [⟨⟨#[105, 100]⟩, 2, false⟩]
def gCols (L : List Cl) : List Cl := if (gTo L (min L.length 6)).length = 0 then gOne else gTo L (min L.length 6)
def absK (K : Int) : Int := if K < 0 then -(K + 1) else K
def gKeys (m : Nat) (K : Int) : Nat := (1 + absK K % (min m 3 : Nat)).toNat
def clr (M : List Cl) (k : Nat) : List Cl := (M.take k).map (fun c => ⟨c.nm, c.k, false⟩) ++ M.drop k
def gdC (L : List Cl) (K : Int) : List Cl := clr (gCols L) (gKeys (gCols L).length K)
def gdK (L : List Cl) (K : Int) : Nat := gKeys (gCols L).length K
theorem clr_zero (M : List Cl) : clr M 0 = M := by simp [clr]
theorem clr_len (M : List Cl) (k : Nat) : (clr M k).length = M.length := by simp [clr]; omega
theorem clr_get (M : List Cl) (k i : Nat) (h : i < M.length) : (clr M k)[i]'(by rw [clr_len]; exact h) = if i < k then ⟨M[i].nm, M[i].k, false⟩ else M[i] := by
 unfold clr
 by_cases hk : i < k
 ·rw [if_pos hk, List.getElem_append_left (by simp; omega)]
  simp
 ·rw [if_neg hk, List.getElem_append_right (by simp; omega)]
  simp only [List.getElem_drop, List.length_map, List.length_take]
  congr 1
  omega
theorem clr_set (M : List Cl) (k : Nat) (h : k < M.length) : (clr M k).set k ⟨M[k].nm, M[k].k, false⟩ = clr M (k + 1) := by
 apply List.ext_getElem
 ·rw [List.length_set, clr_len, clr_len]
 ·intro i h1 h2
  rw [List.length_set, clr_len] at h1
  rw [List.getElem_set, clr_get M (k + 1) i h1]
  by_cases e : k = i
  ·subst e; rw [if_pos rfl, if_pos (by omega)]
  ·rw [if_neg e, clr_get M k i h1]
   by_cases hk : i < k
   ·rw [if_pos hk, if_pos (by omega)]
   ·rw [if_neg hk, if_neg (by omega)]
theorem findI_neg {L : List Cl} {s : ByteArray} (h : findI L s < 0) (j : Nat) (hj : j < L.length) : (L[j].nm.toList == s.toList) = false := by
 unfold findI at h
 split at h
 ·omega
 ·rename_i hn
  have e : L.findIdx (fun c => c.nm.toList == s.toList) = L.length := by
   have := List.findIdx_le_length (p := fun c : Cl => c.nm.toList == s.toList) (xs := L)
   unfold findN at hn; omega
  exact List.findIdx_eq_length.1 e L[j] (List.getElem_mem hj)
theorem findI_first {L : List Cl} {i : Nat} (hi : i < L.length) (h : findI L L[i].nm = i) (j : Nat) (hj : j < i) : (L[j].nm.toList == L[i].nm.toList) = false := by
 cases hh : (L[j].nm.toList == L[i].nm.toList)
 ·rfl
 ·have := findI_early hj hi hh
  rw [h] at this; simp at this
def Cols (M : List Cl) : Prop := ∀ i (h : i < M.length), nameF M[i].nm = true ∧ findI M M[i].nm = i ∧ kindF M[i].k = true
theorem cols_snoc {M : List Cl} {x : Cl} (h : Cols M) (hn : nameF x.nm = true) (hf : findI M x.nm < 0) (hk : kindF x.k = true) : Cols (M ++ [x]) := by
 intro i hi
 by_cases hl : i < M.length
 ·rw [List.getElem_append_left hl]
  obtain ⟨h1, h2, h3⟩ := h i hl
  refine ⟨h1, ?_, h3⟩
  have e : (M ++ [x])[i].nm = M[i].nm := by rw [List.getElem_append_left hl]
  refine findI_at (by simp; omega) (by rw [e]; simp) fun j hj => ?_
  rw [List.getElem_append_left (by omega)]
  exact findI_first hl h2 j hj
 ·have e : i = M.length := by simp at hi; omega
  subst e
  rw [List.getElem_append_right (by omega)]
  simp only [Nat.sub_self, zC]
  refine ⟨hn, ?_, hk⟩
  refine findI_at (by simp) (by rw [List.getElem_append_right (by omega)]; simp) fun j hj => ?_
  rw [List.getElem_append_left hj]
  exact findI_neg hf j hj
theorem kind_ok (k : Int) : kindF (1 + kind4 k) = true := by
 have := kind4_range k
 simp [kindF]; omega
theorem gTo_cols (L : List Cl) : ∀ k, Cols (gTo L k) ∧ (gTo L k).length ≤ k
 | 0 => ⟨fun i h => absurd h (by simp [gTo]), by simp [gTo]⟩
 | k + 1 => by
   obtain ⟨h1, h2⟩ := gTo_cols L k
   unfold gTo
   cases L[k]? with
   | none => exact ⟨h1, by simp only; omega⟩
   | some c =>
     simp only
     unfold gStep
     split
     ·rename_i hf
      refine ⟨cols_snoc h1 ?_ hf (kind_ok _), by simp; omega⟩
      simp only
      unfold gName
      split
      ·rename_i hh; exact hh.1
      ·exact pool_name k
     ·exact ⟨h1, by omega⟩
theorem gOne_cols : Cols gOne := fun i h => by
 obtain rfl : i = 0 := by simp [gOne] at h; omega
 show nameF (⟨#[105, 100]⟩ : ByteArray) = true ∧ findI gOne ⟨#[105, 100]⟩ = (0 : Nat) ∧ kindF 2 = true
 exact ⟨by decide +kernel, by decide +kernel, by decide +kernel⟩
theorem gCols_cols (L : List Cl) : Cols (gCols L) ∧ 1 ≤ (gCols L).length ∧ (gCols L).length ≤ 6 := by
 have h := gTo_cols L (min L.length 6)
 unfold gCols
 split
 ·exact ⟨gOne_cols, by simp [gOne], by simp [gOne]⟩
 ·exact ⟨h.1, by omega, by omega⟩
theorem gKeys_range (m : Nat) (K : Int) (h : 1 ≤ m) : 1 ≤ gKeys m K ∧ gKeys m K ≤ m ∧ gKeys m K ≤ 3 := by
 unfold gKeys
 have h1 := Int.emod_nonneg (absK K) (b := ((min m 3 : Nat) : Int)) (by omega)
 have h2 := Int.emod_lt_of_pos (absK K) (b := ((min m 3 : Nat) : Int)) (by omega)
 omega
theorem findI_congr {L M : List Cl} (hl : L.length = M.length) (h : ∀ i (h1 : i < L.length) (h2 : i < M.length), L[i].nm = M[i].nm) (s : ByteArray) : findI L s = findI M s := by
 by_cases hh : findI M s < 0
 ·rw [findI_none (L := L) (s := s) fun j hj => by rw [h j hj (by omega)]; exact findI_neg hh j (by omega)]
  have := findI_neg hh
  rw [findI_none fun j hj => this j hj]
 ·have hlt := findI_lt0 M s
  obtain ⟨k, hk⟩ : ∃ k : Nat, findI M s = k := ⟨(findI M s).toNat, by omega⟩
  have hkl : k < M.length := by omega
  rw [hk]
  refine findI_at (by omega) ?_ fun j hj => ?_
  ·rw [h k (by omega) hkl]
   have : findN M s = k := by
    unfold findI at hk; split at hk <;> omega
   unfold findN at this
   have h3 := List.findIdx_getElem (p := fun c : Cl => c.nm.toList == s.toList) (xs := M) (w := by omega)
   simp only [this] at h3
   exact h3
  ·rw [h j (by omega) (by omega)]
   have : findN M s = k := by
    unfold findI at hk; split at hk <;> omega
   exact List.not_of_lt_findIdx (p := fun c : Cl => c.nm.toList == s.toList) (xs := M) (by unfold findN at this; omega)
theorem gd_get (L : List Cl) (K : Int) (i : Nat) (h : i < (gdC L K).length) (h' : i < (gCols L).length) : (gdC L K)[i] = if i < gdK L K then ⟨(gCols L)[i].nm, (gCols L)[i].k, false⟩ else (gCols L)[i] := clr_get _ _ _ h'
structure GoodS (M : List Cl) (k : Nat) : Prop where
 cols : Cols M
 len : 1 ≤ M.length ∧ M.length ≤ 6
 keys : 1 ≤ k ∧ k ≤ M.length ∧ k ≤ 3
 none : ∀ i (h : i < M.length), i < k → M[i].no = false
theorem goodS_is (L : List Cl) (K : Int) : GoodS (gdC L K) (gdK L K) := by
 obtain ⟨h1, h2, h3⟩ := gCols_cols L
 have hk := gKeys_range (gCols L).length K h2
 have hn : ∀ i (h1 : i < (gdC L K).length) (h2 : i < (gCols L).length), (gdC L K)[i].nm = (gCols L)[i].nm := fun i h h' => by
  rw [gd_get L K i h h']; split <;> rfl
 have hl : (gdC L K).length = (gCols L).length := clr_len _ _
 refine ⟨fun i h => ?_, by rw [hl]; exact ⟨h2, h3⟩, by rw [hl]; exact hk, fun i h hik => ?_⟩
 ·have h' : i < (gCols L).length := by omega
  obtain ⟨q1, q2, q3⟩ := h1 i h'
  rw [findI_congr hl hn, hn i h h']
  refine ⟨q1, q2, ?_⟩
  have e : (gdC L K)[i].k = (gCols L)[i].k := by rw [gd_get L K i h h']; split <;> rfl
  rw [e]; exact q3
 ·have h' : i < (gCols L).length := by omega
  rw [gd_get L K i h h', if_pos hik]
theorem goodS_may (M : List Cl) (k : Nat) (h : GoodS M k) : smayF M k = true := by
 have h1 := h.len
 have h2 := h.keys
 rw [smayF_yes h1.1 (by omega) (by omega) (by omega) (by omega)]
 unfold colsTo
 rw [List.all_eq_true]
 intro i hi
 have hi' : i < M.length := List.mem_range.1 hi
 obtain ⟨q1, q2, q3⟩ := h.cols i hi'
 rw [colOk_at M k i hi', q1, q2, q3]
 by_cases hk : i < k
 ·rw [h.none i hi' hk]; simp
 ·simp; omega
def forty (s : ByteArray) : ByteArray := if 40 < s.size then s.extract 0 40 else s
def kind5 (k : Int) : Int := (if k < 0 then -(k + 1) else k) % 5
def Vl.good (x : Vl) : Vl :=
 if kind5 x.k = 0 then ⟨0, 0, ⟨#[]⟩⟩ else if kind5 x.k = 1 then ⟨1, if x.n % 2 = 0 then 0 else 1, ⟨#[]⟩⟩ else if kind5 x.k = 2 then ⟨2, x.n, ⟨#[]⟩⟩
 else if kind5 x.k = 3 then ⟨3, 0, if Lib.validD (forty x.s).data.toList then forty x.s else ⟨#[]⟩⟩ else ⟨4, 0, forty x.s⟩
theorem kind_neg {k : Int} (h : k < 0) : ∃ c : Int, -((k + 1).tmod 5) = c ∧ kind5 k = c ∧ (c = 0 ∨ c = 1 ∨ c = 2 ∨ c = 3 ∨ c = 4) := by
 have e : kind5 k = -((k + 1).tmod 5) := by
  unfold kind5
  rw [if_pos h, ← Int.neg_tmod, Int.tmod_eq_emod_of_nonneg (by omega)]
 refine ⟨_, rfl, e, ?_⟩
 rw [← e]
 unfold kind5
 rw [if_pos h]
 omega
theorem kind_pos {k : Int} (h : ¬ k < 0) : ∃ c : Int, k.tmod 5 = c ∧ kind5 k = c ∧ (c = 0 ∨ c = 1 ∨ c = 2 ∨ c = 3 ∨ c = 4) := by
 have e : kind5 k = k.tmod 5 := by
  unfold kind5
  rw [if_neg h, Int.tmod_eq_emod_of_nonneg (by omega)]
 refine ⟨_, rfl, e, ?_⟩
 rw [← e]
 unfold kind5
 rw [if_neg h]
 omega
theorem odd_tmod (n : Int) : n.tmod 2 = 0 ↔ n % 2 = 0 := by
 rw [← Int.dvd_iff_tmod_eq_zero, ← Int.dvd_iff_emod_eq_zero]
theorem forty_size (s : ByteArray) : (forty s).size ≤ 40 := by
 unfold forty; split
 ·simp; omega
 ·omega
theorem goodEnd (w : World) (o1 o3 : Obj) (c0 c1 c2 : Value) (tmps : Array Value) (hp : tmps.getD 2 undef = .pointer (some ⟨w.heap.size + 1, 0, none⟩)) :
 (results Tryz.f64 tmps).run Tryz.prog (((w.alloc o1).alloc (.cells #[c0, c1, c2] 115)).alloc o3) = .ok (.agg #[c0, c1, c2]) (((w.alloc o1).alloc (.cells #[c0, c1, c2] 115)).alloc o3) := by
 have hh : Has (((w.alloc o1).alloc (.cells #[c0, c1, c2] 115)).alloc o3) (w.heap.size + 1) 115 #[c0, c1, c2] := by
  have h := Has.new (w.alloc o1) 115 #[c0, c1, c2]
  rw [show (w.alloc o1).heap.size = w.heap.size + 1 by simp] at h
  exact h.alloc o3
 exact results_cell_row rfl _ _ (w.heap.size + 1) 115 #[c0, c1, c2] (0, 0) _ hp hh Tryz.underlying115 rfl (by kernel_rfl)
set_option maxHeartbeats 4000000 in
set_option maxRecDepth 100000 in
theorem good_any (k n : Int) (s : ByteArray) (w : World) (hs : s.size ≤ 140737488355328) (h0 : -9223372036854775808 ≤ k) (h1 : k ≤ 9223372036854775807) :
 Calls Tryz.prog 64 #[.agg #[.int .i64 k, .int .i64 n, .string s]] w fun e w' => e = .returned (Vl.val (Vl.good ⟨k, n, s⟩)) ∧ Hid (Below w.heap.size w w') := by
 have HB := fun o1 o2 o3 => Lib.hid ((((Below.refl w.heap.size w).alloc (Nat.le_refl _) o1).alloc (by simp) o2).alloc (by simp; omega) o3)
 have CU := Lib.hid (fun W => refUtf8_any (forty s) W (by have := forty_size s; omega))
 have HO := Lib.hid (odd_tmod n)
 obtain ⟨t, ht⟩ : ∃ t, t = forty s := ⟨_, rfl⟩
 have HT := Lib.hid ht
 rw [← ht] at CU
 clear ht
 by_cases hk : k < 0
 ·obtain ⟨c, hc, hk5, hcs⟩ := kind_neg hk
  have HK5 := Lib.hid hk5
  clear hk5
  by_cases hz : 40 < s.size
  ·have HF : Hid (s.extract 0 40 = t) := by show _ = _; rw [HT.out]; unfold forty; rw [if_pos hz]
   have HF' := HF.out
   rcases hcs with rfl | rfl | rfl | rfl | rfl
   ·go_enter Tryz.func64, Tryz.ntmps64
    go_wp2_with fail
    exact bodyPost_ret (goodEnd _ _ _ _ _ _ _ rfl) rfl ⟨by simp [Vl.good, HK5.out, Vl.val], HB _ _ _⟩
   ·by_cases hn : n % 2 = 0
    ·have hq : (n.tmod 2 != 0) = false := by simp [HO.out, hn]
     go_enter Tryz.func64, Tryz.ntmps64
     go_wp2_with fail
     exact bodyPost_ret (goodEnd _ _ _ _ _ _ _ rfl) rfl ⟨by simp [Vl.good, HK5.out, hn, Vl.val], HB _ _ _⟩
    ·have hq : (n.tmod 2 != 0) = true := by simp [HO.out, hn]
     go_enter Tryz.func64, Tryz.ntmps64
     go_wp2_with fail
     exact bodyPost_ret (goodEnd _ _ _ _ _ _ _ rfl) rfl ⟨by simp [Vl.good, HK5.out, hn, Vl.val], HB _ _ _⟩
   ·go_enter Tryz.func64, Tryz.ntmps64
    go_wp2_with fail
    exact bodyPost_ret (goodEnd _ _ _ _ _ _ _ rfl) rfl ⟨by simp [Vl.good, HK5.out, Vl.val], HB _ _ _⟩
   ·go_enter Tryz.func64, Tryz.ntmps64
    go_wp2_with fail
    refine (CU.out _).mono ?_
    rintro e w1 ⟨rfl, rfl⟩
    cases hv : Lib.validD _
    ·go_wp2_with fail
     exact bodyPost_ret (goodEnd _ _ _ _ _ _ _ rfl) rfl ⟨by simp [Vl.good, HK5.out, Vl.val, ← HT.out, hv], HB _ _ _⟩
    ·go_wp2_with fail
     exact bodyPost_ret (goodEnd _ _ _ _ _ _ _ rfl) rfl ⟨by simp [Vl.good, HK5.out, Vl.val, ← HT.out, hv], HB _ _ _⟩
   ·go_enter Tryz.func64, Tryz.ntmps64
    go_wp2_with fail
    exact bodyPost_ret (goodEnd _ _ _ _ _ _ _ rfl) rfl ⟨by simp [Vl.good, HK5.out, Vl.val, ← HT.out], HB _ _ _⟩
  ·have HF : Hid (s = t) := by show _ = _; rw [HT.out]; unfold forty; rw [if_neg hz]
   clear HT
   obtain rfl := HF.out
   clear HF
   rcases hcs with rfl | rfl | rfl | rfl | rfl
   ·go_enter Tryz.func64, Tryz.ntmps64
    go_wp2_with fail
    exact bodyPost_ret (goodEnd _ _ _ _ _ _ _ rfl) rfl ⟨by simp [Vl.good, HK5.out, Vl.val], HB _ _ _⟩
   ·by_cases hn : n % 2 = 0
    ·have hq : (n.tmod 2 != 0) = false := by simp [HO.out, hn]
     go_enter Tryz.func64, Tryz.ntmps64
     go_wp2_with fail
     exact bodyPost_ret (goodEnd _ _ _ _ _ _ _ rfl) rfl ⟨by simp [Vl.good, HK5.out, hn, Vl.val], HB _ _ _⟩
    ·have hq : (n.tmod 2 != 0) = true := by simp [HO.out, hn]
     go_enter Tryz.func64, Tryz.ntmps64
     go_wp2_with fail
     exact bodyPost_ret (goodEnd _ _ _ _ _ _ _ rfl) rfl ⟨by simp [Vl.good, HK5.out, hn, Vl.val], HB _ _ _⟩
   ·go_enter Tryz.func64, Tryz.ntmps64
    go_wp2_with fail
    exact bodyPost_ret (goodEnd _ _ _ _ _ _ _ rfl) rfl ⟨by simp [Vl.good, HK5.out, Vl.val], HB _ _ _⟩
   ·go_enter Tryz.func64, Tryz.ntmps64
    go_wp2_with fail
    refine (CU.out _).mono ?_
    rintro e w1 ⟨rfl, rfl⟩
    cases hv : Lib.validD _
    ·go_wp2_with fail
     exact bodyPost_ret (goodEnd _ _ _ _ _ _ _ rfl) rfl ⟨by simp [Vl.good, HK5.out, Vl.val, forty, hz, hv], HB _ _ _⟩
    ·go_wp2_with fail
     exact bodyPost_ret (goodEnd _ _ _ _ _ _ _ rfl) rfl ⟨by simp [Vl.good, HK5.out, Vl.val, forty, hz, hv], HB _ _ _⟩
   ·go_enter Tryz.func64, Tryz.ntmps64
    go_wp2_with fail
    exact bodyPost_ret (goodEnd _ _ _ _ _ _ _ rfl) rfl ⟨by simp [Vl.good, HK5.out, Vl.val, forty, hz], HB _ _ _⟩
 ·obtain ⟨c, hc, hk5, hcs⟩ := kind_pos hk
  have HK5 := Lib.hid hk5
  clear hk5
  by_cases hz : 40 < s.size
  ·have HF : Hid (s.extract 0 40 = t) := by show _ = _; rw [HT.out]; unfold forty; rw [if_pos hz]
   have HF' := HF.out
   rcases hcs with rfl | rfl | rfl | rfl | rfl
   ·go_enter Tryz.func64, Tryz.ntmps64
    go_wp2_with fail
    exact bodyPost_ret (goodEnd _ _ _ _ _ _ _ rfl) rfl ⟨by simp [Vl.good, HK5.out, Vl.val], HB _ _ _⟩
   ·by_cases hn : n % 2 = 0
    ·have hq : (n.tmod 2 != 0) = false := by simp [HO.out, hn]
     go_enter Tryz.func64, Tryz.ntmps64
     go_wp2_with fail
     exact bodyPost_ret (goodEnd _ _ _ _ _ _ _ rfl) rfl ⟨by simp [Vl.good, HK5.out, hn, Vl.val], HB _ _ _⟩
    ·have hq : (n.tmod 2 != 0) = true := by simp [HO.out, hn]
     go_enter Tryz.func64, Tryz.ntmps64
     go_wp2_with fail
     exact bodyPost_ret (goodEnd _ _ _ _ _ _ _ rfl) rfl ⟨by simp [Vl.good, HK5.out, hn, Vl.val], HB _ _ _⟩
   ·go_enter Tryz.func64, Tryz.ntmps64
    go_wp2_with fail
    exact bodyPost_ret (goodEnd _ _ _ _ _ _ _ rfl) rfl ⟨by simp [Vl.good, HK5.out, Vl.val], HB _ _ _⟩
   ·go_enter Tryz.func64, Tryz.ntmps64
    go_wp2_with fail
    refine (CU.out _).mono ?_
    rintro e w1 ⟨rfl, rfl⟩
    cases hv : Lib.validD _
    ·go_wp2_with fail
     exact bodyPost_ret (goodEnd _ _ _ _ _ _ _ rfl) rfl ⟨by simp [Vl.good, HK5.out, Vl.val, ← HT.out, hv], HB _ _ _⟩
    ·go_wp2_with fail
     exact bodyPost_ret (goodEnd _ _ _ _ _ _ _ rfl) rfl ⟨by simp [Vl.good, HK5.out, Vl.val, ← HT.out, hv], HB _ _ _⟩
   ·go_enter Tryz.func64, Tryz.ntmps64
    go_wp2_with fail
    exact bodyPost_ret (goodEnd _ _ _ _ _ _ _ rfl) rfl ⟨by simp [Vl.good, HK5.out, Vl.val, ← HT.out], HB _ _ _⟩
  ·have HF : Hid (s = t) := by show _ = _; rw [HT.out]; unfold forty; rw [if_neg hz]
   clear HT
   obtain rfl := HF.out
   clear HF
   rcases hcs with rfl | rfl | rfl | rfl | rfl
   ·go_enter Tryz.func64, Tryz.ntmps64
    go_wp2_with fail
    exact bodyPost_ret (goodEnd _ _ _ _ _ _ _ rfl) rfl ⟨by simp [Vl.good, HK5.out, Vl.val], HB _ _ _⟩
   ·by_cases hn : n % 2 = 0
    ·have hq : (n.tmod 2 != 0) = false := by simp [HO.out, hn]
     go_enter Tryz.func64, Tryz.ntmps64
     go_wp2_with fail
     exact bodyPost_ret (goodEnd _ _ _ _ _ _ _ rfl) rfl ⟨by simp [Vl.good, HK5.out, hn, Vl.val], HB _ _ _⟩
    ·have hq : (n.tmod 2 != 0) = true := by simp [HO.out, hn]
     go_enter Tryz.func64, Tryz.ntmps64
     go_wp2_with fail
     exact bodyPost_ret (goodEnd _ _ _ _ _ _ _ rfl) rfl ⟨by simp [Vl.good, HK5.out, hn, Vl.val], HB _ _ _⟩
   ·go_enter Tryz.func64, Tryz.ntmps64
    go_wp2_with fail
    exact bodyPost_ret (goodEnd _ _ _ _ _ _ _ rfl) rfl ⟨by simp [Vl.good, HK5.out, Vl.val], HB _ _ _⟩
   ·go_enter Tryz.func64, Tryz.ntmps64
    go_wp2_with fail
    refine (CU.out _).mono ?_
    rintro e w1 ⟨rfl, rfl⟩
    cases hv : Lib.validD _
    ·go_wp2_with fail
     exact bodyPost_ret (goodEnd _ _ _ _ _ _ _ rfl) rfl ⟨by simp [Vl.good, HK5.out, Vl.val, forty, hz, hv], HB _ _ _⟩
    ·go_wp2_with fail
     exact bodyPost_ret (goodEnd _ _ _ _ _ _ _ rfl) rfl ⟨by simp [Vl.good, HK5.out, Vl.val, forty, hz, hv], HB _ _ _⟩
   ·go_enter Tryz.func64, Tryz.ntmps64
    go_wp2_with fail
    exact bodyPost_ret (goodEnd _ _ _ _ _ _ _ rfl) rfl ⟨by simp [Vl.good, HK5.out, Vl.val, forty, hz], HB _ _ _⟩
theorem kind5_cases (k : Int) : kind5 k = 0 ∨ kind5 k = 1 ∨ kind5 k = 2 ∨ kind5 k = 3 ∨ kind5 k = 4 := by
 unfold kind5; split <;> omega
theorem empty_zero : (⟨#[]⟩ : ByteArray).size = 0 := rfl
theorem good_size (x : Vl) : x.good.s.size ≤ 40 := by
 have h40 := forty_size x.s
 unfold Vl.good
 rcases kind5_cases x.k with h | h | h | h | h <;> simp only [h] <;> simp [empty_zero]
 ·split
  ·exact h40
  ·rw [empty_zero]; omega
 ·exact h40
theorem good_fits (x : Vl) (h : x.fits) : x.good.fits := by
 have h40 := good_size x
 obtain ⟨⟨h1, h2, h3⟩, h4, h5⟩ := h
 refine ⟨⟨?_, ?_, by omega⟩, ?_, ?_⟩
 all_goals
  unfold Vl.good
  rcases kind5_cases x.k with h | h | h | h | h <;> simp only [h] <;> simp
  all_goals first | omega | (split <;> omega)
theorem appR (w : World) (g : Nat) (hg0 : g = w.heap.size) (B : Nat) (v : Value) (L : List Vl) (x : Vl) (h : OwnV B w v L) (hB : B ≤ w.heap.size) (hl : L.length ≤ 1000) :
 ∃ R W', (Builtin.append_ #[50, 50] 50 #[v, .slice (some ⟨g, 0, none⟩) 1 1]).run Tryz.prog (w.alloc (.cells #[.int .i64 x.k, .int .i64 x.n, .string x.s] 115)) = .ok R W' ∧ OwnV B W' R (L ++ [x]) ∧ Below B w W' := by
 subst hg0
 obtain ⟨i0, hi, hz0, hz1, hz2⟩ := info_parts infoV
 obtain ⟨R, W', hrun, hown, hg, _⟩ := run_append_own (P := Tryz.prog) (w.alloc (.cells x.cells.toArray 115)) B 50 50 115 i0 _ 3 32 Tryz.underlying50 hi hz0 hz1 hz2 rfl (by decide) v L.length (L.flatMap Vl.cells) (h.alloc _)
  ⟨w.heap.size, 0, none⟩ 1 1 x.cells rfl (fun j u hj => by
    have := (Has.new w 115 x.cells.toArray).cell j
    rw [List.getElem?_toArray] at this
    rw [Addr.add_lit, Nat.zero_add]
    exact this.trans hj) (fun u hu => by simp [Vl.cells] at hu; rcases hu with rfl | rfl | rfl <;> rfl) (by unfold maxLen; omega) (by omega) (by simp; omega)
 refine ⟨R, W', hrun, ?_, ?_⟩
 ·unfold OwnV; rw [List.flatMap_append, List.length_append]; simpa using hown
 ·exact ((Below.refl B w).alloc hB _).grown hg (by simp; omega) fun k hk => (World.ownsRow.lt h k hk).1
theorem ownV_dn {B B' : Nat} {w : World} {v : Value} {l : List Vl} (h : OwnV B w v l) (hb : B' ≤ B) : OwnV B' w v l := by
 obtain ⟨h1, h2⟩ := h
 refine ⟨h1, ?_⟩
 rcases h2 with h2 | ⟨g, cap, cur, e, hg, r⟩
 ·exact .inl h2
 ·exact .inr ⟨g, cap, cur, e, Nat.le_trans hb hg, r⟩
def vlNil : Vl := ⟨0, 0, ⟨#[]⟩⟩
def rowOf (c : Cl) (v : Vl) : Vl := if c.no = true ∧ v.k % 3 = 0 then vlNil else Vl.good ⟨c.k, v.n, v.s⟩
def rowAt (M : List Cl) (R : List Vl) (i : Nat) : Vl := match M[i]? with
 | some c => rowOf c (R.getD i vlNil)
 | none => vlNil
def rowTo (M : List Cl) (R : List Vl) (k : Nat) : List Vl := (List.range k).map (rowAt M R)
def rowF (M : List Cl) (R : List Vl) : List Vl := rowTo M R M.length
theorem rowTo_succ (M : List Cl) (R : List Vl) (k : Nat) (h : k < M.length) : rowTo M R (k + 1) = rowTo M R k ++ [rowOf M[k] (R.getD k vlNil)] := by
 unfold rowTo
 rw [List.range_succ, List.map_append]
 simp only [List.map_cons, List.map_nil]
 unfold rowAt
 rw [List.getElem?_eq_getElem h]
theorem rowOf_nil {c : Cl} {v : Vl} (h : c.no = true ∧ v.k % 3 = 0) : rowOf c v = vlNil := if_pos h
theorem rowOf_some {c : Cl} {v : Vl} (h : ¬ (c.no = true ∧ v.k % 3 = 0)) : rowOf c v = Vl.good ⟨c.k, v.n, v.s⟩ := if_neg h
theorem keepA {W : World} {a : Addr} {v : Value} (o : Obj) (h : W.cell? a = some v) : (W.alloc o).cell? a = some v := (((Below.refl W.heap.size W).alloc (Nat.le_refl _) o).cell (World.block_lt_of_cell? _ _ h)).trans h
theorem rowTo_len (M : List Cl) (R : List Vl) (k : Nat) : (rowTo M R k).length = k := by simp [rowTo]
theorem mod3 (n : Int) : n.tmod 3 = 0 ↔ n % 3 = 0 := by
 rw [← Int.dvd_iff_tmod_eq_zero, ← Int.dvd_iff_emod_eq_zero]
set_option maxHeartbeats 8000000 in
set_option maxRecDepth 100000 in
theorem row_any (A : Option Addr) (M : List Cl) (n c : Nat) (K : Int) (Ar : Option Addr) (R : List Vl) (nr cr : Nat) (w : World) (hn : M.length = n) (hl : n ≤ 900) (hA : CRow w A M) (hM : ∀ x ∈ M, x.fit) (hnr : R.length = nr) (hnc : nr ≤ cr) (hcm : cr ≤ maxLen) (hR : VRow w Ar R) (hf : ∀ x ∈ R, x.fits) :
 Calls Tryz.prog 39 #[.agg #[.slice A n c, .int .i64 K], .slice Ar nr cr] w fun e w' => ∃ v, e = .returned v ∧ Hid (OwnV w.heap.size w' v (rowF M R)) ∧ Hid (Below w.heap.size w w') := by
 have HN := Lib.hid hn
 have HA := Lib.hid hA
 have HF := Lib.hid hM
 have HNR := Lib.hid hnr
 have HR := Lib.hid hR
 have HFR := Lib.hid hf
 have hcm2 : nr ≤ 9223372036854775807 := by unfold maxLen at hcm; omega
 have HB0 := Lib.hid ((Below.refl w.heap.size w).alloc (Nat.le_refl _) (.cells #[.slice A n c, .int .i64 K] 39))
 have HS0 := Lib.hid (Has.new w 39 #[.slice A n c, .int .i64 K])
 clear hn hA hM hnr hR hf hnc hcm
 go_enter Tryz.func39, Tryz.ntmps39
 go_wp2_with fail
 go_loopw [5, 6] (fun x i wr => ∃ (k : Nat) (u : Value), k ≤ n ∧ i = .int .i64 k ∧ u = x ∧ Hid (OwnV (w.heap.size + 1) wr u (rowTo M R k)) ∧ Hid (Below w.heap.size w wr) ∧ Hid (Has wr w.heap.size 39 #[.slice A n c, .int .i64 K])) (fun _ i _ => n - (intOf i).toNat)
 case atStart => exact ⟨0, _, by omega, rfl, rfl, ownV_nil _ _, HB0.out, HS0.out⟩
 case round =>
  obtain ⟨k, u, hk, rfl, rfl, HO, HB, HS⟩ := hrel
  have a0 : wr.cell? ⟨w.heap.size, 0, none⟩ = some (.slice A n c) := HS.out.cell 0
  by_cases hlt : k < n
  ·have hkl : k < M.length := by rw [HN.out]; exact hlt
   obtain ⟨b, off, rfl, hc⟩ := (HA.out.below HB.out) (by intro e; rw [e] at hkl; simp at hkl)
   obtain ⟨c0, c1, c2⟩ := hc k hkl
   obtain ⟨_, hf1, hf2⟩ := HF.out M[k] (List.getElem_mem hkl)
   have HT := Lib.hid (rowTo_succ M R k hkl)
   have HLN := Lib.hid (rowTo_len M R k)
   clear hc
   generalize M[k] = x at *
   obtain ⟨xa, xb, xc⟩ := x
   simp only at c0 c1 c2 hf1 hf2
   obtain ⟨RT, hRT⟩ : ∃ RT, rowTo M R k = RT := ⟨_, rfl⟩
   rw [hRT] at HO HT HLN
   clear hRT
   by_cases hkr : k < nr
   ·have hkrl : k < R.length := by rw [HNR.out]; exact hkr
    obtain ⟨b', off', rfl, hc'⟩ := (HR.out.below HB.out) (by intro e; rw [e] at hkrl; simp at hkrl)
    obtain ⟨d0, d1, d2⟩ := hc' k hkrl
    obtain ⟨⟨g0, g1, g2⟩, g3, g4⟩ := HFR.out R[k] (List.getElem_mem hkrl)
    have HG : Hid (R.getD k vlNil = R[k]) := by show _ = _; rw [List.getD_eq_getElem?_getD, List.getElem?_eq_getElem hkrl]; rfl
    rw [HG.out] at HT
    clear hc' HG
    generalize R[k] = y at *
    obtain ⟨yk, yn, ys⟩ := y
    simp only at d0 d1 d2 g0 g1 g2 g3 g4
    have z0 := keepA (.cells #[.int .i64 0, .int .i64 0, .string ⟨#[]⟩] 115) d0
    have z1 := keepA (.cells #[.int .i64 0, .int .i64 0, .string ⟨#[]⟩] 115) d1
    have z2 := keepA (.cells #[.int .i64 0, .int .i64 0, .string ⟨#[]⟩] 115) d2
    have a1 := keepA (.cells #[.int .i64 yk, .int .i64 yn, .string ys] 115) a0
    have b0 := keepA (.cells #[.int .i64 yk, .int .i64 yn, .string ys] 115) c0
    have b1 := keepA (.cells #[.int .i64 yk, .int .i64 yn, .string ys] 115) c1
    have b2 := keepA (.cells #[.int .i64 yk, .int .i64 yn, .string ys] 115) c2
    have HBW : Hid (Below wr.heap.size wr ((wr.alloc (.cells #[.int .i64 yk, .int .i64 yn, .string ys] 115)).alloc (.cells #[.string xa, .int .i64 xb, .bool xc] 46))) := ((Below.refl _ wr).alloc (Nat.le_refl _) _).alloc (by simp) _
    have HBU := Lib.hid (HB.out.trans (HBW.out.mono HB.out.size))
    have HOU := Lib.hid (HO.out.below HBW.out)
    have HSU := Lib.hid (HS.out.below HBW.out HS.out.lt)
    have HZ1 : Hid (wr.heap.size + 1 + 1 = ((wr.alloc (.cells #[.int .i64 yk, .int .i64 yn, .string ys] 115)).alloc (.cells #[.string xa, .int .i64 xb, .bool xc] 46)).heap.size) := by show _ = _; simp
    by_cases hnull : xc = true ∧ (yk : Int) % 3 = 0
    ·obtain ⟨rfl, h3⟩ := hnull
     have HV : Hid (rowOf ⟨xa, xb, true⟩ ⟨yk, yn, ys⟩ = vlNil) := rowOf_nil ⟨rfl, h3⟩
     rw [HV.out] at HT
     have hq : ((yk : Int).tmod 3 == 0) = true := by simp [(mod3 yk).2 h3]
     have HAP := Lib.hid (appR _ _ HZ1.out (w.heap.size + 1) u RT vlNil HOU.out HSU.out.lt (by have := HLN.out; omega))
     unfold vlNil at HAP
     go_wp2_with (at_builtin; refine wpList_app rfl _ _ 50 50 rfl u (.slice (some ⟨wr.heap.size + 1 + 1, 0, none⟩) 1 1) rfl rfl ?_; obtain ⟨R9, W', hrun, hmade⟩ := HAP.out; refine ⟨R9, W', hrun, ?_⟩; have HM := Lib.hid hmade; clear hrun hmade HAP)
     go_roundw
     case rel => exact ⟨k + 1, R9, by omega, by go_num, rfl, by rw [HT.out]; exact HM.out.1, HBU.out.trans (HM.out.2.mono (Nat.le_succ _)), HSU.out.below HM.out.2 (Nat.lt_succ_self _)⟩
     case measure => simp [intOf]; omega
    ·have HV : Hid (rowOf ⟨xa, xb, xc⟩ ⟨yk, yn, ys⟩ = Vl.good ⟨xb, yn, ys⟩) := rowOf_some hnull
     rw [HV.out] at HT
     have hq : (xc && ((yk : Int).tmod 3 == 0)) = false := by
      cases xc
      ·rfl
      ·have : ¬ (yk : Int) % 3 = 0 := fun h => hnull ⟨rfl, h⟩
       have h2 : ¬ (yk : Int).tmod 3 = 0 := fun h => this ((mod3 yk).1 h)
       exact beq_false_of_ne h2
     have hxx : xc = false ∨ (xc = true ∧ ((yk : Int).tmod 3 == 0) = false) := by
      cases xc
      ·exact .inl rfl
      ·exact .inr ⟨rfl, hq⟩
     clear hnull hq
     rcases hxx with rfl | ⟨rfl, hq⟩
     ·have HBX : Hid (Below wr.heap.size wr ((wr.alloc (.cells #[.int .i64 xb, .int .i64 yn, .string ys] 115)).alloc (.cells #[.string xa, .int .i64 xb, .bool false] 46))) := ((Below.refl _ wr).alloc (Nat.le_refl _) _).alloc (by simp) _
      have HBV := Lib.hid (HB.out.trans (HBX.out.mono HB.out.size))
      have HOV := Lib.hid (HO.out.below HBX.out)
      have HSV := Lib.hid (HS.out.below HBX.out HS.out.lt)
      clear HBX HBW HBU HOU HSU HZ1
      go_wp2_with fail
      refine (good_any xb yn ys _ g2 hf1 hf2).mono ?_
      rintro e1 w1 ⟨rfl, hb1⟩
      have HB1 := Lib.hid (HBV.out.trans (hb1.out.mono HBV.out.size))
      have HO1 := Lib.hid (HOV.out.below hb1.out)
      have HS1 := Lib.hid (HSV.out.below hb1.out HSV.out.lt)
      clear hb1 HBV HOV HSV HB HO HS a0 a1 b0 b1 b2
      generalize Vl.good ⟨xb, yn, ys⟩ = y9 at *
      have HAP := Lib.hid (appR w1 w1.heap.size rfl (w.heap.size + 1) u RT y9 HO1.out HS1.out.lt (by have := HLN.out; omega))
      unfold Vl.val
      go_wp2_with (at_builtin; refine wpList_app rfl _ _ 50 50 rfl u (.slice (some ⟨w1.heap.size, 0, none⟩) 1 1) rfl rfl ?_; obtain ⟨R9, W', hrun, hmade⟩ := HAP.out; refine ⟨R9, W', hrun, ?_⟩; have HM := Lib.hid hmade; clear hrun hmade HAP)
      go_roundw
      case rel => exact ⟨k + 1, R9, by omega, by go_num, rfl, by rw [HT.out]; exact HM.out.1, HB1.out.trans (HM.out.2.mono (Nat.le_succ _)), HS1.out.below HM.out.2 (Nat.lt_succ_self _)⟩
      case measure => simp [intOf]; omega
     ·have HBX : Hid (Below wr.heap.size wr ((wr.alloc (.cells #[.int .i64 xb, .int .i64 yn, .string ys] 115)).alloc (.cells #[.string xa, .int .i64 xb, .bool true] 46))) := ((Below.refl _ wr).alloc (Nat.le_refl _) _).alloc (by simp) _
      have HBV := Lib.hid (HB.out.trans (HBX.out.mono HB.out.size))
      have HOV := Lib.hid (HO.out.below HBX.out)
      have HSV := Lib.hid (HS.out.below HBX.out HS.out.lt)
      clear HBX HBW HBU HOU HSU HZ1
      go_wp2_with fail
      refine (good_any xb yn ys _ g2 hf1 hf2).mono ?_
      rintro e1 w1 ⟨rfl, hb1⟩
      have HB1 := Lib.hid (HBV.out.trans (hb1.out.mono HBV.out.size))
      have HO1 := Lib.hid (HOV.out.below hb1.out)
      have HS1 := Lib.hid (HSV.out.below hb1.out HSV.out.lt)
      clear hb1 HBV HOV HSV HB HO HS a0 a1 b0 b1 b2
      generalize Vl.good ⟨xb, yn, ys⟩ = y9 at *
      have HAP := Lib.hid (appR w1 w1.heap.size rfl (w.heap.size + 1) u RT y9 HO1.out HS1.out.lt (by have := HLN.out; omega))
      unfold Vl.val
      go_wp2_with (at_builtin; refine wpList_app rfl _ _ 50 50 rfl u (.slice (some ⟨w1.heap.size, 0, none⟩) 1 1) rfl rfl ?_; obtain ⟨R9, W', hrun, hmade⟩ := HAP.out; refine ⟨R9, W', hrun, ?_⟩; have HM := Lib.hid hmade; clear hrun hmade HAP)
      go_roundw
      case rel => exact ⟨k + 1, R9, by omega, by go_num, rfl, by rw [HT.out]; exact HM.out.1, HB1.out.trans (HM.out.2.mono (Nat.le_succ _)), HS1.out.below HM.out.2 (Nat.lt_succ_self _)⟩
      case measure => simp [intOf]; omega
   ·have HG : Hid (R.getD k vlNil = vlNil) := by show _ = _; rw [List.getD_eq_getElem?_getD, List.getElem?_eq_none (by rw [HNR.out]; omega)]; rfl
    rw [HG.out] at HT
    have hkz : ¬ (k : Int) < (nr : Int) := by omega
    clear HG
    have a1 := keepA (.cells #[.int .i64 0, .int .i64 0, .string ⟨#[]⟩] 115) a0
    have b0 := keepA (.cells #[.int .i64 0, .int .i64 0, .string ⟨#[]⟩] 115) c0
    have b1 := keepA (.cells #[.int .i64 0, .int .i64 0, .string ⟨#[]⟩] 115) c1
    have b2 := keepA (.cells #[.int .i64 0, .int .i64 0, .string ⟨#[]⟩] 115) c2
    have HBW : Hid (Below wr.heap.size wr ((wr.alloc (.cells #[.int .i64 0, .int .i64 0, .string ⟨#[]⟩] 115)).alloc (.cells #[.string xa, .int .i64 xb, .bool xc] 46))) := ((Below.refl _ wr).alloc (Nat.le_refl _) _).alloc (by simp) _
    have HBU := Lib.hid (HB.out.trans (HBW.out.mono HB.out.size))
    have HOU := Lib.hid (HO.out.below HBW.out)
    have HSU := Lib.hid (HS.out.below HBW.out HS.out.lt)
    have HZ1 : Hid (wr.heap.size + 1 + 1 = ((wr.alloc (.cells #[.int .i64 0, .int .i64 0, .string ⟨#[]⟩] 115)).alloc (.cells #[.string xa, .int .i64 xb, .bool xc] 46)).heap.size) := by show _ = _; simp
    by_cases hnull : xc = true ∧ (0 : Int) % 3 = 0
    ·obtain ⟨rfl, h3⟩ := hnull
     have HV : Hid (rowOf ⟨xa, xb, true⟩ vlNil = vlNil) := rowOf_nil ⟨rfl, h3⟩
     rw [HV.out] at HT
     have hq : ((0 : Int).tmod 3 == 0) = true := by simp [(mod3 0).2 h3]
     have HAP := Lib.hid (appR _ _ HZ1.out (w.heap.size + 1) u RT vlNil HOU.out HSU.out.lt (by have := HLN.out; omega))
     unfold vlNil at HAP
     go_wp2_with (at_builtin; refine wpList_app rfl _ _ 50 50 rfl u (.slice (some ⟨wr.heap.size + 1 + 1, 0, none⟩) 1 1) rfl rfl ?_; obtain ⟨R9, W', hrun, hmade⟩ := HAP.out; refine ⟨R9, W', hrun, ?_⟩; have HM := Lib.hid hmade; clear hrun hmade HAP)
     go_roundw
     case rel => exact ⟨k + 1, R9, by omega, by go_num, rfl, by rw [HT.out]; exact HM.out.1, HBU.out.trans (HM.out.2.mono (Nat.le_succ _)), HSU.out.below HM.out.2 (Nat.lt_succ_self _)⟩
     case measure => simp [intOf]; omega
    ·have HV : Hid (rowOf ⟨xa, xb, xc⟩ vlNil = Vl.good ⟨xb, 0, ⟨#[]⟩⟩) := rowOf_some hnull
     rw [HV.out] at HT
     have hq : (xc && ((0 : Int).tmod 3 == 0)) = false := by
      cases xc
      ·rfl
      ·have : ¬ (0 : Int) % 3 = 0 := fun h => hnull ⟨rfl, h⟩
       have h2 : ¬ (0 : Int).tmod 3 = 0 := fun h => this ((mod3 0).1 h)
       exact beq_false_of_ne h2
     have hxx : xc = false ∨ (xc = true ∧ ((0 : Int).tmod 3 == 0) = false) := by
      cases xc
      ·exact .inl rfl
      ·exact .inr ⟨rfl, hq⟩
     clear hnull hq
     rcases hxx with rfl | ⟨rfl, hq⟩
     ·have HBX : Hid (Below wr.heap.size wr ((wr.alloc (.cells #[.int .i64 xb, .int .i64 0, .string ⟨#[]⟩] 115)).alloc (.cells #[.string xa, .int .i64 xb, .bool false] 46))) := ((Below.refl _ wr).alloc (Nat.le_refl _) _).alloc (by simp) _
      have HBV := Lib.hid (HB.out.trans (HBX.out.mono HB.out.size))
      have HOV := Lib.hid (HO.out.below HBX.out)
      have HSV := Lib.hid (HS.out.below HBX.out HS.out.lt)
      clear HBX HBW HBU HOU HSU HZ1
      go_wp2_with fail
      refine (good_any xb 0 ⟨#[]⟩ _ (by simp [ByteArray.size]) hf1 hf2).mono ?_
      rintro e1 w1 ⟨rfl, hb1⟩
      have HB1 := Lib.hid (HBV.out.trans (hb1.out.mono HBV.out.size))
      have HO1 := Lib.hid (HOV.out.below hb1.out)
      have HS1 := Lib.hid (HSV.out.below hb1.out HSV.out.lt)
      clear hb1 HBV HOV HSV HB HO HS a0 a1 b0 b1 b2
      generalize Vl.good ⟨xb, 0, ⟨#[]⟩⟩ = y9 at *
      have HAP := Lib.hid (appR w1 w1.heap.size rfl (w.heap.size + 1) u RT y9 HO1.out HS1.out.lt (by have := HLN.out; omega))
      unfold Vl.val
      go_wp2_with (at_builtin; refine wpList_app rfl _ _ 50 50 rfl u (.slice (some ⟨w1.heap.size, 0, none⟩) 1 1) rfl rfl ?_; obtain ⟨R9, W', hrun, hmade⟩ := HAP.out; refine ⟨R9, W', hrun, ?_⟩; have HM := Lib.hid hmade; clear hrun hmade HAP)
      go_roundw
      case rel => exact ⟨k + 1, R9, by omega, by go_num, rfl, by rw [HT.out]; exact HM.out.1, HB1.out.trans (HM.out.2.mono (Nat.le_succ _)), HS1.out.below HM.out.2 (Nat.lt_succ_self _)⟩
      case measure => simp [intOf]; omega
     ·exact absurd hq (by decide)
  ·obtain rfl : k = n := by omega
   have HTF : Hid (rowF M R = rowTo M R k) := by show _ = _; unfold rowF; rw [HN.out]
   go_wp2_with fail
   go_ret
   exact ⟨u, rfl, by rw [HTF.out]; exact ownV_dn HO.out (Nat.le_succ _), HB⟩
set_option maxRecDepth 100000
theorem zerosC (w : World) (n G : Nat) (hG : n ≤ G) (hm : G ≤ maxLen) :
 OwnC w.heap.size (w.drew.alloc (.cells (([] : List Value).toArray ++ Builtin.zeroCells (Value.agg #[.string ⟨#[]⟩, .int .i64 0, .bool false]).cells n ++ Builtin.zeroCells (Value.agg #[.string ⟨#[]⟩, .int .i64 0, .bool false]).cells (G - n)) 46)) (.slice (some ⟨w.heap.size, 0, none⟩) 0 G) [] :=
 World.ownsRow_made (base := w.heap.size) w.drew _ G (Nat.le_refl _) hm (by simp [size_zeroCells, Value.cells]; omega)
set_option maxHeartbeats 1000000 in
theorem growC_any (n : Nat) (w : World) (h2 : n ≤ 1000) :
 Calls Tryz.prog 132 #[.slice none 0 0, .int .i64 n] w fun e w' => ∃ v, e = .returned v ∧ Hid (OwnC w.heap.size w' v []) ∧ Hid (Below w.heap.size w w') := by
 by_cases h1 : n = 0
 ·subst h1
  go_enter Tryz.func132, Tryz.ntmps132
  go_wp2_with fail
  go_ret
  exact ⟨_, rfl, World.ownsRow_nil _ _ _ _, Below.refl _ _⟩
 ·obtain ⟨i0, hi, hz0, hz1, hz2⟩ := info_parts infoC
  have h0 : 1 ≤ n := by omega
  have hr := fun ty => Lib.run_append_grow_zeros (P := Tryz.prog) w 37 3 ty 46 i0 (.agg #[.string ⟨#[]⟩, .int .i64 0, .bool false]) .i64 .i64 Tryz.underlying37 Tryz.underlying3 hi hz0 none 0 0 [] (run_firstCells_none w.drew i0.size 0 0 0) n (by omega) (by rw [hz1]; omega) (by omega) (by omega) (by rw [hz2]; omega) (by rw [hz2]; exact growslice_fits (by omega) (by omega))
  simp only [Nat.zero_add] at hr
  have hG := grownCap_ge w n 0 46
  have hM := grownCap_le_maxLen w n 0 46 (by unfold maxLen; omega)
  have HO := Lib.hid (zerosC w n _ hG hM)
  have HB := Lib.hid (((Below.refl w.heap.size w).drew).alloc (Nat.le_refl _) (.cells (([] : List Value).toArray ++ Builtin.zeroCells (Value.agg #[.string ⟨#[]⟩, .int .i64 0, .bool false]).cells n ++ Builtin.zeroCells (Value.agg #[.string ⟨#[]⟩, .int .i64 0, .bool false]).cells (grownCap w n 0 46 - n)) 46))
  have HR := Lib.hid hr
  unfold maxLen at hM
  clear hr h1
  generalize grownCap w n 0 46 = G at *
  obtain ⟨W, hW⟩ : ∃ W, W = w.drew.alloc (.cells (([] : List Value).toArray ++ Builtin.zeroCells (Value.agg #[.string ⟨#[]⟩, .int .i64 0, .bool false]).cells n ++ Builtin.zeroCells (Value.agg #[.string ⟨#[]⟩, .int .i64 0, .bool false]).cells (G - n)) 46) := ⟨_, rfl⟩
  rw [← hW] at HR HO HB
  clear hW
  go_enter Tryz.func132, Tryz.ntmps132
  go_wp2_with (at_builtin; refine Lib.wpList_append_run _ rfl _ _ _ _ rfl _ _ rfl rfl _ _ (HR.out _) ?_)
  go_ret
  exact ⟨_, rfl, HO, HB⟩
def PartsC (w : World) (g : Nat) (L : List (Option Addr × List Cl × Nat)) : Prop := ∀ i (h : i < L.length), w.cell? ⟨g, i, none⟩ = some (.slice L[i].1 L[i].2.1.length L[i].2.2) ∧ CRow w L[i].1 L[i].2.1 ∧ (L[i].1 = none → L[i].2.2 = 0)
def catC (L : List (Option Addr × List Cl × Nat)) (k : Nat) : List Cl := (L.take k).flatMap (fun x => x.2.1)
theorem catC_succ (L : List (Option Addr × List Cl × Nat)) (k : Nat) (h : k < L.length) : catC L (k + 1) = catC L k ++ L[k].2.1 := by
 unfold catC
 rw [List.take_succ_eq_append_getElem h, List.flatMap_append]
 simp
theorem catC_le (L : List (Option Addr × List Cl × Nat)) (k : Nat) : (catC L k).length ≤ (catC L L.length).length := by
 have h : catC L L.length = catC L k ++ (L.drop k).flatMap (fun x => x.2.1) := by
  unfold catC
  rw [← List.flatMap_append, List.take_append_drop, List.take_length]
 rw [h, List.length_append]
 omega
theorem catC_len_succ (L : List (Option Addr × List Cl × Nat)) (k : Nat) (h : k < L.length) : (catC L (k + 1)).length = (catC L k).length + L[k].2.1.length := by
 rw [catC_succ L k h, List.length_append]
set_option maxHeartbeats 2000000 in
set_option maxRecDepth 100000 in
theorem concatC_any (g : Nat) (L : List (Option Addr × List Cl × Nat)) (n c : Nat) (w : World) (hL : L.length = n) (hn : n ≤ 1000) (hP : PartsC w g L) (hb : (catC L n).length ≤ 1000) :
 Calls Tryz.prog 117 #[.slice (some ⟨g, 0, none⟩) n c] w fun e w' => ∃ v, e = .returned v ∧ Hid (OwnC w.heap.size w' v (catC L n)) ∧ Hid (Below w.heap.size w w') := by
 have HL := Lib.hid hL
 have HP := Lib.hid hP
 clear hL hP
 go_enter Tryz.func117, Tryz.ntmps117
 go_wp2_with fail
 go_loop [3, 11] (fun v i => ∃ k : Nat, k ≤ n ∧ i = .int .i64 k ∧ v = .int .i64 (catC L k).length) (fun _ i => n - (intOf i).toNat)
 case atStart => exact ⟨0, by omega, rfl, rfl⟩
 case round =>
  obtain ⟨k, hk, rfl, rfl⟩ := hrel
  by_cases hlt : k < n
  ·have hkl : k < L.length := by rw [HL.out]; exact hlt
   obtain ⟨hc, _, _⟩ := HP.out k hkl
   have h1 := catC_len_succ L k hkl
   have h2 := catC_le L (k + 1)
   rw [HL.out] at h2
   have H1 := Lib.hid h1
   have hs : (catC L k).length + L[k].2.1.length ≤ 1000 := by omega
   clear h1 h2
   generalize L[k].2.1.length = m at *
   generalize L[k].1 = B at *
   generalize L[k].2.2 = d at *
   generalize (catC L k).length = T at *
   go_wp2_with fail
   go_round
   case rel => exact ⟨k + 1, by omega, by go_num, by rw [H1.out]; go_num⟩
   case measure => simp [intOf]; omega
  ·obtain rfl : k = n := by omega
   go_wp2_with fail
   refine (growC_any _ _ hb).mono ?_
   rintro e w1 ⟨v, rfl, HO, HB⟩
   go_wp2_with fail
   go_loopw [6, 27] (fun v i wr => ∃ j : Nat, j ≤ k ∧ i = .int .i64 j ∧ Hid (OwnC w.heap.size wr v (catC L j)) ∧ Hid (Below w.heap.size w wr)) (fun _ i _ => k - (intOf i).toNat)
   case atStart => exact ⟨0, by omega, rfl, HO, HB⟩
   case round =>
    obtain ⟨j, hj, rfl, HO2, HB2⟩ := hrel
    clear HO HB
    by_cases hlt2 : j < k
    ·have hjl : j < L.length := by rw [HL.out]; exact hlt2
     obtain ⟨hc0, hr0, hn0⟩ := HP.out j hjl
     have hc : wr.cell? ⟨g, j, none⟩ = some (.slice L[j].1 L[j].2.1.length L[j].2.2) := (HB2.out.cell (World.block_lt_of_cell? w _ hc0)).trans hc0
     have h1 := catC_len_succ L j hjl
     have h2 := catC_le L (j + 1)
     rw [HL.out] at h2
     have HA := Lib.hid (appCs wr w.heap.size _ (catC L j) HO2.out HB2.out.size L[j].1 L[j].2.1 L[j].2.1.length L[j].2.2 rfl (hr0.below HB2.out) hn0 (by omega))
     rw [← catC_succ L j hjl] at HA
     clear hc0 hr0 hn0 h1 h2
     generalize L[j].2.1.length = m at *
     generalize L[j].1 = B at *
     generalize L[j].2.2 = d at *
     go_wp2_with (at_builtin; refine wpList_app rfl _ _ 37 37 rfl u6 (.slice B m d) rfl rfl ?_; obtain ⟨R, W', hrun, hmade⟩ := HA.out; refine ⟨R, W', hrun, ?_⟩; have HM := Lib.hid hmade; clear hrun hmade HA)
     go_roundw
     case rel => exact ⟨j + 1, by omega, by go_num, HM.out.1, HB2.out.trans (HM.out.2.mono (Nat.le_refl _))⟩
     case measure => simp [intOf]; omega
    ·obtain rfl : j = k := by omega
     go_wp2_with fail
     go_ret
     exact ⟨_, rfl, HO2.out, HB2.out⟩
theorem ownC_down {B B' : Nat} {w : World} {v : Value} {l : List Cl} (h : OwnC B w v l) (hb : B' ≤ B) : OwnC B' w v l := by
 obtain ⟨h1, h2⟩ := h
 refine ⟨h1, ?_⟩
 rcases h2 with h2 | ⟨g, cap, cur, e, hg, r⟩
 ·exact .inl h2
 ·exact .inr ⟨g, cap, cur, e, Nat.le_trans hb hg, r⟩
theorem OwnC.far {B : Nat} {w : World} {v : Value} {L : List Cl} (h : OwnC B w v L) {p : Addr} (hp : p.block < B) (u : Value) : OwnC B (w.setCell p u) v L := by
 rcases h.2 with ⟨hv, hn⟩ | ⟨g, cap, cur, hv, hg, hh, hc, hcm, hsz, ht⟩
 ·exact ⟨h.1, .inl ⟨hv, hn⟩⟩
 ·exact ⟨h.1, .inr ⟨g, cap, cur, hv, hg, Has.far (t := 46) (cs := cur) hh (by omega) u, hc, hcm, hsz, ht⟩⟩
theorem hid_d1 {w W : World} (h : Hid (Below w.heap.size w W)) (o : Obj) : Hid (Below w.heap.size w (W.alloc o).drew) := (h.out.alloc h.out.size o).drew
theorem hid_d2 {w W : World} (h : Hid (Below w.heap.size w W)) (o o' : Obj) : Hid (Below w.heap.size w ((W.alloc o).alloc o').drew) := ((h.out.alloc h.out.size o).alloc (by have := h.out.size; simp; omega) o').drew
theorem keepC {W W' : World} {a : Addr} {v : Value} (hb : Below W.heap.size W W') (h : W.cell? a = some v) : W'.cell? a = some v := (hb.cell (World.block_lt_of_cell? _ _ h)).trans h
theorem CRow.drop {w : World} {b off : Nat} {L : List Cl} (h : CRow w (some ⟨b, off, none⟩) L) (k : Nat) : CRow w (some ⟨b, off + k * 3, none⟩) (L.drop k) := fun hl => by
 obtain ⟨b', off', e, hc⟩ := h (by rintro rfl; simp at hl)
 injection e with e
 injection e with e1 e2
 subst e1 e2
 refine ⟨b, off + k * 3, rfl, fun i hi => ?_⟩
 rw [List.length_drop] at hi
 obtain ⟨h0, h1, h2⟩ := hc (k + i) (by omega)
 rw [List.getElem_drop]
 have e : off + (k + i) * 3 = off + k * 3 + i * 3 := by omega
 rw [e] at h0 h1 h2
 exact ⟨h0, h1, h2⟩
theorem CRow.take {w : World} {A : Option Addr} {L : List Cl} (h : CRow w A L) (k : Nat) : CRow w A (L.take k) := fun hl => by
 obtain ⟨b, off, e, hc⟩ := h (by rintro rfl; simp at hl)
 refine ⟨b, off, e, fun i hi => ?_⟩
 rw [List.length_take] at hi
 rw [List.getElem_take]
 exact hc i (by omega)
theorem CRow.one (w : World) (x : Cl) : CRow (w.alloc (.cells #[.string x.nm, .int .i64 x.k, .bool x.no] 46)) (some ⟨w.heap.size, 0, none⟩) [x] := fun _ => ⟨w.heap.size, 0, rfl, fun i hi => by
 have hh := Has.new w 46 #[.string x.nm, .int .i64 x.k, .bool x.no]
 obtain rfl : i = 0 := by simpa using hi
 exact ⟨hh.cell 0, hh.cell 1, hh.cell 2⟩⟩
set_option maxHeartbeats 2000000 in
theorem putC_call (w : World) (b off : Nat) (L : List Cl) (n c f t m : Nat) (x : Cl) (hn : L.length = n) (hft : f ≤ t) (htn : t ≤ n) (hm : m ≤ 1) (hl : n ≤ 900) (hA : CRow w (some ⟨b, off, none⟩) L) (D : Option Addr) (q r : Nat) (hq : q = n - t) (hkey : ∀ (V : World), CRow V (some ⟨b, off, none⟩) L → CRow V D (L.drop t)) (hD : D ≠ none) (W : World) (hb : Below w.heap.size w W) :
 Calls Tryz.prog 117 #[.slice (some ⟨W.heap.size + 1, 0, none⟩) 3 3] ((W.alloc (.cells #[.string x.nm, .int .i64 x.k, .bool x.no] 46)).alloc (.cells #[.slice (some ⟨b, off, none⟩) f c, .slice (some ⟨W.heap.size, 0, none⟩) m 1, .slice D q r] 37)).drew
  fun e w' => ∃ v, e = .returned v ∧ Hid (OwnC w.heap.size w' v (L.take f ++ List.replicate m x ++ L.drop t)) ∧ Hid (Below w.heap.size w w') ∧ Hid (Below W.heap.size W w') := by
 have hlt : (L.take f).length = f := by rw [List.length_take]; omega
 have hld : (L.drop t).length = n - t := by rw [List.length_drop, hn]
 have hb2 : Below w.heap.size w ((W.alloc (.cells #[.string x.nm, .int .i64 x.k, .bool x.no] 46)).alloc (.cells #[.slice (some ⟨b, off, none⟩) f c, .slice (some ⟨W.heap.size, 0, none⟩) m 1, .slice D q r] 37)).drew :=
  ((hb.alloc hb.size _).alloc (by have := hb.size; simp; omega) _).drew
 have hr := hA.below hb2
 have hh := (Has.new (W.alloc (.cells #[.string x.nm, .int .i64 x.k, .bool x.no] 46)) 37 #[.slice (some ⟨b, off, none⟩) f c, .slice (some ⟨W.heap.size, 0, none⟩) m 1, .slice D q r]).drew
 rw [show (W.alloc (.cells #[.string x.nm, .int .i64 x.k, .bool x.no] 46)).heap.size = W.heap.size + 1 by simp] at hh
 have ho : CRow ((W.alloc (.cells #[.string x.nm, .int .i64 x.k, .bool x.no] 46)).alloc (.cells #[.slice (some ⟨b, off, none⟩) f c, .slice (some ⟨W.heap.size, 0, none⟩) m 1, .slice D q r] 37)).drew (some ⟨W.heap.size, 0, none⟩) (List.replicate m x) := by
  have h1 := (CRow.one W x).below ((Below.refl _ (W.alloc (.cells #[.string x.nm, .int .i64 x.k, .bool x.no] 46))).alloc (Nat.le_refl _) (.cells #[.slice (some ⟨b, off, none⟩) f c, .slice (some ⟨W.heap.size, 0, none⟩) m 1, .slice D q r] 37)).drew
  have e : List.replicate m x = [x].take m := by
   have : m = 0 ∨ m = 1 := by omega
   rcases this with rfl | rfl <;> rfl
  rw [e]; exact h1.take m
 have hcat : catC [(some ⟨b, off, none⟩, L.take f, c), (some ⟨W.heap.size, 0, none⟩, List.replicate m x, 1), (D, L.drop t, r)] 3 = L.take f ++ List.replicate m x ++ L.drop t := by
  simp [catC]
 have hC := concatC_any (W.heap.size + 1) [(some ⟨b, off, none⟩, L.take f, c), (some ⟨W.heap.size, 0, none⟩, List.replicate m x, 1), (D, L.drop t, r)] 3 3 _ rfl (by omega) (fun i hi => by
  have : i = 0 ∨ i = 1 ∨ i = 2 := by simp at hi; omega
  rcases this with rfl | rfl | rfl
  ·exact ⟨by rw [hh.cell 0]; simp [hlt], hr.take f, fun e => by cases e⟩
  ·exact ⟨by rw [hh.cell 1]; simp, ho, fun e => by cases e⟩
  ·exact ⟨by rw [hh.cell 2]; simp [hld, hq], hkey _ hr, fun e => absurd e hD⟩) (by rw [hcat]; simp; omega)
 rw [hcat] at hC
 refine hC.mono ?_
 rintro e w' ⟨v, rfl, ho', hb'⟩
 exact ⟨v, rfl, ownC_down ho'.out hb2.size, hb2.trans (hb'.out.mono hb2.size), ((((Below.refl W.heap.size W).alloc (Nat.le_refl _) _).alloc (by simp) _).drew).trans (hb'.out.mono (by simp; omega))⟩
set_option maxHeartbeats 4000000 in
set_option maxRecDepth 100000 in
theorem putC_any (A : Option Addr) (L : List Cl) (n c f t m : Nat) (x : Cl) (w : World) (hn : L.length = n) (hp : 0 < n) (hnc : n ≤ c) (hcm : c ≤ maxLen) (hft : f ≤ t) (htn : t ≤ n) (hm : m ≤ 1) (hl : n ≤ 900) (hA : CRow w A L) :
 Calls Tryz.prog 89 #[.slice A n c, .agg #[.int .i64 f, .int .i64 t, .int .i64 m], .agg #[.string x.nm, .int .i64 x.k, .bool x.no]] w fun e w' => ∃ v, e = .returned v ∧ Hid (OwnC w.heap.size w' v (L.take f ++ List.replicate m x ++ L.drop t)) ∧ Hid (Below w.heap.size w w') := by
 obtain ⟨b, off, rfl, _⟩ := hA (by rintro rfl; simp at hn; omega)
 have HC0 := Lib.hid (fun D q r hq hk hD W hb => putC_call w b off L n c f t m x hn hft htn hm hl hA D q r hq hk hD W hb)
 have HN := Lib.hid hn
 have HB := Lib.hid (((Below.refl w.heap.size w).alloc (Nat.le_refl _) (.cells #[.int .i64 f, .int .i64 t, .int .i64 m] 141)).alloc (by simp) (.cells #[.string x.nm, .int .i64 x.k, .bool x.no] 46))
 have HX := Lib.hid ((Has.new w 141 #[.int .i64 f, .int .i64 t, .int .i64 m]).alloc (.cells #[.string x.nm, .int .i64 x.k, .bool x.no] 46))
 have hy := Has.new (w.alloc (.cells #[.int .i64 f, .int .i64 t, .int .i64 m] 141)) 46 #[.string x.nm, .int .i64 x.k, .bool x.no]
 rw [show (w.alloc (.cells #[.int .i64 f, .int .i64 t, .int .i64 m] 141)).heap.size = w.heap.size + 1 by simp] at hy
 have HY := Lib.hid hy
 unfold maxLen at hcm
 clear hy hA hn
 obtain ⟨xa, xb, xc⟩ := x
 by_cases hct : c = t
 ·obtain rfl := hct.symm
  have hnt : t = n := by omega
  subst hnt
  have HC := Lib.hid (fun W hb => HC0.out (some ⟨b, off, none⟩) 0 0 (by omega) (fun V _ => by rw [List.drop_eq_nil_of_le (Nat.le_of_eq HN.out)]; exact fun h => absurd rfl h) (fun e => by cases e) W hb)
  clear HC0 HN
  go_enter Tryz.func89, Tryz.ntmps89
  go_wp2_with fail
  obtain ⟨W, hW⟩ : ∃ W, W = (w.alloc (.cells #[.int .i64 f, .int .i64 t, .int .i64 m] 141)).alloc (.cells #[.string xa, .int .i64 xb, .bool xc] 46) := ⟨_, rfl⟩
  simp only [← hW] at HB HX HY ⊢
  clear hW
  have d0 := HX.out.drew.cell 0
  have d1 := HX.out.drew.cell 1
  have d2 := HX.out.drew.cell 2
  have e0 := HY.out.drew.cell 0
  have e1 := HY.out.drew.cell 1
  have e2 := HY.out.drew.cell 2
  have hb0 : Hid (Below w.heap.size w W.drew) := HB.out.drew
  simp at d0 d1 d2 e0 e1 e2
  clear HX HY
  have z0 : (0 : Int) ≤ (f : Int) := by omega
  have z1 : (f : Int) ≤ (t : Int) := by omega
  have z2 : (0 : Int) ≤ (t : Int) := by omega
  have z3 : (t : Int) ≤ (t : Int) := by omega
  have z4 : (0 : Int) ≤ (m : Int) := by omega
  have z5 : (m : Int) ≤ 1 := by omega
  go_region_held3 (fun W => Hid (Below w.heap.size w W) ∧ W.cell? ⟨w.heap.size, 0, none⟩ = some (.int .i64 f) ∧ W.cell? ⟨w.heap.size, 1, none⟩ = some (.int .i64 t) ∧ W.cell? ⟨w.heap.size, 2, none⟩ = some (.int .i64 m) ∧ W.cell? ⟨w.heap.size + 1, 0, none⟩ = some (.string xa) ∧ W.cell? ⟨w.heap.size + 1, 1, none⟩ = some (.int .i64 xb) ∧ W.cell? ⟨w.heap.size + 1, 2, none⟩ = some (.bool xc)) ((refine ⟨by first | assumption | exact hid_d1 (by assumption) _ | exact hid_d2 (by assumption) _ _, ?_⟩; go_keep))
   (first | (go_at_call 117; refine (HC.out _ (Hid.out (by assumption))).mono ?_; rintro e x1 ⟨v, rfl, ho, hbw, hbx⟩; have i0 := keepC hbx.out d0; have i1 := keepC hbx.out d1; have i2 := keepC hbx.out d2; have j0 := keepC hbx.out e0; have j1 := keepC hbx.out e1; have j2 := keepC hbx.out e2))
  all_goals
   go_wp2_with fail
   go_ret
   exact ⟨_, rfl, by assumption, by assumption⟩
 ·have HC := Lib.hid (fun W hb => HC0.out (some ⟨b, off + t * 3, none⟩) (n - t) (c - t) rfl (fun V hv => hv.drop t) (fun e => by cases e) W hb)
  clear HC0 HN
  go_enter Tryz.func89, Tryz.ntmps89
  go_wp2_with fail
  obtain ⟨W, hW⟩ : ∃ W, W = (w.alloc (.cells #[.int .i64 f, .int .i64 t, .int .i64 m] 141)).alloc (.cells #[.string xa, .int .i64 xb, .bool xc] 46) := ⟨_, rfl⟩
  simp only [← hW] at HB HX HY ⊢
  clear hW
  have d0 := HX.out.drew.cell 0
  have d1 := HX.out.drew.cell 1
  have d2 := HX.out.drew.cell 2
  have e0 := HY.out.drew.cell 0
  have e1 := HY.out.drew.cell 1
  have e2 := HY.out.drew.cell 2
  have hb0 : Hid (Below w.heap.size w W.drew) := HB.out.drew
  simp at d0 d1 d2 e0 e1 e2
  clear HX HY
  have z0 : (0 : Int) ≤ (f : Int) := by omega
  have z1 : (f : Int) ≤ (c : Int) := by omega
  have z2 : (0 : Int) ≤ (t : Int) := by omega
  have z3 : (t : Int) ≤ (n : Int) := by omega
  have z4 : (0 : Int) ≤ (m : Int) := by omega
  have z5 : (m : Int) ≤ 1 := by omega
  go_region_held3 (fun W => Hid (Below w.heap.size w W) ∧ W.cell? ⟨w.heap.size, 0, none⟩ = some (.int .i64 f) ∧ W.cell? ⟨w.heap.size, 1, none⟩ = some (.int .i64 t) ∧ W.cell? ⟨w.heap.size, 2, none⟩ = some (.int .i64 m) ∧ W.cell? ⟨w.heap.size + 1, 0, none⟩ = some (.string xa) ∧ W.cell? ⟨w.heap.size + 1, 1, none⟩ = some (.int .i64 xb) ∧ W.cell? ⟨w.heap.size + 1, 2, none⟩ = some (.bool xc)) ((refine ⟨by first | assumption | exact hid_d1 (by assumption) _ | exact hid_d2 (by assumption) _ _, ?_⟩; go_keep))
   (first | (go_at_call 117; refine (HC.out _ (Hid.out (by assumption))).mono ?_; rintro e x1 ⟨v, rfl, ho, hbw, hbx⟩; have i0 := keepC hbx.out d0; have i1 := keepC hbx.out d1; have i2 := keepC hbx.out d2; have j0 := keepC hbx.out e0; have j1 := keepC hbx.out e1; have j2 := keepC hbx.out e2))
  all_goals
   go_wp2_with fail
   go_ret
   exact ⟨_, rfl, by assumption, by assumption⟩
def standsF (c : Cl) (v : Vl) : Bool := v.may && (v.k == c.k || (v.k == 0 && c.no))
def fitsTo (M : List Cl) (R : List Vl) (k : Nat) : Bool := (List.range k).all fun i => match M[i]?, R[i]? with | some c, some v => standsF c v | _, _ => true
theorem fitsTo_succ (M : List Cl) (R : List Vl) (k : Nat) (h : k < M.length) (h' : k < R.length) : fitsTo M R (k + 1) = (fitsTo M R k && standsF M[k] R[k]) := by
 unfold fitsTo; rw [List.range_succ, List.all_append]; simp [h, h']
theorem fitsTo_false (M : List Cl) (R : List Vl) (k n : Nat) (hk : k < n) (h : k < M.length) (h' : k < R.length) (hs : standsF M[k] R[k] = false) : fitsTo M R n = false := by
 unfold fitsTo; rw [List.all_eq_false]
 exact ⟨k, List.mem_range.2 hk, by simp [h, h', hs]⟩
def fitsF (M : List Cl) (R : List Vl) : Bool := decide (R.length = M.length) && fitsTo M R M.length
set_option maxHeartbeats 2000000 in
theorem stands_any (xa : ByteArray) (xb : Int) (xc : Bool) (yk yn : Int) (ys : ByteArray) (w : World) (hs : ys.size ≤ 140737488355328) :
 Calls Tryz.prog 94 #[.agg #[.string xa, .int .i64 xb, .bool xc], .agg #[.int .i64 yk, .int .i64 yn, .string ys]] w fun e w' => e = .returned (.bool (standsF ⟨xa, xb, xc⟩ ⟨yk, yn, ys⟩)) ∧ Hid (Below w.heap.size w w') := by
 have HB0 := Lib.hid (((Below.refl w.heap.size w).alloc (Nat.le_refl _) (.cells #[.string xa, .int .i64 xb, .bool xc] 46)).alloc (by simp) (.cells #[.int .i64 yk, .int .i64 yn, .string ys] 115))
 have HX0 := Lib.hid ((Has.new w 46 #[.string xa, .int .i64 xb, .bool xc]).alloc (.cells #[.int .i64 yk, .int .i64 yn, .string ys] 115))
 have hy := Has.new (w.alloc (.cells #[.string xa, .int .i64 xb, .bool xc] 46)) 115 #[.int .i64 yk, .int .i64 yn, .string ys]
 rw [show (w.alloc (.cells #[.string xa, .int .i64 xb, .bool xc] 46)).heap.size = w.heap.size + 1 by simp] at hy
 have HY0 := Lib.hid hy
 have HS : Hid (standsF ⟨xa, xb, xc⟩ ⟨yk, yn, ys⟩ = (mayF yk yn ys && (yk == xb || (yk == 0 && xc)))) := rfl
 clear hy
 go_enter Tryz.func94, Tryz.ntmps94
 go_wp2_with fail
 refine (refMay_any yk yn ys _ hs).mono ?_
 rintro e w1 ⟨rfl, hb1⟩
 have HB1 := Lib.hid (HB0.out.trans (hb1.out.mono HB0.out.size))
 have HX1 := Lib.hid (HX0.out.below hb1.out HX0.out.lt)
 have HY1 := Lib.hid (HY0.out.below hb1.out HY0.out.lt)
 clear hb1 HX0 HY0 HB0
 have x1 : w1.cell? ⟨w.heap.size, 1, none⟩ = some (.int .i64 xb) := HX1.out.cell 1
 have x2 : w1.cell? ⟨w.heap.size, 2, none⟩ = some (.bool xc) := HX1.out.cell 2
 have y0 : w1.cell? ⟨w.heap.size + 1, 0, none⟩ = some (.int .i64 yk) := HY1.out.cell 0
 generalize mayF yk yn ys = q at *
 cases q
 ·go_wp2_with fail
  go_ret
  exact ⟨by rw [HS.out]; rfl, HB1⟩
 ·by_cases hk : yk = xb
  ·subst hk
   go_wp2_with fail
   go_ret
   exact ⟨by rw [HS.out]; simp, HB1⟩
  ·have hq : (yk == xb) = false := by simp [hk]
   by_cases h0 : yk = 0
   ·subst h0
    go_wp2_with fail
    go_ret
    exact ⟨by rw [HS.out, hq]; simp, HB1⟩
   ·have hq0 : (yk == 0) = false := by simp [h0]
    go_wp2_with fail
    go_ret
    exact ⟨by rw [HS.out, hq, hq0]; rfl, HB1⟩
set_option maxHeartbeats 4000000 in
set_option maxRecDepth 100000 in
theorem refFits_any (A : Option Addr) (M : List Cl) (n c : Nat) (K : Int) (Ar : Option Addr) (R : List Vl) (nr cr : Nat) (w : World) (hn : M.length = n) (hl : n ≤ 900) (hA : CRow w A M) (hnr : R.length = nr) (hR : VRow w Ar R) (hf : ∀ x ∈ R, x.fit) :
 Calls Tryz.prog 61 #[.agg #[.slice A n c, .int .i64 K], .slice Ar nr cr] w fun e w' => e = .returned (.bool (fitsF M R)) ∧ Hid (Below w.heap.size w w') := by
 have HN := Lib.hid hn
 have HA := Lib.hid hA
 have HNR := Lib.hid hnr
 have HR := Lib.hid hR
 have HF := Lib.hid hf
 have HB0 := Lib.hid ((Below.refl w.heap.size w).alloc (Nat.le_refl _) (.cells #[.slice A n c, .int .i64 K] 39))
 have HS0 := Lib.hid (Has.new w 39 #[.slice A n c, .int .i64 K])
 clear hn hA hnr hR hf
 by_cases hnn : nr = n
 ·subst hnn
  have HC : Hid (fitsF M R = fitsTo M R nr) := by show _ = _; unfold fitsF; rw [HN.out, HNR.out]; simp
  go_enter Tryz.func61, Tryz.ntmps61
  go_wp2_with fail
  go_loopw [5] (fun i wr => ∃ k : Nat, k ≤ nr ∧ i = .int .i64 k ∧ Hid (fitsTo M R k = true) ∧ Hid (Below w.heap.size w wr) ∧ Hid (Has wr w.heap.size 39 #[.slice A nr c, .int .i64 K])) (fun i _ => nr - (intOf i).toNat)
  case atStart => exact ⟨0, by omega, rfl, rfl, HB0.out, HS0.out⟩
  case round =>
   obtain ⟨k, hk, rfl, HT, HB, HS⟩ := hrel
   by_cases hlt : k < nr
   ·have hkl : k < M.length := by rw [HN.out]; exact hlt
    have hkr : k < R.length := by rw [HNR.out]; exact hlt
    obtain ⟨b, off, rfl, hc⟩ := (HA.out.below HB.out) (by intro e; rw [e] at hkl; simp at hkl)
    obtain ⟨b', off', rfl, hc'⟩ := (HR.out.below HB.out) (by intro e; rw [e] at hkr; simp at hkr)
    obtain ⟨c0, c1, c2⟩ := hc k hkl
    obtain ⟨d0, d1, d2⟩ := hc' k hkr
    have hfit := (HF.out R[k] (List.getElem_mem hkr)).2.2
    have HSU := Lib.hid (fitsTo_succ M R k hkl hkr)
    have HFA := Lib.hid (fitsTo_false M R k nr hlt hkl hkr)
    clear hc hc'
    generalize M[k] = x at *
    generalize R[k] = y at *
    obtain ⟨xa, xb, xc⟩ := x
    obtain ⟨yk, yn, ys⟩ := y
    simp only at c0 c1 c2 d0 d1 d2 hfit
    have a0 : wr.cell? ⟨w.heap.size, 0, none⟩ = some (.slice (some ⟨b, off, none⟩) nr c) := HS.out.cell 0
    have HCS := Lib.hid (fun W => stands_any xa xb xc yk yn ys W hfit)
    have hkz : (k : Int) < (nr : Int) := by omega
    have hk0 : (0 : Int) ≤ (k : Int) := by omega
    have hBD : Hid (Below wr.heap.size wr wr.drew) := (Below.refl _ wr).drew
    have hbw : Hid (Below w.heap.size w wr.drew) := HB.out.drew
    cases hq : standsF ⟨xa, xb, xc⟩ ⟨yk, yn, ys⟩
    ·go_wp2_with fail
     go_region_held3 (fun W => Hid (Below w.heap.size w W) ∧ W.cell? ⟨w.heap.size, 0, none⟩ = some (.slice (some ⟨b, off, none⟩) nr c) ∧ W.cell? ⟨b, off + k * 3, none⟩ = some (.string xa) ∧ W.cell? ⟨b, off + k * 3 + 1, none⟩ = some (.int .i64 xb) ∧ W.cell? ⟨b, off + k * 3 + 2, none⟩ = some (.bool xc) ∧ W.cell? ⟨b', off' + k * 3, none⟩ = some (.int .i64 yk) ∧ W.cell? ⟨b', off' + k * 3 + 1, none⟩ = some (.int .i64 yn) ∧ W.cell? ⟨b', off' + k * 3 + 2, none⟩ = some (.string ys)) ((refine ⟨by assumption, ?_⟩; go_keep))
      (first | (go_at_call 94; refine (HCS.out _).mono ?_; rintro e x1 ⟨rfl, hb1⟩; rw [hq]; have hbx := Lib.hid (hBD.out.trans (hb1.out.mono hBD.out.size)); have hby := Lib.hid (HB.out.trans (hbx.out.mono HB.out.size)); have za0 := keepC hbx.out a0; have zc0 := keepC hbx.out c0; have zc1 := keepC hbx.out c1; have zc2 := keepC hbx.out c2; have zd0 := keepC hbx.out d0; have zd1 := keepC hbx.out d1; have zd2 := keepC hbx.out d2; clear hb1))
     all_goals
      go_wp2_with fail
      go_ret
      exact ⟨by rw [HC.out, HFA.out hq]; rfl, hby⟩
    ·go_wp2_with fail
     go_region_held3 (fun W => Hid (Below w.heap.size w W) ∧ W.cell? ⟨w.heap.size, 0, none⟩ = some (.slice (some ⟨b, off, none⟩) nr c) ∧ W.cell? ⟨b, off + k * 3, none⟩ = some (.string xa) ∧ W.cell? ⟨b, off + k * 3 + 1, none⟩ = some (.int .i64 xb) ∧ W.cell? ⟨b, off + k * 3 + 2, none⟩ = some (.bool xc) ∧ W.cell? ⟨b', off' + k * 3, none⟩ = some (.int .i64 yk) ∧ W.cell? ⟨b', off' + k * 3 + 1, none⟩ = some (.int .i64 yn) ∧ W.cell? ⟨b', off' + k * 3 + 2, none⟩ = some (.string ys)) ((refine ⟨by assumption, ?_⟩; go_keep))
      (first | (go_at_call 94; refine (HCS.out _).mono ?_; rintro e x1 ⟨rfl, hb1⟩; rw [hq]; have hbx := Lib.hid (hBD.out.trans (hb1.out.mono hBD.out.size)); have hby := Lib.hid (HB.out.trans (hbx.out.mono HB.out.size)); have za0 := keepC hbx.out a0; have zc0 := keepC hbx.out c0; have zc1 := keepC hbx.out c1; have zc2 := keepC hbx.out c2; have zd0 := keepC hbx.out d0; have zd1 := keepC hbx.out d1; have zd2 := keepC hbx.out d2; clear hb1))
     all_goals
      go_wp2_with fail
      go_roundw
      case rel => exact ⟨k + 1, by omega, by go_num, by show _ = _; rw [HSU.out, HT.out, hq]; rfl, hby, HS.out.below hbx.out HS.out.lt⟩
      case measure => simp [intOf]; omega
   ·obtain rfl : k = nr := by omega
    go_wp2_with fail
    go_ret
    exact ⟨by rw [HC.out, HT.out]; rfl, HB⟩
 ·have HC : Hid (fitsF M R = false) := by show _ = _; unfold fitsF; rw [HN.out, HNR.out]; simp [hnn]
  have hq : ((nr : Int) != (n : Int)) = true := by simp; omega
  go_enter Tryz.func61, Tryz.ntmps61
  go_wp2_with fail
  go_ret
  exact ⟨by rw [HC.out]; rfl, HB0⟩
theorem rowF_len (M : List Cl) (R : List Vl) : (rowF M R).length = M.length := rowTo_len _ _ _
theorem rowF_get (M : List Cl) (R : List Vl) (i : Nat) (h : i < M.length) : (rowF M R)[i]'(by rw [rowF_len]; exact h) = rowOf M[i] (R.getD i vlNil) := by
 unfold rowF rowTo
 rw [List.getElem_map, List.getElem_range]
 unfold rowAt
 rw [List.getElem?_eq_getElem h]
theorem rowOf_fit (c : Cl) (v : Vl) (h0 : 1 ≤ c.k) (h1 : c.k ≤ 4) (hv : v.fits) : (rowOf c v).fits := by
 unfold rowOf
 split
 ·exact ⟨⟨by simp [vlNil], by simp [vlNil], by simp [vlNil, empty_zero]⟩, by simp [vlNil], by simp [vlNil]⟩
 ·exact good_fits _ ⟨hv.1, by show _ ≤ c.k; omega, by show c.k ≤ _; omega⟩
theorem nil_fits : vlNil.fits := ⟨⟨by simp [vlNil], by simp [vlNil], by simp [vlNil, empty_zero]⟩, by simp [vlNil], by simp [vlNil]⟩
theorem rowF_fit (M : List Cl) (R : List Vl) (hM : ∀ c ∈ M, 1 ≤ c.k ∧ c.k ≤ 4) (hR : ∀ v ∈ R, v.fits) : ∀ x ∈ rowF M R, x.fits := fun x hx => by
 obtain ⟨i, hi, rfl⟩ := List.getElem_of_mem hx
 have hi' : i < M.length := by rw [rowF_len] at hi; exact hi
 rw [rowF_get M R i hi']
 have h := hM M[i] (List.getElem_mem hi')
 refine rowOf_fit _ _ h.1 h.2 ?_
 rw [List.getD_eq_getElem?_getD]
 cases hh : R[i]? with
 | none => exact nil_fits
 | some v => exact hR v (List.mem_of_getElem? hh)
end Go.Proofs.YtlnbhlgkehenpaaGreatDoor
