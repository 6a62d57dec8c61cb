/-
  Put together, as far as it is used: Mb, PtZ, WvN, WvR, WvX, Col, Qa, Qb, Qc, Qd, Qf, Qj, Qe, WvW, WvE.
-/
import Derived.Test.YtlhfdhmmdnkojaaGreatDoorSac
import Derived.Test.YtlhfdhmmdnkojaaGreatDoorSab
import Derived.RegionTactic
import Derived.Deep.QuietTactic
import Derived.BigQuiet
import Derived.Lib.ValidLaws
import Derived.Lib.AppendZerosOnto
import Derived.Laws.AppendOwnNone
import Derived.Deep.RegionHeld3
import Derived.Test.YtlhfdhmmdnkojaaGreatDoorShelf
import Derived.Laws.ResultCell
import Derived.OwnWalk
import Derived.Maps.AppendAt
import Derived.Laws.OwnMore
namespace Go.Proofs.YtlhfdhmmdnkojaaGreatDoor
open Go.RowKit Dg
set_option maxRecDepth 100000
/-- A work's bytes; those of works; a point's. -/
def wkB (x : Wk) : List Nat := ytxt x.t ++ ([if x.d then 1 else 0] ++ ytxt x.k)
def worksB (T : List Wk) (k : Nat) : List Nat := (T.take k).flatMap wkB
def numsB (x y z n : Nat) : List Nat := digs x ++ digs y ++ digs z ++ digs n
def ptB (x y z : Int) (T : List Wk) : List Nat := numsB x.toNat y.toNat z.toNat T.length ++ worksB T T.length
theorem worksB_succ (T : List Wk) (k : Nat) (h : k < T.length) : worksB T (k + 1) = worksB T k ++ wkB T[k] := by
  unfold worksB
  rw [List.take_succ_eq_append_getElem h, List.flatMap_append]
  simp
theorem txt_len (s : ByteArray) (h : s.size ≤ 900) : (ytxt s).length ≤ 910 := by
  unfold ytxt; rw [List.length_append, sb_length]; have := digs_le_ten s.size (by omega); omega
theorem wkB_len {x : Wk} (h : x.t.size ≤ 40 ∧ x.k.size ≤ 40) : (wkB x).length ≤ 1821 := by
  unfold wkB
  have h1 := txt_len x.t (by omega)
  have h2 := txt_len x.k (by omega)
  simp only [List.length_append, List.length_singleton]
  omega
theorem worksB_len {T : List Wk} (h : Short T) (k : Nat) (hk : k ≤ T.length) : (worksB T k).length ≤ 1821 * k := by
  induction k with
  | zero => simp [worksB]
  | succ k ih =>
    rw [worksB_succ T k (by omega), List.length_append]
    have h1 := ih (by omega)
    have h2 := wkB_len (h T[k] (List.getElem_mem (by omega)))
    omega
theorem numsB_len (x y z n : Nat) (hx : x < 9223372036854775808) (hy : y < 9223372036854775808) (hz : z < 9223372036854775808) (hn : n < 9223372036854775808) : (numsB x y z n).length ≤ 40 := by
  unfold numsB
  have h1 := digs_le_ten x (by omega)
  have h2 := digs_le_ten y (by omega)
  have h3 := digs_le_ten z (by omega)
  have h4 := digs_le_ten n (by omega)
  simp only [List.length_append]
  omega
/-- The first k of a point's four numbers. -/
def fourN (x y z n : Nat) (k : Nat) : Nat := if k = 0 then x else if k = 1 then y else if k = 2 then z else n
def fourB (x y z n : Nat) (k : Nat) : List Nat := (List.range k).flatMap fun i => digs (fourN x y z n i)
theorem fourB_succ (x y z n k : Nat) : fourB x y z n (k + 1) = fourB x y z n k ++ digs (fourN x y z n k) := by
  unfold fourB; rw [List.range_succ, List.flatMap_append]; simp
theorem fourB_all (x y z n : Nat) : fourB x y z n 4 = numsB x y z n := by
  simp [fourB, numsB, fourN, List.range_succ]
theorem fourB_len (x y z n k : Nat) (hx : x < 9223372036854775808) (hy : y < 9223372036854775808) (hz : z < 9223372036854775808) (hn : n < 9223372036854775808) (hk : k ≤ 4) : (fourB x y z n k).length ≤ 10 * k := by
  induction k with
  | zero => simp [fourB]
  | succ k ih =>
    rw [fourB_succ, List.length_append]
    have h1 := ih (by omega)
    have h2 : fourN x y z n k < 9223372036854775808 := by unfold fourN; split; exact hx; split; exact hy; split <;> assumption
    have h3 := digs_le_ten (fourN x y z n k) (by omega)
    omega
theorem num0_any (n : Nat) (w : World) (hn : (n : Int) ≤ 9223372036854775807) : Calls Tryz.prog 54 #[.slice none 0 0, .int .i64 n] w fun e w' => ∃ A m c, e = .returned (.slice A m c) ∧ Hid ((digs n).length = m) ∧ Hid (Rd w' A (digs n)) ∧ Hid (A = none → c = 0) ∧ Hid (Below w.heap.size w w') := by
  refine (yNumber_any none [] 0 n w (Nat.le_refl _) (Rd.nil _ _) (by simp) hn).mono ?_
  rintro e w' ⟨v, rfl, A, c, rfl, hc, hr, hb⟩
  rw [List.nil_append] at hr hc ⊢
  refine ⟨A, _, c, rfl, rfl, hr, fun e => ?_, hb⟩
  have hp := digs_pos n
  obtain ⟨b, off, e2, _⟩ := hr (by intro h; rw [h] at hp; simp at hp)
  rw [e] at e2; cases e2
theorem txt0_any (s : ByteArray) (w : World) (hs : s.size ≤ 900) : Calls Tryz.prog 51 #[.slice none 0 0, .string s] w fun e w' => ∃ A m c, e = .returned (.slice A m c) ∧ Hid ((ytxt s).length = m) ∧ Hid (Rd w' A (ytxt s)) ∧ Hid (A = none → c = 0) ∧ Hid (Below w.heap.size w w') := by
  refine (yText_any none [] 0 s w (Nat.le_refl _) (Rd.nil _ _) (by simp) (by omega)).mono ?_
  rintro e w' ⟨v, rfl, A, c, rfl, hc, hr, hb⟩
  have e1 : ([] : List Nat) ++ (digs s.size ++ sb s) = ytxt s := by unfold ytxt; simp
  rw [e1] at hr hc ⊢
  refine ⟨A, _, c, rfl, rfl, hr, fun e => ?_, hb⟩
  have hp := ytxt_pos s
  obtain ⟨b, off, e2, _⟩ := hr (by intro h; rw [h] at hp; simp at hp)
  rw [e] at e2; cases e2
set_option maxHeartbeats 1000000 in
theorem flag_any11 (d : Bool) (w : World) : Calls Tryz.prog 134 #[.bool d] w fun e w' => e = .returned (.int .u8 (if d then 1 else 0)) ∧ w' = w := by
  cases d
  all_goals
    go_enter Tryz.func134, Tryz.ntmps134
    go_wp2_with fail
    go_ret
    exact ⟨rfl, rfl⟩
end Go.Proofs.YtlhfdhmmdnkojaaGreatDoor
namespace Go.Proofs.YtlhfdhmmdnkojaaGreatDoor
open Go.RowKit Dg
set_option maxRecDepth 100000
theorem own_appK (w : World) (B : Nat) (v : Value) (l : List Nat) (h : Own B w v l) (hB : B ≤ w.heap.size) (A : Option Addr) (m : List Nat) (k c : Nat) (hk : m.length = k) (hm : Rd w A m) (hs : l.length + k ≤ 1000000) (hA : A = none → c = 0) :
    ∃ R W', (Builtin.append_ #[37, 37] 37 #[v, .slice A k c]).run Tryz.prog w = .ok R W' ∧ Own B W' R (l ++ m) ∧ Below B w W' ∧ Kept w W' := by
  subst hk
  obtain ⟨i0, hi, hz0, hz1, hz2⟩ := info_parts info5
  rcases A with _ | a
  · have hl : m = [] := by
      rcases m with _ | ⟨x, m⟩
      · rfl
      · obtain ⟨b, off, e, _⟩ := hm (by simp)
        cases e
    subst hl
    rw [hA rfl, List.append_nil]
    exact ⟨v, w, run_append_owned_none w B 37 37 5 i0 1 Tryz.underlying37 hi v _ _ h, h, Below.refl _ _, fun _ _ _ _ hh => hh⟩
  · have hc : ∀ j u, (m.map bv)[j]? = some u → w.cell? (a.add j) = some u := by
      intro j u hj
      have hjl : j < m.length := by
        have := (List.getElem?_eq_some_iff.1 hj).1
        simpa using this
      obtain ⟨b, off, e, hc⟩ := hm (by rintro rfl; simp at hjl)
      injection e with e
      subst e
      rw [Addr.add_lit, hc j hjl]
      simpa [hjl] using hj
    obtain ⟨R, W', hrun, hown, hg, _⟩ := run_append_own (P := Tryz.prog) w B 37 37 5 i0 (.int .u8 0) 1 1 Tryz.underlying37 hi hz0 hz1 hz2 rfl (by decide) v l.length (l.map bv) h a m.length c (m.map bv) (by simp) hc (bv_one m) (by unfold maxLen; omega) (by omega) hB
    refine ⟨R, W', hrun, ?_, (Below.refl B w).grown hg hB fun k hk => (World.ownsRow.lt h k hk).1, ?_⟩
    · unfold Own; rw [List.map_append, List.length_append]; exact hown
    · intro g t cs ht hh
      refine (hg.block g hh.lt fun e => ?_).trans hh
      rcases h.2 with ⟨hv, _⟩ | ⟨g', cap, cur, hv, _, hc2, _⟩
      · rw [hv] at e; cases e
      · rw [hv] at e
        have e2 : g = g' := by simpa [Value.ownBlock] using e
        subst e2
        unfold Has at hh
        rw [hc2] at hh
        simp at hh
        exact ht hh.2.symm
theorem idx4 (a b c d : Int) (w : World) :
    (Instr.index 175 (.agg #[.int .i64 a, .int .i64 b, .int .i64 c, .int .i64 d]) (.int .i64 0)).run Tryz.prog w = .ok (.int .i64 a) w ∧ (Instr.index 175 (.agg #[.int .i64 a, .int .i64 b, .int .i64 c, .int .i64 d]) (.int .i64 1)).run Tryz.prog w = .ok (.int .i64 b) w ∧
    (Instr.index 175 (.agg #[.int .i64 a, .int .i64 b, .int .i64 c, .int .i64 d]) (.int .i64 2)).run Tryz.prog w = .ok (.int .i64 c) w ∧ (Instr.index 175 (.agg #[.int .i64 a, .int .i64 b, .int .i64 c, .int .i64 d]) (.int .i64 3)).run Tryz.prog w = .ok (.int .i64 d) w := by
  refine ⟨?_, ?_, ?_, ?_⟩
  · simp [Instr.index, run_underlying Tryz.underlying175, asIntOf, go_sem]
  · simp [Instr.index, run_underlying Tryz.underlying175, asIntOf, go_sem]
  · simp [Instr.index, run_underlying Tryz.underlying175, asIntOf, go_sem]
  · simp [Instr.index, run_underlying Tryz.underlying175, asIntOf, go_sem]
theorem flag_lit (w : World) : (Calls Tryz.prog 134 #[.bool true] w fun e w' => e = .returned (.int .u8 1) ∧ w' = w) ∧ (Calls Tryz.prog 134 #[.bool false] w fun e w' => e = .returned (.int .u8 0) ∧ w' = w) :=
  ⟨flag_any11 true w, flag_any11 false w⟩
theorem Kept.has {w w' : World} (h : Kept w w') {g : Nat} {t : TypeId} {cs : Array Value} (hh : Has w g t cs) (ht : t ≠ 5) : Has w' g t cs := h g t cs ht hh
set_option maxHeartbeats 16000000 in
theorem pwrite_any {B : Nat} {A : Option Addr} {n c : Nat} {T : List Wk} (x y z : Int) (w : World) (h : OwnW B w (.slice A n c) T) (hsh : Short T) (hl : T.length ≤ 6) (hx : x ≤ 9223372036854775807) (hy : y ≤ 9223372036854775807) (hz : z ≤ 9223372036854775807) (hT : Tabs w) :
    Calls Tryz.prog 80 #[.agg #[.int .i64 x, .int .i64 y, .int .i64 z, .slice A n c]] w fun e w' => ∃ v, e = .returned (.tuple #[v, .int .i64 (if ptOk x y z T then 0 else 1)]) ∧ Hid (Own w.heap.size w' v (if ptOk x y z T then ptB x y z T else [])) ∧ Hid (Below w.heap.size w w') := by
  have hb0 : Below w.heap.size w (w.alloc (.cells #[.int .i64 x, .int .i64 y, .int .i64 z, .slice A n c] 67)) := (Below.refl _ w).alloc (Nat.le_refl _) _
  have HMY := Lib.hid (pptmay_any x y z _ (h.below hb0) (by omega) (fun x hx => by have := hsh x hx; omega) (hT.below hb0))
  have HX0 := Lib.hid (Has.new w 67 #[.int .i64 x, .int .i64 y, .int .i64 z, .slice A n c])
  have HB0 := Lib.hid hb0
  obtain ⟨A2, n2, c2, e2, HN, hnc, hcm, HR, HZ⟩ := ownW_open h
  obtain ⟨rfl, rfl, rfl⟩ := slice_inj e2
  have HSH := Lib.hid hsh
  clear h hT hb0 hsh e2
  unfold maxLen at hcm
  cases hok : ptOk x y z T
  · rw [hok] at HMY
    go_enter Tryz.func80, Tryz.ntmps80
    have x0 := HX0.out.cell 0
    have x1 := HX0.out.cell 1
    have x2 := HX0.out.cell 2
    have x3 := HX0.out.cell 3
    simp at x0 x1 x2 x3
    go_wp2_with fail
    refine HMY.out.mono ?_
    rintro e w1 ⟨rfl, hb1⟩
    have HB1 := Lib.hid (HB0.out.trans (hb1.out.mono HB0.out.size))
    clear x0 x1 x2 x3
    go_wp2_with fail
    go_ret2
    exact ⟨_, rfl, own_nil _ _, HB1⟩
  · rw [hok] at HMY
    have hpos : 0 ≤ x ∧ 0 ≤ y ∧ 0 ≤ z := by
      unfold ptOk at hok
      simp only [Bool.and_eq_true, decide_eq_true_eq] at hok
      exact ⟨hok.1.1.1, hok.1.1.2, hok.1.2⟩
    obtain ⟨h0, h1, h2⟩ := hpos
    obtain ⟨X, rfl⟩ : ∃ X : Nat, x = (X : Int) := ⟨x.toNat, by omega⟩
    obtain ⟨Y, rfl⟩ : ∃ Y : Nat, y = (Y : Int) := ⟨y.toNat, by omega⟩
    obtain ⟨Z, rfl⟩ : ∃ Z : Nat, z = (Z : Int) := ⟨z.toNat, by omega⟩
    have HPB : Hid (ptB (X : Int) (Y : Int) (Z : Int) T = numsB X Y Z n ++ worksB T n) := by show _ = _; unfold ptB; rw [HN.out]; rfl
    have hn6 : n ≤ 6 := by have := HN.out; omega
    clear hok
    generalize ptB (X : Int) (Y : Int) (Z : Int) T = PB at *
    go_enter Tryz.func80, Tryz.ntmps80
    have x0 := HX0.out.cell 0
    have x1 := HX0.out.cell 1
    have x2 := HX0.out.cell 2
    have x3 := HX0.out.cell 3
    simp at x0 x1 x2 x3
    go_wp2_with fail
    refine HMY.out.mono ?_
    rintro e w1 ⟨rfl, hb1⟩
    have HB1 := Lib.hid (HB0.out.trans (hb1.out.mono HB0.out.size))
    have HX1 := Lib.hid (HX0.out.below hb1.out HX0.out.lt)
    have hs1 : w.heap.size + 1 ≤ w1.heap.size := by have := hb1.out.size; simpa using this
    clear x0 x1 x2 x3 hb1 HX0 HB0 HMY
    have x0 : w1.cell? ⟨w.heap.size, 0, none⟩ = some (.int .i64 (X : Int)) := HX1.out.cell 0
    have x1 : w1.cell? ⟨w.heap.size, 1, none⟩ = some (.int .i64 (Y : Int)) := HX1.out.cell 1
    have x2 : w1.cell? ⟨w.heap.size, 2, none⟩ = some (.int .i64 (Z : Int)) := HX1.out.cell 2
    have x3 : w1.cell? ⟨w.heap.size, 3, none⟩ = some (.slice A n c) := HX1.out.cell 3
    go_wp2_with fail
    clear x0 x1 x2 x3
    go_loopw [4, 22] (fun b i wr => ∃ (k : Nat) (u : Value), k ≤ 4 ∧ i = .int .i64 k ∧ u = b ∧ Hid (Own (w.heap.size + 1) wr u (fourB X Y Z n k)) ∧ Hid (Below (w.heap.size + 1) w1 wr)) (fun _ i _ => 4 - (intOf i).toNat)
    case atStart => exact ⟨0, _, by omega, rfl, rfl, own_nil _ _, Below.refl _ _⟩
    case round =>
      obtain ⟨k, u, hk, rfl, rfl, HO, HB⟩ := hrel
      by_cases hk4 : k < 4
      · have HSU := Lib.hid (fourB_succ X Y Z n k)
        have HLE := Lib.hid (fourB_len X Y Z n k (by omega) (by omega) (by omega) (by omega) (by omega))
        generalize fourB X Y Z n k = M at *
        have hkk : k = 0 ∨ k = 1 ∨ k = 2 ∨ k = 3 := by omega
        have hix := fun (W : World) => idx4 (X : Int) (Y : Int) (Z : Int) (n : Int) W
        obtain ⟨hi0, hi1, hi2, hi3⟩ : (∀ W, _) ∧ (∀ W, _) ∧ (∀ W, _) ∧ (∀ W, _) := ⟨fun W => (hix W).1, fun W => (hix W).2.1, fun W => (hix W).2.2.1, fun W => (hix W).2.2.2⟩
        clear hix
        rcases hkk with rfl | rfl | rfl | rfl
        · go_wp2_with fail
          refine (num0_any X wr (by omega)).mono ?_
          rintro e w3 ⟨A3, m3, c3, rfl, hm3, hr3, hz3, hb3⟩
          have hOO : Own (w.heap.size + 1) w3 u M := HO.out.below hb3.out
          obtain ⟨R4, W4, hrun4, ho4, hb4, _⟩ := own_appK w3 (w.heap.size + 1) u M hOO (Nat.le_trans hs1 (Nat.le_trans HB.out.size hb3.out.size)) A3 (digs X) m3 c3 hm3.out hr3.out (by have := HLE.out; have := hm3.out; have := digs_le_ten X (by omega); omega) hz3.out
          have HO4 : Hid (Own (w.heap.size + 1) W4 R4 (fourB X Y Z n (0 + 1))) := by show Own _ _ _ _; rw [HSU.out]; exact ho4
          have HB4 := Lib.hid ((HB.out.trans (hb3.out.mono (Nat.le_trans hs1 HB.out.size))).trans hb4)
          clear ho4 hb4 hOO hb3
          go_wp2_with (at_builtin; refine wpList_app rfl _ _ 37 37 rfl u (.slice A3 m3 c3) rfl rfl ⟨_, _, hrun4, ?_⟩)
          go_roundw
          case rel => exact ⟨0 + 1, R4, by omega, by go_num, rfl, HO4.out, HB4.out⟩
          case measure => simp [intOf]
        · go_wp2_with fail
          refine (num0_any Y wr (by omega)).mono ?_
          rintro e w3 ⟨A3, m3, c3, rfl, hm3, hr3, hz3, hb3⟩
          have hOO : Own (w.heap.size + 1) w3 u M := HO.out.below hb3.out
          obtain ⟨R4, W4, hrun4, ho4, hb4, _⟩ := own_appK w3 (w.heap.size + 1) u M hOO (Nat.le_trans hs1 (Nat.le_trans HB.out.size hb3.out.size)) A3 (digs Y) m3 c3 hm3.out hr3.out (by have := HLE.out; have := hm3.out; have := digs_le_ten Y (by omega); omega) hz3.out
          have HO4 : Hid (Own (w.heap.size + 1) W4 R4 (fourB X Y Z n (1 + 1))) := by show Own _ _ _ _; rw [HSU.out]; exact ho4
          have HB4 := Lib.hid ((HB.out.trans (hb3.out.mono (Nat.le_trans hs1 HB.out.size))).trans hb4)
          clear ho4 hb4 hOO hb3
          go_wp2_with (at_builtin; refine wpList_app rfl _ _ 37 37 rfl u (.slice A3 m3 c3) rfl rfl ⟨_, _, hrun4, ?_⟩)
          go_roundw
          case rel => exact ⟨1 + 1, R4, by omega, by go_num, rfl, HO4.out, HB4.out⟩
          case measure => simp [intOf]
        · go_wp2_with fail
          refine (num0_any Z wr (by omega)).mono ?_
          rintro e w3 ⟨A3, m3, c3, rfl, hm3, hr3, hz3, hb3⟩
          have hOO : Own (w.heap.size + 1) w3 u M := HO.out.below hb3.out
          obtain ⟨R4, W4, hrun4, ho4, hb4, _⟩ := own_appK w3 (w.heap.size + 1) u M hOO (Nat.le_trans hs1 (Nat.le_trans HB.out.size hb3.out.size)) A3 (digs Z) m3 c3 hm3.out hr3.out (by have := HLE.out; have := hm3.out; have := digs_le_ten Z (by omega); omega) hz3.out
          have HO4 : Hid (Own (w.heap.size + 1) W4 R4 (fourB X Y Z n (2 + 1))) := by show Own _ _ _ _; rw [HSU.out]; exact ho4
          have HB4 := Lib.hid ((HB.out.trans (hb3.out.mono (Nat.le_trans hs1 HB.out.size))).trans hb4)
          clear ho4 hb4 hOO hb3
          go_wp2_with (at_builtin; refine wpList_app rfl _ _ 37 37 rfl u (.slice A3 m3 c3) rfl rfl ⟨_, _, hrun4, ?_⟩)
          go_roundw
          case rel => exact ⟨2 + 1, R4, by omega, by go_num, rfl, HO4.out, HB4.out⟩
          case measure => simp [intOf]
        · go_wp2_with fail
          refine (num0_any n wr (by omega)).mono ?_
          rintro e w3 ⟨A3, m3, c3, rfl, hm3, hr3, hz3, hb3⟩
          have hOO : Own (w.heap.size + 1) w3 u M := HO.out.below hb3.out
          obtain ⟨R4, W4, hrun4, ho4, hb4, _⟩ := own_appK w3 (w.heap.size + 1) u M hOO (Nat.le_trans hs1 (Nat.le_trans HB.out.size hb3.out.size)) A3 (digs n) m3 c3 hm3.out hr3.out (by have := HLE.out; have := hm3.out; have := digs_le_ten n (by omega); omega) hz3.out
          have HO4 : Hid (Own (w.heap.size + 1) W4 R4 (fourB X Y Z n (3 + 1))) := by show Own _ _ _ _; rw [HSU.out]; exact ho4
          have HB4 := Lib.hid ((HB.out.trans (hb3.out.mono (Nat.le_trans hs1 HB.out.size))).trans hb4)
          clear ho4 hb4 hOO hb3
          go_wp2_with (at_builtin; refine wpList_app rfl _ _ 37 37 rfl u (.slice A3 m3 c3) rfl rfl ⟨_, _, hrun4, ?_⟩)
          go_roundw
          case rel => exact ⟨3 + 1, R4, by omega, by go_num, rfl, HO4.out, HB4.out⟩
          case measure => simp [intOf]
      · obtain rfl : k = 4 := by omega
        rw [show ((4 : Nat) : Int) = 4 from rfl]
        have HF := Lib.hid (fourB_all X Y Z n)
        have HNL := numsB_len X Y Z n (by omega) (by omega) (by omega) (by omega)
        have HX2 := Lib.hid (HX1.out.below HB.out (by omega))
        have x3 : wr.cell? ⟨w.heap.size, 3, none⟩ = some (.slice A n c) := HX2.out.cell 3
        rw [HF.out] at HO
        obtain ⟨wo, rfl⟩ : ∃ wo : World, wo = wr := ⟨_, rfl⟩
        have HBX := Lib.hid (HB1.out.trans (HB.out.mono (by omega)))
        have hso : w.heap.size + 1 ≤ wo.heap.size := Nat.le_trans hs1 HB.out.size
        have HRO := Lib.hid (HR.out.below HBX.out)
        generalize numsB X Y Z n = NB at *
        go_wp2_with fail
        clear x3
        go_loopw [4, 33] (fun b i wx => ∃ (k : Nat) (u : Value), k ≤ n ∧ i = .int .i64 k ∧ u = b ∧ Hid (Own (w.heap.size + 1) wx u (NB ++ worksB T k)) ∧ Hid (Below (w.heap.size + 1) wo wx)) (fun _ i _ => n - (intOf i).toNat)
        case atStart => exact ⟨0, _, by omega, rfl, rfl, by show Own _ _ _ _; simpa [worksB] using HO.out, Below.refl _ _⟩
        case round =>
          obtain ⟨k, u2, hkn, rfl, rfl, HO2, HB2⟩ := hrel
          have HW2 := Lib.hid (HBX.out.trans (HB2.out.mono (by omega)))
          by_cases hkl : k < n
          · have hkt : k < T.length := by rw [HN.out]; exact hkl
            obtain ⟨b, off, rfl, hc0⟩ := (HR.out.below HW2.out) (by intro e; rw [e] at hkt; simp at hkt)
            obtain ⟨c0, c1, c2⟩ := hc0 k hkt
            have HSU := Lib.hid (worksB_succ T k hkt)
            have HLE := Lib.hid (worksB_len HSH.out k (by omega))
            have hxs := HSH.out T[k] (List.getElem_mem hkt)
            have hkz : (k : Int) < (n : Int) := by omega
            clear hc0
            generalize worksB T k = M at *
            generalize T[k] = xk at *
            obtain ⟨xt, xd, xq⟩ := xk
            simp only at c0 c1 c2 hxs
            have ht1 := txt_len xt (by omega)
            have ht2 := txt_len xq (by omega)
            have HT1 := Lib.hid (fun W => txt0_any xt W (by omega))
            have HT2 := Lib.hid (fun W => txt0_any xq W (by omega))
            cases xd
            · have HWB : Hid (wkB ⟨xt, false, xq⟩ = ytxt xt ++ ([0] ++ ytxt xq)) := rfl
              obtain ⟨q, hq⟩ : ∃ q, wr.heap.size = q := ⟨_, rfl⟩
              have HQ := Lib.hid (Has.new wr 143 #[.string xt, .bool false, .string xq])
              have hba : Below wr.heap.size wr (wr.alloc (.cells #[.string xt, .bool false, .string xq] 143)) := (Below.refl _ wr).alloc (Nat.le_refl _) _
              have hO5 := HO2.out.below hba
              have hsr : w.heap.size + 1 ≤ wr.heap.size := Nat.le_trans hso HB2.out.size
              have HB5 := Lib.hid (HB2.out.trans (hba.mono hsr))
              go_wp2_with fail
              obtain ⟨W5, hW5⟩ : ∃ W, W = wr.alloc (.cells #[.string xt, .bool false, .string xq] 143) := ⟨_, rfl⟩
              rw [← hW5] at HQ hba hO5 HB5 ⊢
              have HO5 := Lib.hid hO5
              have hs5 : w.heap.size + 1 ≤ W5.heap.size := Nat.le_trans hsr hba.size
              clear hW5 hba hO5
              rw [hq] at HQ
              clear hq c0 c1 c2
              refine (HT1.out W5).mono ?_
              rintro e w6 ⟨A6, m6, c6, rfl, hm6, hr6, hz6, hb6⟩
              obtain ⟨R7, W7, hrun7, ho7, hb7, hk7⟩ := own_appK w6 (w.heap.size + 1) u2 (NB ++ M) (HO5.out.below hb6.out) (Nat.le_trans hs5 hb6.out.size) A6 (ytxt xt) m6 c6 hm6.out hr6.out (by rw [List.length_append]; have := HLE.out; have := hm6.out; omega) hz6.out
              have HO7 := Lib.hid ho7
              have HB7 := Lib.hid ((HB5.out.trans (hb6.out.mono hs5)).trans hb7)
              have HQ7 := Lib.hid (hk7.has (HQ.out.below hb6.out HQ.out.lt) (by decide))
              have hs7 : w.heap.size + 1 ≤ W7.heap.size := Nat.le_trans hso HB7.out.size
              have d1 : W7.cell? ⟨q, 1, none⟩ = some (.bool false) := HQ7.out.cell 1
              clear ho7 hb7 hk7 hb6 HB5 HO5 HQ
              have hlen7 : (NB ++ M ++ ytxt xt).length ≤ 12000 := by simp only [List.length_append]; have := HLE.out; omega
              have HA8 := Lib.hid (app_new W7 (w.heap.size + 1) R7 (NB ++ M ++ ytxt xt) [0] #[.int .u8 0] (by simp [bv]) 1 rfl HO7.out hs7 (by omega))
              obtain ⟨R8, W8, hrun8, ho8, hb8⟩ := HA8.out
              have hk8 := (app_at W7 W7.heap.size rfl (w.heap.size + 1) R7 (NB ++ M ++ ytxt xt) [0] #[.int .u8 0] (by simp [bv]) 1 rfl HO7.out hs7 (by omega))
              obtain ⟨R8b, W8b, hrun8b, _, _, hk8⟩ := hk8
              obtain ⟨rfl, rfl⟩ : R8b = R8 ∧ W8b = W8 := by rw [hrun8] at hrun8b; injection hrun8b with e1 e2; exact ⟨e1.symm, e2.symm⟩
              have HO8 := Lib.hid ho8
              have HB8 := Lib.hid (HB7.out.trans hb8)
              have HQ8 := Lib.hid (hk8.has HQ7.out (by decide))
              have hs8 : w.heap.size + 1 ≤ W8b.heap.size := Nat.le_trans hso HB8.out.size
              have d2 : W8b.cell? ⟨q, 2, none⟩ = some (.string xq) := HQ8.out.cell 2
              clear ho8 hb8 hk8 hrun8b HA8
              have HFL := Lib.hid ((flag_lit W7).2)
              go_wp2_with (at_builtin; refine wpList_app rfl _ _ 37 37 rfl u2 (.slice A6 m6 c6) rfl rfl ⟨_, _, hrun7, ?_⟩)
              refine HFL.out.mono ?_
              rintro e w9 ⟨rfl, rfl⟩
              go_wp2_with (at_builtin; refine wpList_app rfl _ _ 37 37 rfl R7 (.slice (some ⟨w9.heap.size, 0, none⟩) 1 1) rfl rfl ⟨_, _, hrun8, ?_⟩)
              refine (HT2.out _).mono ?_
              rintro e w10 ⟨A10, m10, c10, rfl, hm10, hr10, hz10, hb10⟩
              obtain ⟨R11, W11, hrun11, ho11, hb11, _⟩ := own_appK w10 (w.heap.size + 1) R8b (NB ++ M ++ ytxt xt ++ [0]) (HO8.out.below hb10.out) (Nat.le_trans hs8 hb10.out.size) A10 (ytxt xq) m10 c10 hm10.out hr10.out (by rw [List.length_append]; simp only [List.length_singleton]; have := hm10.out; omega) hz10.out
              have HO11 : Hid (Own (w.heap.size + 1) W11 R11 (NB ++ worksB T (k + 1))) := by show Own _ _ _ _; rw [HSU.out, HWB.out]; simpa [List.append_assoc] using ho11
              have HB11 := Lib.hid ((HB8.out.trans (hb10.out.mono hs8)).trans hb11)
              clear ho11 hb11 hb10
              go_wp2_with (at_builtin; refine wpList_app rfl _ _ 37 37 rfl R8b (.slice A10 m10 c10) rfl rfl ⟨_, _, hrun11, ?_⟩)
              go_roundw
              case rel => exact ⟨k + 1, R11, by omega, by go_num, rfl, HO11.out, HB11.out⟩
              case measure => simp [intOf]; omega
            · have HWB : Hid (wkB ⟨xt, true, xq⟩ = ytxt xt ++ ([1] ++ ytxt xq)) := rfl
              obtain ⟨q, hq⟩ : ∃ q, wr.heap.size = q := ⟨_, rfl⟩
              have HQ := Lib.hid (Has.new wr 143 #[.string xt, .bool true, .string xq])
              have hba : Below wr.heap.size wr (wr.alloc (.cells #[.string xt, .bool true, .string xq] 143)) := (Below.refl _ wr).alloc (Nat.le_refl _) _
              have hO5 := HO2.out.below hba
              have hsr : w.heap.size + 1 ≤ wr.heap.size := Nat.le_trans hso HB2.out.size
              have HB5 := Lib.hid (HB2.out.trans (hba.mono hsr))
              go_wp2_with fail
              obtain ⟨W5, hW5⟩ : ∃ W, W = wr.alloc (.cells #[.string xt, .bool true, .string xq] 143) := ⟨_, rfl⟩
              rw [← hW5] at HQ hba hO5 HB5 ⊢
              have HO5 := Lib.hid hO5
              have hs5 : w.heap.size + 1 ≤ W5.heap.size := Nat.le_trans hsr hba.size
              clear hW5 hba hO5
              rw [hq] at HQ
              clear hq c0 c1 c2
              refine (HT1.out W5).mono ?_
              rintro e w6 ⟨A6, m6, c6, rfl, hm6, hr6, hz6, hb6⟩
              obtain ⟨R7, W7, hrun7, ho7, hb7, hk7⟩ := own_appK w6 (w.heap.size + 1) u2 (NB ++ M) (HO5.out.below hb6.out) (Nat.le_trans hs5 hb6.out.size) A6 (ytxt xt) m6 c6 hm6.out hr6.out (by rw [List.length_append]; have := HLE.out; have := hm6.out; omega) hz6.out
              have HO7 := Lib.hid ho7
              have HB7 := Lib.hid ((HB5.out.trans (hb6.out.mono hs5)).trans hb7)
              have HQ7 := Lib.hid (hk7.has (HQ.out.below hb6.out HQ.out.lt) (by decide))
              have hs7 : w.heap.size + 1 ≤ W7.heap.size := Nat.le_trans hso HB7.out.size
              have d1 : W7.cell? ⟨q, 1, none⟩ = some (.bool true) := HQ7.out.cell 1
              clear ho7 hb7 hk7 hb6 HB5 HO5 HQ
              have hlen7 : (NB ++ M ++ ytxt xt).length ≤ 12000 := by simp only [List.length_append]; have := HLE.out; omega
              have HA8 := Lib.hid (app_new W7 (w.heap.size + 1) R7 (NB ++ M ++ ytxt xt) [1] #[.int .u8 1] (by simp [bv]) 1 rfl HO7.out hs7 (by omega))
              obtain ⟨R8, W8, hrun8, ho8, hb8⟩ := HA8.out
              have hk8 := (app_at W7 W7.heap.size rfl (w.heap.size + 1) R7 (NB ++ M ++ ytxt xt) [1] #[.int .u8 1] (by simp [bv]) 1 rfl HO7.out hs7 (by omega))
              obtain ⟨R8b, W8b, hrun8b, _, _, hk8⟩ := hk8
              obtain ⟨rfl, rfl⟩ : R8b = R8 ∧ W8b = W8 := by rw [hrun8] at hrun8b; injection hrun8b with e1 e2; exact ⟨e1.symm, e2.symm⟩
              have HO8 := Lib.hid ho8
              have HB8 := Lib.hid (HB7.out.trans hb8)
              have HQ8 := Lib.hid (hk8.has HQ7.out (by decide))
              have hs8 : w.heap.size + 1 ≤ W8b.heap.size := Nat.le_trans hso HB8.out.size
              have d2 : W8b.cell? ⟨q, 2, none⟩ = some (.string xq) := HQ8.out.cell 2
              clear ho8 hb8 hk8 hrun8b HA8
              have HFL := Lib.hid ((flag_lit W7).1)
              go_wp2_with (at_builtin; refine wpList_app rfl _ _ 37 37 rfl u2 (.slice A6 m6 c6) rfl rfl ⟨_, _, hrun7, ?_⟩)
              refine HFL.out.mono ?_
              rintro e w9 ⟨rfl, rfl⟩
              go_wp2_with (at_builtin; refine wpList_app rfl _ _ 37 37 rfl R7 (.slice (some ⟨w9.heap.size, 0, none⟩) 1 1) rfl rfl ⟨_, _, hrun8, ?_⟩)
              refine (HT2.out _).mono ?_
              rintro e w10 ⟨A10, m10, c10, rfl, hm10, hr10, hz10, hb10⟩
              obtain ⟨R11, W11, hrun11, ho11, hb11, _⟩ := own_appK w10 (w.heap.size + 1) R8b (NB ++ M ++ ytxt xt ++ [1]) (HO8.out.below hb10.out) (Nat.le_trans hs8 hb10.out.size) A10 (ytxt xq) m10 c10 hm10.out hr10.out (by rw [List.length_append]; simp only [List.length_singleton]; have := hm10.out; omega) hz10.out
              have HO11 : Hid (Own (w.heap.size + 1) W11 R11 (NB ++ worksB T (k + 1))) := by show Own _ _ _ _; rw [HSU.out, HWB.out]; simpa [List.append_assoc] using ho11
              have HB11 := Lib.hid ((HB8.out.trans (hb10.out.mono hs8)).trans hb11)
              clear ho11 hb11 hb10
              go_wp2_with (at_builtin; refine wpList_app rfl _ _ 37 37 rfl R8b (.slice A10 m10 c10) rfl rfl ⟨_, _, hrun11, ?_⟩)
              go_roundw
              case rel => exact ⟨k + 1, R11, by omega, by go_num, rfl, HO11.out, HB11.out⟩
              case measure => simp [intOf]; omega
          · obtain rfl : k = n := by omega
            have hkz : ¬ ((k : Int) < (k : Int)) := by omega
            go_wp2_with fail
            go_ret2
            exact ⟨_, rfl, by rw [HPB.out]; exact own_down HO2.out (by omega), HW2⟩
end Go.Proofs.YtlhfdhmmdnkojaaGreatDoor
namespace Go.Proofs.YtlhfdhmmdnkojaaGreatDoor
open Go.RowKit Dg
set_option maxRecDepth 100000
theorem own_open {B : Nat} {w : World} {v : Value} {l : List Nat} (h : Own B w v l) (h0 : 0 < l.length) : ∃ A m c, v = .slice A m c ∧ Hid (l.length = m) ∧ Hid (Rd w A l) ∧ Hid (A = none → c = 0) := by
  obtain ⟨A, c, e, _, hr⟩ := own_full h
  refine ⟨A, _, c, e, rfl, hr, fun e2 => ?_⟩
  obtain ⟨b, off, e3, _⟩ := hr (by intro h; rw [h] at h0; simp at h0)
  rw [e2] at e3; cases e3
end Go.Proofs.YtlhfdhmmdnkojaaGreatDoor
namespace Go.Proofs.YtlhfdhmmdnkojaaGreatDoor
open Go.RowKit Dg
set_option maxRecDepth 100000
theorem ptbox2 {w : World} {x y z x' y' z' : Int} {A A' : Option Addr} {n c n' c' : Nat} : Hid (Has ((w.alloc (.cells #[.int .i64 x, .int .i64 y, .int .i64 z, .slice A n c] 67)).alloc (.cells #[.int .i64 x', .int .i64 y', .int .i64 z', .slice A' n' c'] 67)) w.heap.size 67 #[.int .i64 x, .int .i64 y, .int .i64 z, .slice A n c]) ∧ Hid (Has ((w.alloc (.cells #[.int .i64 x, .int .i64 y, .int .i64 z, .slice A n c] 67)).alloc (.cells #[.int .i64 x', .int .i64 y', .int .i64 z', .slice A' n' c'] 67)) (w.heap.size + 1) 67 #[.int .i64 x', .int .i64 y', .int .i64 z', .slice A' n' c']) ∧ Below w.heap.size w ((w.alloc (.cells #[.int .i64 x, .int .i64 y, .int .i64 z, .slice A n c] 67)).alloc (.cells #[.int .i64 x', .int .i64 y', .int .i64 z', .slice A' n' c'] 67)) := by
  refine ⟨(Has.new w 67 _).alloc _, ?_, ((Below.refl _ w).alloc (Nat.le_refl _) _).alloc (by simp) _⟩
  have h := Has.new (w.alloc (.cells #[.int .i64 x, .int .i64 y, .int .i64 z, .slice A n c] 67)) 67 #[.int .i64 x', .int .i64 y', .int .i64 z', .slice A' n' c']
  rw [show (w.alloc (.cells #[.int .i64 x, .int .i64 y, .int .i64 z, .slice A n c] 67)).heap.size = w.heap.size + 1 by simp] at h
  exact h
set_option maxHeartbeats 4000000 in
theorem rsame_pt {B B' : Nat} {A A' : Option Addr} {n c n' c' : Nat} {T : List Wk} (x y z : Int) (w : World) (h : OwnW B w (.slice A n c) T) (h' : OwnW B' w (.slice A' n' c') T) (hl : T.length ≤ 1000) :
    Calls Tryz.prog 39 #[.agg #[.int .i64 x, .int .i64 y, .int .i64 z, .slice A n c], .agg #[.int .i64 x, .int .i64 y, .int .i64 z, .slice A' n' c']] w fun e w' => e = .returned (.bool true) ∧ Hid (Below w.heap.size w w') := by
  obtain ⟨H1, H2, hb⟩ := ptbox2 (w := w) (x := x) (y := y) (z := z) (x' := x) (y' := y) (z' := z) (A := A) (n := n) (c := c) (A' := A') (n' := n') (c' := c')
  have HE := Lib.hid (sameW_any _ (h.below hb) (h'.below hb) hl)
  rw [sameW_self] at HE
  have HB := Lib.hid hb
  clear h h' hb
  go_enter Tryz.func39, Tryz.ntmps39
  have a3 := H1.out.cell 3
  have b3 := H2.out.cell 3
  simp at a3 b3
  go_wp2_with fail
  refine HE.out.mono ?_
  rintro e w1 ⟨rfl, hb1⟩
  have HB1 := Lib.hid (HB.out.trans (hb1.out.mono HB.out.size))
  have G1 := Lib.hid (H1.out.below hb1.out H1.out.lt)
  have G2 := Lib.hid (H2.out.below hb1.out H2.out.lt)
  have a0 : w1.cell? ⟨w.heap.size, 0, none⟩ = some (.int .i64 x) := G1.out.cell 0
  have a1 : w1.cell? ⟨w.heap.size, 1, none⟩ = some (.int .i64 y) := G1.out.cell 1
  have a2 : w1.cell? ⟨w.heap.size, 2, none⟩ = some (.int .i64 z) := G1.out.cell 2
  have b0 : w1.cell? ⟨w.heap.size + 1, 0, none⟩ = some (.int .i64 x) := G2.out.cell 0
  have b1 : w1.cell? ⟨w.heap.size + 1, 1, none⟩ = some (.int .i64 y) := G2.out.cell 1
  have b2 : w1.cell? ⟨w.heap.size + 1, 2, none⟩ = some (.int .i64 z) := G2.out.cell 2
  clear a3 b3 hb1 HE
  go_wp2_with fail
  go_ret
  exact ⟨rfl, HB1⟩
end Go.Proofs.YtlhfdhmmdnkojaaGreatDoor
namespace Go.Proofs.YtlhfdhmmdnkojaaGreatDoor
open Go.RowKit Dg
set_option maxRecDepth 100000
set_option maxHeartbeats 400000 in
theorem NumberD_get {D : Nat} (g : Nat) (l : List Nat) (e : Nat) (w : World) (h : RdrD D w g l e) (hl : ∀ x ∈ l, x < 256) (hb : l.length ≤ 1000000) :
    Calls Tryz.prog 83 #[.pointer (some ⟨g, 0, none⟩)] w (StepD D w g (.int .i64 ((numF 9223372036854775807 l e).1 : Int)) (numF 9223372036854775807 l e).2.1 (numF 9223372036854775807 l e).2.2) := by
  have hc := numberD_any g l e w 9223372036854775807 h hl hb
  have hle := numF_le 9223372036854775807 l e
  generalize numF 9223372036854775807 l e = R at *
  obtain ⟨r1, r2, r3⟩ := R
  simp only at hle hc ⊢
  have HC := Lib.hid hc
  clear hc h
  go_enter Tryz.func83, Tryz.ntmps83
  go_wp2_with fail
  refine HC.out.mono ?_
  rintro x w1 ⟨rfl, hd, hg⟩
  have HD := Lib.hid hd
  have HG := Lib.hid hg
  clear hd hg
  go_wp2_with fail
  go_ret
  exact ⟨rfl, HD.out, HG.out⟩
/-- A number that was written is read. -/
theorem numD_put {D : Nat} (g n : Nat) (rest : List Nat) (w : World) (h : RdrD D w g (digs n ++ rest) 0) (hn : n ≤ 9223372036854775807) (hl : ∀ x ∈ digs n ++ rest, x < 256) (hb : (digs n ++ rest).length ≤ 1000000) :
    Calls Tryz.prog 83 #[.pointer (some ⟨g, 0, none⟩)] w fun x w' => x = .returned (.int .i64 (n : Int)) ∧ Hid (RdrD D w' g rest 0) ∧ Hid (w.grownBy w' (some g)) := by
  refine (NumberD_get g _ 0 w h hl hb).mono ?_
  rintro x w' ⟨rfl, h1, h2⟩
  rw [numF_whole 9223372036854775807 n rest (by omega) hn] at h1 ⊢
  exact ⟨rfl, h1, h2⟩
end Go.Proofs.YtlhfdhmmdnkojaaGreatDoor
namespace Go.Proofs.YtlhfdhmmdnkojaaGreatDoor
open Go.RowKit Dg
set_option maxRecDepth 100000
theorem textF_gen (most : Int) (s : ByteArray) (hs : s.size ≤ 900) (hm : (s.size : Int) ≤ most) (rest : List Nat) : textF most (ytxt s ++ rest) 0 = (sb s, rest, 0) := by
  have hn : s.size < 18446744073709551616 := by omega
  unfold textF ytxt
  rw [if_neg (by simp), List.append_assoc, head_whole _ s.size _ hn (by omega)]
  simp only
  rw [if_neg (by simp), if_neg (by omega), if_neg]
  · have h1 : (digs s.size ++ (sb s ++ rest)).drop (digs s.size).length = sb s ++ rest := List.drop_left
    rw [← List.drop_drop, h1]
    have h2 : (sb s ++ rest).take s.size = sb s := by rw [← sb_length s]; exact List.take_left
    have h3 : (sb s ++ rest).drop s.size = rest := by rw [← sb_length s]; exact List.drop_left
    rw [h2, h3]
  · rw [List.length_append, List.length_append, sb_length]
    omega
/-- A text that was written is read. -/
theorem txtD_put {D : Nat} (g : Nat) (most : Int) (s : ByteArray) (rest : List Nat) (w : World) (h : RdrD D w g (ytxt s ++ rest) 0) (hs : s.size ≤ 900) (hm : (s.size : Int) ≤ most) (hl : ∀ x ∈ ytxt s ++ rest, x < 256) (hb : (ytxt s ++ rest).length ≤ 1000000) :
    Calls Tryz.prog 138 #[.pointer (some ⟨g, 0, none⟩), .int .i64 most] w fun x w' => x = .returned (.string s) ∧ Hid (RdrD D w' g rest 0) ∧ Hid (w.grownBy w' (some g)) := by
  refine (TextD_get g _ 0 w most h hl hb).mono ?_
  rintro x w' ⟨rfl, h1, h2⟩
  rw [textF_gen most s hs hm rest] at h1 ⊢
  exact ⟨by rw [bs_sb], h1, h2⟩
theorem byteD_put {D : Nat} (g y : Nat) (rest : List Nat) (w : World) (h : RdrD D w g (y :: rest) 0) (hl : ∀ x ∈ y :: rest, x < 256) (hb : (y :: rest).length ≤ 1000000) :
    Calls Tryz.prog 61 #[.pointer (some ⟨g, 0, none⟩)] w fun x w' => x = .returned (.int .i64 (y : Int)) ∧ Hid (RdrD D w' g rest 0) ∧ Hid (w.grownBy w' (some g)) := by
  refine (ByteD_get g _ 0 w h hl hb).mono ?_
  rintro x w' ⟨rfl, h1, h2⟩
  exact ⟨rfl, h1, h2⟩
theorem Has.grn {w w' : World} {g g' : Nat} {t : TypeId} {cs : Array Value} (h : Has w g' t cs) (hg : w.grownBy w' (some g)) (hne : g' ≠ g) : Has w' g' t cs :=
  (hg.block g' h.lt (fun e => hne (Option.some.inj e))).trans h
theorem RdrD.al {D : Nat} {w : World} {g : Nat} {l : List Nat} {e : Nat} (h : RdrD D w g l e) (hg : g < D) (hD : D ≤ w.heap.size) (o : Obj) : RdrD D (w.alloc o) g l e := h.keep hg ((Below.refl D w).alloc hD o)
theorem grn_set {w x : World} {g : Nat} (h : w.grownBy x (some g)) {p : Addr} (hp : w.heap.size ≤ p.block) (u : Value) : w.grownBy (x.setCell p u) (some g) :=
  ⟨h.os, h.tape, h.output, by rw [size_set]; exact h.size, fun b hb hne => by
    have := h.block b hb hne
    rw [← this]
    exact (Below.heap_setCell x p u b (by omega))⟩
theorem grn_below {w x y : World} {g : Nat} (h : w.grownBy x (some g)) (hb : Below x.heap.size x y) : w.grownBy y (some g) :=
  ⟨hb.os.trans h.os, hb.tape.trans h.tape, hb.output.trans h.output, Nat.le_trans h.size hb.size, fun b hlt hne => (hb.block b (Nat.lt_of_lt_of_le hlt h.size)).trans (h.block b hlt hne)⟩
end Go.Proofs.YtlhfdhmmdnkojaaGreatDoor
namespace Go.Proofs.YtlhfdhmmdnkojaaGreatDoor
open Go.RowKit Dg
set_option maxRecDepth 100000
set_option maxHeartbeats 16000000 in
theorem pwork_any {D : Nat} (g : Nat) (t k : ByteArray) (d : Bool) (rest : List Nat) (w : World) (h : RdrD D w g (wkB ⟨t, d, k⟩ ++ rest) 0) (hg : g < D) (hD : D ≤ w.heap.size) (ht : t.size ≤ 32) (hk : k.size ≤ 900) (hl : ∀ x ∈ wkB ⟨t, d, k⟩ ++ rest, x < 256) (hb : (wkB ⟨t, d, k⟩ ++ rest).length ≤ 1000000) :
    Calls Tryz.prog 139 #[.pointer (some ⟨g, 0, none⟩)] w fun e w' => e = .returned (.tuple #[.agg #[.string t, .bool d, .string k], .bool true]) ∧ Hid (RdrD D w' g rest 0) ∧ Hid (w.grownBy w' (some g)) := by
  have hwk : wkB ⟨t, d, k⟩ ++ rest = ytxt t ++ ((if d then 1 else 0) :: (ytxt k ++ rest)) := by
    unfold wkB
    simp
  rw [hwk] at h hl hb
  obtain ⟨y, hy⟩ : ∃ y : Nat, (if d then 1 else 0) = y := ⟨_, rfl⟩
  rw [hy] at h hl hb
  have hl1 : ∀ x ∈ y :: (ytxt k ++ rest), x < 256 := fun x hx => hl x (List.mem_append_right _ hx)
  have hl2 : ∀ x ∈ ytxt k ++ rest, x < 256 := fun x hx => hl1 x (List.mem_cons_of_mem _ hx)
  have hb1 : (y :: (ytxt k ++ rest)).length ≤ 1000000 := by rw [List.length_append] at hb; omega
  have hb2 : (ytxt k ++ rest).length ≤ 1000000 := by rw [List.length_cons] at hb1; omega
  have HT1 := Lib.hid (fun W (hr : RdrD D W g (ytxt t ++ (y :: (ytxt k ++ rest))) 0) => txtD_put g 32 t (y :: (ytxt k ++ rest)) W hr (by omega) (by omega) hl hb)
  have HY := Lib.hid (fun W (hr : RdrD D W g (y :: (ytxt k ++ rest)) 0) => byteD_put g y (ytxt k ++ rest) W hr hl1 hb1)
  have HT2 := Lib.hid (fun W (hr : RdrD D W g (ytxt k ++ rest) 0) => txtD_put g 9223372036854775807 k rest W hr hk (by omega) hl2 hb2)
  have HR1 := Lib.hid (h.al hg hD (.cells #[.string ⟨#[]⟩, .bool false, .string ⟨#[]⟩] 143))
  have HQ1 := Lib.hid (Has.new w 143 #[.string ⟨#[]⟩, .bool false, .string ⟨#[]⟩])
  have HG1 := Lib.hid (grn_below (grown_refl w g) ((Below.refl w.heap.size w).alloc (Nat.le_refl _) (.cells #[.string ⟨#[]⟩, .bool false, .string ⟨#[]⟩] 143)))
  obtain ⟨q1, hq1⟩ : ∃ q, w.heap.size = q := ⟨_, rfl⟩
  have hgq : g < q1 := by omega
  clear h hwk hl hb hl1 hl2 hb1 hb2
  go_enter Tryz.func139, Tryz.ntmps139
  go_wp2_with fail
  obtain ⟨W1, hW1⟩ : ∃ W, W = w.alloc (.cells #[.string ⟨#[]⟩, .bool false, .string ⟨#[]⟩] 143) := ⟨_, rfl⟩
  rw [← hW1] at HR1 HQ1 HG1 ⊢
  have hs1 : q1 < W1.heap.size := by rw [hW1, ← hq1]; simp
  rw [hq1] at HQ1
  clear hW1
  refine (HT1.out _ HR1.out).mono ?_
  rintro e w2 ⟨rfl, hr2, hg2⟩
  have HQ2 := Lib.hid (HQ1.out.grn hg2.out (by omega))
  have HG2 := Lib.hid (grown_trans HG1.out hg2.out)
  have hs2 : q1 < w2.heap.size := Nat.lt_of_lt_of_le hs1 hg2.out.size
  have HR3 := Lib.hid (hr2.out.al hg (by omega) (.cells #[.string t, .bool false, .string ⟨#[]⟩] 143))
  have HB3 := Lib.hid (Has.new w2 143 #[.string t, .bool false, .string ⟨#[]⟩])
  have hbw : Below w2.heap.size w2 (w2.alloc (.cells #[.string t, .bool false, .string ⟨#[]⟩] 143)) := (Below.refl _ w2).alloc (Nat.le_refl _) _
  have HQ3 := Lib.hid (HQ2.out.below hbw HQ2.out.lt)
  have HG3 := Lib.hid (grn_below HG2.out hbw)
  have hs3 : w2.heap.size < (w2.alloc (.cells #[.string t, .bool false, .string ⟨#[]⟩] 143)).heap.size := by simp
  clear hr2 hg2 hbw HR1 HQ1 HG1 HQ2 HG2 HT1
  go_wp2_with fail
  obtain ⟨W3, hW3⟩ : ∃ W, W = w2.alloc (.cells #[.string t, .bool false, .string ⟨#[]⟩] 143) := ⟨_, rfl⟩
  rw [← hW3] at HR3 HB3 HQ3 HG3 hs3 ⊢
  clear hW3
  generalize w2.heap.size = q2 at *
  refine (HY.out _ HR3.out).mono ?_
  rintro e w4 ⟨rfl, hr4, hg4⟩
  have HB4 := Lib.hid (HB3.out.grn hg4.out (by omega))
  have HQ4 := Lib.hid (HQ3.out.grn hg4.out (by omega))
  have HG4 := Lib.hid (grown_trans HG3.out hg4.out)
  have hs4 : q2 < w4.heap.size := Nat.lt_of_lt_of_le hs3 hg4.out.size
  have HR4 := hr4
  clear hr4 hg4 HR3 HB3 HQ3 HG3 HY
  have c1 : w4.cell? ⟨q2, 1, none⟩ = some (.bool false) := HB4.out.cell 1
  have f1 : w4.frozen? ⟨q2, 1, none⟩ = false := HB4.out.free 1
  have hyd : ((y : Int) == 1) = d := by rw [← hy]; cases d <;> rfl
  have hyl : (y : Int) ≤ 1 := by rw [← hy]; cases d <;> simp
  have HB5 : Hid (Has (w4.setCell ⟨q2, 1, none⟩ (.bool d)) q2 143 #[.string t, .bool d, .string ⟨#[]⟩]) := HB4.out.put 1 _
  have HQ5 := Lib.hid (HQ4.out.far (p := ⟨q2, 1, none⟩) (by show q1 ≠ q2; omega) (.bool d))
  have HG5 := Lib.hid (grn_set HG4.out (p := ⟨q2, 1, none⟩) (by show w.heap.size ≤ q2; omega) (.bool d))
  have HR5 := Lib.hid (HR4.out.keep hg ((Below.refl D w4).setCell (p := ⟨q2, 1, none⟩) (by show D ≤ q2; omega) (.bool d)))
  have hs5 : q2 < (w4.setCell ⟨q2, 1, none⟩ (.bool d)).heap.size := by rw [size_set]; exact hs4
  clear HB4 HQ4 HG4 HR4 hs4 hy
  go_wp2_with fail
  obtain ⟨W5, hW5⟩ : ∃ W, W = w4.setCell ⟨q2, 1, none⟩ (.bool d) := ⟨_, rfl⟩
  rw [← hW5] at HB5 HQ5 HG5 HR5 hs5 ⊢
  clear hW5 c1 f1
  refine (HT2.out _ HR5.out).mono ?_
  rintro e w6 ⟨rfl, hr6, hg6⟩
  have HB6 := Lib.hid (HB5.out.grn hg6.out (by omega))
  have HQ6 := Lib.hid (HQ5.out.grn hg6.out (by omega))
  have HG6 := Lib.hid (grown_trans HG5.out hg6.out)
  have HR6 := hr6
  clear hr6 hg6 HB5 HQ5 HG5 HR5 HT2
  have c2 : w6.cell? ⟨q2, 2, none⟩ = some (.string ⟨#[]⟩) := HB6.out.cell 2
  have f2 : w6.frozen? ⟨q2, 2, none⟩ = false := HB6.out.free 2
  have HB7 : Hid (Has (w6.setCell ⟨q2, 2, none⟩ (.string k)) q2 143 #[.string t, .bool d, .string k]) := HB6.out.put 2 _
  have HQ7 := Lib.hid (HQ6.out.far (p := ⟨q2, 2, none⟩) (by show q1 ≠ q2; omega) (.string k))
  have HG7 := Lib.hid (grn_set HG6.out (p := ⟨q2, 2, none⟩) (by show w.heap.size ≤ q2; omega) (.string k))
  have HR7 := Lib.hid (HR6.out.keep hg ((Below.refl D w6).setCell (p := ⟨q2, 2, none⟩) (by show D ≤ q2; omega) (.string k)))
  clear HB6 HQ6 HG6 HR6
  go_wp2_with fail
  obtain ⟨W7, hW7⟩ : ∃ W, W = w6.setCell ⟨q2, 2, none⟩ (.string k) := ⟨_, rfl⟩
  rw [← hW7] at HB7 HQ7 HG7 HR7 ⊢
  clear hW7 c2 f2
  have HE := Lib.hid (fun W (hr : RdrD D W g rest 0) => Errno_get g rest 0 W hr.rdr)
  have hb8 : Below W7.heap.size W7 W7.drew := (Below.refl _ W7).drew
  have HB8 := Lib.hid (HB7.out.drew)
  have HQ8 := Lib.hid (HQ7.out.drew)
  have HG8 := Lib.hid (grn_below HG7.out hb8)
  have HR8 := Lib.hid (HR7.out.keep hg ((Below.refl D W7).drew))
  obtain ⟨W8, hW8⟩ : ∃ W, W = W7.drew := ⟨_, rfl⟩
  have hS0 : (fun X : World => X.cell? ⟨q2, 0, none⟩ = some (.string t) ∧ X.cell? ⟨q2, 1, none⟩ = some (.bool d) ∧ X.cell? ⟨q2, 2, none⟩ = some (.string k)) W7.drew := ⟨HB8.out.cell 0, HB8.out.cell 1, HB8.out.cell 2⟩
  have r0 : W7.drew.cell? ⟨q1, 0, none⟩ = some (.string ⟨#[]⟩) := HQ8.out.cell 0
  have r1 : W7.drew.cell? ⟨q1, 1, none⟩ = some (.bool false) := HQ8.out.cell 1
  have r2 : W7.drew.cell? ⟨q1, 2, none⟩ = some (.string ⟨#[]⟩) := HQ8.out.cell 2
  have t0 : W7.drew.frozen? ⟨q1, 0, none⟩ = false := HQ8.out.free 0
  have t1 : W7.drew.frozen? ⟨q1, 1, none⟩ = false := HQ8.out.free 1
  have t2 : W7.drew.frozen? ⟨q1, 2, none⟩ = false := HQ8.out.free 2
  have r1' : W7.cell? ⟨q1, 1, none⟩ = some (.bool false) := HQ7.out.cell 1
  have r2' : W7.cell? ⟨q1, 2, none⟩ = some (.string ⟨#[]⟩) := HQ7.out.cell 2
  have t1' : W7.frozen? ⟨q1, 1, none⟩ = false := HQ7.out.free 1
  have t2' : W7.frozen? ⟨q1, 2, none⟩ = false := HQ7.out.free 2
  have HP := Lib.hid (hput3 HQ8.out (.string t) (.bool d) (.string k))
  have HBf := Lib.hid (((HB8.out.far (p := ⟨q1, 0, none⟩) (by show q2 ≠ q1; omega) (.string t)).far (p := ⟨q1, 1, none⟩) (by show q2 ≠ q1; omega) (.bool d)).far (p := ⟨q1, 2, none⟩) (by show q2 ≠ q1; omega) (.string k))
  have HGf := Lib.hid (grn_set (grn_set (grn_set HG8.out (p := ⟨q1, 0, none⟩) (by show w.heap.size ≤ q1; omega) (.string t)) (p := ⟨q1, 1, none⟩) (by show w.heap.size ≤ q1; omega) (.bool d)) (p := ⟨q1, 2, none⟩) (by show w.heap.size ≤ q1; omega) (.string k))
  have HRf := Lib.hid (HR8.out.keep hg ((((Below.refl D W7.drew).setCell (p := ⟨q1, 0, none⟩) (by show D ≤ q1; omega) (.string t)).setCell (p := ⟨q1, 1, none⟩) (by show D ≤ q1; omega) (.bool d)).setCell (p := ⟨q1, 2, none⟩) (by show D ≤ q1; omega) (.string k)))
  have hSf : (fun X : World => X.cell? ⟨q2, 0, none⟩ = some (.string t) ∧ X.cell? ⟨q2, 1, none⟩ = some (.bool d) ∧ X.cell? ⟨q2, 2, none⟩ = some (.string k)) (((W7.drew.setCell ⟨q1, 0, none⟩ (.string t)).setCell ⟨q1, 1, none⟩ (.bool d)).setCell ⟨q1, 2, none⟩ (.string k)) := ⟨HBf.out.cell 0, HBf.out.cell 1, HBf.out.cell 2⟩
  clear hW8
  refine wp_region_held_drew (S := (fun X : World => X.cell? ⟨q2, 0, none⟩ = some (.string t) ∧ X.cell? ⟨q2, 1, none⟩ = some (.bool d) ∧ X.cell? ⟨q2, 2, none⟩ = some (.string k))) (by kernel_rfl) hS0 (fun _ => ?_)
  (refine wpAnyH_take (i := 0) (v := ?_) rfl (by kernel_rfl) (by kernel_rfl) (by kernel_rfl) (fun _ _ _ h => h) (Or.inl ⟨by rfl, ?_⟩) (by assumption) ?_; rotate_left; (intro w hSw; (try dsimp only at hSw); go_simp; try with_reducible rfl); ((try simp only [List.getElem_toArray]); (try simp only [List.getElem_cons_succ]); (try simp only [List.getElem_cons_zero]); (try simp only [Act.put]); (try simp only [List.setIfInBounds_toArray]); (try simp only [List.set_cons_succ]); (try simp only [List.set_cons_zero])))
  (refine wpAnyH_take (i := 1) (v := ?_) rfl (by kernel_rfl) (by kernel_rfl) (by kernel_rfl) (fun _ _ _ h => h) (Or.inl ⟨by rfl, ?_⟩) (by assumption) ?_; rotate_left; (intro w hSw; (try dsimp only at hSw); go_simp; try with_reducible rfl); ((try simp only [List.getElem_toArray]); (try simp only [List.getElem_cons_succ]); (try simp only [List.getElem_cons_zero]); (try simp only [Act.put]); (try simp only [List.setIfInBounds_toArray]); (try simp only [List.set_cons_succ]); (try simp only [List.set_cons_zero])))
  (refine wpAnyH_take (i := 2) (v := ?_) rfl (by kernel_rfl) (by kernel_rfl) (by kernel_rfl) (fun _ _ _ h => h) (Or.inl ⟨by rfl, ?_⟩) (by assumption) ?_; rotate_left; (intro w hSw; (try dsimp only at hSw); go_simp; try with_reducible rfl); ((try simp only [List.getElem_toArray]); (try simp only [List.getElem_cons_succ]); (try simp only [List.getElem_cons_zero]); (try simp only [Act.put]); (try simp only [List.setIfInBounds_toArray]); (try simp only [List.set_cons_succ]); (try simp only [List.set_cons_zero])))
  (refine wpAnyH_take (i := 3) (v := ?_) rfl (by kernel_rfl) (by kernel_rfl) (by kernel_rfl) (fun _ _ _ h => h) (Or.inl ⟨by rfl, ?_⟩) (by assumption) ?_; rotate_left; (intro w hSw; (try dsimp only at hSw); go_simp; try with_reducible rfl); ((try simp only [List.getElem_toArray]); (try simp only [List.getElem_cons_succ]); (try simp only [List.getElem_cons_zero]); (try simp only [Act.put]); (try simp only [List.setIfInBounds_toArray]); (try simp only [List.set_cons_succ]); (try simp only [List.set_cons_zero])))
  (refine wpAnyH_take (i := 4) (v := ?_) rfl (by kernel_rfl) (by kernel_rfl) (by kernel_rfl) (fun _ _ _ h => h) (Or.inl ⟨by rfl, ?_⟩) (by assumption) ?_; rotate_left; (intro w hSw; (try dsimp only at hSw); go_simp; try with_reducible rfl); ((try simp only [List.getElem_toArray]); (try simp only [List.getElem_cons_succ]); (try simp only [List.getElem_cons_zero]); (try simp only [Act.put]); (try simp only [List.setIfInBounds_toArray]); (try simp only [List.set_cons_succ]); (try simp only [List.set_cons_zero])))
  refine wpAnyH_ready (rs := [5]) (by kernel_rfl) (by simp) ?_
  refine AllReadyH.cons rfl (fun K2 hK2 => ?_) AllReadyH.nil
  go_simp
  refine (HE.out _ HR8.out).mono ?_
  rintro e x5 ⟨rfl, rfl⟩
  go_wp2_with fail
  refine hK2.out _ _ (by (try dsimp only); exact hS0) (fun _ => ?_)
  clear hK2 K2
  (try simp only [List.getElem_toArray]); (try simp only [List.getElem_cons_succ]); (try simp only [List.getElem_cons_zero]); (try simp only [Act.put]); (try simp only [List.setIfInBounds_toArray]); (try simp only [List.set_cons_succ]); (try simp only [List.set_cons_zero])
  (refine wpAnyH_take (i := 6) (v := ?_) rfl (by kernel_rfl) (by kernel_rfl) (by kernel_rfl) (fun _ _ _ h => h) (Or.inl ⟨by rfl, ?_⟩) (by assumption) ?_; rotate_left; (intro w hSw; (try dsimp only at hSw); go_simp; try with_reducible rfl); ((try simp only [List.getElem_toArray]); (try simp only [List.getElem_cons_succ]); (try simp only [List.getElem_cons_zero]); (try simp only [Act.put]); (try simp only [List.setIfInBounds_toArray]); (try simp only [List.set_cons_succ]); (try simp only [List.set_cons_zero])))
  (refine wpAnyH_take (i := 7) (v := ?_) rfl (by kernel_rfl) (by kernel_rfl) (by kernel_rfl) (fun _ _ _ h => h) (Or.inl ⟨by rfl, ?_⟩) (by assumption) ?_; rotate_left; (intro w hSw; (try dsimp only at hSw); go_simp; try with_reducible rfl); ((try simp only [List.getElem_toArray]); (try simp only [List.getElem_cons_succ]); (try simp only [List.getElem_cons_zero]); (try simp only [Act.put]); (try simp only [List.setIfInBounds_toArray]); (try simp only [List.set_cons_succ]); (try simp only [List.set_cons_zero])))
  refine wpAnyH_ready (rs := [8]) (by kernel_rfl) (by simp) ?_
  refine AllReadyH.cons rfl (fun K2 hK2 => ?_) AllReadyH.nil
  go_simp
  refine hK2.out _ _ (by (try dsimp only); exact hSf) (fun _ => ?_)
  clear hK2 K2
  (try simp only [List.getElem_toArray]); (try simp only [List.getElem_cons_succ]); (try simp only [List.getElem_cons_zero]); (try simp only [Act.put]); (try simp only [List.setIfInBounds_toArray]); (try simp only [List.set_cons_succ]); (try simp only [List.set_cons_zero])
  (refine wpAnyH_take (i := 9) (v := ?_) rfl (by kernel_rfl) (by kernel_rfl) (by kernel_rfl) (fun _ _ _ h => h) (Or.inl ⟨by rfl, ?_⟩) (by assumption) ?_; rotate_left; (intro w hSw; (try dsimp only at hSw); go_simp; try with_reducible rfl); ((try simp only [List.getElem_toArray]); (try simp only [List.getElem_cons_succ]); (try simp only [List.getElem_cons_zero]); (try simp only [Act.put]); (try simp only [List.setIfInBounds_toArray]); (try simp only [List.set_cons_succ]); (try simp only [List.set_cons_zero])))
  refine wpAnyH_done (by kernel_rfl) ?_ _
  go_wp2_with fail
  exact bodyPost_ret (wEnd2 rfl _ q1 _ _ _ _ rfl HP.out) rfl ⟨rfl, HRf, HGf⟩
end Go.Proofs.YtlhfdhmmdnkojaaGreatDoor
namespace Go.Proofs.YtlhfdhmmdnkojaaGreatDoor
open Go.RowKit Dg
set_option maxRecDepth 100000
theorem OwnW.grn {B : Nat} {w w' : World} {g : Nat} {v : Value} {L : List Wk} (h : OwnW B w v L) (hb : w.grownBy w' (some g)) (hg : g < B) : OwnW B w' v L := by
  rcases h.2 with ⟨hv, hn⟩ | ⟨q, cap, cur, hv, hq, hh, hc, hcm, hsz, ht⟩
  · exact ⟨h.1, .inl ⟨hv, hn⟩⟩
  · exact ⟨h.1, .inr ⟨q, cap, cur, hv, hq, Has.grn (t := 143) (cs := cur) hh hb (by omega), hc, hcm, hsz, ht⟩⟩
theorem grn_belowB {B : Nat} {w x y : World} {g : Nat} (h : w.grownBy x (some g)) (hB : w.heap.size ≤ B) (hb : Below B x y) : w.grownBy y (some g) :=
  ⟨hb.os.trans h.os, hb.tape.trans h.tape, hb.output.trans h.output, Nat.le_trans h.size hb.size, fun b hlt hne => (hb.block b (Nat.lt_of_lt_of_le hlt hB)).trans (h.block b hlt hne)⟩
theorem wdrop_mem {T : List Wk} {k x : Nat} (h : x ∈ (T.drop k).flatMap wkB) : x ∈ T.flatMap wkB := by
  obtain ⟨y, hy, hx⟩ := List.mem_flatMap.1 h
  exact List.mem_flatMap.2 ⟨y, List.mem_of_mem_drop hy, hx⟩
theorem wdrop_len (T : List Wk) (k : Nat) : ((T.drop k).flatMap wkB).length ≤ (T.flatMap wkB).length := by
  have : (T.flatMap wkB).length = ((T.take k).flatMap wkB).length + ((T.drop k).flatMap wkB).length := by rw [← List.length_append, ← List.flatMap_append, List.take_append_drop]
  omega
theorem wdrop_cons (T : List Wk) (k : Nat) (h : k < T.length) : (T.drop k).flatMap wkB = wkB ⟨T[k].t, T[k].d, T[k].k⟩ ++ (T.drop (k + 1)).flatMap wkB := by
  rw [List.drop_eq_getElem_cons h, List.flatMap_cons]
theorem pEnd2 {fn : Func} {p u : Tmp} (h : fn.results = #[.cell p 67, .tmp u]) (w' : World) (g : Nat) (c0 c1 c2 c3 : Value) (tmps : Array Value) (hp : tmps.getD p undef = .pointer (some ⟨g, 0, none⟩)) (hh : Has w' g 67 #[c0, c1, c2, c3]) :
    (results fn tmps).run Tryz.prog w' = .ok (.tuple #[.agg #[c0, c1, c2, c3], tmps.getD u undef]) w' := by
  rw [results_cell_tmp h, hp]
  simp only [asAddr, Sem.run_pure, Result.andThen_ok]
  rw [run_loadVar_row w' g 67 67 #[c0, c1, c2, c3] (0, 0) _ hh Tryz.underlying67 rfl (by kernel_rfl)]
  rfl
set_option maxHeartbeats 16000000 in
theorem pread_any (X Y Z : Nat) (T : List Wk) (A : Option Addr) (n c : Nat) (w : World) (hr : Rd w A (ptB (X : Int) (Y : Int) (Z : Int) T)) (hn : (ptB (X : Int) (Y : Int) (Z : Int) T).length = n) (hlen : n ≤ 1000000) (h256 : ∀ x ∈ ptB (X : Int) (Y : Int) (Z : Int) T, x < 256) (hx : X ≤ 9223372036854775807) (hy : Y ≤ 9223372036854775807) (hz : Z ≤ 9223372036854775807) (hT : T.length ≤ 6) (hS : ∀ x ∈ T, x.t.size ≤ 32 ∧ x.k.size ≤ 900) (hTb : Tabs w) (hok : ptOk (X : Int) (Y : Int) (Z : Int) T = true) :
    Calls Tryz.prog 85 #[.slice A n c] w fun e w' => ∃ v, e = .returned (.tuple #[.agg #[.int .i64 (X : Int), .int .i64 (Y : Int), .int .i64 (Z : Int), v], .int .i64 0]) ∧ Hid (OwnW w.heap.size w' v T) ∧ Hid (Below w.heap.size w w') := by
  have hsp : ptB (X : Int) (Y : Int) (Z : Int) T = digs X ++ (digs Y ++ (digs Z ++ (digs T.length ++ worksB T T.length))) := by
    unfold ptB numsB
    simp
  have hb0 : Below w.heap.size w (w.alloc (.cells #[.int .i64 0, .int .i64 0, .int .i64 0, .slice none 0 0] 67)) := (Below.refl _ w).alloc (Nat.le_refl _) _
  have HR0 := Lib.hid (hr.below hb0)
  have HQ0 := Lib.hid (Has.new w 67 #[.int .i64 0, .int .i64 0, .int .i64 0, .slice none 0 0])
  have HB0 := Lib.hid hb0
  rw [hsp] at HR0 hn h256
  have h2 : ∀ x ∈ digs Y ++ (digs Z ++ (digs T.length ++ worksB T T.length)), x < 256 := fun x hx => h256 x (List.mem_append_right _ hx)
  have h3 : ∀ x ∈ digs Z ++ (digs T.length ++ worksB T T.length), x < 256 := fun x hx => h2 x (List.mem_append_right _ hx)
  have h4 : ∀ x ∈ digs T.length ++ worksB T T.length, x < 256 := fun x hx => h3 x (List.mem_append_right _ hx)
  have h5 : ∀ x ∈ worksB T T.length, x < 256 := fun x hx => h4 x (List.mem_append_right _ hx)
  have n1 : (digs X ++ (digs Y ++ (digs Z ++ (digs T.length ++ worksB T T.length)))).length ≤ 1000000 := by omega
  have n2 : (digs Y ++ (digs Z ++ (digs T.length ++ worksB T T.length))).length ≤ 1000000 := by rw [List.length_append] at n1; omega
  have n3 : (digs Z ++ (digs T.length ++ worksB T T.length)).length ≤ 1000000 := by rw [List.length_append] at n2; omega
  have n4 : (digs T.length ++ worksB T T.length).length ≤ 1000000 := by rw [List.length_append] at n3; omega
  have n5 : (worksB T T.length).length ≤ 1000000 := by rw [List.length_append] at n4; omega
  clear hr hb0 hsp
  obtain ⟨N, hN⟩ : ∃ N, T.length = N := ⟨_, rfl⟩
  rw [hN] at HR0 hn h256 h2 h3 h4 h5 n1 n2 n3 n4 n5
  have HRD := Lib.hid (fun W (h : Rd W A (digs X ++ (digs Y ++ (digs Z ++ (digs N ++ worksB T N))))) => Read_len A _ n c W hn h hlen)
  have HN1 := Lib.hid (fun D g W (hr : RdrD D W g (digs X ++ (digs Y ++ (digs Z ++ (digs N ++ worksB T N)))) 0) => numD_put g X _ W hr hx h256 n1)
  have HN2 := Lib.hid (fun D g W (hr : RdrD D W g (digs Y ++ (digs Z ++ (digs N ++ worksB T N))) 0) => numD_put g Y _ W hr hy h2 n2)
  have HN3 := Lib.hid (fun D g W (hr : RdrD D W g (digs Z ++ (digs N ++ worksB T N)) 0) => numD_put g Z _ W hr hz h3 n3)
  have HN4 := Lib.hid (fun D g W (hr : RdrD D W g (digs N ++ worksB T N) 0) => numD_put g N _ W hr (by omega) h4 n4)
  have hWB : worksB T N = T.flatMap wkB := by unfold worksB; rw [← hN, List.take_length]
  rw [hWB] at h5 n5
  have H5 := Lib.hid h5
  have HSH := Lib.hid hS
  clear h5 hS hWB
  clear h256 h2 h3 h4 n1 n2 n3 n4
  go_enter Tryz.func85, Tryz.ntmps85
  go_wp2_with fail
  obtain ⟨q0, hq0⟩ : ∃ q, w.heap.size = q := ⟨_, rfl⟩
  obtain ⟨W0, hW0⟩ : ∃ W, W = w.alloc (.cells #[.int .i64 0, .int .i64 0, .int .i64 0, .slice none 0 0] 67) := ⟨_, rfl⟩
  have hs0 : q0 < W0.heap.size := by rw [hW0, ← hq0]; simp
  rw [← hW0] at HR0 HQ0 HB0 ⊢
  rw [hq0] at HQ0 HB0 ⊢
  clear hW0
  refine (HRD.out _ HR0.out).mono ?_
  rintro e w1 ⟨g, rfl, hg0, hr1, hb1⟩
  have HQ1 := Lib.hid (HQ0.out.below hb1.out hs0)
  have HB1 := Lib.hid (HB0.out.trans (hb1.out.mono (Nat.le_of_lt hs0)))
  obtain ⟨D, hD⟩ : ∃ D, w1.heap.size = D := ⟨_, rfl⟩
  have hgD : g < D := by obtain ⟨_, _, hh, _⟩ := hr1.out; rw [← hD]; exact hh.lt
  have HR1 := Lib.hid (hr1.out.dd)
  rw [hD] at HR1
  clear hr1 hb1 HQ0 HB0 HR0 HRD
  go_wp2_with fail
  refine (HN1.out _ _ _ HR1.out).mono ?_
  rintro e w2 ⟨rfl, hr2, hg2⟩
  go_wp2_with fail
  refine (HN2.out _ _ _ hr2.out).mono ?_
  rintro e w3 ⟨rfl, hr3, hg3⟩
  have hg3b := Lib.hid (grown_trans hg2.out hg3.out)
  go_wp2_with fail
  refine (HN3.out _ _ _ hr3.out).mono ?_
  rintro e w4 ⟨rfl, hr4, hg4⟩
  have HG4 := Lib.hid (grown_trans hg3b.out hg4.out)
  have HR4 := hr4
  have HQ4 := Lib.hid (HQ1.out.grn HG4.out (by omega))
  have hs4 : D ≤ w4.heap.size := by rw [← hD]; exact HG4.out.size
  clear hr2 hg2 hr3 hg3 hg3b hr4 hg4 HR1 HN1 HN2 HN3 HQ1
  have hb5 : Below w4.heap.size w4 (w4.alloc (.cells #[.int .i64 (X : Int), .int .i64 (Y : Int), .int .i64 (Z : Int), .slice none 0 0] 67)) := (Below.refl _ w4).alloc (Nat.le_refl _) _
  have HP5 := Lib.hid (Has.new w4 67 #[.int .i64 (X : Int), .int .i64 (Y : Int), .int .i64 (Z : Int), .slice none 0 0])
  have HQ5 := Lib.hid (HQ4.out.below hb5 HQ4.out.lt)
  have HG5 := Lib.hid (grn_below HG4.out hb5)
  have HR5 := Lib.hid (HR4.out.al hgD hs4 (.cells #[.int .i64 (X : Int), .int .i64 (Y : Int), .int .i64 (Z : Int), .slice none 0 0] 67))
  clear hb5 HR4 HQ4 HG4
  go_wp2_with fail
  obtain ⟨W5, hW5⟩ : ∃ W, W = w4.alloc (.cells #[.int .i64 (X : Int), .int .i64 (Y : Int), .int .i64 (Z : Int), .slice none 0 0] 67) := ⟨_, rfl⟩
  have hs5 : w4.heap.size < W5.heap.size := by rw [hW5]; simp
  rw [← hW5] at HP5 HQ5 HG5 HR5 ⊢
  clear hW5
  generalize w4.heap.size = q5 at *
  refine (HN4.out _ _ _ HR5.out).mono ?_
  rintro e w6 ⟨rfl, hr6, hg6⟩
  have HP6 := Lib.hid (HP5.out.grn hg6.out (by omega))
  have HQ6 := Lib.hid (HQ5.out.grn hg6.out (by omega))
  have HG6 := Lib.hid (grown_trans HG5.out hg6.out)
  have HR6 := hr6
  have hs6 : q5 < w6.heap.size := Nat.lt_of_lt_of_le hs5 hg6.out.size
  clear hr6 hg6 HP5 HQ5 HG5 HR5 HN4
  go_wp2_with fail
  obtain ⟨wo, rfl⟩ : ∃ wo : World, wo = w6 := ⟨_, rfl⟩
  go_loopw [19] (fun i wx => ∃ (k : Nat) (v : Value), k ≤ N ∧ i = .int .i64 k ∧ Hid (Has wx q5 67 #[.int .i64 (X : Int), .int .i64 (Y : Int), .int .i64 (Z : Int), v]) ∧ Hid (OwnW (q5 + 1) wx v (T.take k)) ∧ Hid (RdrD D wx g ((T.drop k).flatMap wkB) 0) ∧ Hid (Has wx q0 67 #[.int .i64 0, .int .i64 0, .int .i64 0, .slice none 0 0]) ∧ Hid (w1.grownBy wx (some g))) (fun i _ => N - (intOf i).toNat)
  case atStart =>
    refine ⟨0, _, by omega, rfl, HP6.out, ownW_nil _ _, ?_, HQ6.out, HG6.out⟩
    have := HR6.out
    rw [← hN] at this
    unfold worksB at this
    rw [List.take_length] at this
    exact this
  case round =>
    obtain ⟨k, v, hkn, rfl, HPr, HOr, HRr, HQr, HGr⟩ := hrel
    by_cases hkl : k < N
    · have hkt : k < T.length := by omega
      have HR7 := Lib.hid HRr.out
      rw [wdrop_cons T k hkt] at HR7
      have hxs := HSH.out T[k] (List.getElem_mem hkt)
      have hl : ∀ x ∈ wkB ⟨T[k].t, T[k].d, T[k].k⟩ ++ (T.drop (k + 1)).flatMap wkB, x < 256 := fun x hx => H5.out x (wdrop_mem (by rw [wdrop_cons T k hkt]; exact hx))
      have hb : (wkB ⟨T[k].t, T[k].d, T[k].k⟩ ++ (T.drop (k + 1)).flatMap wkB).length ≤ 1000000 := by rw [← wdrop_cons T k hkt]; exact Nat.le_trans (wdrop_len T k) n5
      have HW := Lib.hid (pwork_any g T[k].t T[k].k T[k].d _ wr HR7.out hgD (by rw [← hD]; exact HGr.out.size) hxs.1 hxs.2 hl hb)
      have hkz : (k : Int) < (N : Int) := by omega
      clear HR7 hl hb HRr
      go_wp2_with fail
      refine HW.out.mono ?_
      rintro e w8 ⟨rfl, hr8, hg8⟩
      have hsr : q5 < wr.heap.size := HPr.out.lt
      have hs8 : q5 < w8.heap.size := Nat.lt_of_lt_of_le hsr hg8.out.size
      have hb9 : Below w8.heap.size w8 (w8.alloc (.cells #[.string T[k].t, .bool T[k].d, .string T[k].k] 143)) := (Below.refl _ w8).alloc (Nat.le_refl _) _
      have HP8 := HPr.out.grn hg8.out (by omega)
      have HQ8 := HQr.out.grn hg8.out (by omega)
      have HP9 := Lib.hid (HP8.below hb9 HP8.lt)
      have HQ9 := Lib.hid (HQ8.below hb9 HQ8.lt)
      have HO9 := Lib.hid ((HOr.out.grn hg8.out (by omega)).below hb9)
      have HG9 := Lib.hid (grn_below (grown_trans HGr.out hg8.out) hb9)
      have HR9 := Lib.hid (hr8.out.al hgD (by omega) (.cells #[.string T[k].t, .bool T[k].d, .string T[k].k] 143))
      have HB9 := Lib.hid (Has.new w8 143 #[.string T[k].t, .bool T[k].d, .string T[k].k])
      have hs9 : w8.heap.size < (w8.alloc (.cells #[.string T[k].t, .bool T[k].d, .string T[k].k] 143)).heap.size := by simp
      clear hb9 HP8 HQ8 hr8 hg8 HPr HQr HOr HGr HW
      have HAP := Lib.hid (appW (w8.alloc (.cells #[.string T[k].t, .bool T[k].d, .string T[k].k] 143)) (w8.heap.size + 1) (by simp) (q5 + 1) v (T.take k) ⟨T[k].t, T[k].d, T[k].k⟩ HO9.out (by omega) (by rw [List.length_take]; omega))
      have p3 : (w8.alloc (.cells #[.string T[k].t, .bool T[k].d, .string T[k].k] 143)).cell? ⟨q5, 3, none⟩ = some v := HP9.out.cell 3
      have b0 : (w8.alloc (.cells #[.string T[k].t, .bool T[k].d, .string T[k].k] 143)).cell? ⟨w8.heap.size, 0, none⟩ = some (.string T[k].t) := HB9.out.cell 0
      have b1 : (w8.alloc (.cells #[.string T[k].t, .bool T[k].d, .string T[k].k] 143)).cell? ⟨w8.heap.size, 1, none⟩ = some (.bool T[k].d) := HB9.out.cell 1
      have b2 : (w8.alloc (.cells #[.string T[k].t, .bool T[k].d, .string T[k].k] 143)).cell? ⟨w8.heap.size, 2, none⟩ = some (.string T[k].k) := HB9.out.cell 2
      go_wp2_with (at_builtin; refine wpList_app rfl _ _ 65 65 rfl v (.slice (some ⟨w8.heap.size + 1, 0, none⟩) 1 1) rfl rfl ?_; obtain ⟨R, W', hrun, hmade⟩ := HAP.out; refine ⟨R, W', hrun, ?_⟩; obtain ⟨RA, rn, rc, rfl, _⟩ := ownW_open hmade.1; have HM := Lib.hid hmade; have HPm := Lib.hid (HP9.out.below hmade.2 (by omega)); have m3 : W'.cell? ⟨q5, 3, none⟩ = some v := HPm.out.cell 3; have m4 : W'.frozen? ⟨q5, 3, none⟩ = false := HPm.out.free 3; clear hrun hmade HAP)
      go_roundw
      case rel =>
        refine ⟨k + 1, .slice RA rn rc, by omega, by go_num, HPm.out.put 3 _, ?_, ?_, (HQ9.out.below HM.out.2 (by omega)).far (p := ⟨q5, 3, none⟩) (by show q0 ≠ q5; omega) _, grn_set (grn_belowB HG9.out (by omega) HM.out.2) (p := ⟨q5, 3, none⟩) (by show w1.heap.size ≤ q5; omega) _⟩
        · have h1 := HM.out.1.far (p := ⟨q5, 3, none⟩) (by show q5 < q5 + 1; omega) (.slice RA rn rc)
          rw [List.take_succ_eq_append_getElem hkt]
          exact h1
        · exact HR9.out.keep hgD ((HM.out.2.mono (by omega)).setCell (p := ⟨q5, 3, none⟩) (by show D ≤ q5; omega) _)
      case measure => simp [intOf]; omega
    · obtain rfl : k = N := by omega
      have hkz : ¬ (k : Int) < (k : Int) := by omega
      have HEN := Lib.hid (End_get g _ 0 wr HRr.out.rdr (by rw [← hN, List.drop_length]; simp))
      have hed : endF ((T.drop k).flatMap wkB) 0 = 0 := by rw [← hN, List.drop_length]; rfl
      rw [hed] at HEN
      obtain ⟨VA, vn, vc, rfl, _⟩ := ownW_open HOr.out
      have p0 : wr.cell? ⟨q5, 0, none⟩ = some (.int .i64 (X : Int)) := HPr.out.cell 0
      have p1 : wr.cell? ⟨q5, 1, none⟩ = some (.int .i64 (Y : Int)) := HPr.out.cell 1
      have p2 : wr.cell? ⟨q5, 2, none⟩ = some (.int .i64 (Z : Int)) := HPr.out.cell 2
      have p3 : wr.cell? ⟨q5, 3, none⟩ = some (.slice VA vn vc) := HPr.out.cell 3
      go_wp2_with fail
      refine HEN.out.mono ?_
      rintro e x ⟨rfl, rfl⟩
      go_wp2_with fail
      have HBR : Hid (Below w.heap.size w wr) := Below.turn (by rw [hq0]; exact HB1.out) HGr.out (by rw [hq0]; omega)
      have HOT : Hid (OwnW (q5 + 1) wr (.slice VA vn vc) T) := by have h1 := HOr.out; rw [← hN, List.take_length] at h1; exact h1
      have hMY := pptmay_any (X : Int) (Y : Int) (Z : Int) wr HOT.out (by omega) (fun x hx => ⟨by have := (HSH.out x hx).1; omega, (HSH.out x hx).2⟩) (hTb.below HBR.out)
      rw [hok] at hMY
      refine hMY.mono ?_
      rintro e w10 ⟨rfl, hb10⟩
      have P10 := Lib.hid (HPr.out.below hb10.out HPr.out.lt)
      have Q10 := Lib.hid (HQr.out.below hb10.out HQr.out.lt)
      have O10 := Lib.hid (HOT.out.below hb10.out)
      have B10 := Lib.hid (HBR.out.trans (hb10.out.mono HBR.out.size))
      have P0 : w10.cell? ⟨q5, 0, none⟩ = some (.int .i64 (X : Int)) := P10.out.cell 0
      have P1 : w10.cell? ⟨q5, 1, none⟩ = some (.int .i64 (Y : Int)) := P10.out.cell 1
      have P2 : w10.cell? ⟨q5, 2, none⟩ = some (.int .i64 (Z : Int)) := P10.out.cell 2
      have P3 : w10.cell? ⟨q5, 3, none⟩ = some (.slice VA vn vc) := P10.out.cell 3
      have Q0 : w10.cell? ⟨q0, 0, none⟩ = some (.int .i64 0) := Q10.out.cell 0
      have Q1 : w10.cell? ⟨q0, 1, none⟩ = some (.int .i64 0) := Q10.out.cell 1
      have Q2 : w10.cell? ⟨q0, 2, none⟩ = some (.int .i64 0) := Q10.out.cell 2
      have Q3 : w10.cell? ⟨q0, 3, none⟩ = some (.slice none 0 0) := Q10.out.cell 3
      have F0 : w10.frozen? ⟨q0, 0, none⟩ = false := Q10.out.free 0
      have F1 : w10.frozen? ⟨q0, 1, none⟩ = false := Q10.out.free 1
      have F2 : w10.frozen? ⟨q0, 2, none⟩ = false := Q10.out.free 2
      have F3 : w10.frozen? ⟨q0, 3, none⟩ = false := Q10.out.free 3
      clear hMY
      go_wp2_with fail
      have hE : Hid (Has ((((w10.setCell ⟨q0, 0, none⟩ (.int .i64 (X : Int))).setCell ⟨q0, 1, none⟩ (.int .i64 (Y : Int))).setCell ⟨q0, 2, none⟩ (.int .i64 (Z : Int))).setCell ⟨q0, 3, none⟩ (.slice VA vn vc)) q0 67 #[.int .i64 (X : Int), .int .i64 (Y : Int), .int .i64 (Z : Int), .slice VA vn vc]) := (((Q10.out.put 0 _).put 1 _).put 2 _).put 3 _
      have hO : Hid (OwnW w.heap.size ((((w10.setCell ⟨q0, 0, none⟩ (.int .i64 (X : Int))).setCell ⟨q0, 1, none⟩ (.int .i64 (Y : Int))).setCell ⟨q0, 2, none⟩ (.int .i64 (Z : Int))).setCell ⟨q0, 3, none⟩ (.slice VA vn vc)) (.slice VA vn vc) T) := ownW_down ((((O10.out.far (p := ⟨q0, 0, none⟩) (by show q0 < q5 + 1; omega) _).far (p := ⟨q0, 1, none⟩) (by show q0 < q5 + 1; omega) _).far (p := ⟨q0, 2, none⟩) (by show q0 < q5 + 1; omega) _).far (p := ⟨q0, 3, none⟩) (by show q0 < q5 + 1; omega) _) (by omega)
      have hB : Hid (Below w.heap.size w ((((w10.setCell ⟨q0, 0, none⟩ (.int .i64 (X : Int))).setCell ⟨q0, 1, none⟩ (.int .i64 (Y : Int))).setCell ⟨q0, 2, none⟩ (.int .i64 (Z : Int))).setCell ⟨q0, 3, none⟩ (.slice VA vn vc))) := (((B10.out.setCell (p := ⟨q0, 0, none⟩) (by show w.heap.size ≤ q0; omega) _).setCell (p := ⟨q0, 1, none⟩) (by show w.heap.size ≤ q0; omega) _).setCell (p := ⟨q0, 2, none⟩) (by show w.heap.size ≤ q0; omega) _).setCell (p := ⟨q0, 3, none⟩) (by show w.heap.size ≤ q0; omega) _
      exact bodyPost_ret (pEnd2 rfl _ q0 _ _ _ _ _ rfl hE.out) rfl ⟨_, rfl, hO, hB⟩
end Go.Proofs.YtlhfdhmmdnkojaaGreatDoor
namespace Go.Proofs.YtlhfdhmmdnkojaaGreatDoor
open Go.RowKit Go.Shelf Go.Maps Dg
set_option maxRecDepth 100000
set_option linter.unusedVariables false
theorem behindO_any (A' : Option Addr) (m : List Nat) (d : Nat) (w : World) (hA' : Rd w A' m) (hm : 0 < m.length) (hb : m.length ≤ 1000000) :
    Calls Tryz.prog 106 #[.slice none 0 0, .slice A' m.length d] w (OutO w m) := by
  obtain ⟨R, W', hrun, ho, hb', _⟩ := own_appK w w.heap.size (.slice none 0 0) [] (own_nil _ _) (Nat.le_refl _) A' m m.length d rfl hA' (by simpa using hb) (fun e => by
    subst e
    obtain ⟨b, off, e, _⟩ := hA' (by intro e; rw [e] at hm; simp at hm)
    cases e)
  rw [List.nil_append] at ho
  have HO := Lib.hid ho
  have HB := Lib.hid hb'
  clear ho hb' hA'
  go_enter Tryz.func106, Tryz.ntmps106
  go_wp2_with (at_builtin; refine wpList_app rfl _ _ 37 37 rfl (.slice none 0 0) (.slice A' m.length d) rfl rfl ⟨R, W', hrun, ?_⟩)
  go_ret
  exact ⟨R, rfl, HO.out, HB.out⟩
theorem NumberO_any (n : Nat) (w : World) (hn63 : (n : Int) ≤ 9223372036854775807) :
    Calls Tryz.prog 54 #[.slice none 0 0, .int .i64 n] w (OutO w (digs n)) := by
  have hbig : n < ybig := by unfold ybig; omega
  have ht := digs_le_ten n hbig
  have hp := digs_pos n
  go_enter Tryz.func54, Tryz.ntmps54
  go_wp2_with fail
  refine (ydigits_any n _ hbig).mono ?_
  intro e w1 hd
  obtain ⟨A', d, rfl, hr, hb1⟩ := hd.out
  have HR := Lib.hid hr
  clear hr hd
  go_wp2_with fail
  refine (behindO_any A' (digs n) d _ HR.out hp (by omega)).mono ?_
  intro e w2 ho
  have HO := Lib.hid ho
  clear ho
  obtain ⟨v, rfl, hv, hb2⟩ := HO.out
  have HV := Lib.hid (own_down hv hb1.size)
  have HB := Lib.hid (hb1.trans (hb2.mono hb1.size))
  clear hv hb1 hb2 HO HR
  go_wp2_with fail
  go_ret
  exact ⟨v, rfl, HV.out, HB.out⟩
/-- An append whose run is known, at a fence. -/
theorem wpListIn_app {F : Fence} {k : Nat} {P : Program} {ops : Array Oper} {rest : List Oper} {o : Oper} {a : Act} {w : World} {Q : Exit → Act → World → Prop} (hgd : o.guard = none) (s x : Operand) (t tx : TypeId)
    (ho : o.op = .call { callee := .builtin .append, args := #[s, x], argTypes := #[t, tx] }) (v xv : Value) (hs : a.eval s = v) (hx : a.eval x = xv)
    (hrun : ∃ R W', (Builtin.append_ #[t, tx] o.type #[v, xv]).run P w = .ok R W' ∧ wpListIn F k P ops Q rest (a.put o.dst R) W') : wpListIn F k P ops Q (o :: rest) a w := by
  obtain ⟨R, W', hrun, h⟩ := hrun
  refine wpListIn_plain hgd fun K hK' => ?_
  unfold Oper.wpIn
  refine ⟨?_, ?_⟩
  · simp [Oper.about, ho, resolve, Target.leads, Sem.run_pure]
  · rw [Oper.semAt_plain F _ _ (by rw [ho]; intro c hc'; cases hc')]
    simp [execOp, ho, resolve, invoke, builtin, hs, hx, hrun, Result.andThen]
    exact hK' _ _ h
theorem run_loadVar_one {P : Program} (w : World) (g : Nat) (t ty : TypeId) (v : Value) (d : TypeDesc) (hg : Has w g t #[v]) (hu : P.underlying ty = some d) (hd : (match d with | .struct _ | .array _ _ => true | _ => false) = false) :
    (loadVar ty ⟨g, 0, none⟩).run P w = .ok v w := by
  have hagg : (isAgg ty).run P w = .ok false w := by
    unfold isAgg
    rw [Sem.run_bind, run_underlying hu w]
    cases d <;> simp_all
  have hc : w.cell? ⟨g, 0, none⟩ = some v := hg.cell 0
  simp [loadVar, Sem.run_bind, hagg, hc, go_sem]
/-- Blocks without cells stay where a row of the call's own grows. -/
def KeptR (w w' : World) : Prop := ∀ b, b < w.heap.size → Rec w b → w'.heap[b]? = w.heap[b]?
theorem own_appD (w : World) (B : Nat) (v : Value) (l : List Nat) (h : Own B w v l) (hB : B ≤ w.heap.size) (A : Option Addr) (m : List Nat) (k c : Nat) (hk : m.length = k) (hm : Rd w A m) (hs : l.length + k ≤ 1000000) (hA : A = none → c = 0) :
    ∃ R W', (Builtin.append_ #[37, 37] 37 #[v, .slice A k c]).run Tryz.prog w = .ok R W' ∧ Own B W' R (l ++ m) ∧ Below B w W' ∧ Kept w W' ∧ KeptR w W' ∧ Tur v.ownBlock.toList w W' ∧ (∀ k, R.ownBlock = some k → v.ownBlock = some k ∨ w.heap.size ≤ k) := by
  subst hk
  obtain ⟨i0, hi, hz0, hz1, hz2⟩ := info_parts info5
  rcases A with _ | a
  · have hl : m = [] := by
      rcases m with _ | ⟨x, m⟩
      · rfl
      · obtain ⟨b, off, e, _⟩ := hm (by simp)
        cases e
    subst hl
    rw [hA rfl, List.append_nil]
    exact ⟨v, w, run_append_owned_none w B 37 37 5 i0 1 Tryz.underlying37 hi v _ _ h, h, Below.refl _ _, fun _ _ _ _ hh => hh, fun _ _ _ => rfl, Tur.refl _ _, fun _ hk => .inl hk⟩
  · have hc : ∀ j u, (m.map bv)[j]? = some u → w.cell? (a.add j) = some u := by
      intro j u hj
      have hjl : j < m.length := by
        have := (List.getElem?_eq_some_iff.1 hj).1
        simpa using this
      obtain ⟨b, off, e, hc⟩ := hm (by rintro rfl; simp at hjl)
      injection e with e
      subst e
      rw [Addr.add_lit, hc j hjl]
      simpa [hjl] using hj
    obtain ⟨R, W', hrun, hown, hg, _, hx⟩ := run_append_own_at (P := Tryz.prog) w B 37 37 5 i0 (.int .u8 0) 1 1 Tryz.underlying37 hi hz0 hz1 hz2 rfl (by decide) v l.length (l.map bv) h a m.length c (m.map bv) (by simp) hc (bv_one m) (by unfold maxLen; omega) (by omega) hB
    have hne : ∀ b t cs, Has w b t cs → t ≠ 5 → some b ≠ v.ownBlock := by
      intro g t cs hh ht e
      rcases h.2 with ⟨hv, _⟩ | ⟨g', cap, cur, hv, _, hc2, _⟩
      · rw [hv] at e; cases e
      · rw [hv] at e
        have e2 : g = g' := by simpa [Value.ownBlock] using e
        subst e2
        unfold Has at hh
        rw [hc2] at hh
        simp at hh
        exact ht hh.2.symm
    refine ⟨R, W', hrun, ?_, (Below.refl B w).grown hg hB fun k hk => (World.ownsRow.lt h k hk).1, ?_, ?_, Tur.grown hg fun k hk => by rw [hk]; simp, ?_⟩
    · unfold Own; rw [List.map_append, List.length_append]; exact hown
    · exact fun g t cs ht hh => (hg.block g hh.lt (hne g t cs hh ht)).trans hh
    · intro b hb hr
      refine hg.block b hb fun e => ?_
      rcases h.2 with ⟨hv, _⟩ | ⟨g', cap, cur, hv, _, hc2, _⟩
      · rw [hv] at e; cases e
      · rw [hv] at e
        have e2 : b = g' := by simpa [Value.ownBlock] using e
        subst e2
        exact hr 5 cur hc2
    · intro k hk
      rcases hx with hx | hx
      · exact .inl (hx ▸ hk)
      · rw [hx] at hk
        injection hk with hk
        exact .inr (by omega)
theorem own_tur {X : List Nat} {B : Nat} {w w' : World} {v : Value} {l : List Nat} (h : Own B w v l) (ht : Tur X w w') (hx : ∀ g, v.ownBlock = some g → g ∉ X) : Own B w' v l := by
  rcases h.2 with ⟨hv, hn⟩ | ⟨g, cap, cur, hv, hg, hh, hc, hcm, hsz, htk⟩
  · exact ⟨h.1, .inl ⟨hv, hn⟩⟩
  · exact ⟨h.1, .inr ⟨g, cap, cur, hv, hg, Has.tur (t := 5) (cs := cur) hh ht (hx g (by rw [hv]; rfl)), hc, hcm, hsz, htk⟩⟩
theorem digs_zero : digs 0 = [0] := by decide +kernel
theorem results_cc {fn : Func} {p0 p1 : Tmp} {t0 t1 : TypeId} (h : fn.results = #[.cell p0 t0, .cell p1 t1]) (tmps : Array Value) (P : Program) (w : World) :
    (results fn tmps).run P w = ((asAddr (tmps.getD p0 undef)).run P w).andThen fun a w₁ => ((loadVar t0 a).run P w₁).andThen fun v w₂ => ((asAddr (tmps.getD p1 undef)).run P w₂).andThen fun a2 w₃ => ((loadVar t1 a2).run P w₃).andThen fun v2 w₄ => .ok (.tuple #[v, v2]) w₄ := by
  simp only [results, h]
  simp [Sem.run_bind, Result.andThen]
  try (split <;> first | rfl | (simp [Result.andThen]; done) | skip)
set_option maxHeartbeats 4000000 in
theorem wwrite0_any {B : Nat} {A : Option Addr} {n c : Nat} {T : List Wk} (Al : Option Addr) (nl cl : Nat) (Aw : Option Addr) (cw : Nat) (x y z : Int) (w : World) (h : OwnW B w (.slice A n c) T) (hsh : Short T) (hl : T.length ≤ 6) (hx : x ≤ 9223372036854775807) (hy : y ≤ 9223372036854775807) (hz : z ≤ 9223372036854775807) (hT : Tabs w) (hok : ptOk x y z T = true) (hlen : (ptB x y z T).length ≤ 900000) :
    Calls Tryz.prog 35 #[.slice Al nl cl, .slice Aw 0 cw, .agg #[.int .i64 x, .int .i64 y, .int .i64 z, .slice A n c]] w fun e w' => ∃ v, e = .returned (.tuple #[v, .int .i64 0]) ∧ Hid (Own w.heap.size w' v (0 :: ptB x y z T)) ∧ Hid (Below w.heap.size w w') := by
  have b1 : Below w.heap.size w (((w.alloc (.cells #[.int .i64 x, .int .i64 y, .int .i64 z, .slice A n c] 67)).alloc (.cells #[.slice none 0 0] 37)).alloc (.cells #[.int .i64 0] 38)) := (((Below.refl _ w).alloc (Nat.le_refl _) _).alloc (by simp) _).alloc (by simp; omega) _
  have hp : Has (((w.alloc (.cells #[.int .i64 x, .int .i64 y, .int .i64 z, .slice A n c] 67)).alloc (.cells #[.slice none 0 0] 37)).alloc (.cells #[.int .i64 0] 38)) (w.heap.size + 1) 37 #[.slice none 0 0] := by
    have h := Has.new (w.alloc (.cells #[.int .i64 x, .int .i64 y, .int .i64 z, .slice A n c] 67)) 37 #[.slice none 0 0]
    rw [World.size_alloc] at h
    exact h.alloc _
  have hq : Has (((w.alloc (.cells #[.int .i64 x, .int .i64 y, .int .i64 z, .slice A n c] 67)).alloc (.cells #[.slice none 0 0] 37)).alloc (.cells #[.int .i64 0] 38)) (w.heap.size + 1 + 1) 38 #[.int .i64 0] := by
    have h := Has.new ((w.alloc (.cells #[.int .i64 x, .int .i64 y, .int .i64 z, .slice A n c] 67)).alloc (.cells #[.slice none 0 0] 37)) 38 #[.int .i64 0]
    rw [World.size_alloc, World.size_alloc] at h
    exact h
  obtain ⟨k, hk⟩ : ∃ k : Nat, Hid (k = 3) := ⟨3, rfl⟩
  refine (callsIn_wide (n := k)).1 ?_
  have hro : Fence.wide.round = none := rfl
  have hdd : ∀ k : Nat, (Fence.wide.depth.isSome = true → 1 ≤ k) := fun k h => by cases h
  refine callsIn_of_wp_marks Tryz.func35 rfl trivial ?_ rfl
  simp only [Tryz.ntmps35, List.size_toArray, List.length_cons, List.length_nil, Nat.reduceAdd, Nat.reduceSub, Array.replicate_succ, Array.replicate_zero, List.push_toArray, List.append_toArray, List.nil_append, List.cons_append]
  have HWR := fun W (hb : Below w.heap.size w W) => Lib.hid (pwrite_any x y z W (h.below hb) hsh hl hx hy hz (hT.below hb))
  rw [hok] at HWR
  have hpos : 0 < (ptB x y z T).length := by
    unfold ptB numsB
    have := digs_pos x.toNat
    simp only [List.length_append]
    omega
  gi_wp2
  obtain ⟨W1, hW1⟩ : ∃ W, W = (((w.alloc (.cells #[.int .i64 x, .int .i64 y, .int .i64 z, .slice A n c] 67)).alloc (.cells #[.slice none 0 0] 37)).alloc (.cells #[.int .i64 0] 38)) := ⟨_, rfl⟩
  rw [← hW1] at b1 hp hq ⊢
  clear hW1
  refine ⟨trivial, hdd _, ?_⟩
  refine (callsIn_wide.2 (HWR W1 b1).out).mono ?_
  rintro e w2 ⟨v2, rfl, ho2, hb2⟩
  simp only [if_true] at ho2
  obtain ⟨A2, n2, c2, rfl, hn2, hr2, hz2⟩ := own_open ho2.out hpos
  have HP := Lib.hid (hp.below hb2.out hp.lt)
  have HQ := Lib.hid (hq.below hb2.out hq.lt)
  have HB2 := Lib.hid (b1.trans (hb2.out.mono b1.size))
  have hs2 := HB2.out.size
  have hp2 : w.heap.size + 1 < w2.heap.size := HP.out.lt
  have hq2 : w.heap.size + 1 + 1 < w2.heap.size := HQ.out.lt
  clear HWR h hT hsh hp hq b1 ho2 hb2
  gi_wp2
  refine ⟨trivial, hdd _, ?_⟩
  refine (callsIn_wide.2 (NumberO_any 0 w2 (by decide))).mono ?_
  rintro e w3 ⟨v3, rfl, ho3, hb3⟩
  rw [digs_zero] at ho3
  obtain ⟨A3, n3, c3, rfl, hn3, hr3, hz3⟩ := own_open ho3 (by simp)
  have HO3 := Lib.hid ho3
  have hs23 := hb3.size
  have hb2s : w.heap.size ≤ w3.heap.size := Nat.le_trans hs2 hs23
  have HP3 := Lib.hid (HP.out.below hb3 HP.out.lt)
  have HQ3 := Lib.hid (HQ.out.below hb3 HQ.out.lt)
  have HR3 := Lib.hid (hr2.out.below hb3)
  have HB3 := Lib.hid (HB2.out.trans (hb3.mono HB2.out.size))
  clear ho3 hb3 hr2 HP HQ HB2 hn3 hr3 hz3
  have hb4 : Below w3.heap.size w3 (w3.alloc (.cells #[.slice A3 n3 c3] 37)) := (Below.refl _ w3).alloc (Nat.le_refl _) _
  have HX4 := Lib.hid (Has.new w3 37 #[.slice A3 n3 c3])
  have HO4 := Lib.hid (HO3.out.below hb4)
  have HP4 := Lib.hid (HP3.out.below hb4 HP3.out.lt)
  have HQ4 := Lib.hid (HQ3.out.below hb4 HQ3.out.lt)
  have HR4 := Lib.hid (HR3.out.below hb4)
  have HB4 := Lib.hid (HB3.out.trans (hb4.mono HB3.out.size))
  gi_wp2
  obtain ⟨W4, hW4⟩ : ∃ W, W = w3.alloc (.cells #[.slice A3 n3 c3] 37) := ⟨_, rfl⟩
  have hl4 : w2.heap.size ≤ W4.heap.size := by rw [hW4]; exact Nat.le_trans hs23 hb4.size
  rw [← hW4] at HX4
  rw [← hW4] at HO4 HP4 HQ4 HR4 HB4
  rw [← hW4]
  clear hW4 hb4 HO3 HP3 HQ3 HR3 HB3
  refine ⟨trivial, hdd _, ?_⟩
  refine (callsIn_wide.2 (given_any W4 Aw 0 cw)).mono ?_
  rintro e w5 ⟨rfl, hw5⟩
  have hb5 : Below W4.heap.size W4 w5 := by rw [hw5]; exact (Below.refl _ W4).alloc (Nat.le_refl _) _
  clear hw5
  gi_wp2
  refine ⟨trivial, hdd _, ?_⟩
  refine (callsIn_wide.2 (moments_any w5 Al nl cl 0 _ _)).mono ?_
  rintro e w6 ⟨rfl, hw6⟩
  have hb6 : Below w5.heap.size w5 w6 := by rw [hw6]; exact (((Below.refl _ w5).alloc (Nat.le_refl _) _).alloc (by simp) _).alloc (by simp; omega) _
  have ha6 : Has w6 w5.heap.size 22 #[.slice Al nl cl] := by rw [hw6]; exact ((Has.new w5 _ _).alloc _).alloc _
  have hc6 : Has w6 (w5.heap.size + 1) 3 #[.int .i64 0] := by
    have h := Has.new (w5.alloc (.cells #[.slice Al nl cl] 22)) 3 #[.int .i64 0]
    rw [World.size_alloc] at h
    rw [hw6]
    exact h.alloc _
  clear hw6
  have hb56 := hb5.trans (hb6.mono hb5.size)
  have HX6 := Lib.hid (HX4.out.below hb56 HX4.out.lt)
  have HO6 := Lib.hid (HO4.out.below hb56)
  have HP6 := Lib.hid (HP4.out.below hb56 HP4.out.lt)
  have HQ6 := Lib.hid (HQ4.out.below hb56 HQ4.out.lt)
  have HR6 := Lib.hid (HR4.out.below hb56)
  have HB6 := Lib.hid (HB4.out.trans (hb56.mono HB4.out.size))
  clear HX4 HO4 HP4 HQ4 HR4 HB4 hb5 hb6
  gi_wp2
  refine wp_tells (xs := ([] : List Empty)) rfl rfl (gf := 127) (by rfl) trivial (enters_of Tryz.func127 (by kernel_rfl) rfl)
    (it0_tells w6 w5.heap.size (w5.heap.size + 1) (w5.heap.size + 2) Al nl cl ha6 hc6) (Nat.le_refl _) (fun _ _ => rfl) (by rintro c (rfl | rfl); exact ha6.lt; exact hc6.lt) (fun x => x.elim)
    (fun p Y U => Y = [] ∧ Below w6.heap.size w6 U)
    (fun c p Y U => False)
    (fun p Y U U' Z h ht hz => ⟨h.1, h.2.trans (ht.below (fun b hb => (hz b hb).1) h.2.size)⟩)
    (fun c p Y U U' Z h ht hz => h)
    (fun p Y U h b hb => by rw [h.1] at hb; cases hb)
    [] (by simp) ⟨rfl, Below.refl _ _⟩ ?loop ?done ?stop
  case loop => exact ⟨fun x => x.elim, fun _ _ x => x.elim, fun _ _ _ x => x.elim⟩
  case stop => rintro D c p Y U hD ⟨⟩
  case done =>
    rintro D Y U hD ⟨_, hbu⟩ _ hDd
    have HX7 := Lib.hid (HX6.out.below hbu HX6.out.lt)
    have HP7 := Lib.hid (HP6.out.below hbu HP6.out.lt)
    have HQ7 := Lib.hid (HQ6.out.below hbu HQ6.out.lt)
    have HO7 := Lib.hid (HO6.out.below hbu)
    have HR7 := Lib.hid (HR6.out.below hbu)
    have HB7 := Lib.hid (HB6.out.trans (hbu.mono HB6.out.size))
    have hs7 : w2.heap.size ≤ U.heap.size := Nat.le_trans hl4 (Nat.le_trans hb56.size hbu.size)
    clear HX6 HP6 HQ6 HO6 HR6 HB6
    have c0 := HX7.out.cell 0
    obtain ⟨R8, W8, hrun8, ho8, hb8, hk8, hr8, ht8, hx8⟩ := own_appD U w2.heap.size (.slice A3 n3 c3) [0] HO7.out hs7 A2 (ptB x y z T) n2 c2 hn2.out HR7.out (by have := hn2.out; simp; omega) hz2.out
    obtain ⟨A8, n8, c8, rfl, _, _, _⟩ := own_open ho8 (by simp)
    have HP8 := Lib.hid (hk8 _ _ _ (by decide) HP7.out)
    have HQ8 := Lib.hid (hk8 _ _ _ (by decide) HQ7.out)
    have HB8 := Lib.hid (HB7.out.trans (hb8.mono hs2))
    have HO8 := Lib.hid ho8
    have p8 := HP8.out.free 0
    have p9 := HP8.out.cell 0
    have HQ9 := Lib.hid (HQ8.out.far (p := ⟨w.heap.size + 1, 0, none⟩) (by show w.heap.size + 1 + 1 ≠ w.heap.size + 1; omega) (.slice A8 n8 c8))
    have q8 := HQ9.out.free 0
    have q9 := HQ9.out.cell 0
    have HP9 := Lib.hid (HP8.out.put 0 (.slice A8 n8 c8))
    have HPA := Lib.hid (HP9.out.far (p := ⟨w.heap.size + 1 + 1, 0, none⟩) (by show w.heap.size + 1 ≠ w.heap.size + 1 + 1; omega) (.int .i64 0))
    have HQA := Lib.hid (HQ9.out.put 0 (.int .i64 0))
    clear ho8 hb8 hk8 HX7 HP7 HQ7 HO7 HR7 HB7
    gi_wp2_with (gi_at_builtin; refine wpListIn_app rfl _ _ 37 37 rfl (.slice A3 n3 c3) (.slice A2 n2 c2) rfl rfl ⟨.slice A8 n8 c8, W8, hrun8, ?_⟩)
    have hd9 : ((W8.setCell ⟨w.heap.size + 1, 0, none⟩ (.slice A8 n8 c8)).setCell ⟨w.heap.size + 1 + 1, 0, none⟩ (.int .i64 0)).heap[D]? = some (.deferred (some [])) := by
      have hDl : D < U.heap.size := (Array.getElem?_eq_some_iff.1 hDd).1
      have h8 := (hr8 D hDl (rec_of hDd (fun _ _ => by simp))).trans hDd
      have n1 : D ≠ w.heap.size + 1 := fun e => by have := HP8.out; rw [← e] at this; rw [this] at h8; cases h8
      have n2 : D ≠ w.heap.size + 1 + 1 := fun e => by have := HQ8.out; rw [← e] at this; rw [this] at h8; cases h8
      rw [Below.heap_setCell _ _ _ _ (by exact fun e => n2 e), Below.heap_setCell _ _ _ _ (by exact fun e => n1 e)]
      exact h8
    have HBA := Lib.hid ((HB8.out.setCell (p := ⟨w.heap.size + 1, 0, none⟩) (by show w.heap.size ≤ w.heap.size + 1; omega) (.slice A8 n8 c8)).setCell (p := ⟨w.heap.size + 1 + 1, 0, none⟩) (by show w.heap.size ≤ w.heap.size + 1 + 1; omega) (.int .i64 0))
    have ht9 : Tur [w.heap.size + 1, w.heap.size + 1 + 1] W8 ((W8.setCell ⟨w.heap.size + 1, 0, none⟩ (.slice A8 n8 c8)).setCell ⟨w.heap.size + 1 + 1, 0, none⟩ (.int .i64 0)) := (Tur.setCell W8 (p := ⟨w.heap.size + 1, 0, none⟩) (by simp) _).trans (Tur.setCell _ (p := ⟨w.heap.size + 1 + 1, 0, none⟩) (by simp) _) (Fre.refl _ _)
    have HOA := Lib.hid (own_tur HO8.out ht9 (fun g hg => by have := (World.ownsRow.lt HO8.out g hg).1; simp; omega))
    have hnD : ∀ g, (Value.slice A8 n8 c8).ownBlock = some g → g ∉ [D] := fun g hg hh => by
      rw [List.mem_singleton.1 hh] at hg
      have hDl : D < U.heap.size := (Array.getElem?_eq_some_iff.1 hDd).1
      rcases HO8.out.2 with ⟨hv, _⟩ | ⟨g', cap, cur, hv, _, hc2, _⟩
      · rw [hv] at hg; cases hg
      · rw [hv] at hg
        have e2 : D = g' := by have := hg; simp [Value.ownBlock] at this; exact this.symm
        subst e2
        have h8 := (hr8 D hDl (rec_of hDd (fun _ _ => by simp))).trans hDd
        rw [hc2] at h8
        cases h8
    obtain ⟨W9, hW9⟩ : ∃ W, W = ((W8.setCell ⟨w.heap.size + 1, 0, none⟩ (.slice A8 n8 c8)).setCell ⟨w.heap.size + 1 + 1, 0, none⟩ (.int .i64 0)) := ⟨_, rfl⟩
    rw [← hW9] at hd9 HBA HOA HPA HQA ⊢
    have htD : Tur [D] W9 (W9.putObj D (.deferred none)) := Tur.putObj W9 (by simp) _
    refine ⟨by simp, .inl ⟨_, _, rfl, run_takeDeferred hd9, ?_⟩⟩
    have hwD : w.heap.size + 1 + 1 < D := by have := hb56.size; omega
    have hHP := HPA.out.tur htD (by simp; omega)
    have hHQ := HQA.out.tur htD (by simp; omega)
    refine ⟨.tuple #[.slice A8 n8 c8, .int .i64 0], ?_, .slice A8 n8 c8, rfl, ?_, ?_⟩
    · rw [results_cc (fn := Tryz.f35) rfl]
      simp only [Array.getD_eq_getD_getElem?, List.getElem?_toArray, List.getElem?_cons_succ, List.getElem?_cons_zero, Option.getD_some, asAddr, Sem.run_pure, Result.andThen_ok]
      rw [run_loadVar_one _ _ _ _ _ _ hHP Tryz.underlying37 rfl]
      simp only [Result.andThen_ok]
      rw [run_loadVar_one _ _ _ _ _ _ hHQ Tryz.underlying38 rfl]
      rfl
    · exact own_down (own_tur HOA.out htD hnD) hs2
    · exact HBA.out.trans (htD.below (B := w.heap.size) (by simp; omega) HBA.out.size)
end Go.Proofs.YtlhfdhmmdnkojaaGreatDoor
namespace Go.Proofs.YtlhfdhmmdnkojaaGreatDoor
open Go.RowKit Go.Shelf Go.Maps Dg
set_option maxRecDepth 100000
set_option linter.unusedVariables false
theorem pt_byte (x y z : Int) (T : List Wk) : ∀ b ∈ ptB x y z T, b < 256 := by
  intro b hb
  unfold ptB numsB worksB at hb
  rcases List.mem_append.1 hb with h | h
  · rcases List.mem_append.1 h with h | h
    · rcases List.mem_append.1 h with h | h
      · rcases List.mem_append.1 h with h | h
        · exact digs_byte _ b h
        · exact digs_byte _ b h
      · exact digs_byte _ b h
    · exact digs_byte _ b h
  · obtain ⟨x, hx, hb⟩ := List.mem_flatMap.1 h
    unfold wkB at hb
    rcases List.mem_append.1 hb with h | h
    · exact ytxt_byte _ b h
    · rcases List.mem_append.1 h with h | h
      · cases hd : x.d <;> simp [hd] at h <;> omega
      · exact ytxt_byte _ b h
theorem left14_any (g : Nat) (l : List Nat) (e : Nat) (w : World) (h : Rdr w g l e) :
    Calls Tryz.prog 86 #[.pointer (some ⟨g, 0, none⟩)] w fun x w' => x = .returned (.int .i64 l.length) ∧ w = w' := by
  obtain ⟨A, c, hh, hn, hr⟩ := h
  have HH := Lib.hid hh
  clear hh hr
  have c0 := HH.out.cell 0
  simp at c0
  go_enter Tryz.func86, Tryz.ntmps86
  go_wp2_with fail
  go_ret
  exact ⟨rfl, rfl⟩
/-- What is asked of a way that does not panic. -/
def noPanic (Q : Exit → Act → World → Prop) : Exit → Act → World → Prop
  | .panic _, _, _ => False
  | e, a, w => Q e a w
theorem wpIn_noPanic {c : Code} {F : Fence} {n : Nat} {P : Program} {Q : Exit → Act → World → Prop} {a : Act} {w : World} (h : c.wpIn F n P (noPanic Q) a w) : c.wpIn F n P Q a w :=
  wpIn_mono h (by intro e a W h; cases e <;> first | exact h | exact h.elim)
theorem ownW_tur {X : List Nat} {B : Nat} {w w' : World} {v : Value} {T : List Wk} (h : OwnW B w v T) (ht : Tur X w w') (hx : ∀ g, v.ownBlock = some g → g ∉ X) : OwnW B w' v T := by
  rcases h.2 with ⟨hv, hn⟩ | ⟨g, cap, cur, hv, hg, hh, hc, hcm, hsz, htk⟩
  · exact ⟨h.1, .inl ⟨hv, hn⟩⟩
  · exact ⟨h.1, .inr ⟨g, cap, cur, hv, hg, Has.tur (t := 143) (cs := cur) hh ht (hx g (by rw [hv]; rfl)), hc, hcm, hsz, htk⟩⟩
theorem results_ccc {fn : Func} {p0 p1 p2 : Tmp} {t0 t1 t2 : TypeId} (h : fn.results = #[.cell p0 t0, .cell p1 t1, .cell p2 t2]) (tmps : Array Value) (P : Program) (w : World) :
    (results fn tmps).run P w = ((asAddr (tmps.getD p0 undef)).run P w).andThen fun a w₁ => ((loadVar t0 a).run P w₁).andThen fun v w₂ => ((asAddr (tmps.getD p1 undef)).run P w₂).andThen fun a2 w₃ => ((loadVar t1 a2).run P w₃).andThen fun v2 w₄ => ((asAddr (tmps.getD p2 undef)).run P w₄).andThen fun a3 w₅ => ((loadVar t2 a3).run P w₅).andThen fun v3 w₆ => .ok (.tuple #[v, v2, v3]) w₆ := by
  simp only [results, h]
  simp [Sem.run_bind, Result.andThen]
  try (split <;> first | rfl | (simp [Result.andThen]; done) | skip)
theorem rd_tail {w : World} {A : Option Addr} {x : Nat} {l : List Nat} (h : Rd w A (x :: l)) : ∃ b off, A = some ⟨b, off, none⟩ ∧ Rd w (some ⟨b, off + 1, none⟩) l := by
  obtain ⟨b, off, e, hc⟩ := h (by simp)
  refine ⟨b, off, e, fun hl => ⟨b, off + 1, rfl, fun i hi => ?_⟩⟩
  have := hc (i + 1) (by simpa using hi)
  rw [show off + 1 + i = off + (i + 1) by omega, this]
  simp
set_option maxHeartbeats 4000000 in
theorem wread0_any (X Y Z : Nat) (T : List Wk) (Al : Option Addr) (nl cl : Nat) (A : Option Addr) (n c : Nat) (w : World) (hr : Rd w A (0 :: ptB (X : Int) (Y : Int) (Z : Int) T)) (hn : (ptB (X : Int) (Y : Int) (Z : Int) T).length + 1 = n) (hnc : n ≤ c) (hlen : n ≤ 1000000) (hx : X ≤ 9223372036854775807) (hy : Y ≤ 9223372036854775807) (hz : Z ≤ 9223372036854775807) (hT : T.length ≤ 6) (hS : ∀ x ∈ T, x.t.size ≤ 32 ∧ x.k.size ≤ 900) (hTb : Tabs w) (hok : ptOk (X : Int) (Y : Int) (Z : Int) T = true) :
    Calls Tryz.prog 37 #[.slice Al nl cl, .slice A n c] w fun e w' => ∃ v, e = .returned (.tuple #[.slice none 0 0, .agg #[.int .i64 (X : Int), .int .i64 (Y : Int), .int .i64 (Z : Int), v], .int .i64 0]) ∧ Hid (OwnW w.heap.size w' v T) ∧ Hid (Below w.heap.size w w') := by
  have b1 : Below w.heap.size w (((w.alloc (.cells #[.slice none 0 0] 55)).alloc (.cells #[.int .i64 0, .int .i64 0, .int .i64 0, .slice none 0 0] 67)).alloc (.cells #[.int .i64 0] 38)) := (((Below.refl _ w).alloc (Nat.le_refl _) _).alloc (by simp) _).alloc (by simp; omega) _
  have hp : Has (((w.alloc (.cells #[.slice none 0 0] 55)).alloc (.cells #[.int .i64 0, .int .i64 0, .int .i64 0, .slice none 0 0] 67)).alloc (.cells #[.int .i64 0] 38)) w.heap.size 55 #[.slice none 0 0] := ((Has.new w _ _).alloc _).alloc _
  have hq : Has (((w.alloc (.cells #[.slice none 0 0] 55)).alloc (.cells #[.int .i64 0, .int .i64 0, .int .i64 0, .slice none 0 0] 67)).alloc (.cells #[.int .i64 0] 38)) (w.heap.size + 1) 67 #[.int .i64 0, .int .i64 0, .int .i64 0, .slice none 0 0] := by
    have h := Has.new (w.alloc (.cells #[.slice none 0 0] 55)) 67 #[.int .i64 0, .int .i64 0, .int .i64 0, .slice none 0 0]
    rw [World.size_alloc] at h
    exact h.alloc _
  have ho : Has (((w.alloc (.cells #[.slice none 0 0] 55)).alloc (.cells #[.int .i64 0, .int .i64 0, .int .i64 0, .slice none 0 0] 67)).alloc (.cells #[.int .i64 0] 38)) (w.heap.size + 1 + 1) 38 #[.int .i64 0] := by
    have h := Has.new ((w.alloc (.cells #[.slice none 0 0] 55)).alloc (.cells #[.int .i64 0, .int .i64 0, .int .i64 0, .slice none 0 0] 67)) 38 #[.int .i64 0]
    rw [World.size_alloc, World.size_alloc] at h
    exact h
  obtain ⟨k, hk⟩ : ∃ k : Nat, Hid (k = 3) := ⟨3, rfl⟩
  refine (callsIn_wide (n := k)).1 ?_
  have hro : Fence.wide.round = none := rfl
  have hdd : ∀ k : Nat, (Fence.wide.depth.isSome = true → 1 ≤ k) := fun k h => by cases h
  refine callsIn_of_wp_marks Tryz.func37 rfl trivial ?_ rfl
  simp only [Tryz.ntmps37, List.size_toArray, List.length_cons, List.length_nil, Nat.reduceAdd, Nat.reduceSub, Array.replicate_succ, Array.replicate_zero, List.push_toArray, List.append_toArray, List.nil_append, List.cons_append]
  have hpos : 0 < (ptB (X : Int) (Y : Int) (Z : Int) T).length := by
    unfold ptB numsB
    have := digs_pos ((X : Int).toNat)
    simp only [List.length_append]
    omega
  have h256 := pt_byte (X : Int) (Y : Int) (Z : Int) T
  have HPR := Lib.hid (fun (A' : Option Addr) (c' : Nat) (W : World) (hr' : Rd W A' (ptB (X : Int) (Y : Int) (Z : Int) T)) (hT' : Tabs W) => pread_any X Y Z T A' (n - 1) c' W hr' (by omega) (by omega) h256 hx hy hz hT hS hT' hok)
  obtain ⟨PB, hPB⟩ : ∃ l, ptB (X : Int) (Y : Int) (Z : Int) T = l := ⟨_, rfl⟩
  rw [hPB] at hr hn hpos h256 HPR
  clear hPB
  obtain ⟨bA, off, rfl, hrt⟩ := rd_tail hr
  have hrd := Lib.hid hr
  gi_wp2
  obtain ⟨W1, hW1⟩ : ∃ W, W = (((w.alloc (.cells #[.slice none 0 0] 55)).alloc (.cells #[.int .i64 0, .int .i64 0, .int .i64 0, .slice none 0 0] 67)).alloc (.cells #[.int .i64 0] 38)) := ⟨_, rfl⟩
  rw [← hW1] at b1 hp hq ho ⊢
  clear hW1
  refine ⟨trivial, hdd _, ?_⟩
  refine (callsIn_wide.2 (Read_len (some ⟨bA, off, none⟩) (0 :: PB) n c W1 (by simpa using hn) (hrd.out.below b1) (by omega))).mono ?_
  rintro e w2 ⟨g, rfl, hg0, hr1, hb2⟩
  have HRD := Lib.hid hr1
  have HP := Lib.hid (hp.below hb2.out hp.lt)
  have HQ := Lib.hid (hq.below hb2.out hq.lt)
  have HO := Lib.hid (ho.below hb2.out ho.lt)
  have HB2 := Lib.hid (b1.trans (hb2.out.mono b1.size))
  have HA2 := Lib.hid ((hrt.below b1).below hb2.out)
  have HTB := Lib.hid (hTb.below (b1.trans (hb2.out.mono b1.size)))
  obtain ⟨D, hD⟩ : ∃ D, w2.heap.size = D := ⟨_, rfl⟩
  have hgD : g < D := by obtain ⟨_, _, hh, _⟩ := hr1.out; rw [← hD]; exact hh.lt
  have HR2 := Lib.hid (hr1.out.dd)
  rw [hD] at HR2
  have hb3 : Below w2.heap.size w2 (w2.alloc (.cells #[.slice none 0 0] 55)) := (Below.refl _ w2).alloc (Nat.le_refl _) _
  have HX3 := Lib.hid (Has.new w2 55 #[.slice none 0 0])
  have HP3 := Lib.hid (HP.out.below hb3 HP.out.lt)
  have HQ3 := Lib.hid (HQ.out.below hb3 HQ.out.lt)
  have HO3 := Lib.hid (HO.out.below hb3 HO.out.lt)
  have HB3 := Lib.hid (HB2.out.trans (hb3.mono HB2.out.size))
  have HR3 := Lib.hid (HR2.out.al hgD (by omega) (.cells #[.slice none 0 0] 55))
  have hs1 : W1.heap.size ≤ g := hg0
  have hsw : w.heap.size + 1 + 1 < W1.heap.size := ho.lt
  clear hr1 HRD HR2 HP HQ HO HB2 HA2 HTB hp hq ho b1
  gi_wp2
  obtain ⟨W3, hW3⟩ : ∃ W, W = w2.alloc (.cells #[.slice none 0 0] 55) := ⟨_, rfl⟩
  have hs3 : D < W3.heap.size := by rw [hW3, ← hD]; simp
  rw [← hW3] at HX3 HP3 HQ3 HO3 HB3 HR3 ⊢
  clear hW3 hb3
  rw [hD] at HX3
  refine ⟨trivial, hdd _, ?_⟩
  have HR3' : Hid (RdrD D W3 g (digs 0 ++ PB) 0) := by rw [digs_zero]; exact HR3.out
  have h256' : ∀ x ∈ digs 0 ++ PB, x < 256 := by rw [digs_zero]; intro x hx; rcases List.mem_append.1 hx with h | h; simp at h; omega; exact h256 x h
  refine (callsIn_wide.2 (numD_put g 0 PB W3 HR3'.out (by omega) h256' (by rw [digs_zero]; simp; omega))).mono ?_
  rintro e w4 ⟨rfl, hr4, hg4⟩
  have hb4 : Below W1.heap.size W3 w4 := (Below.refl W1.heap.size W3).grown hg4.out (by omega) (fun k hk => by injection hk with hk; omega)
  have HX4 := Lib.hid (HX3.out.grn hg4.out (by omega))
  have HP4 := Lib.hid (HP3.out.below hb4 (by omega))
  have HQ4 := Lib.hid (HQ3.out.below hb4 (by omega))
  have HO4 := Lib.hid (HO3.out.below hb4 (by omega))
  have HB4 := Lib.hid (HB3.out.trans (hb4.mono (by omega)))
  have hs4 : D < w4.heap.size := Nat.lt_of_lt_of_le hs3 hg4.out.size
  clear HX3 HP3 HQ3 HO3 HB3 HR3 HR3' hb4 hg4
  gi_wp2
  refine ⟨trivial, hdd _, ?_⟩
  refine (callsIn_wide.2 (standing_any w4 g)).mono ?_
  rintro e w5 ⟨rfl, hw5⟩
  have hb5 : Below w4.heap.size w4 w5 := by rw [hw5]; exact (Below.refl _ w4).alloc (Nat.le_refl _) _
  clear hw5
  gi_wp2
  refine ⟨trivial, hdd _, ?_⟩
  refine (callsIn_wide.2 (moments_any w5 Al nl cl 0 _ _)).mono ?_
  rintro e w6 ⟨rfl, hw6⟩
  have hb6 : Below w5.heap.size w5 w6 := by rw [hw6]; exact (((Below.refl _ w5).alloc (Nat.le_refl _) _).alloc (by simp) _).alloc (by simp; omega) _
  have ha6 : Has w6 w5.heap.size 22 #[.slice Al nl cl] := by rw [hw6]; exact ((Has.new w5 _ _).alloc _).alloc _
  have hc6 : Has w6 (w5.heap.size + 1) 3 #[.int .i64 0] := by
    have h := Has.new (w5.alloc (.cells #[.slice Al nl cl] 22)) 3 #[.int .i64 0]
    rw [World.size_alloc] at h
    rw [hw6]
    exact h.alloc _
  clear hw6
  have hb56 := hb5.trans (hb6.mono hb5.size)
  gi_wp2
  refine wp_tells (xs := ([] : List Empty)) rfl rfl (gf := 127) (by rfl) trivial (enters_of Tryz.func127 (by kernel_rfl) rfl)
    (it0_tells w6 w5.heap.size (w5.heap.size + 1) (w5.heap.size + 2) Al nl cl ha6 hc6) (Nat.le_refl _) (fun _ _ => rfl) (by rintro c (rfl | rfl); exact ha6.lt; exact hc6.lt) (fun x => x.elim)
    (fun p Y U => Y = [] ∧ Below w6.heap.size w6 U)
    (fun c p Y U => False)
    (fun p Y U U' Z h ht hz => ⟨h.1, h.2.trans (ht.below (fun b hb => (hz b hb).1) h.2.size)⟩)
    (fun c p Y U U' Z h ht hz => h)
    (fun p Y U h b hb => by rw [h.1] at hb; cases hb)
    [] (by simp) ⟨rfl, Below.refl _ _⟩ ?loop ?done ?stop
  case loop => exact ⟨fun x => x.elim, fun _ _ x => x.elim, fun _ _ _ x => x.elim⟩
  case stop => rintro D c p Y U hD ⟨⟩
  case done =>
    rintro E Z0 U hE ⟨_, hbu⟩ _ hDd
    have hbU := hb56.trans (hbu.mono hb56.size)
    have HX7 := Lib.hid (HX4.out.below hbU HX4.out.lt)
    have HP7 := Lib.hid (HP4.out.below hbU HP4.out.lt)
    have HQ7 := Lib.hid (HQ4.out.below hbU HQ4.out.lt)
    have HO7 := Lib.hid (HO4.out.below hbU HO4.out.lt)
    have HB7 := Lib.hid (HB4.out.trans (hbU.mono HB4.out.size))
    have HR7 := Lib.hid (hr4.out.keep hgD (hbU.mono (by omega)))
    have hE4 : w4.heap.size ≤ E := Nat.le_trans hb56.size hE
    clear HX4 HP4 HQ4 HO4 HB4 hr4
    have hsub : (n : Int) - (PB.length : Int) = 1 := by omega
    have hlnn : ((PB.length : Nat) : Int) = (n : Int) - 1 := by omega
    have hcn : n ≠ 0 := by omega
    gi_wp2
    refine ⟨trivial, hdd _, ?_⟩
    refine (callsIn_wide.2 (left14_any g PB 0 U HR7.out.rdr)).mono ?_
    rintro e w8 ⟨rfl, rfl⟩
    rw [hlnn]
    gi_wp2
    have hn1 : n - (n - 1) = 1 := by omega
    rw [hn1]
    refine ⟨trivial, hdd _, ?_⟩
    have hBU := Lib.hid HB7.out
    refine (callsIn_wide.2 (HPR.out (some ⟨bA, off + 1, none⟩) (c - 1) U (hrt.below HB7.out) (hTb.below HB7.out))).mono ?_
    rintro e w9 ⟨v9, rfl, ho9, hb9⟩
    obtain ⟨A9, n9, c9, rfl, _, _, _, _, _⟩ := ownW_open ho9.out
    have hb10 : Below w9.heap.size w9 (w9.alloc (.cells #[.int .i64 (X : Int), .int .i64 (Y : Int), .int .i64 (Z : Int), .slice A9 n9 c9] 67)) := (Below.refl _ w9).alloc (Nat.le_refl _) _
    have hbx := hb9.out.trans (hb10.mono hb9.out.size)
    have HV10 := Lib.hid (Has.new w9 67 #[.int .i64 (X : Int), .int .i64 (Y : Int), .int .i64 (Z : Int), .slice A9 n9 c9])
    have HX10 := Lib.hid (HX7.out.below hbx HX7.out.lt)
    have HP10 := Lib.hid (HP7.out.below hbx HP7.out.lt)
    have HQ10 := Lib.hid (HQ7.out.below hbx HQ7.out.lt)
    have HO10 := Lib.hid (HO7.out.below hbx HO7.out.lt)
    have HB10 := Lib.hid (HB7.out.trans (hbx.mono HB7.out.size))
    have HXn : D < w9.heap.size := Nat.lt_of_lt_of_le HX7.out.lt hb9.out.size
    have hEl : E < U.heap.size := (Array.getElem?_eq_some_iff.1 hDd).1
    have hDU : D ≤ U.heap.size := by have := hbU.size; omega
    have HR10 := Lib.hid (HR7.out.keep hgD (hbx.mono hDU))
    have HT10 := Lib.hid (ho9.out.below hb10)
    have hd10 := (hbx.block E hEl).trans hDd
    clear HX7 HP7 HQ7 HO7 HB7 HR7 HPR hBU ho9
    gi_wp2
    obtain ⟨W10, hW10⟩ : ∃ W, W = (w9.alloc (.cells #[.int .i64 (X : Int), .int .i64 (Y : Int), .int .i64 (Z : Int), .slice A9 n9 c9] 67)) := ⟨_, rfl⟩
    rw [← hW10] at HV10 HX10 HP10 HQ10 HO10 HB10 HR10 HT10 hd10 ⊢
    clear hW10
    refine ⟨trivial, hdd _, ?_⟩
    refine (callsIn_wide.2 (Errno_get g PB 0 W10 HR10.out.rdr)).mono ?_
    rintro e w11 ⟨rfl, rfl⟩
    gi_wp2
    rename_i hKr
    refine wpIn_noPanic ?_
    refine wpIn_wide.2 ?_
    obtain ⟨wd, hwd⟩ : ∃ W, W = W10.drew := ⟨_, rfl⟩
    have hbd : Below W10.heap.size W10 wd := by rw [hwd]; exact (Below.refl _ W10).drew
    have HXd := Lib.hid (HX10.out.below hbd HX10.out.lt)
    have HVd := Lib.hid (HV10.out.below hbd HV10.out.lt)
    have HPd := Lib.hid (HP10.out.below hbd HP10.out.lt)
    have HQd := Lib.hid (HQ10.out.below hbd HQ10.out.lt)
    have HOd := Lib.hid (HO10.out.below hbd HO10.out.lt)
    have HTd := Lib.hid (HT10.out.below hbd)
    have HBd := Lib.hid (HB10.out.trans (hbd.mono HB10.out.size))
    have hEl10 : E < W10.heap.size := (Array.getElem?_eq_some_iff.1 hd10).1
    have hdd10 := (hbd.block E hEl10).trans hd10
    have hSd : (fun V : World => V.cell? ⟨D, 0, none⟩ = some (.slice none 0 0) ∧ V.cell? ⟨w9.heap.size, 0, none⟩ = some (.int .i64 (X : Int)) ∧ V.cell? ⟨w9.heap.size, 1, none⟩ = some (.int .i64 (Y : Int)) ∧ V.cell? ⟨w9.heap.size, 2, none⟩ = some (.int .i64 (Z : Int)) ∧ V.cell? ⟨w9.heap.size, 3, none⟩ = some (.slice A9 n9 c9)) wd := ⟨HXd.out.cell 0, HVd.out.cell 0, HVd.out.cell 1, HVd.out.cell 2, HVd.out.cell 3⟩
    refine wp_region_held_drew (S := (fun V : World => V.cell? ⟨D, 0, none⟩ = some (.slice none 0 0) ∧ V.cell? ⟨w9.heap.size, 0, none⟩ = some (.int .i64 (X : Int)) ∧ V.cell? ⟨w9.heap.size, 1, none⟩ = some (.int .i64 (Y : Int)) ∧ V.cell? ⟨w9.heap.size, 2, none⟩ = some (.int .i64 (Z : Int)) ∧ V.cell? ⟨w9.heap.size, 3, none⟩ = some (.slice A9 n9 c9))) (by kernel_rfl) (hwd ▸ hSd) (fun _ => ?_)
    rw [← hwd]
    clear hwd hbd
    (refine wpAnyH_take (i := 0) (v := ?_) rfl (by kernel_rfl) (by kernel_rfl) (by kernel_rfl) (fun _ _ _ h => h) (Or.inl ⟨by rfl, ?_⟩) (by assumption) ?_; rotate_left; (intro w hSw; (try dsimp only at hSw); go_simp; try with_reducible rfl); ((try simp only [List.getElem_toArray]); (try simp only [List.getElem_cons_succ]); (try simp only [List.getElem_cons_zero]); (try simp only [Act.put]); (try simp only [List.setIfInBounds_toArray]); (try simp only [List.set_cons_succ]); (try simp only [List.set_cons_zero])))
    (refine wpAnyH_take (i := 1) (v := ?_) rfl (by kernel_rfl) (by kernel_rfl) (by kernel_rfl) (fun _ _ _ h => h) (Or.inl ⟨by rfl, ?_⟩) (by assumption) ?_; rotate_left; (intro w hSw; (try dsimp only at hSw); go_simp; try with_reducible rfl); ((try simp only [List.getElem_toArray]); (try simp only [List.getElem_cons_succ]); (try simp only [List.getElem_cons_zero]); (try simp only [Act.put]); (try simp only [List.setIfInBounds_toArray]); (try simp only [List.set_cons_succ]); (try simp only [List.set_cons_zero])))
    have f2 := HPd.out.free 0
    have g2 := HPd.out.cell 0
    have nD : w.heap.size + 1 + 1 < D := by omega
    have nW : D < w9.heap.size := HXn
    have hX2 := HXd.out.far (p := ⟨w.heap.size, 0, none⟩) (by show D ≠ w.heap.size; omega) (.slice none 0 0)
    have hV2 := HVd.out.far (p := ⟨w.heap.size, 0, none⟩) (by show w9.heap.size ≠ w.heap.size; omega) (.slice none 0 0)
    have hQ2 := HQd.out.far (p := ⟨w.heap.size, 0, none⟩) (by show w.heap.size + 1 ≠ w.heap.size; omega) (.slice none 0 0)
    have hO2 := HOd.out.far (p := ⟨w.heap.size, 0, none⟩) (by show w.heap.size + 1 + 1 ≠ w.heap.size; omega) (.slice none 0 0)
    have hP2 := HPd.out.put 0 (.slice none 0 0)
    refine wpAnyH_ready (rs := [2]) (by kernel_rfl) (by simp) ?_
    refine AllReadyH.cons rfl (fun K2 hK2 => ?_) AllReadyH.nil
    go_simp
    obtain ⟨W2, hW2⟩ : ∃ W, W = wd.setCell ⟨w.heap.size, 0, none⟩ (.slice none 0 0) := ⟨_, rfl⟩
    have t2 : Tur [w.heap.size] wd W2 := by rw [hW2]; exact Tur.setCell wd (p := ⟨w.heap.size, 0, none⟩) (by simp) _
    rw [← hW2] at hX2 hV2 hQ2 hO2 hP2 ⊢
    clear hW2
    refine hK2.out _ _ (by (try dsimp only); exact ⟨hX2.cell 0, hV2.cell 0, hV2.cell 1, hV2.cell 2, hV2.cell 3⟩) (fun _ => ?_)
    clear hK2 K2 f2 g2
    (try simp only [List.getElem_toArray]); (try simp only [List.getElem_cons_succ]); (try simp only [List.getElem_cons_zero]); (try simp only [Act.put]); (try simp only [List.setIfInBounds_toArray]); (try simp only [List.set_cons_succ]); (try simp only [List.set_cons_zero])
    have q0 := hQ2.free 0
    have r0 := hQ2.cell 0
    have u1 := hQ2.put 0 (.int .i64 (X : Int))
    have q1 := u1.free 1
    have r1 := u1.cell 1
    have u2 := u1.put 1 (.int .i64 (Y : Int))
    have q2 := u2.free 2
    have r2 := u2.cell 2
    have u3 := u2.put 2 (.int .i64 (Z : Int))
    have q3 := u3.free 3
    have r3 := u3.cell 3
    have u4 := u3.put 3 (.slice A9 n9 c9)
    have t3 : Tur [w.heap.size + 1] W2 ((((W2.setCell ⟨w.heap.size + 1, 0, none⟩ (.int .i64 (X : Int))).setCell ⟨w.heap.size + 1, 1, none⟩ (.int .i64 (Y : Int))).setCell ⟨w.heap.size + 1, 2, none⟩ (.int .i64 (Z : Int))).setCell ⟨w.heap.size + 1, 3, none⟩ (.slice A9 n9 c9)) := (((Tur.setCell W2 (p := ⟨w.heap.size + 1, 0, none⟩) (by simp) _).trans (Tur.setCell _ (p := ⟨w.heap.size + 1, 1, none⟩) (by simp) _) (Fre.refl _ _)).trans (Tur.setCell _ (p := ⟨w.heap.size + 1, 2, none⟩) (by simp) _) (Fre.refl _ _)).trans (Tur.setCell _ (p := ⟨w.heap.size + 1, 3, none⟩) (by simp) _) (Fre.refl _ _)
    refine wpAnyH_ready (rs := [3]) (by kernel_rfl) (by simp) ?_
    refine AllReadyH.cons rfl (fun K2 hK2 => ?_) AllReadyH.nil
    go_simp
    obtain ⟨W3b, hW3b⟩ : ∃ W, W = ((((W2.setCell ⟨w.heap.size + 1, 0, none⟩ (.int .i64 (X : Int))).setCell ⟨w.heap.size + 1, 1, none⟩ (.int .i64 (Y : Int))).setCell ⟨w.heap.size + 1, 2, none⟩ (.int .i64 (Z : Int))).setCell ⟨w.heap.size + 1, 3, none⟩ (.slice A9 n9 c9)) := ⟨_, rfl⟩
    have HQ3 : Hid (Has W3b (w.heap.size + 1) 67 #[.int .i64 (X : Int), .int .i64 (Y : Int), .int .i64 (Z : Int), .slice A9 n9 c9]) := by rw [hW3b]; exact u4
    rw [← hW3b] at t3 ⊢
    clear hW3b q0 r0 u1 q1 r1 u2 q2 r2 u3 q3 r3 u4
    have hX3 := hX2.tur t3 (by simp; omega)
    have hV3 := hV2.tur t3 (by simp; omega)
    have hO3 := hO2.tur t3 (by simp; try omega)
    have hP3 := hP2.tur t3 (by simp; try omega)
    refine hK2.out _ _ (by (try dsimp only); exact ⟨hX3.cell 0, hV3.cell 0, hV3.cell 1, hV3.cell 2, hV3.cell 3⟩) (fun _ => ?_)
    clear hK2 K2
    (try simp only [List.getElem_toArray]); (try simp only [List.getElem_cons_succ]); (try simp only [List.getElem_cons_zero]); (try simp only [Act.put]); (try simp only [List.setIfInBounds_toArray]); (try simp only [List.set_cons_succ]); (try simp only [List.set_cons_zero])
    have f4 := hO3.free 0
    have g4 := hO3.cell 0
    have t4 : Tur [w.heap.size + 1 + 1] W3b (W3b.setCell ⟨w.heap.size + 1 + 1, 0, none⟩ (.int .i64 0)) := Tur.setCell W3b (p := ⟨w.heap.size + 1 + 1, 0, none⟩) (by simp) _
    have hO4 := hO3.put 0 (.int .i64 0)
    refine wpAnyH_ready (rs := [4]) (by kernel_rfl) (by simp) ?_
    refine AllReadyH.cons rfl (fun K2 hK2 => ?_) AllReadyH.nil
    go_simp
    obtain ⟨W4b, hW4b⟩ : ∃ W, W = W3b.setCell ⟨w.heap.size + 1 + 1, 0, none⟩ (.int .i64 0) := ⟨_, rfl⟩
    have HO4 : Hid (Has W4b (w.heap.size + 1 + 1) 38 #[.int .i64 0]) := by rw [hW4b]; exact hO4
    rw [← hW4b] at t4 ⊢
    clear hW4b f4 g4 hO4
    have hX4 := hX3.tur t4 (by simp; omega)
    have hV4 := hV3.tur t4 (by simp; omega)
    have hP4 := hP3.tur t4 (by simp; try omega)
    have hQ4 := HQ3.out.tur t4 (by simp; try omega)
    refine hK2.out _ _ (by (try dsimp only); exact ⟨hX4.cell 0, hV4.cell 0, hV4.cell 1, hV4.cell 2, hV4.cell 3⟩) (fun _ => ?_)
    clear hK2 K2
    (try simp only [List.getElem_toArray]); (try simp only [List.getElem_cons_succ]); (try simp only [List.getElem_cons_zero]); (try simp only [Act.put]); (try simp only [List.setIfInBounds_toArray]); (try simp only [List.set_cons_succ]); (try simp only [List.set_cons_zero])
    refine wpAnyH_done (by kernel_rfl) ?_ _
    refine hKr _ _ ?_
    gi_wp2
    have hsE : w.heap.size + 1 + 1 < E := by omega
    have hdE : W4b.heap[E]? = some (.deferred (some [])) := by
      have e2 := (t2.block E (Array.getElem?_eq_some_iff.1 hdd10).1 (by simp; omega)).trans hdd10
      have e3 := (t3.block E (Array.getElem?_eq_some_iff.1 e2).1 (by simp; omega)).trans e2
      exact (t4.block E (Array.getElem?_eq_some_iff.1 e3).1 (by simp; omega)).trans e3
    have htE : Tur [E] W4b (W4b.putObj E (.deferred none)) := Tur.putObj W4b (by simp) _
    have hsU : w.heap.size + 1 + 1 < U.heap.size := by omega
    have hob : ∀ q, (Value.slice A9 n9 c9).ownBlock = some q → U.heap.size ≤ q := fun q hq => (World.ownsRow.lt HTd.out q hq).1
    have HT4 := ownW_tur (ownW_tur (ownW_tur (ownW_tur HTd.out t2 (fun q hq => by have := hob q hq; simp; omega)) t3 (fun q hq => by have := hob q hq; simp; omega)) t4 (fun q hq => by have := hob q hq; simp; omega)) htE (fun q hq => by have := hob q hq; simp; omega)
    have HB4b := HBd.out.trans ((((t2.below (B := w.heap.size) (by simp) HBd.out.size).trans (t3.below (B := w.heap.size) (by simp) (Nat.le_trans HBd.out.size t2.size))).trans (t4.below (B := w.heap.size) (by simp; omega) (Nat.le_trans HBd.out.size (Nat.le_trans t2.size t3.size)))).trans (htE.below (B := w.heap.size) (by simp; omega) (Nat.le_trans HBd.out.size (Nat.le_trans t2.size (Nat.le_trans t3.size t4.size)))))
    have hP5 := hP4.tur htE (by simp; omega)
    have hQ5 := hQ4.tur htE (by simp; omega)
    have hO5 := HO4.out.tur htE (by simp; omega)
    refine ⟨by simp, .inl ⟨_, _, rfl, run_takeDeferred hdE, ?_⟩⟩
    refine ⟨.tuple #[.slice none 0 0, .agg #[.int .i64 (X : Int), .int .i64 (Y : Int), .int .i64 (Z : Int), .slice A9 n9 c9], .int .i64 0], ?_, .slice A9 n9 c9, rfl, ?_, HB4b⟩
    · rw [results_ccc (fn := Tryz.f37) rfl]
      simp only [Array.getD_eq_getD_getElem?, List.getElem?_toArray, List.getElem?_cons_succ, List.getElem?_cons_zero, Option.getD_some, asAddr, Sem.run_pure, Result.andThen_ok]
      rw [run_loadVar_one _ _ _ _ _ _ hP5 Tryz.underlying55 rfl]
      simp only [Result.andThen_ok]
      rw [run_loadVar_row _ _ 67 67 #[.int .i64 (X : Int), .int .i64 (Y : Int), .int .i64 (Z : Int), .slice A9 n9 c9] (0, 0) _ hQ5 Tryz.underlying67 rfl (by kernel_rfl)]
      simp only [Result.andThen_ok]
      rw [run_loadVar_one _ _ _ _ _ _ hO5 Tryz.underlying38 rfl]
      rfl
    · exact ownW_down HT4 (by omega)
end Go.Proofs.YtlhfdhmmdnkojaaGreatDoor
namespace Go.Proofs.YtlhfdhmmdnkojaaGreatDoor
open Go.RowKit Go.Shelf Go.Maps Dg
set_option maxRecDepth 100000
set_option linter.unusedVariables false
theorem ptB0 : ptB 0 0 0 [] = [0, 0, 0, 0] := by decide +kernel
theorem ptOk0 : ptOk 0 0 0 [] = true := by decide +kernel
theorem bs0 : bs [0, 0, 0, 0, 0] = ⟨#[0, 0, 0, 0, 0]⟩ := by decide +kernel
set_option maxHeartbeats 2000000 in
theorem lives14_any (w : World) (hT : Tabs w) : Calls Tryz.prog 28 #[] w fun e w' => e = .returned (.bool true) ∧ Hid (Below w.heap.size w w') := by
  have h1 : Short [] := fun x hx => by cases hx
  have h2 : (ptB 0 0 0 []).length ≤ 900000 := by rw [ptB0]; simp
  have h3 : (0 : Int) ≤ 9223372036854775807 := by omega
  have HWR := Lib.hid (@wwrite0_any w.heap.size none 0 0 [] none 0 0 none 0 0 0 0 w (ownW_nil w.heap.size w) h1 (Nat.zero_le _) h3 h3 h3 hT ptOk0 h2)
  clear h1 h2 h3
  rw [ptB0] at HWR
  have HT := Lib.hid hT
  clear hT
  go_enter Tryz.func28, Tryz.ntmps28
  go_wp2_with fail
  refine HWR.out.mono ?_
  rintro e w1 ⟨v1, rfl, ho1, hb1⟩
  obtain ⟨A1, n1, c1, rfl, hn1, hr1, hz1⟩ := own_open ho1.out (by simp)
  have hnc : n1 ≤ c1 ∧ n1 = 5 := by
    obtain ⟨A', c', e, h, _⟩ := own_full ho1.out
    injection e with e1 e2 e3
    rw [e2, e3]
    exact ⟨h, rfl⟩
  obtain ⟨hnc, hn5⟩ := hnc
  subst hn5
  have HRD := Lib.hid (wread0_any 0 0 0 [] none 0 0 A1 5 c1 w1 (by rw [show ((0 : Nat) : Int) = 0 from rfl, ptB0]; exact hr1.out) (by rw [show ((0 : Nat) : Int) = 0 from rfl, ptB0]; rfl) hnc (by omega) (by omega) (by omega) (by omega) (by simp) (fun x hx => by cases hx) (HT.out.below hb1.out) ptOk0)
  obtain ⟨o, ho⟩ : ∃ o : Int, ((0 : Nat) : Int) = o := ⟨_, rfl⟩
  rw [ho] at HRD
  have HOO := Lib.hid ho
  clear ho
  clear HWR ho1 hnc
  go_wp2_with fail
  refine HRD.out.mono ?_
  rintro e w2 ⟨v2, rfl, ho2, hb2⟩
  have HB2 := Lib.hid (hb1.out.trans (hb2.out.mono hb1.out.size))
  have HR2 := Lib.hid (hr1.out.below hb2.out)
  obtain ⟨A2, n2, c2, rfl, _, _, _, _, _⟩ := ownW_open ho2.out
  have hb3 : Below w2.heap.size w2 (w2.alloc (.cells #[.int .i64 o, .int .i64 o, .int .i64 o, .slice A2 n2 c2] 67)) := (Below.refl _ w2).alloc (Nat.le_refl _) _
  have HV := Lib.hid (Has.new w2 67 #[.int .i64 o, .int .i64 o, .int .i64 o, .slice A2 n2 c2])
  have HO3 := Lib.hid (ho2.out.below hb3)
  have HR3 := Lib.hid (HR2.out.below hb3)
  have HB3 := Lib.hid (HB2.out.trans (hb3.mono HB2.out.size))
  clear HRD ho2 hb1 hb2 HB2 HR2 hr1
  go_wp2_with fail
  obtain ⟨W3, hW3⟩ : ∃ W, W = w2.alloc (.cells #[.int .i64 o, .int .i64 o, .int .i64 o, .slice A2 n2 c2] 67) := ⟨_, rfl⟩
  rw [← hW3] at HV HO3 HR3 HB3 ⊢
  clear hW3 hb3
  have hcv : Sem.run Tryz.prog (convert 37 9 (.slice A1 5 c1)) W3 = .ok (.string ⟨#[0, 0, 0, 0, 0]⟩) W3 := by rw [conv_len W3 A1 _ 5 c1 hn1.out HR3.out, bs0]
  have x0 := HV.out.cell 0
  have x1 := HV.out.cell 1
  have x2 := HV.out.cell 2
  have x3 := HV.out.cell 3
  go_wp2_with fail
  rw [hcv]
  go_wp2_with fail
  have ho0 : o = 0 := HOO.out.symm
  rw [ho0]
  refine (rsame_pt 0 0 0 W3 HO3.out (ownW_nil w.heap.size W3) (by simp)).mono ?_
  rintro e w4 ⟨rfl, hb4⟩
  have HB4 := Lib.hid (HB3.out.trans (hb4.out.mono HB3.out.size))
  clear hb4
  go_wp2_with fail
  go_ret
  exact ⟨rfl, HB4⟩
end Go.Proofs.YtlhfdhmmdnkojaaGreatDoor
namespace Go.Proofs.YtlhfdhmmdnkojaaGreatDoor
open Go.RowKit Dg
/-- A column: its name, its kind, whether Null may stand there. -/
structure Cl where
  nm : ByteArray
  k : Int
  no : Bool
def Cl.val (x : Cl) : Value := .agg #[.string x.nm, .int .i64 x.k, .bool x.no]
def Cl.cells (x : Cl) : List Value := [.string x.nm, .int .i64 x.k, .bool x.no]
/-- Its name can be a string, its kind a number of 64 bits. -/
def Cl.fit (x : Cl) : Prop := x.nm.size ≤ 140737488355328 ∧ -9223372036854775808 ≤ x.k ∧ x.k ≤ 9223372036854775807
/-- The cells at A read as the columns L. -/
def CRow (w : World) (A : Option Addr) (L : List Cl) : Prop :=
  L ≠ [] → ∃ b off, A = some ⟨b, off, none⟩ ∧ ∀ i (h : i < L.length), w.cell? ⟨b, off + i * 3, none⟩ = some (.string L[i].nm) ∧ w.cell? ⟨b, off + i * 3 + 1, none⟩ = some (.int .i64 L[i].k) ∧ w.cell? ⟨b, off + i * 3 + 2, none⟩ = some (.bool L[i].no)
theorem CRow.below {w w' : World} {A : Option Addr} {L : List Cl} (h : CRow w A L) (hb : Below w.heap.size w w') : CRow w' A L := fun hl => by
  obtain ⟨b, off, e, hc⟩ := h hl
  refine ⟨b, off, e, fun i hi => ?_⟩
  obtain ⟨h0, h1, h2⟩ := hc i hi
  exact ⟨(hb.cell (World.block_lt_of_cell? w _ h0)).trans h0, (hb.cell (World.block_lt_of_cell? w _ h1)).trans h1, (hb.cell (World.block_lt_of_cell? w _ h2)).trans h2⟩
/-- Columns in a row of the call's own. -/
def OwnC (B : Nat) (w : World) (v : Value) (L : List Cl) : Prop := w.ownsRow B 29 3 v L.length (L.flatMap Cl.cells)
theorem OwnC.below {B : Nat} {w w' : World} {v : Value} {L : List Cl} (h : OwnC B w v L) (hb : Below w.heap.size w w') : OwnC B w' v L := by
  rcases h.2 with ⟨hv, hn⟩ | ⟨g, cap, cur, hv, hg, hh, hc, hcm, hsz, ht⟩
  · exact ⟨h.1, .inl ⟨hv, hn⟩⟩
  · exact ⟨h.1, .inr ⟨g, cap, cur, hv, hg, Has.below (t := 29) (cs := cur) hh hb (Has.lt (t := 29) (cs := cur) hh), hc, hcm, hsz, ht⟩⟩
end Go.Proofs.YtlhfdhmmdnkojaaGreatDoor
namespace Go.Proofs.YtlhfdhmmdnkojaaGreatDoor
open Go.RowKit Dg
end Go.Proofs.YtlhfdhmmdnkojaaGreatDoor
namespace Go.Proofs.YtlhfdhmmdnkojaaGreatDoor
open Go.RowKit Dg
end Go.Proofs.YtlhfdhmmdnkojaaGreatDoor
namespace Go.Proofs.YtlhfdhmmdnkojaaGreatDoor
open Go.RowKit Dg
/-! ### what Good comes to -/
def pool (i : Nat) : ByteArray := if i = 0 then ⟨#[105, 100]⟩ else if i = 1 then ⟨#[110, 97, 109, 101]⟩ else if i = 2 then ⟨#[110]⟩ else if i = 3 then ⟨#[102, 108, 97, 103]⟩ else if i = 4 then ⟨#[114, 97, 119]⟩ else ⟨#[120]⟩
end Go.Proofs.YtlhfdhmmdnkojaaGreatDoor
namespace Go.Proofs.YtlhfdhmmdnkojaaGreatDoor
open Go.RowKit Dg
/-- The first forty bytes. -/
def forty (s : ByteArray) : ByteArray := if 40 < s.size then s.extract 0 40 else s
/-- A value that may be, made of any. -/
def kind5 (k : Int) : Int := (if k < 0 then -(k + 1) else k) % 5
def Vl.good (x : Vl) : Vl :=
  if kind5 x.k = 0 then ⟨0, 0, ⟨#[]⟩⟩ else if kind5 x.k = 1 then ⟨1, if x.n % 2 = 0 then 0 else 1, ⟨#[]⟩⟩ else if kind5 x.k = 2 then ⟨2, x.n, ⟨#[]⟩⟩
  else if kind5 x.k = 3 then ⟨3, 0, if Lib.validD (forty x.s).data.toList then forty x.s else ⟨#[]⟩⟩ else ⟨4, 0, forty x.s⟩
end Go.Proofs.YtlhfdhmmdnkojaaGreatDoor
namespace Go.Proofs.YtlhfdhmmdnkojaaGreatDoor
open Go.RowKit Dg
/-! ### what is made of any may be -/
end Go.Proofs.YtlhfdhmmdnkojaaGreatDoor
namespace Go.Proofs.YtlhfdhmmdnkojaaGreatDoor
open Go.RowKit Dg
end Go.Proofs.YtlhfdhmmdnkojaaGreatDoor
namespace Go.Proofs.YtlhfdhmmdnkojaaGreatDoor
open Go.RowKit Dg
set_option maxRecDepth 100000
theorem OwnC.far {B : Nat} {w : World} {v : Value} {L : List Cl} (h : OwnC B w v L) {p : Addr} (hp : p.block < B) (u : Value) : OwnC B (w.setCell p u) v L := by
  rcases h.2 with ⟨hv, hn⟩ | ⟨g, cap, cur, hv, hg, hh, hc, hcm, hsz, ht⟩
  · exact ⟨h.1, .inl ⟨hv, hn⟩⟩
  · exact ⟨h.1, .inr ⟨g, cap, cur, hv, hg, Has.far (t := 29) (cs := cur) hh (by omega) u, hc, hcm, hsz, ht⟩⟩
end Go.Proofs.YtlhfdhmmdnkojaaGreatDoor
namespace Go.Proofs.YtlhfdhmmdnkojaaGreatDoor
open Go.RowKit Dg
theorem CRow.drop {w : World} {b off : Nat} {L : List Cl} (h : CRow w (some ⟨b, off, none⟩) L) (k : Nat) : CRow w (some ⟨b, off + k * 3, none⟩) (L.drop k) := fun hl => by
  obtain ⟨b', off', e, hc⟩ := h (by rintro rfl; simp at hl)
  injection e with e
  injection e with e1 e2
  subst e1 e2
  refine ⟨b, off + k * 3, rfl, fun i hi => ?_⟩
  rw [List.length_drop] at hi
  obtain ⟨h0, h1, h2⟩ := hc (k + i) (by omega)
  rw [List.getElem_drop]
  have e : off + (k + i) * 3 = off + k * 3 + i * 3 := by omega
  rw [e] at h0 h1 h2
  exact ⟨h0, h1, h2⟩
theorem CRow.take {w : World} {A : Option Addr} {L : List Cl} (h : CRow w A L) (k : Nat) : CRow w A (L.take k) := fun hl => by
  obtain ⟨b, off, e, hc⟩ := h (by rintro rfl; simp at hl)
  refine ⟨b, off, e, fun i hi => ?_⟩
  rw [List.length_take] at hi
  rw [List.getElem_take]
  exact hc i (by omega)
theorem CRow.one (w : World) (x : Cl) : CRow (w.alloc (.cells #[.string x.nm, .int .i64 x.k, .bool x.no] 29)) (some ⟨w.heap.size, 0, none⟩) [x] := fun _ => ⟨w.heap.size, 0, rfl, fun i hi => by
  have hh := Has.new w 29 #[.string x.nm, .int .i64 x.k, .bool x.no]
  obtain rfl : i = 0 := by simpa using hi
  exact ⟨hh.cell 0, hh.cell 1, hh.cell 2⟩⟩
end Go.Proofs.YtlhfdhmmdnkojaaGreatDoor
namespace Go.Proofs.YtlhfdhmmdnkojaaGreatDoor
open Go.RowKit Dg
end Go.Proofs.YtlhfdhmmdnkojaaGreatDoor
namespace Go.Proofs.YtlhfdhmmdnkojaaGreatDoor
open Go.RowKit Dg
end Go.Proofs.YtlhfdhmmdnkojaaGreatDoor
namespace Go.Proofs.YtlhfdhmmdnkojaaGreatDoor
open Go.RowKit Dg
set_option maxRecDepth 100000
def big : Nat := 18446744073709551616
/-- What 'digits' leaves: a new block, the last one, with the digits. -/
def Digs (n : Nat) (w : World) (e : Ending) (w' : World) : Prop :=
  e = .returned (.slice (some ⟨w.heap.size, 0, none⟩) (digs n).length (digs n).length) ∧ Has w' w.heap.size 5 ((digs n).map bv).toArray ∧ w'.heap.size = w.heap.size + 1 ∧ Below w.heap.size w w'

theorem Digs.made {n : Nat} {w : World} {e : Ending} {w' : World} (h : Digs n w e w') : ∃ v, e = .returned v ∧ Made w (digs n) v w' := by
  obtain ⟨he, hh, _, hb⟩ := h
  refine ⟨_, he, _, _, rfl, Nat.le_refl _, Rd.of_has hh fun i hi => ?_, hb⟩
  simp [hi]

theorem Digs.out {n : Nat} {w : World} {e : Ending} {w' : World} (h : Digs n w e w') : ∃ A c, e = .returned (.slice A (digs n).length c) ∧ Rd w' A (digs n) ∧ Below w.heap.size w w' := by
  obtain ⟨v, he, A, c, rfl, _, hr, hb⟩ := h.made
  exact ⟨A, c, he, hr, hb⟩
end Go.Proofs.YtlhfdhmmdnkojaaGreatDoor
namespace Go.Proofs.YtlhfdhmmdnkojaaGreatDoor
open Go.RowKit Dg
end Go.Proofs.YtlhfdhmmdnkojaaGreatDoor
namespace Go.Proofs.YtlhfdhmmdnkojaaGreatDoor
open Go.RowKit Dg

end Go.Proofs.YtlhfdhmmdnkojaaGreatDoor
namespace Go.Proofs.YtlhfdhmmdnkojaaGreatDoor
open Go.RowKit Dg
def Vl.eqb (x y : Vl) : Bool := x.k == y.k && x.n == y.n && x.s.toList == y.s.toList
theorem toList_inj {s t : ByteArray} (h : s.toList = t.toList) : s = t := by
  rw [← bs_sb s, ← bs_sb t] at h ⊢
  rw [bs_toList, bs_toList] at h
  unfold bs
  rw [h]
theorem Vl.eqb_iff (x y : Vl) : x.eqb y = true ↔ x = y := by
  obtain ⟨a, b, c⟩ := x
  obtain ⟨a', b', c'⟩ := y
  simp only [Vl.eqb, Bool.and_eq_true, beq_iff_eq, Vl.mk.injEq]
  constructor
  · rintro ⟨⟨rfl, rfl⟩, h⟩; exact ⟨rfl, rfl, toList_inj h⟩
  · rintro ⟨rfl, rfl, rfl⟩; exact ⟨⟨rfl, rfl⟩, rfl⟩
def vsTo (L M : List Vl) (k : Nat) : Bool := (List.range k).all fun i => match L[i]?, M[i]? with | some x, some y => x.eqb y | _, _ => true
theorem vsTo_succ (L M : List Vl) (k : Nat) (hL : k < L.length) (hM : k < M.length) : vsTo L M (k + 1) = (vsTo L M k && L[k].eqb M[k]) := by
  unfold vsTo; rw [List.range_succ, List.all_append]; simp [hL, hM]
theorem vsTo_false (L M : List Vl) (k n : Nat) (hk : k < n) (hL : k < L.length) (hM : k < M.length) (h : L[k].eqb M[k] = false) : vsTo L M n = false := by
  unfold vsTo; rw [List.all_eq_false]
  exact ⟨k, List.mem_range.2 hk, by simp [hL, hM, h]⟩
def vsF (L M : List Vl) : Bool := decide (L.length = M.length) && vsTo L M L.length
theorem vsF_iff (L M : List Vl) : vsF L M = true ↔ L = M := by
  unfold vsF vsTo
  simp only [Bool.and_eq_true, decide_eq_true_eq, List.all_eq_true]
  constructor
  · intro ⟨h1, h2⟩
    refine List.ext_getElem h1 fun i hi hj => ?_
    have := h2 i (List.mem_range.2 hi)
    rw [List.getElem?_eq_getElem hi, List.getElem?_eq_getElem hj] at this
    exact (Vl.eqb_iff _ _).1 this
  · rintro rfl
    refine ⟨rfl, fun i hi => ?_⟩
    have hi := List.mem_range.1 hi
    rw [List.getElem?_eq_getElem hi]
    exact (Vl.eqb_iff _ _).2 rfl
end Go.Proofs.YtlhfdhmmdnkojaaGreatDoor
namespace Go.Proofs.YtlhfdhmmdnkojaaGreatDoor
open Go.RowKit Dg
/-- Are two columns the same? -/
def Cl.eqb (x y : Cl) : Bool := x.nm.toList == y.nm.toList && x.k == y.k && x.no == y.no
theorem Cl.eqb_refl (x : Cl) : x.eqb x = true := by simp [Cl.eqb]
def csTo (L M : List Cl) (k : Nat) : Bool := (List.range k).all fun i => match L[i]?, M[i]? with | some x, some y => x.eqb y | _, _ => true
theorem csTo_succ (L M : List Cl) (k : Nat) (hL : k < L.length) (hM : k < M.length) : csTo L M (k + 1) = (csTo L M k && L[k].eqb M[k]) := by
  unfold csTo; rw [List.range_succ, List.all_append]; simp [hL, hM]
theorem csTo_false (L M : List Cl) (k n : Nat) (hk : k < n) (hL : k < L.length) (hM : k < M.length) (h : L[k].eqb M[k] = false) : csTo L M n = false := by
  unfold csTo; rw [List.all_eq_false]
  exact ⟨k, List.mem_range.2 hk, by simp [hL, hM, h]⟩
def csF (L M : List Cl) : Bool := decide (L.length = M.length) && csTo L M L.length
def ssF (L : List Cl) (K : Int) (M : List Cl) (K' : Int) : Bool := K == K' && csF L M
theorem csF_refl (L : List Cl) : csF L L = true := by
  unfold csF csTo; simp
  intro i hi
  cases h : L[i]? with
  | none => rfl
  | some x => simp [Cl.eqb_refl]
theorem ssF_refl (L : List Cl) (K : Int) : ssF L K L K = true := by simp [ssF, csF_refl]
theorem partK (xs : Array Value) (i : Nat) (v : Value) (h : xs[i]? = some v) (w : World) : (part 4 xs i).run Tryz.prog w = .ok v w := by
  unfold part
  simp [Sem.run_bind, Tryz.isAgg4, h]
theorem partN (xs : Array Value) (i : Nat) (v : Value) (h : xs[i]? = some v) (w : World) : (part 3 xs i).run Tryz.prog w = .ok v w := by
  unfold part
  simp [Sem.run_bind, Tryz.isAgg3, h]
theorem partT (xs : Array Value) (i : Nat) (v : Value) (h : xs[i]? = some v) (w : World) : (part 9 xs i).run Tryz.prog w = .ok v w := by
  unfold part
  simp [Sem.run_bind, Tryz.isAgg9, h]
theorem eqC (s s' : ByteArray) (k k' : Int) (b b' : Bool) (w : World) : (Op.equalIn 10000 29 (.agg #[.string s, .int .i64 k, .bool b]) (.agg #[.string s', .int .i64 k', .bool b'])).run Tryz.prog w = .ok (Cl.eqb ⟨s, k, b⟩ ⟨s', k', b'⟩) w := by
  have e := fun (a b : Int) (w : World) => run_equalIn_int (P := Tryz.prog) w 9998 3 .i64 .i64 a b Tryz.underlying3
  have es := fun (a b : ByteArray) (w : World) => run_equalIn_string (P := Tryz.prog) w 9998 9 a b Tryz.underlying9
  have eb := fun (a b : Bool) (w : World) => run_equalIn_bool (P := Tryz.prog) w 9998 4 a b Tryz.underlying4
  have p0 := fun (x0 x1 x2 : Value) => partT #[x0, x1, x2] 0 x0 rfl
  have p1 := fun (x0 x1 x2 : Value) => partN #[x0, x1, x2] 1 x1 rfl
  have p2 := fun (x0 x1 x2 : Value) => partK #[x0, x1, x2] 2 x2 rfl
  rw [show (10000 : Nat) = 9999 + 1 by rfl, run_equalIn_agg w 9999 29 _ _ (by kernel_rfl) (by kernel_rfl)]
  unfold Program.fieldsOf
  rw [Tryz.underlying29]
  by_cases h0 : s.toList = s'.toList <;> by_cases h1 : k = k' <;> by_cases h2 : b = b' <;>
  simp [Op.eqFields, Sem.run_bind, Result.andThen, p0, p1, p2, e, es, eb, h0, h1, h2, Cl.eqb]
set_option maxHeartbeats 2000000 in
set_option maxRecDepth 100000 in
theorem equal_any (A : Option Addr) (L : List Cl) (n c : Nat) (A' : Option Addr) (M : List Cl) (n' c' : Nat) (w : World) (hn : L.length = n) (hn' : M.length = n') (hl : n ≤ 1000) (hl' : n' ≤ 1000) (hA : CRow w A L) (hA' : CRow w A' M) :
    Calls Tryz.prog 161 #[.slice A n c, .slice A' n' c'] w fun e w' => e = .returned (.bool (csF L M)) ∧ Hid (Below w.heap.size w w') := by
  have HN := Lib.hid hn
  have HN' := Lib.hid hn'
  have HA := Lib.hid hA
  have HA' := Lib.hid hA'
  have HB0 := Lib.hid (Below.refl w.heap.size w)
  have eq := eqC
  clear hn hA hA' hn'
  by_cases hnn : n = n'
  · subst hnn
    have HC : Hid (csF L M = csTo L M n) := by show _ = _; unfold csF; rw [HN.out, HN'.out]; simp
    go_enter Tryz.func161, Tryz.ntmps161
    go_wp2_with fail
    go_loopw [13] (fun i wr => ∃ k : Nat, k ≤ n ∧ i = .int .i64 k ∧ Hid (csTo L M k = true) ∧ Hid (Below w.heap.size w wr)) (fun i _ => n - (intOf i).toNat)
    case atStart => exact ⟨0, by omega, rfl, rfl, Below.refl _ _⟩
    case round =>
      obtain ⟨k, hk, rfl, HT, HB⟩ := hrel
      by_cases hlt : k < n
      · have hkl : k < L.length := by rw [HN.out]; exact hlt
        have hkm : k < M.length := by rw [HN'.out]; exact hlt
        obtain ⟨b, off, rfl, hc⟩ := (HA.out.below HB.out) (by intro e; rw [e] at hkl; simp at hkl)
        obtain ⟨b', off', rfl, hc'⟩ := (HA'.out.below HB.out) (by intro e; rw [e] at hkm; simp at hkm)
        obtain ⟨c0, c1, c2⟩ := hc k hkl
        obtain ⟨d0, d1, d2⟩ := hc' k hkm
        have HS := Lib.hid (csTo_succ L M k hkl hkm)
        have HF := Lib.hid (csTo_false L M k n hlt hkl hkm)
        clear hc hc'
        generalize L[k] = x at *
        generalize M[k] = y at *
        obtain ⟨xa, xb, xc⟩ := x
        obtain ⟨ya, yb, yc⟩ := y
        simp only at c0 c1 c2 d0 d1 d2
        have hkz : (k : Int) < (n : Int) := by omega
        have hk0 : (0 : Int) ≤ (k : Int) := by omega
        cases hq : Cl.eqb ⟨xa, xb, xc⟩ ⟨ya, yb, yc⟩
        · go_wp2_with fail
          go_region
          all_goals
            go_wp2_with fail
            go_ret
            exact ⟨by rw [HC.out, HF.out hq]; rfl, HB.out.drew⟩
        · go_wp2_with fail
          go_region
          all_goals
            go_wp2_with fail
            go_roundw
            case rel => exact ⟨k + 1, by omega, by go_num, by show _ = _; rw [HS.out, HT.out, hq]; rfl, HB.out.drew⟩
            case measure => simp [intOf]; omega
      · obtain rfl : k = n := by omega
        go_wp2_with fail
        go_ret
        exact ⟨by rw [HC.out, HT.out]; rfl, HB⟩
  · have HC : Hid (csF L M = false) := by show _ = _; unfold csF; rw [HN.out, HN'.out]; simp [hnn]
    have hq : ((n : Int) != (n' : Int)) = true := by simp; omega
    go_enter Tryz.func161, Tryz.ntmps161
    go_wp2_with fail
    go_ret
    exact ⟨by rw [HC.out]; rfl, HB0⟩
set_option maxHeartbeats 1000000 in
theorem same4_any (A : Option Addr) (L : List Cl) (n c : Nat) (K : Int) (A' : Option Addr) (M : List Cl) (n' c' : Nat) (K' : Int) (w : World) (hn : L.length = n) (hn' : M.length = n') (hl : n ≤ 1000) (hl' : n' ≤ 1000) (hA : CRow w A L) (hA' : CRow w A' M) :
    Calls Tryz.prog 123 #[.agg #[.slice A n c, .int .i64 K], .agg #[.slice A' n' c', .int .i64 K']] w fun e w' => e = .returned (.bool (ssF L K M K')) ∧ Hid (Below w.heap.size w w') := by
  have HB := Lib.hid (((Below.refl w.heap.size w).alloc (Nat.le_refl _) (.cells #[.slice A n c, .int .i64 K] 27)).alloc (by simp) (.cells #[.slice A' n' c', .int .i64 K'] 27))
  have HC := Lib.hid (equal_any A L n c A' M n' c' _ hn hn' hl hl' (hA.below HB.out) (hA'.below HB.out))
  clear hn hn' hA hA'
  by_cases hk : K = K'
  · subst hk
    have HS : Hid (ssF L K M K = csF L M) := by show _ = _; simp [ssF]
    go_enter Tryz.func123, Tryz.ntmps123
    go_wp2_with fail
    refine HC.out.mono ?_
    rintro e w1 ⟨rfl, hb1⟩
    have HB1 := Lib.hid (HB.out.trans (hb1.out.mono HB.out.size))
    clear hb1
    go_wp2_with fail
    go_ret
    exact ⟨by rw [HS.out]; rfl, HB1⟩
  · have HS : Hid (ssF L K M K' = false) := by show _ = _; simp [ssF, hk]
    have hq : (K == K') = false := by simp [hk]
    go_enter Tryz.func123, Tryz.ntmps123
    go_wp2_with fail
    go_ret
    exact ⟨by rw [HS.out]; rfl, HB⟩
set_option maxHeartbeats 2000000 in
set_option maxRecDepth 100000 in
theorem rsame_any (A : Option Addr) (L : List Cl) (n c : Nat) (K : Int) (A' : Option Addr) (M : List Cl) (n' c' : Nat) (K' : Int) (w : World) (hn : L.length = n) (hn' : M.length = n') (hl : n ≤ 1000) (hl' : n' ≤ 1000) (hA : CRow w A L) (hA' : CRow w A' M) :
    Calls Tryz.prog 78 #[.agg #[.slice A n c, .int .i64 K], .agg #[.slice A' n' c', .int .i64 K']] w fun e w' => e = .returned (.bool (ssF L K M K')) ∧ Hid (Below w.heap.size w w') := by
  have HB0 := Lib.hid (((Below.refl w.heap.size w).alloc (Nat.le_refl _) (.cells #[.slice A n c, .int .i64 K] 27)).alloc (by simp) (.cells #[.slice A' n' c', .int .i64 K'] 27))
  have HX0 := Lib.hid ((Has.new w 27 #[.slice A n c, .int .i64 K]).alloc (.cells #[.slice A' n' c', .int .i64 K'] 27))
  have hy := Has.new (w.alloc (.cells #[.slice A n c, .int .i64 K] 27)) 27 #[.slice A' n' c', .int .i64 K']
  rw [show (w.alloc (.cells #[.slice A n c, .int .i64 K] 27)).heap.size = w.heap.size + 1 by simp] at hy
  have HY0 := Lib.hid hy
  have HN := Lib.hid hn
  have HN' := Lib.hid hn'
  have HA := Lib.hid hA
  have HA' := Lib.hid hA'
  have eq := eqC
  clear hn hA hA' hn' hy
  by_cases hk : K = K'
  · subst hk
    by_cases hnn : n = n'
    · subst hnn
      have HC : Hid (ssF L K M K = csTo L M n) := by show _ = _; unfold ssF csF; rw [HN.out, HN'.out]; simp
      go_enter Tryz.func78, Tryz.ntmps78
      go_wp2_with fail
      go_loopw [5] (fun i wr => ∃ k : Nat, k ≤ n ∧ i = .int .i64 k ∧ Hid (csTo L M k = true) ∧ Hid (Below w.heap.size w wr) ∧ Hid (Has wr w.heap.size 27 #[.slice A n c, .int .i64 K]) ∧ Hid (Has wr (w.heap.size + 1) 27 #[.slice A' n c', .int .i64 K])) (fun i _ => n - (intOf i).toNat)
      case atStart => exact ⟨0, by omega, rfl, rfl, HB0.out, HX0.out, HY0.out⟩
      case round =>
        obtain ⟨k, hk, rfl, HT, HB, HX, HY⟩ := hrel
        have a0 := HX.out.cell 0
        have a1 := HY.out.cell 0
        simp at a0 a1
        by_cases hlt : k < n
        · have hkl : k < L.length := by rw [HN.out]; exact hlt
          have hkm : k < M.length := by rw [HN'.out]; exact hlt
          obtain ⟨b, off, rfl, hc⟩ := (HA.out.below HB.out) (by intro e; rw [e] at hkl; simp at hkl)
          obtain ⟨b', off', rfl, hc'⟩ := (HA'.out.below HB.out) (by intro e; rw [e] at hkm; simp at hkm)
          obtain ⟨c0, c1, c2⟩ := hc k hkl
          obtain ⟨d0, d1, d2⟩ := hc' k hkm
          have HS := Lib.hid (csTo_succ L M k hkl hkm)
          have HF := Lib.hid (csTo_false L M k n hlt hkl hkm)
          clear hc hc'
          generalize L[k] = x at *
          generalize M[k] = y at *
          obtain ⟨xa, xb, xc⟩ := x
          obtain ⟨ya, yb, yc⟩ := y
          simp only at c0 c1 c2 d0 d1 d2
          have hkz : (k : Int) < (n : Int) := by omega
          have hk0 : (0 : Int) ≤ (k : Int) := by omega
          cases hq : Cl.eqb ⟨xa, xb, xc⟩ ⟨ya, yb, yc⟩
          · go_wp2_with fail
            go_region
            all_goals
              go_wp2_with fail
              go_ret
              exact ⟨by rw [HC.out, HF.out hq]; rfl, HB.out.drew⟩
          · go_wp2_with fail
            go_region
            all_goals
              go_wp2_with fail
              go_roundw
              case rel => exact ⟨k + 1, by omega, by go_num, by show _ = _; rw [HS.out, HT.out, hq]; rfl, HB.out.drew, HX.out.drew, HY.out.drew⟩
              case measure => simp [intOf]; omega
        · obtain rfl : k = n := by omega
          go_wp2_with fail
          go_ret
          exact ⟨by rw [HC.out, HT.out]; rfl, HB⟩
    · have HC : Hid (ssF L K M K = false) := by show _ = _; unfold ssF csF; rw [HN.out, HN'.out]; simp [hnn]
      have hq : ((n : Int) != (n' : Int)) = true := by simp; omega
      go_enter Tryz.func78, Tryz.ntmps78
      go_wp2_with fail
      go_ret
      exact ⟨by rw [HC.out]; rfl, HB0⟩
  · have HS : Hid (ssF L K M K' = false) := by show _ = _; simp [ssF, hk]
    have hq : (K != K') = true := by simp [hk]
    go_enter Tryz.func78, Tryz.ntmps78
    go_wp2_with fail
    go_ret
    exact ⟨by rw [HS.out]; rfl, HB0⟩
end Go.Proofs.YtlhfdhmmdnkojaaGreatDoor
namespace Go.Proofs.YtlhfdhmmdnkojaaGreatDoor
open Go.RowKit Dg
end Go.Proofs.YtlhfdhmmdnkojaaGreatDoor
namespace Go.Proofs.YtlhfdhmmdnkojaaGreatDoor
open Go.RowKit Dg
set_option maxRecDepth 100000
/-- A table: its name, where its columns lie, they, and its keys. -/
structure Tb where
  nm : ByteArray
  A : Option Addr
  n : Nat
  c : Nat
  L : List Cl
  K : Int
/-- The cells at A read as the tables T. -/
def TRow (w : World) (A : Option Addr) (T : List Tb) : Prop :=
  T ≠ [] → ∃ b off, A = some ⟨b, off, none⟩ ∧ ∀ i (h : i < T.length), w.cell? ⟨b, off + i * 3, none⟩ = some (.string T[i].nm) ∧ w.cell? ⟨b, off + i * 3 + 1, none⟩ = some (.slice T[i].A T[i].n T[i].c) ∧ w.cell? ⟨b, off + i * 3 + 2, none⟩ = some (.int .i64 T[i].K)
/-- The tables' columns lie where they should. -/
def TIn (w : World) (T : List Tb) : Prop := ∀ x ∈ T, x.L.length = x.n ∧ x.n ≤ x.c ∧ x.c ≤ maxLen ∧ CRow w x.A x.L
theorem TRow.below {w w' : World} {A : Option Addr} {T : List Tb} (h : TRow w A T) (hb : Below w.heap.size w w') : TRow w' A T := fun hne => by
  obtain ⟨b, off, e, hc⟩ := h hne
  have k := fun (a : Addr) (v : Value) (h : w.cell? a = some v) => (hb.cell (World.block_lt_of_cell? _ _ h)).trans h
  exact ⟨b, off, e, fun i hi => ⟨k _ _ (hc i hi).1, k _ _ (hc i hi).2.1, k _ _ (hc i hi).2.2⟩⟩
theorem TIn.below {w w' : World} {T : List Tb} (h : TIn w T) (hb : Below w.heap.size w w') : TIn w' T := fun x hx =>
  ⟨(h x hx).1, (h x hx).2.1, (h x hx).2.2.1, (h x hx).2.2.2.below hb⟩
end Go.Proofs.YtlhfdhmmdnkojaaGreatDoor
namespace Go.Proofs.YtlhfdhmmdnkojaaGreatDoor
open Go.RowKit Dg
set_option maxRecDepth 100000
end Go.Proofs.YtlhfdhmmdnkojaaGreatDoor
namespace Go.Proofs.YtlhfdhmmdnkojaaGreatDoor
open Go.RowKit Dg
set_option maxRecDepth 100000
def Tb.row (x : Tb) : List Value := [.string x.nm, .slice x.A x.n x.c, .int .i64 x.K]
/-- Columns in a row of the call's own. -/
def OwnT (B : Nat) (w : World) (v : Value) (L : List Tb) : Prop := w.ownsRow B 79 3 v L.length (L.flatMap Tb.row)
theorem OwnT.below {B : Nat} {w w' : World} {v : Value} {L : List Tb} (h : OwnT B w v L) (hb : Below w.heap.size w w') : OwnT B w' v L := by
  rcases h.2 with ⟨hv, hn⟩ | ⟨g, cap, cur, hv, hg, hh, hc, hcm, hsz, ht⟩
  · exact ⟨h.1, .inl ⟨hv, hn⟩⟩
  · exact ⟨h.1, .inr ⟨g, cap, cur, hv, hg, Has.below (t := 79) (cs := cur) hh hb (Has.lt (t := 79) (cs := cur) hh), hc, hcm, hsz, ht⟩⟩
theorem tflat_get (L : List Tb) (i j : Nat) (h : i < L.length) (hj : j < 3) : (L.flatMap Tb.row)[i * 3 + j]? = L[i].row[j]? := by
  induction L generalizing i with
  | nil => simp at h
  | cons x L ih =>
    rw [List.flatMap_cons]
    rcases i with _ | i
    · rw [List.getElem?_append_left (by simp [Tb.row]; omega)]
      simp
    · rw [List.getElem?_append_right (by simp [Tb.row]; omega)]
      have e : (i + 1) * 3 + j - x.row.length = i * 3 + j := by simp [Tb.row]; omega
      rw [e, ih i (by simpa using h)]
      simp
theorem ownT_row {B : Nat} {w : World} {v : Value} {L : List Tb} (h : OwnT B w v L) : ∃ A c, v = .slice A L.length c ∧ L.length ≤ c ∧ c ≤ maxLen ∧ TRow w A L ∧ (A = none → c = 0) := by
  rcases h.2 with ⟨hv, hn⟩ | ⟨g, cap, cur, hv, _, hh, hc, hcm, hsz, ht⟩
  · obtain rfl := List.eq_nil_of_length_eq_zero hn
    exact ⟨none, 0, hv, Nat.le_refl _, Nat.zero_le _, fun h => absurd rfl h, fun _ => rfl⟩
  · refine ⟨_, _, hv, hc, hcm, fun _ => ⟨g, 0, rfl, fun i hi => ?_⟩, fun e => by cases e⟩
    have hq : ∀ j, j < 3 → w.cell? ⟨g, 0 + (i * 3 + j), none⟩ = L[i].row[j]? := fun j hj => by
      rw [Nat.zero_add, Has.cell (t := 79) (cs := cur) hh, ← tflat_get L i j hi hj, ← ht, List.getElem?_take, if_pos (by omega)]
      simp
    have q0 := hq 0 (by omega)
    have q1 := hq 1 (by omega)
    have q2 := hq 2 (by omega)
    exact ⟨q0, q1, q2⟩
theorem TRow.drop {w : World} {b off : Nat} {L : List Tb} (h : TRow w (some ⟨b, off, none⟩) L) (k : Nat) : TRow w (some ⟨b, off + k * 3, none⟩) (L.drop k) := fun hl => by
  obtain ⟨b', off', e, hc⟩ := h (by rintro rfl; simp at hl)
  injection e with e
  injection e with e1 e2
  subst e1 e2
  refine ⟨b, off + k * 3, rfl, fun i hi => ?_⟩
  rw [List.length_drop] at hi
  obtain ⟨h0, h1, h2⟩ := hc (k + i) (by omega)
  rw [List.getElem_drop]
  have e : off + (k + i) * 3 = off + k * 3 + i * 3 := by omega
  rw [e] at h0 h1 h2
  exact ⟨h0, h1, h2⟩
theorem TRow.take {w : World} {A : Option Addr} {L : List Tb} (h : TRow w A L) (k : Nat) : TRow w A (L.take k) := fun hl => by
  obtain ⟨b, off, e, hc⟩ := h (by rintro rfl; simp at hl)
  refine ⟨b, off, e, fun i hi => ?_⟩
  rw [List.length_take] at hi
  rw [List.getElem_take]
  exact hc i (by omega)
theorem TRow.one (w : World) (x : Tb) : TRow (w.alloc (.cells #[.string x.nm, .slice x.A x.n x.c, .int .i64 x.K] 79)) (some ⟨w.heap.size, 0, none⟩) [x] := fun _ => ⟨w.heap.size, 0, rfl, fun i hi => by
  have hh := Has.new w 79 #[.string x.nm, .slice x.A x.n x.c, .int .i64 x.K]
  obtain rfl : i = 0 := by simpa using hi
  exact ⟨hh.cell 0, hh.cell 1, hh.cell 2⟩⟩
theorem OwnT.drew {B : Nat} {w : World} {v : Value} {L : List Tb} (h : OwnT B w v L) : OwnT B w.drew v L := h.below ((Below.refl _ w).drew)
theorem OwnT.row {B : Nat} {w : World} {v : Value} {L : List Tb} (h : OwnT B w v L) {A : Option Addr} {n c : Nat} (hv : v = .slice A n c) : TRow w A L := by
  obtain ⟨A2, c2, e, _, _, hr, _⟩ := ownT_row h
  rw [hv] at e
  injection e with e1 _ _
  rw [e1]; exact hr
theorem OwnT.far {B : Nat} {w : World} {v : Value} {L : List Tb} (h : OwnT B w v L) {p : Addr} (hp : p.block < B) (u : Value) : OwnT B (w.setCell p u) v L := by
  rcases h.2 with ⟨hv, hn⟩ | ⟨g, cap, cur, hv, hg, hh, hc, hcm, hsz, ht⟩
  · exact ⟨h.1, .inl ⟨hv, hn⟩⟩
  · exact ⟨h.1, .inr ⟨g, cap, cur, hv, hg, Has.far (t := 79) (cs := cur) hh (by omega) u, hc, hcm, hsz, ht⟩⟩
end Go.Proofs.YtlhfdhmmdnkojaaGreatDoor
namespace Go.Proofs.YtlhfdhmmdnkojaaGreatDoor
open Go.RowKit Dg
set_option maxRecDepth 100000
end Go.Proofs.YtlhfdhmmdnkojaaGreatDoor
namespace Go.Proofs.YtlhfdhmmdnkojaaGreatDoor
open Go.RowKit Dg
/-- An event. -/
structure Ev where
  k : Int
  n : Int
  t : ByteArray
  B : List Vl
  A : List Vl
  ck : Int
  ct : ByteArray
  L : List Cl
  K : Int
  cl : Cl
def chF (x y : Ev) : Bool := x.ck == y.ck && x.ct.toList == y.ct.toList && x.cl.eqb y.cl && ssF x.L x.K y.L y.K
def evF (x y : Ev) : Bool := x.k == y.k && x.n == y.n && x.t.toList == y.t.toList && vsF x.B y.B && vsF x.A y.A && chF x y
theorem Cl.eqb_iff (x y : Cl) : x.eqb y = true ↔ x = y := by
  obtain ⟨a, b, c⟩ := x
  obtain ⟨a', b', c'⟩ := y
  simp only [Cl.eqb, Bool.and_eq_true, beq_iff_eq, Cl.mk.injEq]
  constructor
  · rintro ⟨⟨h, rfl⟩, rfl⟩; exact ⟨toList_inj h, rfl, rfl⟩
  · rintro ⟨rfl, rfl, rfl⟩; exact ⟨⟨rfl, rfl⟩, rfl⟩
set_option maxHeartbeats 4000000 in
set_option maxRecDepth 100000 in
theorem vsameB_any (A : Option Addr) (L : List Vl) (n c : Nat) (A' : Option Addr) (M : List Vl) (n' c' : Nat) (w : World) (hn : L.length = n) (hn' : M.length = n') (hl : (n : Int) ≤ 9223372036854775807) (hA : VRow w A L) (hA' : VRow w A' M) :
    Calls Tryz.prog 68 #[.slice A n c, .slice A' n' c'] w fun e w' => e = .returned (.bool (vsF L M)) ∧ Hid (Below w.heap.size w w') := by
  have HN := Lib.hid hn
  have HN' := Lib.hid hn'
  have HA := Lib.hid hA
  have HA' := Lib.hid hA'
  have eq := eqV
  clear hn hA hA' hn'
  by_cases hnn : n = n'
  · subst hnn
    have HC : Hid (vsF L M = vsTo L M n) := by show _ = _; unfold vsF; rw [HN.out, HN'.out]; simp
    go_enter Tryz.func68, Tryz.ntmps68
    go_wp2_with fail
    go_loopw [5] (fun i wr => ∃ k : Nat, k ≤ n ∧ i = .int .i64 k ∧ Hid (vsTo L M k = true) ∧ Hid (Below w.heap.size w wr)) (fun i _ => n - (intOf i).toNat)
    case atStart => exact ⟨0, by omega, rfl, rfl, Below.refl _ _⟩
    case round =>
      obtain ⟨k, hk, rfl, HT, HB⟩ := hrel
      by_cases hlt : k < n
      · have hkl : k < L.length := by rw [HN.out]; exact hlt
        have hkm : k < M.length := by rw [HN'.out]; exact hlt
        obtain ⟨b, off, rfl, hc⟩ := (HA.out.below HB.out) (by intro e; rw [e] at hkl; simp at hkl)
        obtain ⟨b', off', rfl, hc'⟩ := (HA'.out.below HB.out) (by intro e; rw [e] at hkm; simp at hkm)
        obtain ⟨c0, c1, c2⟩ := hc k hkl
        obtain ⟨d0, d1, d2⟩ := hc' k hkm
        have HS := Lib.hid (vsTo_succ L M k hkl hkm)
        have HF := Lib.hid (vsTo_false L M k n hlt hkl hkm)
        clear hc hc'
        generalize L[k] = x at *
        generalize M[k] = y at *
        obtain ⟨xk, xn, xs⟩ := x
        obtain ⟨yk, yn, ys⟩ := y
        simp only at c0 c1 c2 d0 d1 d2
        have hkz : (k : Int) < (n : Int) := by omega
        have hk0 : (0 : Int) ≤ (k : Int) := by omega
        have HE : Hid (Vl.eqb ⟨xk, xn, xs⟩ ⟨yk, yn, ys⟩ = (xk == yk && xn == yn && xs.toList == ys.toList)) := rfl
        generalize hq : (xk == yk && xn == yn && xs.toList == ys.toList) = q at *
        have eq2 : ∀ W, (Op.equalIn 10000 113 (.agg #[.int .i64 xk, .int .i64 xn, .string xs]) (.agg #[.int .i64 yk, .int .i64 yn, .string ys])).run Tryz.prog W = .ok q W := fun W => by rw [eq, hq]
        clear eq hq
        cases q
        · go_wp2_with fail
          go_region
          all_goals
            go_wp2_with fail
            go_ret
            exact ⟨by rw [HC.out, HF.out HE.out]; rfl, HB.out.drew⟩
        · go_wp2_with fail
          go_region
          all_goals
            go_wp2_with fail
            go_roundw
            case rel => exact ⟨k + 1, by omega, by go_num, by show _ = _; rw [HS.out, HT.out, HE.out]; rfl, HB.out.drew⟩
            case measure => simp [intOf]; omega
      · obtain rfl : k = n := by omega
        go_wp2_with fail
        go_ret
        exact ⟨by rw [HC.out, HT.out]; rfl, HB⟩
  · have HC : Hid (vsF L M = false) := by show _ = _; unfold vsF; rw [HN.out, HN'.out]; simp [hnn]
    have hq : ((n : Int) != (n' : Int)) = true := by simp; omega
    go_enter Tryz.func68, Tryz.ntmps68
    go_wp2_with fail
    go_ret
    exact ⟨by rw [HC.out]; rfl, Below.refl _ _⟩
set_option maxHeartbeats 4000000 in
set_option maxRecDepth 100000 in
theorem equalV_any (A : Option Addr) (L : List Vl) (n c : Nat) (A' : Option Addr) (M : List Vl) (n' c' : Nat) (w : World) (hn : L.length = n) (hn' : M.length = n') (hl : (n : Int) ≤ 9223372036854775807) (hA : VRow w A L) (hA' : VRow w A' M) :
    Calls Tryz.prog 69 #[.slice A n c, .slice A' n' c'] w fun e w' => e = .returned (.bool (vsF L M)) ∧ Hid (Below w.heap.size w w') := by
  have HN := Lib.hid hn
  have HN' := Lib.hid hn'
  have HA := Lib.hid hA
  have HA' := Lib.hid hA'
  have eq := eqV
  clear hn hA hA' hn'
  by_cases hnn : n = n'
  · subst hnn
    have HC : Hid (vsF L M = vsTo L M n) := by show _ = _; unfold vsF; rw [HN.out, HN'.out]; simp
    go_enter Tryz.func69, Tryz.ntmps69
    go_wp2_with fail
    go_loopw [13] (fun i wr => ∃ k : Nat, k ≤ n ∧ i = .int .i64 k ∧ Hid (vsTo L M k = true) ∧ Hid (Below w.heap.size w wr)) (fun i _ => n - (intOf i).toNat)
    case atStart => exact ⟨0, by omega, rfl, rfl, Below.refl _ _⟩
    case round =>
      obtain ⟨k, hk, rfl, HT, HB⟩ := hrel
      by_cases hlt : k < n
      · have hkl : k < L.length := by rw [HN.out]; exact hlt
        have hkm : k < M.length := by rw [HN'.out]; exact hlt
        obtain ⟨b, off, rfl, hc⟩ := (HA.out.below HB.out) (by intro e; rw [e] at hkl; simp at hkl)
        obtain ⟨b', off', rfl, hc'⟩ := (HA'.out.below HB.out) (by intro e; rw [e] at hkm; simp at hkm)
        obtain ⟨c0, c1, c2⟩ := hc k hkl
        obtain ⟨d0, d1, d2⟩ := hc' k hkm
        have HS := Lib.hid (vsTo_succ L M k hkl hkm)
        have HF := Lib.hid (vsTo_false L M k n hlt hkl hkm)
        clear hc hc'
        generalize L[k] = x at *
        generalize M[k] = y at *
        obtain ⟨xk, xn, xs⟩ := x
        obtain ⟨yk, yn, ys⟩ := y
        simp only at c0 c1 c2 d0 d1 d2
        have hkz : (k : Int) < (n : Int) := by omega
        have hk0 : (0 : Int) ≤ (k : Int) := by omega
        have HE : Hid (Vl.eqb ⟨xk, xn, xs⟩ ⟨yk, yn, ys⟩ = (xk == yk && xn == yn && xs.toList == ys.toList)) := rfl
        generalize hq : (xk == yk && xn == yn && xs.toList == ys.toList) = q at *
        have eq2 : ∀ W, (Op.equalIn 10000 113 (.agg #[.int .i64 xk, .int .i64 xn, .string xs]) (.agg #[.int .i64 yk, .int .i64 yn, .string ys])).run Tryz.prog W = .ok q W := fun W => by rw [eq, hq]
        clear eq hq
        cases q
        · go_wp2_with fail
          go_region
          all_goals
            go_wp2_with fail
            go_ret
            exact ⟨by rw [HC.out, HF.out HE.out]; rfl, HB.out.drew⟩
        · go_wp2_with fail
          go_region
          all_goals
            go_wp2_with fail
            go_roundw
            case rel => exact ⟨k + 1, by omega, by go_num, by show _ = _; rw [HS.out, HT.out, HE.out]; rfl, HB.out.drew⟩
            case measure => simp [intOf]; omega
      · obtain rfl : k = n := by omega
        go_wp2_with fail
        go_ret
        exact ⟨by rw [HC.out, HT.out]; rfl, HB⟩
  · have HC : Hid (vsF L M = false) := by show _ = _; unfold vsF; rw [HN.out, HN'.out]; simp [hnn]
    have hq : ((n : Int) != (n' : Int)) = true := by simp; omega
    go_enter Tryz.func69, Tryz.ntmps69
    go_wp2_with fail
    go_ret
    exact ⟨by rw [HC.out]; rfl, Below.refl _ _⟩
end Go.Proofs.YtlhfdhmmdnkojaaGreatDoor
namespace Go.Proofs.YtlhfdhmmdnkojaaGreatDoor
open Go.RowKit Dg
def chG (ck ck' : Int) (ct ct' : ByteArray) (q q' : Cl) (L L' : List Cl) (K K' : Int) : Bool := ck == ck' && ct.toList == ct'.toList && q.eqb q' && ssF L K L' K'
theorem chF_eq (x y : Ev) : chF x y = chG x.ck y.ck x.ct y.ct x.cl y.cl x.L y.L x.K y.K := rfl
/-- An event whose value and rows are known. -/
structure EvAt (w : World) (v : Value) (x : Ev) : Prop where
  known : ∃ Ab nb zb Aa na za A n c, v = .agg #[.int .i64 x.k, .int .i64 x.n, .string x.t, .slice Ab nb zb, .slice Aa na za, .int .i64 x.ck, .string x.ct, .slice A n c, .int .i64 x.K, .string x.cl.nm, .int .i64 x.cl.k, .bool x.cl.no] ∧ (x.B.length = nb ∧ (nb : Int) ≤ 9223372036854775807 ∧ VRow w Ab x.B) ∧ (x.A.length = na ∧ (na : Int) ≤ 9223372036854775807 ∧ VRow w Aa x.A) ∧ x.L.length = n ∧ n ≤ 1000 ∧ CRow w A x.L
theorem EvAt.below {w w' : World} {v : Value} {x : Ev} (h : EvAt w v x) (hb : Below w.heap.size w w') : EvAt w' v x := by
  obtain ⟨Ab, nb, zb, Aa, na, za, A, n, c, e, ⟨h1, h2, h3⟩, ⟨h4, h5, h6⟩, h7, h8, h9⟩ := h.known
  exact ⟨Ab, nb, zb, Aa, na, za, A, n, c, e, ⟨h1, h2, h3.below hb⟩, ⟨h4, h5, h6.below hb⟩, h7, h8, h9.below hb⟩
set_option maxHeartbeats 2000000 in
set_option maxRecDepth 100000 in
theorem schange_any (ck : Int) (ct : ByteArray) (A : Option Addr) (L : List Cl) (n c : Nat) (K : Int) (cn : ByteArray) (cq : Int) (cb : Bool) (ck' : Int) (ct' : ByteArray) (A' : Option Addr) (L' : List Cl) (n' c' : Nat) (K' : Int) (cn' : ByteArray) (cq' : Int) (cb' : Bool) (w : World) (hn : L.length = n) (hn' : L'.length = n') (hl : n ≤ 1000) (hl' : n' ≤ 1000) (hA : CRow w A L) (hA' : CRow w A' L') :
    Calls Tryz.prog 70 #[.agg #[.int .i64 ck, .string ct, .slice A n c, .int .i64 K, .string cn, .int .i64 cq, .bool cb], .agg #[.int .i64 ck', .string ct', .slice A' n' c', .int .i64 K', .string cn', .int .i64 cq', .bool cb']] w fun e w' => e = .returned (.bool (chG ck ck' ct ct' ⟨cn, cq, cb⟩ ⟨cn', cq', cb'⟩ L L' K K')) ∧ Hid (Below w.heap.size w w') := by
  have HB := Lib.hid (((Below.refl w.heap.size w).alloc (Nat.le_refl _) (.cells #[.int .i64 ck, .string ct, .slice A n c, .int .i64 K, .string cn, .int .i64 cq, .bool cb] 31)).alloc (by simp) (.cells #[.int .i64 ck', .string ct', .slice A' n' c', .int .i64 K', .string cn', .int .i64 cq', .bool cb'] 31))
  have HC := Lib.hid (same4_any A L n c K A' L' n' c' K' ((w.alloc (.cells #[.int .i64 ck, .string ct, .slice A n c, .int .i64 K, .string cn, .int .i64 cq, .bool cb] 31)).alloc (.cells #[.int .i64 ck', .string ct', .slice A' n' c', .int .i64 K', .string cn', .int .i64 cq', .bool cb'] 31)) hn hn' hl hl' (hA.below HB.out) (hA'.below HB.out))
  have eq := eqC
  clear hn hn' hA hA'
  cases h0 : (ck == ck')
  · have HS : Hid (chG ck ck' ct ct' ⟨cn, cq, cb⟩ ⟨cn', cq', cb'⟩ L L' K K' = false) := by show _ = _; unfold chG; simp [h0]
    go_enter Tryz.func70, Tryz.ntmps70
    go_wp2_with fail
    go_ret
    exact ⟨by rw [HS.out]; rfl, HB⟩
  · skip
    cases h1 : (ct.toList == ct'.toList)
    · have HS : Hid (chG ck ck' ct ct' ⟨cn, cq, cb⟩ ⟨cn', cq', cb'⟩ L L' K K' = false) := by show _ = _; unfold chG; simp [h0, h1]
      go_enter Tryz.func70, Tryz.ntmps70
      go_wp2_with fail
      go_ret
      exact ⟨by rw [HS.out]; rfl, HB⟩
    · skip
      cases h2 : Cl.eqb ⟨cn, cq, cb⟩ ⟨cn', cq', cb'⟩
      · have HS : Hid (chG ck ck' ct ct' ⟨cn, cq, cb⟩ ⟨cn', cq', cb'⟩ L L' K K' = false) := by show _ = _; unfold chG; simp [h0, h1, h2]
        go_enter Tryz.func70, Tryz.ntmps70
        go_wp2_with fail
        go_ret
        exact ⟨by rw [HS.out]; rfl, HB⟩
      · skip
        have HS : Hid (chG ck ck' ct ct' ⟨cn, cq, cb⟩ ⟨cn', cq', cb'⟩ L L' K K' = ssF L K L' K') := by show _ = _; unfold chG; simp [h0, h1, h2]
        go_enter Tryz.func70, Tryz.ntmps70
        go_wp2_with fail
        refine HC.out.mono ?_
        rintro e w1 ⟨rfl, hb1⟩
        have HB1 := Lib.hid (HB.out.trans (hb1.out.mono HB.out.size))
        clear hb1 HC
        go_wp2_with fail
        go_ret
        exact ⟨by rw [HS.out]; rfl, HB1⟩
set_option maxHeartbeats 2000000 in
set_option maxRecDepth 100000 in
theorem rchange_any (ck : Int) (ct : ByteArray) (A : Option Addr) (L : List Cl) (n c : Nat) (K : Int) (cn : ByteArray) (cq : Int) (cb : Bool) (ck' : Int) (ct' : ByteArray) (A' : Option Addr) (L' : List Cl) (n' c' : Nat) (K' : Int) (cn' : ByteArray) (cq' : Int) (cb' : Bool) (w : World) (hn : L.length = n) (hn' : L'.length = n') (hl : n ≤ 1000) (hl' : n' ≤ 1000) (hA : CRow w A L) (hA' : CRow w A' L') :
    Calls Tryz.prog 55 #[.agg #[.int .i64 ck, .string ct, .slice A n c, .int .i64 K, .string cn, .int .i64 cq, .bool cb], .agg #[.int .i64 ck', .string ct', .slice A' n' c', .int .i64 K', .string cn', .int .i64 cq', .bool cb']] w fun e w' => e = .returned (.bool (chG ck ck' ct ct' ⟨cn, cq, cb⟩ ⟨cn', cq', cb'⟩ L L' K K')) ∧ Hid (Below w.heap.size w w') := by
  have HB := Lib.hid (((Below.refl w.heap.size w).alloc (Nat.le_refl _) (.cells #[.int .i64 ck, .string ct, .slice A n c, .int .i64 K, .string cn, .int .i64 cq, .bool cb] 31)).alloc (by simp) (.cells #[.int .i64 ck', .string ct', .slice A' n' c', .int .i64 K', .string cn', .int .i64 cq', .bool cb'] 31))
  have HC := Lib.hid (rsame_any A L n c K A' L' n' c' K' ((w.alloc (.cells #[.int .i64 ck, .string ct, .slice A n c, .int .i64 K, .string cn, .int .i64 cq, .bool cb] 31)).alloc (.cells #[.int .i64 ck', .string ct', .slice A' n' c', .int .i64 K', .string cn', .int .i64 cq', .bool cb'] 31)) hn hn' hl hl' (hA.below HB.out) (hA'.below HB.out))
  have HX := Lib.hid ((Has.new w 31 #[.int .i64 ck, .string ct, .slice A n c, .int .i64 K, .string cn, .int .i64 cq, .bool cb]).alloc (.cells #[.int .i64 ck', .string ct', .slice A' n' c', .int .i64 K', .string cn', .int .i64 cq', .bool cb'] 31))
  have hy := Has.new (w.alloc (.cells #[.int .i64 ck, .string ct, .slice A n c, .int .i64 K, .string cn, .int .i64 cq, .bool cb] 31)) 31 #[.int .i64 ck', .string ct', .slice A' n' c', .int .i64 K', .string cn', .int .i64 cq', .bool cb']
  rw [show (w.alloc (.cells #[.int .i64 ck, .string ct, .slice A n c, .int .i64 K, .string cn, .int .i64 cq, .bool cb] 31)).heap.size = w.heap.size + 1 by simp] at hy
  have HY := Lib.hid hy
  clear hy
  have eq := eqC
  clear hn hn' hA hA'
  obtain ⟨q, hq⟩ : ∃ q, ssF L K L' K' = q := ⟨_, rfl⟩
  have HS : Hid (chG ck ck' ct ct' ⟨cn, cq, cb⟩ ⟨cn', cq', cb'⟩ L L' K K' = (q && ck == ck' && ct.toList == ct'.toList && Cl.eqb ⟨cn, cq, cb⟩ ⟨cn', cq', cb'⟩)) := by
    show _ = _; unfold chG; rw [hq]; cases q <;> simp
  rw [hq] at HC
  clear hq
  go_enter Tryz.func55, Tryz.ntmps55
  go_wp2_with fail
  refine HC.out.mono ?_
  rintro e w1 ⟨rfl, hb1⟩
  replace HX := Lib.hid (HX.out.below hb1.out (by have := HX.out.lt; exact this))
  replace HY := Lib.hid (HY.out.below hb1.out (by have := HY.out.lt; exact this))
  replace HB := Lib.hid (HB.out.trans (hb1.out.mono HB.out.size))
  clear hb1 HC
  have x0 : w1.cell? ⟨w.heap.size, 0, none⟩ = some (.int .i64 ck) := HX.out.cell 0
  have x1 : w1.cell? ⟨w.heap.size, 1, none⟩ = some (.string ct) := HX.out.cell 1
  have x4 : w1.cell? ⟨w.heap.size, 4, none⟩ = some (.string cn) := HX.out.cell 4
  have x5 : w1.cell? ⟨w.heap.size, 5, none⟩ = some (.int .i64 cq) := HX.out.cell 5
  have x6 : w1.cell? ⟨w.heap.size, 6, none⟩ = some (.bool cb) := HX.out.cell 6
  have y0 : w1.cell? ⟨w.heap.size + 1, 0, none⟩ = some (.int .i64 ck') := HY.out.cell 0
  have y1 : w1.cell? ⟨w.heap.size + 1, 1, none⟩ = some (.string ct') := HY.out.cell 1
  have y4 : w1.cell? ⟨w.heap.size + 1, 4, none⟩ = some (.string cn') := HY.out.cell 4
  have y5 : w1.cell? ⟨w.heap.size + 1, 5, none⟩ = some (.int .i64 cq') := HY.out.cell 5
  have y6 : w1.cell? ⟨w.heap.size + 1, 6, none⟩ = some (.bool cb') := HY.out.cell 6
  cases q
  · go_wp2_with fail
    go_ret
    exact ⟨by rw [HS.out]; rfl, HB⟩
  · skip
    cases h0 : (ck == ck')
    · go_wp2_with fail
      go_ret
      exact ⟨by rw [HS.out, h0]; rfl, HB⟩
    · skip
      cases h1 : (ct.toList == ct'.toList)
      · go_wp2_with fail
        go_ret
        exact ⟨by rw [HS.out, h0, h1]; rfl, HB⟩
      · skip
        cases h2 : Cl.eqb ⟨cn, cq, cb⟩ ⟨cn', cq', cb'⟩
        · go_wp2_with fail
          go_ret
          exact ⟨by rw [HS.out, h0, h1, h2]; rfl, HB⟩
        · go_wp2_with fail
          go_ret
          exact ⟨by rw [HS.out, h0, h1, h2]; rfl, HB⟩
end Go.Proofs.YtlhfdhmmdnkojaaGreatDoor
namespace Go.Proofs.YtlhfdhmmdnkojaaGreatDoor
open Go.RowKit Dg
set_option maxHeartbeats 4000000 in
set_option maxRecDepth 100000 in
theorem esame_any (v v' : Value) (x y : Ev) (w : World) (hx : EvAt w v x) (hy : EvAt w v' y) :
    Calls Tryz.prog 21 #[v, v'] w fun e w' => e = .returned (.bool (evF x y)) ∧ Hid (Below w.heap.size w w') := by
  obtain ⟨Ab, nb, zb, Aa, na, za, A, n, c, rfl, ⟨h1, h2, h3⟩, ⟨h4, h5, h6⟩, h7, h8, h9⟩ := hx.known
  obtain ⟨Ab', nb', zb', Aa', na', za', A', n', c', rfl, ⟨h1', h2', h3'⟩, ⟨h4', h5', h6'⟩, h7', h8', h9'⟩ := hy.known
  clear hx hy
  obtain ⟨k, m, t, Bl, Al, ck, ct, L, K, ⟨cn, cq, cb⟩⟩ := x
  obtain ⟨k', m', t', Bl', Al', ck', ct', L', K', ⟨cn', cq', cb'⟩⟩ := y
  simp only at h1 h3 h4 h6 h7 h9 h1' h3' h4' h6' h7' h9'
  obtain ⟨qc, hqc⟩ : ∃ q, chG ck ck' ct ct' ⟨cn, cq, cb⟩ ⟨cn', cq', cb'⟩ L L' K K' = q := ⟨_, rfl⟩
  obtain ⟨qb, hqb⟩ : ∃ q, vsF Bl Bl' = q := ⟨_, rfl⟩
  obtain ⟨qa, hqa⟩ : ∃ q, vsF Al Al' = q := ⟨_, rfl⟩
  have HS : Hid (evF ⟨k, m, t, Bl, Al, ck, ct, L, K, ⟨cn, cq, cb⟩⟩ ⟨k', m', t', Bl', Al', ck', ct', L', K', ⟨cn', cq', cb'⟩⟩ = (k == k' && m == m' && t.toList == t'.toList && qb && qa && qc)) := by
    show _ = _; unfold evF; rw [chF_eq]; simp only [hqb, hqa, hqc]
  have HB := Lib.hid (((Below.refl w.heap.size w).alloc (Nat.le_refl _) (.cells #[.int .i64 k, .int .i64 m, .string t, .slice Ab nb zb, .slice Aa na za, .int .i64 ck, .string ct, .slice A n c, .int .i64 K, .string cn, .int .i64 cq, .bool cb] 33)).alloc (by simp) (.cells #[.int .i64 k', .int .i64 m', .string t', .slice Ab' nb' zb', .slice Aa' na' za', .int .i64 ck', .string ct', .slice A' n' c', .int .i64 K', .string cn', .int .i64 cq', .bool cb'] 33))
  have HX := Lib.hid ((Has.new w 33 #[.int .i64 k, .int .i64 m, .string t, .slice Ab nb zb, .slice Aa na za, .int .i64 ck, .string ct, .slice A n c, .int .i64 K, .string cn, .int .i64 cq, .bool cb]).alloc (.cells #[.int .i64 k', .int .i64 m', .string t', .slice Ab' nb' zb', .slice Aa' na' za', .int .i64 ck', .string ct', .slice A' n' c', .int .i64 K', .string cn', .int .i64 cq', .bool cb'] 33))
  have hy := Has.new (w.alloc (.cells #[.int .i64 k, .int .i64 m, .string t, .slice Ab nb zb, .slice Aa na za, .int .i64 ck, .string ct, .slice A n c, .int .i64 K, .string cn, .int .i64 cq, .bool cb] 33)) 33 #[.int .i64 k', .int .i64 m', .string t', .slice Ab' nb' zb', .slice Aa' na' za', .int .i64 ck', .string ct', .slice A' n' c', .int .i64 K', .string cn', .int .i64 cq', .bool cb']
  rw [show (w.alloc (.cells #[.int .i64 k, .int .i64 m, .string t, .slice Ab nb zb, .slice Aa na za, .int .i64 ck, .string ct, .slice A n c, .int .i64 K, .string cn, .int .i64 cq, .bool cb] 33)).heap.size = w.heap.size + 1 by simp] at hy
  have HY := Lib.hid hy
  have CB := Lib.hid (fun (W : World) (hb : Below w.heap.size w W) => equalV_any Ab Bl nb zb Ab' Bl' nb' zb' W h1 h1' (by omega) (h3.below hb) (h3'.below hb))
  have CA := Lib.hid (fun (W : World) (hb : Below w.heap.size w W) => equalV_any Aa Al na za Aa' Al' na' za' W h4 h4' (by omega) (h6.below hb) (h6'.below hb))
  have CC := Lib.hid (fun (W : World) (hb : Below w.heap.size w W) => schange_any ck ct A L n c K cn cq cb ck' ct' A' L' n' c' K' cn' cq' cb' W h7 h7' h8 h8' (h9.below hb) (h9'.below hb))
  rw [hqb] at CB
  rw [hqa] at CA
  rw [hqc] at CC
  clear hy h1 h1' h3 h3' h4 h4' h6 h6' h7 h7' h9 h9' hqa hqb hqc
  cases g0 : (k == k')
  · replace HS := Lib.hid (HS.out.trans (show _ = false by simp [g0]))
    go_enter Tryz.func21, Tryz.ntmps21
    go_wp2_with fail
    go_ret
    exact ⟨by rw [HS.out]; rfl, HB⟩
  · skip
    cases g1 : (m == m')
    · replace HS := Lib.hid (HS.out.trans (show _ = false by simp [g0, g1]))
      go_enter Tryz.func21, Tryz.ntmps21
      go_wp2_with fail
      go_ret
      exact ⟨by rw [HS.out]; rfl, HB⟩
    · skip
      cases g2 : (t.toList == t'.toList)
      · replace HS := Lib.hid (HS.out.trans (show _ = false by simp [g0, g1, g2]))
        go_enter Tryz.func21, Tryz.ntmps21
        go_wp2_with fail
        go_ret
        exact ⟨by rw [HS.out]; rfl, HB⟩
      · skip
        replace HS := Lib.hid (HS.out.trans (show _ = (qb && qa && qc) by simp [g0, g1, g2]))
        go_enter Tryz.func21, Tryz.ntmps21
        go_wp2_with fail
        refine (CB.out _ HB.out).mono ?_
        rintro e w1 ⟨rfl, hb1⟩
        have HB0 := Lib.hid (HB.out.trans (hb1.out.mono HB.out.size))
        have HX0 := Lib.hid (HX.out.below hb1.out HX.out.lt)
        have HY0 := Lib.hid (HY.out.below hb1.out HY.out.lt)
        clear hb1 HB HX HY
        have HB := HB0
        have HX := HX0
        have HY := HY0
        clear HB0 HX0 HY0
        have ax4 : w1.cell? ⟨w.heap.size, 4, none⟩ = some (.slice Aa na za) := HX.out.cell 4
        have ax5 : w1.cell? ⟨w.heap.size, 5, none⟩ = some (.int .i64 ck) := HX.out.cell 5
        have ax6 : w1.cell? ⟨w.heap.size, 6, none⟩ = some (.string ct) := HX.out.cell 6
        have ax7 : w1.cell? ⟨w.heap.size, 7, none⟩ = some (.slice A n c) := HX.out.cell 7
        have ax8 : w1.cell? ⟨w.heap.size, 8, none⟩ = some (.int .i64 K) := HX.out.cell 8
        have ax9 : w1.cell? ⟨w.heap.size, 9, none⟩ = some (.string cn) := HX.out.cell 9
        have ax10 : w1.cell? ⟨w.heap.size, 10, none⟩ = some (.int .i64 cq) := HX.out.cell 10
        have ax11 : w1.cell? ⟨w.heap.size, 11, none⟩ = some (.bool cb) := HX.out.cell 11
        have ay4 : w1.cell? ⟨w.heap.size + 1, 4, none⟩ = some (.slice Aa' na' za') := HY.out.cell 4
        have ay5 : w1.cell? ⟨w.heap.size + 1, 5, none⟩ = some (.int .i64 ck') := HY.out.cell 5
        have ay6 : w1.cell? ⟨w.heap.size + 1, 6, none⟩ = some (.string ct') := HY.out.cell 6
        have ay7 : w1.cell? ⟨w.heap.size + 1, 7, none⟩ = some (.slice A' n' c') := HY.out.cell 7
        have ay8 : w1.cell? ⟨w.heap.size + 1, 8, none⟩ = some (.int .i64 K') := HY.out.cell 8
        have ay9 : w1.cell? ⟨w.heap.size + 1, 9, none⟩ = some (.string cn') := HY.out.cell 9
        have ay10 : w1.cell? ⟨w.heap.size + 1, 10, none⟩ = some (.int .i64 cq') := HY.out.cell 10
        have ay11 : w1.cell? ⟨w.heap.size + 1, 11, none⟩ = some (.bool cb') := HY.out.cell 11
        cases qb
        · go_wp2_with fail
          go_ret
          exact ⟨by rw [HS.out]; rfl, HB⟩
        · go_wp2_with fail
          refine (CA.out _ HB.out).mono ?_
          rintro e w2 ⟨rfl, hb1⟩
          clear ax4 ax5 ax6 ax7 ax8 ax9 ax10 ax11 ay4 ay5 ay6 ay7 ay8 ay9 ay10 ay11
          have HB0 := Lib.hid (HB.out.trans (hb1.out.mono HB.out.size))
          have HX0 := Lib.hid (HX.out.below hb1.out HX.out.lt)
          have HY0 := Lib.hid (HY.out.below hb1.out HY.out.lt)
          clear hb1 HB HX HY
          have HB := HB0
          have HX := HX0
          have HY := HY0
          clear HB0 HX0 HY0
          have bx5 : w2.cell? ⟨w.heap.size, 5, none⟩ = some (.int .i64 ck) := HX.out.cell 5
          have bx6 : w2.cell? ⟨w.heap.size, 6, none⟩ = some (.string ct) := HX.out.cell 6
          have bx7 : w2.cell? ⟨w.heap.size, 7, none⟩ = some (.slice A n c) := HX.out.cell 7
          have bx8 : w2.cell? ⟨w.heap.size, 8, none⟩ = some (.int .i64 K) := HX.out.cell 8
          have bx9 : w2.cell? ⟨w.heap.size, 9, none⟩ = some (.string cn) := HX.out.cell 9
          have bx10 : w2.cell? ⟨w.heap.size, 10, none⟩ = some (.int .i64 cq) := HX.out.cell 10
          have bx11 : w2.cell? ⟨w.heap.size, 11, none⟩ = some (.bool cb) := HX.out.cell 11
          have by5 : w2.cell? ⟨w.heap.size + 1, 5, none⟩ = some (.int .i64 ck') := HY.out.cell 5
          have by6 : w2.cell? ⟨w.heap.size + 1, 6, none⟩ = some (.string ct') := HY.out.cell 6
          have by7 : w2.cell? ⟨w.heap.size + 1, 7, none⟩ = some (.slice A' n' c') := HY.out.cell 7
          have by8 : w2.cell? ⟨w.heap.size + 1, 8, none⟩ = some (.int .i64 K') := HY.out.cell 8
          have by9 : w2.cell? ⟨w.heap.size + 1, 9, none⟩ = some (.string cn') := HY.out.cell 9
          have by10 : w2.cell? ⟨w.heap.size + 1, 10, none⟩ = some (.int .i64 cq') := HY.out.cell 10
          have by11 : w2.cell? ⟨w.heap.size + 1, 11, none⟩ = some (.bool cb') := HY.out.cell 11
          cases qa
          · go_wp2_with fail
            go_ret
            exact ⟨by rw [HS.out]; rfl, HB⟩
          · go_wp2_with fail
            refine (CC.out _ HB.out).mono ?_
            rintro e w3 ⟨rfl, hb1⟩
            clear bx5 bx6 bx7 bx8 bx9 bx10 bx11 by5 by6 by7 by8 by9 by10 by11
            have HB0 := Lib.hid (HB.out.trans (hb1.out.mono HB.out.size))
            have HX0 := Lib.hid (HX.out.below hb1.out HX.out.lt)
            have HY0 := Lib.hid (HY.out.below hb1.out HY.out.lt)
            clear hb1 HB HX HY
            have HB := HB0
            have HX := HX0
            have HY := HY0
            clear HB0 HX0 HY0
            go_wp2_with fail
            go_ret
            exact ⟨by rw [HS.out]; rfl, HB⟩
set_option maxHeartbeats 4000000 in
set_option maxRecDepth 100000 in
theorem resame_any (v v' : Value) (x y : Ev) (w : World) (hx : EvAt w v x) (hy : EvAt w v' y) :
    Calls Tryz.prog 20 #[v, v'] w fun e w' => e = .returned (.bool (evF x y)) ∧ Hid (Below w.heap.size w w') := by
  obtain ⟨Ab, nb, zb, Aa, na, za, A, n, c, rfl, ⟨h1, h2, h3⟩, ⟨h4, h5, h6⟩, h7, h8, h9⟩ := hx.known
  obtain ⟨Ab', nb', zb', Aa', na', za', A', n', c', rfl, ⟨h1', h2', h3'⟩, ⟨h4', h5', h6'⟩, h7', h8', h9'⟩ := hy.known
  clear hx hy
  obtain ⟨k, m, t, Bl, Al, ck, ct, L, K, ⟨cn, cq, cb⟩⟩ := x
  obtain ⟨k', m', t', Bl', Al', ck', ct', L', K', ⟨cn', cq', cb'⟩⟩ := y
  simp only at h1 h3 h4 h6 h7 h9 h1' h3' h4' h6' h7' h9'
  obtain ⟨qc, hqc⟩ : ∃ q, chG ck ck' ct ct' ⟨cn, cq, cb⟩ ⟨cn', cq', cb'⟩ L L' K K' = q := ⟨_, rfl⟩
  obtain ⟨qb, hqb⟩ : ∃ q, vsF Bl Bl' = q := ⟨_, rfl⟩
  obtain ⟨qa, hqa⟩ : ∃ q, vsF Al Al' = q := ⟨_, rfl⟩
  have HS : Hid (evF ⟨k, m, t, Bl, Al, ck, ct, L, K, ⟨cn, cq, cb⟩⟩ ⟨k', m', t', Bl', Al', ck', ct', L', K', ⟨cn', cq', cb'⟩⟩ = (k == k' && m == m' && t.toList == t'.toList && qb && qa && qc)) := by
    show _ = _; unfold evF; rw [chF_eq]; simp only [hqb, hqa, hqc]
  have HB := Lib.hid (((Below.refl w.heap.size w).alloc (Nat.le_refl _) (.cells #[.int .i64 k, .int .i64 m, .string t, .slice Ab nb zb, .slice Aa na za, .int .i64 ck, .string ct, .slice A n c, .int .i64 K, .string cn, .int .i64 cq, .bool cb] 33)).alloc (by simp) (.cells #[.int .i64 k', .int .i64 m', .string t', .slice Ab' nb' zb', .slice Aa' na' za', .int .i64 ck', .string ct', .slice A' n' c', .int .i64 K', .string cn', .int .i64 cq', .bool cb'] 33))
  have HX := Lib.hid ((Has.new w 33 #[.int .i64 k, .int .i64 m, .string t, .slice Ab nb zb, .slice Aa na za, .int .i64 ck, .string ct, .slice A n c, .int .i64 K, .string cn, .int .i64 cq, .bool cb]).alloc (.cells #[.int .i64 k', .int .i64 m', .string t', .slice Ab' nb' zb', .slice Aa' na' za', .int .i64 ck', .string ct', .slice A' n' c', .int .i64 K', .string cn', .int .i64 cq', .bool cb'] 33))
  have hy := Has.new (w.alloc (.cells #[.int .i64 k, .int .i64 m, .string t, .slice Ab nb zb, .slice Aa na za, .int .i64 ck, .string ct, .slice A n c, .int .i64 K, .string cn, .int .i64 cq, .bool cb] 33)) 33 #[.int .i64 k', .int .i64 m', .string t', .slice Ab' nb' zb', .slice Aa' na' za', .int .i64 ck', .string ct', .slice A' n' c', .int .i64 K', .string cn', .int .i64 cq', .bool cb']
  rw [show (w.alloc (.cells #[.int .i64 k, .int .i64 m, .string t, .slice Ab nb zb, .slice Aa na za, .int .i64 ck, .string ct, .slice A n c, .int .i64 K, .string cn, .int .i64 cq, .bool cb] 33)).heap.size = w.heap.size + 1 by simp] at hy
  have HY := Lib.hid hy
  have CB := Lib.hid (fun (W : World) (hb : Below w.heap.size w W) => vsameB_any Ab Bl nb zb Ab' Bl' nb' zb' W h1 h1' (by omega) (h3.below hb) (h3'.below hb))
  have CA := Lib.hid (fun (W : World) (hb : Below w.heap.size w W) => vsameB_any Aa Al na za Aa' Al' na' za' W h4 h4' (by omega) (h6.below hb) (h6'.below hb))
  have CC := Lib.hid (fun (W : World) (hb : Below w.heap.size w W) => rchange_any ck ct A L n c K cn cq cb ck' ct' A' L' n' c' K' cn' cq' cb' W h7 h7' h8 h8' (h9.below hb) (h9'.below hb))
  rw [hqb] at CB
  rw [hqa] at CA
  rw [hqc] at CC
  clear hy h1 h1' h3 h3' h4 h4' h6 h6' h7 h7' h9 h9' hqa hqb hqc
  go_enter Tryz.func20, Tryz.ntmps20
  go_wp2_with fail
  refine (CC.out _ HB.out).mono ?_
  rintro e w1 ⟨rfl, hb1⟩
  have HB0 := Lib.hid (HB.out.trans (hb1.out.mono HB.out.size))
  have HX0 := Lib.hid (HX.out.below hb1.out HX.out.lt)
  have HY0 := Lib.hid (HY.out.below hb1.out HY.out.lt)
  clear hb1 HB HX HY
  have HB := HB0
  have HX := HX0
  have HY := HY0
  clear HB0 HX0 HY0
  have ax3 : w1.cell? ⟨w.heap.size, 3, none⟩ = some (.slice Ab nb zb) := HX.out.cell 3
  have ay3 : w1.cell? ⟨w.heap.size + 1, 3, none⟩ = some (.slice Ab' nb' zb') := HY.out.cell 3
  go_wp2_with fail
  refine (CB.out _ HB.out).mono ?_
  rintro e w2 ⟨rfl, hb1⟩
  clear ax3 ay3
  have HB0 := Lib.hid (HB.out.trans (hb1.out.mono HB.out.size))
  have HX0 := Lib.hid (HX.out.below hb1.out HX.out.lt)
  have HY0 := Lib.hid (HY.out.below hb1.out HY.out.lt)
  clear hb1 HB HX HY
  have HB := HB0
  have HX := HX0
  have HY := HY0
  clear HB0 HX0 HY0
  have bx4 : w2.cell? ⟨w.heap.size, 4, none⟩ = some (.slice Aa na za) := HX.out.cell 4
  have by4 : w2.cell? ⟨w.heap.size + 1, 4, none⟩ = some (.slice Aa' na' za') := HY.out.cell 4
  go_wp2_with fail
  refine (CA.out _ HB.out).mono ?_
  rintro e w3 ⟨rfl, hb1⟩
  clear bx4 by4
  have HB0 := Lib.hid (HB.out.trans (hb1.out.mono HB.out.size))
  have HX0 := Lib.hid (HX.out.below hb1.out HX.out.lt)
  have HY0 := Lib.hid (HY.out.below hb1.out HY.out.lt)
  clear hb1 HB HX HY
  have HB := HB0
  have HX := HX0
  have HY := HY0
  clear HB0 HX0 HY0
  have cx0 : w3.cell? ⟨w.heap.size, 0, none⟩ = some (.int .i64 k) := HX.out.cell 0
  have cx1 : w3.cell? ⟨w.heap.size, 1, none⟩ = some (.int .i64 m) := HX.out.cell 1
  have cx2 : w3.cell? ⟨w.heap.size, 2, none⟩ = some (.string t) := HX.out.cell 2
  have cy0 : w3.cell? ⟨w.heap.size + 1, 0, none⟩ = some (.int .i64 k') := HY.out.cell 0
  have cy1 : w3.cell? ⟨w.heap.size + 1, 1, none⟩ = some (.int .i64 m') := HY.out.cell 1
  have cy2 : w3.cell? ⟨w.heap.size + 1, 2, none⟩ = some (.string t') := HY.out.cell 2
  clear CA CB CC
  obtain ⟨q0, hq0⟩ : ∃ q, (k == k') = q := ⟨_, rfl⟩
  obtain ⟨q1, hq1⟩ : ∃ q, (m == m') = q := ⟨_, rfl⟩
  obtain ⟨q2, hq2⟩ : ∃ q, (t.toList == t'.toList) = q := ⟨_, rfl⟩
  rw [hq0, hq1, hq2] at HS
  cases qc
  · go_wp2_with fail
    go_ret
    exact ⟨by rw [HS.out]; simp, HB⟩
  · skip
    cases qb
    · go_wp2_with fail
      go_ret
      exact ⟨by rw [HS.out]; simp, HB⟩
    · skip
      cases qa
      · go_wp2_with fail
        go_ret
        exact ⟨by rw [HS.out]; simp, HB⟩
      · skip
        cases q0
        · go_wp2_with fail
          go_ret
          exact ⟨by rw [HS.out]; simp, HB⟩
        · skip
          cases q1
          · go_wp2_with fail
            go_ret
            exact ⟨by rw [HS.out]; simp, HB⟩
          · skip
            cases q2
            · go_wp2_with fail
              go_ret
              exact ⟨by rw [HS.out]; simp, HB⟩
            · skip
              go_wp2_with fail
              go_ret
              exact ⟨by rw [HS.out]; rfl, HB⟩
end Go.Proofs.YtlhfdhmmdnkojaaGreatDoor
namespace Go.Proofs.YtlhfdhmmdnkojaaGreatDoor
open Go.RowKit Go.Maps Dg
set_option maxRecDepth 100000
set_option linter.unusedVariables false
/-- A write. -/
structure Wd where
  k : Int
  t : ByteArray
  R : List Vl
  ck : Int
  ct : ByteArray
  L : List Cl
  K : Int
  cl : Cl
/-- A write's fields as those of an event. -/
def Wd.ev (x : Wd) : Ev := ⟨x.k, 0, x.t, [], x.R, x.ck, x.ct, x.L, x.K, x.cl⟩
/-- Are two writes the same? -/
def gF (x y : Wd) : Bool := evF x.ev y.ev
/-- A write as it lies: what it is, and where its rows are. -/
structure Gr where
  x : Wd
  Ar : Option Addr
  nr : Nat
  zr : Nat
  A : Option Addr
  n : Nat
  c : Nat
def Gr.row (r : Gr) : List Value := [.int .i64 r.x.k, .string r.x.t, .slice r.Ar r.nr r.zr, .int .i64 r.x.ck, .string r.x.ct, .slice r.A r.n r.c, .int .i64 r.x.K, .string r.x.cl.nm, .int .i64 r.x.cl.k, .bool r.x.cl.no]
def Gr.val (r : Gr) : Value := .agg #[.int .i64 r.x.k, .string r.x.t, .slice r.Ar r.nr r.zr, .int .i64 r.x.ck, .string r.x.ct, .slice r.A r.n r.c, .int .i64 r.x.K, .string r.x.cl.nm, .int .i64 r.x.cl.k, .bool r.x.cl.no]
/-- Its rows are known. -/
structure Gr.ok (w : World) (r : Gr) : Prop where
  b : r.x.R.length = r.nr ∧ r.nr ≤ 4398046511104 ∧ VRow w r.Ar r.x.R ∧ (r.Ar = none → r.zr = 0) ∧ r.nr ≤ r.zr ∧ r.zr ≤ maxLen
  c : r.x.L.length = r.n ∧ r.n ≤ 1000 ∧ CRow w r.A r.x.L ∧ (r.A = none → r.c = 0) ∧ r.n ≤ r.c ∧ r.c ≤ maxLen
theorem Gr.ok.below {w w' : World} {r : Gr} (h : r.ok w) (hb : Below w.heap.size w w') : r.ok w' :=
  ⟨⟨h.b.1, h.b.2.1, h.b.2.2.1.below hb, h.b.2.2.2⟩, ⟨h.c.1, h.c.2.1, h.c.2.2.1.below hb, h.c.2.2.2⟩⟩
theorem Gr.ok.at {w : World} {r : Gr} (h : r.ok w) : EvAt w (.agg #[.int .i64 r.x.k, .int .i64 0, .string r.x.t, .slice none 0 0, .slice r.Ar r.nr r.zr, .int .i64 r.x.ck, .string r.x.ct, .slice r.A r.n r.c, .int .i64 r.x.K, .string r.x.cl.nm, .int .i64 r.x.cl.k, .bool r.x.cl.no]) r.x.ev :=
  ⟨none, 0, 0, r.Ar, r.nr, r.zr, r.A, r.n, r.c, rfl, ⟨rfl, by omega, fun h => absurd rfl h⟩, ⟨h.b.1, by have := h.b.2.1; omega, h.b.2.2.1⟩, h.c.1, by have := h.c.2.1; omega, h.c.2.2.1⟩
/-- The cells at A read as the writes T. -/
def GRow (w : World) (A : Option Addr) (T : List Gr) : Prop := T ≠ [] → ∃ b off, A = some ⟨b, off, none⟩ ∧ ∀ i (h : i < T.length), ∀ j, j < 10 → w.cell? ⟨b, off + i * 10 + j, none⟩ = T[i].row[j]?
theorem GRow.nil (w : World) (A : Option Addr) : GRow w A [] := fun h => absurd rfl h
theorem grow10 (r : Gr) (j : Nat) (hj : j < 10) : ∃ v, r.row[j]? = some v := ⟨r.row[j]'(by simpa [Gr.row] using hj), List.getElem?_eq_getElem _⟩
theorem GRow.keep {w w' : World} {A : Option Addr} {T : List Gr} (h : GRow w A T) (hk : ∀ (p : Addr) (u : Value), (∃ b off, A = some ⟨b, off, none⟩ ∧ p.block = b) → w.cell? p = some u → w'.cell? p = some u) : GRow w' A T := fun hne => by
  obtain ⟨b, off, e, hc⟩ := h hne
  refine ⟨b, off, e, fun i hi j hj => ?_⟩
  obtain ⟨v, hv⟩ := grow10 T[i] j hj
  have h0 := hc i hi j hj
  rw [hv] at h0 ⊢
  exact hk _ _ ⟨b, off, e, rfl⟩ h0
theorem GRow.below {w w' : World} {A : Option Addr} {T : List Gr} (h : GRow w A T) (hb : Below w.heap.size w w') : GRow w' A T :=
  h.keep fun p u _ h => (hb.cell (World.block_lt_of_cell? w p h)).trans h
theorem GRow.tur {X : List Nat} {w w' : World} {A : Option Addr} {T : List Gr} (h : GRow w A T) (ht : Tur X w w') (ho : ∀ a, A = some a → a.block ∉ X) : GRow w' A T :=
  h.keep fun p u ⟨b, off, e, ep⟩ h => (World.cell?_of_block (ht.block p.block (World.block_lt_of_cell? w p h) (by rw [ep]; exact ho _ e))).trans h
theorem infoG : (Tryz.prog.info? 51).map (fun i => (i.zero, i.size, i.bytes)) = some (some (.agg #[.int .i64 0, .string ⟨#[]⟩, .slice none 0 0, .int .i64 0, .string ⟨#[]⟩, .slice none 0 0, .int .i64 0, .string ⟨#[]⟩, .int .i64 0, .bool false]), 10, 136) := by kernel_rfl
/-- Writes in a row of the call's own. -/
def OwnG (B : Nat) (w : World) (v : Value) (L : List Gr) : Prop := w.ownsRow B 51 10 v L.length (L.flatMap Gr.row)
theorem ownG_nil (B : Nat) (w : World) : OwnG B w (.slice none 0 0) [] := World.ownsRow_nil _ _ _ _
theorem OwnG.below {B : Nat} {w w' : World} {v : Value} {L : List Gr} (h : OwnG B w v L) (hb : Below w.heap.size w w') : OwnG B w' v L := by
  rcases h.2 with ⟨hv, hn⟩ | ⟨g, cap, cur, hv, hg, hh, hc, hcm, hsz, ht⟩
  · exact ⟨h.1, .inl ⟨hv, hn⟩⟩
  · exact ⟨h.1, .inr ⟨g, cap, cur, hv, hg, Has.below (t := 51) (cs := cur) hh hb (Has.lt (t := 51) (cs := cur) hh), hc, hcm, hsz, ht⟩⟩
theorem gflat_get (L : List Gr) (i j : Nat) (h : i < L.length) (hj : j < 10) : (L.flatMap Gr.row)[i * 10 + j]? = L[i].row[j]? := by
  induction L generalizing i with
  | nil => simp at h
  | cons x L ih =>
    rw [List.flatMap_cons]
    rcases i with _ | i
    · rw [List.getElem?_append_left (by simp [Gr.row]; omega)]
      simp
    · rw [List.getElem?_append_right (by simp [Gr.row]; omega)]
      have e : (i + 1) * 10 + j - x.row.length = i * 10 + j := by simp [Gr.row]; omega
      rw [e, ih i (by simpa using h)]
      simp
/-- Where it lies, if anywhere: its own block. -/
theorem ownG_row {B : Nat} {w : World} {v : Value} {T : List Gr} (h : OwnG B w v T) : ∃ A c, v = .slice A T.length c ∧ T.length ≤ c ∧ c ≤ maxLen ∧ GRow w A T ∧ (A = none → c = 0) ∧ (∀ a, A = some a → v.ownBlock = some a.block ∧ B ≤ a.block ∧ a.block < w.heap.size) := by
  rcases h.2 with ⟨hv, hn⟩ | ⟨g, cap, cur, hv, hg, hh, hc, hcm, hsz, ht⟩
  · obtain rfl := List.eq_nil_of_length_eq_zero hn
    exact ⟨none, 0, hv, Nat.le_refl _, Nat.zero_le _, fun h => absurd rfl h, (fun _ => rfl), (fun a e => by cases e)⟩
  · refine ⟨_, _, hv, hc, hcm, fun _ => ⟨g, 0, rfl, fun i hi j hj => ?_⟩, (fun e => by cases e), fun a e => ?_⟩
    · rw [Nat.zero_add, Has.cell (t := 51) (cs := cur) hh, ← gflat_get T i j hi hj, ← ht, List.getElem?_take, if_pos (by omega)]
      simp
    · obtain rfl : (⟨g, 0, none⟩ : Addr) = a := Option.some.inj e
      rw [hv]
      exact ⟨rfl, hg, Has.lt (t := 51) (cs := cur) hh⟩
/-- A row of the call's own, its length under a letter. -/
theorem ownG_open {B : Nat} {w : World} {v : Value} {T : List Gr} (h : OwnG B w v T) : ∃ A n c, v = .slice A n c ∧ Hid (T.length = n) ∧ n ≤ c ∧ c ≤ maxLen ∧ Hid (GRow w A T) ∧ Hid (A = none → c = 0) ∧ Hid (∀ a, A = some a → (Value.slice A n c).ownBlock = some a.block ∧ B ≤ a.block ∧ a.block < w.heap.size) := by
  obtain ⟨A, c, e, h1, h2, h3, h4, h5⟩ := ownG_row h
  subst e
  exact ⟨A, T.length, c, rfl, rfl, h1, h2, h3, h4, h5⟩
theorem OwnG.tur {X : List Nat} {B : Nat} {w w' : World} {v : Value} {T : List Gr} (h : OwnG B w v T) (ht : Tur X w w') (hx : ∀ g, v.ownBlock = some g → g ∉ X) : OwnG B w' v T := by
  rcases h.2 with ⟨hv, hn⟩ | ⟨g, cap, cur, hv, hg, hh, hc, hcm, hsz, htk⟩
  · exact ⟨h.1, .inl ⟨hv, hn⟩⟩
  · exact ⟨h.1, .inr ⟨g, cap, cur, hv, hg, Has.tur (t := 51) (cs := cur) hh ht (hx g (by rw [hv]; rfl)), hc, hcm, hsz, htk⟩⟩
theorem OwnG.mono {B C : Nat} {w : World} {v : Value} {T : List Gr} (h : OwnG B w v T) (hc : C ≤ B) : OwnG C w v T := by
  rcases h.2 with ⟨hv, hn⟩ | ⟨g, cap, cur, hv, hg, r⟩
  · exact ⟨h.1, .inl ⟨hv, hn⟩⟩
  · exact ⟨h.1, .inr ⟨g, cap, cur, hv, Nat.le_trans hc hg, r⟩⟩
/-- One write is put behind a row of the call's own. -/
theorem appG (w : World) (g : Nat) (hg0 : g = w.heap.size) (B : Nat) (v : Value) (T : List Gr) (r : Gr) (h : OwnG B w v T) (hB : B ≤ w.heap.size) (hl : T.length ≤ 1000000) :
    ∃ R W', (Builtin.append_ #[55, 55] 55 #[v, .slice (some ⟨g, 0, none⟩) 1 1]).run Tryz.prog (w.alloc (.cells #[.int .i64 r.x.k, .string r.x.t, .slice r.Ar r.nr r.zr, .int .i64 r.x.ck, .string r.x.ct, .slice r.A r.n r.c, .int .i64 r.x.K, .string r.x.cl.nm, .int .i64 r.x.cl.k, .bool r.x.cl.no] 51)) = .ok R W' ∧ OwnG B W' R (T ++ [r]) ∧ Tur v.ownBlock.toList w W' ∧ (∀ k, R.ownBlock = some k → v.ownBlock = some k ∨ w.heap.size ≤ k) := by
  subst hg0
  obtain ⟨i0, hi, hz0, hz1, hz2⟩ := info_parts infoG
  obtain ⟨R, W', hrun, hown, hg, _, hx⟩ := run_append_own_at (P := Tryz.prog) (w.alloc (.cells r.row.toArray 51)) B 55 55 51 i0 _ 10 136 Tryz.underlying55 hi hz0 hz1 hz2 rfl (by decide) v T.length (T.flatMap Gr.row) (World.ownsRow.alloc h _)
    ⟨w.heap.size, 0, none⟩ 1 1 r.row rfl (fun j u hj => by
      have := (Has.new w 51 r.row.toArray).cell j
      rw [List.getElem?_toArray] at this
      rw [Addr.add_lit, Nat.zero_add]
      exact this.trans hj) (fun u hu => by simp [Gr.row] at hu; rcases hu with rfl | rfl | rfl | rfl | rfl | rfl | rfl | rfl | rfl | rfl <;> rfl) (by unfold maxLen; omega) (by omega) (by simp; omega)
  refine ⟨R, W', hrun, ?_, ?_, ?_⟩
  · unfold OwnG; rw [List.flatMap_append, List.length_append]; simpa using hown
  · exact (Tur.alloc _ w _).trans (Tur.grown hg fun k hk => by rw [hk]; simp) (Fre.refl _ _)
  · intro k hk
    rcases hx with hx | hx
    · exact .inl (hx ▸ hk)
    · rw [hx] at hk
      injection hk with hk
      have : (w.alloc (.cells r.row.toArray 51)).heap.size = w.heap.size + 1 := by simp
      exact .inr (by omega)
end Go.Proofs.YtlhfdhmmdnkojaaGreatDoor
namespace Go.Proofs.YtlhfdhmmdnkojaaGreatDoor
open Go.RowKit Dg
set_option maxRecDepth 100000
set_option linter.unusedVariables false
theorem min2i (W : World) (a b n : Nat) (h : n = min a b) : (Builtin.min_ #[3, 3] 3 #[.int .i64 a, .int .i64 b]).run Tryz.prog W = .ok (.int .i64 n) W := by
  simp only [Builtin.min_, List.foldlM_cons, List.foldlM_nil, Builtin.min2, Sem.run_bind, Sem.run_pure, Result.andThen_ok]
  congr 2
  omega
theorem two (w : World) (a b : Array Value) (t u : TypeId) : Has ((w.alloc (.cells a t)).alloc (.cells b u)) (w.heap.size + 1) u b ∧ Hid (Below w.heap.size w ((w.alloc (.cells a t)).alloc (.cells b u))) := by
  have h := Has.new (w.alloc (.cells a t)) u b
  rw [World.size_alloc] at h
  exact ⟨h, ((Below.refl _ w).alloc (Nat.le_refl _) _).alloc (by simp) _⟩
theorem three1 (w : World) (a b c : Array Value) (t u v : TypeId) : Has (((w.alloc (.cells a t)).alloc (.cells b u)).alloc (.cells c v)) (w.heap.size + 1) u b ∧ Hid (Below w.heap.size w (((w.alloc (.cells a t)).alloc (.cells b u)).alloc (.cells c v))) := by
  obtain ⟨h, hb⟩ := two w a b t u
  exact ⟨h.alloc _, hb.out.alloc (by simp; omega) _⟩
def to40 (s : ByteArray) : ByteArray := s.extract 0 (min s.size 40)
theorem chEnd14 (w' : World) (g : Nat) (c0 c1 c2 c3 c4 c5 c6 : Value) (tmps : Array Value) (hp : tmps.getD 2 undef = .pointer (some ⟨g, 0, none⟩)) (hh : Has w' g 31 #[c0, c1, c2, c3, c4, c5, c6]) :
    (results Tryz.f24 tmps).run Tryz.prog w' = .ok (.agg #[c0, c1, c2, c3, c4, c5, c6]) w' :=
  results_cell_row rfl _ _ g 31 #[c0, c1, c2, c3, c4, c5, c6] (0, 0) _ hp hh Tryz.underlying31 rfl (by kernel_rfl)
set_option maxHeartbeats 2000000 in
theorem cut14_is (ck : Int) (ct : ByteArray) (A : Option Addr) (n c : Nat) (K : Int) (cn : ByteArray) (cq : Int) (cb : Bool) (w : World) (hnc : n ≤ c) (hcm : c ≤ maxLen) (ht : ct.size ≤ 140737488355328) (hc : cn.size ≤ 140737488355328) :
    Calls Tryz.prog 24 #[.agg #[.int .i64 ck, .string ct, .slice A n c, .int .i64 K, .string cn, .int .i64 cq, .bool cb]] w fun e w' => e = .returned (.agg #[.int .i64 ck, .string (to40 ct), .slice A (min n 20) c, .int .i64 K, .string (to40 cn), .int .i64 cq, .bool cb]) ∧ w' = (w.alloc (.cells #[.int .i64 ck, .string (to40 ct), .slice A (min n 20) c, .int .i64 K, .string (to40 cn), .int .i64 cq, .bool cb] 31)).alloc (.cells #[.int .i64 ck, .string (to40 ct), .slice A (min n 20) c, .int .i64 K, .string (to40 cn), .int .i64 cq, .bool cb] 31) := by
  have h1 : (Builtin.min_ #[3, 3] 3 #[.int .i64 (ct.size : Nat), .int .i64 (40 : Nat)]).run Tryz.prog = fun W => .ok (.int .i64 ((min ct.size 40 : Nat) : Int)) W := funext fun W => min2i W _ _ _ rfl
  go_enter Tryz.func24, Tryz.ntmps24
  go_wp2_with fail
  have e1 : ct.extract 0 (min (ct.size : Int) 40).toNat = to40 ct := by unfold to40; congr 1; omega
  have e2 : cn.extract 0 (min (cn.size : Int) 40).toNat = to40 cn := by unfold to40; congr 1; omega
  have e3 : (min (n : Int) 20).toNat = min n 20 := by omega
  rw [e1, e2, e3]
  obtain ⟨h2, hb⟩ := two w #[.int .i64 ck, .string (to40 ct), .slice A (min n 20) c, .int .i64 K, .string (to40 cn), .int .i64 cq, .bool cb] #[.int .i64 ck, .string (to40 ct), .slice A (min n 20) c, .int .i64 K, .string (to40 cn), .int .i64 cq, .bool cb] 31 31
  exact bodyPost_ret (chEnd14 _ (w.heap.size + 1) _ _ _ _ _ _ _ _ rfl h2) rfl ⟨rfl, rfl⟩
theorem toldEnd (w' : World) (g : Nat) (u0 u1 u2 u3 u4 u5 u6 u7 u8 u9 u10 u11 : Value) (tmps : Array Value) (hp : tmps.getD 2 undef = .pointer (some ⟨g, 0, none⟩)) (hh : Has w' g 33 #[u0, u1, u2, u3, u4, u5, u6, u7, u8, u9, u10, u11]) :
    (results Tryz.f130 tmps).run Tryz.prog w' = .ok (.agg #[u0, u1, u2, u3, u4, u5, u6, u7, u8, u9, u10, u11]) w' :=
  results_cell_row rfl _ _ g 33 #[u0, u1, u2, u3, u4, u5, u6, u7, u8, u9, u10, u11] (0, 0) _ hp hh Tryz.underlying33 rfl (by kernel_rfl)
/-- The kind of a write's event. -/
def tk (k : Int) : Int := if k = 1 then 4 else if k = 2 then 5 else if k = 3 then 6 else 0
set_option maxHeartbeats 4000000 in
theorem told_any (k : Int) (t : ByteArray) (Ar : Option Addr) (nr zr : Nat) (ck : Int) (ct : ByteArray) (A : Option Addr) (n c : Nat) (K : Int) (cn : ByteArray) (cq : Int) (cb : Bool) (w : World) :
    Calls Tryz.prog 130 #[.agg #[.int .i64 k, .string t, .slice Ar nr zr, .int .i64 ck, .string ct, .slice A n c, .int .i64 K, .string cn, .int .i64 cq, .bool cb]] w fun e w' => e = .returned (.agg #[.int .i64 (tk k), .int .i64 0, .string t, if k = 2 then .slice Ar nr zr else .slice none 0 0, if k = 2 then .slice none 0 0 else .slice Ar nr zr, .int .i64 ck, .string ct, .slice A n c, .int .i64 K, .string cn, .int .i64 cq, .bool cb]) ∧ Hid (Below w.heap.size w w') := by
  by_cases h1 : k = 1
  · subst h1
    go_enter Tryz.func130, Tryz.ntmps130
    go_wp2_with fail
    obtain ⟨h, hb⟩ := three1 w #[.int .i64 1, .string t, .slice Ar nr zr, .int .i64 ck, .string ct, .slice A n c, .int .i64 K, .string cn, .int .i64 cq, .bool cb] #[.int .i64 4, .int .i64 0, .string t, .slice none 0 0, .slice Ar nr zr, .int .i64 ck, .string ct, .slice A n c, .int .i64 K, .string cn, .int .i64 cq, .bool cb] #[.int .i64 4, .int .i64 0, .string t, .slice none 0 0, .slice Ar nr zr, .int .i64 ck, .string ct, .slice A n c, .int .i64 K, .string cn, .int .i64 cq, .bool cb] 51 33 33
    exact bodyPost_ret (toldEnd _ (w.heap.size + 1) _ _ _ _ _ _ _ _ _ _ _ _ _ rfl h) rfl ⟨by simp [tk], hb⟩
  by_cases h2 : k = 2
  · subst h2
    go_enter Tryz.func130, Tryz.ntmps130
    go_wp2_with fail
    go_region
    all_goals (go_wp2_with fail)
    all_goals (obtain ⟨h, hb⟩ := three1 w #[.int .i64 2, .string t, .slice Ar nr zr, .int .i64 ck, .string ct, .slice A n c, .int .i64 K, .string cn, .int .i64 cq, .bool cb] #[.int .i64 5, .int .i64 0, .string t, .slice Ar nr zr, .slice none 0 0, .int .i64 ck, .string ct, .slice A n c, .int .i64 K, .string cn, .int .i64 cq, .bool cb] #[.int .i64 5, .int .i64 0, .string t, .slice Ar nr zr, .slice none 0 0, .int .i64 ck, .string ct, .slice A n c, .int .i64 K, .string cn, .int .i64 cq, .bool cb] 51 33 33; exact bodyPost_ret (toldEnd _ (w.heap.size + 1) _ _ _ _ _ _ _ _ _ _ _ _ _ rfl h.drew) rfl ⟨by simp [tk], hb.out.drew⟩)
  by_cases h3 : k = 3
  · subst h3
    go_enter Tryz.func130, Tryz.ntmps130
    go_wp2_with fail
    obtain ⟨h, hb⟩ := three1 w #[.int .i64 3, .string t, .slice Ar nr zr, .int .i64 ck, .string ct, .slice A n c, .int .i64 K, .string cn, .int .i64 cq, .bool cb] #[.int .i64 6, .int .i64 0, .string t, .slice none 0 0, .slice Ar nr zr, .int .i64 ck, .string ct, .slice A n c, .int .i64 K, .string cn, .int .i64 cq, .bool cb] #[.int .i64 6, .int .i64 0, .string t, .slice none 0 0, .slice Ar nr zr, .int .i64 ck, .string ct, .slice A n c, .int .i64 K, .string cn, .int .i64 cq, .bool cb] 51 33 33
    exact bodyPost_ret (toldEnd _ (w.heap.size + 1) _ _ _ _ _ _ _ _ _ _ _ _ _ rfl h) rfl ⟨by simp [tk], hb⟩
  · have q1 : (k == 1) = false := by simpa using h1
    have q2 : (k == 2) = false := by simpa using h2
    have q3 : (k == 3) = false := by simpa using h3
    have ht : tk k = 0 := by unfold tk; rw [if_neg h1, if_neg h2, if_neg h3]
    go_enter Tryz.func130, Tryz.ntmps130
    go_wp2_with fail
    obtain ⟨h, hb⟩ := three1 w #[.int .i64 k, .string t, .slice Ar nr zr, .int .i64 ck, .string ct, .slice A n c, .int .i64 K, .string cn, .int .i64 cq, .bool cb] #[.int .i64 0, .int .i64 0, .string t, .slice none 0 0, .slice Ar nr zr, .int .i64 ck, .string ct, .slice A n c, .int .i64 K, .string cn, .int .i64 cq, .bool cb] #[.int .i64 0, .int .i64 0, .string t, .slice none 0 0, .slice Ar nr zr, .int .i64 ck, .string ct, .slice A n c, .int .i64 K, .string cn, .int .i64 cq, .bool cb] 51 33 33
    exact bodyPost_ret (toldEnd _ (w.heap.size + 1) _ _ _ _ _ _ _ _ _ _ _ _ _ rfl h) rfl ⟨by simp, hb⟩
end Go.Proofs.YtlhfdhmmdnkojaaGreatDoor
