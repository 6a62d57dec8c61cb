/-
  A point's bytes: written and read.
-/
import Derived.Test.YtjkmbggaoinkdaaDoorRPoint
import Derived.Test.YtjkmbggaoinkdaaDoorMa
import Derived.Test.YtjkmbggaoinkdaaDoorConc
namespace Go.Proofs.YtjkmbggaoinkdaaDoor
open Go.RowKit Dg
set_option maxRecDepth 100000
/-- A work's bytes; those of works; a point's. -/
def wkB (x : Wk) : List Nat := txt x.t ++ ([if x.d then 1 else 0] ++ txt x.k)
def worksB (T : List Wk) (k : Nat) : List Nat := (T.take k).flatMap wkB
def numsB (x y z n : Nat) : List Nat := digs x ++ digs y ++ digs z ++ digs n
def ptB (x y z : Int) (T : List Wk) : List Nat := numsB x.toNat y.toNat z.toNat T.length ++ worksB T T.length
theorem worksB_succ (T : List Wk) (k : Nat) (h : k < T.length) : worksB T (k + 1) = worksB T k ++ wkB T[k] := by
  unfold worksB
  rw [List.take_succ_eq_append_getElem h, List.flatMap_append]
  simp
theorem txt_len (s : ByteArray) (h : s.size ≤ 900) : (txt s).length ≤ 910 := by
  unfold txt; rw [List.length_append, sb_length]; have := digs_le_ten s.size (by omega); omega
theorem wkB_len {x : Wk} (h : x.t.size ≤ 40 ∧ x.k.size ≤ 40) : (wkB x).length ≤ 1821 := by
  unfold wkB
  have h1 := txt_len x.t (by omega)
  have h2 := txt_len x.k (by omega)
  simp only [List.length_append, List.length_singleton]
  omega
theorem worksB_len {T : List Wk} (h : Short T) (k : Nat) (hk : k ≤ T.length) : (worksB T k).length ≤ 1821 * k := by
  induction k with
  | zero => simp [worksB]
  | succ k ih =>
    rw [worksB_succ T k (by omega), List.length_append]
    have h1 := ih (by omega)
    have h2 := wkB_len (h T[k] (List.getElem_mem (by omega)))
    omega
theorem numsB_len (x y z n : Nat) (hx : x < 9223372036854775808) (hy : y < 9223372036854775808) (hz : z < 9223372036854775808) (hn : n < 9223372036854775808) : (numsB x y z n).length ≤ 40 := by
  unfold numsB
  have h1 := digs_le_ten x (by omega)
  have h2 := digs_le_ten y (by omega)
  have h3 := digs_le_ten z (by omega)
  have h4 := digs_le_ten n (by omega)
  simp only [List.length_append]
  omega
/-- The first k of a point's four numbers. -/
def fourN (x y z n : Nat) (k : Nat) : Nat := if k = 0 then x else if k = 1 then y else if k = 2 then z else n
def fourB (x y z n : Nat) (k : Nat) : List Nat := (List.range k).flatMap fun i => digs (fourN x y z n i)
theorem fourB_succ (x y z n k : Nat) : fourB x y z n (k + 1) = fourB x y z n k ++ digs (fourN x y z n k) := by
  unfold fourB; rw [List.range_succ, List.flatMap_append]; simp
theorem fourB_all (x y z n : Nat) : fourB x y z n 4 = numsB x y z n := by
  simp [fourB, numsB, fourN, List.range_succ]
theorem fourB_len (x y z n k : Nat) (hx : x < 9223372036854775808) (hy : y < 9223372036854775808) (hz : z < 9223372036854775808) (hn : n < 9223372036854775808) (hk : k ≤ 4) : (fourB x y z n k).length ≤ 10 * k := by
  induction k with
  | zero => simp [fourB]
  | succ k ih =>
    rw [fourB_succ, List.length_append]
    have h1 := ih (by omega)
    have h2 : fourN x y z n k < 9223372036854775808 := by unfold fourN; split; exact hx; split; exact hy; split <;> assumption
    have h3 := digs_le_ten (fourN x y z n k) (by omega)
    omega
theorem num0_any (n : Nat) (w : World) (hn : (n : Int) ≤ 9223372036854775807) : Calls Tryd.prog 40 #[.slice none 0 0, .int .i64 n] w fun e w' => ∃ A m c, e = .returned (.slice A m c) ∧ Hid ((digs n).length = m) ∧ Hid (Rd w' A (digs n)) ∧ Hid (A = none → c = 0) ∧ Hid (Below w.heap.size w w') := by
  refine (Number_any none [] 0 n w (Nat.le_refl _) (Rd.nil _ _) (by simp) hn).mono ?_
  rintro e w' ⟨v, rfl, A, c, rfl, hc, hr, hb⟩
  rw [List.nil_append] at hr hc ⊢
  refine ⟨A, _, c, rfl, rfl, hr, fun e => ?_, hb⟩
  have hp := digs_pos n
  obtain ⟨b, off, e2, _⟩ := hr (by intro h; rw [h] at hp; simp at hp)
  rw [e] at e2; cases e2
theorem txt0_any (s : ByteArray) (w : World) (hs : s.size ≤ 900) : Calls Tryd.prog 41 #[.slice none 0 0, .string s] w fun e w' => ∃ A m c, e = .returned (.slice A m c) ∧ Hid ((txt s).length = m) ∧ Hid (Rd w' A (txt s)) ∧ Hid (A = none → c = 0) ∧ Hid (Below w.heap.size w w') := by
  refine (Text_any none [] 0 s w (Nat.le_refl _) (Rd.nil _ _) (by simp) (by omega)).mono ?_
  rintro e w' ⟨v, rfl, A, c, rfl, hc, hr, hb⟩
  have e1 : ([] : List Nat) ++ (digs s.size ++ sb s) = txt s := by unfold txt; simp
  rw [e1] at hr hc ⊢
  refine ⟨A, _, c, rfl, rfl, hr, fun e => ?_, hb⟩
  have hp := txt_pos s
  obtain ⟨b, off, e2, _⟩ := hr (by intro h; rw [h] at hp; simp at hp)
  rw [e] at e2; cases e2
set_option maxHeartbeats 1000000 in
theorem flag_any11 (d : Bool) (w : World) : Calls Tryd.prog 42 #[.bool d] w fun e w' => e = .returned (.int .u8 (if d then 1 else 0)) ∧ w' = w := by
  cases d
  all_goals
    go_enter Tryd.func42, Tryd.ntmps42
    go_wp2_with fail
    go_ret
    exact ⟨rfl, rfl⟩
end Go.Proofs.YtjkmbggaoinkdaaDoor
namespace Go.Proofs.YtjkmbggaoinkdaaDoor
open Go.RowKit Dg
set_option maxRecDepth 100000
theorem own_appK (w : World) (B : Nat) (v : Value) (l : List Nat) (h : Own B w v l) (hB : B ≤ w.heap.size) (A : Option Addr) (m : List Nat) (k c : Nat) (hk : m.length = k) (hm : Rd w A m) (hs : l.length + k ≤ 1000000) (hA : A = none → c = 0) :
    ∃ R W', (Builtin.append_ #[46, 46] 46 #[v, .slice A k c]).run Tryd.prog w = .ok R W' ∧ Own B W' R (l ++ m) ∧ Below B w W' ∧ Kept w W' := by
  subst hk
  obtain ⟨i0, hi, hz0, hz1, hz2⟩ := info_parts info5
  rcases A with _ | a
  · have hl : m = [] := by
      rcases m with _ | ⟨x, m⟩
      · rfl
      · obtain ⟨b, off, e, _⟩ := hm (by simp)
        cases e
    subst hl
    rw [hA rfl, List.append_nil]
    exact ⟨v, w, run_append_owned_none w B 46 46 5 i0 1 Tryd.underlying46 hi v _ _ h, h, Below.refl _ _, fun _ _ _ _ hh => hh⟩
  · have hc : ∀ j u, (m.map bv)[j]? = some u → w.cell? (a.add j) = some u := by
      intro j u hj
      have hjl : j < m.length := by
        have := (List.getElem?_eq_some_iff.1 hj).1
        simpa using this
      obtain ⟨b, off, e, hc⟩ := hm (by rintro rfl; simp at hjl)
      injection e with e
      subst e
      rw [Addr.add_lit, hc j hjl]
      simpa [hjl] using hj
    obtain ⟨R, W', hrun, hown, hg, _⟩ := run_append_own (P := Tryd.prog) w B 46 46 5 i0 (.int .u8 0) 1 1 Tryd.underlying46 hi hz0 hz1 hz2 rfl (by decide) v l.length (l.map bv) h a m.length c (m.map bv) (by simp) hc (bv_one m) (by unfold maxLen; omega) (by omega) hB
    refine ⟨R, W', hrun, ?_, (Below.refl B w).grown hg hB fun k hk => (World.ownsRow.lt h k hk).1, ?_⟩
    · unfold Own; rw [List.map_append, List.length_append]; exact hown
    · intro g t cs ht hh
      refine (hg.block g hh.lt fun e => ?_).trans hh
      rcases h.2 with ⟨hv, _⟩ | ⟨g', cap, cur, hv, _, hc2, _⟩
      · rw [hv] at e; cases e
      · rw [hv] at e
        have e2 : g = g' := by simpa [Value.ownBlock] using e
        subst e2
        unfold Has at hh
        rw [hc2] at hh
        simp at hh
        exact ht hh.2.symm
theorem idx4 (a b c d : Int) (w : World) :
    (Instr.index 77 (.agg #[.int .i64 a, .int .i64 b, .int .i64 c, .int .i64 d]) (.int .i64 0)).run Tryd.prog w = .ok (.int .i64 a) w ∧ (Instr.index 77 (.agg #[.int .i64 a, .int .i64 b, .int .i64 c, .int .i64 d]) (.int .i64 1)).run Tryd.prog w = .ok (.int .i64 b) w ∧
    (Instr.index 77 (.agg #[.int .i64 a, .int .i64 b, .int .i64 c, .int .i64 d]) (.int .i64 2)).run Tryd.prog w = .ok (.int .i64 c) w ∧ (Instr.index 77 (.agg #[.int .i64 a, .int .i64 b, .int .i64 c, .int .i64 d]) (.int .i64 3)).run Tryd.prog w = .ok (.int .i64 d) w := by
  refine ⟨?_, ?_, ?_, ?_⟩
  · simp [Instr.index, run_underlying Tryd.underlying77, asIntOf, go_sem]
  · simp [Instr.index, run_underlying Tryd.underlying77, asIntOf, go_sem]
  · simp [Instr.index, run_underlying Tryd.underlying77, asIntOf, go_sem]
  · simp [Instr.index, run_underlying Tryd.underlying77, asIntOf, go_sem]
theorem flag_lit (w : World) : (Calls Tryd.prog 42 #[.bool true] w fun e w' => e = .returned (.int .u8 1) ∧ w' = w) ∧ (Calls Tryd.prog 42 #[.bool false] w fun e w' => e = .returned (.int .u8 0) ∧ w' = w) :=
  ⟨flag_any11 true w, flag_any11 false w⟩
theorem Kept.has {w w' : World} (h : Kept w w') {g : Nat} {t : TypeId} {cs : Array Value} (hh : Has w g t cs) (ht : t ≠ 5) : Has w' g t cs := h g t cs ht hh
set_option maxHeartbeats 16000000 in
theorem pwrite_any {B : Nat} {A : Option Addr} {n c : Nat} {T : List Wk} (x y z : Int) (w : World) (h : OwnW B w (.slice A n c) T) (hsh : Short T) (hl : T.length ≤ 6) (hx : x ≤ 9223372036854775807) (hy : y ≤ 9223372036854775807) (hz : z ≤ 9223372036854775807) (hT : Tabs w) :
    Calls Tryd.prog 14 #[.agg #[.int .i64 x, .int .i64 y, .int .i64 z, .slice A n c]] w fun e w' => ∃ v, e = .returned (.tuple #[v, .int .i64 (if ptOk x y z T then 0 else 1)]) ∧ Hid (Own w.heap.size w' v (if ptOk x y z T then ptB x y z T else [])) ∧ Hid (Below w.heap.size w w') := by
  have hb0 : Below w.heap.size w (w.alloc (.cells #[.int .i64 x, .int .i64 y, .int .i64 z, .slice A n c] 43)) := (Below.refl _ w).alloc (Nat.le_refl _) _
  have HMY := Lib.hid (pptmay_any x y z _ (h.below hb0) (by omega) (fun x hx => by have := hsh x hx; omega) (hT.below hb0))
  have HX0 := Lib.hid (Has.new w 43 #[.int .i64 x, .int .i64 y, .int .i64 z, .slice A n c])
  have HB0 := Lib.hid hb0
  obtain ⟨A2, n2, c2, e2, HN, hnc, hcm, HR, HZ⟩ := ownW_open h
  obtain ⟨rfl, rfl, rfl⟩ := slice_inj e2
  have HSH := Lib.hid hsh
  clear h hT hb0 hsh e2
  unfold maxLen at hcm
  cases hok : ptOk x y z T
  · rw [hok] at HMY
    go_enter Tryd.func14, Tryd.ntmps14
    have x0 := HX0.out.cell 0
    have x1 := HX0.out.cell 1
    have x2 := HX0.out.cell 2
    have x3 := HX0.out.cell 3
    simp at x0 x1 x2 x3
    go_wp2_with fail
    refine HMY.out.mono ?_
    rintro e w1 ⟨rfl, hb1⟩
    have HB1 := Lib.hid (HB0.out.trans (hb1.out.mono HB0.out.size))
    clear x0 x1 x2 x3
    go_wp2_with fail
    go_ret2
    exact ⟨_, rfl, own_nil _ _, HB1⟩
  · rw [hok] at HMY
    have hpos : 0 ≤ x ∧ 0 ≤ y ∧ 0 ≤ z := by
      unfold ptOk at hok
      simp only [Bool.and_eq_true, decide_eq_true_eq] at hok
      exact ⟨hok.1.1.1, hok.1.1.2, hok.1.2⟩
    obtain ⟨h0, h1, h2⟩ := hpos
    obtain ⟨X, rfl⟩ : ∃ X : Nat, x = (X : Int) := ⟨x.toNat, by omega⟩
    obtain ⟨Y, rfl⟩ : ∃ Y : Nat, y = (Y : Int) := ⟨y.toNat, by omega⟩
    obtain ⟨Z, rfl⟩ : ∃ Z : Nat, z = (Z : Int) := ⟨z.toNat, by omega⟩
    have HPB : Hid (ptB (X : Int) (Y : Int) (Z : Int) T = numsB X Y Z n ++ worksB T n) := by show _ = _; unfold ptB; rw [HN.out]; rfl
    have hn6 : n ≤ 6 := by have := HN.out; omega
    clear hok
    generalize ptB (X : Int) (Y : Int) (Z : Int) T = PB at *
    go_enter Tryd.func14, Tryd.ntmps14
    have x0 := HX0.out.cell 0
    have x1 := HX0.out.cell 1
    have x2 := HX0.out.cell 2
    have x3 := HX0.out.cell 3
    simp at x0 x1 x2 x3
    go_wp2_with fail
    refine HMY.out.mono ?_
    rintro e w1 ⟨rfl, hb1⟩
    have HB1 := Lib.hid (HB0.out.trans (hb1.out.mono HB0.out.size))
    have HX1 := Lib.hid (HX0.out.below hb1.out HX0.out.lt)
    have hs1 : w.heap.size + 1 ≤ w1.heap.size := by have := hb1.out.size; simpa using this
    clear x0 x1 x2 x3 hb1 HX0 HB0 HMY
    have x0 : w1.cell? ⟨w.heap.size, 0, none⟩ = some (.int .i64 (X : Int)) := HX1.out.cell 0
    have x1 : w1.cell? ⟨w.heap.size, 1, none⟩ = some (.int .i64 (Y : Int)) := HX1.out.cell 1
    have x2 : w1.cell? ⟨w.heap.size, 2, none⟩ = some (.int .i64 (Z : Int)) := HX1.out.cell 2
    have x3 : w1.cell? ⟨w.heap.size, 3, none⟩ = some (.slice A n c) := HX1.out.cell 3
    go_wp2_with fail
    clear x0 x1 x2 x3
    go_loopw [4, 22] (fun b i wr => ∃ (k : Nat) (u : Value), k ≤ 4 ∧ i = .int .i64 k ∧ u = b ∧ Hid (Own (w.heap.size + 1) wr u (fourB X Y Z n k)) ∧ Hid (Below (w.heap.size + 1) w1 wr)) (fun _ i _ => 4 - (intOf i).toNat)
    case atStart => exact ⟨0, _, by omega, rfl, rfl, own_nil _ _, Below.refl _ _⟩
    case round =>
      obtain ⟨k, u, hk, rfl, rfl, HO, HB⟩ := hrel
      by_cases hk4 : k < 4
      · have HSU := Lib.hid (fourB_succ X Y Z n k)
        have HLE := Lib.hid (fourB_len X Y Z n k (by omega) (by omega) (by omega) (by omega) (by omega))
        generalize fourB X Y Z n k = M at *
        have hkk : k = 0 ∨ k = 1 ∨ k = 2 ∨ k = 3 := by omega
        have hix := fun (W : World) => idx4 (X : Int) (Y : Int) (Z : Int) (n : Int) W
        obtain ⟨hi0, hi1, hi2, hi3⟩ : (∀ W, _) ∧ (∀ W, _) ∧ (∀ W, _) ∧ (∀ W, _) := ⟨fun W => (hix W).1, fun W => (hix W).2.1, fun W => (hix W).2.2.1, fun W => (hix W).2.2.2⟩
        clear hix
        rcases hkk with rfl | rfl | rfl | rfl
        · go_wp2_with fail
          refine (num0_any X wr (by omega)).mono ?_
          rintro e w3 ⟨A3, m3, c3, rfl, hm3, hr3, hz3, hb3⟩
          have hOO : Own (w.heap.size + 1) w3 u M := HO.out.below hb3.out
          obtain ⟨R4, W4, hrun4, ho4, hb4, _⟩ := own_appK w3 (w.heap.size + 1) u M hOO (Nat.le_trans hs1 (Nat.le_trans HB.out.size hb3.out.size)) A3 (digs X) m3 c3 hm3.out hr3.out (by have := HLE.out; have := hm3.out; have := digs_le_ten X (by omega); omega) hz3.out
          have HO4 : Hid (Own (w.heap.size + 1) W4 R4 (fourB X Y Z n (0 + 1))) := by show Own _ _ _ _; rw [HSU.out]; exact ho4
          have HB4 := Lib.hid ((HB.out.trans (hb3.out.mono (Nat.le_trans hs1 HB.out.size))).trans hb4)
          clear ho4 hb4 hOO hb3
          go_wp2_with (at_builtin; refine wpList_app rfl _ _ 46 46 rfl u (.slice A3 m3 c3) rfl rfl ⟨_, _, hrun4, ?_⟩)
          go_roundw
          case rel => exact ⟨0 + 1, R4, by omega, by go_num, rfl, HO4.out, HB4.out⟩
          case measure => simp [intOf]
        · go_wp2_with fail
          refine (num0_any Y wr (by omega)).mono ?_
          rintro e w3 ⟨A3, m3, c3, rfl, hm3, hr3, hz3, hb3⟩
          have hOO : Own (w.heap.size + 1) w3 u M := HO.out.below hb3.out
          obtain ⟨R4, W4, hrun4, ho4, hb4, _⟩ := own_appK w3 (w.heap.size + 1) u M hOO (Nat.le_trans hs1 (Nat.le_trans HB.out.size hb3.out.size)) A3 (digs Y) m3 c3 hm3.out hr3.out (by have := HLE.out; have := hm3.out; have := digs_le_ten Y (by omega); omega) hz3.out
          have HO4 : Hid (Own (w.heap.size + 1) W4 R4 (fourB X Y Z n (1 + 1))) := by show Own _ _ _ _; rw [HSU.out]; exact ho4
          have HB4 := Lib.hid ((HB.out.trans (hb3.out.mono (Nat.le_trans hs1 HB.out.size))).trans hb4)
          clear ho4 hb4 hOO hb3
          go_wp2_with (at_builtin; refine wpList_app rfl _ _ 46 46 rfl u (.slice A3 m3 c3) rfl rfl ⟨_, _, hrun4, ?_⟩)
          go_roundw
          case rel => exact ⟨1 + 1, R4, by omega, by go_num, rfl, HO4.out, HB4.out⟩
          case measure => simp [intOf]
        · go_wp2_with fail
          refine (num0_any Z wr (by omega)).mono ?_
          rintro e w3 ⟨A3, m3, c3, rfl, hm3, hr3, hz3, hb3⟩
          have hOO : Own (w.heap.size + 1) w3 u M := HO.out.below hb3.out
          obtain ⟨R4, W4, hrun4, ho4, hb4, _⟩ := own_appK w3 (w.heap.size + 1) u M hOO (Nat.le_trans hs1 (Nat.le_trans HB.out.size hb3.out.size)) A3 (digs Z) m3 c3 hm3.out hr3.out (by have := HLE.out; have := hm3.out; have := digs_le_ten Z (by omega); omega) hz3.out
          have HO4 : Hid (Own (w.heap.size + 1) W4 R4 (fourB X Y Z n (2 + 1))) := by show Own _ _ _ _; rw [HSU.out]; exact ho4
          have HB4 := Lib.hid ((HB.out.trans (hb3.out.mono (Nat.le_trans hs1 HB.out.size))).trans hb4)
          clear ho4 hb4 hOO hb3
          go_wp2_with (at_builtin; refine wpList_app rfl _ _ 46 46 rfl u (.slice A3 m3 c3) rfl rfl ⟨_, _, hrun4, ?_⟩)
          go_roundw
          case rel => exact ⟨2 + 1, R4, by omega, by go_num, rfl, HO4.out, HB4.out⟩
          case measure => simp [intOf]
        · go_wp2_with fail
          refine (num0_any n wr (by omega)).mono ?_
          rintro e w3 ⟨A3, m3, c3, rfl, hm3, hr3, hz3, hb3⟩
          have hOO : Own (w.heap.size + 1) w3 u M := HO.out.below hb3.out
          obtain ⟨R4, W4, hrun4, ho4, hb4, _⟩ := own_appK w3 (w.heap.size + 1) u M hOO (Nat.le_trans hs1 (Nat.le_trans HB.out.size hb3.out.size)) A3 (digs n) m3 c3 hm3.out hr3.out (by have := HLE.out; have := hm3.out; have := digs_le_ten n (by omega); omega) hz3.out
          have HO4 : Hid (Own (w.heap.size + 1) W4 R4 (fourB X Y Z n (3 + 1))) := by show Own _ _ _ _; rw [HSU.out]; exact ho4
          have HB4 := Lib.hid ((HB.out.trans (hb3.out.mono (Nat.le_trans hs1 HB.out.size))).trans hb4)
          clear ho4 hb4 hOO hb3
          go_wp2_with (at_builtin; refine wpList_app rfl _ _ 46 46 rfl u (.slice A3 m3 c3) rfl rfl ⟨_, _, hrun4, ?_⟩)
          go_roundw
          case rel => exact ⟨3 + 1, R4, by omega, by go_num, rfl, HO4.out, HB4.out⟩
          case measure => simp [intOf]
      · obtain rfl : k = 4 := by omega
        rw [show ((4 : Nat) : Int) = 4 from rfl]
        have HF := Lib.hid (fourB_all X Y Z n)
        have HNL := numsB_len X Y Z n (by omega) (by omega) (by omega) (by omega)
        have HX2 := Lib.hid (HX1.out.below HB.out (by omega))
        have x3 : wr.cell? ⟨w.heap.size, 3, none⟩ = some (.slice A n c) := HX2.out.cell 3
        rw [HF.out] at HO
        obtain ⟨wo, rfl⟩ : ∃ wo : World, wo = wr := ⟨_, rfl⟩
        have HBX := Lib.hid (HB1.out.trans (HB.out.mono (by omega)))
        have hso : w.heap.size + 1 ≤ wo.heap.size := Nat.le_trans hs1 HB.out.size
        have HRO := Lib.hid (HR.out.below HBX.out)
        generalize numsB X Y Z n = NB at *
        go_wp2_with fail
        clear x3
        go_loopw [4, 33] (fun b i wx => ∃ (k : Nat) (u : Value), k ≤ n ∧ i = .int .i64 k ∧ u = b ∧ Hid (Own (w.heap.size + 1) wx u (NB ++ worksB T k)) ∧ Hid (Below (w.heap.size + 1) wo wx)) (fun _ i _ => n - (intOf i).toNat)
        case atStart => exact ⟨0, _, by omega, rfl, rfl, by show Own _ _ _ _; simpa [worksB] using HO.out, Below.refl _ _⟩
        case round =>
          obtain ⟨k, u2, hkn, rfl, rfl, HO2, HB2⟩ := hrel
          have HW2 := Lib.hid (HBX.out.trans (HB2.out.mono (by omega)))
          by_cases hkl : k < n
          · have hkt : k < T.length := by rw [HN.out]; exact hkl
            obtain ⟨b, off, rfl, hc0⟩ := (HR.out.below HW2.out) (by intro e; rw [e] at hkt; simp at hkt)
            obtain ⟨c0, c1, c2⟩ := hc0 k hkt
            have HSU := Lib.hid (worksB_succ T k hkt)
            have HLE := Lib.hid (worksB_len HSH.out k (by omega))
            have hxs := HSH.out T[k] (List.getElem_mem hkt)
            have hkz : (k : Int) < (n : Int) := by omega
            clear hc0
            generalize worksB T k = M at *
            generalize T[k] = xk at *
            obtain ⟨xt, xd, xq⟩ := xk
            simp only at c0 c1 c2 hxs
            have ht1 := txt_len xt (by omega)
            have ht2 := txt_len xq (by omega)
            have HT1 := Lib.hid (fun W => txt0_any xt W (by omega))
            have HT2 := Lib.hid (fun W => txt0_any xq W (by omega))
            cases xd
            · have HWB : Hid (wkB ⟨xt, false, xq⟩ = txt xt ++ ([0] ++ txt xq)) := rfl
              obtain ⟨q, hq⟩ : ∃ q, wr.heap.size = q := ⟨_, rfl⟩
              have HQ := Lib.hid (Has.new wr 75 #[.string xt, .bool false, .string xq])
              have hba : Below wr.heap.size wr (wr.alloc (.cells #[.string xt, .bool false, .string xq] 75)) := (Below.refl _ wr).alloc (Nat.le_refl _) _
              have hO5 := HO2.out.below hba
              have hsr : w.heap.size + 1 ≤ wr.heap.size := Nat.le_trans hso HB2.out.size
              have HB5 := Lib.hid (HB2.out.trans (hba.mono hsr))
              go_wp2_with fail
              obtain ⟨W5, hW5⟩ : ∃ W, W = wr.alloc (.cells #[.string xt, .bool false, .string xq] 75) := ⟨_, rfl⟩
              rw [← hW5] at HQ hba hO5 HB5 ⊢
              have HO5 := Lib.hid hO5
              have hs5 : w.heap.size + 1 ≤ W5.heap.size := Nat.le_trans hsr hba.size
              clear hW5 hba hO5
              rw [hq] at HQ
              clear hq c0 c1 c2
              refine (HT1.out W5).mono ?_
              rintro e w6 ⟨A6, m6, c6, rfl, hm6, hr6, hz6, hb6⟩
              obtain ⟨R7, W7, hrun7, ho7, hb7, hk7⟩ := own_appK w6 (w.heap.size + 1) u2 (NB ++ M) (HO5.out.below hb6.out) (Nat.le_trans hs5 hb6.out.size) A6 (txt xt) m6 c6 hm6.out hr6.out (by rw [List.length_append]; have := HLE.out; have := hm6.out; omega) hz6.out
              have HO7 := Lib.hid ho7
              have HB7 := Lib.hid ((HB5.out.trans (hb6.out.mono hs5)).trans hb7)
              have HQ7 := Lib.hid (hk7.has (HQ.out.below hb6.out HQ.out.lt) (by decide))
              have hs7 : w.heap.size + 1 ≤ W7.heap.size := Nat.le_trans hso HB7.out.size
              have d1 : W7.cell? ⟨q, 1, none⟩ = some (.bool false) := HQ7.out.cell 1
              clear ho7 hb7 hk7 hb6 HB5 HO5 HQ
              have hlen7 : (NB ++ M ++ txt xt).length ≤ 12000 := by simp only [List.length_append]; have := HLE.out; omega
              have HA8 := Lib.hid (app_new W7 (w.heap.size + 1) R7 (NB ++ M ++ txt xt) [0] #[.int .u8 0] (by simp [bv]) 1 rfl HO7.out hs7 (by omega))
              obtain ⟨R8, W8, hrun8, ho8, hb8⟩ := HA8.out
              have hk8 := (app_at W7 W7.heap.size rfl (w.heap.size + 1) R7 (NB ++ M ++ txt xt) [0] #[.int .u8 0] (by simp [bv]) 1 rfl HO7.out hs7 (by omega))
              obtain ⟨R8b, W8b, hrun8b, _, _, hk8⟩ := hk8
              obtain ⟨rfl, rfl⟩ : R8b = R8 ∧ W8b = W8 := by rw [hrun8] at hrun8b; injection hrun8b with e1 e2; exact ⟨e1.symm, e2.symm⟩
              have HO8 := Lib.hid ho8
              have HB8 := Lib.hid (HB7.out.trans hb8)
              have HQ8 := Lib.hid (hk8.has HQ7.out (by decide))
              have hs8 : w.heap.size + 1 ≤ W8b.heap.size := Nat.le_trans hso HB8.out.size
              have d2 : W8b.cell? ⟨q, 2, none⟩ = some (.string xq) := HQ8.out.cell 2
              clear ho8 hb8 hk8 hrun8b HA8
              have HFL := Lib.hid ((flag_lit W7).2)
              go_wp2_with (at_builtin; refine wpList_app rfl _ _ 46 46 rfl u2 (.slice A6 m6 c6) rfl rfl ⟨_, _, hrun7, ?_⟩)
              refine HFL.out.mono ?_
              rintro e w9 ⟨rfl, rfl⟩
              go_wp2_with (at_builtin; refine wpList_app rfl _ _ 46 46 rfl R7 (.slice (some ⟨w9.heap.size, 0, none⟩) 1 1) rfl rfl ⟨_, _, hrun8, ?_⟩)
              refine (HT2.out _).mono ?_
              rintro e w10 ⟨A10, m10, c10, rfl, hm10, hr10, hz10, hb10⟩
              obtain ⟨R11, W11, hrun11, ho11, hb11, _⟩ := own_appK w10 (w.heap.size + 1) R8b (NB ++ M ++ txt xt ++ [0]) (HO8.out.below hb10.out) (Nat.le_trans hs8 hb10.out.size) A10 (txt xq) m10 c10 hm10.out hr10.out (by rw [List.length_append]; simp only [List.length_singleton]; have := hm10.out; omega) hz10.out
              have HO11 : Hid (Own (w.heap.size + 1) W11 R11 (NB ++ worksB T (k + 1))) := by show Own _ _ _ _; rw [HSU.out, HWB.out]; simpa [List.append_assoc] using ho11
              have HB11 := Lib.hid ((HB8.out.trans (hb10.out.mono hs8)).trans hb11)
              clear ho11 hb11 hb10
              go_wp2_with (at_builtin; refine wpList_app rfl _ _ 46 46 rfl R8b (.slice A10 m10 c10) rfl rfl ⟨_, _, hrun11, ?_⟩)
              go_roundw
              case rel => exact ⟨k + 1, R11, by omega, by go_num, rfl, HO11.out, HB11.out⟩
              case measure => simp [intOf]; omega
            · have HWB : Hid (wkB ⟨xt, true, xq⟩ = txt xt ++ ([1] ++ txt xq)) := rfl
              obtain ⟨q, hq⟩ : ∃ q, wr.heap.size = q := ⟨_, rfl⟩
              have HQ := Lib.hid (Has.new wr 75 #[.string xt, .bool true, .string xq])
              have hba : Below wr.heap.size wr (wr.alloc (.cells #[.string xt, .bool true, .string xq] 75)) := (Below.refl _ wr).alloc (Nat.le_refl _) _
              have hO5 := HO2.out.below hba
              have hsr : w.heap.size + 1 ≤ wr.heap.size := Nat.le_trans hso HB2.out.size
              have HB5 := Lib.hid (HB2.out.trans (hba.mono hsr))
              go_wp2_with fail
              obtain ⟨W5, hW5⟩ : ∃ W, W = wr.alloc (.cells #[.string xt, .bool true, .string xq] 75) := ⟨_, rfl⟩
              rw [← hW5] at HQ hba hO5 HB5 ⊢
              have HO5 := Lib.hid hO5
              have hs5 : w.heap.size + 1 ≤ W5.heap.size := Nat.le_trans hsr hba.size
              clear hW5 hba hO5
              rw [hq] at HQ
              clear hq c0 c1 c2
              refine (HT1.out W5).mono ?_
              rintro e w6 ⟨A6, m6, c6, rfl, hm6, hr6, hz6, hb6⟩
              obtain ⟨R7, W7, hrun7, ho7, hb7, hk7⟩ := own_appK w6 (w.heap.size + 1) u2 (NB ++ M) (HO5.out.below hb6.out) (Nat.le_trans hs5 hb6.out.size) A6 (txt xt) m6 c6 hm6.out hr6.out (by rw [List.length_append]; have := HLE.out; have := hm6.out; omega) hz6.out
              have HO7 := Lib.hid ho7
              have HB7 := Lib.hid ((HB5.out.trans (hb6.out.mono hs5)).trans hb7)
              have HQ7 := Lib.hid (hk7.has (HQ.out.below hb6.out HQ.out.lt) (by decide))
              have hs7 : w.heap.size + 1 ≤ W7.heap.size := Nat.le_trans hso HB7.out.size
              have d1 : W7.cell? ⟨q, 1, none⟩ = some (.bool true) := HQ7.out.cell 1
              clear ho7 hb7 hk7 hb6 HB5 HO5 HQ
              have hlen7 : (NB ++ M ++ txt xt).length ≤ 12000 := by simp only [List.length_append]; have := HLE.out; omega
              have HA8 := Lib.hid (app_new W7 (w.heap.size + 1) R7 (NB ++ M ++ txt xt) [1] #[.int .u8 1] (by simp [bv]) 1 rfl HO7.out hs7 (by omega))
              obtain ⟨R8, W8, hrun8, ho8, hb8⟩ := HA8.out
              have hk8 := (app_at W7 W7.heap.size rfl (w.heap.size + 1) R7 (NB ++ M ++ txt xt) [1] #[.int .u8 1] (by simp [bv]) 1 rfl HO7.out hs7 (by omega))
              obtain ⟨R8b, W8b, hrun8b, _, _, hk8⟩ := hk8
              obtain ⟨rfl, rfl⟩ : R8b = R8 ∧ W8b = W8 := by rw [hrun8] at hrun8b; injection hrun8b with e1 e2; exact ⟨e1.symm, e2.symm⟩
              have HO8 := Lib.hid ho8
              have HB8 := Lib.hid (HB7.out.trans hb8)
              have HQ8 := Lib.hid (hk8.has HQ7.out (by decide))
              have hs8 : w.heap.size + 1 ≤ W8b.heap.size := Nat.le_trans hso HB8.out.size
              have d2 : W8b.cell? ⟨q, 2, none⟩ = some (.string xq) := HQ8.out.cell 2
              clear ho8 hb8 hk8 hrun8b HA8
              have HFL := Lib.hid ((flag_lit W7).1)
              go_wp2_with (at_builtin; refine wpList_app rfl _ _ 46 46 rfl u2 (.slice A6 m6 c6) rfl rfl ⟨_, _, hrun7, ?_⟩)
              refine HFL.out.mono ?_
              rintro e w9 ⟨rfl, rfl⟩
              go_wp2_with (at_builtin; refine wpList_app rfl _ _ 46 46 rfl R7 (.slice (some ⟨w9.heap.size, 0, none⟩) 1 1) rfl rfl ⟨_, _, hrun8, ?_⟩)
              refine (HT2.out _).mono ?_
              rintro e w10 ⟨A10, m10, c10, rfl, hm10, hr10, hz10, hb10⟩
              obtain ⟨R11, W11, hrun11, ho11, hb11, _⟩ := own_appK w10 (w.heap.size + 1) R8b (NB ++ M ++ txt xt ++ [1]) (HO8.out.below hb10.out) (Nat.le_trans hs8 hb10.out.size) A10 (txt xq) m10 c10 hm10.out hr10.out (by rw [List.length_append]; simp only [List.length_singleton]; have := hm10.out; omega) hz10.out
              have HO11 : Hid (Own (w.heap.size + 1) W11 R11 (NB ++ worksB T (k + 1))) := by show Own _ _ _ _; rw [HSU.out, HWB.out]; simpa [List.append_assoc] using ho11
              have HB11 := Lib.hid ((HB8.out.trans (hb10.out.mono hs8)).trans hb11)
              clear ho11 hb11 hb10
              go_wp2_with (at_builtin; refine wpList_app rfl _ _ 46 46 rfl R8b (.slice A10 m10 c10) rfl rfl ⟨_, _, hrun11, ?_⟩)
              go_roundw
              case rel => exact ⟨k + 1, R11, by omega, by go_num, rfl, HO11.out, HB11.out⟩
              case measure => simp [intOf]; omega
          · obtain rfl : k = n := by omega
            have hkz : ¬ ((k : Int) < (k : Int)) := by omega
            go_wp2_with fail
            go_ret2
            exact ⟨_, rfl, by rw [HPB.out]; exact own_down HO2.out (by omega), HW2⟩
end Go.Proofs.YtjkmbggaoinkdaaDoor
namespace Go.Proofs.YtjkmbggaoinkdaaDoor
open Go.RowKit Dg
set_option maxRecDepth 100000
theorem own_open {B : Nat} {w : World} {v : Value} {l : List Nat} (h : Own B w v l) (h0 : 0 < l.length) : ∃ A m c, v = .slice A m c ∧ Hid (l.length = m) ∧ Hid (Rd w A l) ∧ Hid (A = none → c = 0) := by
  obtain ⟨A, c, e, _, hr⟩ := own_full h
  refine ⟨A, _, c, e, rfl, hr, fun e2 => ?_⟩
  obtain ⟨b, off, e3, _⟩ := hr (by intro h; rw [h] at h0; simp at h0)
  rw [e2] at e3; cases e3
theorem numR_any (n : Nat) (w : World) (hn : (n : Int) ≤ 9223372036854775807) : Calls Tryd.prog 48 #[.int .i64 n] w fun e w' => ∃ A m c, e = .returned (.slice A m c) ∧ Hid ((digs n).length = m) ∧ Hid (Rd w' A (digs n)) ∧ Hid (A = none → c = 0) ∧ Hid (Below w.heap.size w w') := by
  refine (refNumber_any n w hn).mono ?_
  rintro e w' ⟨v, rfl, ho, hb⟩
  obtain ⟨A, m, c, rfl, h1, h2, h3⟩ := own_open ho (digs_pos n)
  exact ⟨A, m, c, rfl, h1, h2, h3, hb⟩
theorem txtR_any (s : ByteArray) (w : World) (hs : s.size ≤ 900) : Calls Tryd.prog 49 #[.string s] w fun e w' => ∃ A m c, e = .returned (.slice A m c) ∧ Hid ((txt s).length = m) ∧ Hid (Rd w' A (txt s)) ∧ Hid (A = none → c = 0) ∧ Hid (Below w.heap.size w w') := by
  refine (refText_any s w (by omega)).mono ?_
  rintro e w' ⟨v, rfl, ho, hb⟩
  obtain ⟨A, m, c, rfl, h1, h2, h3⟩ := own_open ho (txt_pos s)
  exact ⟨A, m, c, rfl, h1, h2, h3, hb⟩
set_option maxHeartbeats 16000000 in
theorem rwritept_any {B : Nat} {A : Option Addr} {n c : Nat} {T : List Wk} (X Y Z : Nat) (w : World) (h : OwnW B w (.slice A n c) T) (hsh : Short T) (hl : T.length ≤ 6) (hx : (X : Int) ≤ 9223372036854775807) (hy : (Y : Int) ≤ 9223372036854775807) (hz : (Z : Int) ≤ 9223372036854775807) :
    Calls Tryd.prog 17 #[.agg #[.int .i64 (X : Int), .int .i64 (Y : Int), .int .i64 (Z : Int), .slice A n c]] w fun e w' => ∃ v, e = .returned v ∧ Hid (Own w.heap.size w' v (ptB (X : Int) (Y : Int) (Z : Int) T)) ∧ Hid (Below w.heap.size w w') := by
  have hb0 : Below w.heap.size w (w.alloc (.cells #[.int .i64 (X : Int), .int .i64 (Y : Int), .int .i64 (Z : Int), .slice A n c] 43)) := (Below.refl _ w).alloc (Nat.le_refl _) _
  have HX0 := Lib.hid (Has.new w 43 #[.int .i64 (X : Int), .int .i64 (Y : Int), .int .i64 (Z : Int), .slice A n c])
  have HB0 := Lib.hid hb0
  obtain ⟨A2, n2, c2, e2, HN, hnc, hcm, HR, HZ⟩ := ownW_open h
  obtain ⟨rfl, rfl, rfl⟩ := slice_inj e2
  have HSH := Lib.hid hsh
  clear h hb0 hsh e2
  unfold maxLen at hcm
  have HPB : Hid (ptB (X : Int) (Y : Int) (Z : Int) T = numsB X Y Z n ++ worksB T n) := by show _ = _; unfold ptB; rw [HN.out]; rfl
  have hn6 : n ≤ 6 := by have := HN.out; omega
  have hdx := digs_le_ten X (by omega)
  have hdy := digs_le_ten Y (by omega)
  have hdz := digs_le_ten Z (by omega)
  have hdn := digs_le_ten n (by omega)
  go_enter Tryd.func17, Tryd.ntmps17
  go_wp2_with fail
  obtain ⟨W0, hW0⟩ : ∃ W, W = w.alloc (.cells #[.int .i64 (X : Int), .int .i64 (Y : Int), .int .i64 (Z : Int), .slice A n c] 43) := ⟨_, rfl⟩
  rw [← hW0] at HX0 HB0 ⊢
  have hs0 : w.heap.size + 1 ≤ W0.heap.size := by rw [hW0]; simp
  clear hW0
  refine (refNumber_any X W0 hx).mono ?_
  rintro e w1 ⟨v1, rfl, ho1, hb1⟩
  have HO1 := Lib.hid (own_down ho1 hs0)
  have HB1 : Hid (Below (w.heap.size + 1) W0 w1) := hb1.mono hs0
  clear ho1 hb1
  have HXi2 := Lib.hid (HX0.out.below HB1.out (by omega))
  have y2 : w1.cell? ⟨w.heap.size, 1, none⟩ = some (.int .i64 (Y : Int)) := HXi2.out.cell 1
  go_wp2_with fail
  refine (numR_any Y w1 (by omega)).mono ?_
  rintro e w2b ⟨A2, m2, c2, rfl, hm2, hr2, hz2, hb2⟩
  have hsb2 : w.heap.size + 1 ≤ w2b.heap.size := Nat.le_trans (Nat.le_trans hs0 HB1.out.size) hb2.out.size
  obtain ⟨R2, W2, hrun2, ho2, hbb2, _⟩ := own_appK w2b (w.heap.size + 1) v1 (digs X) (HO1.out.below hb2.out) hsb2 A2 (digs Y) m2 c2 hm2.out hr2.out (by (try simp only [List.length_append]); have := hm2.out; omega) hz2.out
  have HO2 := Lib.hid ho2
  have HB2 := Lib.hid ((HB1.out.trans (hb2.out.mono (Nat.le_trans hs0 HB1.out.size))).trans hbb2)
  clear ho2 hbb2 hb2 y2 HO1
  have HXi3 := Lib.hid (HX0.out.below HB2.out (by omega))
  have y3 : W2.cell? ⟨w.heap.size, 2, none⟩ = some (.int .i64 (Z : Int)) := HXi3.out.cell 2
  go_wp2_with (at_builtin; refine wpList_app rfl _ _ 46 46 rfl v1 (.slice A2 m2 c2) rfl rfl ⟨_, _, hrun2, ?_⟩)
  refine (numR_any Z W2 (by omega)).mono ?_
  rintro e w3b ⟨A3, m3, c3, rfl, hm3, hr3, hz3, hb3⟩
  have hsb3 : w.heap.size + 1 ≤ w3b.heap.size := Nat.le_trans (Nat.le_trans hs0 HB2.out.size) hb3.out.size
  obtain ⟨R3, W3, hrun3, ho3, hbb3, _⟩ := own_appK w3b (w.heap.size + 1) R2 (digs X ++ digs Y) (HO2.out.below hb3.out) hsb3 A3 (digs Z) m3 c3 hm3.out hr3.out (by (try simp only [List.length_append]); have := hm3.out; omega) hz3.out
  have HO3 := Lib.hid ho3
  have HB3 := Lib.hid ((HB2.out.trans (hb3.out.mono (Nat.le_trans hs0 HB2.out.size))).trans hbb3)
  clear ho3 hbb3 hb3 y3 HO2
  have HXi4 := Lib.hid (HX0.out.below HB3.out (by omega))
  have y4 : W3.cell? ⟨w.heap.size, 3, none⟩ = some (.slice A n c) := HXi4.out.cell 3
  go_wp2_with (at_builtin; refine wpList_app rfl _ _ 46 46 rfl R2 (.slice A3 m3 c3) rfl rfl ⟨_, _, hrun3, ?_⟩)
  refine (numR_any n W3 (by omega)).mono ?_
  rintro e w4b ⟨A4, m4, c4, rfl, hm4, hr4, hz4, hb4⟩
  have hsb4 : w.heap.size + 1 ≤ w4b.heap.size := Nat.le_trans (Nat.le_trans hs0 HB3.out.size) hb4.out.size
  obtain ⟨R4, W4, hrun4, ho4, hbb4, _⟩ := own_appK w4b (w.heap.size + 1) R3 (digs X ++ digs Y ++ digs Z) (HO3.out.below hb4.out) hsb4 A4 (digs n) m4 c4 hm4.out hr4.out (by (try simp only [List.length_append]); have := hm4.out; omega) hz4.out
  have HO4 := Lib.hid ho4
  have HB4 := Lib.hid ((HB3.out.trans (hb4.out.mono (Nat.le_trans hs0 HB3.out.size))).trans hbb4)
  clear ho4 hbb4 hb4 y4 HO3
  go_wp2_with (at_builtin; refine wpList_app rfl _ _ 46 46 rfl R3 (.slice A4 m4 c4) rfl rfl ⟨_, _, hrun4, ?_⟩)
  have HF : Hid (Own (w.heap.size + 1) W4 R4 (numsB X Y Z n)) := by show Own _ _ _ _; unfold numsB; exact HO4.out
  have HNL := numsB_len X Y Z n (by omega) (by omega) (by omega) (by omega)
  have HX4 := Lib.hid (HX0.out.below HB4.out (by omega))
  obtain ⟨wo, rfl⟩ : ∃ wo : World, wo = W4 := ⟨_, rfl⟩
  have HBX := Lib.hid (HB0.out.trans (HB4.out.mono (by omega)))
  have hso : w.heap.size + 1 ≤ wo.heap.size := Nat.le_trans hs0 HB4.out.size
  clear HO4 HB4 HX0 HB0
  generalize numsB X Y Z n = NB at *
  go_loopw [3, 4] (fun b i wx => ∃ (k : Nat) (u : Value), k ≤ n ∧ i = .int .i64 k ∧ u = b ∧ Hid (Own (w.heap.size + 1) wx u (NB ++ worksB T k)) ∧ Hid (Below (w.heap.size + 1) wo wx)) (fun _ i _ => n - (intOf i).toNat)
  case atStart => exact ⟨0, _, by omega, rfl, rfl, by show Own _ _ _ _; simpa [worksB] using HF.out, Below.refl _ _⟩
  case round =>
    obtain ⟨k, u2, hkn, rfl, rfl, HO2, HB2⟩ := hrel
    have HW2 := Lib.hid (HBX.out.trans (HB2.out.mono (by omega)))
    have HXr := Lib.hid (HX4.out.below HB2.out (by omega))
    have x3 : wr.cell? ⟨w.heap.size, 3, none⟩ = some (.slice A n c) := HXr.out.cell 3
    by_cases hkl : k < n
    · have hkt : k < T.length := by rw [HN.out]; exact hkl
      obtain ⟨b, off, rfl, hc0⟩ := (HR.out.below HW2.out) (by intro e; rw [e] at hkt; simp at hkt)
      obtain ⟨c0, c1, c2⟩ := hc0 k hkt
      have HSU := Lib.hid (worksB_succ T k hkt)
      have HLE := Lib.hid (worksB_len HSH.out k (by omega))
      have hxs := HSH.out T[k] (List.getElem_mem hkt)
      have hkz : (k : Int) < (n : Int) := by omega
      clear hc0
      generalize worksB T k = M at *
      generalize T[k] = xk at *
      obtain ⟨xt, xd, xq⟩ := xk
      simp only at c0 c1 c2 hxs
      have ht1 := txt_len xt (by omega)
      have ht2 := txt_len xq (by omega)
      have HT1 := Lib.hid (fun W => txtR_any xt W (by omega))
      have HT2 := Lib.hid (fun W => txtR_any xq W (by omega))
      cases xd
      · have HWB : Hid (wkB ⟨xt, false, xq⟩ = txt xt ++ ([0] ++ txt xq)) := rfl
        obtain ⟨q, hq⟩ : ∃ q, wr.heap.size = q := ⟨_, rfl⟩
        have HQ := Lib.hid (Has.new wr 75 #[.string xt, .bool false, .string xq])
        have hba : Below wr.heap.size wr (wr.alloc (.cells #[.string xt, .bool false, .string xq] 75)) := (Below.refl _ wr).alloc (Nat.le_refl _) _
        have hO5 := HO2.out.below hba
        have hsr : w.heap.size + 1 ≤ wr.heap.size := Nat.le_trans hso HB2.out.size
        have HB5 := Lib.hid (HB2.out.trans (hba.mono hsr))
        go_wp2_with fail
        obtain ⟨W5, hW5⟩ : ∃ W, W = wr.alloc (.cells #[.string xt, .bool false, .string xq] 75) := ⟨_, rfl⟩
        rw [← hW5] at HQ hba hO5 HB5 ⊢
        have HO5 := Lib.hid hO5
        have hs5 : w.heap.size + 1 ≤ W5.heap.size := Nat.le_trans hsr hba.size
        clear hW5 hba hO5
        rw [hq] at HQ
        clear hq c0 c1 c2
        refine (HT1.out W5).mono ?_
        rintro e w6 ⟨A6, m6, c6, rfl, hm6, hr6, hz6, hb6⟩
        obtain ⟨R7, W7, hrun7, ho7, hb7, hk7⟩ := own_appK w6 (w.heap.size + 1) u2 (NB ++ M) (HO5.out.below hb6.out) (Nat.le_trans hs5 hb6.out.size) A6 (txt xt) m6 c6 hm6.out hr6.out (by rw [List.length_append]; have := HLE.out; have := hm6.out; omega) hz6.out
        have HO7 := Lib.hid ho7
        have HB7 := Lib.hid ((HB5.out.trans (hb6.out.mono hs5)).trans hb7)
        have HQ7 := Lib.hid (hk7.has (HQ.out.below hb6.out HQ.out.lt) (by decide))
        have hs7 : w.heap.size + 1 ≤ W7.heap.size := Nat.le_trans hso HB7.out.size
        have d1 : W7.cell? ⟨q, 1, none⟩ = some (.bool false) := HQ7.out.cell 1
        clear ho7 hb7 hk7 hb6 HB5 HO5 HQ
        have hlen7 : (NB ++ M ++ txt xt).length ≤ 12000 := by simp only [List.length_append]; have := HLE.out; omega
        have HA8 := Lib.hid (app_new W7 (w.heap.size + 1) R7 (NB ++ M ++ txt xt) [0] #[.int .u8 0] (by simp [bv]) 1 rfl HO7.out hs7 (by omega))
        obtain ⟨R8, W8, hrun8, ho8, hb8⟩ := HA8.out
        have hk8 := (app_at W7 W7.heap.size rfl (w.heap.size + 1) R7 (NB ++ M ++ txt xt) [0] #[.int .u8 0] (by simp [bv]) 1 rfl HO7.out hs7 (by omega))
        obtain ⟨R8b, W8b, hrun8b, _, _, hk8⟩ := hk8
        obtain ⟨rfl, rfl⟩ : R8b = R8 ∧ W8b = W8 := by rw [hrun8] at hrun8b; injection hrun8b with e1 e2; exact ⟨e1.symm, e2.symm⟩
        have HO8 := Lib.hid ho8
        have HB8 := Lib.hid (HB7.out.trans hb8)
        have HQ8 := Lib.hid (hk8.has HQ7.out (by decide))
        have hs8 : w.heap.size + 1 ≤ W8b.heap.size := Nat.le_trans hso HB8.out.size
        have d2 : W8b.cell? ⟨q, 2, none⟩ = some (.string xq) := HQ8.out.cell 2
        clear ho8 hb8 hk8 hrun8b HA8
        go_wp2_with (first | (at_builtin; refine wpList_app rfl _ _ 46 46 rfl u2 (.slice A6 m6 c6) rfl rfl ⟨_, _, hrun7, ?_⟩) | (at_builtin; refine wpList_app rfl _ _ 46 46 rfl R7 (.slice (some ⟨W7.heap.size, 0, none⟩) 1 1) rfl rfl ⟨_, _, hrun8, ?_⟩))
        refine (HT2.out _).mono ?_
        rintro e w10 ⟨A10, m10, c10, rfl, hm10, hr10, hz10, hb10⟩
        obtain ⟨R11, W11, hrun11, ho11, hb11, _⟩ := own_appK w10 (w.heap.size + 1) R8b (NB ++ M ++ txt xt ++ [0]) (HO8.out.below hb10.out) (Nat.le_trans hs8 hb10.out.size) A10 (txt xq) m10 c10 hm10.out hr10.out (by rw [List.length_append]; simp only [List.length_singleton]; have := hm10.out; omega) hz10.out
        have HO11 : Hid (Own (w.heap.size + 1) W11 R11 (NB ++ worksB T (k + 1))) := by show Own _ _ _ _; rw [HSU.out, HWB.out]; simpa [List.append_assoc] using ho11
        have HB11 := Lib.hid ((HB8.out.trans (hb10.out.mono hs8)).trans hb11)
        clear ho11 hb11 hb10
        go_wp2_with (at_builtin; refine wpList_app rfl _ _ 46 46 rfl R8b (.slice A10 m10 c10) rfl rfl ⟨_, _, hrun11, ?_⟩)
        go_roundw
        case rel => exact ⟨k + 1, R11, by omega, by go_num, rfl, HO11.out, HB11.out⟩
        case measure => simp [intOf]; omega
      · have HWB : Hid (wkB ⟨xt, true, xq⟩ = txt xt ++ ([1] ++ txt xq)) := rfl
        obtain ⟨q, hq⟩ : ∃ q, wr.heap.size = q := ⟨_, rfl⟩
        have HQ := Lib.hid (Has.new wr 75 #[.string xt, .bool true, .string xq])
        have hba : Below wr.heap.size wr (wr.alloc (.cells #[.string xt, .bool true, .string xq] 75)) := (Below.refl _ wr).alloc (Nat.le_refl _) _
        have hO5 := HO2.out.below hba
        have hsr : w.heap.size + 1 ≤ wr.heap.size := Nat.le_trans hso HB2.out.size
        have HB5 := Lib.hid (HB2.out.trans (hba.mono hsr))
        go_wp2_with fail
        obtain ⟨W5, hW5⟩ : ∃ W, W = wr.alloc (.cells #[.string xt, .bool true, .string xq] 75) := ⟨_, rfl⟩
        rw [← hW5] at HQ hba hO5 HB5 ⊢
        have HO5 := Lib.hid hO5
        have hs5 : w.heap.size + 1 ≤ W5.heap.size := Nat.le_trans hsr hba.size
        clear hW5 hba hO5
        rw [hq] at HQ
        clear hq c0 c1 c2
        refine (HT1.out W5).mono ?_
        rintro e w6 ⟨A6, m6, c6, rfl, hm6, hr6, hz6, hb6⟩
        obtain ⟨R7, W7, hrun7, ho7, hb7, hk7⟩ := own_appK w6 (w.heap.size + 1) u2 (NB ++ M) (HO5.out.below hb6.out) (Nat.le_trans hs5 hb6.out.size) A6 (txt xt) m6 c6 hm6.out hr6.out (by rw [List.length_append]; have := HLE.out; have := hm6.out; omega) hz6.out
        have HO7 := Lib.hid ho7
        have HB7 := Lib.hid ((HB5.out.trans (hb6.out.mono hs5)).trans hb7)
        have HQ7 := Lib.hid (hk7.has (HQ.out.below hb6.out HQ.out.lt) (by decide))
        have hs7 : w.heap.size + 1 ≤ W7.heap.size := Nat.le_trans hso HB7.out.size
        have d1 : W7.cell? ⟨q, 1, none⟩ = some (.bool true) := HQ7.out.cell 1
        clear ho7 hb7 hk7 hb6 HB5 HO5 HQ
        have hlen7 : (NB ++ M ++ txt xt).length ≤ 12000 := by simp only [List.length_append]; have := HLE.out; omega
        have HA8 := Lib.hid (app_new W7 (w.heap.size + 1) R7 (NB ++ M ++ txt xt) [1] #[.int .u8 1] (by simp [bv]) 1 rfl HO7.out hs7 (by omega))
        obtain ⟨R8, W8, hrun8, ho8, hb8⟩ := HA8.out
        have hk8 := (app_at W7 W7.heap.size rfl (w.heap.size + 1) R7 (NB ++ M ++ txt xt) [1] #[.int .u8 1] (by simp [bv]) 1 rfl HO7.out hs7 (by omega))
        obtain ⟨R8b, W8b, hrun8b, _, _, hk8⟩ := hk8
        obtain ⟨rfl, rfl⟩ : R8b = R8 ∧ W8b = W8 := by rw [hrun8] at hrun8b; injection hrun8b with e1 e2; exact ⟨e1.symm, e2.symm⟩
        have HO8 := Lib.hid ho8
        have HB8 := Lib.hid (HB7.out.trans hb8)
        have HQ8 := Lib.hid (hk8.has HQ7.out (by decide))
        have hs8 : w.heap.size + 1 ≤ W8b.heap.size := Nat.le_trans hso HB8.out.size
        have d2 : W8b.cell? ⟨q, 2, none⟩ = some (.string xq) := HQ8.out.cell 2
        clear ho8 hb8 hk8 hrun8b HA8
        go_wp2_with (first | (at_builtin; refine wpList_app rfl _ _ 46 46 rfl u2 (.slice A6 m6 c6) rfl rfl ⟨_, _, hrun7, ?_⟩) | (at_builtin; refine wpList_app rfl _ _ 46 46 rfl R7 (.slice (some ⟨W7.heap.size, 0, none⟩) 1 1) rfl rfl ⟨_, _, hrun8, ?_⟩))
        refine (HT2.out _).mono ?_
        rintro e w10 ⟨A10, m10, c10, rfl, hm10, hr10, hz10, hb10⟩
        obtain ⟨R11, W11, hrun11, ho11, hb11, _⟩ := own_appK w10 (w.heap.size + 1) R8b (NB ++ M ++ txt xt ++ [1]) (HO8.out.below hb10.out) (Nat.le_trans hs8 hb10.out.size) A10 (txt xq) m10 c10 hm10.out hr10.out (by rw [List.length_append]; simp only [List.length_singleton]; have := hm10.out; omega) hz10.out
        have HO11 : Hid (Own (w.heap.size + 1) W11 R11 (NB ++ worksB T (k + 1))) := by show Own _ _ _ _; rw [HSU.out, HWB.out]; simpa [List.append_assoc] using ho11
        have HB11 := Lib.hid ((HB8.out.trans (hb10.out.mono hs8)).trans hb11)
        clear ho11 hb11 hb10
        go_wp2_with (at_builtin; refine wpList_app rfl _ _ 46 46 rfl R8b (.slice A10 m10 c10) rfl rfl ⟨_, _, hrun11, ?_⟩)
        go_roundw
        case rel => exact ⟨k + 1, R11, by omega, by go_num, rfl, HO11.out, HB11.out⟩
        case measure => simp [intOf]; omega
    · obtain rfl : k = n := by omega
      have hkz : ¬ ((k : Int) < (k : Int)) := by omega
      go_wp2_with fail
      go_ret
      exact ⟨_, rfl, by rw [HPB.out]; exact own_down HO2.out (by omega), HW2⟩
end Go.Proofs.YtjkmbggaoinkdaaDoor
namespace Go.Proofs.YtjkmbggaoinkdaaDoor
open Go.RowKit Dg
set_option maxRecDepth 100000
set_option maxHeartbeats 4000000 in
theorem eqlW_any {B B' : Nat} {v v' : Value} {L M : List Wk} (w : World) (h : OwnW B w v L) (h' : OwnW B' w v' M) (hl : L.length ≤ 1000) :
    Calls Tryd.prog 50 #[v, v'] w fun e w' => e = .returned (.bool (sameW L M)) ∧ Hid (Below w.heap.size w w') := by
  have eq := eqW
  obtain ⟨A, n, c, rfl, HN, hc, hm, HA, _⟩ := ownW_open h
  obtain ⟨A', n', c', rfl, HN', hc', hm', HA', _⟩ := ownW_open h'
  have hs : sameW L M = (decide (n = n') && sameTo L M n) := by unfold sameW; rw [HN.out, HN'.out]
  have HS := Lib.hid hs
  obtain ⟨q, hq⟩ : ∃ q, sameW L M = q := ⟨_, rfl⟩
  rw [hq] at HS ⊢
  clear h h' hs hq
  unfold maxLen at hm hm'
  by_cases he : n = n'
  · subst he
    rw [decide_eq_true rfl, Bool.true_and] at HS
    go_enter Tryd.func50, Tryd.ntmps50
    go_wp2_with fail
    go_loopw [13] (fun i wr => ∃ k : Nat, k ≤ n ∧ i = .int .i64 k ∧ Hid (sameTo L M k = true) ∧ Hid (Below w.heap.size w wr)) (fun i _ => n - (intOf i).toNat)
    case atStart => exact ⟨0, by omega, rfl, rfl, Below.refl _ _⟩
    case round =>
      obtain ⟨k, hk, rfl, HT, HB⟩ := hrel
      by_cases hlt : k < n
      · have hkl : k < L.length := by rw [HN.out]; exact hlt
        have hkm : k < M.length := by rw [HN'.out]; exact hlt
        obtain ⟨b, off, rfl, hc0⟩ := (HA.out.below HB.out) (by intro e; rw [e] at hkl; simp at hkl)
        obtain ⟨b', off', rfl, hc0'⟩ := (HA'.out.below HB.out) (by intro e; rw [e] at hkm; simp at hkm)
        obtain ⟨x0, x1, x2⟩ := hc0 k hkl
        obtain ⟨y0, y1, y2⟩ := hc0' k hkm
        have HOK := Lib.hid (sameTo_succ hkl hkm)
        have HNO : Hid (L[k].eqb M[k] = false → sameTo L M n = false) := fun h => by rw [← HN.out]; exact sameTo_false hkl hkm h
        have hkz : (k : Int) < (n : Int) := by omega
        clear hc0 hc0'
        generalize L[k] = x at *
        generalize M[k] = y at *
        obtain ⟨xt, xd, xk⟩ := x
        obtain ⟨yt, yd, yk⟩ := y
        simp only at x0 x1 x2 y0 y1 y2
        have HEQ : Hid ((⟨xt, xd, xk⟩ : Wk).eqb ⟨yt, yd, yk⟩ = (xt.toList == yt.toList && xd == yd && xk.toList == yk.toList)) := rfl
        obtain ⟨qq, hqq⟩ : ∃ q, (xt.toList == yt.toList && xd == yd && xk.toList == yk.toList) = q := ⟨_, rfl⟩
        have eq2 := fun w => eqW xt yt xk yk xd yd w
        simp only [hqq] at eq2
        rw [hqq] at HEQ
        rw [HEQ.out] at HOK HNO
        clear eq hqq HEQ
        cases qq
        · go_wp2_with fail
          have hS0 : (fun X : World => (X.cell? ⟨b, off + k * 3, none⟩ = some (.string xt) ∧ X.cell? ⟨b, off + k * 3 + 1, none⟩ = some (.bool xd) ∧ X.cell? ⟨b, off + k * 3 + 2, none⟩ = some (.string xk)) ∧ X.cell? ⟨b', off' + k * 3, none⟩ = some (.string yt) ∧ X.cell? ⟨b', off' + k * 3 + 1, none⟩ = some (.bool yd) ∧ X.cell? ⟨b', off' + k * 3 + 2, none⟩ = some (.string yk)) wr.drew := ⟨⟨x0, x1, x2⟩, y0, y1, y2⟩
          refine wp_region_held_drew (S := (fun X : World => (X.cell? ⟨b, off + k * 3, none⟩ = some (.string xt) ∧ X.cell? ⟨b, off + k * 3 + 1, none⟩ = some (.bool xd) ∧ X.cell? ⟨b, off + k * 3 + 2, none⟩ = some (.string xk)) ∧ X.cell? ⟨b', off' + k * 3, none⟩ = some (.string yt) ∧ X.cell? ⟨b', off' + k * 3 + 1, none⟩ = some (.bool yd) ∧ X.cell? ⟨b', off' + k * 3 + 2, none⟩ = some (.string yk))) (by kernel_rfl) hS0 (fun _ => ?_)
          (refine wpAnyH_take (i := 0) (v := ?_) rfl (by kernel_rfl) (by kernel_rfl) (by kernel_rfl) (fun _ _ _ h => h) (Or.inl ⟨by rfl, ?_⟩) (by assumption) ?_; rotate_left; (intro w hSw; (try dsimp only at hSw); go_simp; try with_reducible rfl); ((try simp only [List.getElem_toArray]); (try simp only [List.getElem_cons_succ]); (try simp only [List.getElem_cons_zero]); (try simp only [Act.put]); (try simp only [List.setIfInBounds_toArray]); (try simp only [List.set_cons_succ]); (try simp only [List.set_cons_zero])))
          (refine wpAnyH_take (i := 1) (v := ?_) rfl (by kernel_rfl) (by kernel_rfl) (by kernel_rfl) (fun _ _ _ h => h) (Or.inl ⟨by rfl, ?_⟩) (by assumption) ?_; rotate_left; (intro w hSw; (try dsimp only at hSw); go_simp; try with_reducible rfl); ((try simp only [List.getElem_toArray]); (try simp only [List.getElem_cons_succ]); (try simp only [List.getElem_cons_zero]); (try simp only [Act.put]); (try simp only [List.setIfInBounds_toArray]); (try simp only [List.set_cons_succ]); (try simp only [List.set_cons_zero])))
          (refine wpAnyH_take (i := 2) (v := ?_) rfl (by kernel_rfl) (by kernel_rfl) (by kernel_rfl) (fun _ _ _ h => h) (Or.inl ⟨by rfl, ?_⟩) (by assumption) ?_; rotate_left; (intro w hSw; (try dsimp only at hSw); go_simp; try with_reducible rfl); ((try simp only [List.getElem_toArray]); (try simp only [List.getElem_cons_succ]); (try simp only [List.getElem_cons_zero]); (try simp only [Act.put]); (try simp only [List.setIfInBounds_toArray]); (try simp only [List.set_cons_succ]); (try simp only [List.set_cons_zero])))
          (refine wpAnyH_take (i := 3) (v := ?_) rfl (by kernel_rfl) (by kernel_rfl) (by kernel_rfl) (fun _ _ _ h => h) (Or.inl ⟨by rfl, ?_⟩) (by assumption) ?_; rotate_left; (intro w hSw; (try dsimp only at hSw); go_simp; try with_reducible rfl); ((try simp only [List.getElem_toArray]); (try simp only [List.getElem_cons_succ]); (try simp only [List.getElem_cons_zero]); (try simp only [Act.put]); (try simp only [List.setIfInBounds_toArray]); (try simp only [List.set_cons_succ]); (try simp only [List.set_cons_zero])))
          (refine wpAnyH_take (i := 4) (v := ?_) rfl (by kernel_rfl) (by kernel_rfl) (by kernel_rfl) (fun _ _ _ h => h) (Or.inl ⟨by rfl, ?_⟩) (by assumption) ?_; rotate_left; (intro w hSw; (try dsimp only at hSw); go_simp; try with_reducible rfl); ((try simp only [List.getElem_toArray]); (try simp only [List.getElem_cons_succ]); (try simp only [List.getElem_cons_zero]); (try simp only [Act.put]); (try simp only [List.setIfInBounds_toArray]); (try simp only [List.set_cons_succ]); (try simp only [List.set_cons_zero])))
          (refine wpAnyH_take (i := 5) (v := ?_) rfl (by kernel_rfl) (by kernel_rfl) (by kernel_rfl) (fun _ _ _ h => h) (Or.inl ⟨by rfl, ?_⟩) (by assumption) ?_; rotate_left; (intro w hSw; (try dsimp only at hSw); go_simp; try with_reducible rfl); ((try simp only [List.getElem_toArray]); (try simp only [List.getElem_cons_succ]); (try simp only [List.getElem_cons_zero]); (try simp only [Act.put]); (try simp only [List.setIfInBounds_toArray]); (try simp only [List.set_cons_succ]); (try simp only [List.set_cons_zero])))
          (refine wpAnyH_take (i := 6) (v := ?_) rfl (by kernel_rfl) (by kernel_rfl) (by kernel_rfl) (fun _ _ _ h => h) (Or.inl ⟨by rfl, ?_⟩) (by assumption) ?_; rotate_left; (intro w hSw; (try dsimp only at hSw); go_simp; try with_reducible rfl); ((try simp only [List.getElem_toArray]); (try simp only [List.getElem_cons_succ]); (try simp only [List.getElem_cons_zero]); (try simp only [Act.put]); (try simp only [List.setIfInBounds_toArray]); (try simp only [List.set_cons_succ]); (try simp only [List.set_cons_zero])))
          (refine wpAnyH_take (i := 7) (v := ?_) rfl (by kernel_rfl) (by kernel_rfl) (by kernel_rfl) (fun _ _ _ h => h) (Or.inl ⟨by rfl, ?_⟩) (by assumption) ?_; rotate_left; (intro w hSw; (try dsimp only at hSw); go_simp; try with_reducible rfl); ((try simp only [List.getElem_toArray]); (try simp only [List.getElem_cons_succ]); (try simp only [List.getElem_cons_zero]); (try simp only [Act.put]); (try simp only [List.setIfInBounds_toArray]); (try simp only [List.set_cons_succ]); (try simp only [List.set_cons_zero])))
          (refine wpAnyH_take (i := 8) (v := ?_) rfl (by kernel_rfl) (by kernel_rfl) (by kernel_rfl) (fun _ _ _ h => h) (Or.inl ⟨by rfl, ?_⟩) (by assumption) ?_; rotate_left; (intro w hSw; (try dsimp only at hSw); go_simp; try with_reducible rfl); ((try simp only [List.getElem_toArray]); (try simp only [List.getElem_cons_succ]); (try simp only [List.getElem_cons_zero]); (try simp only [Act.put]); (try simp only [List.setIfInBounds_toArray]); (try simp only [List.set_cons_succ]); (try simp only [List.set_cons_zero])))
          refine wpAnyH_done (by kernel_rfl) ?_ _
          go_wp2_with fail
          go_ret
          exact ⟨by rw [HS.out, HNO.out (by first | rfl | exact True.intro)]; rfl, HB.out.drew⟩
        · go_wp2_with fail
          have hS0 : (fun X : World => (X.cell? ⟨b, off + k * 3, none⟩ = some (.string xt) ∧ X.cell? ⟨b, off + k * 3 + 1, none⟩ = some (.bool xd) ∧ X.cell? ⟨b, off + k * 3 + 2, none⟩ = some (.string xk)) ∧ X.cell? ⟨b', off' + k * 3, none⟩ = some (.string yt) ∧ X.cell? ⟨b', off' + k * 3 + 1, none⟩ = some (.bool yd) ∧ X.cell? ⟨b', off' + k * 3 + 2, none⟩ = some (.string yk)) wr.drew := ⟨⟨x0, x1, x2⟩, y0, y1, y2⟩
          refine wp_region_held_drew (S := (fun X : World => (X.cell? ⟨b, off + k * 3, none⟩ = some (.string xt) ∧ X.cell? ⟨b, off + k * 3 + 1, none⟩ = some (.bool xd) ∧ X.cell? ⟨b, off + k * 3 + 2, none⟩ = some (.string xk)) ∧ X.cell? ⟨b', off' + k * 3, none⟩ = some (.string yt) ∧ X.cell? ⟨b', off' + k * 3 + 1, none⟩ = some (.bool yd) ∧ X.cell? ⟨b', off' + k * 3 + 2, none⟩ = some (.string yk))) (by kernel_rfl) hS0 (fun _ => ?_)
          (refine wpAnyH_take (i := 0) (v := ?_) rfl (by kernel_rfl) (by kernel_rfl) (by kernel_rfl) (fun _ _ _ h => h) (Or.inl ⟨by rfl, ?_⟩) (by assumption) ?_; rotate_left; (intro w hSw; (try dsimp only at hSw); go_simp; try with_reducible rfl); ((try simp only [List.getElem_toArray]); (try simp only [List.getElem_cons_succ]); (try simp only [List.getElem_cons_zero]); (try simp only [Act.put]); (try simp only [List.setIfInBounds_toArray]); (try simp only [List.set_cons_succ]); (try simp only [List.set_cons_zero])))
          (refine wpAnyH_take (i := 1) (v := ?_) rfl (by kernel_rfl) (by kernel_rfl) (by kernel_rfl) (fun _ _ _ h => h) (Or.inl ⟨by rfl, ?_⟩) (by assumption) ?_; rotate_left; (intro w hSw; (try dsimp only at hSw); go_simp; try with_reducible rfl); ((try simp only [List.getElem_toArray]); (try simp only [List.getElem_cons_succ]); (try simp only [List.getElem_cons_zero]); (try simp only [Act.put]); (try simp only [List.setIfInBounds_toArray]); (try simp only [List.set_cons_succ]); (try simp only [List.set_cons_zero])))
          (refine wpAnyH_take (i := 2) (v := ?_) rfl (by kernel_rfl) (by kernel_rfl) (by kernel_rfl) (fun _ _ _ h => h) (Or.inl ⟨by rfl, ?_⟩) (by assumption) ?_; rotate_left; (intro w hSw; (try dsimp only at hSw); go_simp; try with_reducible rfl); ((try simp only [List.getElem_toArray]); (try simp only [List.getElem_cons_succ]); (try simp only [List.getElem_cons_zero]); (try simp only [Act.put]); (try simp only [List.setIfInBounds_toArray]); (try simp only [List.set_cons_succ]); (try simp only [List.set_cons_zero])))
          (refine wpAnyH_take (i := 3) (v := ?_) rfl (by kernel_rfl) (by kernel_rfl) (by kernel_rfl) (fun _ _ _ h => h) (Or.inl ⟨by rfl, ?_⟩) (by assumption) ?_; rotate_left; (intro w hSw; (try dsimp only at hSw); go_simp; try with_reducible rfl); ((try simp only [List.getElem_toArray]); (try simp only [List.getElem_cons_succ]); (try simp only [List.getElem_cons_zero]); (try simp only [Act.put]); (try simp only [List.setIfInBounds_toArray]); (try simp only [List.set_cons_succ]); (try simp only [List.set_cons_zero])))
          (refine wpAnyH_take (i := 4) (v := ?_) rfl (by kernel_rfl) (by kernel_rfl) (by kernel_rfl) (fun _ _ _ h => h) (Or.inl ⟨by rfl, ?_⟩) (by assumption) ?_; rotate_left; (intro w hSw; (try dsimp only at hSw); go_simp; try with_reducible rfl); ((try simp only [List.getElem_toArray]); (try simp only [List.getElem_cons_succ]); (try simp only [List.getElem_cons_zero]); (try simp only [Act.put]); (try simp only [List.setIfInBounds_toArray]); (try simp only [List.set_cons_succ]); (try simp only [List.set_cons_zero])))
          (refine wpAnyH_take (i := 5) (v := ?_) rfl (by kernel_rfl) (by kernel_rfl) (by kernel_rfl) (fun _ _ _ h => h) (Or.inl ⟨by rfl, ?_⟩) (by assumption) ?_; rotate_left; (intro w hSw; (try dsimp only at hSw); go_simp; try with_reducible rfl); ((try simp only [List.getElem_toArray]); (try simp only [List.getElem_cons_succ]); (try simp only [List.getElem_cons_zero]); (try simp only [Act.put]); (try simp only [List.setIfInBounds_toArray]); (try simp only [List.set_cons_succ]); (try simp only [List.set_cons_zero])))
          (refine wpAnyH_take (i := 6) (v := ?_) rfl (by kernel_rfl) (by kernel_rfl) (by kernel_rfl) (fun _ _ _ h => h) (Or.inl ⟨by rfl, ?_⟩) (by assumption) ?_; rotate_left; (intro w hSw; (try dsimp only at hSw); go_simp; try with_reducible rfl); ((try simp only [List.getElem_toArray]); (try simp only [List.getElem_cons_succ]); (try simp only [List.getElem_cons_zero]); (try simp only [Act.put]); (try simp only [List.setIfInBounds_toArray]); (try simp only [List.set_cons_succ]); (try simp only [List.set_cons_zero])))
          (refine wpAnyH_take (i := 7) (v := ?_) rfl (by kernel_rfl) (by kernel_rfl) (by kernel_rfl) (fun _ _ _ h => h) (Or.inl ⟨by rfl, ?_⟩) (by assumption) ?_; rotate_left; (intro w hSw; (try dsimp only at hSw); go_simp; try with_reducible rfl); ((try simp only [List.getElem_toArray]); (try simp only [List.getElem_cons_succ]); (try simp only [List.getElem_cons_zero]); (try simp only [Act.put]); (try simp only [List.setIfInBounds_toArray]); (try simp only [List.set_cons_succ]); (try simp only [List.set_cons_zero])))
          (refine wpAnyH_take (i := 8) (v := ?_) rfl (by kernel_rfl) (by kernel_rfl) (by kernel_rfl) (fun _ _ _ h => h) (Or.inl ⟨by rfl, ?_⟩) (by assumption) ?_; rotate_left; (intro w hSw; (try dsimp only at hSw); go_simp; try with_reducible rfl); ((try simp only [List.getElem_toArray]); (try simp only [List.getElem_cons_succ]); (try simp only [List.getElem_cons_zero]); (try simp only [Act.put]); (try simp only [List.setIfInBounds_toArray]); (try simp only [List.set_cons_succ]); (try simp only [List.set_cons_zero])))
          refine wpAnyH_done (by kernel_rfl) ?_ _
          go_wp2_with fail
          go_roundw
          case rel => exact ⟨k + 1, by omega, by go_num, by show _ = _; rw [HOK.out, HT.out]; rfl, HB.out.drew⟩
          case measure => simp [intOf]; omega
      · obtain rfl : k = n := by omega
        go_wp2_with fail
        go_ret
        exact ⟨by rw [HS.out, HT.out]; rfl, HB⟩
  · rw [decide_eq_false he, Bool.false_and] at HS
    have hz : ¬ ((n : Int) = (n' : Int)) := by omega
    go_enter Tryd.func50, Tryd.ntmps50
    go_wp2_with fail
    go_ret
    exact ⟨by rw [HS.out]; rfl, Below.refl _ _⟩
theorem ptbox2 {w : World} {x y z x' y' z' : Int} {A A' : Option Addr} {n c n' c' : Nat} : Hid (Has ((w.alloc (.cells #[.int .i64 x, .int .i64 y, .int .i64 z, .slice A n c] 43)).alloc (.cells #[.int .i64 x', .int .i64 y', .int .i64 z', .slice A' n' c'] 43)) w.heap.size 43 #[.int .i64 x, .int .i64 y, .int .i64 z, .slice A n c]) ∧ Hid (Has ((w.alloc (.cells #[.int .i64 x, .int .i64 y, .int .i64 z, .slice A n c] 43)).alloc (.cells #[.int .i64 x', .int .i64 y', .int .i64 z', .slice A' n' c'] 43)) (w.heap.size + 1) 43 #[.int .i64 x', .int .i64 y', .int .i64 z', .slice A' n' c']) ∧ Below w.heap.size w ((w.alloc (.cells #[.int .i64 x, .int .i64 y, .int .i64 z, .slice A n c] 43)).alloc (.cells #[.int .i64 x', .int .i64 y', .int .i64 z', .slice A' n' c'] 43)) := by
  refine ⟨(Has.new w 43 _).alloc _, ?_, ((Below.refl _ w).alloc (Nat.le_refl _) _).alloc (by simp) _⟩
  have h := Has.new (w.alloc (.cells #[.int .i64 x, .int .i64 y, .int .i64 z, .slice A n c] 43)) 43 #[.int .i64 x', .int .i64 y', .int .i64 z', .slice A' n' c']
  rw [show (w.alloc (.cells #[.int .i64 x, .int .i64 y, .int .i64 z, .slice A n c] 43)).heap.size = w.heap.size + 1 by simp] at h
  exact h
set_option maxHeartbeats 4000000 in
theorem psame_pt {B B' : Nat} {A A' : Option Addr} {n c n' c' : Nat} {T : List Wk} (x y z : Int) (w : World) (h : OwnW B w (.slice A n c) T) (h' : OwnW B' w (.slice A' n' c') T) (hl : T.length ≤ 1000) :
    Calls Tryd.prog 18 #[.agg #[.int .i64 x, .int .i64 y, .int .i64 z, .slice A n c], .agg #[.int .i64 x, .int .i64 y, .int .i64 z, .slice A' n' c']] w fun e w' => e = .returned (.bool true) ∧ Hid (Below w.heap.size w w') := by
  obtain ⟨H1, H2, hb⟩ := ptbox2 (w := w) (x := x) (y := y) (z := z) (x' := x) (y' := y) (z' := z) (A := A) (n := n) (c := c) (A' := A') (n' := n') (c' := c')
  have HE := Lib.hid (eqlW_any _ (h.below hb) (h'.below hb) hl)
  rw [sameW_self] at HE
  have HB := Lib.hid hb
  clear h h' hb
  go_enter Tryd.func18, Tryd.ntmps18
  have a0 := H1.out.cell 0
  have a1 := H1.out.cell 1
  have a2 := H1.out.cell 2
  have a3 := H1.out.cell 3
  have b0 := H2.out.cell 0
  have b1 := H2.out.cell 1
  have b2 := H2.out.cell 2
  have b3 := H2.out.cell 3
  simp at a0 a1 a2 a3 b0 b1 b2 b3
  go_wp2_with fail
  refine HE.out.mono ?_
  rintro e w1 ⟨rfl, hb1⟩
  have HB1 := Lib.hid (HB.out.trans (hb1.out.mono HB.out.size))
  go_wp2_with fail
  go_ret
  exact ⟨rfl, HB1⟩
set_option maxHeartbeats 4000000 in
theorem rsame_pt {B B' : Nat} {A A' : Option Addr} {n c n' c' : Nat} {T : List Wk} (x y z : Int) (w : World) (h : OwnW B w (.slice A n c) T) (h' : OwnW B' w (.slice A' n' c') T) (hl : T.length ≤ 1000) :
    Calls Tryd.prog 19 #[.agg #[.int .i64 x, .int .i64 y, .int .i64 z, .slice A n c], .agg #[.int .i64 x, .int .i64 y, .int .i64 z, .slice A' n' c']] w fun e w' => e = .returned (.bool true) ∧ Hid (Below w.heap.size w w') := by
  obtain ⟨H1, H2, hb⟩ := ptbox2 (w := w) (x := x) (y := y) (z := z) (x' := x) (y' := y) (z' := z) (A := A) (n := n) (c := c) (A' := A') (n' := n') (c' := c')
  have HE := Lib.hid (sameW_any _ (h.below hb) (h'.below hb) hl)
  rw [sameW_self] at HE
  have HB := Lib.hid hb
  clear h h' hb
  go_enter Tryd.func19, Tryd.ntmps19
  have a3 := H1.out.cell 3
  have b3 := H2.out.cell 3
  simp at a3 b3
  go_wp2_with fail
  refine HE.out.mono ?_
  rintro e w1 ⟨rfl, hb1⟩
  have HB1 := Lib.hid (HB.out.trans (hb1.out.mono HB.out.size))
  have G1 := Lib.hid (H1.out.below hb1.out H1.out.lt)
  have G2 := Lib.hid (H2.out.below hb1.out H2.out.lt)
  have a0 : w1.cell? ⟨w.heap.size, 0, none⟩ = some (.int .i64 x) := G1.out.cell 0
  have a1 : w1.cell? ⟨w.heap.size, 1, none⟩ = some (.int .i64 y) := G1.out.cell 1
  have a2 : w1.cell? ⟨w.heap.size, 2, none⟩ = some (.int .i64 z) := G1.out.cell 2
  have b0 : w1.cell? ⟨w.heap.size + 1, 0, none⟩ = some (.int .i64 x) := G2.out.cell 0
  have b1 : w1.cell? ⟨w.heap.size + 1, 1, none⟩ = some (.int .i64 y) := G2.out.cell 1
  have b2 : w1.cell? ⟨w.heap.size + 1, 2, none⟩ = some (.int .i64 z) := G2.out.cell 2
  clear a3 b3 hb1 HE
  go_wp2_with fail
  go_ret
  exact ⟨rfl, HB1⟩
end Go.Proofs.YtjkmbggaoinkdaaDoor
namespace Go.Proofs.YtjkmbggaoinkdaaDoor
open Go.RowKit Dg
set_option maxRecDepth 100000
set_option maxHeartbeats 400000 in
theorem NumberD_get {D : Nat} (g : Nat) (l : List Nat) (e : Nat) (w : World) (h : RdrD D w g l e) (hl : ∀ x ∈ l, x < 256) (hb : l.length ≤ 1000000) :
    Calls Tryd.prog 45 #[.pointer (some ⟨g, 0, none⟩)] w (StepD D w g (.int .i64 ((numF 9223372036854775807 l e).1 : Int)) (numF 9223372036854775807 l e).2.1 (numF 9223372036854775807 l e).2.2) := by
  have hc := numberD_any g l e w 9223372036854775807 h hl hb
  have hle := numF_le 9223372036854775807 l e
  generalize numF 9223372036854775807 l e = R at *
  obtain ⟨r1, r2, r3⟩ := R
  simp only at hle hc ⊢
  have HC := Lib.hid hc
  clear hc h
  go_enter Tryd.func45, Tryd.ntmps45
  go_wp2_with fail
  refine HC.out.mono ?_
  rintro x w1 ⟨rfl, hd, hg⟩
  have HD := Lib.hid hd
  have HG := Lib.hid hg
  clear hd hg
  go_wp2_with fail
  go_ret
  exact ⟨rfl, HD.out, HG.out⟩
/-- A number that was written is read. -/
theorem numD_put {D : Nat} (g n : Nat) (rest : List Nat) (w : World) (h : RdrD D w g (digs n ++ rest) 0) (hn : n ≤ 9223372036854775807) (hl : ∀ x ∈ digs n ++ rest, x < 256) (hb : (digs n ++ rest).length ≤ 1000000) :
    Calls Tryd.prog 45 #[.pointer (some ⟨g, 0, none⟩)] w fun x w' => x = .returned (.int .i64 (n : Int)) ∧ Hid (RdrD D w' g rest 0) ∧ Hid (w.grownBy w' (some g)) := by
  refine (NumberD_get g _ 0 w h hl hb).mono ?_
  rintro x w' ⟨rfl, h1, h2⟩
  rw [numF_whole 9223372036854775807 n rest (by omega) hn] at h1 ⊢
  exact ⟨rfl, h1, h2⟩
end Go.Proofs.YtjkmbggaoinkdaaDoor
namespace Go.Proofs.YtjkmbggaoinkdaaDoor
open Go.RowKit Dg
set_option maxRecDepth 100000
theorem textF_gen (most : Int) (s : ByteArray) (hs : s.size ≤ 900) (hm : (s.size : Int) ≤ most) (rest : List Nat) : textF most (txt s ++ rest) 0 = (sb s, rest, 0) := by
  have hn : s.size < 18446744073709551616 := by omega
  unfold textF txt
  rw [if_neg (by simp), List.append_assoc, head_whole _ s.size _ hn (by omega)]
  simp only
  rw [if_neg (by simp), if_neg (by omega), if_neg]
  · have h1 : (digs s.size ++ (sb s ++ rest)).drop (digs s.size).length = sb s ++ rest := List.drop_left
    rw [← List.drop_drop, h1]
    have h2 : (sb s ++ rest).take s.size = sb s := by rw [← sb_length s]; exact List.take_left
    have h3 : (sb s ++ rest).drop s.size = rest := by rw [← sb_length s]; exact List.drop_left
    rw [h2, h3]
  · rw [List.length_append, List.length_append, sb_length]
    omega
/-- A text that was written is read. -/
theorem txtD_put {D : Nat} (g : Nat) (most : Int) (s : ByteArray) (rest : List Nat) (w : World) (h : RdrD D w g (txt s ++ rest) 0) (hs : s.size ≤ 900) (hm : (s.size : Int) ≤ most) (hl : ∀ x ∈ txt s ++ rest, x < 256) (hb : (txt s ++ rest).length ≤ 1000000) :
    Calls Tryd.prog 84 #[.pointer (some ⟨g, 0, none⟩), .int .i64 most] w fun x w' => x = .returned (.string s) ∧ Hid (RdrD D w' g rest 0) ∧ Hid (w.grownBy w' (some g)) := by
  refine (TextD_get g _ 0 w most h hl hb).mono ?_
  rintro x w' ⟨rfl, h1, h2⟩
  rw [textF_gen most s hs hm rest] at h1 ⊢
  exact ⟨by rw [bs_sb], h1, h2⟩
theorem byteD_put {D : Nat} (g y : Nat) (rest : List Nat) (w : World) (h : RdrD D w g (y :: rest) 0) (hl : ∀ x ∈ y :: rest, x < 256) (hb : (y :: rest).length ≤ 1000000) :
    Calls Tryd.prog 85 #[.pointer (some ⟨g, 0, none⟩)] w fun x w' => x = .returned (.int .i64 (y : Int)) ∧ Hid (RdrD D w' g rest 0) ∧ Hid (w.grownBy w' (some g)) := by
  refine (ByteD_get g _ 0 w h hl hb).mono ?_
  rintro x w' ⟨rfl, h1, h2⟩
  exact ⟨rfl, h1, h2⟩
theorem Has.grn {w w' : World} {g g' : Nat} {t : TypeId} {cs : Array Value} (h : Has w g' t cs) (hg : w.grownBy w' (some g)) (hne : g' ≠ g) : Has w' g' t cs :=
  (hg.block g' h.lt (fun e => hne (Option.some.inj e))).trans h
theorem RdrD.al {D : Nat} {w : World} {g : Nat} {l : List Nat} {e : Nat} (h : RdrD D w g l e) (hg : g < D) (hD : D ≤ w.heap.size) (o : Obj) : RdrD D (w.alloc o) g l e := h.keep hg ((Below.refl D w).alloc hD o)
theorem grn_set {w x : World} {g : Nat} (h : w.grownBy x (some g)) {p : Addr} (hp : w.heap.size ≤ p.block) (u : Value) : w.grownBy (x.setCell p u) (some g) :=
  ⟨h.os, h.tape, h.output, by rw [size_set]; exact h.size, fun b hb hne => by
    have := h.block b hb hne
    rw [← this]
    exact (Below.heap_setCell x p u b (by omega))⟩
theorem grn_below {w x y : World} {g : Nat} (h : w.grownBy x (some g)) (hb : Below x.heap.size x y) : w.grownBy y (some g) :=
  ⟨hb.os.trans h.os, hb.tape.trans h.tape, hb.output.trans h.output, Nat.le_trans h.size hb.size, fun b hlt hne => (hb.block b (Nat.lt_of_lt_of_le hlt h.size)).trans (h.block b hlt hne)⟩
end Go.Proofs.YtjkmbggaoinkdaaDoor
namespace Go.Proofs.YtjkmbggaoinkdaaDoor
open Go.RowKit Dg
set_option maxRecDepth 100000
set_option maxHeartbeats 16000000 in
theorem pwork_any {D : Nat} (g : Nat) (t k : ByteArray) (d : Bool) (rest : List Nat) (w : World) (h : RdrD D w g (wkB ⟨t, d, k⟩ ++ rest) 0) (hg : g < D) (hD : D ≤ w.heap.size) (ht : t.size ≤ 32) (hk : k.size ≤ 900) (hl : ∀ x ∈ wkB ⟨t, d, k⟩ ++ rest, x < 256) (hb : (wkB ⟨t, d, k⟩ ++ rest).length ≤ 1000000) :
    Calls Tryd.prog 46 #[.pointer (some ⟨g, 0, none⟩)] w fun e w' => e = .returned (.tuple #[.agg #[.string t, .bool d, .string k], .bool true]) ∧ Hid (RdrD D w' g rest 0) ∧ Hid (w.grownBy w' (some g)) := by
  have hwk : wkB ⟨t, d, k⟩ ++ rest = txt t ++ ((if d then 1 else 0) :: (txt k ++ rest)) := by
    unfold wkB
    simp
  rw [hwk] at h hl hb
  obtain ⟨y, hy⟩ : ∃ y : Nat, (if d then 1 else 0) = y := ⟨_, rfl⟩
  rw [hy] at h hl hb
  have hl1 : ∀ x ∈ y :: (txt k ++ rest), x < 256 := fun x hx => hl x (List.mem_append_right _ hx)
  have hl2 : ∀ x ∈ txt k ++ rest, x < 256 := fun x hx => hl1 x (List.mem_cons_of_mem _ hx)
  have hb1 : (y :: (txt k ++ rest)).length ≤ 1000000 := by rw [List.length_append] at hb; omega
  have hb2 : (txt k ++ rest).length ≤ 1000000 := by rw [List.length_cons] at hb1; omega
  have HT1 := Lib.hid (fun W (hr : RdrD D W g (txt t ++ (y :: (txt k ++ rest))) 0) => txtD_put g 32 t (y :: (txt k ++ rest)) W hr (by omega) (by omega) hl hb)
  have HY := Lib.hid (fun W (hr : RdrD D W g (y :: (txt k ++ rest)) 0) => byteD_put g y (txt k ++ rest) W hr hl1 hb1)
  have HT2 := Lib.hid (fun W (hr : RdrD D W g (txt k ++ rest) 0) => txtD_put g 9223372036854775807 k rest W hr hk (by omega) hl2 hb2)
  have HR1 := Lib.hid (h.al hg hD (.cells #[.string ⟨#[]⟩, .bool false, .string ⟨#[]⟩] 75))
  have HQ1 := Lib.hid (Has.new w 75 #[.string ⟨#[]⟩, .bool false, .string ⟨#[]⟩])
  have HG1 := Lib.hid (grn_below (grown_refl w g) ((Below.refl w.heap.size w).alloc (Nat.le_refl _) (.cells #[.string ⟨#[]⟩, .bool false, .string ⟨#[]⟩] 75)))
  obtain ⟨q1, hq1⟩ : ∃ q, w.heap.size = q := ⟨_, rfl⟩
  have hgq : g < q1 := by omega
  clear h hwk hl hb hl1 hl2 hb1 hb2
  go_enter Tryd.func46, Tryd.ntmps46
  go_wp2_with fail
  obtain ⟨W1, hW1⟩ : ∃ W, W = w.alloc (.cells #[.string ⟨#[]⟩, .bool false, .string ⟨#[]⟩] 75) := ⟨_, rfl⟩
  rw [← hW1] at HR1 HQ1 HG1 ⊢
  have hs1 : q1 < W1.heap.size := by rw [hW1, ← hq1]; simp
  rw [hq1] at HQ1
  clear hW1
  refine (HT1.out _ HR1.out).mono ?_
  rintro e w2 ⟨rfl, hr2, hg2⟩
  have HQ2 := Lib.hid (HQ1.out.grn hg2.out (by omega))
  have HG2 := Lib.hid (grown_trans HG1.out hg2.out)
  have hs2 : q1 < w2.heap.size := Nat.lt_of_lt_of_le hs1 hg2.out.size
  have HR3 := Lib.hid (hr2.out.al hg (by omega) (.cells #[.string t, .bool false, .string ⟨#[]⟩] 75))
  have HB3 := Lib.hid (Has.new w2 75 #[.string t, .bool false, .string ⟨#[]⟩])
  have hbw : Below w2.heap.size w2 (w2.alloc (.cells #[.string t, .bool false, .string ⟨#[]⟩] 75)) := (Below.refl _ w2).alloc (Nat.le_refl _) _
  have HQ3 := Lib.hid (HQ2.out.below hbw HQ2.out.lt)
  have HG3 := Lib.hid (grn_below HG2.out hbw)
  have hs3 : w2.heap.size < (w2.alloc (.cells #[.string t, .bool false, .string ⟨#[]⟩] 75)).heap.size := by simp
  clear hr2 hg2 hbw HR1 HQ1 HG1 HQ2 HG2 HT1
  go_wp2_with fail
  obtain ⟨W3, hW3⟩ : ∃ W, W = w2.alloc (.cells #[.string t, .bool false, .string ⟨#[]⟩] 75) := ⟨_, rfl⟩
  rw [← hW3] at HR3 HB3 HQ3 HG3 hs3 ⊢
  clear hW3
  generalize w2.heap.size = q2 at *
  refine (HY.out _ HR3.out).mono ?_
  rintro e w4 ⟨rfl, hr4, hg4⟩
  have HB4 := Lib.hid (HB3.out.grn hg4.out (by omega))
  have HQ4 := Lib.hid (HQ3.out.grn hg4.out (by omega))
  have HG4 := Lib.hid (grown_trans HG3.out hg4.out)
  have hs4 : q2 < w4.heap.size := Nat.lt_of_lt_of_le hs3 hg4.out.size
  have HR4 := hr4
  clear hr4 hg4 HR3 HB3 HQ3 HG3 HY
  have c1 : w4.cell? ⟨q2, 1, none⟩ = some (.bool false) := HB4.out.cell 1
  have f1 : w4.frozen? ⟨q2, 1, none⟩ = false := HB4.out.free 1
  have hyd : ((y : Int) == 1) = d := by rw [← hy]; cases d <;> rfl
  have hyl : (y : Int) ≤ 1 := by rw [← hy]; cases d <;> simp
  have HB5 : Hid (Has (w4.setCell ⟨q2, 1, none⟩ (.bool d)) q2 75 #[.string t, .bool d, .string ⟨#[]⟩]) := HB4.out.put 1 _
  have HQ5 := Lib.hid (HQ4.out.far (p := ⟨q2, 1, none⟩) (by show q1 ≠ q2; omega) (.bool d))
  have HG5 := Lib.hid (grn_set HG4.out (p := ⟨q2, 1, none⟩) (by show w.heap.size ≤ q2; omega) (.bool d))
  have HR5 := Lib.hid (HR4.out.keep hg ((Below.refl D w4).setCell (p := ⟨q2, 1, none⟩) (by show D ≤ q2; omega) (.bool d)))
  have hs5 : q2 < (w4.setCell ⟨q2, 1, none⟩ (.bool d)).heap.size := by rw [size_set]; exact hs4
  clear HB4 HQ4 HG4 HR4 hs4 hy
  go_wp2_with fail
  obtain ⟨W5, hW5⟩ : ∃ W, W = w4.setCell ⟨q2, 1, none⟩ (.bool d) := ⟨_, rfl⟩
  rw [← hW5] at HB5 HQ5 HG5 HR5 hs5 ⊢
  clear hW5 c1 f1
  refine (HT2.out _ HR5.out).mono ?_
  rintro e w6 ⟨rfl, hr6, hg6⟩
  have HB6 := Lib.hid (HB5.out.grn hg6.out (by omega))
  have HQ6 := Lib.hid (HQ5.out.grn hg6.out (by omega))
  have HG6 := Lib.hid (grown_trans HG5.out hg6.out)
  have HR6 := hr6
  clear hr6 hg6 HB5 HQ5 HG5 HR5 HT2
  have c2 : w6.cell? ⟨q2, 2, none⟩ = some (.string ⟨#[]⟩) := HB6.out.cell 2
  have f2 : w6.frozen? ⟨q2, 2, none⟩ = false := HB6.out.free 2
  have HB7 : Hid (Has (w6.setCell ⟨q2, 2, none⟩ (.string k)) q2 75 #[.string t, .bool d, .string k]) := HB6.out.put 2 _
  have HQ7 := Lib.hid (HQ6.out.far (p := ⟨q2, 2, none⟩) (by show q1 ≠ q2; omega) (.string k))
  have HG7 := Lib.hid (grn_set HG6.out (p := ⟨q2, 2, none⟩) (by show w.heap.size ≤ q2; omega) (.string k))
  have HR7 := Lib.hid (HR6.out.keep hg ((Below.refl D w6).setCell (p := ⟨q2, 2, none⟩) (by show D ≤ q2; omega) (.string k)))
  clear HB6 HQ6 HG6 HR6
  go_wp2_with fail
  obtain ⟨W7, hW7⟩ : ∃ W, W = w6.setCell ⟨q2, 2, none⟩ (.string k) := ⟨_, rfl⟩
  rw [← hW7] at HB7 HQ7 HG7 HR7 ⊢
  clear hW7 c2 f2
  have HE := Lib.hid (fun W (hr : RdrD D W g rest 0) => Errno_get g rest 0 W hr.rdr)
  have hb8 : Below W7.heap.size W7 W7.drew := (Below.refl _ W7).drew
  have HB8 := Lib.hid (HB7.out.drew)
  have HQ8 := Lib.hid (HQ7.out.drew)
  have HG8 := Lib.hid (grn_below HG7.out hb8)
  have HR8 := Lib.hid (HR7.out.keep hg ((Below.refl D W7).drew))
  obtain ⟨W8, hW8⟩ : ∃ W, W = W7.drew := ⟨_, rfl⟩
  have hS0 : (fun X : World => X.cell? ⟨q2, 0, none⟩ = some (.string t) ∧ X.cell? ⟨q2, 1, none⟩ = some (.bool d) ∧ X.cell? ⟨q2, 2, none⟩ = some (.string k)) W7.drew := ⟨HB8.out.cell 0, HB8.out.cell 1, HB8.out.cell 2⟩
  have r0 : W7.drew.cell? ⟨q1, 0, none⟩ = some (.string ⟨#[]⟩) := HQ8.out.cell 0
  have r1 : W7.drew.cell? ⟨q1, 1, none⟩ = some (.bool false) := HQ8.out.cell 1
  have r2 : W7.drew.cell? ⟨q1, 2, none⟩ = some (.string ⟨#[]⟩) := HQ8.out.cell 2
  have t0 : W7.drew.frozen? ⟨q1, 0, none⟩ = false := HQ8.out.free 0
  have t1 : W7.drew.frozen? ⟨q1, 1, none⟩ = false := HQ8.out.free 1
  have t2 : W7.drew.frozen? ⟨q1, 2, none⟩ = false := HQ8.out.free 2
  have r1' : W7.cell? ⟨q1, 1, none⟩ = some (.bool false) := HQ7.out.cell 1
  have r2' : W7.cell? ⟨q1, 2, none⟩ = some (.string ⟨#[]⟩) := HQ7.out.cell 2
  have t1' : W7.frozen? ⟨q1, 1, none⟩ = false := HQ7.out.free 1
  have t2' : W7.frozen? ⟨q1, 2, none⟩ = false := HQ7.out.free 2
  have HP := Lib.hid (hput3 HQ8.out (.string t) (.bool d) (.string k))
  have HBf := Lib.hid (((HB8.out.far (p := ⟨q1, 0, none⟩) (by show q2 ≠ q1; omega) (.string t)).far (p := ⟨q1, 1, none⟩) (by show q2 ≠ q1; omega) (.bool d)).far (p := ⟨q1, 2, none⟩) (by show q2 ≠ q1; omega) (.string k))
  have HGf := Lib.hid (grn_set (grn_set (grn_set HG8.out (p := ⟨q1, 0, none⟩) (by show w.heap.size ≤ q1; omega) (.string t)) (p := ⟨q1, 1, none⟩) (by show w.heap.size ≤ q1; omega) (.bool d)) (p := ⟨q1, 2, none⟩) (by show w.heap.size ≤ q1; omega) (.string k))
  have HRf := Lib.hid (HR8.out.keep hg ((((Below.refl D W7.drew).setCell (p := ⟨q1, 0, none⟩) (by show D ≤ q1; omega) (.string t)).setCell (p := ⟨q1, 1, none⟩) (by show D ≤ q1; omega) (.bool d)).setCell (p := ⟨q1, 2, none⟩) (by show D ≤ q1; omega) (.string k)))
  have hSf : (fun X : World => X.cell? ⟨q2, 0, none⟩ = some (.string t) ∧ X.cell? ⟨q2, 1, none⟩ = some (.bool d) ∧ X.cell? ⟨q2, 2, none⟩ = some (.string k)) (((W7.drew.setCell ⟨q1, 0, none⟩ (.string t)).setCell ⟨q1, 1, none⟩ (.bool d)).setCell ⟨q1, 2, none⟩ (.string k)) := ⟨HBf.out.cell 0, HBf.out.cell 1, HBf.out.cell 2⟩
  clear hW8
  refine wp_region_held_drew (S := (fun X : World => X.cell? ⟨q2, 0, none⟩ = some (.string t) ∧ X.cell? ⟨q2, 1, none⟩ = some (.bool d) ∧ X.cell? ⟨q2, 2, none⟩ = some (.string k))) (by kernel_rfl) hS0 (fun _ => ?_)
  (refine wpAnyH_take (i := 0) (v := ?_) rfl (by kernel_rfl) (by kernel_rfl) (by kernel_rfl) (fun _ _ _ h => h) (Or.inl ⟨by rfl, ?_⟩) (by assumption) ?_; rotate_left; (intro w hSw; (try dsimp only at hSw); go_simp; try with_reducible rfl); ((try simp only [List.getElem_toArray]); (try simp only [List.getElem_cons_succ]); (try simp only [List.getElem_cons_zero]); (try simp only [Act.put]); (try simp only [List.setIfInBounds_toArray]); (try simp only [List.set_cons_succ]); (try simp only [List.set_cons_zero])))
  (refine wpAnyH_take (i := 1) (v := ?_) rfl (by kernel_rfl) (by kernel_rfl) (by kernel_rfl) (fun _ _ _ h => h) (Or.inl ⟨by rfl, ?_⟩) (by assumption) ?_; rotate_left; (intro w hSw; (try dsimp only at hSw); go_simp; try with_reducible rfl); ((try simp only [List.getElem_toArray]); (try simp only [List.getElem_cons_succ]); (try simp only [List.getElem_cons_zero]); (try simp only [Act.put]); (try simp only [List.setIfInBounds_toArray]); (try simp only [List.set_cons_succ]); (try simp only [List.set_cons_zero])))
  (refine wpAnyH_take (i := 2) (v := ?_) rfl (by kernel_rfl) (by kernel_rfl) (by kernel_rfl) (fun _ _ _ h => h) (Or.inl ⟨by rfl, ?_⟩) (by assumption) ?_; rotate_left; (intro w hSw; (try dsimp only at hSw); go_simp; try with_reducible rfl); ((try simp only [List.getElem_toArray]); (try simp only [List.getElem_cons_succ]); (try simp only [List.getElem_cons_zero]); (try simp only [Act.put]); (try simp only [List.setIfInBounds_toArray]); (try simp only [List.set_cons_succ]); (try simp only [List.set_cons_zero])))
  (refine wpAnyH_take (i := 3) (v := ?_) rfl (by kernel_rfl) (by kernel_rfl) (by kernel_rfl) (fun _ _ _ h => h) (Or.inl ⟨by rfl, ?_⟩) (by assumption) ?_; rotate_left; (intro w hSw; (try dsimp only at hSw); go_simp; try with_reducible rfl); ((try simp only [List.getElem_toArray]); (try simp only [List.getElem_cons_succ]); (try simp only [List.getElem_cons_zero]); (try simp only [Act.put]); (try simp only [List.setIfInBounds_toArray]); (try simp only [List.set_cons_succ]); (try simp only [List.set_cons_zero])))
  (refine wpAnyH_take (i := 4) (v := ?_) rfl (by kernel_rfl) (by kernel_rfl) (by kernel_rfl) (fun _ _ _ h => h) (Or.inl ⟨by rfl, ?_⟩) (by assumption) ?_; rotate_left; (intro w hSw; (try dsimp only at hSw); go_simp; try with_reducible rfl); ((try simp only [List.getElem_toArray]); (try simp only [List.getElem_cons_succ]); (try simp only [List.getElem_cons_zero]); (try simp only [Act.put]); (try simp only [List.setIfInBounds_toArray]); (try simp only [List.set_cons_succ]); (try simp only [List.set_cons_zero])))
  refine wpAnyH_ready (rs := [5]) (by kernel_rfl) (by simp) ?_
  refine AllReadyH.cons rfl (fun K2 hK2 => ?_) AllReadyH.nil
  go_simp
  refine (HE.out _ HR8.out).mono ?_
  rintro e x5 ⟨rfl, rfl⟩
  go_wp2_with fail
  refine hK2.out _ _ (by (try dsimp only); exact hS0) (fun _ => ?_)
  clear hK2 K2
  (try simp only [List.getElem_toArray]); (try simp only [List.getElem_cons_succ]); (try simp only [List.getElem_cons_zero]); (try simp only [Act.put]); (try simp only [List.setIfInBounds_toArray]); (try simp only [List.set_cons_succ]); (try simp only [List.set_cons_zero])
  (refine wpAnyH_take (i := 6) (v := ?_) rfl (by kernel_rfl) (by kernel_rfl) (by kernel_rfl) (fun _ _ _ h => h) (Or.inl ⟨by rfl, ?_⟩) (by assumption) ?_; rotate_left; (intro w hSw; (try dsimp only at hSw); go_simp; try with_reducible rfl); ((try simp only [List.getElem_toArray]); (try simp only [List.getElem_cons_succ]); (try simp only [List.getElem_cons_zero]); (try simp only [Act.put]); (try simp only [List.setIfInBounds_toArray]); (try simp only [List.set_cons_succ]); (try simp only [List.set_cons_zero])))
  (refine wpAnyH_take (i := 7) (v := ?_) rfl (by kernel_rfl) (by kernel_rfl) (by kernel_rfl) (fun _ _ _ h => h) (Or.inl ⟨by rfl, ?_⟩) (by assumption) ?_; rotate_left; (intro w hSw; (try dsimp only at hSw); go_simp; try with_reducible rfl); ((try simp only [List.getElem_toArray]); (try simp only [List.getElem_cons_succ]); (try simp only [List.getElem_cons_zero]); (try simp only [Act.put]); (try simp only [List.setIfInBounds_toArray]); (try simp only [List.set_cons_succ]); (try simp only [List.set_cons_zero])))
  refine wpAnyH_ready (rs := [8]) (by kernel_rfl) (by simp) ?_
  refine AllReadyH.cons rfl (fun K2 hK2 => ?_) AllReadyH.nil
  go_simp
  refine hK2.out _ _ (by (try dsimp only); exact hSf) (fun _ => ?_)
  clear hK2 K2
  (try simp only [List.getElem_toArray]); (try simp only [List.getElem_cons_succ]); (try simp only [List.getElem_cons_zero]); (try simp only [Act.put]); (try simp only [List.setIfInBounds_toArray]); (try simp only [List.set_cons_succ]); (try simp only [List.set_cons_zero])
  (refine wpAnyH_take (i := 9) (v := ?_) rfl (by kernel_rfl) (by kernel_rfl) (by kernel_rfl) (fun _ _ _ h => h) (Or.inl ⟨by rfl, ?_⟩) (by assumption) ?_; rotate_left; (intro w hSw; (try dsimp only at hSw); go_simp; try with_reducible rfl); ((try simp only [List.getElem_toArray]); (try simp only [List.getElem_cons_succ]); (try simp only [List.getElem_cons_zero]); (try simp only [Act.put]); (try simp only [List.setIfInBounds_toArray]); (try simp only [List.set_cons_succ]); (try simp only [List.set_cons_zero])))
  refine wpAnyH_done (by kernel_rfl) ?_ _
  go_wp2_with fail
  exact bodyPost_ret (wEnd2 rfl _ q1 _ _ _ _ rfl HP.out) rfl ⟨rfl, HRf, HGf⟩
end Go.Proofs.YtjkmbggaoinkdaaDoor
