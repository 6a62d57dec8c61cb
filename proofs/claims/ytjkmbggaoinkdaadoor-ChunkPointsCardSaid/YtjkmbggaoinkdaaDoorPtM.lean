/-
  Which points may be; a point that may be, made of any.
-/
import Derived.Test.YtjkmbggaoinkdaaDoorRRight
import Derived.Test.YtjkmbggaoinkdaaDoorNextW
namespace Go.Proofs.YtjkmbggaoinkdaaDoor
open Go.RowKit Dg
set_option maxRecDepth 100000
/-- May a point be? -/
def ptOk (x y z : Int) (T : List Wk) : Bool := decide (0 ≤ x) && decide (0 ≤ y) && decide (0 ≤ z) && wrightF T
set_option maxHeartbeats 8000000 in
theorem pptmay_any {B : Nat} {A : Option Addr} {n c : Nat} {T : List Wk} (x y z : Int) (w : World) (h : OwnW B w (.slice A n c) T) (hl : T.length ≤ 800) (hf : ∀ x ∈ T, x.t.size ≤ 140737488355328 ∧ x.k.size ≤ 900) (hT : Tabs w) :
    Calls Tryd.prog 39 #[.agg #[.int .i64 x, .int .i64 y, .int .i64 z, .slice A n c]] w fun e w' => e = .returned (.bool (ptOk x y z T)) ∧ Hid (Below w.heap.size w w') := by
  have hb0 : Below w.heap.size w (w.alloc (.cells #[.int .i64 x, .int .i64 y, .int .i64 z, .slice A n c] 43)) := (Below.refl _ w).alloc (Nat.le_refl _) _
  have HR := Lib.hid (pwright_any _ (h.below hb0) hl hf (hT.below hb0))
  have HB := Lib.hid hb0
  have HO : Hid (ptOk x y z T = (decide (0 ≤ x) && decide (0 ≤ y) && decide (0 ≤ z) && wrightF T)) := rfl
  clear h hf hT hb0
  generalize wrightF T = r at *
  generalize ptOk x y z T = q at *
  by_cases h0 : 0 ≤ x
  · by_cases h1 : 0 ≤ y
    · by_cases h2 : 0 ≤ z
      · have HO2 : Hid (q = r) := by show _ = _; rw [HO.out]; simp [h0, h1, h2]
        clear HO
        go_enter Tryd.func39, Tryd.ntmps39
        go_wp2_with fail
        refine HR.out.mono ?_
        rintro e w1 ⟨rfl, hb1⟩
        have HB1 := Lib.hid (HB.out.trans (hb1.out.mono HB.out.size))
        clear hb1
        go_wp2_with fail
        go_ret
        exact ⟨by rw [HO2.out]; rfl, HB1⟩
      · have HO2 : Hid (q = false) := by show _ = _; rw [HO.out]; simp [h2]
        clear HO HR
        go_enter Tryd.func39, Tryd.ntmps39
        go_wp2_with fail
        go_ret
        exact ⟨by rw [HO2.out]; rfl, HB⟩
    · have HO2 : Hid (q = false) := by show _ = _; rw [HO.out]; simp [h1]
      clear HO HR
      go_enter Tryd.func39, Tryd.ntmps39
      go_wp2_with fail
      go_ret
      exact ⟨by rw [HO2.out]; rfl, HB⟩
  · have HO2 : Hid (q = false) := by show _ = _; rw [HO.out]; simp [h0]
    clear HO HR
    go_enter Tryd.func39, Tryd.ntmps39
    go_wp2_with fail
    go_ret
    exact ⟨by rw [HO2.out]; rfl, HB⟩
set_option maxHeartbeats 8000000 in
theorem rptmay_any {B : Nat} {A : Option Addr} {n c : Nat} {T : List Wk} (x y z : Int) (w : World) (h : OwnW B w (.slice A n c) T) (hl : T.length ≤ 800) (hf : ∀ x ∈ T, x.k.size ≤ 64) :
    Calls Tryd.prog 13 #[.agg #[.int .i64 x, .int .i64 y, .int .i64 z, .slice A n c]] w fun e w' => e = .returned (.bool (ptOk x y z T)) ∧ Hid (Below w.heap.size w w') := by
  have hb0 : Below w.heap.size w (w.alloc (.cells #[.int .i64 x, .int .i64 y, .int .i64 z, .slice A n c] 43)) := (Below.refl _ w).alloc (Nat.le_refl _) _
  have HR := Lib.hid (rwright_any _ (h.below hb0) hl hf)
  have HX := Lib.hid (Has.new w 43 #[.int .i64 x, .int .i64 y, .int .i64 z, .slice A n c])
  have HB := Lib.hid hb0
  have HO : Hid (ptOk x y z T = (decide (0 ≤ x) && decide (0 ≤ y) && decide (0 ≤ z) && wrightF T)) := rfl
  clear h hf hb0
  generalize wrightF T = r at *
  generalize ptOk x y z T = q at *
  cases r
  · have HO2 : Hid (q = false) := by show _ = _; rw [HO.out]; simp
    clear HO
    go_enter Tryd.func13, Tryd.ntmps13
    go_wp2_with fail
    refine HR.out.mono ?_
    rintro e w1 ⟨rfl, hb1⟩
    have HB1 := Lib.hid (HB.out.trans (hb1.out.mono HB.out.size))
    have HX1 := Lib.hid (HX.out.below hb1.out HX.out.lt)
    have x0 : w1.cell? ⟨w.heap.size, 0, none⟩ = some (.int .i64 x) := HX1.out.cell 0
    have x1 : w1.cell? ⟨w.heap.size, 1, none⟩ = some (.int .i64 y) := HX1.out.cell 1
    have x2 : w1.cell? ⟨w.heap.size, 2, none⟩ = some (.int .i64 z) := HX1.out.cell 2
    clear hb1 HX HR
    go_wp2_with fail
    go_ret
    exact ⟨by rw [HO2.out]; rfl, HB1⟩
  · by_cases h0 : 0 ≤ x
    · by_cases h1 : 0 ≤ y
      · by_cases h2 : 0 ≤ z
        · have HO2 : Hid (q = true) := by show _ = _; rw [HO.out]; simp [h0, h1, h2]
          clear HO
          go_enter Tryd.func13, Tryd.ntmps13
          go_wp2_with fail
          refine HR.out.mono ?_
          rintro e w1 ⟨rfl, hb1⟩
          have HB1 := Lib.hid (HB.out.trans (hb1.out.mono HB.out.size))
          have HX1 := Lib.hid (HX.out.below hb1.out HX.out.lt)
          have x0 : w1.cell? ⟨w.heap.size, 0, none⟩ = some (.int .i64 x) := HX1.out.cell 0
          have x1 : w1.cell? ⟨w.heap.size, 1, none⟩ = some (.int .i64 y) := HX1.out.cell 1
          have x2 : w1.cell? ⟨w.heap.size, 2, none⟩ = some (.int .i64 z) := HX1.out.cell 2
          clear hb1 HX HR
          go_wp2_with fail
          go_ret
          exact ⟨by rw [HO2.out]; rfl, HB1⟩
        · have HO2 : Hid (q = false) := by show _ = _; rw [HO.out]; simp [h2]
          clear HO
          go_enter Tryd.func13, Tryd.ntmps13
          go_wp2_with fail
          refine HR.out.mono ?_
          rintro e w1 ⟨rfl, hb1⟩
          have HB1 := Lib.hid (HB.out.trans (hb1.out.mono HB.out.size))
          have HX1 := Lib.hid (HX.out.below hb1.out HX.out.lt)
          have x0 : w1.cell? ⟨w.heap.size, 0, none⟩ = some (.int .i64 x) := HX1.out.cell 0
          have x1 : w1.cell? ⟨w.heap.size, 1, none⟩ = some (.int .i64 y) := HX1.out.cell 1
          have x2 : w1.cell? ⟨w.heap.size, 2, none⟩ = some (.int .i64 z) := HX1.out.cell 2
          clear hb1 HX HR
          go_wp2_with fail
          go_ret
          exact ⟨by rw [HO2.out]; first | rfl | simp [h2], HB1⟩
      · have HO2 : Hid (q = false) := by show _ = _; rw [HO.out]; simp [h1]
        clear HO
        go_enter Tryd.func13, Tryd.ntmps13
        go_wp2_with fail
        refine HR.out.mono ?_
        rintro e w1 ⟨rfl, hb1⟩
        have HB1 := Lib.hid (HB.out.trans (hb1.out.mono HB.out.size))
        have HX1 := Lib.hid (HX.out.below hb1.out HX.out.lt)
        have x0 : w1.cell? ⟨w.heap.size, 0, none⟩ = some (.int .i64 x) := HX1.out.cell 0
        have x1 : w1.cell? ⟨w.heap.size, 1, none⟩ = some (.int .i64 y) := HX1.out.cell 1
        have x2 : w1.cell? ⟨w.heap.size, 2, none⟩ = some (.int .i64 z) := HX1.out.cell 2
        clear hb1 HX HR
        go_wp2_with fail
        go_ret
        exact ⟨by rw [HO2.out]; first | rfl | simp [h1], HB1⟩
    · have HO2 : Hid (q = false) := by show _ = _; rw [HO.out]; simp [h0]
      clear HO
      go_enter Tryd.func13, Tryd.ntmps13
      go_wp2_with fail
      refine HR.out.mono ?_
      rintro e w1 ⟨rfl, hb1⟩
      have HB1 := Lib.hid (HB.out.trans (hb1.out.mono HB.out.size))
      have HX1 := Lib.hid (HX.out.below hb1.out HX.out.lt)
      have x0 : w1.cell? ⟨w.heap.size, 0, none⟩ = some (.int .i64 x) := HX1.out.cell 0
      have x1 : w1.cell? ⟨w.heap.size, 1, none⟩ = some (.int .i64 y) := HX1.out.cell 1
      have x2 : w1.cell? ⟨w.heap.size, 2, none⟩ = some (.int .i64 z) := HX1.out.cell 2
      clear hb1 HX HR
      go_wp2_with fail
      go_ret
      exact ⟨by rw [HO2.out]; first | rfl | simp [h0], HB1⟩
/-- What Point makes of a number. -/
def absP (x : Int) : Int := if x < 0 then -(x + 1) else x
theorem absP_ge (x : Int) : 0 ≤ absP x := by unfold absP; split <;> omega
theorem ptEnd (w' : World) (g : Nat) (c0 c1 c2 c3 : Value) (tmps : Array Value) (hp : tmps.getD 2 undef = .pointer (some ⟨g, 0, none⟩)) (hh : Has w' g 43 #[c0, c1, c2, c3]) :
    (results Tryd.f15 tmps).run Tryd.prog w' = .ok (.agg #[c0, c1, c2, c3]) w' :=
  results_cell_row rfl _ _ g 43 #[c0, c1, c2, c3] (0, 0) _ hp hh Tryd.underlying43 rfl (by kernel_rfl)
end Go.Proofs.YtjkmbggaoinkdaaDoor
