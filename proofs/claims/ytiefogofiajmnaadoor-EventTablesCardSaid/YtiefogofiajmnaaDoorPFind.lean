/-
  A table's schema: the program's find and Find.
-/
import Derived.Test.YtiefogofiajmnaaDoorMg9
import Derived.Test.YtiefogofiajmnaaDoorMg6
import Derived.Test.YtiefogofiajmnaaDoorRFolC
namespace Go.Proofs.YtiefogofiajmnaaDoor
open Go.RowKit Dg
set_option maxRecDepth 100000
theorem tfV_yes {T : List Tb} {s : ByteArray} (hp : plF T s = true) (hl : lbN T s < T.length) : tfV T s = .tuple #[.agg #[.slice T[lbN T s].A T[lbN T s].n T[lbN T s].c, .int .i64 T[lbN T s].K], .bool true] := by
  unfold tfV
  obtain ⟨_, h2⟩ := plF_tat hp
  rw [h2, List.getElem?_eq_getElem hl]
theorem tfV_no {T : List Tb} {s : ByteArray} (hS : SortT T) (hp : plF T s = false) : tfV T s = .tuple #[.agg #[.slice none 0 0, .int .i64 0], .bool false] := by
  unfold tfV
  rw [List.getElem?_eq_none (by have := plF_tat' hS hp; omega)]
/-- The columns and the keys that are found under a name. -/
def tfL (T : List Tb) (s : ByteArray) : List Cl := match T[tatN T s]? with | some x => x.L | none => []
def tfK (T : List Tb) (s : ByteArray) : Int := match T[tatN T s]? with | some x => x.K | none => 0
theorem tfL_yes {T : List Tb} {s : ByteArray} (hp : plF T s = true) (hl : lbN T s < T.length) : tfL T s = T[lbN T s].L ∧ tfK T s = T[lbN T s].K := by
  obtain ⟨_, h2⟩ := plF_tat hp
  unfold tfL tfK
  rw [h2, List.getElem?_eq_getElem hl]
  exact ⟨rfl, rfl⟩
theorem tfL_no {T : List Tb} {s : ByteArray} (hS : SortT T) (hp : plF T s = false) : tfL T s = [] ∧ tfK T s = 0 := by
  unfold tfL tfK
  rw [List.getElem?_eq_none (by have := plF_tat' hS hp; omega)]
  exact ⟨rfl, rfl⟩
theorem tfV_row {T : List Tb} {s : ByteArray} {w : World} (hS : SortT T) (hI : TOks w T) : ∃ A n c, tfV T s = .tuple #[.agg #[.slice A n c, .int .i64 (tfK T s)], .bool (plF T s)] ∧ (tfL T s).length = n ∧ n ≤ 900 ∧ CRow w A (tfL T s) := by
  rcases hp : plF T s with _ | _
  · obtain ⟨h1, h2⟩ := tfL_no hS hp
    rw [tfV_no hS hp, h1, h2]
    exact ⟨none, 0, 0, rfl, rfl, by omega, fun h => absurd rfl h⟩
  · have hl := plF_lt hp
    obtain ⟨h1, h2⟩ := tfL_yes hp hl
    rw [tfV_yes hp hl, h1, h2]
    have hx := hI _ (List.getElem_mem hl)
    exact ⟨_, _, _, rfl, hx.len, hx.few, hx.row⟩
set_option maxHeartbeats 2000000 in
theorem pfind_any (A : Option Addr) (T : List Tb) (n c : Nat) (s : ByteArray) (w : World) (hn : T.length = n) (hl : n ≤ 1000) (hA : TRow w A T) (hS : SortT T) :
    Calls Tryd.prog 25 #[.slice A n c, .string s] w fun e w' => e = .returned (tfV T s) ∧ Hid (Below w.heap.size w w') := by
  have HG := Lib.hid (Has.new w 28 #[.slice none 0 0, .int .i64 0])
  have HB := Lib.hid ((Below.refl w.heap.size w).alloc (Nat.le_refl _) (.cells #[.slice none 0 0, .int .i64 0] 28))
  have HC := Lib.hid (fun (W : World) (hb : Below w.heap.size w W) => place_any A T n c s W hn hl (hA.below hb) hS)
  have HN := Lib.hid hn
  have HA := Lib.hid hA
  have HS := Lib.hid hS
  clear hn hA hS
  go_enter Tryd.func25, Tryd.ntmps25
  go_wp2_with fail
  refine (HC.out _ HB.out).mono ?_
  rintro e w1 ⟨rfl, hb1⟩
  have HG1 := Lib.hid (HG.out.below hb1.out HG.out.lt)
  have HB1 := Lib.hid (HB.out.trans (hb1.out.mono HB.out.size))
  have f0 := HG1.out.free 0
  have f1 := HG1.out.free 1
  have g0 : w1.cell? ⟨w.heap.size, 0, none⟩ = some (.slice none 0 0) := HG1.out.cell 0
  have g1 : w1.cell? ⟨w.heap.size, 1, none⟩ = some (.int .i64 0) := HG1.out.cell 1
  clear hb1 HC HG HB
  rcases hp : plF T s with _ | _
  · have HV := Lib.hid (tfV_no HS.out hp)
    have HR := Lib.hid ((HG1.out.put 0 (.slice none 0 0)).put 1 (.int .i64 0))
    go_wp2_with fail
    exact bodyPost_ret (schEnd6 rfl _ w.heap.size _ _ _ rfl HR.out) rfl ⟨by rw [HV.out]; rfl, (HB1.out.setCell (by show w.heap.size ≤ w.heap.size; omega) _).setCell (by show w.heap.size ≤ w.heap.size; omega) _⟩
  · have hk := plF_lt hp
    have HV := Lib.hid (tfV_yes hp hk)
    obtain ⟨b, off, rfl, hc⟩ := (HA.out.below HB1.out) (by intro e; rw [e] at hk; simp at hk)
    obtain ⟨c0, c1, c2⟩ := hc _ hk
    have hkz : ((lbN T s : Nat) : Int) < (n : Int) := by rw [← HN.out]; omega
    clear hc c0
    obtain ⟨k, hkk⟩ : ∃ k, lbN T s = k := ⟨_, rfl⟩
    simp only [hkk] at c1 c2 hkz HV ⊢
    generalize T[k]'(by rw [← hkk]; exact hk) = x at *
    obtain ⟨xs, xA, xn, xc, xL, xK⟩ := x
    simp only at c1 c2 HV
    have HR := Lib.hid ((HG1.out.put 0 (.slice xA xn xc)).put 1 (.int .i64 xK))
    go_wp2_with fail
    exact bodyPost_ret (schEnd6 rfl _ w.heap.size _ _ _ rfl HR.out) rfl ⟨by rw [HV.out]; rfl, (HB1.out.setCell (by show w.heap.size ≤ w.heap.size; omega) _).setCell (by show w.heap.size ≤ w.heap.size; omega) _⟩
set_option maxHeartbeats 2000000 in
theorem pFind_any (A : Option Addr) (T : List Tb) (n c : Nat) (s : ByteArray) (w : World) (hn : T.length = n) (hl : n ≤ 1000) (hA : TRow w A T) (hI : TOks w T) (hS : SortT T) :
    Calls Tryd.prog 10 #[.slice A n c, .string s] w fun e w' => ∃ v, e = .returned (.tuple #[.agg #[v, .int .i64 (tfK T s)], .bool (plF T s)]) ∧ Hid (OwnC w.heap.size w' v (tfL T s)) ∧ Hid (Below w.heap.size w w') := by
  have HG := Lib.hid (Has.new w 28 #[.slice none 0 0, .int .i64 0])
  have HB := Lib.hid ((Below.refl w.heap.size w).alloc (Nat.le_refl _) (.cells #[.slice none 0 0, .int .i64 0] 28))
  have HC := Lib.hid (fun (W : World) (hb : Below w.heap.size w W) => pfind_any A T n c s W hn hl (hA.below hb) hS)
  have HI := Lib.hid hI
  have HS := Lib.hid hS
  clear hn hA hS hI
  go_enter Tryd.func10, Tryd.ntmps10
  go_wp2_with fail
  refine (HC.out _ HB.out).mono ?_
  rintro e w1 ⟨rfl, hb1⟩
  have HG1 := Lib.hid (HG.out.below hb1.out HG.out.lt)
  have HB1 := Lib.hid (HB.out.trans (hb1.out.mono HB.out.size))
  have HI1 := Lib.hid (HI.out.below HB1.out)
  clear hb1 HC HG HB HI
  rcases hp : plF T s with _ | _
  · obtain ⟨hL, hK⟩ := tfL_no HS.out hp
    rw [tfV_no HS.out hp]
    have HL := Lib.hid hL
    have HK := Lib.hid hK
    clear hL hK
    have HBa := Lib.hid ((Below.refl w1.heap.size w1).alloc (Nat.le_refl _) (.cells #[.slice none 0 0, .int .i64 0] 28))
    have HCL := Lib.hid (clone4_any none [] 0 0 0 (w1.alloc (.cells #[.slice none 0 0, .int .i64 0] 28)) rfl (by omega) (fun h => absurd rfl h) (fun _ => rfl))
    go_wp2_with fail
    refine HCL.out.mono ?_
    rintro e w2 ⟨v, rfl, ho, hb2⟩
    have HGa := Lib.hid (HG1.out.below HBa.out HG1.out.lt)
    have HBb := Lib.hid (HB1.out.trans (HBa.out.mono HB1.out.size))
    have HG2 := Lib.hid (HGa.out.below hb2.out HGa.out.lt)
    have HB2 := Lib.hid (HBb.out.trans (hb2.out.mono HBb.out.size))
    obtain ⟨A8, n8, c8, rfl, _, _, _, _, _⟩ := ownC_open ho.out
    have HR := Lib.hid ((HG2.out.put 0 (.slice A8 n8 c8)).put 1 (.int .i64 0))
    have HO := Lib.hid (OwnC.far (OwnC.far (ownC_down ho.out (B' := w.heap.size + 1) HGa.out.lt) (p := ⟨w.heap.size, 0, none⟩) (by show w.heap.size < _; omega) (.slice A8 n8 c8)) (p := ⟨w.heap.size, 1, none⟩) (by show w.heap.size < _; omega) (.int .i64 0))
    have f0 := HG2.out.free 0
    have f1 := HG2.out.free 1
    have g0 : w2.cell? ⟨w.heap.size, 0, none⟩ = some (.slice none 0 0) := HG2.out.cell 0
    have g1 : w2.cell? ⟨w.heap.size, 1, none⟩ = some (.int .i64 0) := HG2.out.cell 1
    clear ho hb2 HG1 HGa HBb HBa HCL
    go_wp2_with fail
    exact bodyPost_ret (schEnd6 rfl _ w.heap.size _ _ _ rfl HR.out) rfl ⟨_, by rw [HK.out, hp]; rfl, by rw [HL.out]; exact ownC_down HO.out (by omega), (HB2.out.setCell (by show w.heap.size ≤ w.heap.size; omega) _).setCell (by show w.heap.size ≤ w.heap.size; omega) _⟩
  · have hk := plF_lt hp
    obtain ⟨hL, hK⟩ := tfL_yes hp hk
    rw [tfV_yes hp hk]
    have HL := Lib.hid hL
    have HK := Lib.hid hK
    clear hL hK
    have hx := HI1.out T[lbN T s] (List.getElem_mem hk)
    generalize T[lbN T s] = x at *
    obtain ⟨xs, xA, xn, xc, xL, xK⟩ := x
    have HBa := Lib.hid ((Below.refl w1.heap.size w1).alloc (Nat.le_refl _) (.cells #[.slice xA xn xc, .int .i64 xK] 28))
    have HCL := Lib.hid (clone4_any xA xL xn xc xK (w1.alloc (.cells #[.slice xA xn xc, .int .i64 xK] 28)) hx.len hx.few (hx.row.below HBa.out) hx.nil)
    clear hx
    go_wp2_with fail
    refine HCL.out.mono ?_
    rintro e w2 ⟨v, rfl, ho, hb2⟩
    have HGa := Lib.hid (HG1.out.below HBa.out HG1.out.lt)
    have HBb := Lib.hid (HB1.out.trans (HBa.out.mono HB1.out.size))
    have HG2 := Lib.hid (HGa.out.below hb2.out HGa.out.lt)
    have HB2 := Lib.hid (HBb.out.trans (hb2.out.mono HBb.out.size))
    obtain ⟨A8, n8, c8, rfl, _, _, _, _, _⟩ := ownC_open ho.out
    have HR := Lib.hid ((HG2.out.put 0 (.slice A8 n8 c8)).put 1 (.int .i64 xK))
    have HO := Lib.hid (OwnC.far (OwnC.far (ownC_down ho.out (B' := w.heap.size + 1) HGa.out.lt) (p := ⟨w.heap.size, 0, none⟩) (by show w.heap.size < _; omega) (.slice A8 n8 c8)) (p := ⟨w.heap.size, 1, none⟩) (by show w.heap.size < _; omega) (.int .i64 xK))
    have f0 := HG2.out.free 0
    have f1 := HG2.out.free 1
    have g0 : w2.cell? ⟨w.heap.size, 0, none⟩ = some (.slice none 0 0) := HG2.out.cell 0
    have g1 : w2.cell? ⟨w.heap.size, 1, none⟩ = some (.int .i64 0) := HG2.out.cell 1
    clear ho hb2 HG1 HGa HBb HBa HCL
    go_wp2_with fail
    exact bodyPost_ret (schEnd6 rfl _ w.heap.size _ _ _ rfl HR.out) rfl ⟨_, by rw [HK.out, hp]; rfl, by rw [HL.out]; exact ownC_down HO.out (by omega), (HB2.out.setCell (by show w.heap.size ≤ w.heap.size; omega) _).setCell (by show w.heap.size ≤ w.heap.size; omega) _⟩
end Go.Proofs.YtiefogofiajmnaaDoor
