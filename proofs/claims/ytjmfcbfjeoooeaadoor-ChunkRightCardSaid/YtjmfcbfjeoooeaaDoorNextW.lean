/-
  The next work: the program's Next, and the document's.
-/
import Derived.Test.YtjmfcbfjeoooeaaDoorRGood
import Derived.Laws.ResultCell
namespace Go.Proofs.YtjmfcbfjeoooeaaDoor
open Go.RowKit Dg
set_option maxRecDepth 100000
/-- The place of the first work that is not done. -/
def fstN (T : List Wk) : Nat := T.findIdx fun x => !x.d
/-- The next work, and whether there is one. -/
def nextV (T : List Wk) : Value := match T[fstN T]? with
  | some x => .tuple #[.agg #[.string x.t, .bool x.d, .string x.k], .bool true]
  | none => .tuple #[.agg #[.string ⟨#[]⟩, .bool false, .string ⟨#[]⟩], .bool false]
theorem fstN_at {T : List Wk} {k : Nat} (h : k < T.length) (he : T[k].d = false) (hb : ∀ j (hj : j < k), (T[j]'(by omega)).d = true) : fstN T = k := by
  unfold fstN
  rw [List.findIdx_eq h]
  exact ⟨by simp [he], fun j hj => by simp [hb j hj]⟩
theorem nextV_at {T : List Wk} {k : Nat} (h : k < T.length) (he : T[k].d = false) (hb : ∀ j (hj : j < k), (T[j]'(by omega)).d = true) : nextV T = .tuple #[.agg #[.string T[k].t, .bool T[k].d, .string T[k].k], .bool true] := by
  unfold nextV; rw [fstN_at h he hb, List.getElem?_eq_getElem h]
theorem nextV_none {T : List Wk} (hb : ∀ j (hj : j < T.length), T[j].d = true) : nextV T = .tuple #[.agg #[.string ⟨#[]⟩, .bool false, .string ⟨#[]⟩], .bool false] := by
  have e : fstN T = T.length := by
    unfold fstN
    exact List.findIdx_eq_length.2 fun x hx => by
      obtain ⟨j, hj, rfl⟩ := List.getElem_of_mem hx
      simp [hb j hj]
  unfold nextV; rw [e, List.getElem?_eq_none (Nat.le_refl _)]
theorem wEnd2 {fn : Func} {p u : Tmp} (h : fn.results = #[.cell p 28, .tmp u]) (w' : World) (g : Nat) (c0 c1 c2 : Value) (tmps : Array Value) (hp : tmps.getD p undef = .pointer (some ⟨g, 0, none⟩)) (hh : Has w' g 28 #[c0, c1, c2]) :
    (results fn tmps).run Tryd.prog w' = .ok (.tuple #[.agg #[c0, c1, c2], tmps.getD u undef]) w' := by
  rw [results_cell_tmp h, hp]
  simp only [asAddr, Sem.run_pure, Result.andThen_ok]
  rw [run_loadVar_row w' g 28 28 #[c0, c1, c2] (0, 0) _ hh Tryd.underlying28 rfl (by kernel_rfl)]
  rfl
theorem hput3 {W : World} {g : Nat} {t : TypeId} {a0 a1 a2 : Value} (h : Has W g t #[a0, a1, a2]) (u0 u1 u2 : Value) : Has (((W.setCell ⟨g, 0, none⟩ u0).setCell ⟨g, 1, none⟩ u1).setCell ⟨g, 2, none⟩ u2) g t #[u0, u1, u2] := ((h.put 0 u0).put 1 u1).put 2 u2
theorem bput3 {w W : World} {g B : Nat} (hg : B ≤ g) (h : Below B w W) (u0 u1 u2 : Value) : Below B w (((W.setCell ⟨g, 0, none⟩ u0).setCell ⟨g, 1, none⟩ u1).setCell ⟨g, 2, none⟩ u2) :=
  ((h.setCell (p := ⟨g, 0, none⟩) hg u0).setCell (p := ⟨g, 1, none⟩) hg u1).setCell (p := ⟨g, 2, none⟩) hg u2
set_option maxHeartbeats 4000000 in
theorem pnext_any {B : Nat} {v : Value} {T : List Wk} (w : World) (h : OwnW B w v T) (hl : T.length ≤ 800) :
    Calls Tryd.prog 13 #[v] w fun e w' => e = .returned (nextV T) ∧ Hid (Below w.heap.size w w') := by
  obtain ⟨A, n, c, rfl, HN, _, _, HA, _⟩ := ownW_open h
  have HR0 := Lib.hid (Has.new w 28 #[.string ⟨#[]⟩, .bool false, .string ⟨#[]⟩])
  have HB0 := Lib.hid ((Below.refl w.heap.size w).alloc (Nat.le_refl _) (.cells #[.string ⟨#[]⟩, .bool false, .string ⟨#[]⟩] 28))
  have hl2 : n ≤ 800 := by have := HN.out; omega
  clear h hl
  go_enter Tryd.func13, Tryd.ntmps13
  go_wp2_with fail
  go_loopw [8] (fun i wr => ∃ k : Nat, k ≤ n ∧ i = .int .i64 k ∧ Hid (∀ j (_ : j < k) (hj2 : j < T.length), T[j].d = true) ∧ Hid (Has wr w.heap.size 28 #[.string ⟨#[]⟩, .bool false, .string ⟨#[]⟩]) ∧ Hid (Below w.heap.size w wr)) (fun i _ => n - (intOf i).toNat)
  case atStart => exact ⟨0, by omega, rfl, (fun j hj => absurd hj (by omega)), HR0, HB0⟩
  case round =>
    obtain ⟨k, hk, rfl, HF, HR, HB⟩ := hrel
    clear HR0 HB0
    by_cases hlt : k < n
    · have hkl : k < T.length := by rw [HN.out]; exact hlt
      obtain ⟨b, off, rfl, hc⟩ := (HA.out.below HB.out) (by intro e; rw [e] at hkl; simp at hkl)
      obtain ⟨c0, c1, c2⟩ := hc k hkl
      have HAT := Lib.hid (fun he => nextV_at hkl he (fun j hj => HF.out j hj (by omega)))
      have HNX : Hid (T[k].d = true → ∀ j (_ : j < k + 1) (hj2 : j < T.length), T[j].d = true) := fun he j hj hj2 => by
        by_cases e : j = k
        · subst e; exact he
        · exact HF.out j (by omega) hj2
      have hkz : (k : Int) < (n : Int) := by omega
      clear hc
      generalize T[k] = x at *
      obtain ⟨xt, xd, xk⟩ := x
      simp only at c0 c1 c2 HAT HNX
      cases xd
      · have HR1 := Lib.hid (HR.out.alloc (.cells #[.string xt, .bool false, .string xk] 28))
        have HB1 := Lib.hid (HB.out.alloc HB.out.size (.cells #[.string xt, .bool false, .string xk] 28))
        have r0 := HR1.out.cell 0
        have r1 := HR1.out.cell 1
        have r2 := HR1.out.cell 2
        have f0 := HR1.out.free 0
        have f1 := HR1.out.free 1
        have f2 := HR1.out.free 2
        simp at r0 r1 r2
        have HP := Lib.hid (hput3 HR1.out (.string xt) (.bool false) (.string xk))
        have HBP := Lib.hid (bput3 (Nat.le_refl _) HB1.out (.string xt) (.bool false) (.string xk))
        go_wp2_with fail
        exact bodyPost_ret (wEnd2 rfl _ w.heap.size _ _ _ _ rfl HP.out) rfl ⟨by rw [HAT.out (by first | rfl | exact True.intro)]; rfl, HBP⟩
      · go_wp2_with fail
        go_roundw
        case rel => exact ⟨k + 1, by omega, by go_num, HNX.out (by first | rfl | exact True.intro), HR.out.alloc _, HB.out.alloc HB.out.size _⟩
        case measure => simp [intOf]; omega
    · obtain rfl : k = n := by omega
      have HE := Lib.hid (nextV_none (T := T) (fun j hj => HF.out j (by rw [← HN.out]; exact hj) hj))
      have r0 := HR.out.cell 0
      have r1 := HR.out.cell 1
      have r2 := HR.out.cell 2
      have f0 := HR.out.free 0
      have f1 := HR.out.free 1
      have f2 := HR.out.free 2
      simp at r0 r1 r2
      have HP := Lib.hid (hput3 HR.out (.string ⟨#[]⟩) (.bool false) (.string ⟨#[]⟩))
      have HBP := Lib.hid (bput3 (Nat.le_refl _) HB.out (.string ⟨#[]⟩) (.bool false) (.string ⟨#[]⟩))
      go_wp2_with fail
      exact bodyPost_ret (wEnd2 rfl _ w.heap.size _ _ _ _ rfl HP.out) rfl ⟨by rw [HE.out]; rfl, HBP⟩
set_option maxHeartbeats 4000000 in
theorem rnext_any {B : Nat} {v : Value} {T : List Wk} (w : World) (h : OwnW B w v T) (hl : T.length ≤ 800) :
    Calls Tryd.prog 14 #[v] w fun e w' => e = .returned (nextV T) ∧ Hid (Below w.heap.size w w') := by
  obtain ⟨A, n, c, rfl, HN, _, _, HA, _⟩ := ownW_open h
  have HR0 := Lib.hid (Has.new w 28 #[.string ⟨#[]⟩, .bool false, .string ⟨#[]⟩])
  have HB0 := Lib.hid ((Below.refl w.heap.size w).alloc (Nat.le_refl _) (.cells #[.string ⟨#[]⟩, .bool false, .string ⟨#[]⟩] 28))
  have hl2 : n ≤ 800 := by have := HN.out; omega
  clear h hl
  go_enter Tryd.func14, Tryd.ntmps14
  go_wp2_with fail
  go_loopw [4] (fun i wr => ∃ k : Nat, k ≤ n ∧ i = .int .i64 k ∧ Hid (∀ j (_ : j < k) (hj2 : j < T.length), T[j].d = true) ∧ Hid (Has wr w.heap.size 28 #[.string ⟨#[]⟩, .bool false, .string ⟨#[]⟩]) ∧ Hid (Below w.heap.size w wr)) (fun i _ => n - (intOf i).toNat)
  case atStart => exact ⟨0, by omega, rfl, (fun j hj => absurd hj (by omega)), HR0, HB0⟩
  case round =>
    obtain ⟨k, hk, rfl, HF, HR, HB⟩ := hrel
    clear HR0 HB0
    by_cases hlt : k < n
    · have hkl : k < T.length := by rw [HN.out]; exact hlt
      obtain ⟨b, off, rfl, hc⟩ := (HA.out.below HB.out) (by intro e; rw [e] at hkl; simp at hkl)
      obtain ⟨c0, c1, c2⟩ := hc k hkl
      have HAT := Lib.hid (fun he => nextV_at hkl he (fun j hj => HF.out j hj (by omega)))
      have HNX : Hid (T[k].d = true → ∀ j (_ : j < k + 1) (hj2 : j < T.length), T[j].d = true) := fun he j hj hj2 => by
        by_cases e : j = k
        · subst e; exact he
        · exact HF.out j (by omega) hj2
      have hkz : (k : Int) < (n : Int) := by omega
      clear hc
      generalize T[k] = x at *
      obtain ⟨xt, xd, xk⟩ := x
      simp only at c0 c1 c2 HAT HNX
      cases xd
      · have HR1 := HR
        have HB1 := HB
        have r0 := HR1.out.cell 0
        have r1 := HR1.out.cell 1
        have r2 := HR1.out.cell 2
        have f0 := HR1.out.free 0
        have f1 := HR1.out.free 1
        have f2 := HR1.out.free 2
        simp at r0 r1 r2
        have HP := Lib.hid (hput3 HR1.out (.string xt) (.bool false) (.string xk))
        have HBP := Lib.hid (bput3 (Nat.le_refl _) HB1.out (.string xt) (.bool false) (.string xk))
        go_wp2_with fail
        exact bodyPost_ret (wEnd2 rfl _ w.heap.size _ _ _ _ rfl HP.out) rfl ⟨by rw [HAT.out (by first | rfl | exact True.intro)]; rfl, HBP⟩
      · go_wp2_with fail
        go_roundw
        case rel => exact ⟨k + 1, by omega, by go_num, HNX.out (by first | rfl | exact True.intro), HR, HB⟩
        case measure => simp [intOf]; omega
    · obtain rfl : k = n := by omega
      have HE := Lib.hid (nextV_none (T := T) (fun j hj => HF.out j (by rw [← HN.out]; exact hj) hj))
      have r0 := HR.out.cell 0
      have r1 := HR.out.cell 1
      have r2 := HR.out.cell 2
      have f0 := HR.out.free 0
      have f1 := HR.out.free 1
      have f2 := HR.out.free 2
      simp at r0 r1 r2
      have HP := Lib.hid (hput3 HR.out (.string ⟨#[]⟩) (.bool false) (.string ⟨#[]⟩))
      have HBP := Lib.hid (bput3 (Nat.le_refl _) HB.out (.string ⟨#[]⟩) (.bool false) (.string ⟨#[]⟩))
      go_wp2_with fail
      exact bodyPost_ret (wEnd2 rfl _ w.heap.size _ _ _ _ rfl HP.out) rfl ⟨by rw [HE.out]; rfl, HBP⟩
end Go.Proofs.YtjmfcbfjeoooeaaDoor
