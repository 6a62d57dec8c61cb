/-
  Few columns of a change: the law's cut.
-/
import Derived.Test.YtiefogofiajmnaaDoorCut
namespace Go.Proofs.YtiefogofiajmnaaDoor
open Go.RowKit Dg
set_option maxHeartbeats 400000 in
theorem name6_any (s : ByteArray) (w : World) (hs : s.size ≤ 140737488355328) :
    Calls Tryd.prog 9 #[.string s] w fun e w' => e = .returned (.string (forty s)) ∧ w' = w := by
  by_cases hz : 40 < s.size
  · have HF : Hid (s.extract 0 40 = forty s) := by show _ = _; unfold forty; rw [if_pos hz]
    go_enter Tryd.func9, Tryd.ntmps9
    go_wp2_with fail
    go_ret
    exact ⟨by rw [← HF.out]; rfl, rfl⟩
  · have HF : Hid (forty s = s) := by show _ = _; unfold forty; rw [if_neg hz]
    go_enter Tryd.func9, Tryd.ntmps9
    go_wp2_with fail
    go_ret
    exact ⟨by rw [HF.out]; rfl, rfl⟩
structure D6 (w wr : World) (v : Value) (M : List Cl) (P : Array Value) : Prop where
  own : OwnC (w.heap.size + 2) wr v M
  bel : Below w.heap.size w wr
  prm : Has wr w.heap.size 40 P
  res : Has wr (w.heap.size + 1) 40 #[.int .i64 0, .string ⟨#[]⟩, .slice none 0 0, .int .i64 0, .string ⟨#[]⟩, .int .i64 0, .bool false]
  big : w.heap.size + 2 ≤ wr.heap.size
section
variable {w wr w' : World} {v : Value} {M : List Cl} {P : Array Value}
theorem D6.below (h : D6 w wr v M P) (hb : Below wr.heap.size wr w') : D6 w w' v M P :=
  ⟨h.own.below hb, h.bel.trans (hb.mono h.bel.size), h.prm.below hb h.prm.lt, h.res.below hb h.res.lt, Nat.le_trans h.big hb.size⟩
theorem D6.grown (h : D6 w wr v M P) {R : Value} {M' : List Cl} (ho : OwnC (w.heap.size + 2) w' R M') (hb : Below (w.heap.size + 2) wr w') : D6 w w' R M' P :=
  ⟨ho, h.bel.trans (hb.mono (by omega)), h.prm.below hb (by omega), h.res.below hb (by omega), Nat.le_trans h.big hb.size⟩
end
theorem c6End (w' : World) (g : Nat) (c0 c1 c2 c3 c4 c5 c6 : Value) (tmps : Array Value) (hp : tmps.getD 2 undef = .pointer (some ⟨g, 0, none⟩)) (hh : Has w' g 40 #[c0, c1, c2, c3, c4, c5, c6]) :
    (results Tryd.f16 tmps).run Tryd.prog w' = .ok (.agg #[c0, c1, c2, c3, c4, c5, c6]) w' :=
  results_cell_row rfl _ _ g 40 #[c0, c1, c2, c3, c4, c5, c6] (0, 0) _ hp hh Tryd.underlying40 rfl (by kernel_rfl)
theorem far7 {W : World} {g B : Nat} (hg : g < B) {v : Value} {M : List Cl} (h : OwnC B W v M) (u0 u1 u2 u3 u4 u5 u6 : Value) : OwnC B (((((((W.setCell ⟨g, 0, none⟩ u0).setCell ⟨g, 1, none⟩ u1).setCell ⟨g, 2, none⟩ u2).setCell ⟨g, 3, none⟩ u3).setCell ⟨g, 4, none⟩ u4).setCell ⟨g, 5, none⟩ u5).setCell ⟨g, 6, none⟩ u6) v M :=
  OwnC.far (OwnC.far (OwnC.far (OwnC.far (OwnC.far (OwnC.far (OwnC.far h (p := ⟨g, 0, none⟩) hg u0) (p := ⟨g, 1, none⟩) hg u1) (p := ⟨g, 2, none⟩) hg u2) (p := ⟨g, 3, none⟩) hg u3) (p := ⟨g, 4, none⟩) hg u4) (p := ⟨g, 5, none⟩) hg u5) (p := ⟨g, 6, none⟩) hg u6
theorem below7 {w W : World} {k g : Nat} (hg : k ≤ g) (h : Below k w W) (u0 u1 u2 u3 u4 u5 u6 : Value) : Below k w (((((((W.setCell ⟨g, 0, none⟩ u0).setCell ⟨g, 1, none⟩ u1).setCell ⟨g, 2, none⟩ u2).setCell ⟨g, 3, none⟩ u3).setCell ⟨g, 4, none⟩ u4).setCell ⟨g, 5, none⟩ u5).setCell ⟨g, 6, none⟩ u6) :=
  ((((((h.setCell (p := ⟨g, 0, none⟩) hg u0).setCell (p := ⟨g, 1, none⟩) hg u1).setCell (p := ⟨g, 2, none⟩) hg u2).setCell (p := ⟨g, 3, none⟩) hg u3).setCell (p := ⟨g, 4, none⟩) hg u4).setCell (p := ⟨g, 5, none⟩) hg u5).setCell (p := ⟨g, 6, none⟩) hg u6
set_option maxHeartbeats 6000000 in
set_option maxRecDepth 100000 in
theorem cut6_any (ck : Int) (ct : ByteArray) (A : Option Addr) (L : List Cl) (n c : Nat) (K : Int) (cn : ByteArray) (cq : Int) (cb : Bool) (w : World) (hn : L.length = n) (hnc : n ≤ c) (hcm : c ≤ maxLen) (hA : CRow w A L) (hf : ∀ x ∈ L, x.fit) (ht : ct.size ≤ 140737488355328) (hc : cn.size ≤ 140737488355328) :
    Calls Tryd.prog 16 #[.agg #[.int .i64 ck, .string ct, .slice A n c, .int .i64 K, .string cn, .int .i64 cq, .bool cb]] w fun e w' => ∃ v, e = .returned (.agg #[.int .i64 ck, .string (forty ct), v, .int .i64 K, .string (forty cn), .int .i64 cq, .bool cb]) ∧ Hid (OwnC w.heap.size w' v (cutL L)) ∧ Hid (Below w.heap.size w w') := by
  have HN := Lib.hid hn
  have HA := Lib.hid hA
  have HF := Lib.hid hf
  have hcm2 : n ≤ 9223372036854775807 := by unfold maxLen at hcm; omega
  have st0 : D6 w ((w.alloc (.cells #[.int .i64 ck, .string (forty ct), .slice A n c, .int .i64 K, .string (forty cn), .int .i64 cq, .bool cb] 40)).alloc (.cells #[.int .i64 0, .string ⟨#[]⟩, .slice none 0 0, .int .i64 0, .string ⟨#[]⟩, .int .i64 0, .bool false] 40)) (.slice none 0 0) (cutTo L 0) #[.int .i64 ck, .string (forty ct), .slice A n c, .int .i64 K, .string (forty cn), .int .i64 cq, .bool cb] := by
    have e1 : (w.alloc (.cells #[.int .i64 ck, .string (forty ct), .slice A n c, .int .i64 K, .string (forty cn), .int .i64 cq, .bool cb] 40)).heap.size = w.heap.size + 1 := by simp
    have h := Has.new (w.alloc (.cells #[.int .i64 ck, .string (forty ct), .slice A n c, .int .i64 K, .string (forty cn), .int .i64 cq, .bool cb] 40)) 40 #[.int .i64 0, .string ⟨#[]⟩, .slice none 0 0, .int .i64 0, .string ⟨#[]⟩, .int .i64 0, .bool false]
    rw [e1] at h
    exact ⟨ownC_nil _ _, ((Below.refl w.heap.size w).alloc (Nat.le_refl _) _).alloc (by simp) _, (Has.new w _ _).alloc _, h, by simp⟩
  have S0 := Lib.hid st0
  clear hn hA hnc hcm hf st0
  go_enter Tryd.func16, Tryd.ntmps16
  go_wp2_with fail
  refine (name6_any ct _ ht).mono ?_
  rintro e w1 ⟨rfl, rfl⟩
  obtain ⟨ft, hft⟩ : ∃ x, forty ct = x := ⟨_, rfl⟩
  have HFT := Lib.hid hft
  rw [hft] at S0 ⊢
  clear hft
  go_wp2_with fail
  refine (name6_any cn _ hc).mono ?_
  rintro e w1 ⟨rfl, rfl⟩
  obtain ⟨fn, hfn⟩ : ∃ x, forty cn = x := ⟨_, rfl⟩
  have HFN := Lib.hid hfn
  rw [hfn] at S0 ⊢
  clear hfn
  go_wp2_with fail
  go_loopw [3, 4] (fun v i wr => ∃ k : Nat, k ≤ n ∧ k ≤ 20 ∧ i = .int .i64 k ∧ Hid (D6 w wr v (cutTo L k) #[.int .i64 ck, .string ft, .slice A n c, .int .i64 K, .string fn, .int .i64 cq, .bool cb])) (fun _ i _ => n - (intOf i).toNat)
  case atStart => exact ⟨0, by omega, by omega, rfl, S0⟩
  case round =>
    obtain ⟨k, hk, hk20, rfl, HS⟩ := hrel
    clear S0
    obtain ⟨Ao, no, co, rfl, HNO, hnoc, hcom, HVO, HZO⟩ := ownC_open HS.out.own
    have hno : no ≤ 20 := by
      have h := cutTo_len L k
      have h2 := HNO.out
      omega
    have p2 : wr.cell? ⟨w.heap.size, 2, none⟩ = some (.slice A n c) := HS.out.prm.cell 2
    by_cases hlt : k < n
    · by_cases hl2 : k < 20
      · have hkl : k < L.length := by rw [HN.out]; exact hlt
        have hfit : L[k].nm.size ≤ 140737488355328 := (HF.out L[k] (List.getElem_mem hkl)).1
        obtain ⟨b, off, rfl, hc⟩ := (HA.out.below HS.out.bel) (by intro e; rw [e] at hkl; simp at hkl)
        obtain ⟨c0, c1, c2⟩ := hc k hkl
        have HG := Lib.hid (cutTo_succ L k hkl)
        clear hc
        generalize L[k] = x at *
        obtain ⟨xa, xb, xc⟩ := x
        simp only at c0 c1 c2 hfit
        obtain ⟨M, hM⟩ : ∃ M, cutTo L k = M := ⟨_, rfl⟩
        rw [hM] at HS HNO HVO HG
        clear hM
        have y0 : (wr.alloc (.cells #[.string xa, .int .i64 xb, .bool xc] 38)).frozen? ⟨wr.heap.size, 0, none⟩ = false := (Has.new wr 38 #[.string xa, .int .i64 xb, .bool xc]).free 0
        have HG2 : Hid (cutTo L (k + 1) = M ++ [⟨forty xa, xb, xc⟩]) := HG
        clear HG
        go_wp2_with fail
        refine (name6_any xa _ hfit).mono ?_
        rintro e w1 ⟨rfl, rfl⟩
        generalize forty xa = fm at *
        have HX : Hid (Has (wr.alloc (.cells #[.string fm, .int .i64 xb, .bool xc] 38)) wr.heap.size 38 #[.string fm, .int .i64 xb, .bool xc]) := Has.new wr 38 #[.string fm, .int .i64 xb, .bool xc]
        have HB : Hid (Below wr.heap.size wr (wr.alloc (.cells #[.string fm, .int .i64 xb, .bool xc] 38))) := (Below.refl _ wr).alloc (Nat.le_refl _) _
        have S5 := Lib.hid (HS.out.below HB.out)
        have x0 : (wr.alloc (.cells #[.string fm, .int .i64 xb, .bool xc] 38)).cell? ⟨wr.heap.size, 0, none⟩ = some (.string fm) := HX.out.cell 0
        have x1 : (wr.alloc (.cells #[.string fm, .int .i64 xb, .bool xc] 38)).cell? ⟨wr.heap.size, 1, none⟩ = some (.int .i64 xb) := HX.out.cell 1
        have x2 : (wr.alloc (.cells #[.string fm, .int .i64 xb, .bool xc] 38)).cell? ⟨wr.heap.size, 2, none⟩ = some (.bool xc) := HX.out.cell 2
        have HAP := Lib.hid (appC (wr.alloc (.cells #[.string fm, .int .i64 xb, .bool xc] 38)) (wr.heap.size + 1) (by simp) (w.heap.size + 2) (.slice Ao no co) M ⟨fm, xb, xc⟩ S5.out.own S5.out.big (by have := HNO.out; omega))
        go_wp2_with (at_builtin; refine wpList_app rfl _ _ 26 26 rfl (.slice Ao no co) (.slice (some ⟨wr.heap.size + 1, 0, none⟩) 1 1) rfl rfl ?_; obtain ⟨R, W', hrun, hmade⟩ := HAP.out; refine ⟨R, W', hrun, ?_⟩; have S7 := Lib.hid (S5.out.grown hmade.1 hmade.2); clear hrun hmade HAP x0 x1 x2)
        go_roundw
        case rel => exact ⟨k + 1, by omega, by omega, by go_num, by rw [HG2.out]; exact S7⟩
        case measure => simp [intOf]; omega
      · obtain rfl : k = 20 := by omega
        have HE := Lib.hid (cutTo_end L 20 (.inr rfl) (by omega))
        have f2 : wr.frozen? ⟨w.heap.size, 2, none⟩ = false := HS.out.prm.free 2
        have HP2 := Lib.hid (HS.out.prm.put 2 (.slice Ao no co))
        have HR2 := Lib.hid (HS.out.res.far (p := ⟨w.heap.size, 2, none⟩) (by show w.heap.size + 1 ≠ w.heap.size; omega) (.slice Ao no co))
        have g0 : (wr.setCell ⟨w.heap.size, 2, none⟩ (.slice Ao no co)).cell? ⟨w.heap.size, 0, none⟩ = some (.int .i64 ck) := HP2.out.cell 0
        have g1 : (wr.setCell ⟨w.heap.size, 2, none⟩ (.slice Ao no co)).cell? ⟨w.heap.size, 1, none⟩ = some (.string ft) := HP2.out.cell 1
        have g2 : (wr.setCell ⟨w.heap.size, 2, none⟩ (.slice Ao no co)).cell? ⟨w.heap.size, 2, none⟩ = some (.slice Ao no co) := HP2.out.cell 2
        have g3 : (wr.setCell ⟨w.heap.size, 2, none⟩ (.slice Ao no co)).cell? ⟨w.heap.size, 3, none⟩ = some (.int .i64 K) := HP2.out.cell 3
        have g4 : (wr.setCell ⟨w.heap.size, 2, none⟩ (.slice Ao no co)).cell? ⟨w.heap.size, 4, none⟩ = some (.string fn) := HP2.out.cell 4
        have g5 : (wr.setCell ⟨w.heap.size, 2, none⟩ (.slice Ao no co)).cell? ⟨w.heap.size, 5, none⟩ = some (.int .i64 cq) := HP2.out.cell 5
        have g6 : (wr.setCell ⟨w.heap.size, 2, none⟩ (.slice Ao no co)).cell? ⟨w.heap.size, 6, none⟩ = some (.bool cb) := HP2.out.cell 6
        have r0 : (wr.setCell ⟨w.heap.size, 2, none⟩ (.slice Ao no co)).cell? ⟨w.heap.size + 1, 0, none⟩ = some (.int .i64 0) := HR2.out.cell 0
        have h0 : (wr.setCell ⟨w.heap.size, 2, none⟩ (.slice Ao no co)).frozen? ⟨w.heap.size + 1, 0, none⟩ = false := HR2.out.free 0
        have r1 : (wr.setCell ⟨w.heap.size, 2, none⟩ (.slice Ao no co)).cell? ⟨w.heap.size + 1, 1, none⟩ = some (.string ⟨#[]⟩) := HR2.out.cell 1
        have h1 : (wr.setCell ⟨w.heap.size, 2, none⟩ (.slice Ao no co)).frozen? ⟨w.heap.size + 1, 1, none⟩ = false := HR2.out.free 1
        have r2 : (wr.setCell ⟨w.heap.size, 2, none⟩ (.slice Ao no co)).cell? ⟨w.heap.size + 1, 2, none⟩ = some (.slice none 0 0) := HR2.out.cell 2
        have h2 : (wr.setCell ⟨w.heap.size, 2, none⟩ (.slice Ao no co)).frozen? ⟨w.heap.size + 1, 2, none⟩ = false := HR2.out.free 2
        have r3 : (wr.setCell ⟨w.heap.size, 2, none⟩ (.slice Ao no co)).cell? ⟨w.heap.size + 1, 3, none⟩ = some (.int .i64 0) := HR2.out.cell 3
        have h3 : (wr.setCell ⟨w.heap.size, 2, none⟩ (.slice Ao no co)).frozen? ⟨w.heap.size + 1, 3, none⟩ = false := HR2.out.free 3
        have r4 : (wr.setCell ⟨w.heap.size, 2, none⟩ (.slice Ao no co)).cell? ⟨w.heap.size + 1, 4, none⟩ = some (.string ⟨#[]⟩) := HR2.out.cell 4
        have h4 : (wr.setCell ⟨w.heap.size, 2, none⟩ (.slice Ao no co)).frozen? ⟨w.heap.size + 1, 4, none⟩ = false := HR2.out.free 4
        have r5 : (wr.setCell ⟨w.heap.size, 2, none⟩ (.slice Ao no co)).cell? ⟨w.heap.size + 1, 5, none⟩ = some (.int .i64 0) := HR2.out.cell 5
        have h5 : (wr.setCell ⟨w.heap.size, 2, none⟩ (.slice Ao no co)).frozen? ⟨w.heap.size + 1, 5, none⟩ = false := HR2.out.free 5
        have r6 : (wr.setCell ⟨w.heap.size, 2, none⟩ (.slice Ao no co)).cell? ⟨w.heap.size + 1, 6, none⟩ = some (.bool false) := HR2.out.cell 6
        have h6 : (wr.setCell ⟨w.heap.size, 2, none⟩ (.slice Ao no co)).frozen? ⟨w.heap.size + 1, 6, none⟩ = false := HR2.out.free 6
        go_wp2_with fail
        refine bodyPost_ret (v := .agg #[.int .i64 ck, .string ft, .slice Ao no co, .int .i64 K, .string fn, .int .i64 cq, .bool cb]) (c6End _ (w.heap.size + 1) _ _ _ _ _ _ _ _ rfl ?_) rfl ?_
        · exact ((((((HR2.out.put 0 _).put 1 _).put 2 _).put 3 _).put 4 _).put 5 _).put 6 _
        · refine ⟨_, by rw [HFT.out, HFN.out], ?_, ?_⟩
          · rw [← HE.out]
            exact ownC_down (far7 (g := w.heap.size + 1) (by omega) (OwnC.far HS.out.own (p := ⟨w.heap.size, 2, none⟩) (by show w.heap.size < _; omega) (.slice Ao no co)) _ _ _ _ _ _ _) (by omega)
          · exact below7 (g := w.heap.size + 1) (by omega) (HS.out.bel.setCell (p := ⟨w.heap.size, 2, none⟩) (by show w.heap.size ≤ w.heap.size; omega) _) _ _ _ _ _ _ _
    · obtain rfl : k = n := by omega
      have HE := Lib.hid (cutTo_end L k (.inl HN.out.symm) hk20)
      have f2 : wr.frozen? ⟨w.heap.size, 2, none⟩ = false := HS.out.prm.free 2
      have HP2 := Lib.hid (HS.out.prm.put 2 (.slice Ao no co))
      have HR2 := Lib.hid (HS.out.res.far (p := ⟨w.heap.size, 2, none⟩) (by show w.heap.size + 1 ≠ w.heap.size; omega) (.slice Ao no co))
      have g0 : (wr.setCell ⟨w.heap.size, 2, none⟩ (.slice Ao no co)).cell? ⟨w.heap.size, 0, none⟩ = some (.int .i64 ck) := HP2.out.cell 0
      have g1 : (wr.setCell ⟨w.heap.size, 2, none⟩ (.slice Ao no co)).cell? ⟨w.heap.size, 1, none⟩ = some (.string ft) := HP2.out.cell 1
      have g2 : (wr.setCell ⟨w.heap.size, 2, none⟩ (.slice Ao no co)).cell? ⟨w.heap.size, 2, none⟩ = some (.slice Ao no co) := HP2.out.cell 2
      have g3 : (wr.setCell ⟨w.heap.size, 2, none⟩ (.slice Ao no co)).cell? ⟨w.heap.size, 3, none⟩ = some (.int .i64 K) := HP2.out.cell 3
      have g4 : (wr.setCell ⟨w.heap.size, 2, none⟩ (.slice Ao no co)).cell? ⟨w.heap.size, 4, none⟩ = some (.string fn) := HP2.out.cell 4
      have g5 : (wr.setCell ⟨w.heap.size, 2, none⟩ (.slice Ao no co)).cell? ⟨w.heap.size, 5, none⟩ = some (.int .i64 cq) := HP2.out.cell 5
      have g6 : (wr.setCell ⟨w.heap.size, 2, none⟩ (.slice Ao no co)).cell? ⟨w.heap.size, 6, none⟩ = some (.bool cb) := HP2.out.cell 6
      have r0 : (wr.setCell ⟨w.heap.size, 2, none⟩ (.slice Ao no co)).cell? ⟨w.heap.size + 1, 0, none⟩ = some (.int .i64 0) := HR2.out.cell 0
      have h0 : (wr.setCell ⟨w.heap.size, 2, none⟩ (.slice Ao no co)).frozen? ⟨w.heap.size + 1, 0, none⟩ = false := HR2.out.free 0
      have r1 : (wr.setCell ⟨w.heap.size, 2, none⟩ (.slice Ao no co)).cell? ⟨w.heap.size + 1, 1, none⟩ = some (.string ⟨#[]⟩) := HR2.out.cell 1
      have h1 : (wr.setCell ⟨w.heap.size, 2, none⟩ (.slice Ao no co)).frozen? ⟨w.heap.size + 1, 1, none⟩ = false := HR2.out.free 1
      have r2 : (wr.setCell ⟨w.heap.size, 2, none⟩ (.slice Ao no co)).cell? ⟨w.heap.size + 1, 2, none⟩ = some (.slice none 0 0) := HR2.out.cell 2
      have h2 : (wr.setCell ⟨w.heap.size, 2, none⟩ (.slice Ao no co)).frozen? ⟨w.heap.size + 1, 2, none⟩ = false := HR2.out.free 2
      have r3 : (wr.setCell ⟨w.heap.size, 2, none⟩ (.slice Ao no co)).cell? ⟨w.heap.size + 1, 3, none⟩ = some (.int .i64 0) := HR2.out.cell 3
      have h3 : (wr.setCell ⟨w.heap.size, 2, none⟩ (.slice Ao no co)).frozen? ⟨w.heap.size + 1, 3, none⟩ = false := HR2.out.free 3
      have r4 : (wr.setCell ⟨w.heap.size, 2, none⟩ (.slice Ao no co)).cell? ⟨w.heap.size + 1, 4, none⟩ = some (.string ⟨#[]⟩) := HR2.out.cell 4
      have h4 : (wr.setCell ⟨w.heap.size, 2, none⟩ (.slice Ao no co)).frozen? ⟨w.heap.size + 1, 4, none⟩ = false := HR2.out.free 4
      have r5 : (wr.setCell ⟨w.heap.size, 2, none⟩ (.slice Ao no co)).cell? ⟨w.heap.size + 1, 5, none⟩ = some (.int .i64 0) := HR2.out.cell 5
      have h5 : (wr.setCell ⟨w.heap.size, 2, none⟩ (.slice Ao no co)).frozen? ⟨w.heap.size + 1, 5, none⟩ = false := HR2.out.free 5
      have r6 : (wr.setCell ⟨w.heap.size, 2, none⟩ (.slice Ao no co)).cell? ⟨w.heap.size + 1, 6, none⟩ = some (.bool false) := HR2.out.cell 6
      have h6 : (wr.setCell ⟨w.heap.size, 2, none⟩ (.slice Ao no co)).frozen? ⟨w.heap.size + 1, 6, none⟩ = false := HR2.out.free 6
      go_wp2_with fail
      refine bodyPost_ret (v := .agg #[.int .i64 ck, .string ft, .slice Ao no co, .int .i64 K, .string fn, .int .i64 cq, .bool cb]) (c6End _ (w.heap.size + 1) _ _ _ _ _ _ _ _ rfl ?_) rfl ?_
      · exact ((((((HR2.out.put 0 _).put 1 _).put 2 _).put 3 _).put 4 _).put 5 _).put 6 _
      · refine ⟨_, by rw [HFT.out, HFN.out], ?_, ?_⟩
        · rw [← HE.out]
          exact ownC_down (far7 (g := w.heap.size + 1) (by omega) (OwnC.far HS.out.own (p := ⟨w.heap.size, 2, none⟩) (by show w.heap.size < _; omega) (.slice Ao no co)) _ _ _ _ _ _ _) (by omega)
        · exact below7 (g := w.heap.size + 1) (by omega) (HS.out.bel.setCell (p := ⟨w.heap.size, 2, none⟩) (by show w.heap.size ≤ w.heap.size; omega) _) _ _ _ _ _ _ _
end Go.Proofs.YtiefogofiajmnaaDoor
