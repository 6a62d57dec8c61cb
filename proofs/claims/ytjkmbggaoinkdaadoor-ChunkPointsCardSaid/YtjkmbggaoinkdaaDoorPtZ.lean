/-
  A point read of well-formed bytes: the program's Read, walked.
-/
import Derived.Test.YtjkmbggaoinkdaaDoorMb
import Derived.Test.YtjkmbggaoinkdaaDoorPtM
namespace Go.Proofs.YtjkmbggaoinkdaaDoor
open Go.RowKit Dg
set_option maxRecDepth 100000
theorem OwnW.grn {B : Nat} {w w' : World} {g : Nat} {v : Value} {L : List Wk} (h : OwnW B w v L) (hb : w.grownBy w' (some g)) (hg : g < B) : OwnW B w' v L := by
  rcases h.2 with ⟨hv, hn⟩ | ⟨q, cap, cur, hv, hq, hh, hc, hcm, hsz, ht⟩
  · exact ⟨h.1, .inl ⟨hv, hn⟩⟩
  · exact ⟨h.1, .inr ⟨q, cap, cur, hv, hq, Has.grn (t := 75) (cs := cur) hh hb (by omega), hc, hcm, hsz, ht⟩⟩
theorem grn_belowB {B : Nat} {w x y : World} {g : Nat} (h : w.grownBy x (some g)) (hB : w.heap.size ≤ B) (hb : Below B x y) : w.grownBy y (some g) :=
  ⟨hb.os.trans h.os, hb.tape.trans h.tape, hb.output.trans h.output, Nat.le_trans h.size hb.size, fun b hlt hne => (hb.block b (Nat.lt_of_lt_of_le hlt hB)).trans (h.block b hlt hne)⟩
theorem wdrop_mem {T : List Wk} {k x : Nat} (h : x ∈ (T.drop k).flatMap wkB) : x ∈ T.flatMap wkB := by
  obtain ⟨y, hy, hx⟩ := List.mem_flatMap.1 h
  exact List.mem_flatMap.2 ⟨y, List.mem_of_mem_drop hy, hx⟩
theorem wdrop_len (T : List Wk) (k : Nat) : ((T.drop k).flatMap wkB).length ≤ (T.flatMap wkB).length := by
  have : (T.flatMap wkB).length = ((T.take k).flatMap wkB).length + ((T.drop k).flatMap wkB).length := by rw [← List.length_append, ← List.flatMap_append, List.take_append_drop]
  omega
theorem wdrop_cons (T : List Wk) (k : Nat) (h : k < T.length) : (T.drop k).flatMap wkB = wkB ⟨T[k].t, T[k].d, T[k].k⟩ ++ (T.drop (k + 1)).flatMap wkB := by
  rw [List.drop_eq_getElem_cons h, List.flatMap_cons]
theorem pEnd2 {fn : Func} {p u : Tmp} (h : fn.results = #[.cell p 43, .tmp u]) (w' : World) (g : Nat) (c0 c1 c2 c3 : Value) (tmps : Array Value) (hp : tmps.getD p undef = .pointer (some ⟨g, 0, none⟩)) (hh : Has w' g 43 #[c0, c1, c2, c3]) :
    (results fn tmps).run Tryd.prog w' = .ok (.tuple #[.agg #[c0, c1, c2, c3], tmps.getD u undef]) w' := by
  rw [results_cell_tmp h, hp]
  simp only [asAddr, Sem.run_pure, Result.andThen_ok]
  rw [run_loadVar_row w' g 43 43 #[c0, c1, c2, c3] (0, 0) _ hh Tryd.underlying43 rfl (by kernel_rfl)]
  rfl
set_option maxHeartbeats 16000000 in
theorem pread_any (X Y Z : Nat) (T : List Wk) (A : Option Addr) (n c : Nat) (w : World) (hr : Rd w A (ptB (X : Int) (Y : Int) (Z : Int) T)) (hn : (ptB (X : Int) (Y : Int) (Z : Int) T).length = n) (hlen : n ≤ 1000000) (h256 : ∀ x ∈ ptB (X : Int) (Y : Int) (Z : Int) T, x < 256) (hx : X ≤ 9223372036854775807) (hy : Y ≤ 9223372036854775807) (hz : Z ≤ 9223372036854775807) (hT : T.length ≤ 6) (hS : ∀ x ∈ T, x.t.size ≤ 32 ∧ x.k.size ≤ 900) (hTb : Tabs w) (hok : ptOk (X : Int) (Y : Int) (Z : Int) T = true) :
    Calls Tryd.prog 16 #[.slice A n c] w fun e w' => ∃ v, e = .returned (.tuple #[.agg #[.int .i64 (X : Int), .int .i64 (Y : Int), .int .i64 (Z : Int), v], .int .i64 0]) ∧ Hid (OwnW w.heap.size w' v T) ∧ Hid (Below w.heap.size w w') := by
  have hsp : ptB (X : Int) (Y : Int) (Z : Int) T = digs X ++ (digs Y ++ (digs Z ++ (digs T.length ++ worksB T T.length))) := by
    unfold ptB numsB
    simp
  have hb0 : Below w.heap.size w (w.alloc (.cells #[.int .i64 0, .int .i64 0, .int .i64 0, .slice none 0 0] 43)) := (Below.refl _ w).alloc (Nat.le_refl _) _
  have HR0 := Lib.hid (hr.below hb0)
  have HQ0 := Lib.hid (Has.new w 43 #[.int .i64 0, .int .i64 0, .int .i64 0, .slice none 0 0])
  have HB0 := Lib.hid hb0
  rw [hsp] at HR0 hn h256
  have h2 : ∀ x ∈ digs Y ++ (digs Z ++ (digs T.length ++ worksB T T.length)), x < 256 := fun x hx => h256 x (List.mem_append_right _ hx)
  have h3 : ∀ x ∈ digs Z ++ (digs T.length ++ worksB T T.length), x < 256 := fun x hx => h2 x (List.mem_append_right _ hx)
  have h4 : ∀ x ∈ digs T.length ++ worksB T T.length, x < 256 := fun x hx => h3 x (List.mem_append_right _ hx)
  have h5 : ∀ x ∈ worksB T T.length, x < 256 := fun x hx => h4 x (List.mem_append_right _ hx)
  have n1 : (digs X ++ (digs Y ++ (digs Z ++ (digs T.length ++ worksB T T.length)))).length ≤ 1000000 := by omega
  have n2 : (digs Y ++ (digs Z ++ (digs T.length ++ worksB T T.length))).length ≤ 1000000 := by rw [List.length_append] at n1; omega
  have n3 : (digs Z ++ (digs T.length ++ worksB T T.length)).length ≤ 1000000 := by rw [List.length_append] at n2; omega
  have n4 : (digs T.length ++ worksB T T.length).length ≤ 1000000 := by rw [List.length_append] at n3; omega
  have n5 : (worksB T T.length).length ≤ 1000000 := by rw [List.length_append] at n4; omega
  clear hr hb0 hsp
  obtain ⟨N, hN⟩ : ∃ N, T.length = N := ⟨_, rfl⟩
  rw [hN] at HR0 hn h256 h2 h3 h4 h5 n1 n2 n3 n4 n5
  have HRD := Lib.hid (fun W (h : Rd W A (digs X ++ (digs Y ++ (digs Z ++ (digs N ++ worksB T N))))) => Read_len A _ n c W hn h hlen)
  have HN1 := Lib.hid (fun D g W (hr : RdrD D W g (digs X ++ (digs Y ++ (digs Z ++ (digs N ++ worksB T N)))) 0) => numD_put g X _ W hr hx h256 n1)
  have HN2 := Lib.hid (fun D g W (hr : RdrD D W g (digs Y ++ (digs Z ++ (digs N ++ worksB T N))) 0) => numD_put g Y _ W hr hy h2 n2)
  have HN3 := Lib.hid (fun D g W (hr : RdrD D W g (digs Z ++ (digs N ++ worksB T N)) 0) => numD_put g Z _ W hr hz h3 n3)
  have HN4 := Lib.hid (fun D g W (hr : RdrD D W g (digs N ++ worksB T N) 0) => numD_put g N _ W hr (by omega) h4 n4)
  have hWB : worksB T N = T.flatMap wkB := by unfold worksB; rw [← hN, List.take_length]
  rw [hWB] at h5 n5
  have H5 := Lib.hid h5
  have HSH := Lib.hid hS
  clear h5 hS hWB
  clear h256 h2 h3 h4 n1 n2 n3 n4
  go_enter Tryd.func16, Tryd.ntmps16
  go_wp2_with fail
  obtain ⟨q0, hq0⟩ : ∃ q, w.heap.size = q := ⟨_, rfl⟩
  obtain ⟨W0, hW0⟩ : ∃ W, W = w.alloc (.cells #[.int .i64 0, .int .i64 0, .int .i64 0, .slice none 0 0] 43) := ⟨_, rfl⟩
  have hs0 : q0 < W0.heap.size := by rw [hW0, ← hq0]; simp
  rw [← hW0] at HR0 HQ0 HB0 ⊢
  rw [hq0] at HQ0 HB0 ⊢
  clear hW0
  refine (HRD.out _ HR0.out).mono ?_
  rintro e w1 ⟨g, rfl, hg0, hr1, hb1⟩
  have HQ1 := Lib.hid (HQ0.out.below hb1.out hs0)
  have HB1 := Lib.hid (HB0.out.trans (hb1.out.mono (Nat.le_of_lt hs0)))
  obtain ⟨D, hD⟩ : ∃ D, w1.heap.size = D := ⟨_, rfl⟩
  have hgD : g < D := by obtain ⟨_, _, hh, _⟩ := hr1.out; rw [← hD]; exact hh.lt
  have HR1 := Lib.hid (hr1.out.dd)
  rw [hD] at HR1
  clear hr1 hb1 HQ0 HB0 HR0 HRD
  go_wp2_with fail
  refine (HN1.out _ _ _ HR1.out).mono ?_
  rintro e w2 ⟨rfl, hr2, hg2⟩
  go_wp2_with fail
  refine (HN2.out _ _ _ hr2.out).mono ?_
  rintro e w3 ⟨rfl, hr3, hg3⟩
  have hg3b := Lib.hid (grown_trans hg2.out hg3.out)
  go_wp2_with fail
  refine (HN3.out _ _ _ hr3.out).mono ?_
  rintro e w4 ⟨rfl, hr4, hg4⟩
  have HG4 := Lib.hid (grown_trans hg3b.out hg4.out)
  have HR4 := hr4
  have HQ4 := Lib.hid (HQ1.out.grn HG4.out (by omega))
  have hs4 : D ≤ w4.heap.size := by rw [← hD]; exact HG4.out.size
  clear hr2 hg2 hr3 hg3 hg3b hr4 hg4 HR1 HN1 HN2 HN3 HQ1
  have hb5 : Below w4.heap.size w4 (w4.alloc (.cells #[.int .i64 (X : Int), .int .i64 (Y : Int), .int .i64 (Z : Int), .slice none 0 0] 43)) := (Below.refl _ w4).alloc (Nat.le_refl _) _
  have HP5 := Lib.hid (Has.new w4 43 #[.int .i64 (X : Int), .int .i64 (Y : Int), .int .i64 (Z : Int), .slice none 0 0])
  have HQ5 := Lib.hid (HQ4.out.below hb5 HQ4.out.lt)
  have HG5 := Lib.hid (grn_below HG4.out hb5)
  have HR5 := Lib.hid (HR4.out.al hgD hs4 (.cells #[.int .i64 (X : Int), .int .i64 (Y : Int), .int .i64 (Z : Int), .slice none 0 0] 43))
  clear hb5 HR4 HQ4 HG4
  go_wp2_with fail
  obtain ⟨W5, hW5⟩ : ∃ W, W = w4.alloc (.cells #[.int .i64 (X : Int), .int .i64 (Y : Int), .int .i64 (Z : Int), .slice none 0 0] 43) := ⟨_, rfl⟩
  have hs5 : w4.heap.size < W5.heap.size := by rw [hW5]; simp
  rw [← hW5] at HP5 HQ5 HG5 HR5 ⊢
  clear hW5
  generalize w4.heap.size = q5 at *
  refine (HN4.out _ _ _ HR5.out).mono ?_
  rintro e w6 ⟨rfl, hr6, hg6⟩
  have HP6 := Lib.hid (HP5.out.grn hg6.out (by omega))
  have HQ6 := Lib.hid (HQ5.out.grn hg6.out (by omega))
  have HG6 := Lib.hid (grown_trans HG5.out hg6.out)
  have HR6 := hr6
  have hs6 : q5 < w6.heap.size := Nat.lt_of_lt_of_le hs5 hg6.out.size
  clear hr6 hg6 HP5 HQ5 HG5 HR5 HN4
  go_wp2_with fail
  obtain ⟨wo, rfl⟩ : ∃ wo : World, wo = w6 := ⟨_, rfl⟩
  go_loopw [19] (fun i wx => ∃ (k : Nat) (v : Value), k ≤ N ∧ i = .int .i64 k ∧ Hid (Has wx q5 43 #[.int .i64 (X : Int), .int .i64 (Y : Int), .int .i64 (Z : Int), v]) ∧ Hid (OwnW (q5 + 1) wx v (T.take k)) ∧ Hid (RdrD D wx g ((T.drop k).flatMap wkB) 0) ∧ Hid (Has wx q0 43 #[.int .i64 0, .int .i64 0, .int .i64 0, .slice none 0 0]) ∧ Hid (w1.grownBy wx (some g))) (fun i _ => N - (intOf i).toNat)
  case atStart =>
    refine ⟨0, _, by omega, rfl, HP6.out, ownW_nil _ _, ?_, HQ6.out, HG6.out⟩
    have := HR6.out
    rw [← hN] at this
    unfold worksB at this
    rw [List.take_length] at this
    exact this
  case round =>
    obtain ⟨k, v, hkn, rfl, HPr, HOr, HRr, HQr, HGr⟩ := hrel
    by_cases hkl : k < N
    · have hkt : k < T.length := by omega
      have HR7 := Lib.hid HRr.out
      rw [wdrop_cons T k hkt] at HR7
      have hxs := HSH.out T[k] (List.getElem_mem hkt)
      have hl : ∀ x ∈ wkB ⟨T[k].t, T[k].d, T[k].k⟩ ++ (T.drop (k + 1)).flatMap wkB, x < 256 := fun x hx => H5.out x (wdrop_mem (by rw [wdrop_cons T k hkt]; exact hx))
      have hb : (wkB ⟨T[k].t, T[k].d, T[k].k⟩ ++ (T.drop (k + 1)).flatMap wkB).length ≤ 1000000 := by rw [← wdrop_cons T k hkt]; exact Nat.le_trans (wdrop_len T k) n5
      have HW := Lib.hid (pwork_any g T[k].t T[k].k T[k].d _ wr HR7.out hgD (by rw [← hD]; exact HGr.out.size) hxs.1 hxs.2 hl hb)
      have hkz : (k : Int) < (N : Int) := by omega
      clear HR7 hl hb HRr
      go_wp2_with fail
      refine HW.out.mono ?_
      rintro e w8 ⟨rfl, hr8, hg8⟩
      have hsr : q5 < wr.heap.size := HPr.out.lt
      have hs8 : q5 < w8.heap.size := Nat.lt_of_lt_of_le hsr hg8.out.size
      have hb9 : Below w8.heap.size w8 (w8.alloc (.cells #[.string T[k].t, .bool T[k].d, .string T[k].k] 75)) := (Below.refl _ w8).alloc (Nat.le_refl _) _
      have HP8 := HPr.out.grn hg8.out (by omega)
      have HQ8 := HQr.out.grn hg8.out (by omega)
      have HP9 := Lib.hid (HP8.below hb9 HP8.lt)
      have HQ9 := Lib.hid (HQ8.below hb9 HQ8.lt)
      have HO9 := Lib.hid ((HOr.out.grn hg8.out (by omega)).below hb9)
      have HG9 := Lib.hid (grn_below (grown_trans HGr.out hg8.out) hb9)
      have HR9 := Lib.hid (hr8.out.al hgD (by omega) (.cells #[.string T[k].t, .bool T[k].d, .string T[k].k] 75))
      have HB9 := Lib.hid (Has.new w8 75 #[.string T[k].t, .bool T[k].d, .string T[k].k])
      have hs9 : w8.heap.size < (w8.alloc (.cells #[.string T[k].t, .bool T[k].d, .string T[k].k] 75)).heap.size := by simp
      clear hb9 HP8 HQ8 hr8 hg8 HPr HQr HOr HGr HW
      have HAP := Lib.hid (appW (w8.alloc (.cells #[.string T[k].t, .bool T[k].d, .string T[k].k] 75)) (w8.heap.size + 1) (by simp) (q5 + 1) v (T.take k) ⟨T[k].t, T[k].d, T[k].k⟩ HO9.out (by omega) (by rw [List.length_take]; omega))
      have p3 : (w8.alloc (.cells #[.string T[k].t, .bool T[k].d, .string T[k].k] 75)).cell? ⟨q5, 3, none⟩ = some v := HP9.out.cell 3
      have b0 : (w8.alloc (.cells #[.string T[k].t, .bool T[k].d, .string T[k].k] 75)).cell? ⟨w8.heap.size, 0, none⟩ = some (.string T[k].t) := HB9.out.cell 0
      have b1 : (w8.alloc (.cells #[.string T[k].t, .bool T[k].d, .string T[k].k] 75)).cell? ⟨w8.heap.size, 1, none⟩ = some (.bool T[k].d) := HB9.out.cell 1
      have b2 : (w8.alloc (.cells #[.string T[k].t, .bool T[k].d, .string T[k].k] 75)).cell? ⟨w8.heap.size, 2, none⟩ = some (.string T[k].k) := HB9.out.cell 2
      go_wp2_with (at_builtin; refine wpList_app rfl _ _ 41 41 rfl v (.slice (some ⟨w8.heap.size + 1, 0, none⟩) 1 1) rfl rfl ?_; obtain ⟨R, W', hrun, hmade⟩ := HAP.out; refine ⟨R, W', hrun, ?_⟩; obtain ⟨RA, rn, rc, rfl, _⟩ := ownW_open hmade.1; have HM := Lib.hid hmade; have HPm := Lib.hid (HP9.out.below hmade.2 (by omega)); have m3 : W'.cell? ⟨q5, 3, none⟩ = some v := HPm.out.cell 3; have m4 : W'.frozen? ⟨q5, 3, none⟩ = false := HPm.out.free 3; clear hrun hmade HAP)
      go_roundw
      case rel =>
        refine ⟨k + 1, .slice RA rn rc, by omega, by go_num, HPm.out.put 3 _, ?_, ?_, (HQ9.out.below HM.out.2 (by omega)).far (p := ⟨q5, 3, none⟩) (by show q0 ≠ q5; omega) _, grn_set (grn_belowB HG9.out (by omega) HM.out.2) (p := ⟨q5, 3, none⟩) (by show w1.heap.size ≤ q5; omega) _⟩
        · have h1 := HM.out.1.far (p := ⟨q5, 3, none⟩) (by show q5 < q5 + 1; omega) (.slice RA rn rc)
          rw [List.take_succ_eq_append_getElem hkt]
          exact h1
        · exact HR9.out.keep hgD ((HM.out.2.mono (by omega)).setCell (p := ⟨q5, 3, none⟩) (by show D ≤ q5; omega) _)
      case measure => simp [intOf]; omega
    · obtain rfl : k = N := by omega
      have hkz : ¬ (k : Int) < (k : Int) := by omega
      have HEN := Lib.hid (End_get g _ 0 wr HRr.out.rdr (by rw [← hN, List.drop_length]; simp))
      have hed : endF ((T.drop k).flatMap wkB) 0 = 0 := by rw [← hN, List.drop_length]; rfl
      rw [hed] at HEN
      obtain ⟨VA, vn, vc, rfl, _⟩ := ownW_open HOr.out
      have p0 : wr.cell? ⟨q5, 0, none⟩ = some (.int .i64 (X : Int)) := HPr.out.cell 0
      have p1 : wr.cell? ⟨q5, 1, none⟩ = some (.int .i64 (Y : Int)) := HPr.out.cell 1
      have p2 : wr.cell? ⟨q5, 2, none⟩ = some (.int .i64 (Z : Int)) := HPr.out.cell 2
      have p3 : wr.cell? ⟨q5, 3, none⟩ = some (.slice VA vn vc) := HPr.out.cell 3
      go_wp2_with fail
      refine HEN.out.mono ?_
      rintro e x ⟨rfl, rfl⟩
      go_wp2_with fail
      have HBR : Hid (Below w.heap.size w wr) := Below.turn (by rw [hq0]; exact HB1.out) HGr.out (by rw [hq0]; omega)
      have HOT : Hid (OwnW (q5 + 1) wr (.slice VA vn vc) T) := by have h1 := HOr.out; rw [← hN, List.take_length] at h1; exact h1
      have hMY := pptmay_any (X : Int) (Y : Int) (Z : Int) wr HOT.out (by omega) (fun x hx => ⟨by have := (HSH.out x hx).1; omega, (HSH.out x hx).2⟩) (hTb.below HBR.out)
      rw [hok] at hMY
      refine hMY.mono ?_
      rintro e w10 ⟨rfl, hb10⟩
      have P10 := Lib.hid (HPr.out.below hb10.out HPr.out.lt)
      have Q10 := Lib.hid (HQr.out.below hb10.out HQr.out.lt)
      have O10 := Lib.hid (HOT.out.below hb10.out)
      have B10 := Lib.hid (HBR.out.trans (hb10.out.mono HBR.out.size))
      have P0 : w10.cell? ⟨q5, 0, none⟩ = some (.int .i64 (X : Int)) := P10.out.cell 0
      have P1 : w10.cell? ⟨q5, 1, none⟩ = some (.int .i64 (Y : Int)) := P10.out.cell 1
      have P2 : w10.cell? ⟨q5, 2, none⟩ = some (.int .i64 (Z : Int)) := P10.out.cell 2
      have P3 : w10.cell? ⟨q5, 3, none⟩ = some (.slice VA vn vc) := P10.out.cell 3
      have Q0 : w10.cell? ⟨q0, 0, none⟩ = some (.int .i64 0) := Q10.out.cell 0
      have Q1 : w10.cell? ⟨q0, 1, none⟩ = some (.int .i64 0) := Q10.out.cell 1
      have Q2 : w10.cell? ⟨q0, 2, none⟩ = some (.int .i64 0) := Q10.out.cell 2
      have Q3 : w10.cell? ⟨q0, 3, none⟩ = some (.slice none 0 0) := Q10.out.cell 3
      have F0 : w10.frozen? ⟨q0, 0, none⟩ = false := Q10.out.free 0
      have F1 : w10.frozen? ⟨q0, 1, none⟩ = false := Q10.out.free 1
      have F2 : w10.frozen? ⟨q0, 2, none⟩ = false := Q10.out.free 2
      have F3 : w10.frozen? ⟨q0, 3, none⟩ = false := Q10.out.free 3
      clear hMY
      go_wp2_with fail
      have hE : Hid (Has ((((w10.setCell ⟨q0, 0, none⟩ (.int .i64 (X : Int))).setCell ⟨q0, 1, none⟩ (.int .i64 (Y : Int))).setCell ⟨q0, 2, none⟩ (.int .i64 (Z : Int))).setCell ⟨q0, 3, none⟩ (.slice VA vn vc)) q0 43 #[.int .i64 (X : Int), .int .i64 (Y : Int), .int .i64 (Z : Int), .slice VA vn vc]) := (((Q10.out.put 0 _).put 1 _).put 2 _).put 3 _
      have hO : Hid (OwnW w.heap.size ((((w10.setCell ⟨q0, 0, none⟩ (.int .i64 (X : Int))).setCell ⟨q0, 1, none⟩ (.int .i64 (Y : Int))).setCell ⟨q0, 2, none⟩ (.int .i64 (Z : Int))).setCell ⟨q0, 3, none⟩ (.slice VA vn vc)) (.slice VA vn vc) T) := ownW_down ((((O10.out.far (p := ⟨q0, 0, none⟩) (by show q0 < q5 + 1; omega) _).far (p := ⟨q0, 1, none⟩) (by show q0 < q5 + 1; omega) _).far (p := ⟨q0, 2, none⟩) (by show q0 < q5 + 1; omega) _).far (p := ⟨q0, 3, none⟩) (by show q0 < q5 + 1; omega) _) (by omega)
      have hB : Hid (Below w.heap.size w ((((w10.setCell ⟨q0, 0, none⟩ (.int .i64 (X : Int))).setCell ⟨q0, 1, none⟩ (.int .i64 (Y : Int))).setCell ⟨q0, 2, none⟩ (.int .i64 (Z : Int))).setCell ⟨q0, 3, none⟩ (.slice VA vn vc))) := (((B10.out.setCell (p := ⟨q0, 0, none⟩) (by show w.heap.size ≤ q0; omega) _).setCell (p := ⟨q0, 1, none⟩) (by show w.heap.size ≤ q0; omega) _).setCell (p := ⟨q0, 2, none⟩) (by show w.heap.size ≤ q0; omega) _).setCell (p := ⟨q0, 3, none⟩) (by show w.heap.size ≤ q0; omega) _
      exact bodyPost_ret (pEnd2 rfl _ q0 _ _ _ _ _ rfl hE.out) rfl ⟨_, rfl, hO, hB⟩
end Go.Proofs.YtjkmbggaoinkdaaDoor
