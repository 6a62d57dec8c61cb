/-
  The law ChunkRight walked.
-/
import Derived.Test.YtjmfcbfjeoooeaaDoorRPoint
import Derived.Test.YtjmfcbfjeoooeaaDoorLives11
import Derived.Test.YtjmfcbfjeoooeaaDoorArgsW
namespace Go.Proofs.YtjmfcbfjeoooeaaDoor.chunkRight
open Go.RowKit Dg
set_option maxRecDepth 100000
theorem nextV_form (T : List Wk) : ∃ t d k b, nextV T = .tuple #[.agg #[.string t, .bool d, .string k], .bool b] := by
  unfold nextV
  split
  · exact ⟨_, _, _, _, rfl⟩
  · exact ⟨_, _, _, _, rfl⟩
theorem ptOk_good (x y z : Int) (L : List Wk) : ptOk (absP x) (absP y) (absP z) (goodW L) = true := by
  unfold ptOk
  rw [decide_eq_true (absP_ge x), decide_eq_true (absP_ge y), decide_eq_true (absP_ge z), wright_of (goodW_sort L) (fun x hx => (goodW_good L x hx).may)]
  rfl
set_option maxHeartbeats 16000000 in
theorem walk (x y z : Int) (A : Option Addr) (n c : Nat) (L : List Wk) (w : World) (hx : -9223372036854775808 ≤ x ∧ x ≤ 9223372036854775807) (hy : -9223372036854775808 ≤ y ∧ y ≤ 9223372036854775807) (hz : -9223372036854775808 ≤ z ∧ z ≤ 9223372036854775807) (hn : L.length = n) (hnc : n ≤ c) (hcm : c ≤ maxLen) (hr : WRow w A L) (hf : ∀ x ∈ L, Wk.fit x) (hT : Tabs w) :
    Calls Tryd.prog 3 #[.agg #[.int .i64 x, .int .i64 y, .int .i64 z, .slice A n c]] w fun e w' => e = .returned (.bool true) ∧ Below w.heap.size w w' := by
  have HT := Lib.hid hT
  have hb0 : Below w.heap.size w (w.alloc (.cells #[.int .i64 x, .int .i64 y, .int .i64 z, .slice A n c] 24)) := (Below.refl _ w).alloc (Nat.le_refl _) _
  have HB0 := Lib.hid hb0
  have HX0 := Lib.hid (Has.new w 24 #[.int .i64 x, .int .i64 y, .int .i64 z, .slice A n c])
  have HFEW := Lib.hid (few_any A L n c (w.alloc (.cells #[.int .i64 x, .int .i64 y, .int .i64 z, .slice A n c] 24)) hn hnc hcm (hr.below hb0) hf)
  have HSH := Lib.hid (fewL_short L)
  have hfl := fewL_len L
  clear hn hnc hcm hr hf hT hb0
  generalize fewL L = F at *
  go_enter Tryd.func3, Tryd.ntmps3
  go_wp2_with fail
  refine HFEW.out.mono ?_
  rintro e w1 ⟨v1, rfl, ho1, hb1⟩
  have HB1 := Lib.hid (HB0.out.trans (hb1.out.mono HB0.out.size))
  have HX1 := Lib.hid (HX0.out.below hb1.out HX0.out.lt)
  have HF1 := Lib.hid (ownW_down ho1.out HB0.out.size)
  clear ho1 hb1 HFEW HX0 HB0
  obtain ⟨A1, n1, c1, rfl, _, _, _, _, _⟩ := ownW_open HF1.out
  have y3 : w1.cell? ⟨w.heap.size, 3, none⟩ = some (.slice A n c) := HX1.out.cell 3
  have g3 : w1.frozen? ⟨w.heap.size, 3, none⟩ = false := HX1.out.free 3
  have HX2 := Lib.hid (HX1.out.put 3 (.slice A1 n1 c1))
  have HF2 := Lib.hid (ownW_apart HF1.out HX1.out (by decide) ⟨w.heap.size, 3, none⟩ rfl (.slice A1 n1 c1))
  have HB2 := Lib.hid (HB1.out.setCell (p := ⟨w.heap.size, 3, none⟩) (Nat.le_refl _) (.slice A1 n1 c1))
  have HX2b : Hid (Has (w1.setCell ⟨w.heap.size, 3, none⟩ (.slice A1 n1 c1)) w.heap.size 24 #[.int .i64 x, .int .i64 y, .int .i64 z, .slice A1 n1 c1]) := HX2.out
  have z0 : (w1.setCell ⟨w.heap.size, 3, none⟩ (.slice A1 n1 c1)).cell? ⟨w.heap.size, 0, none⟩ = some (.int .i64 x) := HX2b.out.cell 0
  have z1 : (w1.setCell ⟨w.heap.size, 3, none⟩ (.slice A1 n1 c1)).cell? ⟨w.heap.size, 1, none⟩ = some (.int .i64 y) := HX2b.out.cell 1
  have z2 : (w1.setCell ⟨w.heap.size, 3, none⟩ (.slice A1 n1 c1)).cell? ⟨w.heap.size, 2, none⟩ = some (.int .i64 z) := HX2b.out.cell 2
  have z3 : (w1.setCell ⟨w.heap.size, 3, none⟩ (.slice A1 n1 c1)).cell? ⟨w.heap.size, 3, none⟩ = some (.slice A1 n1 c1) := HX2b.out.cell 3
  go_wp2_with fail
  obtain ⟨W2, hW2⟩ : ∃ W, W = w1.setCell ⟨w.heap.size, 3, none⟩ (.slice A1 n1 c1) := ⟨_, rfl⟩
  rw [← hW2] at HX2b HF2 HB2 ⊢
  clear hW2 y3 g3 z0 z1 z2 z3 HX1 HF1 HB1 HX2
  refine (rpoint_any x y z W2 HF2.out HSH.out hx hy hz).mono ?_
  rintro e w3 ⟨v3, rfl, ho3, hb3⟩
  have hok := ptOk_good x y z F
  have hgs := goodW_sort F
  have hgl := goodW_len F
  have HGG := Lib.hid (goodW_good F)
  have HOK := Lib.hid hok
  have HGS := Lib.hid hgs
  generalize absP x = ax at *
  generalize absP y = ay at *
  generalize absP z = az at *
  generalize goodW F = G at *
  have HB3 := Lib.hid (HB2.out.trans (hb3.out.mono HB2.out.size))
  have HX3 := Lib.hid (HX2b.out.below hb3.out HX2b.out.lt)
  have HF3 := Lib.hid (HF2.out.below hb3.out)
  have HG3 := Lib.hid (ownW_down ho3.out HB2.out.size)
  clear ho3 hb3 HX2b HF2 HB2 hok hgs
  obtain ⟨A3, n3, c3, rfl, _, _, _, _, _⟩ := ownW_open HG3.out
  have HY4 := Lib.hid (Has.new w3 24 #[.int .i64 ax, .int .i64 ay, .int .i64 az, .slice A3 n3 c3])
  have hw4 : Below w3.heap.size w3 (w3.alloc (.cells #[.int .i64 ax, .int .i64 ay, .int .i64 az, .slice A3 n3 c3] 24)) := (Below.refl _ w3).alloc (Nat.le_refl _) _
  have HB4 := Lib.hid (HB3.out.trans (hw4.mono HB3.out.size))
  have HX4 := Lib.hid (HX3.out.below hw4 HX3.out.lt)
  have HF4 := Lib.hid (HF3.out.below hw4)
  have HG4 := Lib.hid (HG3.out.below hw4)
  clear hw4 HX3 HF3 HG3 HB3
  go_wp2_with fail
  obtain ⟨W4, hW4⟩ : ∃ W, W = w3.alloc (.cells #[.int .i64 ax, .int .i64 ay, .int .i64 az, .slice A3 n3 c3] 24) := ⟨_, rfl⟩
  rw [← hW4] at HY4 HX4 HF4 HG4 HB4 ⊢
  clear hW4
  generalize w3.heap.size = q3 at *
  obtain ⟨nt, nd, nk, nb, hnv⟩ := nextV_form G
  have HN1 := Lib.hid (pnext_any W4 HG4.out (by omega))
  rw [hnv] at HN1
  refine HN1.out.mono ?_
  rintro e w5 ⟨rfl, hb5⟩
  have hw6 : Below W4.heap.size W4 (w5.alloc (.cells #[.string nt, .bool nd, .string nk] 28)) := hb5.out.alloc hb5.out.size _
  have HZ6 := Lib.hid (Has.new w5 28 #[.string nt, .bool nd, .string nk])
  have HB6 := Lib.hid (HB4.out.trans (hw6.mono HB4.out.size))
  have HX6 := Lib.hid (HX4.out.below hw6 HX4.out.lt)
  have HY6 := Lib.hid (HY4.out.below hw6 HY4.out.lt)
  have HF6 := Lib.hid (HF4.out.below hw6)
  have HG6 := Lib.hid (HG4.out.below hw6)
  clear hw6 hb5 HX4 HY4 HF4 HG4 HB4 HN1
  have u3 : (w5.alloc (.cells #[.string nt, .bool nd, .string nk] 28)).cell? ⟨q3, 3, none⟩ = some (.slice A3 n3 c3) := HY6.out.cell 3
  go_wp2_with fail
  obtain ⟨W6, hW6⟩ : ∃ W, W = w5.alloc (.cells #[.string nt, .bool nd, .string nk] 28) := ⟨_, rfl⟩
  rw [← hW6] at HZ6 HX6 HY6 HF6 HG6 HB6 ⊢
  clear hW6 u3
  generalize w5.heap.size = q4 at *
  have HN2 := Lib.hid (rnext_any W6 HG6.out (by omega))
  rw [hnv] at HN2
  refine HN2.out.mono ?_
  rintro e w7 ⟨rfl, hb7⟩
  have hw8 : Below W6.heap.size W6 (w7.alloc (.cells #[.string nt, .bool nd, .string nk] 28)) := hb7.out.alloc hb7.out.size _
  have HU8 := Lib.hid (Has.new w7 28 #[.string nt, .bool nd, .string nk])
  have HB8 := Lib.hid (HB6.out.trans (hw8.mono HB6.out.size))
  have HX8 := Lib.hid (HX6.out.below hw8 HX6.out.lt)
  have HY8 := Lib.hid (HY6.out.below hw8 HY6.out.lt)
  have HZ8 := Lib.hid (HZ6.out.below hw8 HZ6.out.lt)
  have HF8 := Lib.hid (HF6.out.below hw8)
  have HG8 := Lib.hid (HG6.out.below hw8)
  clear hw8 hb7 HX6 HY6 HF6 HG6 HB6 HZ6 HN2 hnv
  go_wp2_with fail
  obtain ⟨W8, hW8⟩ : ∃ W, W = w7.alloc (.cells #[.string nt, .bool nd, .string nk] 28) := ⟨_, rfl⟩
  rw [← hW8] at HU8 HZ8 HX8 HY8 HF8 HG8 HB8 ⊢
  clear hW8
  generalize w7.heap.size = q6 at *
  have eq := eqW
  have HSF : Hid (∀ x ∈ F, x.t.size ≤ 140737488355328 ∧ x.k.size ≤ 900) := fun x hx => by have := HSH.out x hx; omega
  have HSF2 : Hid (∀ x ∈ F, x.k.size ≤ 64) := fun x hx => by have := HSH.out x hx; omega
  have HSG : Hid (∀ x ∈ G, x.t.size ≤ 140737488355328 ∧ x.k.size ≤ 900) := fun x hx => by have := (HGG.out x hx).sizes; omega
  obtain ⟨rF, hrF⟩ : ∃ q, wrightF F = q := ⟨_, rfl⟩
  obtain ⟨pF, hpF⟩ : ∃ q, ptOk x y z F = q := ⟨_, rfl⟩
  have hb9 : Hid (Below W8.heap.size W8 W8.drew) := (Below.refl _ W8).drew
  have HX9 := Lib.hid (HX8.out.below hb9.out HX8.out.lt)
  have HY9 := Lib.hid (HY8.out.below hb9.out HY8.out.lt)
  have HZ9 := Lib.hid (HZ8.out.below hb9.out HZ8.out.lt)
  have HU9 := Lib.hid (HU8.out.below hb9.out HU8.out.lt)
  have HF9 := Lib.hid (HF8.out.below hb9.out)
  have HG9 := Lib.hid (HG8.out.below hb9.out)
  have HB9 := Lib.hid (HB8.out.trans (hb9.out.mono HB8.out.size))
  have hS9 : (fun X : World => X.cell? ⟨w.heap.size, 0, none⟩ = some (.int .i64 x) ∧ X.cell? ⟨w.heap.size, 1, none⟩ = some (.int .i64 y) ∧ X.cell? ⟨w.heap.size, 2, none⟩ = some (.int .i64 z) ∧ X.cell? ⟨w.heap.size, 3, none⟩ = some (.slice A1 n1 c1) ∧ X.cell? ⟨q3, 0, none⟩ = some (.int .i64 ax) ∧ X.cell? ⟨q3, 1, none⟩ = some (.int .i64 ay) ∧ X.cell? ⟨q3, 2, none⟩ = some (.int .i64 az) ∧ X.cell? ⟨q3, 3, none⟩ = some (.slice A3 n3 c3) ∧ X.cell? ⟨q4, 0, none⟩ = some (.string nt) ∧ X.cell? ⟨q4, 1, none⟩ = some (.bool nd) ∧ X.cell? ⟨q4, 2, none⟩ = some (.string nk) ∧ X.cell? ⟨q6, 0, none⟩ = some (.string nt) ∧ X.cell? ⟨q6, 1, none⟩ = some (.bool nd) ∧ X.cell? ⟨q6, 2, none⟩ = some (.string nk)) W8.drew := ⟨HX9.out.cell 0, HX9.out.cell 1, HX9.out.cell 2, HX9.out.cell 3, HY9.out.cell 0, HY9.out.cell 1, HY9.out.cell 2, HY9.out.cell 3, HZ9.out.cell 0, HZ9.out.cell 1, HZ9.out.cell 2, HU9.out.cell 0, HU9.out.cell 1, HU9.out.cell 2⟩
  clear HX8 HY8 HZ8 HU8 HF8 HG8 HB8 hb9
  refine wp_region_held_drew (S := (fun X : World => X.cell? ⟨w.heap.size, 0, none⟩ = some (.int .i64 x) ∧ X.cell? ⟨w.heap.size, 1, none⟩ = some (.int .i64 y) ∧ X.cell? ⟨w.heap.size, 2, none⟩ = some (.int .i64 z) ∧ X.cell? ⟨w.heap.size, 3, none⟩ = some (.slice A1 n1 c1) ∧ X.cell? ⟨q3, 0, none⟩ = some (.int .i64 ax) ∧ X.cell? ⟨q3, 1, none⟩ = some (.int .i64 ay) ∧ X.cell? ⟨q3, 2, none⟩ = some (.int .i64 az) ∧ X.cell? ⟨q3, 3, none⟩ = some (.slice A3 n3 c3) ∧ X.cell? ⟨q4, 0, none⟩ = some (.string nt) ∧ X.cell? ⟨q4, 1, none⟩ = some (.bool nd) ∧ X.cell? ⟨q4, 2, none⟩ = some (.string nk) ∧ X.cell? ⟨q6, 0, none⟩ = some (.string nt) ∧ X.cell? ⟨q6, 1, none⟩ = some (.bool nd) ∧ X.cell? ⟨q6, 2, none⟩ = some (.string nk))) (by kernel_rfl) hS9 (fun _ => ?_)
  (refine wpAnyH_take (i := 0) (v := ?_) rfl (by kernel_rfl) (by kernel_rfl) (by kernel_rfl) (fun _ _ _ h => h) (Or.inl ⟨by rfl, ?_⟩) (by assumption) ?_; rotate_left; (intro w hSw; (try dsimp only at hSw); go_simp; try with_reducible rfl); ((try simp only [List.getElem_toArray]); (try simp only [List.getElem_cons_succ]); (try simp only [List.getElem_cons_zero]); (try simp only [Act.put]); (try simp only [List.setIfInBounds_toArray]); (try simp only [List.set_cons_succ]); (try simp only [List.set_cons_zero])))
  (refine wpAnyH_take (i := 1) (v := ?_) rfl (by kernel_rfl) (by kernel_rfl) (by kernel_rfl) (fun _ _ _ h => h) (Or.inl ⟨by rfl, ?_⟩) (by assumption) ?_; rotate_left; (intro w hSw; (try dsimp only at hSw); go_simp; try with_reducible rfl); ((try simp only [List.getElem_toArray]); (try simp only [List.getElem_cons_succ]); (try simp only [List.getElem_cons_zero]); (try simp only [Act.put]); (try simp only [List.setIfInBounds_toArray]); (try simp only [List.set_cons_succ]); (try simp only [List.set_cons_zero])))
  (refine wpAnyH_take (i := 3) (v := ?_) rfl (by kernel_rfl) (by kernel_rfl) (by kernel_rfl) (fun _ _ _ h => h) (Or.inl ⟨by rfl, ?_⟩) (by assumption) ?_; rotate_left; (intro w hSw; (try dsimp only at hSw); go_simp; try with_reducible rfl); ((try simp only [List.getElem_toArray]); (try simp only [List.getElem_cons_succ]); (try simp only [List.getElem_cons_zero]); (try simp only [Act.put]); (try simp only [List.setIfInBounds_toArray]); (try simp only [List.set_cons_succ]); (try simp only [List.set_cons_zero])))
  (refine wpAnyH_take (i := 4) (v := ?_) rfl (by kernel_rfl) (by kernel_rfl) (by kernel_rfl) (fun _ _ _ h => h) (Or.inl ⟨by rfl, ?_⟩) (by assumption) ?_; rotate_left; (intro w hSw; (try dsimp only at hSw); go_simp; try with_reducible rfl); ((try simp only [List.getElem_toArray]); (try simp only [List.getElem_cons_succ]); (try simp only [List.getElem_cons_zero]); (try simp only [Act.put]); (try simp only [List.setIfInBounds_toArray]); (try simp only [List.set_cons_succ]); (try simp only [List.set_cons_zero])))
  refine wpAnyH_ready (rs := [2]) (by kernel_rfl) (by simp) ?_
  refine AllReadyH.cons rfl (fun K2 hK2 => ?_) AllReadyH.nil
  go_simp
  refine (pwright_any _ HF9.out (by omega) HSF.out (HT.out.below HB9.out)).mono ?_
  rintro e w10 ⟨rfl, hb10⟩
  rw [hrF]
  have HX10 := Lib.hid (HX9.out.below hb10.out HX9.out.lt)
  have HY10 := Lib.hid (HY9.out.below hb10.out HY9.out.lt)
  have HZ10 := Lib.hid (HZ9.out.below hb10.out HZ9.out.lt)
  have HU10 := Lib.hid (HU9.out.below hb10.out HU9.out.lt)
  have HF10 := Lib.hid (HF9.out.below hb10.out)
  have HG10 := Lib.hid (HG9.out.below hb10.out)
  have HB10 := Lib.hid (HB9.out.trans (hb10.out.mono HB9.out.size))
  have hS10 : (fun X : World => X.cell? ⟨w.heap.size, 0, none⟩ = some (.int .i64 x) ∧ X.cell? ⟨w.heap.size, 1, none⟩ = some (.int .i64 y) ∧ X.cell? ⟨w.heap.size, 2, none⟩ = some (.int .i64 z) ∧ X.cell? ⟨w.heap.size, 3, none⟩ = some (.slice A1 n1 c1) ∧ X.cell? ⟨q3, 0, none⟩ = some (.int .i64 ax) ∧ X.cell? ⟨q3, 1, none⟩ = some (.int .i64 ay) ∧ X.cell? ⟨q3, 2, none⟩ = some (.int .i64 az) ∧ X.cell? ⟨q3, 3, none⟩ = some (.slice A3 n3 c3) ∧ X.cell? ⟨q4, 0, none⟩ = some (.string nt) ∧ X.cell? ⟨q4, 1, none⟩ = some (.bool nd) ∧ X.cell? ⟨q4, 2, none⟩ = some (.string nk) ∧ X.cell? ⟨q6, 0, none⟩ = some (.string nt) ∧ X.cell? ⟨q6, 1, none⟩ = some (.bool nd) ∧ X.cell? ⟨q6, 2, none⟩ = some (.string nk)) w10 := ⟨HX10.out.cell 0, HX10.out.cell 1, HX10.out.cell 2, HX10.out.cell 3, HY10.out.cell 0, HY10.out.cell 1, HY10.out.cell 2, HY10.out.cell 3, HZ10.out.cell 0, HZ10.out.cell 1, HZ10.out.cell 2, HU10.out.cell 0, HU10.out.cell 1, HU10.out.cell 2⟩
  clear HX9 HY9 HZ9 HU9 HF9 HG9 HB9 hb10
  go_wp2_with fail
  refine hK2.out _ _ (by (try dsimp only); exact hS10) (fun _ => ?_)
  clear hK2 K2
  (try simp only [List.getElem_toArray]); (try simp only [List.getElem_cons_succ]); (try simp only [List.getElem_cons_zero]); (try simp only [Act.put]); (try simp only [List.setIfInBounds_toArray]); (try simp only [List.set_cons_succ]); (try simp only [List.set_cons_zero])
  refine wpAnyH_ready (rs := [5]) (by kernel_rfl) (by simp) ?_
  refine AllReadyH.cons rfl (fun K2 hK2 => ?_) AllReadyH.nil
  go_simp
  refine (rwright_any _ HF10.out (by omega) HSF2.out).mono ?_
  rintro e w11 ⟨rfl, hb11⟩
  rw [hrF]
  have HX11 := Lib.hid (HX10.out.below hb11.out HX10.out.lt)
  have HY11 := Lib.hid (HY10.out.below hb11.out HY10.out.lt)
  have HZ11 := Lib.hid (HZ10.out.below hb11.out HZ10.out.lt)
  have HU11 := Lib.hid (HU10.out.below hb11.out HU10.out.lt)
  have HF11 := Lib.hid (HF10.out.below hb11.out)
  have HG11 := Lib.hid (HG10.out.below hb11.out)
  have HB11 := Lib.hid (HB10.out.trans (hb11.out.mono HB10.out.size))
  have hS11 : (fun X : World => X.cell? ⟨w.heap.size, 0, none⟩ = some (.int .i64 x) ∧ X.cell? ⟨w.heap.size, 1, none⟩ = some (.int .i64 y) ∧ X.cell? ⟨w.heap.size, 2, none⟩ = some (.int .i64 z) ∧ X.cell? ⟨w.heap.size, 3, none⟩ = some (.slice A1 n1 c1) ∧ X.cell? ⟨q3, 0, none⟩ = some (.int .i64 ax) ∧ X.cell? ⟨q3, 1, none⟩ = some (.int .i64 ay) ∧ X.cell? ⟨q3, 2, none⟩ = some (.int .i64 az) ∧ X.cell? ⟨q3, 3, none⟩ = some (.slice A3 n3 c3) ∧ X.cell? ⟨q4, 0, none⟩ = some (.string nt) ∧ X.cell? ⟨q4, 1, none⟩ = some (.bool nd) ∧ X.cell? ⟨q4, 2, none⟩ = some (.string nk) ∧ X.cell? ⟨q6, 0, none⟩ = some (.string nt) ∧ X.cell? ⟨q6, 1, none⟩ = some (.bool nd) ∧ X.cell? ⟨q6, 2, none⟩ = some (.string nk)) w11 := ⟨HX11.out.cell 0, HX11.out.cell 1, HX11.out.cell 2, HX11.out.cell 3, HY11.out.cell 0, HY11.out.cell 1, HY11.out.cell 2, HY11.out.cell 3, HZ11.out.cell 0, HZ11.out.cell 1, HZ11.out.cell 2, HU11.out.cell 0, HU11.out.cell 1, HU11.out.cell 2⟩
  clear HX10 HY10 HZ10 HU10 HF10 HG10 HB10 hb11
  go_wp2_with fail
  refine hK2.out _ _ (by (try dsimp only); exact hS11) (fun _ => ?_)
  clear hK2 K2
  (try simp only [List.getElem_toArray]); (try simp only [List.getElem_cons_succ]); (try simp only [List.getElem_cons_zero]); (try simp only [Act.put]); (try simp only [List.setIfInBounds_toArray]); (try simp only [List.set_cons_succ]); (try simp only [List.set_cons_zero])
  (refine wpAnyH_take (i := 6) (v := ?_) rfl (by kernel_rfl) (by kernel_rfl) (by kernel_rfl) (fun _ _ _ h => h) (Or.inl ⟨by rfl, ?_⟩) (by assumption) ?_; rotate_left; (intro w hSw; (try dsimp only at hSw); go_simp; try with_reducible rfl); ((try simp only [List.getElem_toArray]); (try simp only [List.getElem_cons_succ]); (try simp only [List.getElem_cons_zero]); (try simp only [Act.put]); (try simp only [List.setIfInBounds_toArray]); (try simp only [List.set_cons_succ]); (try simp only [List.set_cons_zero])))
  (refine wpAnyH_take (i := 7) (v := ?_) rfl (by kernel_rfl) (by kernel_rfl) (by kernel_rfl) (fun _ _ _ h => h) (Or.inl ⟨by rfl, ?_⟩) (by assumption) ?_; rotate_left; (intro w hSw; (try dsimp only at hSw); go_simp; try with_reducible rfl); ((try simp only [List.getElem_toArray]); (try simp only [List.getElem_cons_succ]); (try simp only [List.getElem_cons_zero]); (try simp only [Act.put]); (try simp only [List.setIfInBounds_toArray]); (try simp only [List.set_cons_succ]); (try simp only [List.set_cons_zero])))
  (refine wpAnyH_take (i := 8) (v := ?_) rfl (by kernel_rfl) (by kernel_rfl) (by kernel_rfl) (fun _ _ _ h => h) (Or.inl ⟨by rfl, ?_⟩) (by assumption) ?_; rotate_left; (intro w hSw; (try dsimp only at hSw); go_simp; try with_reducible rfl); ((try simp only [List.getElem_toArray]); (try simp only [List.getElem_cons_succ]); (try simp only [List.getElem_cons_zero]); (try simp only [Act.put]); (try simp only [List.setIfInBounds_toArray]); (try simp only [List.set_cons_succ]); (try simp only [List.set_cons_zero])))
  (refine wpAnyH_take (i := 10) (v := ?_) rfl (by kernel_rfl) (by kernel_rfl) (by kernel_rfl) (fun _ _ _ h => h) (Or.inl ⟨by rfl, ?_⟩) (by assumption) ?_; rotate_left; (intro w hSw; (try dsimp only at hSw); go_simp; try with_reducible rfl); ((try simp only [List.getElem_toArray]); (try simp only [List.getElem_cons_succ]); (try simp only [List.getElem_cons_zero]); (try simp only [Act.put]); (try simp only [List.setIfInBounds_toArray]); (try simp only [List.set_cons_succ]); (try simp only [List.set_cons_zero])))
  refine wpAnyH_ready (rs := [9]) (by kernel_rfl) (by simp) ?_
  refine AllReadyH.cons rfl (fun K2 hK2 => ?_) AllReadyH.nil
  go_simp
  refine (pptmay_any x y z _ HF11.out (by omega) HSF.out (HT.out.below HB11.out)).mono ?_
  rintro e w12 ⟨rfl, hb12⟩
  rw [hpF]
  have HX12 := Lib.hid (HX11.out.below hb12.out HX11.out.lt)
  have HY12 := Lib.hid (HY11.out.below hb12.out HY11.out.lt)
  have HZ12 := Lib.hid (HZ11.out.below hb12.out HZ11.out.lt)
  have HU12 := Lib.hid (HU11.out.below hb12.out HU11.out.lt)
  have HF12 := Lib.hid (HF11.out.below hb12.out)
  have HG12 := Lib.hid (HG11.out.below hb12.out)
  have HB12 := Lib.hid (HB11.out.trans (hb12.out.mono HB11.out.size))
  have hS12 : (fun X : World => X.cell? ⟨w.heap.size, 0, none⟩ = some (.int .i64 x) ∧ X.cell? ⟨w.heap.size, 1, none⟩ = some (.int .i64 y) ∧ X.cell? ⟨w.heap.size, 2, none⟩ = some (.int .i64 z) ∧ X.cell? ⟨w.heap.size, 3, none⟩ = some (.slice A1 n1 c1) ∧ X.cell? ⟨q3, 0, none⟩ = some (.int .i64 ax) ∧ X.cell? ⟨q3, 1, none⟩ = some (.int .i64 ay) ∧ X.cell? ⟨q3, 2, none⟩ = some (.int .i64 az) ∧ X.cell? ⟨q3, 3, none⟩ = some (.slice A3 n3 c3) ∧ X.cell? ⟨q4, 0, none⟩ = some (.string nt) ∧ X.cell? ⟨q4, 1, none⟩ = some (.bool nd) ∧ X.cell? ⟨q4, 2, none⟩ = some (.string nk) ∧ X.cell? ⟨q6, 0, none⟩ = some (.string nt) ∧ X.cell? ⟨q6, 1, none⟩ = some (.bool nd) ∧ X.cell? ⟨q6, 2, none⟩ = some (.string nk)) w12 := ⟨HX12.out.cell 0, HX12.out.cell 1, HX12.out.cell 2, HX12.out.cell 3, HY12.out.cell 0, HY12.out.cell 1, HY12.out.cell 2, HY12.out.cell 3, HZ12.out.cell 0, HZ12.out.cell 1, HZ12.out.cell 2, HU12.out.cell 0, HU12.out.cell 1, HU12.out.cell 2⟩
  clear HX11 HY11 HZ11 HU11 HF11 HG11 HB11 hb12
  go_wp2_with fail
  refine hK2.out _ _ (by (try dsimp only); exact hS12) (fun _ => ?_)
  clear hK2 K2
  (try simp only [List.getElem_toArray]); (try simp only [List.getElem_cons_succ]); (try simp only [List.getElem_cons_zero]); (try simp only [Act.put]); (try simp only [List.setIfInBounds_toArray]); (try simp only [List.set_cons_succ]); (try simp only [List.set_cons_zero])
  refine wpAnyH_ready (rs := [11]) (by kernel_rfl) (by simp) ?_
  refine AllReadyH.cons rfl (fun K2 hK2 => ?_) AllReadyH.nil
  go_simp
  refine (rptmay_any x y z _ HF12.out (by omega) HSF2.out).mono ?_
  rintro e w13 ⟨rfl, hb13⟩
  rw [hpF]
  have HX13 := Lib.hid (HX12.out.below hb13.out HX12.out.lt)
  have HY13 := Lib.hid (HY12.out.below hb13.out HY12.out.lt)
  have HZ13 := Lib.hid (HZ12.out.below hb13.out HZ12.out.lt)
  have HU13 := Lib.hid (HU12.out.below hb13.out HU12.out.lt)
  have HF13 := Lib.hid (HF12.out.below hb13.out)
  have HG13 := Lib.hid (HG12.out.below hb13.out)
  have HB13 := Lib.hid (HB12.out.trans (hb13.out.mono HB12.out.size))
  have hS13 : (fun X : World => X.cell? ⟨w.heap.size, 0, none⟩ = some (.int .i64 x) ∧ X.cell? ⟨w.heap.size, 1, none⟩ = some (.int .i64 y) ∧ X.cell? ⟨w.heap.size, 2, none⟩ = some (.int .i64 z) ∧ X.cell? ⟨w.heap.size, 3, none⟩ = some (.slice A1 n1 c1) ∧ X.cell? ⟨q3, 0, none⟩ = some (.int .i64 ax) ∧ X.cell? ⟨q3, 1, none⟩ = some (.int .i64 ay) ∧ X.cell? ⟨q3, 2, none⟩ = some (.int .i64 az) ∧ X.cell? ⟨q3, 3, none⟩ = some (.slice A3 n3 c3) ∧ X.cell? ⟨q4, 0, none⟩ = some (.string nt) ∧ X.cell? ⟨q4, 1, none⟩ = some (.bool nd) ∧ X.cell? ⟨q4, 2, none⟩ = some (.string nk) ∧ X.cell? ⟨q6, 0, none⟩ = some (.string nt) ∧ X.cell? ⟨q6, 1, none⟩ = some (.bool nd) ∧ X.cell? ⟨q6, 2, none⟩ = some (.string nk)) w13 := ⟨HX13.out.cell 0, HX13.out.cell 1, HX13.out.cell 2, HX13.out.cell 3, HY13.out.cell 0, HY13.out.cell 1, HY13.out.cell 2, HY13.out.cell 3, HZ13.out.cell 0, HZ13.out.cell 1, HZ13.out.cell 2, HU13.out.cell 0, HU13.out.cell 1, HU13.out.cell 2⟩
  clear HX12 HY12 HZ12 HU12 HF12 HG12 HB12 hb13
  go_wp2_with fail
  refine hK2.out _ _ (by (try dsimp only); exact hS13) (fun _ => ?_)
  clear hK2 K2
  (try simp only [List.getElem_toArray]); (try simp only [List.getElem_cons_succ]); (try simp only [List.getElem_cons_zero]); (try simp only [Act.put]); (try simp only [List.setIfInBounds_toArray]); (try simp only [List.set_cons_succ]); (try simp only [List.set_cons_zero])
  (refine wpAnyH_take (i := 12) (v := ?_) rfl (by kernel_rfl) (by kernel_rfl) (by kernel_rfl) (fun _ _ _ h => h) (Or.inl ⟨by rfl, ?_⟩) (by assumption) ?_; rotate_left; (intro w hSw; (try dsimp only at hSw); go_simp; try with_reducible rfl); ((try simp only [List.getElem_toArray]); (try simp only [List.getElem_cons_succ]); (try simp only [List.getElem_cons_zero]); (try simp only [Act.put]); (try simp only [List.setIfInBounds_toArray]); (try simp only [List.set_cons_succ]); (try simp only [List.set_cons_zero])))
  (refine wpAnyH_take (i := 13) (v := ?_) rfl (by kernel_rfl) (by kernel_rfl) (by kernel_rfl) (fun _ _ _ h => h) (Or.inl ⟨by rfl, ?_⟩) (by assumption) ?_; rotate_left; (intro w hSw; (try dsimp only at hSw); go_simp; try with_reducible rfl); ((try simp only [List.getElem_toArray]); (try simp only [List.getElem_cons_succ]); (try simp only [List.getElem_cons_zero]); (try simp only [Act.put]); (try simp only [List.setIfInBounds_toArray]); (try simp only [List.set_cons_succ]); (try simp only [List.set_cons_zero])))
  (refine wpAnyH_take (i := 14) (v := ?_) rfl (by kernel_rfl) (by kernel_rfl) (by kernel_rfl) (fun _ _ _ h => h) (Or.inl ⟨by rfl, ?_⟩) (by assumption) ?_; rotate_left; (intro w hSw; (try dsimp only at hSw); go_simp; try with_reducible rfl); ((try simp only [List.getElem_toArray]); (try simp only [List.getElem_cons_succ]); (try simp only [List.getElem_cons_zero]); (try simp only [Act.put]); (try simp only [List.setIfInBounds_toArray]); (try simp only [List.set_cons_succ]); (try simp only [List.set_cons_zero])))
  (refine wpAnyH_take (i := 15) (v := ?_) rfl (by kernel_rfl) (by kernel_rfl) (by kernel_rfl) (fun _ _ _ h => h) (Or.inl ⟨by rfl, ?_⟩) (by assumption) ?_; rotate_left; (intro w hSw; (try dsimp only at hSw); go_simp; try with_reducible rfl); ((try simp only [List.getElem_toArray]); (try simp only [List.getElem_cons_succ]); (try simp only [List.getElem_cons_zero]); (try simp only [Act.put]); (try simp only [List.setIfInBounds_toArray]); (try simp only [List.set_cons_succ]); (try simp only [List.set_cons_zero])))
  refine wpAnyH_ready (rs := [16]) (by kernel_rfl) (by simp) ?_
  refine AllReadyH.cons rfl (fun K2 hK2 => ?_) AllReadyH.nil
  go_simp
  refine (pptmay_any ax ay az _ HG13.out (by omega) HSG.out (HT.out.below HB13.out)).mono ?_
  rintro e w14 ⟨rfl, hb14⟩
  rw [HOK.out]
  have HX14 := Lib.hid (HX13.out.below hb14.out HX13.out.lt)
  have HY14 := Lib.hid (HY13.out.below hb14.out HY13.out.lt)
  have HZ14 := Lib.hid (HZ13.out.below hb14.out HZ13.out.lt)
  have HU14 := Lib.hid (HU13.out.below hb14.out HU13.out.lt)
  have HF14 := Lib.hid (HF13.out.below hb14.out)
  have HG14 := Lib.hid (HG13.out.below hb14.out)
  have HB14 := Lib.hid (HB13.out.trans (hb14.out.mono HB13.out.size))
  have hS14 : (fun X : World => X.cell? ⟨w.heap.size, 0, none⟩ = some (.int .i64 x) ∧ X.cell? ⟨w.heap.size, 1, none⟩ = some (.int .i64 y) ∧ X.cell? ⟨w.heap.size, 2, none⟩ = some (.int .i64 z) ∧ X.cell? ⟨w.heap.size, 3, none⟩ = some (.slice A1 n1 c1) ∧ X.cell? ⟨q3, 0, none⟩ = some (.int .i64 ax) ∧ X.cell? ⟨q3, 1, none⟩ = some (.int .i64 ay) ∧ X.cell? ⟨q3, 2, none⟩ = some (.int .i64 az) ∧ X.cell? ⟨q3, 3, none⟩ = some (.slice A3 n3 c3) ∧ X.cell? ⟨q4, 0, none⟩ = some (.string nt) ∧ X.cell? ⟨q4, 1, none⟩ = some (.bool nd) ∧ X.cell? ⟨q4, 2, none⟩ = some (.string nk) ∧ X.cell? ⟨q6, 0, none⟩ = some (.string nt) ∧ X.cell? ⟨q6, 1, none⟩ = some (.bool nd) ∧ X.cell? ⟨q6, 2, none⟩ = some (.string nk)) w14 := ⟨HX14.out.cell 0, HX14.out.cell 1, HX14.out.cell 2, HX14.out.cell 3, HY14.out.cell 0, HY14.out.cell 1, HY14.out.cell 2, HY14.out.cell 3, HZ14.out.cell 0, HZ14.out.cell 1, HZ14.out.cell 2, HU14.out.cell 0, HU14.out.cell 1, HU14.out.cell 2⟩
  clear HX13 HY13 HZ13 HU13 HF13 HG13 HB13 hb14
  go_wp2_with fail
  refine hK2.out _ _ (by (try dsimp only); exact hS14) (fun _ => ?_)
  clear hK2 K2
  (try simp only [List.getElem_toArray]); (try simp only [List.getElem_cons_succ]); (try simp only [List.getElem_cons_zero]); (try simp only [Act.put]); (try simp only [List.setIfInBounds_toArray]); (try simp only [List.set_cons_succ]); (try simp only [List.set_cons_zero])
  (refine wpAnyH_take (i := 17) (v := ?_) rfl (by kernel_rfl) (by kernel_rfl) (by kernel_rfl) (fun _ _ _ h => h) (Or.inl ⟨by rfl, ?_⟩) (by assumption) ?_; rotate_left; (intro w hSw; (try dsimp only at hSw); go_simp; try with_reducible rfl); ((try simp only [List.getElem_toArray]); (try simp only [List.getElem_cons_succ]); (try simp only [List.getElem_cons_zero]); (try simp only [Act.put]); (try simp only [List.setIfInBounds_toArray]); (try simp only [List.set_cons_succ]); (try simp only [List.set_cons_zero])))
  (refine wpAnyH_take (i := 18) (v := ?_) rfl (by kernel_rfl) (by kernel_rfl) (by kernel_rfl) (fun _ _ _ h => h) (Or.inl ⟨by rfl, ?_⟩) (by assumption) ?_; rotate_left; (intro w hSw; (try dsimp only at hSw); go_simp; try with_reducible rfl); ((try simp only [List.getElem_toArray]); (try simp only [List.getElem_cons_succ]); (try simp only [List.getElem_cons_zero]); (try simp only [Act.put]); (try simp only [List.setIfInBounds_toArray]); (try simp only [List.set_cons_succ]); (try simp only [List.set_cons_zero])))
  (refine wpAnyH_take (i := 19) (v := ?_) rfl (by kernel_rfl) (by kernel_rfl) (by kernel_rfl) (fun _ _ _ h => h) (Or.inl ⟨by rfl, ?_⟩) (by assumption) ?_; rotate_left; (intro w hSw; (try dsimp only at hSw); go_simp; try with_reducible rfl); ((try simp only [List.getElem_toArray]); (try simp only [List.getElem_cons_succ]); (try simp only [List.getElem_cons_zero]); (try simp only [Act.put]); (try simp only [List.setIfInBounds_toArray]); (try simp only [List.set_cons_succ]); (try simp only [List.set_cons_zero])))
  (refine wpAnyH_take (i := 20) (v := ?_) rfl (by kernel_rfl) (by kernel_rfl) (by kernel_rfl) (fun _ _ _ h => h) (Or.inl ⟨by rfl, ?_⟩) (by assumption) ?_; rotate_left; (intro w hSw; (try dsimp only at hSw); go_simp; try with_reducible rfl); ((try simp only [List.getElem_toArray]); (try simp only [List.getElem_cons_succ]); (try simp only [List.getElem_cons_zero]); (try simp only [Act.put]); (try simp only [List.setIfInBounds_toArray]); (try simp only [List.set_cons_succ]); (try simp only [List.set_cons_zero])))
  (refine wpAnyH_take (i := 21) (v := ?_) rfl (by kernel_rfl) (by kernel_rfl) (by kernel_rfl) (fun _ _ _ h => h) (Or.inl ⟨by rfl, ?_⟩) (by assumption) ?_; rotate_left; (intro w hSw; (try dsimp only at hSw); go_simp; try with_reducible rfl); ((try simp only [List.getElem_toArray]); (try simp only [List.getElem_cons_succ]); (try simp only [List.getElem_cons_zero]); (try simp only [Act.put]); (try simp only [List.setIfInBounds_toArray]); (try simp only [List.set_cons_succ]); (try simp only [List.set_cons_zero])))
  (refine wpAnyH_take (i := 22) (v := ?_) rfl (by kernel_rfl) (by kernel_rfl) (by kernel_rfl) (fun _ _ _ h => h) (Or.inl ⟨by rfl, ?_⟩) (by assumption) ?_; rotate_left; (intro w hSw; (try dsimp only at hSw); go_simp; try with_reducible rfl); ((try simp only [List.getElem_toArray]); (try simp only [List.getElem_cons_succ]); (try simp only [List.getElem_cons_zero]); (try simp only [Act.put]); (try simp only [List.setIfInBounds_toArray]); (try simp only [List.set_cons_succ]); (try simp only [List.set_cons_zero])))
  (refine wpAnyH_take (i := 23) (v := ?_) rfl (by kernel_rfl) (by kernel_rfl) (by kernel_rfl) (fun _ _ _ h => h) (Or.inl ⟨by rfl, ?_⟩) (by assumption) ?_; rotate_left; (intro w hSw; (try dsimp only at hSw); go_simp; try with_reducible rfl); ((try simp only [List.getElem_toArray]); (try simp only [List.getElem_cons_succ]); (try simp only [List.getElem_cons_zero]); (try simp only [Act.put]); (try simp only [List.setIfInBounds_toArray]); (try simp only [List.set_cons_succ]); (try simp only [List.set_cons_zero])))
  (refine wpAnyH_take (i := 24) (v := ?_) rfl (by kernel_rfl) (by kernel_rfl) (by kernel_rfl) (fun _ _ _ h => h) (Or.inl ⟨by rfl, ?_⟩) (by assumption) ?_; rotate_left; (intro w hSw; (try dsimp only at hSw); go_simp; try with_reducible rfl); ((try simp only [List.getElem_toArray]); (try simp only [List.getElem_cons_succ]); (try simp only [List.getElem_cons_zero]); (try simp only [Act.put]); (try simp only [List.setIfInBounds_toArray]); (try simp only [List.set_cons_succ]); (try simp only [List.set_cons_zero])))
  (refine wpAnyH_take (i := 25) (v := ?_) rfl (by kernel_rfl) (by kernel_rfl) (by kernel_rfl) (fun _ _ _ h => h) (Or.inl ⟨by rfl, ?_⟩) (by assumption) ?_; rotate_left; (intro w hSw; (try dsimp only at hSw); go_simp; try with_reducible rfl); ((try simp only [List.getElem_toArray]); (try simp only [List.getElem_cons_succ]); (try simp only [List.getElem_cons_zero]); (try simp only [Act.put]); (try simp only [List.setIfInBounds_toArray]); (try simp only [List.set_cons_succ]); (try simp only [List.set_cons_zero])))
  (refine wpAnyH_take (i := 26) (v := ?_) rfl (by kernel_rfl) (by kernel_rfl) (by kernel_rfl) (fun _ _ _ h => h) (Or.inl ⟨by rfl, ?_⟩) (by assumption) ?_; rotate_left; (intro w hSw; (try dsimp only at hSw); go_simp; try with_reducible rfl); ((try simp only [List.getElem_toArray]); (try simp only [List.getElem_cons_succ]); (try simp only [List.getElem_cons_zero]); (try simp only [Act.put]); (try simp only [List.setIfInBounds_toArray]); (try simp only [List.set_cons_succ]); (try simp only [List.set_cons_zero])))
  (refine wpAnyH_take (i := 27) (v := ?_) rfl (by kernel_rfl) (by kernel_rfl) (by kernel_rfl) (fun _ _ _ h => h) (Or.inl ⟨by rfl, ?_⟩) (by assumption) ?_; rotate_left; (intro w hSw; (try dsimp only at hSw); go_simp; try with_reducible rfl); ((try simp only [List.getElem_toArray]); (try simp only [List.getElem_cons_succ]); (try simp only [List.getElem_cons_zero]); (try simp only [Act.put]); (try simp only [List.setIfInBounds_toArray]); (try simp only [List.set_cons_succ]); (try simp only [List.set_cons_zero])))
  (refine wpAnyH_take (i := 28) (v := ?_) rfl (by kernel_rfl) (by kernel_rfl) (by kernel_rfl) (fun _ _ _ h => h) (Or.inl ⟨by rfl, ?_⟩) (by assumption) ?_; rotate_left; (intro w hSw; (try dsimp only at hSw); go_simp; try with_reducible rfl); ((try simp only [List.getElem_toArray]); (try simp only [List.getElem_cons_succ]); (try simp only [List.getElem_cons_zero]); (try simp only [Act.put]); (try simp only [List.setIfInBounds_toArray]); (try simp only [List.set_cons_succ]); (try simp only [List.set_cons_zero])))
  refine wpAnyH_ready (rs := [29]) (by kernel_rfl) (by simp) ?_
  refine AllReadyH.cons rfl (fun K2 hK2 => ?_) AllReadyH.nil
  go_simp
  refine (lives11_any _ (HT.out.below HB14.out)).mono ?_
  rintro e w15 ⟨rfl, hb15'⟩
  have hb15 := Lib.hid hb15'
  clear hb15'
  have HX15 := Lib.hid (HX14.out.below hb15.out HX14.out.lt)
  have HY15 := Lib.hid (HY14.out.below hb15.out HY14.out.lt)
  have HZ15 := Lib.hid (HZ14.out.below hb15.out HZ14.out.lt)
  have HU15 := Lib.hid (HU14.out.below hb15.out HU14.out.lt)
  have HF15 := Lib.hid (HF14.out.below hb15.out)
  have HG15 := Lib.hid (HG14.out.below hb15.out)
  have HB15 := Lib.hid (HB14.out.trans (hb15.out.mono HB14.out.size))
  have hS15 : (fun X : World => X.cell? ⟨w.heap.size, 0, none⟩ = some (.int .i64 x) ∧ X.cell? ⟨w.heap.size, 1, none⟩ = some (.int .i64 y) ∧ X.cell? ⟨w.heap.size, 2, none⟩ = some (.int .i64 z) ∧ X.cell? ⟨w.heap.size, 3, none⟩ = some (.slice A1 n1 c1) ∧ X.cell? ⟨q3, 0, none⟩ = some (.int .i64 ax) ∧ X.cell? ⟨q3, 1, none⟩ = some (.int .i64 ay) ∧ X.cell? ⟨q3, 2, none⟩ = some (.int .i64 az) ∧ X.cell? ⟨q3, 3, none⟩ = some (.slice A3 n3 c3) ∧ X.cell? ⟨q4, 0, none⟩ = some (.string nt) ∧ X.cell? ⟨q4, 1, none⟩ = some (.bool nd) ∧ X.cell? ⟨q4, 2, none⟩ = some (.string nk) ∧ X.cell? ⟨q6, 0, none⟩ = some (.string nt) ∧ X.cell? ⟨q6, 1, none⟩ = some (.bool nd) ∧ X.cell? ⟨q6, 2, none⟩ = some (.string nk)) w15 := ⟨HX15.out.cell 0, HX15.out.cell 1, HX15.out.cell 2, HX15.out.cell 3, HY15.out.cell 0, HY15.out.cell 1, HY15.out.cell 2, HY15.out.cell 3, HZ15.out.cell 0, HZ15.out.cell 1, HZ15.out.cell 2, HU15.out.cell 0, HU15.out.cell 1, HU15.out.cell 2⟩
  clear HX14 HY14 HZ14 HU14 HF14 HG14 HB14 hb15
  go_wp2_with fail
  refine hK2.out _ _ (by (try dsimp only); exact hS15) (fun _ => ?_)
  clear hK2 K2
  (try simp only [List.getElem_toArray]); (try simp only [List.getElem_cons_succ]); (try simp only [List.getElem_cons_zero]); (try simp only [Act.put]); (try simp only [List.setIfInBounds_toArray]); (try simp only [List.set_cons_succ]); (try simp only [List.set_cons_zero])
  (refine wpAnyH_take (i := 30) (v := ?_) rfl (by kernel_rfl) (by kernel_rfl) (by kernel_rfl) (fun _ _ _ h => h) (Or.inl ⟨by rfl, ?_⟩) (by assumption) ?_; rotate_left; (intro w hSw; (try dsimp only at hSw); go_simp; try with_reducible rfl); ((try simp only [List.getElem_toArray]); (try simp only [List.getElem_cons_succ]); (try simp only [List.getElem_cons_zero]); (try simp only [Act.put]); (try simp only [List.setIfInBounds_toArray]); (try simp only [List.set_cons_succ]); (try simp only [List.set_cons_zero])))
  (refine wpAnyH_take (i := 31) (v := ?_) rfl (by kernel_rfl) (by kernel_rfl) (by kernel_rfl) (fun _ _ _ h => h) (Or.inl ⟨by rfl, ?_⟩) (by assumption) ?_; rotate_left; (intro w hSw; (try dsimp only at hSw); go_simp; try with_reducible rfl); ((try simp only [List.getElem_toArray]); (try simp only [List.getElem_cons_succ]); (try simp only [List.getElem_cons_zero]); (try simp only [Act.put]); (try simp only [List.setIfInBounds_toArray]); (try simp only [List.set_cons_succ]); (try simp only [List.set_cons_zero])))
  refine wpAnyH_done (by kernel_rfl) ?_ _
  go_wp2_with fail
  go_ret
  exact ⟨rfl, HB15.out⟩
end Go.Proofs.YtjmfcbfjeoooeaaDoor.chunkRight
