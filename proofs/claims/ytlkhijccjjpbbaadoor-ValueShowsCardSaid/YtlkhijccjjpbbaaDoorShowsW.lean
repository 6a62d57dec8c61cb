/-
  The law ValueShows walked: a value as a text is the document's, and two of one kind have the same just if they are the same.
-/
import Derived.Test.YtlkhijccjjpbbaaDoorShows
import Derived.Test.YtlkhijccjjpbbaaDoorGoods
import Derived.Test.YtlkhijccjjpbbaaDoorLives
namespace Go.Proofs.YtlkhijccjjpbbaaDoor.valueShows
open Go.RowKit Dg
theorem good_kind (x : Vl) : x.good.k = 0 ∨ x.good.k = 1 ∨ x.good.k = 2 ∨ x.good.k = 3 ∨ x.good.k = 4 := by
  unfold Vl.good
  rcases kind5_cases x.k with h | h | h | h | h <;> simp [h]
set_option maxHeartbeats 8000000 in
set_option maxRecDepth 100000 in
theorem walk (k n : Int) (s : ByteArray) (k' n' : Int) (s' : ByteArray) (w : World) (hf : Vl.fits ⟨k, n, s⟩) (hf' : Vl.fits ⟨k', n', s'⟩) (hT : Tabs w) (hP : Pows w) :
    Calls Tryd.prog 8 #[.agg #[.int .i64 k, .int .i64 n, .string s], .agg #[.int .i64 k', .int .i64 n', .string s']] w fun e w' => e = .returned (.bool true) ∧ Below w.heap.size w w' := by
  have HT := Lib.hid hT
  have HP := Lib.hid hP
  obtain ⟨⟨f0, f1, f2⟩, f3, f4⟩ := hf
  obtain ⟨⟨f0', f1', f2'⟩, f3', f4'⟩ := hf'
  simp only at f0 f1 f2 f3 f4 f0' f1' f2' f3' f4'
  have hmay := good_may ⟨k, n, s⟩
  have hfit := good_fits ⟨k, n, s⟩ ⟨⟨f0, f1, f2⟩, f3, f4⟩
  have hsz := good_size ⟨k, n, s⟩
  have hkd := good_kind ⟨k, n, s⟩
  have HGA := Lib.hid (fun W => good_any k n s W f2 f3 f4)
  have hmay' := good_may ⟨k', n', s'⟩
  have hfit' := good_fits ⟨k', n', s'⟩ ⟨⟨f0', f1', f2'⟩, f3', f4'⟩
  have hsz' := good_size ⟨k', n', s'⟩
  have hkd' := good_kind ⟨k', n', s'⟩
  have HGB := Lib.hid (fun W => good_any k' n' s' W f2' f3' f4')
  generalize Vl.good ⟨k, n, s⟩ = y at *
  generalize Vl.good ⟨k', n', s'⟩ = z at *
  obtain ⟨yk, yn, ys⟩ := y
  obtain ⟨zk, zn, zs⟩ := z
  obtain ⟨⟨g0, g1, g2⟩, _, _⟩ := hfit
  obtain ⟨⟨g0', g1', g2'⟩, _, _⟩ := hfit'
  have hmy : mayF yk yn ys = true := hmay
  have hmz : mayF zk zn zs = true := hmay'
  simp only at g0 g1 g2 hsz hkd g0' g1' g2' hsz' hkd'
  unfold Vl.val at HGA HGB
  simp only at HGA HGB
  clear hmay hmay' hT hP
  have HSA := Lib.hid (fun W h => show_any yk yn ys W hkd (by omega) g0 g1 h)
  have HSB := Lib.hid (fun W h => show_any zk zn zs W hkd' (by omega) g0' g1' h)
  have HRA := Lib.hid (fun W => refShow_any yk yn ys W hkd (by omega) g0 g1)
  have HRB := Lib.hid (fun W => refShow_any zk zn zs W hkd' (by omega) g0' g1')
  have HB0 := Lib.hid (((Below.refl w.heap.size w).alloc (Nat.le_refl _) (.cells #[.int .i64 k, .int .i64 n, .string s] 23)).alloc (by simp) (.cells #[.int .i64 k', .int .i64 n', .string s'] 23))
  have HQ0 := Has.new (w.alloc (.cells #[.int .i64 k, .int .i64 n, .string s] 23)) 23 #[.int .i64 k', .int .i64 n', .string s']
  rw [show (w.alloc (.cells #[.int .i64 k, .int .i64 n, .string s] 23)).heap.size = w.heap.size + 1 by simp] at HQ0
  have HQ := Lib.hid HQ0
  clear HQ0
  have h3 : ¬ yk = zk ∨ (yk = zk ∧ yn = zn ∧ ys = zs) ∨ (yk = zk ∧ ¬ (yn = zn ∧ ys = zs)) := by
    by_cases h : yk = zk
    · by_cases h2 : yn = zn ∧ ys = zs
      · exact .inr (.inl ⟨h, h2⟩)
      · exact .inr (.inr ⟨h, h2⟩)
    · exact .inl h
  have h4 : ((yk != zk) = true ∧ True) ∨ ((yk != zk) = false ∧ ∃ D : Bool, ((bs (showL yk yn ys)).toList == (bs (showL zk zn zs)).toList) = D ∧ ∀ W, (Op.equalIn 10000 23 (.agg #[.int .i64 yk, .int .i64 yn, .string ys]) (.agg #[.int .i64 zk, .int .i64 zn, .string zs])).run Tryd.prog W = .ok D W) := by
    rcases h3 with h | ⟨rfl, rfl, rfl⟩ | ⟨rfl, h⟩
    · exact .inl ⟨by simp [h], trivial⟩
    · exact .inr ⟨by simp, true, by simp, fun W => by rw [eqV]; simp⟩
    · refine .inr ⟨by simp, false, ?_, fun W => ?_⟩
      · rw [bs_eqb (showL_byte _ _ _) (showL_byte _ _ _)]
        simp only [decide_eq_false_iff_not]
        exact fun e => h (show_eq yk yn zn ys zs hmy hmz e)
      · rw [eqV]
        congr 1
        by_cases h1 : yn = zn
        · have h2 : ¬ ys = zs := fun e => h ⟨h1, e⟩
          have h5 : (ys.toList == zs.toList) = false := by
            simp only [beq_eq_false_iff_ne]
            intro e
            rw [ByteArray.toList_eq, ByteArray.toList_eq] at e
            exact h2 (ByteArray.ext (Array.toList_inj.1 e))
          simp [h5]
        · simp [h1]
  generalize bs (showL yk yn ys) = SP at *
  generalize bs (showL zk zn zs) = SQ at *
  clear h3 hmy hmz hkd hkd' hsz hsz'
  rcases h4 with ⟨hne, _⟩ | ⟨hne, D, hD, heq⟩
  · go_enter Tryd.func8, Tryd.ntmps8
    go_wp2_with fail
    refine (HGA.out _).mono ?_
    rintro e w1 ⟨rfl, hb1⟩
    have HB1 := Lib.hid (HB0.out.trans (hb1.out.mono HB0.out.size))
    have HQ1 := Lib.hid (HQ.out.below hb1.out HQ.out.lt)
    have HB2 : Hid (Below w.heap.size w (w1.alloc (.cells #[.int .i64 yk, .int .i64 yn, .string ys] 23))) := HB1.out.alloc HB1.out.size _
    have HQ2 : Hid (Has (w1.alloc (.cells #[.int .i64 yk, .int .i64 yn, .string ys] 23)) (w.heap.size + 1) 23 #[.int .i64 k', .int .i64 n', .string s']) := HQ1.out.alloc _
    have HX2 : Hid (Has (w1.alloc (.cells #[.int .i64 yk, .int .i64 yn, .string ys] 23)) w1.heap.size 23 #[.int .i64 yk, .int .i64 yn, .string ys]) := Has.new _ _ _
    have c0 := HQ2.out.cell 0
    have c1 := HQ2.out.cell 1
    have c2 := HQ2.out.cell 2
    simp only [List.getElem?_toArray, List.getElem?_cons_zero, List.getElem?_cons_succ] at c0 c1 c2
    have hz1 := HQ1.out.lt
    clear hb1
    go_wp2_with fail
    refine (HGB.out _).mono ?_
    rintro e w2 ⟨rfl, hb2⟩
    have HB3 := Lib.hid (HB2.out.trans (hb2.out.mono HB2.out.size))
    have HX3 := Lib.hid (HX2.out.below hb2.out HX2.out.lt)
    have HB4 : Hid (Below w.heap.size w (w2.alloc (.cells #[.int .i64 zk, .int .i64 zn, .string zs] 23))) := HB3.out.alloc HB3.out.size _
    have HX4 : Hid (Has (w2.alloc (.cells #[.int .i64 zk, .int .i64 zn, .string zs] 23)) w1.heap.size 23 #[.int .i64 yk, .int .i64 yn, .string ys]) := HX3.out.alloc _
    have HY4 : Hid (Has (w2.alloc (.cells #[.int .i64 zk, .int .i64 zn, .string zs] 23)) w2.heap.size 23 #[.int .i64 zk, .int .i64 zn, .string zs]) := Has.new _ _ _
    have d0 := HX4.out.cell 0
    have d1 := HX4.out.cell 1
    have d2 := HX4.out.cell 2
    simp only [List.getElem?_toArray, List.getElem?_cons_zero, List.getElem?_cons_succ] at d0 d1 d2
    have hz2 := HX3.out.lt
    clear hb2
    go_wp2_with fail
    refine (HSA.out _ (HP.out.below HB4.out)).mono ?_
    rintro e w5 ⟨rfl, hb5⟩
    have HB5 := Lib.hid (HB4.out.trans (hb5.out.mono HB4.out.size))
    have HX5 := Lib.hid (HX4.out.below hb5.out HX4.out.lt)
    have HY5 := Lib.hid (HY4.out.below hb5.out HY4.out.lt)
    have e0 := HY5.out.cell 0
    have e1 := HY5.out.cell 1
    have e2 := HY5.out.cell 2
    simp only [List.getElem?_toArray, List.getElem?_cons_zero, List.getElem?_cons_succ] at e0 e1 e2
    clear hb5 c0 c1 c2 d0 d1 d2
    go_wp2_with fail
    refine (HSB.out _ (HP.out.below HB5.out)).mono ?_
    rintro e w6 ⟨rfl, hb6⟩
    have HB6 := Lib.hid (HB5.out.trans (hb6.out.mono HB5.out.size))
    have HX6 := Lib.hid (HX5.out.below hb6.out HX5.out.lt)
    have HY6 := Lib.hid (HY5.out.below hb6.out HY5.out.lt)
    have d0 := HX6.out.cell 0
    have d1 := HX6.out.cell 1
    have d2 := HX6.out.cell 2
    simp only [List.getElem?_toArray, List.getElem?_cons_zero, List.getElem?_cons_succ] at d0 d1 d2
    clear hb6 e0 e1 e2
    go_wp2_with fail
    refine (HRA.out _).mono ?_
    rintro e w7 ⟨rfl, hb7⟩
    have HB7 := Lib.hid (HB6.out.trans (hb7.out.mono HB6.out.size))
    have HX7 := Lib.hid (HX6.out.below hb7.out HX6.out.lt)
    have HY7 := Lib.hid (HY6.out.below hb7.out HY6.out.lt)
    have e0 := HY7.out.cell 0
    have e1 := HY7.out.cell 1
    have e2 := HY7.out.cell 2
    simp only [List.getElem?_toArray, List.getElem?_cons_zero, List.getElem?_cons_succ] at e0 e1 e2
    clear hb7 d0 d1 d2
    go_wp2_with fail
    refine (HRB.out _).mono ?_
    rintro e w8 ⟨rfl, hb8⟩
    have HB8 := Lib.hid (HB7.out.trans (hb8.out.mono HB7.out.size))
    have HX8 := Lib.hid (HX7.out.below hb8.out HX7.out.lt)
    have HY8 := Lib.hid (HY7.out.below hb8.out HY7.out.lt)
    have d0 := HX8.out.cell 0
    have d1 := HX8.out.cell 1
    have d2 := HX8.out.cell 2
    clear e0 e1 e2
    have e0 := HY8.out.cell 0
    have e1 := HY8.out.cell 1
    have e2 := HY8.out.cell 2
    simp only [List.getElem?_toArray, List.getElem?_cons_zero, List.getElem?_cons_succ] at d0 d1 d2 e0 e1 e2
    clear hb8
    go_wp2_with fail
    refine (lives_any _ (HT.out.below HB8.out)).mono ?_
    rintro e w9 ⟨rfl, hb9⟩
    have HB9 := Lib.hid (HB8.out.trans (hb9.mono HB8.out.size))
    clear hb9
    go_wp2_with fail
    go_ret
    exact ⟨rfl, HB9.out⟩
  · go_enter Tryd.func8, Tryd.ntmps8
    go_wp2_with fail
    refine (HGA.out _).mono ?_
    rintro e w1 ⟨rfl, hb1⟩
    have HB1 := Lib.hid (HB0.out.trans (hb1.out.mono HB0.out.size))
    have HQ1 := Lib.hid (HQ.out.below hb1.out HQ.out.lt)
    have HB2 : Hid (Below w.heap.size w (w1.alloc (.cells #[.int .i64 yk, .int .i64 yn, .string ys] 23))) := HB1.out.alloc HB1.out.size _
    have HQ2 : Hid (Has (w1.alloc (.cells #[.int .i64 yk, .int .i64 yn, .string ys] 23)) (w.heap.size + 1) 23 #[.int .i64 k', .int .i64 n', .string s']) := HQ1.out.alloc _
    have HX2 : Hid (Has (w1.alloc (.cells #[.int .i64 yk, .int .i64 yn, .string ys] 23)) w1.heap.size 23 #[.int .i64 yk, .int .i64 yn, .string ys]) := Has.new _ _ _
    have c0 := HQ2.out.cell 0
    have c1 := HQ2.out.cell 1
    have c2 := HQ2.out.cell 2
    simp only [List.getElem?_toArray, List.getElem?_cons_zero, List.getElem?_cons_succ] at c0 c1 c2
    have hz1 := HQ1.out.lt
    clear hb1
    go_wp2_with fail
    refine (HGB.out _).mono ?_
    rintro e w2 ⟨rfl, hb2⟩
    have HB3 := Lib.hid (HB2.out.trans (hb2.out.mono HB2.out.size))
    have HX3 := Lib.hid (HX2.out.below hb2.out HX2.out.lt)
    have HB4 : Hid (Below w.heap.size w (w2.alloc (.cells #[.int .i64 zk, .int .i64 zn, .string zs] 23))) := HB3.out.alloc HB3.out.size _
    have HX4 : Hid (Has (w2.alloc (.cells #[.int .i64 zk, .int .i64 zn, .string zs] 23)) w1.heap.size 23 #[.int .i64 yk, .int .i64 yn, .string ys]) := HX3.out.alloc _
    have HY4 : Hid (Has (w2.alloc (.cells #[.int .i64 zk, .int .i64 zn, .string zs] 23)) w2.heap.size 23 #[.int .i64 zk, .int .i64 zn, .string zs]) := Has.new _ _ _
    have d0 := HX4.out.cell 0
    have d1 := HX4.out.cell 1
    have d2 := HX4.out.cell 2
    simp only [List.getElem?_toArray, List.getElem?_cons_zero, List.getElem?_cons_succ] at d0 d1 d2
    have hz2 := HX3.out.lt
    clear hb2
    go_wp2_with fail
    refine (HSA.out _ (HP.out.below HB4.out)).mono ?_
    rintro e w5 ⟨rfl, hb5⟩
    have HB5 := Lib.hid (HB4.out.trans (hb5.out.mono HB4.out.size))
    have HX5 := Lib.hid (HX4.out.below hb5.out HX4.out.lt)
    have HY5 := Lib.hid (HY4.out.below hb5.out HY4.out.lt)
    have e0 := HY5.out.cell 0
    have e1 := HY5.out.cell 1
    have e2 := HY5.out.cell 2
    simp only [List.getElem?_toArray, List.getElem?_cons_zero, List.getElem?_cons_succ] at e0 e1 e2
    clear hb5 c0 c1 c2 d0 d1 d2
    go_wp2_with fail
    refine (HSB.out _ (HP.out.below HB5.out)).mono ?_
    rintro e w6 ⟨rfl, hb6⟩
    have HB6 := Lib.hid (HB5.out.trans (hb6.out.mono HB5.out.size))
    have HX6 := Lib.hid (HX5.out.below hb6.out HX5.out.lt)
    have HY6 := Lib.hid (HY5.out.below hb6.out HY5.out.lt)
    have d0 := HX6.out.cell 0
    have d1 := HX6.out.cell 1
    have d2 := HX6.out.cell 2
    simp only [List.getElem?_toArray, List.getElem?_cons_zero, List.getElem?_cons_succ] at d0 d1 d2
    clear hb6 e0 e1 e2
    go_wp2_with fail
    refine (HRA.out _).mono ?_
    rintro e w7 ⟨rfl, hb7⟩
    have HB7 := Lib.hid (HB6.out.trans (hb7.out.mono HB6.out.size))
    have HX7 := Lib.hid (HX6.out.below hb7.out HX6.out.lt)
    have HY7 := Lib.hid (HY6.out.below hb7.out HY6.out.lt)
    have e0 := HY7.out.cell 0
    have e1 := HY7.out.cell 1
    have e2 := HY7.out.cell 2
    simp only [List.getElem?_toArray, List.getElem?_cons_zero, List.getElem?_cons_succ] at e0 e1 e2
    clear hb7 d0 d1 d2
    go_wp2_with fail
    refine (HRB.out _).mono ?_
    rintro e w8 ⟨rfl, hb8⟩
    have HB8 := Lib.hid (HB7.out.trans (hb8.out.mono HB7.out.size))
    have HX8 := Lib.hid (HX7.out.below hb8.out HX7.out.lt)
    have HY8 := Lib.hid (HY7.out.below hb8.out HY7.out.lt)
    have d0 := HX8.out.cell 0
    have d1 := HX8.out.cell 1
    have d2 := HX8.out.cell 2
    clear e0 e1 e2
    have e0 := HY8.out.cell 0
    have e1 := HY8.out.cell 1
    have e2 := HY8.out.cell 2
    simp only [List.getElem?_toArray, List.getElem?_cons_zero, List.getElem?_cons_succ] at d0 d1 d2 e0 e1 e2
    clear hb8
    go_wp2_with fail
    refine (lives_any _ (HT.out.below HB8.out)).mono ?_
    rintro e w9 ⟨rfl, hb9⟩
    have HB9 := Lib.hid (HB8.out.trans (hb9.mono HB8.out.size))
    clear hb9
    go_wp2_with fail
    go_ret
    exact ⟨rfl, HB9.out⟩
end Go.Proofs.YtlkhijccjjpbbaaDoor.valueShows
