/-
  What is opened with something that may not be is refused, and stays shut: the law's walk.
-/
import Derived.Test.YtcdjeibcnkpadaaDoorWxL
namespace Go.Proofs.YtcdjeibcnkpadaaDoor.windowArgs
open Go.RowKit Go.Maps Dg
set_option maxRecDepth 100000
set_option linter.unusedVariables false
set_option maxHeartbeats 4000000 in
theorem walk (sz num : Int) (tn : ByteArray) (A : Option Addr) (n c : Nat) (M : List Cl) (K : Int) (af : ByteArray) (Ar : Option Addr) (nr cr : Nat) (S : List Sl) (L : List (List Vl)) (w : World)
    (hs0 : -9223372036854775808 ≤ sz) (hs1 : sz ≤ 9223372036854775807) (htn : tn.size ≤ 140737488355328) (hA : ClAt w A n c M) (hA0 : A = none → c = 0) (hMf : ∀ x ∈ M, x.fit) (haf : af.size ≤ 140737488355328) (hR : RsIn w Ar nr cr S L) (hT : Tabs w) :
    Calls Tryd.prog 3 #[.int .i64 sz, .int .i64 num, .agg #[.string tn, .slice A n c, .int .i64 K], .string af, .slice Ar nr cr] w fun e w' => e = .returned (.bool true) ∧ Below w.heap.size w w' := by
  have hcr := hR.cap
  have hcc := hA.cap
  have HT0 := Lib.hid hT
  clear hT
  by_cases hr6 : 6 < nr
  · have hq1 : (6 : Int) < (nr : Int) := by omega
    have hq1c : (6 : Int) ≤ (cr : Int) := by omega
    by_cases hc6 : 6 < n
    · have hq2 : (6 : Int) < (n : Int) := by omega
      have hq2c : (6 : Int) ≤ (c : Int) := by omega
      by_cases ha : 40 < af.size
      · have hq3 : (40 : Int) < (af.size : Int) := by omega
        have HRR : Hid (RsIn w Ar 6 cr (S.take 6) (L.take 6)) := rsIn_take hR 6 (by omega)
        have HAA : Hid (ClAt w A 6 c (M.take 6)) := clAt_take hA 6 (by omega)
        have hMM : ∀ x ∈ (M.take 6), x.fit := fun x hx => hMf x (List.mem_of_mem_take hx)
        have hzr : 6 ≤ 6 := by omega
        have hzc : 6 ≤ 6 := by omega
        clear hR hA hMf hr6 hc6 ha
        obtain ⟨w0, hw0⟩ : ∃ W, w.alloc (.cells #[.string tn, .slice A 6 c, .int .i64 K] 26) = W := ⟨_, rfl⟩
        have HB0 : Hid (Below w.heap.size w w0) := by rw [← hw0]; exact (Below.refl _ w).alloc (Nat.le_refl _) _
        have HE0 : Hid (Has w0 w.heap.size 26 #[.string tn, .slice A 6 c, .int .i64 K]) := by rw [← hw0]; exact Has.new _ _ _
        go_enter Tryd.func3, Tryd.ntmps3
        go_wp2_with fail
        refine (wnew_any sz _ hs0 hs1).mono ?_
        rintro e w1 ⟨b1, t1, rfl, hw1, hb1⟩
        clear hq1 hq2 hq3
        have HW1 : Hid (WinA 0 b1 t1 w1 (aShut (max sz 1))) := ⟨_, _, _, _, hw1.out 0⟩
        have HB1 : Hid (Below w.heap.size w w1) := HB0.out.trans (hb1.out.1.mono HB0.out.size)
        have HE1 := Lib.hid (HE0.out.below hb1.out.1 HE0.out.lt)
        have hge : w.heap.size ≤ b1 ∧ w.heap.size ≤ t1 := by have := hb1.out.2; have := HB0.out.size; omega
        clear hw1 hb1 hw0
        go_wp2_with fail
        refine (rnew_any sz _ hs0 hs1).mono ?_
        rintro e w2 ⟨rfl, hb2⟩
        have HB2 : Hid (Below w1.heap.size w1 w2) := hb2.out
        have HBw2 : Hid (Below w.heap.size w w2) := HB1.out.trans (HB2.out.mono HB1.out.size)
        have HE2 := Lib.hid (HE1.out.below HB2.out HE1.out.lt)
        obtain ⟨z, hz⟩ : ∃ z, max sz 1 = z := ⟨_, rfl⟩
        have hz1 : 1 ≤ z := by omega
        have hz2 : z ≤ 9223372036854775807 := by omega
        rw [hz] at HW1 ⊢
        dsimp only [Dw.cells, dwNew]
        clear hb2 hz
        obtain ⟨w3, hw3⟩ : ∃ W, w2.alloc (.cells #[.int .i64 z, .bool false, .int .i64 0, .string ⟨#[]⟩, .slice none 0 0, .int .i64 0, .string ⟨#[]⟩, .string ⟨#[]⟩, .bool false, .bool false, .slice none 0 0] 31) = W := ⟨_, rfl⟩
        have HB3 : Hid (Below w2.heap.size w2 w3) := by rw [← hw3]; exact (Below.refl _ w2).alloc (Nat.le_refl _) _
        have HD3 : Hid (Has w3 w2.heap.size 31 #[.int .i64 z, .bool false, .int .i64 0, .string ⟨#[]⟩, .slice none 0 0, .int .i64 0, .string ⟨#[]⟩, .string ⟨#[]⟩, .bool false, .bool false, .slice none 0 0]) := by rw [← hw3]; exact Has.new _ _ _
        have HBw3 : Hid (Below w.heap.size w w3) := HBw2.out.trans (HB3.out.mono HBw2.out.size)
        have HE3 := Lib.hid (HE2.out.below HB3.out HE2.out.lt)
        have HW3 := Lib.hid ((HW1.out.below HB2.out).below HB3.out)
        have e0 : w3.cell? ⟨w.heap.size, 0, none⟩ = some (.string tn) := HE3.out.cell 0
        have e1 : w3.cell? ⟨w.heap.size, 1, none⟩ = some (.slice A 6 c) := HE3.out.cell 1
        have e2 : w3.cell? ⟨w.heap.size, 2, none⟩ = some (.int .i64 K) := HE3.out.cell 2
        have d0 : w3.cell? ⟨w2.heap.size, 0, none⟩ = some (.int .i64 z) := HD3.out.cell 0
        have d1 : w3.cell? ⟨w2.heap.size, 1, none⟩ = some (.bool false) := HD3.out.cell 1
        have d2 : w3.cell? ⟨w2.heap.size, 2, none⟩ = some (.int .i64 0) := HD3.out.cell 2
        have d3 : w3.cell? ⟨w2.heap.size, 3, none⟩ = some (.string ⟨#[]⟩) := HD3.out.cell 3
        have d4 : w3.cell? ⟨w2.heap.size, 4, none⟩ = some (.slice none 0 0) := HD3.out.cell 4
        have d5 : w3.cell? ⟨w2.heap.size, 5, none⟩ = some (.int .i64 0) := HD3.out.cell 5
        have d6 : w3.cell? ⟨w2.heap.size, 6, none⟩ = some (.string ⟨#[]⟩) := HD3.out.cell 6
        have d7 : w3.cell? ⟨w2.heap.size, 7, none⟩ = some (.string ⟨#[]⟩) := HD3.out.cell 7
        have d8 : w3.cell? ⟨w2.heap.size, 8, none⟩ = some (.bool false) := HD3.out.cell 8
        have d9 : w3.cell? ⟨w2.heap.size, 9, none⟩ = some (.bool false) := HD3.out.cell 9
        have d10 : w3.cell? ⟨w2.heap.size, 10, none⟩ = some (.slice none 0 0) := HD3.out.cell 10
        subst hw3
        go_wp2_with fail
        refine (ropen_any z hz1 hz2 num tn A (M.take 6) 6 c K (af.extract 0 40) Ar 6 cr (S.take 6) (L.take 6) _ (HAA.out.below HBw3.out) (by omega) (HRR.out.below HBw3.out) (by omega)).mono ?_
        rintro e w4 ⟨rfl, hb4⟩
        have HB4 := Lib.hid hb4.out
        have HBw4 : Hid (Below w.heap.size w w4) := HBw3.out.trans (HB4.out.mono HBw3.out.size)
        have HE4 := Lib.hid (HE3.out.below HB4.out HE3.out.lt)
        have HW4 := Lib.hid (HW3.out.below HB4.out)
        clear hb4 e0 e1 e2 d0 d1 d2 d3 d4 d5 d6 d7 d8 d9 d10
        obtain ⟨dd, hdd⟩ : ∃ dd, dOpn z num tn A (M.take 6) 6 c K (af.extract 0 40) Ar 6 cr (L.take 6) = dd := ⟨_, rfl⟩
        obtain ⟨ff, hff⟩ : ∃ ff, openE (aShut z) num tn (M.take 6) K (af.extract 0 40) (L.take 6) = ff := ⟨_, rfl⟩
        rw [hdd, hff]
        have HDD := Lib.hid hdd
        have HFF := Lib.hid hff
        clear hdd hff
        have HLK := Lib.hid (args_like HDD.out (HRR.out.below HBw4.out) (by have := HAA.out.len; omega))
        have HOP := Lib.hid (fun (W : World) (hb : Below w4.heap.size w4 W) => wopn_any (HW4.out.below hb) hz1 hz2 num tn A (M.take 6) 6 c K (af.extract 0 40) Ar 6 cr (S.take 6) (L.take 6) htn ((HAA.out.below HBw4.out).below hb) (by omega) hA0 hMM ((HRR.out.below HBw4.out).below hb) ((HT0.out.below HBw4.out).below hb) (by omega) (Nat.zero_le _))
        rw [HFF.out] at HOP
        obtain ⟨aa, haa⟩ : ∃ aa, openA (aShut z) num tn (M.take 6) K (af.extract 0 40) (L.take 6) = aa := ⟨_, rfl⟩
        rw [haa] at HLK HOP
        clear haa HDD HFF
        obtain ⟨dsz, dis, dnum, dtn, dA, dn, dc, dK, daf, den, dla, dsp, dAr, dnr, dcr⟩ := dd
        dsimp only [Dw.cells] at HLK ⊢
        have HZ := Lib.hid (show 6 ≤ 6 by omega)
        clear hzr hzc hcr hcc htn hA0 haf hMM
        have HB5 := Lib.hid ((Below.refl _ w4).alloc (Nat.le_refl _) (.cells #[.int .i64 dsz, .bool dis, .int .i64 dnum, .string dtn, .slice dA dn dc, .int .i64 dK, .string daf, .string den, .bool dla, .bool dsp, .slice dAr dnr dcr] 31))
        have HD5 := Lib.hid (Has.new w4 31 #[.int .i64 dsz, .bool dis, .int .i64 dnum, .string dtn, .slice dA dn dc, .int .i64 dK, .string daf, .string den, .bool dla, .bool dsp, .slice dAr dnr dcr])
        have HE5 := Lib.hid (HE4.out.below HB5.out HE4.out.lt)
        have e0 : (w4.alloc (.cells #[.int .i64 dsz, .bool dis, .int .i64 dnum, .string dtn, .slice dA dn dc, .int .i64 dK, .string daf, .string den, .bool dla, .bool dsp, .slice dAr dnr dcr] 31)).cell? ⟨w.heap.size, 0, none⟩ = some (.string tn) := HE5.out.cell 0
        have e1 : (w4.alloc (.cells #[.int .i64 dsz, .bool dis, .int .i64 dnum, .string dtn, .slice dA dn dc, .int .i64 dK, .string daf, .string den, .bool dla, .bool dsp, .slice dAr dnr dcr] 31)).cell? ⟨w.heap.size, 1, none⟩ = some (.slice A 6 c) := HE5.out.cell 1
        have e2 : (w4.alloc (.cells #[.int .i64 dsz, .bool dis, .int .i64 dnum, .string dtn, .slice dA dn dc, .int .i64 dK, .string daf, .string den, .bool dla, .bool dsp, .slice dAr dnr dcr] 31)).cell? ⟨w.heap.size, 2, none⟩ = some (.int .i64 K) := HE5.out.cell 2
        go_wp2_with fail
        refine (HOP.out _ HB5.out).mono ?_
        rintro e w6 ⟨rfl, tb6, hw6, hu6, ht6⟩
        have hbne : b1 ≠ w4.heap.size := by have := HW4.out.lt; omega
        have HD6 := Lib.hid (HD5.out.tur hu6.out (by simp; exact Ne.symm hbne))
        have HBw5 := Lib.hid (HBw4.out.trans (HB5.out.mono HBw4.out.size))
        have HBw6 := Lib.hid (HBw5.out.trans (hu6.out.below (by simp; omega) HBw5.out.size))
        have HW6 := Lib.hid hw6.out
        clear hw6 hu6 ht6 e0 e1 e2
        have q0 : w6.cell? ⟨w4.heap.size, 0, none⟩ = some (.int .i64 dsz) := HD6.out.cell 0
        have q1 : w6.cell? ⟨w4.heap.size, 1, none⟩ = some (.bool dis) := HD6.out.cell 1
        have q2 : w6.cell? ⟨w4.heap.size, 2, none⟩ = some (.int .i64 dnum) := HD6.out.cell 2
        have q3 : w6.cell? ⟨w4.heap.size, 3, none⟩ = some (.string dtn) := HD6.out.cell 3
        have q4 : w6.cell? ⟨w4.heap.size, 4, none⟩ = some (.slice dA dn dc) := HD6.out.cell 4
        have q5 : w6.cell? ⟨w4.heap.size, 5, none⟩ = some (.int .i64 dK) := HD6.out.cell 5
        have q6 : w6.cell? ⟨w4.heap.size, 6, none⟩ = some (.string daf) := HD6.out.cell 6
        have q7 : w6.cell? ⟨w4.heap.size, 7, none⟩ = some (.string den) := HD6.out.cell 7
        have q8 : w6.cell? ⟨w4.heap.size, 8, none⟩ = some (.bool dla) := HD6.out.cell 8
        have q9 : w6.cell? ⟨w4.heap.size, 9, none⟩ = some (.bool dsp) := HD6.out.cell 9
        have q10 : w6.cell? ⟨w4.heap.size, 10, none⟩ = some (.slice dAr dnr dcr) := HD6.out.cell 10
        go_wp2_with fail
        obtain ⟨l1, l2, l3, ⟨S9, l4⟩, l5, l6, l7⟩ := HLK.out
        refine (like_any HW6.out ⟨dsz, dis, dnum, dtn, dA, dn, dc, dK, daf, den, dla, dsp, dAr, dnr, dcr⟩ S9 (l4 w6 (HRR.out.below HBw6.out)) l1 l2 l3 (by have := HZ.out; omega) l6 l7).mono ?_
        rintro e w7 ⟨rfl, hb7⟩
        have HBw7 := Lib.hid (HBw6.out.trans (hb7.out.mono HBw6.out.size))
        clear hb7 l1 l2 l3 l4 l5 l6 l7 q0 q1 q2 q3 q4 q5 q6 q7 q8 q9 q10
        go_wp2_with fail
        refine (llives_any w7 (HT0.out.below HBw7.out)).mono ?_
        rintro e w8 ⟨rfl, hb8⟩
        have HBw8 := Lib.hid (HBw7.out.trans (hb8.out.mono HBw7.out.size))
        clear hb8
        go_wp2_with fail
        go_ret
        exact ⟨by first | rfl | simp, HBw8.out⟩
      · have hq3 : ¬ (40 : Int) < (af.size : Int) := by omega
        have HRR : Hid (RsIn w Ar 6 cr (S.take 6) (L.take 6)) := rsIn_take hR 6 (by omega)
        have HAA : Hid (ClAt w A 6 c (M.take 6)) := clAt_take hA 6 (by omega)
        have hMM : ∀ x ∈ (M.take 6), x.fit := fun x hx => hMf x (List.mem_of_mem_take hx)
        have hzr : 6 ≤ 6 := by omega
        have hzc : 6 ≤ 6 := by omega
        clear hR hA hMf hr6 hc6 ha
        obtain ⟨w0, hw0⟩ : ∃ W, w.alloc (.cells #[.string tn, .slice A 6 c, .int .i64 K] 26) = W := ⟨_, rfl⟩
        have HB0 : Hid (Below w.heap.size w w0) := by rw [← hw0]; exact (Below.refl _ w).alloc (Nat.le_refl _) _
        have HE0 : Hid (Has w0 w.heap.size 26 #[.string tn, .slice A 6 c, .int .i64 K]) := by rw [← hw0]; exact Has.new _ _ _
        go_enter Tryd.func3, Tryd.ntmps3
        go_wp2_with fail
        refine (wnew_any sz _ hs0 hs1).mono ?_
        rintro e w1 ⟨b1, t1, rfl, hw1, hb1⟩
        clear hq1 hq2 hq3
        have HW1 : Hid (WinA 0 b1 t1 w1 (aShut (max sz 1))) := ⟨_, _, _, _, hw1.out 0⟩
        have HB1 : Hid (Below w.heap.size w w1) := HB0.out.trans (hb1.out.1.mono HB0.out.size)
        have HE1 := Lib.hid (HE0.out.below hb1.out.1 HE0.out.lt)
        have hge : w.heap.size ≤ b1 ∧ w.heap.size ≤ t1 := by have := hb1.out.2; have := HB0.out.size; omega
        clear hw1 hb1 hw0
        go_wp2_with fail
        refine (rnew_any sz _ hs0 hs1).mono ?_
        rintro e w2 ⟨rfl, hb2⟩
        have HB2 : Hid (Below w1.heap.size w1 w2) := hb2.out
        have HBw2 : Hid (Below w.heap.size w w2) := HB1.out.trans (HB2.out.mono HB1.out.size)
        have HE2 := Lib.hid (HE1.out.below HB2.out HE1.out.lt)
        obtain ⟨z, hz⟩ : ∃ z, max sz 1 = z := ⟨_, rfl⟩
        have hz1 : 1 ≤ z := by omega
        have hz2 : z ≤ 9223372036854775807 := by omega
        rw [hz] at HW1 ⊢
        dsimp only [Dw.cells, dwNew]
        clear hb2 hz
        obtain ⟨w3, hw3⟩ : ∃ W, w2.alloc (.cells #[.int .i64 z, .bool false, .int .i64 0, .string ⟨#[]⟩, .slice none 0 0, .int .i64 0, .string ⟨#[]⟩, .string ⟨#[]⟩, .bool false, .bool false, .slice none 0 0] 31) = W := ⟨_, rfl⟩
        have HB3 : Hid (Below w2.heap.size w2 w3) := by rw [← hw3]; exact (Below.refl _ w2).alloc (Nat.le_refl _) _
        have HD3 : Hid (Has w3 w2.heap.size 31 #[.int .i64 z, .bool false, .int .i64 0, .string ⟨#[]⟩, .slice none 0 0, .int .i64 0, .string ⟨#[]⟩, .string ⟨#[]⟩, .bool false, .bool false, .slice none 0 0]) := by rw [← hw3]; exact Has.new _ _ _
        have HBw3 : Hid (Below w.heap.size w w3) := HBw2.out.trans (HB3.out.mono HBw2.out.size)
        have HE3 := Lib.hid (HE2.out.below HB3.out HE2.out.lt)
        have HW3 := Lib.hid ((HW1.out.below HB2.out).below HB3.out)
        have e0 : w3.cell? ⟨w.heap.size, 0, none⟩ = some (.string tn) := HE3.out.cell 0
        have e1 : w3.cell? ⟨w.heap.size, 1, none⟩ = some (.slice A 6 c) := HE3.out.cell 1
        have e2 : w3.cell? ⟨w.heap.size, 2, none⟩ = some (.int .i64 K) := HE3.out.cell 2
        have d0 : w3.cell? ⟨w2.heap.size, 0, none⟩ = some (.int .i64 z) := HD3.out.cell 0
        have d1 : w3.cell? ⟨w2.heap.size, 1, none⟩ = some (.bool false) := HD3.out.cell 1
        have d2 : w3.cell? ⟨w2.heap.size, 2, none⟩ = some (.int .i64 0) := HD3.out.cell 2
        have d3 : w3.cell? ⟨w2.heap.size, 3, none⟩ = some (.string ⟨#[]⟩) := HD3.out.cell 3
        have d4 : w3.cell? ⟨w2.heap.size, 4, none⟩ = some (.slice none 0 0) := HD3.out.cell 4
        have d5 : w3.cell? ⟨w2.heap.size, 5, none⟩ = some (.int .i64 0) := HD3.out.cell 5
        have d6 : w3.cell? ⟨w2.heap.size, 6, none⟩ = some (.string ⟨#[]⟩) := HD3.out.cell 6
        have d7 : w3.cell? ⟨w2.heap.size, 7, none⟩ = some (.string ⟨#[]⟩) := HD3.out.cell 7
        have d8 : w3.cell? ⟨w2.heap.size, 8, none⟩ = some (.bool false) := HD3.out.cell 8
        have d9 : w3.cell? ⟨w2.heap.size, 9, none⟩ = some (.bool false) := HD3.out.cell 9
        have d10 : w3.cell? ⟨w2.heap.size, 10, none⟩ = some (.slice none 0 0) := HD3.out.cell 10
        subst hw3
        go_wp2_with fail
        refine (ropen_any z hz1 hz2 num tn A (M.take 6) 6 c K af Ar 6 cr (S.take 6) (L.take 6) _ (HAA.out.below HBw3.out) (by omega) (HRR.out.below HBw3.out) (by omega)).mono ?_
        rintro e w4 ⟨rfl, hb4⟩
        have HB4 := Lib.hid hb4.out
        have HBw4 : Hid (Below w.heap.size w w4) := HBw3.out.trans (HB4.out.mono HBw3.out.size)
        have HE4 := Lib.hid (HE3.out.below HB4.out HE3.out.lt)
        have HW4 := Lib.hid (HW3.out.below HB4.out)
        clear hb4 e0 e1 e2 d0 d1 d2 d3 d4 d5 d6 d7 d8 d9 d10
        obtain ⟨dd, hdd⟩ : ∃ dd, dOpn z num tn A (M.take 6) 6 c K af Ar 6 cr (L.take 6) = dd := ⟨_, rfl⟩
        obtain ⟨ff, hff⟩ : ∃ ff, openE (aShut z) num tn (M.take 6) K af (L.take 6) = ff := ⟨_, rfl⟩
        rw [hdd, hff]
        have HDD := Lib.hid hdd
        have HFF := Lib.hid hff
        clear hdd hff
        have HLK := Lib.hid (args_like HDD.out (HRR.out.below HBw4.out) (by have := HAA.out.len; omega))
        have HOP := Lib.hid (fun (W : World) (hb : Below w4.heap.size w4 W) => wopn_any (HW4.out.below hb) hz1 hz2 num tn A (M.take 6) 6 c K af Ar 6 cr (S.take 6) (L.take 6) htn ((HAA.out.below HBw4.out).below hb) (by omega) hA0 hMM ((HRR.out.below HBw4.out).below hb) ((HT0.out.below HBw4.out).below hb) (by omega) (Nat.zero_le _))
        rw [HFF.out] at HOP
        obtain ⟨aa, haa⟩ : ∃ aa, openA (aShut z) num tn (M.take 6) K af (L.take 6) = aa := ⟨_, rfl⟩
        rw [haa] at HLK HOP
        clear haa HDD HFF
        obtain ⟨dsz, dis, dnum, dtn, dA, dn, dc, dK, daf, den, dla, dsp, dAr, dnr, dcr⟩ := dd
        dsimp only [Dw.cells] at HLK ⊢
        have HZ := Lib.hid (show 6 ≤ 6 by omega)
        clear hzr hzc hcr hcc htn hA0 haf hMM
        have HB5 := Lib.hid ((Below.refl _ w4).alloc (Nat.le_refl _) (.cells #[.int .i64 dsz, .bool dis, .int .i64 dnum, .string dtn, .slice dA dn dc, .int .i64 dK, .string daf, .string den, .bool dla, .bool dsp, .slice dAr dnr dcr] 31))
        have HD5 := Lib.hid (Has.new w4 31 #[.int .i64 dsz, .bool dis, .int .i64 dnum, .string dtn, .slice dA dn dc, .int .i64 dK, .string daf, .string den, .bool dla, .bool dsp, .slice dAr dnr dcr])
        have HE5 := Lib.hid (HE4.out.below HB5.out HE4.out.lt)
        have e0 : (w4.alloc (.cells #[.int .i64 dsz, .bool dis, .int .i64 dnum, .string dtn, .slice dA dn dc, .int .i64 dK, .string daf, .string den, .bool dla, .bool dsp, .slice dAr dnr dcr] 31)).cell? ⟨w.heap.size, 0, none⟩ = some (.string tn) := HE5.out.cell 0
        have e1 : (w4.alloc (.cells #[.int .i64 dsz, .bool dis, .int .i64 dnum, .string dtn, .slice dA dn dc, .int .i64 dK, .string daf, .string den, .bool dla, .bool dsp, .slice dAr dnr dcr] 31)).cell? ⟨w.heap.size, 1, none⟩ = some (.slice A 6 c) := HE5.out.cell 1
        have e2 : (w4.alloc (.cells #[.int .i64 dsz, .bool dis, .int .i64 dnum, .string dtn, .slice dA dn dc, .int .i64 dK, .string daf, .string den, .bool dla, .bool dsp, .slice dAr dnr dcr] 31)).cell? ⟨w.heap.size, 2, none⟩ = some (.int .i64 K) := HE5.out.cell 2
        go_wp2_with fail
        refine (HOP.out _ HB5.out).mono ?_
        rintro e w6 ⟨rfl, tb6, hw6, hu6, ht6⟩
        have hbne : b1 ≠ w4.heap.size := by have := HW4.out.lt; omega
        have HD6 := Lib.hid (HD5.out.tur hu6.out (by simp; exact Ne.symm hbne))
        have HBw5 := Lib.hid (HBw4.out.trans (HB5.out.mono HBw4.out.size))
        have HBw6 := Lib.hid (HBw5.out.trans (hu6.out.below (by simp; omega) HBw5.out.size))
        have HW6 := Lib.hid hw6.out
        clear hw6 hu6 ht6 e0 e1 e2
        have q0 : w6.cell? ⟨w4.heap.size, 0, none⟩ = some (.int .i64 dsz) := HD6.out.cell 0
        have q1 : w6.cell? ⟨w4.heap.size, 1, none⟩ = some (.bool dis) := HD6.out.cell 1
        have q2 : w6.cell? ⟨w4.heap.size, 2, none⟩ = some (.int .i64 dnum) := HD6.out.cell 2
        have q3 : w6.cell? ⟨w4.heap.size, 3, none⟩ = some (.string dtn) := HD6.out.cell 3
        have q4 : w6.cell? ⟨w4.heap.size, 4, none⟩ = some (.slice dA dn dc) := HD6.out.cell 4
        have q5 : w6.cell? ⟨w4.heap.size, 5, none⟩ = some (.int .i64 dK) := HD6.out.cell 5
        have q6 : w6.cell? ⟨w4.heap.size, 6, none⟩ = some (.string daf) := HD6.out.cell 6
        have q7 : w6.cell? ⟨w4.heap.size, 7, none⟩ = some (.string den) := HD6.out.cell 7
        have q8 : w6.cell? ⟨w4.heap.size, 8, none⟩ = some (.bool dla) := HD6.out.cell 8
        have q9 : w6.cell? ⟨w4.heap.size, 9, none⟩ = some (.bool dsp) := HD6.out.cell 9
        have q10 : w6.cell? ⟨w4.heap.size, 10, none⟩ = some (.slice dAr dnr dcr) := HD6.out.cell 10
        go_wp2_with fail
        obtain ⟨l1, l2, l3, ⟨S9, l4⟩, l5, l6, l7⟩ := HLK.out
        refine (like_any HW6.out ⟨dsz, dis, dnum, dtn, dA, dn, dc, dK, daf, den, dla, dsp, dAr, dnr, dcr⟩ S9 (l4 w6 (HRR.out.below HBw6.out)) l1 l2 l3 (by have := HZ.out; omega) l6 l7).mono ?_
        rintro e w7 ⟨rfl, hb7⟩
        have HBw7 := Lib.hid (HBw6.out.trans (hb7.out.mono HBw6.out.size))
        clear hb7 l1 l2 l3 l4 l5 l6 l7 q0 q1 q2 q3 q4 q5 q6 q7 q8 q9 q10
        go_wp2_with fail
        refine (llives_any w7 (HT0.out.below HBw7.out)).mono ?_
        rintro e w8 ⟨rfl, hb8⟩
        have HBw8 := Lib.hid (HBw7.out.trans (hb8.out.mono HBw7.out.size))
        clear hb8
        go_wp2_with fail
        go_ret
        exact ⟨by first | rfl | simp, HBw8.out⟩
    · have hq2 : ¬ (6 : Int) < (n : Int) := by omega
      by_cases ha : 40 < af.size
      · have hq3 : (40 : Int) < (af.size : Int) := by omega
        have HRR : Hid (RsIn w Ar 6 cr (S.take 6) (L.take 6)) := rsIn_take hR 6 (by omega)
        have HAA : Hid (ClAt w A n c M) := hA
        have hMM : ∀ x ∈ M, x.fit := hMf
        have hzr : 6 ≤ 6 := by omega
        have hzc : n ≤ 6 := by omega
        clear hR hA hMf hr6 hc6 ha
        obtain ⟨w0, hw0⟩ : ∃ W, w.alloc (.cells #[.string tn, .slice A n c, .int .i64 K] 26) = W := ⟨_, rfl⟩
        have HB0 : Hid (Below w.heap.size w w0) := by rw [← hw0]; exact (Below.refl _ w).alloc (Nat.le_refl _) _
        have HE0 : Hid (Has w0 w.heap.size 26 #[.string tn, .slice A n c, .int .i64 K]) := by rw [← hw0]; exact Has.new _ _ _
        have e1 : w0.cell? ⟨w.heap.size, 1, none⟩ = some (.slice A n c) := HE0.out.cell 1
        go_enter Tryd.func3, Tryd.ntmps3
        go_wp2_with fail
        clear e1
        refine (wnew_any sz _ hs0 hs1).mono ?_
        rintro e w1 ⟨b1, t1, rfl, hw1, hb1⟩
        clear hq1 hq2 hq3
        have HW1 : Hid (WinA 0 b1 t1 w1 (aShut (max sz 1))) := ⟨_, _, _, _, hw1.out 0⟩
        have HB1 : Hid (Below w.heap.size w w1) := HB0.out.trans (hb1.out.1.mono HB0.out.size)
        have HE1 := Lib.hid (HE0.out.below hb1.out.1 HE0.out.lt)
        have hge : w.heap.size ≤ b1 ∧ w.heap.size ≤ t1 := by have := hb1.out.2; have := HB0.out.size; omega
        clear hw1 hb1 hw0
        go_wp2_with fail
        refine (rnew_any sz _ hs0 hs1).mono ?_
        rintro e w2 ⟨rfl, hb2⟩
        have HB2 : Hid (Below w1.heap.size w1 w2) := hb2.out
        have HBw2 : Hid (Below w.heap.size w w2) := HB1.out.trans (HB2.out.mono HB1.out.size)
        have HE2 := Lib.hid (HE1.out.below HB2.out HE1.out.lt)
        obtain ⟨z, hz⟩ : ∃ z, max sz 1 = z := ⟨_, rfl⟩
        have hz1 : 1 ≤ z := by omega
        have hz2 : z ≤ 9223372036854775807 := by omega
        rw [hz] at HW1 ⊢
        dsimp only [Dw.cells, dwNew]
        clear hb2 hz
        obtain ⟨w3, hw3⟩ : ∃ W, w2.alloc (.cells #[.int .i64 z, .bool false, .int .i64 0, .string ⟨#[]⟩, .slice none 0 0, .int .i64 0, .string ⟨#[]⟩, .string ⟨#[]⟩, .bool false, .bool false, .slice none 0 0] 31) = W := ⟨_, rfl⟩
        have HB3 : Hid (Below w2.heap.size w2 w3) := by rw [← hw3]; exact (Below.refl _ w2).alloc (Nat.le_refl _) _
        have HD3 : Hid (Has w3 w2.heap.size 31 #[.int .i64 z, .bool false, .int .i64 0, .string ⟨#[]⟩, .slice none 0 0, .int .i64 0, .string ⟨#[]⟩, .string ⟨#[]⟩, .bool false, .bool false, .slice none 0 0]) := by rw [← hw3]; exact Has.new _ _ _
        have HBw3 : Hid (Below w.heap.size w w3) := HBw2.out.trans (HB3.out.mono HBw2.out.size)
        have HE3 := Lib.hid (HE2.out.below HB3.out HE2.out.lt)
        have HW3 := Lib.hid ((HW1.out.below HB2.out).below HB3.out)
        have e0 : w3.cell? ⟨w.heap.size, 0, none⟩ = some (.string tn) := HE3.out.cell 0
        have e1 : w3.cell? ⟨w.heap.size, 1, none⟩ = some (.slice A n c) := HE3.out.cell 1
        have e2 : w3.cell? ⟨w.heap.size, 2, none⟩ = some (.int .i64 K) := HE3.out.cell 2
        have d0 : w3.cell? ⟨w2.heap.size, 0, none⟩ = some (.int .i64 z) := HD3.out.cell 0
        have d1 : w3.cell? ⟨w2.heap.size, 1, none⟩ = some (.bool false) := HD3.out.cell 1
        have d2 : w3.cell? ⟨w2.heap.size, 2, none⟩ = some (.int .i64 0) := HD3.out.cell 2
        have d3 : w3.cell? ⟨w2.heap.size, 3, none⟩ = some (.string ⟨#[]⟩) := HD3.out.cell 3
        have d4 : w3.cell? ⟨w2.heap.size, 4, none⟩ = some (.slice none 0 0) := HD3.out.cell 4
        have d5 : w3.cell? ⟨w2.heap.size, 5, none⟩ = some (.int .i64 0) := HD3.out.cell 5
        have d6 : w3.cell? ⟨w2.heap.size, 6, none⟩ = some (.string ⟨#[]⟩) := HD3.out.cell 6
        have d7 : w3.cell? ⟨w2.heap.size, 7, none⟩ = some (.string ⟨#[]⟩) := HD3.out.cell 7
        have d8 : w3.cell? ⟨w2.heap.size, 8, none⟩ = some (.bool false) := HD3.out.cell 8
        have d9 : w3.cell? ⟨w2.heap.size, 9, none⟩ = some (.bool false) := HD3.out.cell 9
        have d10 : w3.cell? ⟨w2.heap.size, 10, none⟩ = some (.slice none 0 0) := HD3.out.cell 10
        subst hw3
        go_wp2_with fail
        refine (ropen_any z hz1 hz2 num tn A M n c K (af.extract 0 40) Ar 6 cr (S.take 6) (L.take 6) _ (HAA.out.below HBw3.out) (by omega) (HRR.out.below HBw3.out) (by omega)).mono ?_
        rintro e w4 ⟨rfl, hb4⟩
        have HB4 := Lib.hid hb4.out
        have HBw4 : Hid (Below w.heap.size w w4) := HBw3.out.trans (HB4.out.mono HBw3.out.size)
        have HE4 := Lib.hid (HE3.out.below HB4.out HE3.out.lt)
        have HW4 := Lib.hid (HW3.out.below HB4.out)
        clear hb4 e0 e1 e2 d0 d1 d2 d3 d4 d5 d6 d7 d8 d9 d10
        obtain ⟨dd, hdd⟩ : ∃ dd, dOpn z num tn A M n c K (af.extract 0 40) Ar 6 cr (L.take 6) = dd := ⟨_, rfl⟩
        obtain ⟨ff, hff⟩ : ∃ ff, openE (aShut z) num tn M K (af.extract 0 40) (L.take 6) = ff := ⟨_, rfl⟩
        rw [hdd, hff]
        have HDD := Lib.hid hdd
        have HFF := Lib.hid hff
        clear hdd hff
        have HLK := Lib.hid (args_like HDD.out (HRR.out.below HBw4.out) (by have := HAA.out.len; omega))
        have HOP := Lib.hid (fun (W : World) (hb : Below w4.heap.size w4 W) => wopn_any (HW4.out.below hb) hz1 hz2 num tn A M n c K (af.extract 0 40) Ar 6 cr (S.take 6) (L.take 6) htn ((HAA.out.below HBw4.out).below hb) (by omega) hA0 hMM ((HRR.out.below HBw4.out).below hb) ((HT0.out.below HBw4.out).below hb) (by omega) (Nat.zero_le _))
        rw [HFF.out] at HOP
        obtain ⟨aa, haa⟩ : ∃ aa, openA (aShut z) num tn M K (af.extract 0 40) (L.take 6) = aa := ⟨_, rfl⟩
        rw [haa] at HLK HOP
        clear haa HDD HFF
        obtain ⟨dsz, dis, dnum, dtn, dA, dn, dc, dK, daf, den, dla, dsp, dAr, dnr, dcr⟩ := dd
        dsimp only [Dw.cells] at HLK ⊢
        have HZ := Lib.hid (show 6 ≤ 6 by omega)
        clear hzr hzc hcr hcc htn hA0 haf hMM
        have HB5 := Lib.hid ((Below.refl _ w4).alloc (Nat.le_refl _) (.cells #[.int .i64 dsz, .bool dis, .int .i64 dnum, .string dtn, .slice dA dn dc, .int .i64 dK, .string daf, .string den, .bool dla, .bool dsp, .slice dAr dnr dcr] 31))
        have HD5 := Lib.hid (Has.new w4 31 #[.int .i64 dsz, .bool dis, .int .i64 dnum, .string dtn, .slice dA dn dc, .int .i64 dK, .string daf, .string den, .bool dla, .bool dsp, .slice dAr dnr dcr])
        have HE5 := Lib.hid (HE4.out.below HB5.out HE4.out.lt)
        have e0 : (w4.alloc (.cells #[.int .i64 dsz, .bool dis, .int .i64 dnum, .string dtn, .slice dA dn dc, .int .i64 dK, .string daf, .string den, .bool dla, .bool dsp, .slice dAr dnr dcr] 31)).cell? ⟨w.heap.size, 0, none⟩ = some (.string tn) := HE5.out.cell 0
        have e1 : (w4.alloc (.cells #[.int .i64 dsz, .bool dis, .int .i64 dnum, .string dtn, .slice dA dn dc, .int .i64 dK, .string daf, .string den, .bool dla, .bool dsp, .slice dAr dnr dcr] 31)).cell? ⟨w.heap.size, 1, none⟩ = some (.slice A n c) := HE5.out.cell 1
        have e2 : (w4.alloc (.cells #[.int .i64 dsz, .bool dis, .int .i64 dnum, .string dtn, .slice dA dn dc, .int .i64 dK, .string daf, .string den, .bool dla, .bool dsp, .slice dAr dnr dcr] 31)).cell? ⟨w.heap.size, 2, none⟩ = some (.int .i64 K) := HE5.out.cell 2
        go_wp2_with fail
        refine (HOP.out _ HB5.out).mono ?_
        rintro e w6 ⟨rfl, tb6, hw6, hu6, ht6⟩
        have hbne : b1 ≠ w4.heap.size := by have := HW4.out.lt; omega
        have HD6 := Lib.hid (HD5.out.tur hu6.out (by simp; exact Ne.symm hbne))
        have HBw5 := Lib.hid (HBw4.out.trans (HB5.out.mono HBw4.out.size))
        have HBw6 := Lib.hid (HBw5.out.trans (hu6.out.below (by simp; omega) HBw5.out.size))
        have HW6 := Lib.hid hw6.out
        clear hw6 hu6 ht6 e0 e1 e2
        have q0 : w6.cell? ⟨w4.heap.size, 0, none⟩ = some (.int .i64 dsz) := HD6.out.cell 0
        have q1 : w6.cell? ⟨w4.heap.size, 1, none⟩ = some (.bool dis) := HD6.out.cell 1
        have q2 : w6.cell? ⟨w4.heap.size, 2, none⟩ = some (.int .i64 dnum) := HD6.out.cell 2
        have q3 : w6.cell? ⟨w4.heap.size, 3, none⟩ = some (.string dtn) := HD6.out.cell 3
        have q4 : w6.cell? ⟨w4.heap.size, 4, none⟩ = some (.slice dA dn dc) := HD6.out.cell 4
        have q5 : w6.cell? ⟨w4.heap.size, 5, none⟩ = some (.int .i64 dK) := HD6.out.cell 5
        have q6 : w6.cell? ⟨w4.heap.size, 6, none⟩ = some (.string daf) := HD6.out.cell 6
        have q7 : w6.cell? ⟨w4.heap.size, 7, none⟩ = some (.string den) := HD6.out.cell 7
        have q8 : w6.cell? ⟨w4.heap.size, 8, none⟩ = some (.bool dla) := HD6.out.cell 8
        have q9 : w6.cell? ⟨w4.heap.size, 9, none⟩ = some (.bool dsp) := HD6.out.cell 9
        have q10 : w6.cell? ⟨w4.heap.size, 10, none⟩ = some (.slice dAr dnr dcr) := HD6.out.cell 10
        go_wp2_with fail
        obtain ⟨l1, l2, l3, ⟨S9, l4⟩, l5, l6, l7⟩ := HLK.out
        refine (like_any HW6.out ⟨dsz, dis, dnum, dtn, dA, dn, dc, dK, daf, den, dla, dsp, dAr, dnr, dcr⟩ S9 (l4 w6 (HRR.out.below HBw6.out)) l1 l2 l3 (by have := HZ.out; omega) l6 l7).mono ?_
        rintro e w7 ⟨rfl, hb7⟩
        have HBw7 := Lib.hid (HBw6.out.trans (hb7.out.mono HBw6.out.size))
        clear hb7 l1 l2 l3 l4 l5 l6 l7 q0 q1 q2 q3 q4 q5 q6 q7 q8 q9 q10
        go_wp2_with fail
        refine (llives_any w7 (HT0.out.below HBw7.out)).mono ?_
        rintro e w8 ⟨rfl, hb8⟩
        have HBw8 := Lib.hid (HBw7.out.trans (hb8.out.mono HBw7.out.size))
        clear hb8
        go_wp2_with fail
        go_ret
        exact ⟨by first | rfl | simp, HBw8.out⟩
      · have hq3 : ¬ (40 : Int) < (af.size : Int) := by omega
        have HRR : Hid (RsIn w Ar 6 cr (S.take 6) (L.take 6)) := rsIn_take hR 6 (by omega)
        have HAA : Hid (ClAt w A n c M) := hA
        have hMM : ∀ x ∈ M, x.fit := hMf
        have hzr : 6 ≤ 6 := by omega
        have hzc : n ≤ 6 := by omega
        clear hR hA hMf hr6 hc6 ha
        obtain ⟨w0, hw0⟩ : ∃ W, w.alloc (.cells #[.string tn, .slice A n c, .int .i64 K] 26) = W := ⟨_, rfl⟩
        have HB0 : Hid (Below w.heap.size w w0) := by rw [← hw0]; exact (Below.refl _ w).alloc (Nat.le_refl _) _
        have HE0 : Hid (Has w0 w.heap.size 26 #[.string tn, .slice A n c, .int .i64 K]) := by rw [← hw0]; exact Has.new _ _ _
        have e1 : w0.cell? ⟨w.heap.size, 1, none⟩ = some (.slice A n c) := HE0.out.cell 1
        go_enter Tryd.func3, Tryd.ntmps3
        go_wp2_with fail
        clear e1
        refine (wnew_any sz _ hs0 hs1).mono ?_
        rintro e w1 ⟨b1, t1, rfl, hw1, hb1⟩
        clear hq1 hq2 hq3
        have HW1 : Hid (WinA 0 b1 t1 w1 (aShut (max sz 1))) := ⟨_, _, _, _, hw1.out 0⟩
        have HB1 : Hid (Below w.heap.size w w1) := HB0.out.trans (hb1.out.1.mono HB0.out.size)
        have HE1 := Lib.hid (HE0.out.below hb1.out.1 HE0.out.lt)
        have hge : w.heap.size ≤ b1 ∧ w.heap.size ≤ t1 := by have := hb1.out.2; have := HB0.out.size; omega
        clear hw1 hb1 hw0
        go_wp2_with fail
        refine (rnew_any sz _ hs0 hs1).mono ?_
        rintro e w2 ⟨rfl, hb2⟩
        have HB2 : Hid (Below w1.heap.size w1 w2) := hb2.out
        have HBw2 : Hid (Below w.heap.size w w2) := HB1.out.trans (HB2.out.mono HB1.out.size)
        have HE2 := Lib.hid (HE1.out.below HB2.out HE1.out.lt)
        obtain ⟨z, hz⟩ : ∃ z, max sz 1 = z := ⟨_, rfl⟩
        have hz1 : 1 ≤ z := by omega
        have hz2 : z ≤ 9223372036854775807 := by omega
        rw [hz] at HW1 ⊢
        dsimp only [Dw.cells, dwNew]
        clear hb2 hz
        obtain ⟨w3, hw3⟩ : ∃ W, w2.alloc (.cells #[.int .i64 z, .bool false, .int .i64 0, .string ⟨#[]⟩, .slice none 0 0, .int .i64 0, .string ⟨#[]⟩, .string ⟨#[]⟩, .bool false, .bool false, .slice none 0 0] 31) = W := ⟨_, rfl⟩
        have HB3 : Hid (Below w2.heap.size w2 w3) := by rw [← hw3]; exact (Below.refl _ w2).alloc (Nat.le_refl _) _
        have HD3 : Hid (Has w3 w2.heap.size 31 #[.int .i64 z, .bool false, .int .i64 0, .string ⟨#[]⟩, .slice none 0 0, .int .i64 0, .string ⟨#[]⟩, .string ⟨#[]⟩, .bool false, .bool false, .slice none 0 0]) := by rw [← hw3]; exact Has.new _ _ _
        have HBw3 : Hid (Below w.heap.size w w3) := HBw2.out.trans (HB3.out.mono HBw2.out.size)
        have HE3 := Lib.hid (HE2.out.below HB3.out HE2.out.lt)
        have HW3 := Lib.hid ((HW1.out.below HB2.out).below HB3.out)
        have e0 : w3.cell? ⟨w.heap.size, 0, none⟩ = some (.string tn) := HE3.out.cell 0
        have e1 : w3.cell? ⟨w.heap.size, 1, none⟩ = some (.slice A n c) := HE3.out.cell 1
        have e2 : w3.cell? ⟨w.heap.size, 2, none⟩ = some (.int .i64 K) := HE3.out.cell 2
        have d0 : w3.cell? ⟨w2.heap.size, 0, none⟩ = some (.int .i64 z) := HD3.out.cell 0
        have d1 : w3.cell? ⟨w2.heap.size, 1, none⟩ = some (.bool false) := HD3.out.cell 1
        have d2 : w3.cell? ⟨w2.heap.size, 2, none⟩ = some (.int .i64 0) := HD3.out.cell 2
        have d3 : w3.cell? ⟨w2.heap.size, 3, none⟩ = some (.string ⟨#[]⟩) := HD3.out.cell 3
        have d4 : w3.cell? ⟨w2.heap.size, 4, none⟩ = some (.slice none 0 0) := HD3.out.cell 4
        have d5 : w3.cell? ⟨w2.heap.size, 5, none⟩ = some (.int .i64 0) := HD3.out.cell 5
        have d6 : w3.cell? ⟨w2.heap.size, 6, none⟩ = some (.string ⟨#[]⟩) := HD3.out.cell 6
        have d7 : w3.cell? ⟨w2.heap.size, 7, none⟩ = some (.string ⟨#[]⟩) := HD3.out.cell 7
        have d8 : w3.cell? ⟨w2.heap.size, 8, none⟩ = some (.bool false) := HD3.out.cell 8
        have d9 : w3.cell? ⟨w2.heap.size, 9, none⟩ = some (.bool false) := HD3.out.cell 9
        have d10 : w3.cell? ⟨w2.heap.size, 10, none⟩ = some (.slice none 0 0) := HD3.out.cell 10
        subst hw3
        go_wp2_with fail
        refine (ropen_any z hz1 hz2 num tn A M n c K af Ar 6 cr (S.take 6) (L.take 6) _ (HAA.out.below HBw3.out) (by omega) (HRR.out.below HBw3.out) (by omega)).mono ?_
        rintro e w4 ⟨rfl, hb4⟩
        have HB4 := Lib.hid hb4.out
        have HBw4 : Hid (Below w.heap.size w w4) := HBw3.out.trans (HB4.out.mono HBw3.out.size)
        have HE4 := Lib.hid (HE3.out.below HB4.out HE3.out.lt)
        have HW4 := Lib.hid (HW3.out.below HB4.out)
        clear hb4 e0 e1 e2 d0 d1 d2 d3 d4 d5 d6 d7 d8 d9 d10
        obtain ⟨dd, hdd⟩ : ∃ dd, dOpn z num tn A M n c K af Ar 6 cr (L.take 6) = dd := ⟨_, rfl⟩
        obtain ⟨ff, hff⟩ : ∃ ff, openE (aShut z) num tn M K af (L.take 6) = ff := ⟨_, rfl⟩
        rw [hdd, hff]
        have HDD := Lib.hid hdd
        have HFF := Lib.hid hff
        clear hdd hff
        have HLK := Lib.hid (args_like HDD.out (HRR.out.below HBw4.out) (by have := HAA.out.len; omega))
        have HOP := Lib.hid (fun (W : World) (hb : Below w4.heap.size w4 W) => wopn_any (HW4.out.below hb) hz1 hz2 num tn A M n c K af Ar 6 cr (S.take 6) (L.take 6) htn ((HAA.out.below HBw4.out).below hb) (by omega) hA0 hMM ((HRR.out.below HBw4.out).below hb) ((HT0.out.below HBw4.out).below hb) (by omega) (Nat.zero_le _))
        rw [HFF.out] at HOP
        obtain ⟨aa, haa⟩ : ∃ aa, openA (aShut z) num tn M K af (L.take 6) = aa := ⟨_, rfl⟩
        rw [haa] at HLK HOP
        clear haa HDD HFF
        obtain ⟨dsz, dis, dnum, dtn, dA, dn, dc, dK, daf, den, dla, dsp, dAr, dnr, dcr⟩ := dd
        dsimp only [Dw.cells] at HLK ⊢
        have HZ := Lib.hid (show 6 ≤ 6 by omega)
        clear hzr hzc hcr hcc htn hA0 haf hMM
        have HB5 := Lib.hid ((Below.refl _ w4).alloc (Nat.le_refl _) (.cells #[.int .i64 dsz, .bool dis, .int .i64 dnum, .string dtn, .slice dA dn dc, .int .i64 dK, .string daf, .string den, .bool dla, .bool dsp, .slice dAr dnr dcr] 31))
        have HD5 := Lib.hid (Has.new w4 31 #[.int .i64 dsz, .bool dis, .int .i64 dnum, .string dtn, .slice dA dn dc, .int .i64 dK, .string daf, .string den, .bool dla, .bool dsp, .slice dAr dnr dcr])
        have HE5 := Lib.hid (HE4.out.below HB5.out HE4.out.lt)
        have e0 : (w4.alloc (.cells #[.int .i64 dsz, .bool dis, .int .i64 dnum, .string dtn, .slice dA dn dc, .int .i64 dK, .string daf, .string den, .bool dla, .bool dsp, .slice dAr dnr dcr] 31)).cell? ⟨w.heap.size, 0, none⟩ = some (.string tn) := HE5.out.cell 0
        have e1 : (w4.alloc (.cells #[.int .i64 dsz, .bool dis, .int .i64 dnum, .string dtn, .slice dA dn dc, .int .i64 dK, .string daf, .string den, .bool dla, .bool dsp, .slice dAr dnr dcr] 31)).cell? ⟨w.heap.size, 1, none⟩ = some (.slice A n c) := HE5.out.cell 1
        have e2 : (w4.alloc (.cells #[.int .i64 dsz, .bool dis, .int .i64 dnum, .string dtn, .slice dA dn dc, .int .i64 dK, .string daf, .string den, .bool dla, .bool dsp, .slice dAr dnr dcr] 31)).cell? ⟨w.heap.size, 2, none⟩ = some (.int .i64 K) := HE5.out.cell 2
        go_wp2_with fail
        refine (HOP.out _ HB5.out).mono ?_
        rintro e w6 ⟨rfl, tb6, hw6, hu6, ht6⟩
        have hbne : b1 ≠ w4.heap.size := by have := HW4.out.lt; omega
        have HD6 := Lib.hid (HD5.out.tur hu6.out (by simp; exact Ne.symm hbne))
        have HBw5 := Lib.hid (HBw4.out.trans (HB5.out.mono HBw4.out.size))
        have HBw6 := Lib.hid (HBw5.out.trans (hu6.out.below (by simp; omega) HBw5.out.size))
        have HW6 := Lib.hid hw6.out
        clear hw6 hu6 ht6 e0 e1 e2
        have q0 : w6.cell? ⟨w4.heap.size, 0, none⟩ = some (.int .i64 dsz) := HD6.out.cell 0
        have q1 : w6.cell? ⟨w4.heap.size, 1, none⟩ = some (.bool dis) := HD6.out.cell 1
        have q2 : w6.cell? ⟨w4.heap.size, 2, none⟩ = some (.int .i64 dnum) := HD6.out.cell 2
        have q3 : w6.cell? ⟨w4.heap.size, 3, none⟩ = some (.string dtn) := HD6.out.cell 3
        have q4 : w6.cell? ⟨w4.heap.size, 4, none⟩ = some (.slice dA dn dc) := HD6.out.cell 4
        have q5 : w6.cell? ⟨w4.heap.size, 5, none⟩ = some (.int .i64 dK) := HD6.out.cell 5
        have q6 : w6.cell? ⟨w4.heap.size, 6, none⟩ = some (.string daf) := HD6.out.cell 6
        have q7 : w6.cell? ⟨w4.heap.size, 7, none⟩ = some (.string den) := HD6.out.cell 7
        have q8 : w6.cell? ⟨w4.heap.size, 8, none⟩ = some (.bool dla) := HD6.out.cell 8
        have q9 : w6.cell? ⟨w4.heap.size, 9, none⟩ = some (.bool dsp) := HD6.out.cell 9
        have q10 : w6.cell? ⟨w4.heap.size, 10, none⟩ = some (.slice dAr dnr dcr) := HD6.out.cell 10
        go_wp2_with fail
        obtain ⟨l1, l2, l3, ⟨S9, l4⟩, l5, l6, l7⟩ := HLK.out
        refine (like_any HW6.out ⟨dsz, dis, dnum, dtn, dA, dn, dc, dK, daf, den, dla, dsp, dAr, dnr, dcr⟩ S9 (l4 w6 (HRR.out.below HBw6.out)) l1 l2 l3 (by have := HZ.out; omega) l6 l7).mono ?_
        rintro e w7 ⟨rfl, hb7⟩
        have HBw7 := Lib.hid (HBw6.out.trans (hb7.out.mono HBw6.out.size))
        clear hb7 l1 l2 l3 l4 l5 l6 l7 q0 q1 q2 q3 q4 q5 q6 q7 q8 q9 q10
        go_wp2_with fail
        refine (llives_any w7 (HT0.out.below HBw7.out)).mono ?_
        rintro e w8 ⟨rfl, hb8⟩
        have HBw8 := Lib.hid (HBw7.out.trans (hb8.out.mono HBw7.out.size))
        clear hb8
        go_wp2_with fail
        go_ret
        exact ⟨by first | rfl | simp, HBw8.out⟩
  · have hq1 : ¬ (6 : Int) < (nr : Int) := by omega
    by_cases hc6 : 6 < n
    · have hq2 : (6 : Int) < (n : Int) := by omega
      have hq2c : (6 : Int) ≤ (c : Int) := by omega
      by_cases ha : 40 < af.size
      · have hq3 : (40 : Int) < (af.size : Int) := by omega
        have HRR : Hid (RsIn w Ar nr cr S L) := hR
        have HAA : Hid (ClAt w A 6 c (M.take 6)) := clAt_take hA 6 (by omega)
        have hMM : ∀ x ∈ (M.take 6), x.fit := fun x hx => hMf x (List.mem_of_mem_take hx)
        have hzr : nr ≤ 6 := by omega
        have hzc : 6 ≤ 6 := by omega
        clear hR hA hMf hr6 hc6 ha
        obtain ⟨w0, hw0⟩ : ∃ W, w.alloc (.cells #[.string tn, .slice A 6 c, .int .i64 K] 26) = W := ⟨_, rfl⟩
        have HB0 : Hid (Below w.heap.size w w0) := by rw [← hw0]; exact (Below.refl _ w).alloc (Nat.le_refl _) _
        have HE0 : Hid (Has w0 w.heap.size 26 #[.string tn, .slice A 6 c, .int .i64 K]) := by rw [← hw0]; exact Has.new _ _ _
        go_enter Tryd.func3, Tryd.ntmps3
        go_wp2_with fail
        refine (wnew_any sz _ hs0 hs1).mono ?_
        rintro e w1 ⟨b1, t1, rfl, hw1, hb1⟩
        clear hq1 hq2 hq3
        have HW1 : Hid (WinA 0 b1 t1 w1 (aShut (max sz 1))) := ⟨_, _, _, _, hw1.out 0⟩
        have HB1 : Hid (Below w.heap.size w w1) := HB0.out.trans (hb1.out.1.mono HB0.out.size)
        have HE1 := Lib.hid (HE0.out.below hb1.out.1 HE0.out.lt)
        have hge : w.heap.size ≤ b1 ∧ w.heap.size ≤ t1 := by have := hb1.out.2; have := HB0.out.size; omega
        clear hw1 hb1 hw0
        go_wp2_with fail
        refine (rnew_any sz _ hs0 hs1).mono ?_
        rintro e w2 ⟨rfl, hb2⟩
        have HB2 : Hid (Below w1.heap.size w1 w2) := hb2.out
        have HBw2 : Hid (Below w.heap.size w w2) := HB1.out.trans (HB2.out.mono HB1.out.size)
        have HE2 := Lib.hid (HE1.out.below HB2.out HE1.out.lt)
        obtain ⟨z, hz⟩ : ∃ z, max sz 1 = z := ⟨_, rfl⟩
        have hz1 : 1 ≤ z := by omega
        have hz2 : z ≤ 9223372036854775807 := by omega
        rw [hz] at HW1 ⊢
        dsimp only [Dw.cells, dwNew]
        clear hb2 hz
        obtain ⟨w3, hw3⟩ : ∃ W, w2.alloc (.cells #[.int .i64 z, .bool false, .int .i64 0, .string ⟨#[]⟩, .slice none 0 0, .int .i64 0, .string ⟨#[]⟩, .string ⟨#[]⟩, .bool false, .bool false, .slice none 0 0] 31) = W := ⟨_, rfl⟩
        have HB3 : Hid (Below w2.heap.size w2 w3) := by rw [← hw3]; exact (Below.refl _ w2).alloc (Nat.le_refl _) _
        have HD3 : Hid (Has w3 w2.heap.size 31 #[.int .i64 z, .bool false, .int .i64 0, .string ⟨#[]⟩, .slice none 0 0, .int .i64 0, .string ⟨#[]⟩, .string ⟨#[]⟩, .bool false, .bool false, .slice none 0 0]) := by rw [← hw3]; exact Has.new _ _ _
        have HBw3 : Hid (Below w.heap.size w w3) := HBw2.out.trans (HB3.out.mono HBw2.out.size)
        have HE3 := Lib.hid (HE2.out.below HB3.out HE2.out.lt)
        have HW3 := Lib.hid ((HW1.out.below HB2.out).below HB3.out)
        have e0 : w3.cell? ⟨w.heap.size, 0, none⟩ = some (.string tn) := HE3.out.cell 0
        have e1 : w3.cell? ⟨w.heap.size, 1, none⟩ = some (.slice A 6 c) := HE3.out.cell 1
        have e2 : w3.cell? ⟨w.heap.size, 2, none⟩ = some (.int .i64 K) := HE3.out.cell 2
        have d0 : w3.cell? ⟨w2.heap.size, 0, none⟩ = some (.int .i64 z) := HD3.out.cell 0
        have d1 : w3.cell? ⟨w2.heap.size, 1, none⟩ = some (.bool false) := HD3.out.cell 1
        have d2 : w3.cell? ⟨w2.heap.size, 2, none⟩ = some (.int .i64 0) := HD3.out.cell 2
        have d3 : w3.cell? ⟨w2.heap.size, 3, none⟩ = some (.string ⟨#[]⟩) := HD3.out.cell 3
        have d4 : w3.cell? ⟨w2.heap.size, 4, none⟩ = some (.slice none 0 0) := HD3.out.cell 4
        have d5 : w3.cell? ⟨w2.heap.size, 5, none⟩ = some (.int .i64 0) := HD3.out.cell 5
        have d6 : w3.cell? ⟨w2.heap.size, 6, none⟩ = some (.string ⟨#[]⟩) := HD3.out.cell 6
        have d7 : w3.cell? ⟨w2.heap.size, 7, none⟩ = some (.string ⟨#[]⟩) := HD3.out.cell 7
        have d8 : w3.cell? ⟨w2.heap.size, 8, none⟩ = some (.bool false) := HD3.out.cell 8
        have d9 : w3.cell? ⟨w2.heap.size, 9, none⟩ = some (.bool false) := HD3.out.cell 9
        have d10 : w3.cell? ⟨w2.heap.size, 10, none⟩ = some (.slice none 0 0) := HD3.out.cell 10
        subst hw3
        go_wp2_with fail
        refine (ropen_any z hz1 hz2 num tn A (M.take 6) 6 c K (af.extract 0 40) Ar nr cr S L _ (HAA.out.below HBw3.out) (by omega) (HRR.out.below HBw3.out) (by omega)).mono ?_
        rintro e w4 ⟨rfl, hb4⟩
        have HB4 := Lib.hid hb4.out
        have HBw4 : Hid (Below w.heap.size w w4) := HBw3.out.trans (HB4.out.mono HBw3.out.size)
        have HE4 := Lib.hid (HE3.out.below HB4.out HE3.out.lt)
        have HW4 := Lib.hid (HW3.out.below HB4.out)
        clear hb4 e0 e1 e2 d0 d1 d2 d3 d4 d5 d6 d7 d8 d9 d10
        obtain ⟨dd, hdd⟩ : ∃ dd, dOpn z num tn A (M.take 6) 6 c K (af.extract 0 40) Ar nr cr L = dd := ⟨_, rfl⟩
        obtain ⟨ff, hff⟩ : ∃ ff, openE (aShut z) num tn (M.take 6) K (af.extract 0 40) L = ff := ⟨_, rfl⟩
        rw [hdd, hff]
        have HDD := Lib.hid hdd
        have HFF := Lib.hid hff
        clear hdd hff
        have HLK := Lib.hid (args_like HDD.out (HRR.out.below HBw4.out) (by have := HAA.out.len; omega))
        have HOP := Lib.hid (fun (W : World) (hb : Below w4.heap.size w4 W) => wopn_any (HW4.out.below hb) hz1 hz2 num tn A (M.take 6) 6 c K (af.extract 0 40) Ar nr cr S L htn ((HAA.out.below HBw4.out).below hb) (by omega) hA0 hMM ((HRR.out.below HBw4.out).below hb) ((HT0.out.below HBw4.out).below hb) (by omega) (Nat.zero_le _))
        rw [HFF.out] at HOP
        obtain ⟨aa, haa⟩ : ∃ aa, openA (aShut z) num tn (M.take 6) K (af.extract 0 40) L = aa := ⟨_, rfl⟩
        rw [haa] at HLK HOP
        clear haa HDD HFF
        obtain ⟨dsz, dis, dnum, dtn, dA, dn, dc, dK, daf, den, dla, dsp, dAr, dnr, dcr⟩ := dd
        dsimp only [Dw.cells] at HLK ⊢
        have HZ := Lib.hid (show nr ≤ 6 by omega)
        clear hzr hzc hcr hcc htn hA0 haf hMM
        have HB5 := Lib.hid ((Below.refl _ w4).alloc (Nat.le_refl _) (.cells #[.int .i64 dsz, .bool dis, .int .i64 dnum, .string dtn, .slice dA dn dc, .int .i64 dK, .string daf, .string den, .bool dla, .bool dsp, .slice dAr dnr dcr] 31))
        have HD5 := Lib.hid (Has.new w4 31 #[.int .i64 dsz, .bool dis, .int .i64 dnum, .string dtn, .slice dA dn dc, .int .i64 dK, .string daf, .string den, .bool dla, .bool dsp, .slice dAr dnr dcr])
        have HE5 := Lib.hid (HE4.out.below HB5.out HE4.out.lt)
        have e0 : (w4.alloc (.cells #[.int .i64 dsz, .bool dis, .int .i64 dnum, .string dtn, .slice dA dn dc, .int .i64 dK, .string daf, .string den, .bool dla, .bool dsp, .slice dAr dnr dcr] 31)).cell? ⟨w.heap.size, 0, none⟩ = some (.string tn) := HE5.out.cell 0
        have e1 : (w4.alloc (.cells #[.int .i64 dsz, .bool dis, .int .i64 dnum, .string dtn, .slice dA dn dc, .int .i64 dK, .string daf, .string den, .bool dla, .bool dsp, .slice dAr dnr dcr] 31)).cell? ⟨w.heap.size, 1, none⟩ = some (.slice A 6 c) := HE5.out.cell 1
        have e2 : (w4.alloc (.cells #[.int .i64 dsz, .bool dis, .int .i64 dnum, .string dtn, .slice dA dn dc, .int .i64 dK, .string daf, .string den, .bool dla, .bool dsp, .slice dAr dnr dcr] 31)).cell? ⟨w.heap.size, 2, none⟩ = some (.int .i64 K) := HE5.out.cell 2
        go_wp2_with fail
        refine (HOP.out _ HB5.out).mono ?_
        rintro e w6 ⟨rfl, tb6, hw6, hu6, ht6⟩
        have hbne : b1 ≠ w4.heap.size := by have := HW4.out.lt; omega
        have HD6 := Lib.hid (HD5.out.tur hu6.out (by simp; exact Ne.symm hbne))
        have HBw5 := Lib.hid (HBw4.out.trans (HB5.out.mono HBw4.out.size))
        have HBw6 := Lib.hid (HBw5.out.trans (hu6.out.below (by simp; omega) HBw5.out.size))
        have HW6 := Lib.hid hw6.out
        clear hw6 hu6 ht6 e0 e1 e2
        have q0 : w6.cell? ⟨w4.heap.size, 0, none⟩ = some (.int .i64 dsz) := HD6.out.cell 0
        have q1 : w6.cell? ⟨w4.heap.size, 1, none⟩ = some (.bool dis) := HD6.out.cell 1
        have q2 : w6.cell? ⟨w4.heap.size, 2, none⟩ = some (.int .i64 dnum) := HD6.out.cell 2
        have q3 : w6.cell? ⟨w4.heap.size, 3, none⟩ = some (.string dtn) := HD6.out.cell 3
        have q4 : w6.cell? ⟨w4.heap.size, 4, none⟩ = some (.slice dA dn dc) := HD6.out.cell 4
        have q5 : w6.cell? ⟨w4.heap.size, 5, none⟩ = some (.int .i64 dK) := HD6.out.cell 5
        have q6 : w6.cell? ⟨w4.heap.size, 6, none⟩ = some (.string daf) := HD6.out.cell 6
        have q7 : w6.cell? ⟨w4.heap.size, 7, none⟩ = some (.string den) := HD6.out.cell 7
        have q8 : w6.cell? ⟨w4.heap.size, 8, none⟩ = some (.bool dla) := HD6.out.cell 8
        have q9 : w6.cell? ⟨w4.heap.size, 9, none⟩ = some (.bool dsp) := HD6.out.cell 9
        have q10 : w6.cell? ⟨w4.heap.size, 10, none⟩ = some (.slice dAr dnr dcr) := HD6.out.cell 10
        go_wp2_with fail
        obtain ⟨l1, l2, l3, ⟨S9, l4⟩, l5, l6, l7⟩ := HLK.out
        refine (like_any HW6.out ⟨dsz, dis, dnum, dtn, dA, dn, dc, dK, daf, den, dla, dsp, dAr, dnr, dcr⟩ S9 (l4 w6 (HRR.out.below HBw6.out)) l1 l2 l3 (by have := HZ.out; omega) l6 l7).mono ?_
        rintro e w7 ⟨rfl, hb7⟩
        have HBw7 := Lib.hid (HBw6.out.trans (hb7.out.mono HBw6.out.size))
        clear hb7 l1 l2 l3 l4 l5 l6 l7 q0 q1 q2 q3 q4 q5 q6 q7 q8 q9 q10
        go_wp2_with fail
        refine (llives_any w7 (HT0.out.below HBw7.out)).mono ?_
        rintro e w8 ⟨rfl, hb8⟩
        have HBw8 := Lib.hid (HBw7.out.trans (hb8.out.mono HBw7.out.size))
        clear hb8
        go_wp2_with fail
        go_ret
        exact ⟨by first | rfl | simp, HBw8.out⟩
      · have hq3 : ¬ (40 : Int) < (af.size : Int) := by omega
        have HRR : Hid (RsIn w Ar nr cr S L) := hR
        have HAA : Hid (ClAt w A 6 c (M.take 6)) := clAt_take hA 6 (by omega)
        have hMM : ∀ x ∈ (M.take 6), x.fit := fun x hx => hMf x (List.mem_of_mem_take hx)
        have hzr : nr ≤ 6 := by omega
        have hzc : 6 ≤ 6 := by omega
        clear hR hA hMf hr6 hc6 ha
        obtain ⟨w0, hw0⟩ : ∃ W, w.alloc (.cells #[.string tn, .slice A 6 c, .int .i64 K] 26) = W := ⟨_, rfl⟩
        have HB0 : Hid (Below w.heap.size w w0) := by rw [← hw0]; exact (Below.refl _ w).alloc (Nat.le_refl _) _
        have HE0 : Hid (Has w0 w.heap.size 26 #[.string tn, .slice A 6 c, .int .i64 K]) := by rw [← hw0]; exact Has.new _ _ _
        go_enter Tryd.func3, Tryd.ntmps3
        go_wp2_with fail
        refine (wnew_any sz _ hs0 hs1).mono ?_
        rintro e w1 ⟨b1, t1, rfl, hw1, hb1⟩
        clear hq1 hq2 hq3
        have HW1 : Hid (WinA 0 b1 t1 w1 (aShut (max sz 1))) := ⟨_, _, _, _, hw1.out 0⟩
        have HB1 : Hid (Below w.heap.size w w1) := HB0.out.trans (hb1.out.1.mono HB0.out.size)
        have HE1 := Lib.hid (HE0.out.below hb1.out.1 HE0.out.lt)
        have hge : w.heap.size ≤ b1 ∧ w.heap.size ≤ t1 := by have := hb1.out.2; have := HB0.out.size; omega
        clear hw1 hb1 hw0
        go_wp2_with fail
        refine (rnew_any sz _ hs0 hs1).mono ?_
        rintro e w2 ⟨rfl, hb2⟩
        have HB2 : Hid (Below w1.heap.size w1 w2) := hb2.out
        have HBw2 : Hid (Below w.heap.size w w2) := HB1.out.trans (HB2.out.mono HB1.out.size)
        have HE2 := Lib.hid (HE1.out.below HB2.out HE1.out.lt)
        obtain ⟨z, hz⟩ : ∃ z, max sz 1 = z := ⟨_, rfl⟩
        have hz1 : 1 ≤ z := by omega
        have hz2 : z ≤ 9223372036854775807 := by omega
        rw [hz] at HW1 ⊢
        dsimp only [Dw.cells, dwNew]
        clear hb2 hz
        obtain ⟨w3, hw3⟩ : ∃ W, w2.alloc (.cells #[.int .i64 z, .bool false, .int .i64 0, .string ⟨#[]⟩, .slice none 0 0, .int .i64 0, .string ⟨#[]⟩, .string ⟨#[]⟩, .bool false, .bool false, .slice none 0 0] 31) = W := ⟨_, rfl⟩
        have HB3 : Hid (Below w2.heap.size w2 w3) := by rw [← hw3]; exact (Below.refl _ w2).alloc (Nat.le_refl _) _
        have HD3 : Hid (Has w3 w2.heap.size 31 #[.int .i64 z, .bool false, .int .i64 0, .string ⟨#[]⟩, .slice none 0 0, .int .i64 0, .string ⟨#[]⟩, .string ⟨#[]⟩, .bool false, .bool false, .slice none 0 0]) := by rw [← hw3]; exact Has.new _ _ _
        have HBw3 : Hid (Below w.heap.size w w3) := HBw2.out.trans (HB3.out.mono HBw2.out.size)
        have HE3 := Lib.hid (HE2.out.below HB3.out HE2.out.lt)
        have HW3 := Lib.hid ((HW1.out.below HB2.out).below HB3.out)
        have e0 : w3.cell? ⟨w.heap.size, 0, none⟩ = some (.string tn) := HE3.out.cell 0
        have e1 : w3.cell? ⟨w.heap.size, 1, none⟩ = some (.slice A 6 c) := HE3.out.cell 1
        have e2 : w3.cell? ⟨w.heap.size, 2, none⟩ = some (.int .i64 K) := HE3.out.cell 2
        have d0 : w3.cell? ⟨w2.heap.size, 0, none⟩ = some (.int .i64 z) := HD3.out.cell 0
        have d1 : w3.cell? ⟨w2.heap.size, 1, none⟩ = some (.bool false) := HD3.out.cell 1
        have d2 : w3.cell? ⟨w2.heap.size, 2, none⟩ = some (.int .i64 0) := HD3.out.cell 2
        have d3 : w3.cell? ⟨w2.heap.size, 3, none⟩ = some (.string ⟨#[]⟩) := HD3.out.cell 3
        have d4 : w3.cell? ⟨w2.heap.size, 4, none⟩ = some (.slice none 0 0) := HD3.out.cell 4
        have d5 : w3.cell? ⟨w2.heap.size, 5, none⟩ = some (.int .i64 0) := HD3.out.cell 5
        have d6 : w3.cell? ⟨w2.heap.size, 6, none⟩ = some (.string ⟨#[]⟩) := HD3.out.cell 6
        have d7 : w3.cell? ⟨w2.heap.size, 7, none⟩ = some (.string ⟨#[]⟩) := HD3.out.cell 7
        have d8 : w3.cell? ⟨w2.heap.size, 8, none⟩ = some (.bool false) := HD3.out.cell 8
        have d9 : w3.cell? ⟨w2.heap.size, 9, none⟩ = some (.bool false) := HD3.out.cell 9
        have d10 : w3.cell? ⟨w2.heap.size, 10, none⟩ = some (.slice none 0 0) := HD3.out.cell 10
        subst hw3
        go_wp2_with fail
        refine (ropen_any z hz1 hz2 num tn A (M.take 6) 6 c K af Ar nr cr S L _ (HAA.out.below HBw3.out) (by omega) (HRR.out.below HBw3.out) (by omega)).mono ?_
        rintro e w4 ⟨rfl, hb4⟩
        have HB4 := Lib.hid hb4.out
        have HBw4 : Hid (Below w.heap.size w w4) := HBw3.out.trans (HB4.out.mono HBw3.out.size)
        have HE4 := Lib.hid (HE3.out.below HB4.out HE3.out.lt)
        have HW4 := Lib.hid (HW3.out.below HB4.out)
        clear hb4 e0 e1 e2 d0 d1 d2 d3 d4 d5 d6 d7 d8 d9 d10
        obtain ⟨dd, hdd⟩ : ∃ dd, dOpn z num tn A (M.take 6) 6 c K af Ar nr cr L = dd := ⟨_, rfl⟩
        obtain ⟨ff, hff⟩ : ∃ ff, openE (aShut z) num tn (M.take 6) K af L = ff := ⟨_, rfl⟩
        rw [hdd, hff]
        have HDD := Lib.hid hdd
        have HFF := Lib.hid hff
        clear hdd hff
        have HLK := Lib.hid (args_like HDD.out (HRR.out.below HBw4.out) (by have := HAA.out.len; omega))
        have HOP := Lib.hid (fun (W : World) (hb : Below w4.heap.size w4 W) => wopn_any (HW4.out.below hb) hz1 hz2 num tn A (M.take 6) 6 c K af Ar nr cr S L htn ((HAA.out.below HBw4.out).below hb) (by omega) hA0 hMM ((HRR.out.below HBw4.out).below hb) ((HT0.out.below HBw4.out).below hb) (by omega) (Nat.zero_le _))
        rw [HFF.out] at HOP
        obtain ⟨aa, haa⟩ : ∃ aa, openA (aShut z) num tn (M.take 6) K af L = aa := ⟨_, rfl⟩
        rw [haa] at HLK HOP
        clear haa HDD HFF
        obtain ⟨dsz, dis, dnum, dtn, dA, dn, dc, dK, daf, den, dla, dsp, dAr, dnr, dcr⟩ := dd
        dsimp only [Dw.cells] at HLK ⊢
        have HZ := Lib.hid (show nr ≤ 6 by omega)
        clear hzr hzc hcr hcc htn hA0 haf hMM
        have HB5 := Lib.hid ((Below.refl _ w4).alloc (Nat.le_refl _) (.cells #[.int .i64 dsz, .bool dis, .int .i64 dnum, .string dtn, .slice dA dn dc, .int .i64 dK, .string daf, .string den, .bool dla, .bool dsp, .slice dAr dnr dcr] 31))
        have HD5 := Lib.hid (Has.new w4 31 #[.int .i64 dsz, .bool dis, .int .i64 dnum, .string dtn, .slice dA dn dc, .int .i64 dK, .string daf, .string den, .bool dla, .bool dsp, .slice dAr dnr dcr])
        have HE5 := Lib.hid (HE4.out.below HB5.out HE4.out.lt)
        have e0 : (w4.alloc (.cells #[.int .i64 dsz, .bool dis, .int .i64 dnum, .string dtn, .slice dA dn dc, .int .i64 dK, .string daf, .string den, .bool dla, .bool dsp, .slice dAr dnr dcr] 31)).cell? ⟨w.heap.size, 0, none⟩ = some (.string tn) := HE5.out.cell 0
        have e1 : (w4.alloc (.cells #[.int .i64 dsz, .bool dis, .int .i64 dnum, .string dtn, .slice dA dn dc, .int .i64 dK, .string daf, .string den, .bool dla, .bool dsp, .slice dAr dnr dcr] 31)).cell? ⟨w.heap.size, 1, none⟩ = some (.slice A 6 c) := HE5.out.cell 1
        have e2 : (w4.alloc (.cells #[.int .i64 dsz, .bool dis, .int .i64 dnum, .string dtn, .slice dA dn dc, .int .i64 dK, .string daf, .string den, .bool dla, .bool dsp, .slice dAr dnr dcr] 31)).cell? ⟨w.heap.size, 2, none⟩ = some (.int .i64 K) := HE5.out.cell 2
        go_wp2_with fail
        refine (HOP.out _ HB5.out).mono ?_
        rintro e w6 ⟨rfl, tb6, hw6, hu6, ht6⟩
        have hbne : b1 ≠ w4.heap.size := by have := HW4.out.lt; omega
        have HD6 := Lib.hid (HD5.out.tur hu6.out (by simp; exact Ne.symm hbne))
        have HBw5 := Lib.hid (HBw4.out.trans (HB5.out.mono HBw4.out.size))
        have HBw6 := Lib.hid (HBw5.out.trans (hu6.out.below (by simp; omega) HBw5.out.size))
        have HW6 := Lib.hid hw6.out
        clear hw6 hu6 ht6 e0 e1 e2
        have q0 : w6.cell? ⟨w4.heap.size, 0, none⟩ = some (.int .i64 dsz) := HD6.out.cell 0
        have q1 : w6.cell? ⟨w4.heap.size, 1, none⟩ = some (.bool dis) := HD6.out.cell 1
        have q2 : w6.cell? ⟨w4.heap.size, 2, none⟩ = some (.int .i64 dnum) := HD6.out.cell 2
        have q3 : w6.cell? ⟨w4.heap.size, 3, none⟩ = some (.string dtn) := HD6.out.cell 3
        have q4 : w6.cell? ⟨w4.heap.size, 4, none⟩ = some (.slice dA dn dc) := HD6.out.cell 4
        have q5 : w6.cell? ⟨w4.heap.size, 5, none⟩ = some (.int .i64 dK) := HD6.out.cell 5
        have q6 : w6.cell? ⟨w4.heap.size, 6, none⟩ = some (.string daf) := HD6.out.cell 6
        have q7 : w6.cell? ⟨w4.heap.size, 7, none⟩ = some (.string den) := HD6.out.cell 7
        have q8 : w6.cell? ⟨w4.heap.size, 8, none⟩ = some (.bool dla) := HD6.out.cell 8
        have q9 : w6.cell? ⟨w4.heap.size, 9, none⟩ = some (.bool dsp) := HD6.out.cell 9
        have q10 : w6.cell? ⟨w4.heap.size, 10, none⟩ = some (.slice dAr dnr dcr) := HD6.out.cell 10
        go_wp2_with fail
        obtain ⟨l1, l2, l3, ⟨S9, l4⟩, l5, l6, l7⟩ := HLK.out
        refine (like_any HW6.out ⟨dsz, dis, dnum, dtn, dA, dn, dc, dK, daf, den, dla, dsp, dAr, dnr, dcr⟩ S9 (l4 w6 (HRR.out.below HBw6.out)) l1 l2 l3 (by have := HZ.out; omega) l6 l7).mono ?_
        rintro e w7 ⟨rfl, hb7⟩
        have HBw7 := Lib.hid (HBw6.out.trans (hb7.out.mono HBw6.out.size))
        clear hb7 l1 l2 l3 l4 l5 l6 l7 q0 q1 q2 q3 q4 q5 q6 q7 q8 q9 q10
        go_wp2_with fail
        refine (llives_any w7 (HT0.out.below HBw7.out)).mono ?_
        rintro e w8 ⟨rfl, hb8⟩
        have HBw8 := Lib.hid (HBw7.out.trans (hb8.out.mono HBw7.out.size))
        clear hb8
        go_wp2_with fail
        go_ret
        exact ⟨by first | rfl | simp, HBw8.out⟩
    · have hq2 : ¬ (6 : Int) < (n : Int) := by omega
      by_cases ha : 40 < af.size
      · have hq3 : (40 : Int) < (af.size : Int) := by omega
        have HRR : Hid (RsIn w Ar nr cr S L) := hR
        have HAA : Hid (ClAt w A n c M) := hA
        have hMM : ∀ x ∈ M, x.fit := hMf
        have hzr : nr ≤ 6 := by omega
        have hzc : n ≤ 6 := by omega
        clear hR hA hMf hr6 hc6 ha
        obtain ⟨w0, hw0⟩ : ∃ W, w.alloc (.cells #[.string tn, .slice A n c, .int .i64 K] 26) = W := ⟨_, rfl⟩
        have HB0 : Hid (Below w.heap.size w w0) := by rw [← hw0]; exact (Below.refl _ w).alloc (Nat.le_refl _) _
        have HE0 : Hid (Has w0 w.heap.size 26 #[.string tn, .slice A n c, .int .i64 K]) := by rw [← hw0]; exact Has.new _ _ _
        have e1 : w0.cell? ⟨w.heap.size, 1, none⟩ = some (.slice A n c) := HE0.out.cell 1
        go_enter Tryd.func3, Tryd.ntmps3
        go_wp2_with fail
        clear e1
        refine (wnew_any sz _ hs0 hs1).mono ?_
        rintro e w1 ⟨b1, t1, rfl, hw1, hb1⟩
        clear hq1 hq2 hq3
        have HW1 : Hid (WinA 0 b1 t1 w1 (aShut (max sz 1))) := ⟨_, _, _, _, hw1.out 0⟩
        have HB1 : Hid (Below w.heap.size w w1) := HB0.out.trans (hb1.out.1.mono HB0.out.size)
        have HE1 := Lib.hid (HE0.out.below hb1.out.1 HE0.out.lt)
        have hge : w.heap.size ≤ b1 ∧ w.heap.size ≤ t1 := by have := hb1.out.2; have := HB0.out.size; omega
        clear hw1 hb1 hw0
        go_wp2_with fail
        refine (rnew_any sz _ hs0 hs1).mono ?_
        rintro e w2 ⟨rfl, hb2⟩
        have HB2 : Hid (Below w1.heap.size w1 w2) := hb2.out
        have HBw2 : Hid (Below w.heap.size w w2) := HB1.out.trans (HB2.out.mono HB1.out.size)
        have HE2 := Lib.hid (HE1.out.below HB2.out HE1.out.lt)
        obtain ⟨z, hz⟩ : ∃ z, max sz 1 = z := ⟨_, rfl⟩
        have hz1 : 1 ≤ z := by omega
        have hz2 : z ≤ 9223372036854775807 := by omega
        rw [hz] at HW1 ⊢
        dsimp only [Dw.cells, dwNew]
        clear hb2 hz
        obtain ⟨w3, hw3⟩ : ∃ W, w2.alloc (.cells #[.int .i64 z, .bool false, .int .i64 0, .string ⟨#[]⟩, .slice none 0 0, .int .i64 0, .string ⟨#[]⟩, .string ⟨#[]⟩, .bool false, .bool false, .slice none 0 0] 31) = W := ⟨_, rfl⟩
        have HB3 : Hid (Below w2.heap.size w2 w3) := by rw [← hw3]; exact (Below.refl _ w2).alloc (Nat.le_refl _) _
        have HD3 : Hid (Has w3 w2.heap.size 31 #[.int .i64 z, .bool false, .int .i64 0, .string ⟨#[]⟩, .slice none 0 0, .int .i64 0, .string ⟨#[]⟩, .string ⟨#[]⟩, .bool false, .bool false, .slice none 0 0]) := by rw [← hw3]; exact Has.new _ _ _
        have HBw3 : Hid (Below w.heap.size w w3) := HBw2.out.trans (HB3.out.mono HBw2.out.size)
        have HE3 := Lib.hid (HE2.out.below HB3.out HE2.out.lt)
        have HW3 := Lib.hid ((HW1.out.below HB2.out).below HB3.out)
        have e0 : w3.cell? ⟨w.heap.size, 0, none⟩ = some (.string tn) := HE3.out.cell 0
        have e1 : w3.cell? ⟨w.heap.size, 1, none⟩ = some (.slice A n c) := HE3.out.cell 1
        have e2 : w3.cell? ⟨w.heap.size, 2, none⟩ = some (.int .i64 K) := HE3.out.cell 2
        have d0 : w3.cell? ⟨w2.heap.size, 0, none⟩ = some (.int .i64 z) := HD3.out.cell 0
        have d1 : w3.cell? ⟨w2.heap.size, 1, none⟩ = some (.bool false) := HD3.out.cell 1
        have d2 : w3.cell? ⟨w2.heap.size, 2, none⟩ = some (.int .i64 0) := HD3.out.cell 2
        have d3 : w3.cell? ⟨w2.heap.size, 3, none⟩ = some (.string ⟨#[]⟩) := HD3.out.cell 3
        have d4 : w3.cell? ⟨w2.heap.size, 4, none⟩ = some (.slice none 0 0) := HD3.out.cell 4
        have d5 : w3.cell? ⟨w2.heap.size, 5, none⟩ = some (.int .i64 0) := HD3.out.cell 5
        have d6 : w3.cell? ⟨w2.heap.size, 6, none⟩ = some (.string ⟨#[]⟩) := HD3.out.cell 6
        have d7 : w3.cell? ⟨w2.heap.size, 7, none⟩ = some (.string ⟨#[]⟩) := HD3.out.cell 7
        have d8 : w3.cell? ⟨w2.heap.size, 8, none⟩ = some (.bool false) := HD3.out.cell 8
        have d9 : w3.cell? ⟨w2.heap.size, 9, none⟩ = some (.bool false) := HD3.out.cell 9
        have d10 : w3.cell? ⟨w2.heap.size, 10, none⟩ = some (.slice none 0 0) := HD3.out.cell 10
        subst hw3
        go_wp2_with fail
        refine (ropen_any z hz1 hz2 num tn A M n c K (af.extract 0 40) Ar nr cr S L _ (HAA.out.below HBw3.out) (by omega) (HRR.out.below HBw3.out) (by omega)).mono ?_
        rintro e w4 ⟨rfl, hb4⟩
        have HB4 := Lib.hid hb4.out
        have HBw4 : Hid (Below w.heap.size w w4) := HBw3.out.trans (HB4.out.mono HBw3.out.size)
        have HE4 := Lib.hid (HE3.out.below HB4.out HE3.out.lt)
        have HW4 := Lib.hid (HW3.out.below HB4.out)
        clear hb4 e0 e1 e2 d0 d1 d2 d3 d4 d5 d6 d7 d8 d9 d10
        obtain ⟨dd, hdd⟩ : ∃ dd, dOpn z num tn A M n c K (af.extract 0 40) Ar nr cr L = dd := ⟨_, rfl⟩
        obtain ⟨ff, hff⟩ : ∃ ff, openE (aShut z) num tn M K (af.extract 0 40) L = ff := ⟨_, rfl⟩
        rw [hdd, hff]
        have HDD := Lib.hid hdd
        have HFF := Lib.hid hff
        clear hdd hff
        have HLK := Lib.hid (args_like HDD.out (HRR.out.below HBw4.out) (by have := HAA.out.len; omega))
        have HOP := Lib.hid (fun (W : World) (hb : Below w4.heap.size w4 W) => wopn_any (HW4.out.below hb) hz1 hz2 num tn A M n c K (af.extract 0 40) Ar nr cr S L htn ((HAA.out.below HBw4.out).below hb) (by omega) hA0 hMM ((HRR.out.below HBw4.out).below hb) ((HT0.out.below HBw4.out).below hb) (by omega) (Nat.zero_le _))
        rw [HFF.out] at HOP
        obtain ⟨aa, haa⟩ : ∃ aa, openA (aShut z) num tn M K (af.extract 0 40) L = aa := ⟨_, rfl⟩
        rw [haa] at HLK HOP
        clear haa HDD HFF
        obtain ⟨dsz, dis, dnum, dtn, dA, dn, dc, dK, daf, den, dla, dsp, dAr, dnr, dcr⟩ := dd
        dsimp only [Dw.cells] at HLK ⊢
        have HZ := Lib.hid (show nr ≤ 6 by omega)
        clear hzr hzc hcr hcc htn hA0 haf hMM
        have HB5 := Lib.hid ((Below.refl _ w4).alloc (Nat.le_refl _) (.cells #[.int .i64 dsz, .bool dis, .int .i64 dnum, .string dtn, .slice dA dn dc, .int .i64 dK, .string daf, .string den, .bool dla, .bool dsp, .slice dAr dnr dcr] 31))
        have HD5 := Lib.hid (Has.new w4 31 #[.int .i64 dsz, .bool dis, .int .i64 dnum, .string dtn, .slice dA dn dc, .int .i64 dK, .string daf, .string den, .bool dla, .bool dsp, .slice dAr dnr dcr])
        have HE5 := Lib.hid (HE4.out.below HB5.out HE4.out.lt)
        have e0 : (w4.alloc (.cells #[.int .i64 dsz, .bool dis, .int .i64 dnum, .string dtn, .slice dA dn dc, .int .i64 dK, .string daf, .string den, .bool dla, .bool dsp, .slice dAr dnr dcr] 31)).cell? ⟨w.heap.size, 0, none⟩ = some (.string tn) := HE5.out.cell 0
        have e1 : (w4.alloc (.cells #[.int .i64 dsz, .bool dis, .int .i64 dnum, .string dtn, .slice dA dn dc, .int .i64 dK, .string daf, .string den, .bool dla, .bool dsp, .slice dAr dnr dcr] 31)).cell? ⟨w.heap.size, 1, none⟩ = some (.slice A n c) := HE5.out.cell 1
        have e2 : (w4.alloc (.cells #[.int .i64 dsz, .bool dis, .int .i64 dnum, .string dtn, .slice dA dn dc, .int .i64 dK, .string daf, .string den, .bool dla, .bool dsp, .slice dAr dnr dcr] 31)).cell? ⟨w.heap.size, 2, none⟩ = some (.int .i64 K) := HE5.out.cell 2
        go_wp2_with fail
        refine (HOP.out _ HB5.out).mono ?_
        rintro e w6 ⟨rfl, tb6, hw6, hu6, ht6⟩
        have hbne : b1 ≠ w4.heap.size := by have := HW4.out.lt; omega
        have HD6 := Lib.hid (HD5.out.tur hu6.out (by simp; exact Ne.symm hbne))
        have HBw5 := Lib.hid (HBw4.out.trans (HB5.out.mono HBw4.out.size))
        have HBw6 := Lib.hid (HBw5.out.trans (hu6.out.below (by simp; omega) HBw5.out.size))
        have HW6 := Lib.hid hw6.out
        clear hw6 hu6 ht6 e0 e1 e2
        have q0 : w6.cell? ⟨w4.heap.size, 0, none⟩ = some (.int .i64 dsz) := HD6.out.cell 0
        have q1 : w6.cell? ⟨w4.heap.size, 1, none⟩ = some (.bool dis) := HD6.out.cell 1
        have q2 : w6.cell? ⟨w4.heap.size, 2, none⟩ = some (.int .i64 dnum) := HD6.out.cell 2
        have q3 : w6.cell? ⟨w4.heap.size, 3, none⟩ = some (.string dtn) := HD6.out.cell 3
        have q4 : w6.cell? ⟨w4.heap.size, 4, none⟩ = some (.slice dA dn dc) := HD6.out.cell 4
        have q5 : w6.cell? ⟨w4.heap.size, 5, none⟩ = some (.int .i64 dK) := HD6.out.cell 5
        have q6 : w6.cell? ⟨w4.heap.size, 6, none⟩ = some (.string daf) := HD6.out.cell 6
        have q7 : w6.cell? ⟨w4.heap.size, 7, none⟩ = some (.string den) := HD6.out.cell 7
        have q8 : w6.cell? ⟨w4.heap.size, 8, none⟩ = some (.bool dla) := HD6.out.cell 8
        have q9 : w6.cell? ⟨w4.heap.size, 9, none⟩ = some (.bool dsp) := HD6.out.cell 9
        have q10 : w6.cell? ⟨w4.heap.size, 10, none⟩ = some (.slice dAr dnr dcr) := HD6.out.cell 10
        go_wp2_with fail
        obtain ⟨l1, l2, l3, ⟨S9, l4⟩, l5, l6, l7⟩ := HLK.out
        refine (like_any HW6.out ⟨dsz, dis, dnum, dtn, dA, dn, dc, dK, daf, den, dla, dsp, dAr, dnr, dcr⟩ S9 (l4 w6 (HRR.out.below HBw6.out)) l1 l2 l3 (by have := HZ.out; omega) l6 l7).mono ?_
        rintro e w7 ⟨rfl, hb7⟩
        have HBw7 := Lib.hid (HBw6.out.trans (hb7.out.mono HBw6.out.size))
        clear hb7 l1 l2 l3 l4 l5 l6 l7 q0 q1 q2 q3 q4 q5 q6 q7 q8 q9 q10
        go_wp2_with fail
        refine (llives_any w7 (HT0.out.below HBw7.out)).mono ?_
        rintro e w8 ⟨rfl, hb8⟩
        have HBw8 := Lib.hid (HBw7.out.trans (hb8.out.mono HBw7.out.size))
        clear hb8
        go_wp2_with fail
        go_ret
        exact ⟨by first | rfl | simp, HBw8.out⟩
      · have hq3 : ¬ (40 : Int) < (af.size : Int) := by omega
        have HRR : Hid (RsIn w Ar nr cr S L) := hR
        have HAA : Hid (ClAt w A n c M) := hA
        have hMM : ∀ x ∈ M, x.fit := hMf
        have hzr : nr ≤ 6 := by omega
        have hzc : n ≤ 6 := by omega
        clear hR hA hMf hr6 hc6 ha
        obtain ⟨w0, hw0⟩ : ∃ W, w.alloc (.cells #[.string tn, .slice A n c, .int .i64 K] 26) = W := ⟨_, rfl⟩
        have HB0 : Hid (Below w.heap.size w w0) := by rw [← hw0]; exact (Below.refl _ w).alloc (Nat.le_refl _) _
        have HE0 : Hid (Has w0 w.heap.size 26 #[.string tn, .slice A n c, .int .i64 K]) := by rw [← hw0]; exact Has.new _ _ _
        have e1 : w0.cell? ⟨w.heap.size, 1, none⟩ = some (.slice A n c) := HE0.out.cell 1
        go_enter Tryd.func3, Tryd.ntmps3
        go_wp2_with fail
        clear e1
        refine (wnew_any sz _ hs0 hs1).mono ?_
        rintro e w1 ⟨b1, t1, rfl, hw1, hb1⟩
        clear hq1 hq2 hq3
        have HW1 : Hid (WinA 0 b1 t1 w1 (aShut (max sz 1))) := ⟨_, _, _, _, hw1.out 0⟩
        have HB1 : Hid (Below w.heap.size w w1) := HB0.out.trans (hb1.out.1.mono HB0.out.size)
        have HE1 := Lib.hid (HE0.out.below hb1.out.1 HE0.out.lt)
        have hge : w.heap.size ≤ b1 ∧ w.heap.size ≤ t1 := by have := hb1.out.2; have := HB0.out.size; omega
        clear hw1 hb1 hw0
        go_wp2_with fail
        refine (rnew_any sz _ hs0 hs1).mono ?_
        rintro e w2 ⟨rfl, hb2⟩
        have HB2 : Hid (Below w1.heap.size w1 w2) := hb2.out
        have HBw2 : Hid (Below w.heap.size w w2) := HB1.out.trans (HB2.out.mono HB1.out.size)
        have HE2 := Lib.hid (HE1.out.below HB2.out HE1.out.lt)
        obtain ⟨z, hz⟩ : ∃ z, max sz 1 = z := ⟨_, rfl⟩
        have hz1 : 1 ≤ z := by omega
        have hz2 : z ≤ 9223372036854775807 := by omega
        rw [hz] at HW1 ⊢
        dsimp only [Dw.cells, dwNew]
        clear hb2 hz
        obtain ⟨w3, hw3⟩ : ∃ W, w2.alloc (.cells #[.int .i64 z, .bool false, .int .i64 0, .string ⟨#[]⟩, .slice none 0 0, .int .i64 0, .string ⟨#[]⟩, .string ⟨#[]⟩, .bool false, .bool false, .slice none 0 0] 31) = W := ⟨_, rfl⟩
        have HB3 : Hid (Below w2.heap.size w2 w3) := by rw [← hw3]; exact (Below.refl _ w2).alloc (Nat.le_refl _) _
        have HD3 : Hid (Has w3 w2.heap.size 31 #[.int .i64 z, .bool false, .int .i64 0, .string ⟨#[]⟩, .slice none 0 0, .int .i64 0, .string ⟨#[]⟩, .string ⟨#[]⟩, .bool false, .bool false, .slice none 0 0]) := by rw [← hw3]; exact Has.new _ _ _
        have HBw3 : Hid (Below w.heap.size w w3) := HBw2.out.trans (HB3.out.mono HBw2.out.size)
        have HE3 := Lib.hid (HE2.out.below HB3.out HE2.out.lt)
        have HW3 := Lib.hid ((HW1.out.below HB2.out).below HB3.out)
        have e0 : w3.cell? ⟨w.heap.size, 0, none⟩ = some (.string tn) := HE3.out.cell 0
        have e1 : w3.cell? ⟨w.heap.size, 1, none⟩ = some (.slice A n c) := HE3.out.cell 1
        have e2 : w3.cell? ⟨w.heap.size, 2, none⟩ = some (.int .i64 K) := HE3.out.cell 2
        have d0 : w3.cell? ⟨w2.heap.size, 0, none⟩ = some (.int .i64 z) := HD3.out.cell 0
        have d1 : w3.cell? ⟨w2.heap.size, 1, none⟩ = some (.bool false) := HD3.out.cell 1
        have d2 : w3.cell? ⟨w2.heap.size, 2, none⟩ = some (.int .i64 0) := HD3.out.cell 2
        have d3 : w3.cell? ⟨w2.heap.size, 3, none⟩ = some (.string ⟨#[]⟩) := HD3.out.cell 3
        have d4 : w3.cell? ⟨w2.heap.size, 4, none⟩ = some (.slice none 0 0) := HD3.out.cell 4
        have d5 : w3.cell? ⟨w2.heap.size, 5, none⟩ = some (.int .i64 0) := HD3.out.cell 5
        have d6 : w3.cell? ⟨w2.heap.size, 6, none⟩ = some (.string ⟨#[]⟩) := HD3.out.cell 6
        have d7 : w3.cell? ⟨w2.heap.size, 7, none⟩ = some (.string ⟨#[]⟩) := HD3.out.cell 7
        have d8 : w3.cell? ⟨w2.heap.size, 8, none⟩ = some (.bool false) := HD3.out.cell 8
        have d9 : w3.cell? ⟨w2.heap.size, 9, none⟩ = some (.bool false) := HD3.out.cell 9
        have d10 : w3.cell? ⟨w2.heap.size, 10, none⟩ = some (.slice none 0 0) := HD3.out.cell 10
        subst hw3
        go_wp2_with fail
        refine (ropen_any z hz1 hz2 num tn A M n c K af Ar nr cr S L _ (HAA.out.below HBw3.out) (by omega) (HRR.out.below HBw3.out) (by omega)).mono ?_
        rintro e w4 ⟨rfl, hb4⟩
        have HB4 := Lib.hid hb4.out
        have HBw4 : Hid (Below w.heap.size w w4) := HBw3.out.trans (HB4.out.mono HBw3.out.size)
        have HE4 := Lib.hid (HE3.out.below HB4.out HE3.out.lt)
        have HW4 := Lib.hid (HW3.out.below HB4.out)
        clear hb4 e0 e1 e2 d0 d1 d2 d3 d4 d5 d6 d7 d8 d9 d10
        obtain ⟨dd, hdd⟩ : ∃ dd, dOpn z num tn A M n c K af Ar nr cr L = dd := ⟨_, rfl⟩
        obtain ⟨ff, hff⟩ : ∃ ff, openE (aShut z) num tn M K af L = ff := ⟨_, rfl⟩
        rw [hdd, hff]
        have HDD := Lib.hid hdd
        have HFF := Lib.hid hff
        clear hdd hff
        have HLK := Lib.hid (args_like HDD.out (HRR.out.below HBw4.out) (by have := HAA.out.len; omega))
        have HOP := Lib.hid (fun (W : World) (hb : Below w4.heap.size w4 W) => wopn_any (HW4.out.below hb) hz1 hz2 num tn A M n c K af Ar nr cr S L htn ((HAA.out.below HBw4.out).below hb) (by omega) hA0 hMM ((HRR.out.below HBw4.out).below hb) ((HT0.out.below HBw4.out).below hb) (by omega) (Nat.zero_le _))
        rw [HFF.out] at HOP
        obtain ⟨aa, haa⟩ : ∃ aa, openA (aShut z) num tn M K af L = aa := ⟨_, rfl⟩
        rw [haa] at HLK HOP
        clear haa HDD HFF
        obtain ⟨dsz, dis, dnum, dtn, dA, dn, dc, dK, daf, den, dla, dsp, dAr, dnr, dcr⟩ := dd
        dsimp only [Dw.cells] at HLK ⊢
        have HZ := Lib.hid (show nr ≤ 6 by omega)
        clear hzr hzc hcr hcc htn hA0 haf hMM
        have HB5 := Lib.hid ((Below.refl _ w4).alloc (Nat.le_refl _) (.cells #[.int .i64 dsz, .bool dis, .int .i64 dnum, .string dtn, .slice dA dn dc, .int .i64 dK, .string daf, .string den, .bool dla, .bool dsp, .slice dAr dnr dcr] 31))
        have HD5 := Lib.hid (Has.new w4 31 #[.int .i64 dsz, .bool dis, .int .i64 dnum, .string dtn, .slice dA dn dc, .int .i64 dK, .string daf, .string den, .bool dla, .bool dsp, .slice dAr dnr dcr])
        have HE5 := Lib.hid (HE4.out.below HB5.out HE4.out.lt)
        have e0 : (w4.alloc (.cells #[.int .i64 dsz, .bool dis, .int .i64 dnum, .string dtn, .slice dA dn dc, .int .i64 dK, .string daf, .string den, .bool dla, .bool dsp, .slice dAr dnr dcr] 31)).cell? ⟨w.heap.size, 0, none⟩ = some (.string tn) := HE5.out.cell 0
        have e1 : (w4.alloc (.cells #[.int .i64 dsz, .bool dis, .int .i64 dnum, .string dtn, .slice dA dn dc, .int .i64 dK, .string daf, .string den, .bool dla, .bool dsp, .slice dAr dnr dcr] 31)).cell? ⟨w.heap.size, 1, none⟩ = some (.slice A n c) := HE5.out.cell 1
        have e2 : (w4.alloc (.cells #[.int .i64 dsz, .bool dis, .int .i64 dnum, .string dtn, .slice dA dn dc, .int .i64 dK, .string daf, .string den, .bool dla, .bool dsp, .slice dAr dnr dcr] 31)).cell? ⟨w.heap.size, 2, none⟩ = some (.int .i64 K) := HE5.out.cell 2
        go_wp2_with fail
        refine (HOP.out _ HB5.out).mono ?_
        rintro e w6 ⟨rfl, tb6, hw6, hu6, ht6⟩
        have hbne : b1 ≠ w4.heap.size := by have := HW4.out.lt; omega
        have HD6 := Lib.hid (HD5.out.tur hu6.out (by simp; exact Ne.symm hbne))
        have HBw5 := Lib.hid (HBw4.out.trans (HB5.out.mono HBw4.out.size))
        have HBw6 := Lib.hid (HBw5.out.trans (hu6.out.below (by simp; omega) HBw5.out.size))
        have HW6 := Lib.hid hw6.out
        clear hw6 hu6 ht6 e0 e1 e2
        have q0 : w6.cell? ⟨w4.heap.size, 0, none⟩ = some (.int .i64 dsz) := HD6.out.cell 0
        have q1 : w6.cell? ⟨w4.heap.size, 1, none⟩ = some (.bool dis) := HD6.out.cell 1
        have q2 : w6.cell? ⟨w4.heap.size, 2, none⟩ = some (.int .i64 dnum) := HD6.out.cell 2
        have q3 : w6.cell? ⟨w4.heap.size, 3, none⟩ = some (.string dtn) := HD6.out.cell 3
        have q4 : w6.cell? ⟨w4.heap.size, 4, none⟩ = some (.slice dA dn dc) := HD6.out.cell 4
        have q5 : w6.cell? ⟨w4.heap.size, 5, none⟩ = some (.int .i64 dK) := HD6.out.cell 5
        have q6 : w6.cell? ⟨w4.heap.size, 6, none⟩ = some (.string daf) := HD6.out.cell 6
        have q7 : w6.cell? ⟨w4.heap.size, 7, none⟩ = some (.string den) := HD6.out.cell 7
        have q8 : w6.cell? ⟨w4.heap.size, 8, none⟩ = some (.bool dla) := HD6.out.cell 8
        have q9 : w6.cell? ⟨w4.heap.size, 9, none⟩ = some (.bool dsp) := HD6.out.cell 9
        have q10 : w6.cell? ⟨w4.heap.size, 10, none⟩ = some (.slice dAr dnr dcr) := HD6.out.cell 10
        go_wp2_with fail
        obtain ⟨l1, l2, l3, ⟨S9, l4⟩, l5, l6, l7⟩ := HLK.out
        refine (like_any HW6.out ⟨dsz, dis, dnum, dtn, dA, dn, dc, dK, daf, den, dla, dsp, dAr, dnr, dcr⟩ S9 (l4 w6 (HRR.out.below HBw6.out)) l1 l2 l3 (by have := HZ.out; omega) l6 l7).mono ?_
        rintro e w7 ⟨rfl, hb7⟩
        have HBw7 := Lib.hid (HBw6.out.trans (hb7.out.mono HBw6.out.size))
        clear hb7 l1 l2 l3 l4 l5 l6 l7 q0 q1 q2 q3 q4 q5 q6 q7 q8 q9 q10
        go_wp2_with fail
        refine (llives_any w7 (HT0.out.below HBw7.out)).mono ?_
        rintro e w8 ⟨rfl, hb8⟩
        have HBw8 := Lib.hid (HBw7.out.trans (hb8.out.mono HBw7.out.size))
        clear hb8
        go_wp2_with fail
        go_ret
        exact ⟨by first | rfl | simp, HBw8.out⟩
end Go.Proofs.YtcdjeibcnkpadaaDoor.windowArgs
