/-
  The law ChunkPoints walked.
-/
import Derived.Test.YtjkmbggaoinkdaaDoorPtZ
import Derived.Test.YtjkmbggaoinkdaaDoorLives11
import Derived.Test.YtjkmbggaoinkdaaDoorArgsW
namespace Go.Proofs.YtjkmbggaoinkdaaDoor.chunkPoints
open Go.RowKit Dg
set_option maxRecDepth 100000
theorem pt_byte (x y z : Int) (T : List Wk) : ∀ b ∈ ptB x y z T, b < 256 := by
  intro b hb
  unfold ptB numsB worksB at hb
  rcases List.mem_append.1 hb with h | h
  · rcases List.mem_append.1 h with h | h
    · rcases List.mem_append.1 h with h | h
      · rcases List.mem_append.1 h with h | h
        · exact digs_byte _ b h
        · exact digs_byte _ b h
      · exact digs_byte _ b h
    · exact digs_byte _ b h
  · obtain ⟨x, hx, hb⟩ := List.mem_flatMap.1 h
    unfold wkB at hb
    rcases List.mem_append.1 hb with h | h
    · exact txt_byte _ b h
    · rcases List.mem_append.1 h with h | h
      · cases hd : x.d <;> simp [hd] at h <;> omega
      · exact txt_byte _ b h
theorem pt_len {X Y Z : Nat} {T : List Wk} (hT : Short T) (hl : T.length ≤ 6) (hx : X ≤ 9223372036854775807) (hy : Y ≤ 9223372036854775807) (hz : Z ≤ 9223372036854775807) : (ptB (X : Int) (Y : Int) (Z : Int) T).length ≤ 1000000 := by
  unfold ptB
  rw [List.length_append]
  have h1 := numsB_len X Y Z T.length (by omega) (by omega) (by omega) (by omega)
  have h2 := worksB_len hT T.length (Nat.le_refl _)
  simp only [Int.toNat_natCast]
  have h3 : 1821 * T.length ≤ 1821 * 6 := Nat.mul_le_mul_left _ hl
  omega
theorem own_open3 {B : Nat} {w : World} {v : Value} {l : List Nat} (h : Own B w v l) : ∃ A n c, v = .slice A n c ∧ Hid (l.length = n) ∧ Hid (Rd w A l) := by
  obtain ⟨A, c, e, _, hr⟩ := own_full h
  exact ⟨A, l.length, c, e, rfl, hr⟩
theorem ptOk_good (x y z : Int) (L : List Wk) : ptOk (absP x) (absP y) (absP z) (goodW L) = true := by
  unfold ptOk
  rw [decide_eq_true (absP_ge x), decide_eq_true (absP_ge y), decide_eq_true (absP_ge z), wright_of (goodW_sort L) (fun x hx => (goodW_good L x hx).may)]
  rfl
set_option maxHeartbeats 16000000 in
theorem walk (x y z : Int) (A : Option Addr) (n c : Nat) (L : List Wk) (w : World) (hx : -9223372036854775808 ≤ x ∧ x ≤ 9223372036854775807) (hy : -9223372036854775808 ≤ y ∧ y ≤ 9223372036854775807) (hz : -9223372036854775808 ≤ z ∧ z ≤ 9223372036854775807) (hn : L.length = n) (hnc : n ≤ c) (hcm : c ≤ maxLen) (hr : WRow w A L) (hf : ∀ x ∈ L, Wk.fit x) (hT : Tabs w) :
    Calls Tryd.prog 4 #[.agg #[.int .i64 x, .int .i64 y, .int .i64 z, .slice A n c]] w fun e w' => e = .returned (.bool true) ∧ Below w.heap.size w w' := by
  have HT := Lib.hid hT
  have hb0 : Below w.heap.size w (w.alloc (.cells #[.int .i64 x, .int .i64 y, .int .i64 z, .slice A n c] 43)) := (Below.refl _ w).alloc (Nat.le_refl _) _
  have HB0 := Lib.hid hb0
  have HX0 := Lib.hid (Has.new w 43 #[.int .i64 x, .int .i64 y, .int .i64 z, .slice A n c])
  have HFEW := Lib.hid (few_any A L n c (w.alloc (.cells #[.int .i64 x, .int .i64 y, .int .i64 z, .slice A n c] 43)) hn hnc hcm (hr.below hb0) hf)
  have HSH := Lib.hid (fewL_short L)
  have hfl := fewL_len L
  clear hn hnc hcm hr hf hT hb0
  generalize fewL L = F at *
  go_enter Tryd.func4, Tryd.ntmps4
  go_wp2_with fail
  refine HFEW.out.mono ?_
  rintro e w1 ⟨v1, rfl, ho1, hb1⟩
  have HB1 := Lib.hid (HB0.out.trans (hb1.out.mono HB0.out.size))
  have HX1 := Lib.hid (HX0.out.below hb1.out HX0.out.lt)
  have HF1 := Lib.hid (ownW_down ho1.out HB0.out.size)
  clear ho1 hb1 HFEW HX0 HB0
  obtain ⟨A1, n1, c1, rfl, _, _, _, _, _⟩ := ownW_open HF1.out
  have y3 : w1.cell? ⟨w.heap.size, 3, none⟩ = some (.slice A n c) := HX1.out.cell 3
  have g3 : w1.frozen? ⟨w.heap.size, 3, none⟩ = false := HX1.out.free 3
  have HX2 := Lib.hid (HX1.out.put 3 (.slice A1 n1 c1))
  have HF2 := Lib.hid (ownW_apart HF1.out HX1.out (by decide) ⟨w.heap.size, 3, none⟩ rfl (.slice A1 n1 c1))
  have HB2 := Lib.hid (HB1.out.setCell (p := ⟨w.heap.size, 3, none⟩) (Nat.le_refl _) (.slice A1 n1 c1))
  have HX2b : Hid (Has (w1.setCell ⟨w.heap.size, 3, none⟩ (.slice A1 n1 c1)) w.heap.size 43 #[.int .i64 x, .int .i64 y, .int .i64 z, .slice A1 n1 c1]) := HX2.out
  have z0 : (w1.setCell ⟨w.heap.size, 3, none⟩ (.slice A1 n1 c1)).cell? ⟨w.heap.size, 0, none⟩ = some (.int .i64 x) := HX2b.out.cell 0
  have z1 : (w1.setCell ⟨w.heap.size, 3, none⟩ (.slice A1 n1 c1)).cell? ⟨w.heap.size, 1, none⟩ = some (.int .i64 y) := HX2b.out.cell 1
  have z2 : (w1.setCell ⟨w.heap.size, 3, none⟩ (.slice A1 n1 c1)).cell? ⟨w.heap.size, 2, none⟩ = some (.int .i64 z) := HX2b.out.cell 2
  have z3 : (w1.setCell ⟨w.heap.size, 3, none⟩ (.slice A1 n1 c1)).cell? ⟨w.heap.size, 3, none⟩ = some (.slice A1 n1 c1) := HX2b.out.cell 3
  go_wp2_with fail
  obtain ⟨W2, hW2⟩ : ∃ W, W = w1.setCell ⟨w.heap.size, 3, none⟩ (.slice A1 n1 c1) := ⟨_, rfl⟩
  rw [← hW2] at HX2b HF2 HB2 ⊢
  clear hW2 y3 g3 z0 z1 z2 z3 HX1 HF1 HB1 HX2
  have HMY := Lib.hid (rptmay_any x y z W2 HF2.out (by omega) (fun x hx => by have := HSH.out x hx; omega))
  obtain ⟨pF, hpF⟩ : ∃ q, ptOk x y z F = q := ⟨_, rfl⟩
  rw [hpF] at HMY
  refine HMY.out.mono ?_
  rintro e w3 ⟨rfl, hb3⟩
  have HB3 := Lib.hid (HB2.out.trans (hb3.out.mono HB2.out.size))
  have HX3 := Lib.hid (HX2b.out.below hb3.out HX2b.out.lt)
  have HF3 := Lib.hid (HF2.out.below hb3.out)
  clear HMY hb3 HX2b HF2 HB2
  have z0 : w3.cell? ⟨w.heap.size, 0, none⟩ = some (.int .i64 x) := HX3.out.cell 0
  have z1 : w3.cell? ⟨w.heap.size, 1, none⟩ = some (.int .i64 y) := HX3.out.cell 1
  have z2 : w3.cell? ⟨w.heap.size, 2, none⟩ = some (.int .i64 z) := HX3.out.cell 2
  have z3 : w3.cell? ⟨w.heap.size, 3, none⟩ = some (.slice A1 n1 c1) := HX3.out.cell 3
  have HWR := Lib.hid (pwrite_any x y z w3 HF3.out HSH.out (by omega) hx.2 hy.2 hz.2 (HT.out.below HB3.out))
  rw [hpF] at HWR
  go_wp2_with fail
  refine HWR.out.mono ?_
  rintro e w4 ⟨v4, rfl, ho4, hb4⟩
  obtain ⟨A4, n4, c4, rfl, HL4, HR4⟩ := own_open3 ho4.out
  have HB4 := Lib.hid (HB3.out.trans (hb4.out.mono HB3.out.size))
  have HX4 := Lib.hid (HX3.out.below hb4.out HX3.out.lt)
  have HF4 := Lib.hid (HF3.out.below hb4.out)
  clear HWR ho4 hb4 HR4 HX3 HF3 HB3 z0 z1 z2 z3
  have z0 : w4.cell? ⟨w.heap.size, 0, none⟩ = some (.int .i64 x) := HX4.out.cell 0
  have z1 : w4.cell? ⟨w.heap.size, 1, none⟩ = some (.int .i64 y) := HX4.out.cell 1
  have z2 : w4.cell? ⟨w.heap.size, 2, none⟩ = some (.int .i64 z) := HX4.out.cell 2
  have z3 : w4.cell? ⟨w.heap.size, 3, none⟩ = some (.slice A1 n1 c1) := HX4.out.cell 3
  cases pF
  · have hn4 : n4 = 0 := HL4.out.symm
    subst hn4
    go_wp2_with fail
    refine (rpoint_any x y z w4 HF4.out HSH.out hx hy hz).mono ?_
    rintro e w5 ⟨v5, rfl, ho5, hb5⟩
    have hok := ptOk_good x y z F
    have hgl := goodW_len F
    have HGG := Lib.hid (goodW_good F)
    obtain ⟨XX, hXX⟩ : ∃ k : Nat, absP x = (k : Int) := ⟨(absP x).toNat, by have := absP_ge x; omega⟩
    obtain ⟨Y, hY⟩ : ∃ k : Nat, absP y = (k : Int) := ⟨(absP y).toNat, by have := absP_ge y; omega⟩
    obtain ⟨Z, hZ⟩ : ∃ k : Nat, absP z = (k : Int) := ⟨(absP z).toNat, by have := absP_ge z; omega⟩
    have bX : XX ≤ 9223372036854775807 := by have : absP x ≤ 9223372036854775807 := (by unfold absP; split <;> omega); omega
    have bY : Y ≤ 9223372036854775807 := by have : absP y ≤ 9223372036854775807 := (by unfold absP; split <;> omega); omega
    have bZ : Z ≤ 9223372036854775807 := by have : absP z ≤ 9223372036854775807 := (by unfold absP; split <;> omega); omega
    rw [hXX, hY, hZ] at hok
    rw [hXX, hY, hZ]
    obtain ⟨G, hG⟩ : ∃ q, goodW F = q := ⟨_, rfl⟩
    rw [hG] at hok hgl HGG ho5
    have HOK := Lib.hid hok
    have HGS : Hid (Short G) := fun x hx => by have := (HGG.out x hx).sizes; omega
    have HB5 := Lib.hid (HB4.out.trans (hb5.out.mono HB4.out.size))
    have HG5 := Lib.hid (ownW_down ho5.out HB4.out.size)
    clear ho5 hb5 hok hXX hY hZ hG hpF z0 z1 z2 z3 HX4 HF4 HB4 HL4 HSH
    obtain ⟨A5, n5, c5, rfl, _, _, _, _, _⟩ := ownW_open HG5.out
    have HY6 := Lib.hid (Has.new w5 43 #[.int .i64 (XX : Int), .int .i64 (Y : Int), .int .i64 (Z : Int), .slice A5 n5 c5])
    have hw6 : Below w5.heap.size w5 (w5.alloc (.cells #[.int .i64 (XX : Int), .int .i64 (Y : Int), .int .i64 (Z : Int), .slice A5 n5 c5] 43)) := (Below.refl _ w5).alloc (Nat.le_refl _) _
    have HB6 := Lib.hid (HB5.out.trans (hw6.mono HB5.out.size))
    have HG6 := Lib.hid (HG5.out.below hw6)
    clear hw6 HG5 HB5
    go_wp2_with fail
    obtain ⟨W6, hW6⟩ : ∃ W, W = w5.alloc (.cells #[.int .i64 (XX : Int), .int .i64 (Y : Int), .int .i64 (Z : Int), .slice A5 n5 c5] 43) := ⟨_, rfl⟩
    rw [← hW6] at HY6 HG6 HB6 ⊢
    clear hW6
    generalize w5.heap.size = q6 at *
    have HW7 := Lib.hid (pwrite_any (XX : Int) (Y : Int) (Z : Int) W6 HG6.out HGS.out (by omega) (by omega) (by omega) (by omega) (HT.out.below HB6.out))
    rw [HOK.out] at HW7
    refine HW7.out.mono ?_
    rintro e w7 ⟨v7, rfl, ho7, hb7⟩
    obtain ⟨A7, n7, c7, rfl, HL7, HR7⟩ := own_open3 (show Own W6.heap.size w7 v7 (ptB (XX : Int) (Y : Int) (Z : Int) G) from ho7.out)
    have HB7 := Lib.hid (HB6.out.trans (hb7.out.mono HB6.out.size))
    have HY7 := Lib.hid (HY6.out.below hb7.out HY6.out.lt)
    have HG7 := Lib.hid (HG6.out.below hb7.out)
    clear HW7 ho7 hb7 HY6 HG6 HB6
    have HRD := Lib.hid (pread_any XX Y Z G A7 n7 c7 w7 HR7.out HL7.out (by rw [← HL7.out]; exact pt_len HGS.out (by omega) bX bY bZ) (pt_byte _ _ _ _) bX bY bZ (by omega) (fun x hx => by have := (HGG.out x hx).sizes; omega) (HT.out.below HB7.out) HOK.out)
    go_wp2_with fail
    refine HRD.out.mono ?_
    rintro e w8 ⟨v8, rfl, ho8, hb8⟩
    have HB8 := Lib.hid (HB7.out.trans (hb8.out.mono HB7.out.size))
    have HY8 := Lib.hid (HY7.out.below hb8.out HY7.out.lt)
    have HG8 := Lib.hid (HG7.out.below hb8.out)
    have HR8 := Lib.hid (HR7.out.below hb8.out)
    have HG88 := Lib.hid (ownW_down ho8.out HB7.out.size)
    clear HRD ho8 hb8 HY7 HG7 HR7 HB7
    obtain ⟨A8, n8, c8, rfl, _, _, _, _, _⟩ := ownW_open HG88.out
    have HQ9 := Lib.hid (Has.new w8 43 #[.int .i64 (XX : Int), .int .i64 (Y : Int), .int .i64 (Z : Int), .slice A8 n8 c8])
    have hw9 : Below w8.heap.size w8 (w8.alloc (.cells #[.int .i64 (XX : Int), .int .i64 (Y : Int), .int .i64 (Z : Int), .slice A8 n8 c8] 43)) := (Below.refl _ w8).alloc (Nat.le_refl _) _
    have HB9 := Lib.hid (HB8.out.trans (hw9.mono HB8.out.size))
    have HY9 := Lib.hid (HY8.out.below hw9 HY8.out.lt)
    have HG9 := Lib.hid (HG8.out.below hw9)
    have HG89 := Lib.hid (HG88.out.below hw9)
    have HR9 := Lib.hid (HR8.out.below hw9)
    clear hw9 HY8 HG8 HG88 HR8 HB8
    go_wp2_with fail
    obtain ⟨W9, hW9⟩ : ∃ W, W = w8.alloc (.cells #[.int .i64 (XX : Int), .int .i64 (Y : Int), .int .i64 (Z : Int), .slice A8 n8 c8] 43) := ⟨_, rfl⟩
    rw [← hW9] at HQ9 HY9 HG9 HG89 HR9 HB9 ⊢
    clear hW9
    generalize w8.heap.size = q9 at *
    obtain ⟨sb7, hs7⟩ : ∃ s, bs (ptB (XX : Int) (Y : Int) (Z : Int) G) = s := ⟨_, rfl⟩
    have HS7 := Lib.hid hs7
    clear hs7
    obtain ⟨w10, hw10⟩ : ∃ W, W = W9.drew := ⟨_, rfl⟩
    have hb10 : Below W9.heap.size W9 w10 := by rw [hw10]; exact (Below.refl _ W9).drew
    have HY10 := Lib.hid (HY9.out.below hb10 HY9.out.lt)
    have HQ10 := Lib.hid (HQ9.out.below hb10 HQ9.out.lt)
    have HG10 := Lib.hid (HG9.out.below hb10)
    have HG810 := Lib.hid (HG89.out.below hb10)
    have HR10 := Lib.hid (HR9.out.below hb10)
    have HB10 := Lib.hid (HB9.out.trans (hb10.mono HB9.out.size))
    have hS10 : (fun X : World => X.cell? ⟨q6, 0, none⟩ = some (.int .i64 (XX : Int)) ∧ X.cell? ⟨q6, 1, none⟩ = some (.int .i64 (Y : Int)) ∧ X.cell? ⟨q6, 2, none⟩ = some (.int .i64 (Z : Int)) ∧ X.cell? ⟨q6, 3, none⟩ = some (.slice A5 n5 c5) ∧ X.cell? ⟨q9, 0, none⟩ = some (.int .i64 (XX : Int)) ∧ X.cell? ⟨q9, 1, none⟩ = some (.int .i64 (Y : Int)) ∧ X.cell? ⟨q9, 2, none⟩ = some (.int .i64 (Z : Int)) ∧ X.cell? ⟨q9, 3, none⟩ = some (.slice A8 n8 c8) ∧ Sem.run Tryd.prog (convert 46 9 (.slice A7 n7 c7)) X = .ok (.string sb7) X) w10 := ⟨HY10.out.cell 0, HY10.out.cell 1, HY10.out.cell 2, HY10.out.cell 3, HQ10.out.cell 0, HQ10.out.cell 1, HQ10.out.cell 2, HQ10.out.cell 3, (by rw [conv_len _ A7 _ n7 c7 HL7.out HR10.out, HS7.out])⟩
    clear HY9 HQ9 HG9 HG89 HR9 HB9
    have hS10' : (fun X : World => X.cell? ⟨q6, 0, none⟩ = some (.int .i64 (XX : Int)) ∧ X.cell? ⟨q6, 1, none⟩ = some (.int .i64 (Y : Int)) ∧ X.cell? ⟨q6, 2, none⟩ = some (.int .i64 (Z : Int)) ∧ X.cell? ⟨q6, 3, none⟩ = some (.slice A5 n5 c5) ∧ X.cell? ⟨q9, 0, none⟩ = some (.int .i64 (XX : Int)) ∧ X.cell? ⟨q9, 1, none⟩ = some (.int .i64 (Y : Int)) ∧ X.cell? ⟨q9, 2, none⟩ = some (.int .i64 (Z : Int)) ∧ X.cell? ⟨q9, 3, none⟩ = some (.slice A8 n8 c8) ∧ Sem.run Tryd.prog (convert 46 9 (.slice A7 n7 c7)) X = .ok (.string sb7) X) W9.drew := hw10 ▸ hS10
    refine wp_region_held_drew (S := (fun X : World => X.cell? ⟨q6, 0, none⟩ = some (.int .i64 (XX : Int)) ∧ X.cell? ⟨q6, 1, none⟩ = some (.int .i64 (Y : Int)) ∧ X.cell? ⟨q6, 2, none⟩ = some (.int .i64 (Z : Int)) ∧ X.cell? ⟨q6, 3, none⟩ = some (.slice A5 n5 c5) ∧ X.cell? ⟨q9, 0, none⟩ = some (.int .i64 (XX : Int)) ∧ X.cell? ⟨q9, 1, none⟩ = some (.int .i64 (Y : Int)) ∧ X.cell? ⟨q9, 2, none⟩ = some (.int .i64 (Z : Int)) ∧ X.cell? ⟨q9, 3, none⟩ = some (.slice A8 n8 c8) ∧ Sem.run Tryd.prog (convert 46 9 (.slice A7 n7 c7)) X = .ok (.string sb7) X)) (by kernel_rfl) hS10' (fun _ => ?_)
    rw [← hw10]
    clear hw10 hS10'
    (refine wpAnyH_take (i := 0) (v := ?_) rfl (by kernel_rfl) (by kernel_rfl) (by kernel_rfl) (fun _ _ _ h => h) (Or.inl ⟨by rfl, ?_⟩) (by assumption) ?_; rotate_left; (intro w hSw; (try dsimp only at hSw); go_simp; try with_reducible rfl); ((try simp only [List.getElem_toArray]); (try simp only [List.getElem_cons_succ]); (try simp only [List.getElem_cons_zero]); (try simp only [Act.put]); (try simp only [List.setIfInBounds_toArray]); (try simp only [List.set_cons_succ]); (try simp only [List.set_cons_zero])))
    (refine wpAnyH_take (i := 1) (v := ?_) rfl (by kernel_rfl) (by kernel_rfl) (by kernel_rfl) (fun _ _ _ h => h) (Or.inl ⟨by rfl, ?_⟩) (by assumption) ?_; rotate_left; (intro w hSw; (try dsimp only at hSw); go_simp; try with_reducible rfl); ((try simp only [List.getElem_toArray]); (try simp only [List.getElem_cons_succ]); (try simp only [List.getElem_cons_zero]); (try simp only [Act.put]); (try simp only [List.setIfInBounds_toArray]); (try simp only [List.set_cons_succ]); (try simp only [List.set_cons_zero])))
    (refine wpAnyH_take (i := 2) (v := ?_) rfl (by kernel_rfl) (by kernel_rfl) (by kernel_rfl) (fun _ _ _ h => h) (Or.inl ⟨by rfl, ?_⟩) (by assumption) ?_; rotate_left; (intro w hSw; (try dsimp only at hSw); go_simp; try with_reducible rfl); ((try simp only [List.getElem_toArray]); (try simp only [List.getElem_cons_succ]); (try simp only [List.getElem_cons_zero]); (try simp only [Act.put]); (try simp only [List.setIfInBounds_toArray]); (try simp only [List.set_cons_succ]); (try simp only [List.set_cons_zero])))
    refine wpAnyH_ready (rs := [3]) (by kernel_rfl) (by simp) ?_
    refine AllReadyH.cons rfl (fun K2 hK2 => ?_) AllReadyH.nil
    go_simp
    refine (rwritept_any XX Y Z _ HG10.out HGS.out (by omega) (by omega) (by omega) (by omega)).mono ?_
    rintro e w11 ⟨v11, rfl, ho11, hb11⟩
    obtain ⟨A11, n11, c11, rfl, HL11, HR11b⟩ := own_open3 ho11.out
    have hcv : Sem.run Tryd.prog (convert 46 9 (.slice A11 n11 c11)) w11 = .ok (.string sb7) w11 := by rw [conv_len _ A11 _ n11 c11 HL11.out HR11b.out, HS7.out]
    have HY11 := Lib.hid (HY10.out.below hb11.out HY10.out.lt)
    have HQ11 := Lib.hid (HQ10.out.below hb11.out HQ10.out.lt)
    have HG11 := Lib.hid (HG10.out.below hb11.out)
    have HG811 := Lib.hid (HG810.out.below hb11.out)
    have HR11 := Lib.hid (HR10.out.below hb11.out)
    have HB11 := Lib.hid (HB10.out.trans (hb11.out.mono HB10.out.size))
    have hS11 : (fun X : World => X.cell? ⟨q6, 0, none⟩ = some (.int .i64 (XX : Int)) ∧ X.cell? ⟨q6, 1, none⟩ = some (.int .i64 (Y : Int)) ∧ X.cell? ⟨q6, 2, none⟩ = some (.int .i64 (Z : Int)) ∧ X.cell? ⟨q6, 3, none⟩ = some (.slice A5 n5 c5) ∧ X.cell? ⟨q9, 0, none⟩ = some (.int .i64 (XX : Int)) ∧ X.cell? ⟨q9, 1, none⟩ = some (.int .i64 (Y : Int)) ∧ X.cell? ⟨q9, 2, none⟩ = some (.int .i64 (Z : Int)) ∧ X.cell? ⟨q9, 3, none⟩ = some (.slice A8 n8 c8) ∧ Sem.run Tryd.prog (convert 46 9 (.slice A7 n7 c7)) X = .ok (.string sb7) X) w11 := ⟨HY11.out.cell 0, HY11.out.cell 1, HY11.out.cell 2, HY11.out.cell 3, HQ11.out.cell 0, HQ11.out.cell 1, HQ11.out.cell 2, HQ11.out.cell 3, (by rw [conv_len _ A7 _ n7 c7 HL7.out HR11.out, HS7.out])⟩
    clear HY10 HQ10 HG10 HG810 HR10 HB10
    go_wp2_with fail
    refine hK2.out _ _ (by (try dsimp only); exact hS11) (fun _ => ?_)
    clear hK2 K2
    (try simp only [List.getElem_toArray]); (try simp only [List.getElem_cons_succ]); (try simp only [List.getElem_cons_zero]); (try simp only [Act.put]); (try simp only [List.setIfInBounds_toArray]); (try simp only [List.set_cons_succ]); (try simp only [List.set_cons_zero])
    refine wpAnyH_ready (rs := [4]) (by kernel_rfl) (by simp) ?_
    refine AllReadyH.cons rfl (fun K2 hK2 => ?_) (AllReadyH.nil)
    go_simp
    refine hK2.out _ _ (by (try dsimp only); exact hS11) (fun _ => ?_)
    clear hK2 K2
    (try simp only [List.getElem_toArray]); (try simp only [List.getElem_cons_succ]); (try simp only [List.getElem_cons_zero]); (try simp only [Act.put]); (try simp only [List.setIfInBounds_toArray]); (try simp only [List.set_cons_succ]); (try simp only [List.set_cons_zero])
    clear hcv ho11 hb11 HL11 HR11b
    (refine wpAnyH_take (i := 5) (v := ?_) rfl (by kernel_rfl) (by kernel_rfl) (by kernel_rfl) (fun _ _ _ h => h) (Or.inl ⟨by rfl, ?_⟩) (by assumption) ?_; rotate_left; (intro w hSw; (try dsimp only at hSw); go_simp; try with_reducible rfl); ((try simp only [List.getElem_toArray]); (try simp only [List.getElem_cons_succ]); (try simp only [List.getElem_cons_zero]); (try simp only [Act.put]); (try simp only [List.setIfInBounds_toArray]); (try simp only [List.set_cons_succ]); (try simp only [List.set_cons_zero])))
    (refine wpAnyH_take (i := 6) (v := ?_) rfl (by kernel_rfl) (by kernel_rfl) (by kernel_rfl) (fun _ _ _ h => h) (Or.inl ⟨by rfl, ?_⟩) (by assumption) ?_; rotate_left; (intro w hSw; (try dsimp only at hSw); go_simp; try with_reducible rfl); ((try simp only [List.getElem_toArray]); (try simp only [List.getElem_cons_succ]); (try simp only [List.getElem_cons_zero]); (try simp only [Act.put]); (try simp only [List.setIfInBounds_toArray]); (try simp only [List.set_cons_succ]); (try simp only [List.set_cons_zero])))
    (refine wpAnyH_take (i := 7) (v := ?_) rfl (by kernel_rfl) (by kernel_rfl) (by kernel_rfl) (fun _ _ _ h => h) (Or.inl ⟨by rfl, ?_⟩) (by assumption) ?_; rotate_left; (intro w hSw; (try dsimp only at hSw); go_simp; try with_reducible rfl); ((try simp only [List.getElem_toArray]); (try simp only [List.getElem_cons_succ]); (try simp only [List.getElem_cons_zero]); (try simp only [Act.put]); (try simp only [List.setIfInBounds_toArray]); (try simp only [List.set_cons_succ]); (try simp only [List.set_cons_zero])))
    (refine wpAnyH_take (i := 8) (v := ?_) rfl (by kernel_rfl) (by kernel_rfl) (by kernel_rfl) (fun _ _ _ h => h) (Or.inl ⟨by rfl, ?_⟩) (by assumption) ?_; rotate_left; (intro w hSw; (try dsimp only at hSw); go_simp; try with_reducible rfl); ((try simp only [List.getElem_toArray]); (try simp only [List.getElem_cons_succ]); (try simp only [List.getElem_cons_zero]); (try simp only [Act.put]); (try simp only [List.setIfInBounds_toArray]); (try simp only [List.set_cons_succ]); (try simp only [List.set_cons_zero])))
    (refine wpAnyH_take (i := 9) (v := ?_) rfl (by kernel_rfl) (by kernel_rfl) (by kernel_rfl) (fun _ _ _ h => h) (Or.inl ⟨by rfl, ?_⟩) (by assumption) ?_; rotate_left; (intro w hSw; (try dsimp only at hSw); go_simp; try with_reducible rfl); ((try simp only [List.getElem_toArray]); (try simp only [List.getElem_cons_succ]); (try simp only [List.getElem_cons_zero]); (try simp only [Act.put]); (try simp only [List.setIfInBounds_toArray]); (try simp only [List.set_cons_succ]); (try simp only [List.set_cons_zero])))
    (refine wpAnyH_take (i := 10) (v := ?_) rfl (by kernel_rfl) (by kernel_rfl) (by kernel_rfl) (fun _ _ _ h => h) (Or.inl ⟨by rfl, ?_⟩) (by assumption) ?_; rotate_left; (intro w hSw; (try dsimp only at hSw); go_simp; try with_reducible rfl); ((try simp only [List.getElem_toArray]); (try simp only [List.getElem_cons_succ]); (try simp only [List.getElem_cons_zero]); (try simp only [Act.put]); (try simp only [List.setIfInBounds_toArray]); (try simp only [List.set_cons_succ]); (try simp only [List.set_cons_zero])))
    (refine wpAnyH_take (i := 11) (v := ?_) rfl (by kernel_rfl) (by kernel_rfl) (by kernel_rfl) (fun _ _ _ h => h) (Or.inl ⟨by rfl, ?_⟩) (by assumption) ?_; rotate_left; (intro w hSw; (try dsimp only at hSw); go_simp; try with_reducible rfl); ((try simp only [List.getElem_toArray]); (try simp only [List.getElem_cons_succ]); (try simp only [List.getElem_cons_zero]); (try simp only [Act.put]); (try simp only [List.setIfInBounds_toArray]); (try simp only [List.set_cons_succ]); (try simp only [List.set_cons_zero])))
    (refine wpAnyH_take (i := 12) (v := ?_) rfl (by kernel_rfl) (by kernel_rfl) (by kernel_rfl) (fun _ _ _ h => h) (Or.inl ⟨by rfl, ?_⟩) (by assumption) ?_; rotate_left; (intro w hSw; (try dsimp only at hSw); go_simp; try with_reducible rfl); ((try simp only [List.getElem_toArray]); (try simp only [List.getElem_cons_succ]); (try simp only [List.getElem_cons_zero]); (try simp only [Act.put]); (try simp only [List.setIfInBounds_toArray]); (try simp only [List.set_cons_succ]); (try simp only [List.set_cons_zero])))
    refine wpAnyH_ready (rs := [13]) (by kernel_rfl) (by simp) ?_
    refine AllReadyH.cons rfl (fun K2 hK2 => ?_) AllReadyH.nil
    go_simp
    refine (psame_pt (XX : Int) (Y : Int) (Z : Int) _ HG811.out HG11.out (by omega)).mono ?_
    rintro e w12 ⟨rfl, hb12⟩
    have HY12 := Lib.hid (HY11.out.below hb12.out HY11.out.lt)
    have HQ12 := Lib.hid (HQ11.out.below hb12.out HQ11.out.lt)
    have HG12 := Lib.hid (HG11.out.below hb12.out)
    have HG812 := Lib.hid (HG811.out.below hb12.out)
    have HR12 := Lib.hid (HR11.out.below hb12.out)
    have HB12 := Lib.hid (HB11.out.trans (hb12.out.mono HB11.out.size))
    have hS12 : (fun X : World => X.cell? ⟨q6, 0, none⟩ = some (.int .i64 (XX : Int)) ∧ X.cell? ⟨q6, 1, none⟩ = some (.int .i64 (Y : Int)) ∧ X.cell? ⟨q6, 2, none⟩ = some (.int .i64 (Z : Int)) ∧ X.cell? ⟨q6, 3, none⟩ = some (.slice A5 n5 c5) ∧ X.cell? ⟨q9, 0, none⟩ = some (.int .i64 (XX : Int)) ∧ X.cell? ⟨q9, 1, none⟩ = some (.int .i64 (Y : Int)) ∧ X.cell? ⟨q9, 2, none⟩ = some (.int .i64 (Z : Int)) ∧ X.cell? ⟨q9, 3, none⟩ = some (.slice A8 n8 c8) ∧ Sem.run Tryd.prog (convert 46 9 (.slice A7 n7 c7)) X = .ok (.string sb7) X) w12 := ⟨HY12.out.cell 0, HY12.out.cell 1, HY12.out.cell 2, HY12.out.cell 3, HQ12.out.cell 0, HQ12.out.cell 1, HQ12.out.cell 2, HQ12.out.cell 3, (by rw [conv_len _ A7 _ n7 c7 HL7.out HR12.out, HS7.out])⟩
    clear HY11 HQ11 HG11 HG811 HR11 HB11
    go_wp2_with fail
    refine hK2.out _ _ (by (try dsimp only); exact hS12) (fun _ => ?_)
    clear hK2 K2
    (try simp only [List.getElem_toArray]); (try simp only [List.getElem_cons_succ]); (try simp only [List.getElem_cons_zero]); (try simp only [Act.put]); (try simp only [List.setIfInBounds_toArray]); (try simp only [List.set_cons_succ]); (try simp only [List.set_cons_zero])
    (refine wpAnyH_take (i := 14) (v := ?_) rfl (by kernel_rfl) (by kernel_rfl) (by kernel_rfl) (fun _ _ _ h => h) (Or.inl ⟨by rfl, ?_⟩) (by assumption) ?_; rotate_left; (intro w hSw; (try dsimp only at hSw); go_simp; try with_reducible rfl); ((try simp only [List.getElem_toArray]); (try simp only [List.getElem_cons_succ]); (try simp only [List.getElem_cons_zero]); (try simp only [Act.put]); (try simp only [List.setIfInBounds_toArray]); (try simp only [List.set_cons_succ]); (try simp only [List.set_cons_zero])))
    (refine wpAnyH_take (i := 15) (v := ?_) rfl (by kernel_rfl) (by kernel_rfl) (by kernel_rfl) (fun _ _ _ h => h) (Or.inl ⟨by rfl, ?_⟩) (by assumption) ?_; rotate_left; (intro w hSw; (try dsimp only at hSw); go_simp; try with_reducible rfl); ((try simp only [List.getElem_toArray]); (try simp only [List.getElem_cons_succ]); (try simp only [List.getElem_cons_zero]); (try simp only [Act.put]); (try simp only [List.setIfInBounds_toArray]); (try simp only [List.set_cons_succ]); (try simp only [List.set_cons_zero])))
    (refine wpAnyH_take (i := 16) (v := ?_) rfl (by kernel_rfl) (by kernel_rfl) (by kernel_rfl) (fun _ _ _ h => h) (Or.inl ⟨by rfl, ?_⟩) (by assumption) ?_; rotate_left; (intro w hSw; (try dsimp only at hSw); go_simp; try with_reducible rfl); ((try simp only [List.getElem_toArray]); (try simp only [List.getElem_cons_succ]); (try simp only [List.getElem_cons_zero]); (try simp only [Act.put]); (try simp only [List.setIfInBounds_toArray]); (try simp only [List.set_cons_succ]); (try simp only [List.set_cons_zero])))
    (refine wpAnyH_take (i := 17) (v := ?_) rfl (by kernel_rfl) (by kernel_rfl) (by kernel_rfl) (fun _ _ _ h => h) (Or.inl ⟨by rfl, ?_⟩) (by assumption) ?_; rotate_left; (intro w hSw; (try dsimp only at hSw); go_simp; try with_reducible rfl); ((try simp only [List.getElem_toArray]); (try simp only [List.getElem_cons_succ]); (try simp only [List.getElem_cons_zero]); (try simp only [Act.put]); (try simp only [List.setIfInBounds_toArray]); (try simp only [List.set_cons_succ]); (try simp only [List.set_cons_zero])))
    refine wpAnyH_ready (rs := [18]) (by kernel_rfl) (by simp) ?_
    refine AllReadyH.cons rfl (fun K2 hK2 => ?_) AllReadyH.nil
    go_simp
    refine (rsame_pt (XX : Int) (Y : Int) (Z : Int) _ HG812.out HG12.out (by omega)).mono ?_
    rintro e w13 ⟨rfl, hb13⟩
    have HY13 := Lib.hid (HY12.out.below hb13.out HY12.out.lt)
    have HQ13 := Lib.hid (HQ12.out.below hb13.out HQ12.out.lt)
    have HG13 := Lib.hid (HG12.out.below hb13.out)
    have HG813 := Lib.hid (HG812.out.below hb13.out)
    have HR13 := Lib.hid (HR12.out.below hb13.out)
    have HB13 := Lib.hid (HB12.out.trans (hb13.out.mono HB12.out.size))
    have hS13 : (fun X : World => X.cell? ⟨q6, 0, none⟩ = some (.int .i64 (XX : Int)) ∧ X.cell? ⟨q6, 1, none⟩ = some (.int .i64 (Y : Int)) ∧ X.cell? ⟨q6, 2, none⟩ = some (.int .i64 (Z : Int)) ∧ X.cell? ⟨q6, 3, none⟩ = some (.slice A5 n5 c5) ∧ X.cell? ⟨q9, 0, none⟩ = some (.int .i64 (XX : Int)) ∧ X.cell? ⟨q9, 1, none⟩ = some (.int .i64 (Y : Int)) ∧ X.cell? ⟨q9, 2, none⟩ = some (.int .i64 (Z : Int)) ∧ X.cell? ⟨q9, 3, none⟩ = some (.slice A8 n8 c8) ∧ Sem.run Tryd.prog (convert 46 9 (.slice A7 n7 c7)) X = .ok (.string sb7) X) w13 := ⟨HY13.out.cell 0, HY13.out.cell 1, HY13.out.cell 2, HY13.out.cell 3, HQ13.out.cell 0, HQ13.out.cell 1, HQ13.out.cell 2, HQ13.out.cell 3, (by rw [conv_len _ A7 _ n7 c7 HL7.out HR13.out, HS7.out])⟩
    clear HY12 HQ12 HG12 HG812 HR12 HB12
    go_wp2_with fail
    refine hK2.out _ _ (by (try dsimp only); exact hS13) (fun _ => ?_)
    clear hK2 K2
    (try simp only [List.getElem_toArray]); (try simp only [List.getElem_cons_succ]); (try simp only [List.getElem_cons_zero]); (try simp only [Act.put]); (try simp only [List.setIfInBounds_toArray]); (try simp only [List.set_cons_succ]); (try simp only [List.set_cons_zero])
    (refine wpAnyH_take (i := 19) (v := ?_) rfl (by kernel_rfl) (by kernel_rfl) (by kernel_rfl) (fun _ _ _ h => h) (Or.inl ⟨by rfl, ?_⟩) (by assumption) ?_; rotate_left; (intro w hSw; (try dsimp only at hSw); go_simp; try with_reducible rfl); ((try simp only [List.getElem_toArray]); (try simp only [List.getElem_cons_succ]); (try simp only [List.getElem_cons_zero]); (try simp only [Act.put]); (try simp only [List.setIfInBounds_toArray]); (try simp only [List.set_cons_succ]); (try simp only [List.set_cons_zero])))
    (refine wpAnyH_take (i := 20) (v := ?_) rfl (by kernel_rfl) (by kernel_rfl) (by kernel_rfl) (fun _ _ _ h => h) (Or.inl ⟨by rfl, ?_⟩) (by assumption) ?_; rotate_left; (intro w hSw; (try dsimp only at hSw); go_simp; try with_reducible rfl); ((try simp only [List.getElem_toArray]); (try simp only [List.getElem_cons_succ]); (try simp only [List.getElem_cons_zero]); (try simp only [Act.put]); (try simp only [List.setIfInBounds_toArray]); (try simp only [List.set_cons_succ]); (try simp only [List.set_cons_zero])))
    (refine wpAnyH_take (i := 21) (v := ?_) rfl (by kernel_rfl) (by kernel_rfl) (by kernel_rfl) (fun _ _ _ h => h) (Or.inl ⟨by rfl, ?_⟩) (by assumption) ?_; rotate_left; (intro w hSw; (try dsimp only at hSw); go_simp; try with_reducible rfl); ((try simp only [List.getElem_toArray]); (try simp only [List.getElem_cons_succ]); (try simp only [List.getElem_cons_zero]); (try simp only [Act.put]); (try simp only [List.setIfInBounds_toArray]); (try simp only [List.set_cons_succ]); (try simp only [List.set_cons_zero])))
    (refine wpAnyH_take (i := 22) (v := ?_) rfl (by kernel_rfl) (by kernel_rfl) (by kernel_rfl) (fun _ _ _ h => h) (Or.inl ⟨by rfl, ?_⟩) (by assumption) ?_; rotate_left; (intro w hSw; (try dsimp only at hSw); go_simp; try with_reducible rfl); ((try simp only [List.getElem_toArray]); (try simp only [List.getElem_cons_succ]); (try simp only [List.getElem_cons_zero]); (try simp only [Act.put]); (try simp only [List.setIfInBounds_toArray]); (try simp only [List.set_cons_succ]); (try simp only [List.set_cons_zero])))
    (refine wpAnyH_take (i := 23) (v := ?_) rfl (by kernel_rfl) (by kernel_rfl) (by kernel_rfl) (fun _ _ _ h => h) (Or.inl ⟨by rfl, ?_⟩) (by assumption) ?_; rotate_left; (intro w hSw; (try dsimp only at hSw); go_simp; try with_reducible rfl); ((try simp only [List.getElem_toArray]); (try simp only [List.getElem_cons_succ]); (try simp only [List.getElem_cons_zero]); (try simp only [Act.put]); (try simp only [List.setIfInBounds_toArray]); (try simp only [List.set_cons_succ]); (try simp only [List.set_cons_zero])))
    (refine wpAnyH_take (i := 24) (v := ?_) rfl (by kernel_rfl) (by kernel_rfl) (by kernel_rfl) (fun _ _ _ h => h) (Or.inl ⟨by rfl, ?_⟩) (by assumption) ?_; rotate_left; (intro w hSw; (try dsimp only at hSw); go_simp; try with_reducible rfl); ((try simp only [List.getElem_toArray]); (try simp only [List.getElem_cons_succ]); (try simp only [List.getElem_cons_zero]); (try simp only [Act.put]); (try simp only [List.setIfInBounds_toArray]); (try simp only [List.set_cons_succ]); (try simp only [List.set_cons_zero])))
    refine wpAnyH_ready (rs := [25]) (by kernel_rfl) (by simp) ?_
    refine AllReadyH.cons rfl (fun K2 hK2 => ?_) AllReadyH.nil
    go_simp
    refine (lives11_any _ (HT.out.below HB13.out)).mono ?_
    rintro e w14 ⟨rfl, hb14⟩
    have HY14 := Lib.hid (HY13.out.below hb14 HY13.out.lt)
    have HQ14 := Lib.hid (HQ13.out.below hb14 HQ13.out.lt)
    have HG14 := Lib.hid (HG13.out.below hb14)
    have HG814 := Lib.hid (HG813.out.below hb14)
    have HR14 := Lib.hid (HR13.out.below hb14)
    have HB14 := Lib.hid (HB13.out.trans (hb14.mono HB13.out.size))
    have hS14 : (fun X : World => X.cell? ⟨q6, 0, none⟩ = some (.int .i64 (XX : Int)) ∧ X.cell? ⟨q6, 1, none⟩ = some (.int .i64 (Y : Int)) ∧ X.cell? ⟨q6, 2, none⟩ = some (.int .i64 (Z : Int)) ∧ X.cell? ⟨q6, 3, none⟩ = some (.slice A5 n5 c5) ∧ X.cell? ⟨q9, 0, none⟩ = some (.int .i64 (XX : Int)) ∧ X.cell? ⟨q9, 1, none⟩ = some (.int .i64 (Y : Int)) ∧ X.cell? ⟨q9, 2, none⟩ = some (.int .i64 (Z : Int)) ∧ X.cell? ⟨q9, 3, none⟩ = some (.slice A8 n8 c8) ∧ Sem.run Tryd.prog (convert 46 9 (.slice A7 n7 c7)) X = .ok (.string sb7) X) w14 := ⟨HY14.out.cell 0, HY14.out.cell 1, HY14.out.cell 2, HY14.out.cell 3, HQ14.out.cell 0, HQ14.out.cell 1, HQ14.out.cell 2, HQ14.out.cell 3, (by rw [conv_len _ A7 _ n7 c7 HL7.out HR14.out, HS7.out])⟩
    clear HY13 HQ13 HG13 HG813 HR13 HB13
    go_wp2_with fail
    refine hK2.out _ _ (by (try dsimp only); exact hS14) (fun _ => ?_)
    clear hK2 K2
    (try simp only [List.getElem_toArray]); (try simp only [List.getElem_cons_succ]); (try simp only [List.getElem_cons_zero]); (try simp only [Act.put]); (try simp only [List.setIfInBounds_toArray]); (try simp only [List.set_cons_succ]); (try simp only [List.set_cons_zero])
    (refine wpAnyH_take (i := 26) (v := ?_) rfl (by kernel_rfl) (by kernel_rfl) (by kernel_rfl) (fun _ _ _ h => h) (Or.inl ⟨by rfl, ?_⟩) (by assumption) ?_; rotate_left; (intro w hSw; (try dsimp only at hSw); go_simp; try with_reducible rfl); ((try simp only [List.getElem_toArray]); (try simp only [List.getElem_cons_succ]); (try simp only [List.getElem_cons_zero]); (try simp only [Act.put]); (try simp only [List.setIfInBounds_toArray]); (try simp only [List.set_cons_succ]); (try simp only [List.set_cons_zero])))
    (refine wpAnyH_take (i := 27) (v := ?_) rfl (by kernel_rfl) (by kernel_rfl) (by kernel_rfl) (fun _ _ _ h => h) (Or.inl ⟨by rfl, ?_⟩) (by assumption) ?_; rotate_left; (intro w hSw; (try dsimp only at hSw); go_simp; try with_reducible rfl); ((try simp only [List.getElem_toArray]); (try simp only [List.getElem_cons_succ]); (try simp only [List.getElem_cons_zero]); (try simp only [Act.put]); (try simp only [List.setIfInBounds_toArray]); (try simp only [List.set_cons_succ]); (try simp only [List.set_cons_zero])))
    refine wpAnyH_done (by kernel_rfl) ?_ _
    go_wp2_with fail
    go_ret
    exact ⟨rfl, HB14.out⟩
  · go_wp2_with fail
    refine (rpoint_any x y z w4 HF4.out HSH.out hx hy hz).mono ?_
    rintro e w5 ⟨v5, rfl, ho5, hb5⟩
    have hok := ptOk_good x y z F
    have hgl := goodW_len F
    have HGG := Lib.hid (goodW_good F)
    obtain ⟨XX, hXX⟩ : ∃ k : Nat, absP x = (k : Int) := ⟨(absP x).toNat, by have := absP_ge x; omega⟩
    obtain ⟨Y, hY⟩ : ∃ k : Nat, absP y = (k : Int) := ⟨(absP y).toNat, by have := absP_ge y; omega⟩
    obtain ⟨Z, hZ⟩ : ∃ k : Nat, absP z = (k : Int) := ⟨(absP z).toNat, by have := absP_ge z; omega⟩
    have bX : XX ≤ 9223372036854775807 := by have : absP x ≤ 9223372036854775807 := (by unfold absP; split <;> omega); omega
    have bY : Y ≤ 9223372036854775807 := by have : absP y ≤ 9223372036854775807 := (by unfold absP; split <;> omega); omega
    have bZ : Z ≤ 9223372036854775807 := by have : absP z ≤ 9223372036854775807 := (by unfold absP; split <;> omega); omega
    rw [hXX, hY, hZ] at hok
    rw [hXX, hY, hZ]
    obtain ⟨G, hG⟩ : ∃ q, goodW F = q := ⟨_, rfl⟩
    rw [hG] at hok hgl HGG ho5
    have HOK := Lib.hid hok
    have HGS : Hid (Short G) := fun x hx => by have := (HGG.out x hx).sizes; omega
    have HB5 := Lib.hid (HB4.out.trans (hb5.out.mono HB4.out.size))
    have HG5 := Lib.hid (ownW_down ho5.out HB4.out.size)
    clear ho5 hb5 hok hXX hY hZ hG hpF z0 z1 z2 z3 HX4 HF4 HB4 HL4 HSH
    obtain ⟨A5, n5, c5, rfl, _, _, _, _, _⟩ := ownW_open HG5.out
    have HY6 := Lib.hid (Has.new w5 43 #[.int .i64 (XX : Int), .int .i64 (Y : Int), .int .i64 (Z : Int), .slice A5 n5 c5])
    have hw6 : Below w5.heap.size w5 (w5.alloc (.cells #[.int .i64 (XX : Int), .int .i64 (Y : Int), .int .i64 (Z : Int), .slice A5 n5 c5] 43)) := (Below.refl _ w5).alloc (Nat.le_refl _) _
    have HB6 := Lib.hid (HB5.out.trans (hw6.mono HB5.out.size))
    have HG6 := Lib.hid (HG5.out.below hw6)
    clear hw6 HG5 HB5
    go_wp2_with fail
    obtain ⟨W6, hW6⟩ : ∃ W, W = w5.alloc (.cells #[.int .i64 (XX : Int), .int .i64 (Y : Int), .int .i64 (Z : Int), .slice A5 n5 c5] 43) := ⟨_, rfl⟩
    rw [← hW6] at HY6 HG6 HB6 ⊢
    clear hW6
    generalize w5.heap.size = q6 at *
    have HW7 := Lib.hid (pwrite_any (XX : Int) (Y : Int) (Z : Int) W6 HG6.out HGS.out (by omega) (by omega) (by omega) (by omega) (HT.out.below HB6.out))
    rw [HOK.out] at HW7
    refine HW7.out.mono ?_
    rintro e w7 ⟨v7, rfl, ho7, hb7⟩
    obtain ⟨A7, n7, c7, rfl, HL7, HR7⟩ := own_open3 (show Own W6.heap.size w7 v7 (ptB (XX : Int) (Y : Int) (Z : Int) G) from ho7.out)
    have HB7 := Lib.hid (HB6.out.trans (hb7.out.mono HB6.out.size))
    have HY7 := Lib.hid (HY6.out.below hb7.out HY6.out.lt)
    have HG7 := Lib.hid (HG6.out.below hb7.out)
    clear HW7 ho7 hb7 HY6 HG6 HB6
    have HRD := Lib.hid (pread_any XX Y Z G A7 n7 c7 w7 HR7.out HL7.out (by rw [← HL7.out]; exact pt_len HGS.out (by omega) bX bY bZ) (pt_byte _ _ _ _) bX bY bZ (by omega) (fun x hx => by have := (HGG.out x hx).sizes; omega) (HT.out.below HB7.out) HOK.out)
    go_wp2_with fail
    refine HRD.out.mono ?_
    rintro e w8 ⟨v8, rfl, ho8, hb8⟩
    have HB8 := Lib.hid (HB7.out.trans (hb8.out.mono HB7.out.size))
    have HY8 := Lib.hid (HY7.out.below hb8.out HY7.out.lt)
    have HG8 := Lib.hid (HG7.out.below hb8.out)
    have HR8 := Lib.hid (HR7.out.below hb8.out)
    have HG88 := Lib.hid (ownW_down ho8.out HB7.out.size)
    clear HRD ho8 hb8 HY7 HG7 HR7 HB7
    obtain ⟨A8, n8, c8, rfl, _, _, _, _, _⟩ := ownW_open HG88.out
    have HQ9 := Lib.hid (Has.new w8 43 #[.int .i64 (XX : Int), .int .i64 (Y : Int), .int .i64 (Z : Int), .slice A8 n8 c8])
    have hw9 : Below w8.heap.size w8 (w8.alloc (.cells #[.int .i64 (XX : Int), .int .i64 (Y : Int), .int .i64 (Z : Int), .slice A8 n8 c8] 43)) := (Below.refl _ w8).alloc (Nat.le_refl _) _
    have HB9 := Lib.hid (HB8.out.trans (hw9.mono HB8.out.size))
    have HY9 := Lib.hid (HY8.out.below hw9 HY8.out.lt)
    have HG9 := Lib.hid (HG8.out.below hw9)
    have HG89 := Lib.hid (HG88.out.below hw9)
    have HR9 := Lib.hid (HR8.out.below hw9)
    clear hw9 HY8 HG8 HG88 HR8 HB8
    go_wp2_with fail
    obtain ⟨W9, hW9⟩ : ∃ W, W = w8.alloc (.cells #[.int .i64 (XX : Int), .int .i64 (Y : Int), .int .i64 (Z : Int), .slice A8 n8 c8] 43) := ⟨_, rfl⟩
    rw [← hW9] at HQ9 HY9 HG9 HG89 HR9 HB9 ⊢
    clear hW9
    generalize w8.heap.size = q9 at *
    obtain ⟨sb7, hs7⟩ : ∃ s, bs (ptB (XX : Int) (Y : Int) (Z : Int) G) = s := ⟨_, rfl⟩
    have HS7 := Lib.hid hs7
    clear hs7
    obtain ⟨w10, hw10⟩ : ∃ W, W = W9.drew := ⟨_, rfl⟩
    have hb10 : Below W9.heap.size W9 w10 := by rw [hw10]; exact (Below.refl _ W9).drew
    have HY10 := Lib.hid (HY9.out.below hb10 HY9.out.lt)
    have HQ10 := Lib.hid (HQ9.out.below hb10 HQ9.out.lt)
    have HG10 := Lib.hid (HG9.out.below hb10)
    have HG810 := Lib.hid (HG89.out.below hb10)
    have HR10 := Lib.hid (HR9.out.below hb10)
    have HB10 := Lib.hid (HB9.out.trans (hb10.mono HB9.out.size))
    have hS10 : (fun X : World => X.cell? ⟨q6, 0, none⟩ = some (.int .i64 (XX : Int)) ∧ X.cell? ⟨q6, 1, none⟩ = some (.int .i64 (Y : Int)) ∧ X.cell? ⟨q6, 2, none⟩ = some (.int .i64 (Z : Int)) ∧ X.cell? ⟨q6, 3, none⟩ = some (.slice A5 n5 c5) ∧ X.cell? ⟨q9, 0, none⟩ = some (.int .i64 (XX : Int)) ∧ X.cell? ⟨q9, 1, none⟩ = some (.int .i64 (Y : Int)) ∧ X.cell? ⟨q9, 2, none⟩ = some (.int .i64 (Z : Int)) ∧ X.cell? ⟨q9, 3, none⟩ = some (.slice A8 n8 c8) ∧ Sem.run Tryd.prog (convert 46 9 (.slice A7 n7 c7)) X = .ok (.string sb7) X) w10 := ⟨HY10.out.cell 0, HY10.out.cell 1, HY10.out.cell 2, HY10.out.cell 3, HQ10.out.cell 0, HQ10.out.cell 1, HQ10.out.cell 2, HQ10.out.cell 3, (by rw [conv_len _ A7 _ n7 c7 HL7.out HR10.out, HS7.out])⟩
    clear HY9 HQ9 HG9 HG89 HR9 HB9
    have hS10' : (fun X : World => X.cell? ⟨q6, 0, none⟩ = some (.int .i64 (XX : Int)) ∧ X.cell? ⟨q6, 1, none⟩ = some (.int .i64 (Y : Int)) ∧ X.cell? ⟨q6, 2, none⟩ = some (.int .i64 (Z : Int)) ∧ X.cell? ⟨q6, 3, none⟩ = some (.slice A5 n5 c5) ∧ X.cell? ⟨q9, 0, none⟩ = some (.int .i64 (XX : Int)) ∧ X.cell? ⟨q9, 1, none⟩ = some (.int .i64 (Y : Int)) ∧ X.cell? ⟨q9, 2, none⟩ = some (.int .i64 (Z : Int)) ∧ X.cell? ⟨q9, 3, none⟩ = some (.slice A8 n8 c8) ∧ Sem.run Tryd.prog (convert 46 9 (.slice A7 n7 c7)) X = .ok (.string sb7) X) W9.drew := hw10 ▸ hS10
    refine wp_region_held_drew (S := (fun X : World => X.cell? ⟨q6, 0, none⟩ = some (.int .i64 (XX : Int)) ∧ X.cell? ⟨q6, 1, none⟩ = some (.int .i64 (Y : Int)) ∧ X.cell? ⟨q6, 2, none⟩ = some (.int .i64 (Z : Int)) ∧ X.cell? ⟨q6, 3, none⟩ = some (.slice A5 n5 c5) ∧ X.cell? ⟨q9, 0, none⟩ = some (.int .i64 (XX : Int)) ∧ X.cell? ⟨q9, 1, none⟩ = some (.int .i64 (Y : Int)) ∧ X.cell? ⟨q9, 2, none⟩ = some (.int .i64 (Z : Int)) ∧ X.cell? ⟨q9, 3, none⟩ = some (.slice A8 n8 c8) ∧ Sem.run Tryd.prog (convert 46 9 (.slice A7 n7 c7)) X = .ok (.string sb7) X)) (by kernel_rfl) hS10' (fun _ => ?_)
    rw [← hw10]
    clear hw10 hS10'
    (refine wpAnyH_take (i := 0) (v := ?_) rfl (by kernel_rfl) (by kernel_rfl) (by kernel_rfl) (fun _ _ _ h => h) (Or.inl ⟨by rfl, ?_⟩) (by assumption) ?_; rotate_left; (intro w hSw; (try dsimp only at hSw); go_simp; try with_reducible rfl); ((try simp only [List.getElem_toArray]); (try simp only [List.getElem_cons_succ]); (try simp only [List.getElem_cons_zero]); (try simp only [Act.put]); (try simp only [List.setIfInBounds_toArray]); (try simp only [List.set_cons_succ]); (try simp only [List.set_cons_zero])))
    (refine wpAnyH_take (i := 1) (v := ?_) rfl (by kernel_rfl) (by kernel_rfl) (by kernel_rfl) (fun _ _ _ h => h) (Or.inl ⟨by rfl, ?_⟩) (by assumption) ?_; rotate_left; (intro w hSw; (try dsimp only at hSw); go_simp; try with_reducible rfl); ((try simp only [List.getElem_toArray]); (try simp only [List.getElem_cons_succ]); (try simp only [List.getElem_cons_zero]); (try simp only [Act.put]); (try simp only [List.setIfInBounds_toArray]); (try simp only [List.set_cons_succ]); (try simp only [List.set_cons_zero])))
    (refine wpAnyH_take (i := 2) (v := ?_) rfl (by kernel_rfl) (by kernel_rfl) (by kernel_rfl) (fun _ _ _ h => h) (Or.inl ⟨by rfl, ?_⟩) (by assumption) ?_; rotate_left; (intro w hSw; (try dsimp only at hSw); go_simp; try with_reducible rfl); ((try simp only [List.getElem_toArray]); (try simp only [List.getElem_cons_succ]); (try simp only [List.getElem_cons_zero]); (try simp only [Act.put]); (try simp only [List.setIfInBounds_toArray]); (try simp only [List.set_cons_succ]); (try simp only [List.set_cons_zero])))
    refine wpAnyH_ready (rs := [3]) (by kernel_rfl) (by simp) ?_
    refine AllReadyH.cons rfl (fun K2 hK2 => ?_) AllReadyH.nil
    go_simp
    refine (rwritept_any XX Y Z _ HG10.out HGS.out (by omega) (by omega) (by omega) (by omega)).mono ?_
    rintro e w11 ⟨v11, rfl, ho11, hb11⟩
    obtain ⟨A11, n11, c11, rfl, HL11, HR11b⟩ := own_open3 ho11.out
    have hcv : Sem.run Tryd.prog (convert 46 9 (.slice A11 n11 c11)) w11 = .ok (.string sb7) w11 := by rw [conv_len _ A11 _ n11 c11 HL11.out HR11b.out, HS7.out]
    have HY11 := Lib.hid (HY10.out.below hb11.out HY10.out.lt)
    have HQ11 := Lib.hid (HQ10.out.below hb11.out HQ10.out.lt)
    have HG11 := Lib.hid (HG10.out.below hb11.out)
    have HG811 := Lib.hid (HG810.out.below hb11.out)
    have HR11 := Lib.hid (HR10.out.below hb11.out)
    have HB11 := Lib.hid (HB10.out.trans (hb11.out.mono HB10.out.size))
    have hS11 : (fun X : World => X.cell? ⟨q6, 0, none⟩ = some (.int .i64 (XX : Int)) ∧ X.cell? ⟨q6, 1, none⟩ = some (.int .i64 (Y : Int)) ∧ X.cell? ⟨q6, 2, none⟩ = some (.int .i64 (Z : Int)) ∧ X.cell? ⟨q6, 3, none⟩ = some (.slice A5 n5 c5) ∧ X.cell? ⟨q9, 0, none⟩ = some (.int .i64 (XX : Int)) ∧ X.cell? ⟨q9, 1, none⟩ = some (.int .i64 (Y : Int)) ∧ X.cell? ⟨q9, 2, none⟩ = some (.int .i64 (Z : Int)) ∧ X.cell? ⟨q9, 3, none⟩ = some (.slice A8 n8 c8) ∧ Sem.run Tryd.prog (convert 46 9 (.slice A7 n7 c7)) X = .ok (.string sb7) X) w11 := ⟨HY11.out.cell 0, HY11.out.cell 1, HY11.out.cell 2, HY11.out.cell 3, HQ11.out.cell 0, HQ11.out.cell 1, HQ11.out.cell 2, HQ11.out.cell 3, (by rw [conv_len _ A7 _ n7 c7 HL7.out HR11.out, HS7.out])⟩
    clear HY10 HQ10 HG10 HG810 HR10 HB10
    go_wp2_with fail
    refine hK2.out _ _ (by (try dsimp only); exact hS11) (fun _ => ?_)
    clear hK2 K2
    (try simp only [List.getElem_toArray]); (try simp only [List.getElem_cons_succ]); (try simp only [List.getElem_cons_zero]); (try simp only [Act.put]); (try simp only [List.setIfInBounds_toArray]); (try simp only [List.set_cons_succ]); (try simp only [List.set_cons_zero])
    refine wpAnyH_ready (rs := [4]) (by kernel_rfl) (by simp) ?_
    refine AllReadyH.cons rfl (fun K2 hK2 => ?_) (AllReadyH.nil)
    go_simp
    refine hK2.out _ _ (by (try dsimp only); exact hS11) (fun _ => ?_)
    clear hK2 K2
    (try simp only [List.getElem_toArray]); (try simp only [List.getElem_cons_succ]); (try simp only [List.getElem_cons_zero]); (try simp only [Act.put]); (try simp only [List.setIfInBounds_toArray]); (try simp only [List.set_cons_succ]); (try simp only [List.set_cons_zero])
    clear hcv ho11 hb11 HL11 HR11b
    (refine wpAnyH_take (i := 5) (v := ?_) rfl (by kernel_rfl) (by kernel_rfl) (by kernel_rfl) (fun _ _ _ h => h) (Or.inl ⟨by rfl, ?_⟩) (by assumption) ?_; rotate_left; (intro w hSw; (try dsimp only at hSw); go_simp; try with_reducible rfl); ((try simp only [List.getElem_toArray]); (try simp only [List.getElem_cons_succ]); (try simp only [List.getElem_cons_zero]); (try simp only [Act.put]); (try simp only [List.setIfInBounds_toArray]); (try simp only [List.set_cons_succ]); (try simp only [List.set_cons_zero])))
    (refine wpAnyH_take (i := 6) (v := ?_) rfl (by kernel_rfl) (by kernel_rfl) (by kernel_rfl) (fun _ _ _ h => h) (Or.inl ⟨by rfl, ?_⟩) (by assumption) ?_; rotate_left; (intro w hSw; (try dsimp only at hSw); go_simp; try with_reducible rfl); ((try simp only [List.getElem_toArray]); (try simp only [List.getElem_cons_succ]); (try simp only [List.getElem_cons_zero]); (try simp only [Act.put]); (try simp only [List.setIfInBounds_toArray]); (try simp only [List.set_cons_succ]); (try simp only [List.set_cons_zero])))
    (refine wpAnyH_take (i := 7) (v := ?_) rfl (by kernel_rfl) (by kernel_rfl) (by kernel_rfl) (fun _ _ _ h => h) (Or.inl ⟨by rfl, ?_⟩) (by assumption) ?_; rotate_left; (intro w hSw; (try dsimp only at hSw); go_simp; try with_reducible rfl); ((try simp only [List.getElem_toArray]); (try simp only [List.getElem_cons_succ]); (try simp only [List.getElem_cons_zero]); (try simp only [Act.put]); (try simp only [List.setIfInBounds_toArray]); (try simp only [List.set_cons_succ]); (try simp only [List.set_cons_zero])))
    (refine wpAnyH_take (i := 8) (v := ?_) rfl (by kernel_rfl) (by kernel_rfl) (by kernel_rfl) (fun _ _ _ h => h) (Or.inl ⟨by rfl, ?_⟩) (by assumption) ?_; rotate_left; (intro w hSw; (try dsimp only at hSw); go_simp; try with_reducible rfl); ((try simp only [List.getElem_toArray]); (try simp only [List.getElem_cons_succ]); (try simp only [List.getElem_cons_zero]); (try simp only [Act.put]); (try simp only [List.setIfInBounds_toArray]); (try simp only [List.set_cons_succ]); (try simp only [List.set_cons_zero])))
    (refine wpAnyH_take (i := 9) (v := ?_) rfl (by kernel_rfl) (by kernel_rfl) (by kernel_rfl) (fun _ _ _ h => h) (Or.inl ⟨by rfl, ?_⟩) (by assumption) ?_; rotate_left; (intro w hSw; (try dsimp only at hSw); go_simp; try with_reducible rfl); ((try simp only [List.getElem_toArray]); (try simp only [List.getElem_cons_succ]); (try simp only [List.getElem_cons_zero]); (try simp only [Act.put]); (try simp only [List.setIfInBounds_toArray]); (try simp only [List.set_cons_succ]); (try simp only [List.set_cons_zero])))
    (refine wpAnyH_take (i := 10) (v := ?_) rfl (by kernel_rfl) (by kernel_rfl) (by kernel_rfl) (fun _ _ _ h => h) (Or.inl ⟨by rfl, ?_⟩) (by assumption) ?_; rotate_left; (intro w hSw; (try dsimp only at hSw); go_simp; try with_reducible rfl); ((try simp only [List.getElem_toArray]); (try simp only [List.getElem_cons_succ]); (try simp only [List.getElem_cons_zero]); (try simp only [Act.put]); (try simp only [List.setIfInBounds_toArray]); (try simp only [List.set_cons_succ]); (try simp only [List.set_cons_zero])))
    (refine wpAnyH_take (i := 11) (v := ?_) rfl (by kernel_rfl) (by kernel_rfl) (by kernel_rfl) (fun _ _ _ h => h) (Or.inl ⟨by rfl, ?_⟩) (by assumption) ?_; rotate_left; (intro w hSw; (try dsimp only at hSw); go_simp; try with_reducible rfl); ((try simp only [List.getElem_toArray]); (try simp only [List.getElem_cons_succ]); (try simp only [List.getElem_cons_zero]); (try simp only [Act.put]); (try simp only [List.setIfInBounds_toArray]); (try simp only [List.set_cons_succ]); (try simp only [List.set_cons_zero])))
    (refine wpAnyH_take (i := 12) (v := ?_) rfl (by kernel_rfl) (by kernel_rfl) (by kernel_rfl) (fun _ _ _ h => h) (Or.inl ⟨by rfl, ?_⟩) (by assumption) ?_; rotate_left; (intro w hSw; (try dsimp only at hSw); go_simp; try with_reducible rfl); ((try simp only [List.getElem_toArray]); (try simp only [List.getElem_cons_succ]); (try simp only [List.getElem_cons_zero]); (try simp only [Act.put]); (try simp only [List.setIfInBounds_toArray]); (try simp only [List.set_cons_succ]); (try simp only [List.set_cons_zero])))
    refine wpAnyH_ready (rs := [13]) (by kernel_rfl) (by simp) ?_
    refine AllReadyH.cons rfl (fun K2 hK2 => ?_) AllReadyH.nil
    go_simp
    refine (psame_pt (XX : Int) (Y : Int) (Z : Int) _ HG811.out HG11.out (by omega)).mono ?_
    rintro e w12 ⟨rfl, hb12⟩
    have HY12 := Lib.hid (HY11.out.below hb12.out HY11.out.lt)
    have HQ12 := Lib.hid (HQ11.out.below hb12.out HQ11.out.lt)
    have HG12 := Lib.hid (HG11.out.below hb12.out)
    have HG812 := Lib.hid (HG811.out.below hb12.out)
    have HR12 := Lib.hid (HR11.out.below hb12.out)
    have HB12 := Lib.hid (HB11.out.trans (hb12.out.mono HB11.out.size))
    have hS12 : (fun X : World => X.cell? ⟨q6, 0, none⟩ = some (.int .i64 (XX : Int)) ∧ X.cell? ⟨q6, 1, none⟩ = some (.int .i64 (Y : Int)) ∧ X.cell? ⟨q6, 2, none⟩ = some (.int .i64 (Z : Int)) ∧ X.cell? ⟨q6, 3, none⟩ = some (.slice A5 n5 c5) ∧ X.cell? ⟨q9, 0, none⟩ = some (.int .i64 (XX : Int)) ∧ X.cell? ⟨q9, 1, none⟩ = some (.int .i64 (Y : Int)) ∧ X.cell? ⟨q9, 2, none⟩ = some (.int .i64 (Z : Int)) ∧ X.cell? ⟨q9, 3, none⟩ = some (.slice A8 n8 c8) ∧ Sem.run Tryd.prog (convert 46 9 (.slice A7 n7 c7)) X = .ok (.string sb7) X) w12 := ⟨HY12.out.cell 0, HY12.out.cell 1, HY12.out.cell 2, HY12.out.cell 3, HQ12.out.cell 0, HQ12.out.cell 1, HQ12.out.cell 2, HQ12.out.cell 3, (by rw [conv_len _ A7 _ n7 c7 HL7.out HR12.out, HS7.out])⟩
    clear HY11 HQ11 HG11 HG811 HR11 HB11
    go_wp2_with fail
    refine hK2.out _ _ (by (try dsimp only); exact hS12) (fun _ => ?_)
    clear hK2 K2
    (try simp only [List.getElem_toArray]); (try simp only [List.getElem_cons_succ]); (try simp only [List.getElem_cons_zero]); (try simp only [Act.put]); (try simp only [List.setIfInBounds_toArray]); (try simp only [List.set_cons_succ]); (try simp only [List.set_cons_zero])
    (refine wpAnyH_take (i := 14) (v := ?_) rfl (by kernel_rfl) (by kernel_rfl) (by kernel_rfl) (fun _ _ _ h => h) (Or.inl ⟨by rfl, ?_⟩) (by assumption) ?_; rotate_left; (intro w hSw; (try dsimp only at hSw); go_simp; try with_reducible rfl); ((try simp only [List.getElem_toArray]); (try simp only [List.getElem_cons_succ]); (try simp only [List.getElem_cons_zero]); (try simp only [Act.put]); (try simp only [List.setIfInBounds_toArray]); (try simp only [List.set_cons_succ]); (try simp only [List.set_cons_zero])))
    (refine wpAnyH_take (i := 15) (v := ?_) rfl (by kernel_rfl) (by kernel_rfl) (by kernel_rfl) (fun _ _ _ h => h) (Or.inl ⟨by rfl, ?_⟩) (by assumption) ?_; rotate_left; (intro w hSw; (try dsimp only at hSw); go_simp; try with_reducible rfl); ((try simp only [List.getElem_toArray]); (try simp only [List.getElem_cons_succ]); (try simp only [List.getElem_cons_zero]); (try simp only [Act.put]); (try simp only [List.setIfInBounds_toArray]); (try simp only [List.set_cons_succ]); (try simp only [List.set_cons_zero])))
    (refine wpAnyH_take (i := 16) (v := ?_) rfl (by kernel_rfl) (by kernel_rfl) (by kernel_rfl) (fun _ _ _ h => h) (Or.inl ⟨by rfl, ?_⟩) (by assumption) ?_; rotate_left; (intro w hSw; (try dsimp only at hSw); go_simp; try with_reducible rfl); ((try simp only [List.getElem_toArray]); (try simp only [List.getElem_cons_succ]); (try simp only [List.getElem_cons_zero]); (try simp only [Act.put]); (try simp only [List.setIfInBounds_toArray]); (try simp only [List.set_cons_succ]); (try simp only [List.set_cons_zero])))
    (refine wpAnyH_take (i := 17) (v := ?_) rfl (by kernel_rfl) (by kernel_rfl) (by kernel_rfl) (fun _ _ _ h => h) (Or.inl ⟨by rfl, ?_⟩) (by assumption) ?_; rotate_left; (intro w hSw; (try dsimp only at hSw); go_simp; try with_reducible rfl); ((try simp only [List.getElem_toArray]); (try simp only [List.getElem_cons_succ]); (try simp only [List.getElem_cons_zero]); (try simp only [Act.put]); (try simp only [List.setIfInBounds_toArray]); (try simp only [List.set_cons_succ]); (try simp only [List.set_cons_zero])))
    refine wpAnyH_ready (rs := [18]) (by kernel_rfl) (by simp) ?_
    refine AllReadyH.cons rfl (fun K2 hK2 => ?_) AllReadyH.nil
    go_simp
    refine (rsame_pt (XX : Int) (Y : Int) (Z : Int) _ HG812.out HG12.out (by omega)).mono ?_
    rintro e w13 ⟨rfl, hb13⟩
    have HY13 := Lib.hid (HY12.out.below hb13.out HY12.out.lt)
    have HQ13 := Lib.hid (HQ12.out.below hb13.out HQ12.out.lt)
    have HG13 := Lib.hid (HG12.out.below hb13.out)
    have HG813 := Lib.hid (HG812.out.below hb13.out)
    have HR13 := Lib.hid (HR12.out.below hb13.out)
    have HB13 := Lib.hid (HB12.out.trans (hb13.out.mono HB12.out.size))
    have hS13 : (fun X : World => X.cell? ⟨q6, 0, none⟩ = some (.int .i64 (XX : Int)) ∧ X.cell? ⟨q6, 1, none⟩ = some (.int .i64 (Y : Int)) ∧ X.cell? ⟨q6, 2, none⟩ = some (.int .i64 (Z : Int)) ∧ X.cell? ⟨q6, 3, none⟩ = some (.slice A5 n5 c5) ∧ X.cell? ⟨q9, 0, none⟩ = some (.int .i64 (XX : Int)) ∧ X.cell? ⟨q9, 1, none⟩ = some (.int .i64 (Y : Int)) ∧ X.cell? ⟨q9, 2, none⟩ = some (.int .i64 (Z : Int)) ∧ X.cell? ⟨q9, 3, none⟩ = some (.slice A8 n8 c8) ∧ Sem.run Tryd.prog (convert 46 9 (.slice A7 n7 c7)) X = .ok (.string sb7) X) w13 := ⟨HY13.out.cell 0, HY13.out.cell 1, HY13.out.cell 2, HY13.out.cell 3, HQ13.out.cell 0, HQ13.out.cell 1, HQ13.out.cell 2, HQ13.out.cell 3, (by rw [conv_len _ A7 _ n7 c7 HL7.out HR13.out, HS7.out])⟩
    clear HY12 HQ12 HG12 HG812 HR12 HB12
    go_wp2_with fail
    refine hK2.out _ _ (by (try dsimp only); exact hS13) (fun _ => ?_)
    clear hK2 K2
    (try simp only [List.getElem_toArray]); (try simp only [List.getElem_cons_succ]); (try simp only [List.getElem_cons_zero]); (try simp only [Act.put]); (try simp only [List.setIfInBounds_toArray]); (try simp only [List.set_cons_succ]); (try simp only [List.set_cons_zero])
    (refine wpAnyH_take (i := 19) (v := ?_) rfl (by kernel_rfl) (by kernel_rfl) (by kernel_rfl) (fun _ _ _ h => h) (Or.inl ⟨by rfl, ?_⟩) (by assumption) ?_; rotate_left; (intro w hSw; (try dsimp only at hSw); go_simp; try with_reducible rfl); ((try simp only [List.getElem_toArray]); (try simp only [List.getElem_cons_succ]); (try simp only [List.getElem_cons_zero]); (try simp only [Act.put]); (try simp only [List.setIfInBounds_toArray]); (try simp only [List.set_cons_succ]); (try simp only [List.set_cons_zero])))
    (refine wpAnyH_take (i := 20) (v := ?_) rfl (by kernel_rfl) (by kernel_rfl) (by kernel_rfl) (fun _ _ _ h => h) (Or.inl ⟨by rfl, ?_⟩) (by assumption) ?_; rotate_left; (intro w hSw; (try dsimp only at hSw); go_simp; try with_reducible rfl); ((try simp only [List.getElem_toArray]); (try simp only [List.getElem_cons_succ]); (try simp only [List.getElem_cons_zero]); (try simp only [Act.put]); (try simp only [List.setIfInBounds_toArray]); (try simp only [List.set_cons_succ]); (try simp only [List.set_cons_zero])))
    (refine wpAnyH_take (i := 21) (v := ?_) rfl (by kernel_rfl) (by kernel_rfl) (by kernel_rfl) (fun _ _ _ h => h) (Or.inl ⟨by rfl, ?_⟩) (by assumption) ?_; rotate_left; (intro w hSw; (try dsimp only at hSw); go_simp; try with_reducible rfl); ((try simp only [List.getElem_toArray]); (try simp only [List.getElem_cons_succ]); (try simp only [List.getElem_cons_zero]); (try simp only [Act.put]); (try simp only [List.setIfInBounds_toArray]); (try simp only [List.set_cons_succ]); (try simp only [List.set_cons_zero])))
    (refine wpAnyH_take (i := 22) (v := ?_) rfl (by kernel_rfl) (by kernel_rfl) (by kernel_rfl) (fun _ _ _ h => h) (Or.inl ⟨by rfl, ?_⟩) (by assumption) ?_; rotate_left; (intro w hSw; (try dsimp only at hSw); go_simp; try with_reducible rfl); ((try simp only [List.getElem_toArray]); (try simp only [List.getElem_cons_succ]); (try simp only [List.getElem_cons_zero]); (try simp only [Act.put]); (try simp only [List.setIfInBounds_toArray]); (try simp only [List.set_cons_succ]); (try simp only [List.set_cons_zero])))
    (refine wpAnyH_take (i := 23) (v := ?_) rfl (by kernel_rfl) (by kernel_rfl) (by kernel_rfl) (fun _ _ _ h => h) (Or.inl ⟨by rfl, ?_⟩) (by assumption) ?_; rotate_left; (intro w hSw; (try dsimp only at hSw); go_simp; try with_reducible rfl); ((try simp only [List.getElem_toArray]); (try simp only [List.getElem_cons_succ]); (try simp only [List.getElem_cons_zero]); (try simp only [Act.put]); (try simp only [List.setIfInBounds_toArray]); (try simp only [List.set_cons_succ]); (try simp only [List.set_cons_zero])))
    (refine wpAnyH_take (i := 24) (v := ?_) rfl (by kernel_rfl) (by kernel_rfl) (by kernel_rfl) (fun _ _ _ h => h) (Or.inl ⟨by rfl, ?_⟩) (by assumption) ?_; rotate_left; (intro w hSw; (try dsimp only at hSw); go_simp; try with_reducible rfl); ((try simp only [List.getElem_toArray]); (try simp only [List.getElem_cons_succ]); (try simp only [List.getElem_cons_zero]); (try simp only [Act.put]); (try simp only [List.setIfInBounds_toArray]); (try simp only [List.set_cons_succ]); (try simp only [List.set_cons_zero])))
    refine wpAnyH_ready (rs := [25]) (by kernel_rfl) (by simp) ?_
    refine AllReadyH.cons rfl (fun K2 hK2 => ?_) AllReadyH.nil
    go_simp
    refine (lives11_any _ (HT.out.below HB13.out)).mono ?_
    rintro e w14 ⟨rfl, hb14⟩
    have HY14 := Lib.hid (HY13.out.below hb14 HY13.out.lt)
    have HQ14 := Lib.hid (HQ13.out.below hb14 HQ13.out.lt)
    have HG14 := Lib.hid (HG13.out.below hb14)
    have HG814 := Lib.hid (HG813.out.below hb14)
    have HR14 := Lib.hid (HR13.out.below hb14)
    have HB14 := Lib.hid (HB13.out.trans (hb14.mono HB13.out.size))
    have hS14 : (fun X : World => X.cell? ⟨q6, 0, none⟩ = some (.int .i64 (XX : Int)) ∧ X.cell? ⟨q6, 1, none⟩ = some (.int .i64 (Y : Int)) ∧ X.cell? ⟨q6, 2, none⟩ = some (.int .i64 (Z : Int)) ∧ X.cell? ⟨q6, 3, none⟩ = some (.slice A5 n5 c5) ∧ X.cell? ⟨q9, 0, none⟩ = some (.int .i64 (XX : Int)) ∧ X.cell? ⟨q9, 1, none⟩ = some (.int .i64 (Y : Int)) ∧ X.cell? ⟨q9, 2, none⟩ = some (.int .i64 (Z : Int)) ∧ X.cell? ⟨q9, 3, none⟩ = some (.slice A8 n8 c8) ∧ Sem.run Tryd.prog (convert 46 9 (.slice A7 n7 c7)) X = .ok (.string sb7) X) w14 := ⟨HY14.out.cell 0, HY14.out.cell 1, HY14.out.cell 2, HY14.out.cell 3, HQ14.out.cell 0, HQ14.out.cell 1, HQ14.out.cell 2, HQ14.out.cell 3, (by rw [conv_len _ A7 _ n7 c7 HL7.out HR14.out, HS7.out])⟩
    clear HY13 HQ13 HG13 HG813 HR13 HB13
    go_wp2_with fail
    refine hK2.out _ _ (by (try dsimp only); exact hS14) (fun _ => ?_)
    clear hK2 K2
    (try simp only [List.getElem_toArray]); (try simp only [List.getElem_cons_succ]); (try simp only [List.getElem_cons_zero]); (try simp only [Act.put]); (try simp only [List.setIfInBounds_toArray]); (try simp only [List.set_cons_succ]); (try simp only [List.set_cons_zero])
    (refine wpAnyH_take (i := 26) (v := ?_) rfl (by kernel_rfl) (by kernel_rfl) (by kernel_rfl) (fun _ _ _ h => h) (Or.inl ⟨by rfl, ?_⟩) (by assumption) ?_; rotate_left; (intro w hSw; (try dsimp only at hSw); go_simp; try with_reducible rfl); ((try simp only [List.getElem_toArray]); (try simp only [List.getElem_cons_succ]); (try simp only [List.getElem_cons_zero]); (try simp only [Act.put]); (try simp only [List.setIfInBounds_toArray]); (try simp only [List.set_cons_succ]); (try simp only [List.set_cons_zero])))
    (refine wpAnyH_take (i := 27) (v := ?_) rfl (by kernel_rfl) (by kernel_rfl) (by kernel_rfl) (fun _ _ _ h => h) (Or.inl ⟨by rfl, ?_⟩) (by assumption) ?_; rotate_left; (intro w hSw; (try dsimp only at hSw); go_simp; try with_reducible rfl); ((try simp only [List.getElem_toArray]); (try simp only [List.getElem_cons_succ]); (try simp only [List.getElem_cons_zero]); (try simp only [Act.put]); (try simp only [List.setIfInBounds_toArray]); (try simp only [List.set_cons_succ]); (try simp only [List.set_cons_zero])))
    refine wpAnyH_done (by kernel_rfl) ?_ _
    go_wp2_with fail
    go_ret
    exact ⟨rfl, HB14.out⟩
end Go.Proofs.YtjkmbggaoinkdaaDoor.chunkPoints
