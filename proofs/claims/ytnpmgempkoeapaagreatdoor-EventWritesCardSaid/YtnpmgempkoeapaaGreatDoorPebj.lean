/-
  Put together, as far as it is used: EwD.
-/
import Derived.Test.YtnpmgempkoeapaaGreatDoorPebi
import Derived.Test.YtnpmgempkoeapaaGreatDoorPeao
set_option linter.unusedVariables false
set_option linter.unusedSimpArgs false
set_option linter.defProp false
namespace Go.Proofs.YtnpmgempkoeapaaGreatDoor
open Go.RowKit Go.Maps Dg
set_option maxRecDepth 100000
set_option maxHeartbeats 8000000 in
theorem ewrite_3 (n : Int) (t : ByteArray) (ck K cq : Int) (Ab : Option Addr) (nb zb : Nat) (Aa : Option Addr) (na za : Nat) (ct : ByteArray) (A : Option Addr) (nl c : Nat) (cn : ByteArray) (cb : Bool) (At : Option Addr) (nt ctt : Nat) (w : World) (T : List Tb) (hT : TbW w At nt ctt T) (hp : plF T t = true) (yA : Option Addr) (yn yc : Nat) (kk : Int) (hy : tfV T t = .tuple #[.agg #[.slice yA yn yc, .int .i64 kk], .bool true]) (ht : t.size ≤ 900) (R : List Vl) (hnr : R.length = na) (hncr : na ≤ za) (hR : VRow w Aa R) (hmay : ∀ x ∈ R, x.may = true) (hfit : ∀ x ∈ R, x.fits) (hsz : ∀ x ∈ R, x.s.size ≤ 1000) (h1 : 1 ≤ na) (h8 : na ≤ 8) (hyn : yn = na)
 (hM : ∀ W, Below w.heap.size w W → Calls Tryz.prog 23 #[.agg #[.int .i64 (3), .int .i64 (n), .string t, .slice Ab nb zb, .slice Aa na za, .int .i64 (ck), .string ct, .slice A nl c, .int .i64 (K), .string cn, .int .i64 (cq), .bool cb], .slice At nt ctt] W fun e w' => e = .returned (.int .i64 0) ∧ Hid (Below W.heap.size W w')) :
 Calls Tryz.prog 8 #[.agg #[.int .i64 (3), .int .i64 (n), .string t, .slice Ab nb zb, .slice Aa na za, .int .i64 (ck), .string ct, .slice A nl c, .int .i64 (K), .string cn, .int .i64 (cq), .bool cb], .slice At nt ctt] w fun e w' => ∃ v, e = .returned (.tuple #[v, .int .i64 0]) ∧ Hid (Own w.heap.size w' v (3 :: (ytxt t ++ imgF R))) ∧ Hid (Below w.heap.size w w') := by
 have HYN := Lib.hid hyn
 clear hyn
 have HB := Lib.hid ((Below.refl w.heap.size w).alloc (Nat.le_refl _) (.cells #[.int .i64 (3), .int .i64 (n), .string t, .slice Ab nb zb, .slice Aa na za, .int .i64 (ck), .string ct, .slice A nl c, .int .i64 (K), .string cn, .int .i64 (cq), .bool cb] 33))
 have HX := Lib.hid (Has.new w 33 #[.int .i64 (3), .int .i64 (n), .string t, .slice Ab nb zb, .slice Aa na za, .int .i64 (ck), .string ct, .slice A nl c, .int .i64 (K), .string cn, .int .i64 (cq), .bool cb])
 have HM := Lib.hid (hM _ HB.out)
 clear hM
 go_enter Tryz.func8, Tryz.ntmps8
 go_wp2_with fail
 refine HM.out.mono ?_
 rintro e w1 ⟨rfl, hb1⟩
 have HB1 := Lib.hid (HB.out.trans (hb1.out.mono HB.out.size))
 have HX1 := Lib.hid (HX.out.below hb1.out (by simp))
 clear hb1 HB HX HM
 have HB2 : Hid (Below w.heap.size w (w1.alloc (.cells #[.int .u8 3] 5))) := HB1.out.trans (((Below.refl w1.heap.size w1).alloc (Nat.le_refl _) _).mono HB1.out.size)
 have HX2 := Lib.hid (HX1.out.alloc (.cells #[.int .u8 3] 5))
 have HR : Hid (Rd (w1.alloc (.cells #[.int .u8 3] 5)) (some ⟨w1.heap.size, 0, none⟩) [3]) := rd_one w1 3
 have x0 : w1.cell? ⟨w.heap.size, 0, none⟩ = some (.int .i64 (3)) := HX1.out.cell 0
 have y0 : (w1.alloc (.cells #[.int .u8 3] 5)).cell? ⟨w.heap.size, 0, none⟩ = some (.int .i64 (3)) := HX2.out.cell 0
 have y2 : (w1.alloc (.cells #[.int .u8 3] 5)).cell? ⟨w.heap.size, 2, none⟩ = some (.string t) := HX2.out.cell 2
 have HF := Lib.hid (pfind_any At T nt ctt t (w1.alloc (.cells #[.int .u8 3] 5)) hT.len hT.few (hT.row.below HB2.out) hT.sort)
 rw [hy] at HF
 go_wp2_with fail
 refine HF.out.mono ?_
 rintro e w4 ⟨rfl, hb4⟩
 have HX4 := Lib.hid (HX2.out.below hb4.out HX2.out.lt)
 have HR4 := Lib.hid (HR.out.below hb4.out)
 have HB4 := Lib.hid (HB2.out.trans (hb4.out.mono HB2.out.size))
 generalize w1.heap.size = g at *
 clear hb4 HB2 HX2 HR HF x0 y0 y2 HX1 HB1
 obtain ⟨W5, hW5⟩ : ∃ W, W = w4.alloc (.cells #[.slice yA yn yc, .int .i64 kk] 27) := ⟨_, rfl⟩
 have hb5 : Below w4.heap.size w4 W5 := by rw [hW5]; exact (Below.refl _ w4).alloc (Nat.le_refl _) _
 have hs5 : Has W5 w4.heap.size 27 #[.slice yA yn yc, .int .i64 kk] := by rw [hW5]; exact Has.new _ _ _
 replace hW5 := hW5.symm
 have HX5 := Lib.hid (HX4.out.below hb5 HX4.out.lt)
 have HR5 := Lib.hid (HR4.out.below hb5)
 have HB5 := Lib.hid (HB4.out.trans (hb5.mono HB4.out.size))
 have HS5 := Lib.hid hs5
 clear hs5 hb5 HX4 HR4 HB4
 obtain ⟨q, hq⟩ : ∃ q, w4.heap.size = q := ⟨_, rfl⟩
 rw [hq] at HS5
 go_wp2_with fail
 clear hW5
 refine wp_region_held_drew (S := (fun X : World => X.cell? ⟨w.heap.size, 2, none⟩ = some (.string t) ∧ X.cell? ⟨w.heap.size, 4, none⟩ = some (.slice Aa na za) ∧ X.cell? ⟨q, 0, none⟩ = some (.slice yA yn yc) ∧ X.cell? ⟨q, 1, none⟩ = some (.int .i64 kk))) (by kernel_rfl) (by exact ⟨HX5.out.cell 2, HX5.out.cell 4, HS5.out.cell 0, HS5.out.cell 1⟩) (fun _ => ?_)
 (refine wpAnyH_take (i := 0) (v := ?_) rfl (by kernel_rfl) (by kernel_rfl) (by kernel_rfl) (fun _ _ _ h => h) (Or.inl ⟨by rfl, ?_⟩) (by assumption) ?_; rotate_left; (intro w hSw; (try dsimp only at hSw); go_simp; try with_reducible rfl); ((try simp only [zA, zB, zC, Act.put, zD, zE, zF])))
 (refine wpAnyH_take (i := 1) (v := ?_) rfl (by kernel_rfl) (by kernel_rfl) (by kernel_rfl) (fun _ _ _ h => h) (Or.inl ⟨by rfl, ?_⟩) (by assumption) ?_; rotate_left; (intro w hSw; (try dsimp only at hSw); go_simp; try with_reducible rfl); ((try simp only [zA, zB, zC, Act.put, zD, zE, zF])))
 (refine wpAnyH_take (i := 2) (v := ?_) rfl (by kernel_rfl) (by kernel_rfl) (by kernel_rfl) (fun _ _ _ h => h) (Or.inl ⟨by rfl, ?_⟩) (by assumption) ?_; rotate_left; (intro w hSw; (try dsimp only at hSw); go_simp; try with_reducible rfl); ((try simp only [zA, zB, zC, Act.put, zD, zE, zF])))
 (refine wpAnyH_take (i := 4) (v := ?_) rfl (by kernel_rfl) (by kernel_rfl) (by kernel_rfl) (fun _ _ _ h => h) (Or.inl ⟨by rfl, ?_⟩) (by assumption) ?_; rotate_left; (intro w hSw; (try dsimp only at hSw); go_simp; try with_reducible rfl); ((try simp only [zA, zB, zC, Act.put, zD, zE, zF])))
 (refine wpAnyH_take (i := 5) (v := ?_) rfl (by kernel_rfl) (by kernel_rfl) (by kernel_rfl) (fun _ _ _ h => h) (Or.inl ⟨by rfl, ?_⟩) (by assumption) ?_; rotate_left; (intro w hSw; (try dsimp only at hSw); go_simp; try with_reducible rfl); ((try simp only [zA, zB, zC, Act.put, zD, zE, zF])))
 (refine wpAnyH_take (i := 6) (v := ?_) rfl (by kernel_rfl) (by kernel_rfl) (by kernel_rfl) (fun _ _ _ h => h) (Or.inl ⟨by rfl, ?_⟩) (by assumption) ?_; rotate_left; (intro w hSw; (try dsimp only at hSw); go_simp; try with_reducible rfl); ((try simp only [zA, zB, zC, Act.put, zD, zE, zF])))
 refine wpAnyH_ready (rs := [3]) (by kernel_rfl) (by simp) ?_
 refine AllReadyH.cons rfl (fun K2 hK2 => ?_) AllReadyH.nil
 go_simp
 refine (TextW_any (some ⟨g, 0, none⟩) [3] 1 1 t W5.drew rfl (by omega) (HR5.out.below (Below.refl _ _).drew) (by omega) (by omega)).mono ?_
 rintro e w7 ⟨v7, rfl, ho7, hb7⟩
 have hb57 : Below W5.heap.size W5 w7 := (Below.refl W5.heap.size W5).drew.trans hb7.out
 have HX7 := Lib.hid (HX5.out.below hb57 HX5.out.lt)
 have HS7 := Lib.hid (HS5.out.below hb57 HS5.out.lt)
 have HB7 := Lib.hid (HB5.out.trans (hb57.mono HB5.out.size))
 obtain ⟨A7, n7, c7, rfl, hn7, hc7, hr7, hz7⟩ := own_openZ ho7.out
 clear ho7 hb7 hb57
 go_wp2_with fail
 refine hK2.out _ _ (by (try dsimp only); exact ⟨HX7.out.cell 2, HX7.out.cell 4, HS7.out.cell 0, HS7.out.cell 1⟩) (fun _ => ?_)
 clear hK2 K2
 (try simp only [zA, zB, zC, Act.put, zD, zE, zF])
 refine wpAnyH_ready (rs := [7]) (by kernel_rfl) (by simp) ?_
 refine AllReadyH.cons rfl (fun K2 hK2 => ?_) AllReadyH.nil
 go_simp
 refine (write_any A7 _ n7 c7 yA yn yc kk Aa R na za na w7 hn7.out (by have h1 := hn7.out; have h2 := ytxt_len' t ht; simp only [List.length_append, List.length_cons, List.length_nil] at h1; omega) hr7.out hz7.out (by have := HYN.out; omega) h1 h8 (by have := HYN.out; omega) hnr hncr (by have := HYN.out; omega) ((hR.below HB7.out)) hmay hfit hsz).mono ?_
 rintro e w8 ⟨v8, rfl, ho8, hb8⟩
 have HX8 := Lib.hid (HX7.out.below hb8.out HX7.out.lt)
 have HS8 := Lib.hid (HS7.out.below hb8.out HS7.out.lt)
 have HB8 := Lib.hid (HB7.out.trans (hb8.out.mono HB7.out.size))
 have HO8 := Lib.hid (own_down ho8.out HB7.out.size)
 clear ho8 hb8
 go_wp2_with fail
 refine hK2.out _ _ (by (try dsimp only); exact ⟨HX8.out.cell 2, HX8.out.cell 4, HS8.out.cell 0, HS8.out.cell 1⟩) (fun _ => ?_)
 clear hK2 K2
 (try simp only [zA, zB, zC, Act.put, zD, zE, zF])
 (refine wpAnyH_take (i := 8) (v := ?_) rfl (by kernel_rfl) (by kernel_rfl) (by kernel_rfl) (fun _ _ _ h => h) (Or.inl ⟨by rfl, ?_⟩) (by assumption) ?_; rotate_left; (intro w hSw; (try dsimp only at hSw); go_simp; try with_reducible rfl); ((try simp only [zA, zB, zC, Act.put, zD, zE, zF])))
 (refine wpAnyH_take (i := 9) (v := ?_) rfl (by kernel_rfl) (by kernel_rfl) (by kernel_rfl) (fun _ _ _ h => h) (Or.inl ⟨by rfl, ?_⟩) (by assumption) ?_; rotate_left; (intro w hSw; (try dsimp only at hSw); go_simp; try with_reducible rfl); ((try simp only [zA, zB, zC, Act.put, zD, zE, zF])))
 refine wpAnyH_done (by kernel_rfl) ?_ _
 go_wp2_with fail
 go_ret2
 refine ⟨v8, rfl, ?_, HB8⟩
 have ho := HO8.out
 rw [List.take_of_length_le (by have := HYN.out; omega)] at ho
 exact ho
set_option maxHeartbeats 8000000 in
theorem ewrite_4 (n : Int) (t : ByteArray) (ck K cq : Int) (Ab : Option Addr) (nb zb : Nat) (Aa : Option Addr) (na za : Nat) (ct : ByteArray) (A : Option Addr) (nl c : Nat) (cn : ByteArray) (cb : Bool) (At : Option Addr) (nt ctt : Nat) (w : World) (T : List Tb) (hT : TbW w At nt ctt T) (hp : plF T t = true) (yA : Option Addr) (yn yc : Nat) (kk : Int) (hy : tfV T t = .tuple #[.agg #[.slice yA yn yc, .int .i64 kk], .bool true]) (ht : t.size ≤ 900) (R : List Vl) (hnr : R.length = na) (hncr : na ≤ za) (hR : VRow w Aa R) (hmay : ∀ x ∈ R, x.may = true) (hfit : ∀ x ∈ R, x.fits) (hsz : ∀ x ∈ R, x.s.size ≤ 1000) (h1 : 1 ≤ na) (h8 : na ≤ 8) (hyn : yn = na)
 (hM : ∀ W, Below w.heap.size w W → Calls Tryz.prog 23 #[.agg #[.int .i64 (4), .int .i64 (n), .string t, .slice Ab nb zb, .slice Aa na za, .int .i64 (ck), .string ct, .slice A nl c, .int .i64 (K), .string cn, .int .i64 (cq), .bool cb], .slice At nt ctt] W fun e w' => e = .returned (.int .i64 0) ∧ Hid (Below W.heap.size W w')) :
 Calls Tryz.prog 8 #[.agg #[.int .i64 (4), .int .i64 (n), .string t, .slice Ab nb zb, .slice Aa na za, .int .i64 (ck), .string ct, .slice A nl c, .int .i64 (K), .string cn, .int .i64 (cq), .bool cb], .slice At nt ctt] w fun e w' => ∃ v, e = .returned (.tuple #[v, .int .i64 0]) ∧ Hid (Own w.heap.size w' v (4 :: (ytxt t ++ imgF R))) ∧ Hid (Below w.heap.size w w') := by
 have HYN := Lib.hid hyn
 clear hyn
 have HB := Lib.hid ((Below.refl w.heap.size w).alloc (Nat.le_refl _) (.cells #[.int .i64 (4), .int .i64 (n), .string t, .slice Ab nb zb, .slice Aa na za, .int .i64 (ck), .string ct, .slice A nl c, .int .i64 (K), .string cn, .int .i64 (cq), .bool cb] 33))
 have HX := Lib.hid (Has.new w 33 #[.int .i64 (4), .int .i64 (n), .string t, .slice Ab nb zb, .slice Aa na za, .int .i64 (ck), .string ct, .slice A nl c, .int .i64 (K), .string cn, .int .i64 (cq), .bool cb])
 have HM := Lib.hid (hM _ HB.out)
 clear hM
 go_enter Tryz.func8, Tryz.ntmps8
 go_wp2_with fail
 refine HM.out.mono ?_
 rintro e w1 ⟨rfl, hb1⟩
 have HB1 := Lib.hid (HB.out.trans (hb1.out.mono HB.out.size))
 have HX1 := Lib.hid (HX.out.below hb1.out (by simp))
 clear hb1 HB HX HM
 have HB2 : Hid (Below w.heap.size w (w1.alloc (.cells #[.int .u8 4] 5))) := HB1.out.trans (((Below.refl w1.heap.size w1).alloc (Nat.le_refl _) _).mono HB1.out.size)
 have HX2 := Lib.hid (HX1.out.alloc (.cells #[.int .u8 4] 5))
 have HR : Hid (Rd (w1.alloc (.cells #[.int .u8 4] 5)) (some ⟨w1.heap.size, 0, none⟩) [4]) := rd_one w1 4
 have x0 : w1.cell? ⟨w.heap.size, 0, none⟩ = some (.int .i64 (4)) := HX1.out.cell 0
 have y0 : (w1.alloc (.cells #[.int .u8 4] 5)).cell? ⟨w.heap.size, 0, none⟩ = some (.int .i64 (4)) := HX2.out.cell 0
 have y2 : (w1.alloc (.cells #[.int .u8 4] 5)).cell? ⟨w.heap.size, 2, none⟩ = some (.string t) := HX2.out.cell 2
 have HF := Lib.hid (pfind_any At T nt ctt t (w1.alloc (.cells #[.int .u8 4] 5)) hT.len hT.few (hT.row.below HB2.out) hT.sort)
 rw [hy] at HF
 go_wp2_with fail
 refine HF.out.mono ?_
 rintro e w4 ⟨rfl, hb4⟩
 have HX4 := Lib.hid (HX2.out.below hb4.out HX2.out.lt)
 have HR4 := Lib.hid (HR.out.below hb4.out)
 have HB4 := Lib.hid (HB2.out.trans (hb4.out.mono HB2.out.size))
 generalize w1.heap.size = g at *
 clear hb4 HB2 HX2 HR HF x0 y0 y2 HX1 HB1
 obtain ⟨W5, hW5⟩ : ∃ W, W = w4.alloc (.cells #[.slice yA yn yc, .int .i64 kk] 27) := ⟨_, rfl⟩
 have hb5 : Below w4.heap.size w4 W5 := by rw [hW5]; exact (Below.refl _ w4).alloc (Nat.le_refl _) _
 have hs5 : Has W5 w4.heap.size 27 #[.slice yA yn yc, .int .i64 kk] := by rw [hW5]; exact Has.new _ _ _
 replace hW5 := hW5.symm
 have HX5 := Lib.hid (HX4.out.below hb5 HX4.out.lt)
 have HR5 := Lib.hid (HR4.out.below hb5)
 have HB5 := Lib.hid (HB4.out.trans (hb5.mono HB4.out.size))
 have HS5 := Lib.hid hs5
 clear hs5 hb5 HX4 HR4 HB4
 obtain ⟨q, hq⟩ : ∃ q, w4.heap.size = q := ⟨_, rfl⟩
 rw [hq] at HS5
 go_wp2_with fail
 clear hW5
 refine wp_region_held_drew (S := (fun X : World => X.cell? ⟨w.heap.size, 2, none⟩ = some (.string t) ∧ X.cell? ⟨w.heap.size, 4, none⟩ = some (.slice Aa na za) ∧ X.cell? ⟨q, 0, none⟩ = some (.slice yA yn yc) ∧ X.cell? ⟨q, 1, none⟩ = some (.int .i64 kk))) (by kernel_rfl) (by exact ⟨HX5.out.cell 2, HX5.out.cell 4, HS5.out.cell 0, HS5.out.cell 1⟩) (fun _ => ?_)
 (refine wpAnyH_take (i := 0) (v := ?_) rfl (by kernel_rfl) (by kernel_rfl) (by kernel_rfl) (fun _ _ _ h => h) (Or.inl ⟨by rfl, ?_⟩) (by assumption) ?_; rotate_left; (intro w hSw; (try dsimp only at hSw); go_simp; try with_reducible rfl); ((try simp only [zA, zB, zC, Act.put, zD, zE, zF])))
 (refine wpAnyH_take (i := 1) (v := ?_) rfl (by kernel_rfl) (by kernel_rfl) (by kernel_rfl) (fun _ _ _ h => h) (Or.inl ⟨by rfl, ?_⟩) (by assumption) ?_; rotate_left; (intro w hSw; (try dsimp only at hSw); go_simp; try with_reducible rfl); ((try simp only [zA, zB, zC, Act.put, zD, zE, zF])))
 (refine wpAnyH_take (i := 2) (v := ?_) rfl (by kernel_rfl) (by kernel_rfl) (by kernel_rfl) (fun _ _ _ h => h) (Or.inl ⟨by rfl, ?_⟩) (by assumption) ?_; rotate_left; (intro w hSw; (try dsimp only at hSw); go_simp; try with_reducible rfl); ((try simp only [zA, zB, zC, Act.put, zD, zE, zF])))
 (refine wpAnyH_take (i := 4) (v := ?_) rfl (by kernel_rfl) (by kernel_rfl) (by kernel_rfl) (fun _ _ _ h => h) (Or.inl ⟨by rfl, ?_⟩) (by assumption) ?_; rotate_left; (intro w hSw; (try dsimp only at hSw); go_simp; try with_reducible rfl); ((try simp only [zA, zB, zC, Act.put, zD, zE, zF])))
 (refine wpAnyH_take (i := 5) (v := ?_) rfl (by kernel_rfl) (by kernel_rfl) (by kernel_rfl) (fun _ _ _ h => h) (Or.inl ⟨by rfl, ?_⟩) (by assumption) ?_; rotate_left; (intro w hSw; (try dsimp only at hSw); go_simp; try with_reducible rfl); ((try simp only [zA, zB, zC, Act.put, zD, zE, zF])))
 (refine wpAnyH_take (i := 6) (v := ?_) rfl (by kernel_rfl) (by kernel_rfl) (by kernel_rfl) (fun _ _ _ h => h) (Or.inl ⟨by rfl, ?_⟩) (by assumption) ?_; rotate_left; (intro w hSw; (try dsimp only at hSw); go_simp; try with_reducible rfl); ((try simp only [zA, zB, zC, Act.put, zD, zE, zF])))
 refine wpAnyH_ready (rs := [3]) (by kernel_rfl) (by simp) ?_
 refine AllReadyH.cons rfl (fun K2 hK2 => ?_) AllReadyH.nil
 go_simp
 refine (TextW_any (some ⟨g, 0, none⟩) [4] 1 1 t W5.drew rfl (by omega) (HR5.out.below (Below.refl _ _).drew) (by omega) (by omega)).mono ?_
 rintro e w7 ⟨v7, rfl, ho7, hb7⟩
 have hb57 : Below W5.heap.size W5 w7 := (Below.refl W5.heap.size W5).drew.trans hb7.out
 have HX7 := Lib.hid (HX5.out.below hb57 HX5.out.lt)
 have HS7 := Lib.hid (HS5.out.below hb57 HS5.out.lt)
 have HB7 := Lib.hid (HB5.out.trans (hb57.mono HB5.out.size))
 obtain ⟨A7, n7, c7, rfl, hn7, hc7, hr7, hz7⟩ := own_openZ ho7.out
 clear ho7 hb7 hb57
 go_wp2_with fail
 refine hK2.out _ _ (by (try dsimp only); exact ⟨HX7.out.cell 2, HX7.out.cell 4, HS7.out.cell 0, HS7.out.cell 1⟩) (fun _ => ?_)
 clear hK2 K2
 (try simp only [zA, zB, zC, Act.put, zD, zE, zF])
 refine wpAnyH_ready (rs := [7]) (by kernel_rfl) (by simp) ?_
 refine AllReadyH.cons rfl (fun K2 hK2 => ?_) AllReadyH.nil
 go_simp
 refine (write_any A7 _ n7 c7 yA yn yc kk Aa R na za na w7 hn7.out (by have h1 := hn7.out; have h2 := ytxt_len' t ht; simp only [List.length_append, List.length_cons, List.length_nil] at h1; omega) hr7.out hz7.out (by have := HYN.out; omega) h1 h8 (by have := HYN.out; omega) hnr hncr (by have := HYN.out; omega) ((hR.below HB7.out)) hmay hfit hsz).mono ?_
 rintro e w8 ⟨v8, rfl, ho8, hb8⟩
 have HX8 := Lib.hid (HX7.out.below hb8.out HX7.out.lt)
 have HS8 := Lib.hid (HS7.out.below hb8.out HS7.out.lt)
 have HB8 := Lib.hid (HB7.out.trans (hb8.out.mono HB7.out.size))
 have HO8 := Lib.hid (own_down ho8.out HB7.out.size)
 clear ho8 hb8
 go_wp2_with fail
 refine hK2.out _ _ (by (try dsimp only); exact ⟨HX8.out.cell 2, HX8.out.cell 4, HS8.out.cell 0, HS8.out.cell 1⟩) (fun _ => ?_)
 clear hK2 K2
 (try simp only [zA, zB, zC, Act.put, zD, zE, zF])
 (refine wpAnyH_take (i := 8) (v := ?_) rfl (by kernel_rfl) (by kernel_rfl) (by kernel_rfl) (fun _ _ _ h => h) (Or.inl ⟨by rfl, ?_⟩) (by assumption) ?_; rotate_left; (intro w hSw; (try dsimp only at hSw); go_simp; try with_reducible rfl); ((try simp only [zA, zB, zC, Act.put, zD, zE, zF])))
 (refine wpAnyH_take (i := 9) (v := ?_) rfl (by kernel_rfl) (by kernel_rfl) (by kernel_rfl) (fun _ _ _ h => h) (Or.inl ⟨by rfl, ?_⟩) (by assumption) ?_; rotate_left; (intro w hSw; (try dsimp only at hSw); go_simp; try with_reducible rfl); ((try simp only [zA, zB, zC, Act.put, zD, zE, zF])))
 refine wpAnyH_done (by kernel_rfl) ?_ _
 go_wp2_with fail
 go_ret2
 refine ⟨v8, rfl, ?_, HB8⟩
 have ho := HO8.out
 rw [List.take_of_length_le (by have := HYN.out; omega)] at ho
 exact ho
set_option maxHeartbeats 8000000 in
theorem ewrite_5 (n : Int) (t : ByteArray) (ck K cq : Int) (Ab : Option Addr) (nb zb : Nat) (Aa : Option Addr) (na za : Nat) (ct : ByteArray) (A : Option Addr) (nl c : Nat) (cn : ByteArray) (cb : Bool) (At : Option Addr) (nt ctt : Nat) (w : World) (T : List Tb) (hT : TbW w At nt ctt T) (hp : plF T t = true) (yA : Option Addr) (yn yc : Nat) (kk : Nat) (hy : tfV T t = .tuple #[.agg #[.slice yA yn yc, .int .i64 kk], .bool true]) (ht : t.size ≤ 900) (R : List Vl) (hnr : R.length = nb) (hncr : nb ≤ zb) (hR : VRow w Ab R) (hmay : ∀ x ∈ R, x.may = true) (hfit : ∀ x ∈ R, x.fits) (hsz : ∀ x ∈ R, x.s.size ≤ 1000) (h1 : 1 ≤ kk) (h8 : kk ≤ 8) (hkn : kk ≤ yn) (hyn : yn ≤ 1000) (hnc : yn ≤ yc) (hkr : nb = kk)
 (hM : ∀ W, Below w.heap.size w W → Calls Tryz.prog 23 #[.agg #[.int .i64 (5), .int .i64 (n), .string t, .slice Ab nb zb, .slice Aa na za, .int .i64 (ck), .string ct, .slice A nl c, .int .i64 (K), .string cn, .int .i64 (cq), .bool cb], .slice At nt ctt] W fun e w' => e = .returned (.int .i64 0) ∧ Hid (Below W.heap.size W w')) :
 Calls Tryz.prog 8 #[.agg #[.int .i64 (5), .int .i64 (n), .string t, .slice Ab nb zb, .slice Aa na za, .int .i64 (ck), .string ct, .slice A nl c, .int .i64 (K), .string cn, .int .i64 (cq), .bool cb], .slice At nt ctt] w fun e w' => ∃ v, e = .returned (.tuple #[v, .int .i64 0]) ∧ Hid (Own w.heap.size w' v (5 :: (ytxt t ++ imgF R))) ∧ Hid (Below w.heap.size w w') := by
 have HYN := Lib.hid hkr
 clear hkr
 have HB := Lib.hid ((Below.refl w.heap.size w).alloc (Nat.le_refl _) (.cells #[.int .i64 (5), .int .i64 (n), .string t, .slice Ab nb zb, .slice Aa na za, .int .i64 (ck), .string ct, .slice A nl c, .int .i64 (K), .string cn, .int .i64 (cq), .bool cb] 33))
 have HX := Lib.hid (Has.new w 33 #[.int .i64 (5), .int .i64 (n), .string t, .slice Ab nb zb, .slice Aa na za, .int .i64 (ck), .string ct, .slice A nl c, .int .i64 (K), .string cn, .int .i64 (cq), .bool cb])
 have HM := Lib.hid (hM _ HB.out)
 clear hM
 go_enter Tryz.func8, Tryz.ntmps8
 go_wp2_with fail
 refine HM.out.mono ?_
 rintro e w1 ⟨rfl, hb1⟩
 have HB1 := Lib.hid (HB.out.trans (hb1.out.mono HB.out.size))
 have HX1 := Lib.hid (HX.out.below hb1.out (by simp))
 clear hb1 HB HX HM
 have HB2 : Hid (Below w.heap.size w (w1.alloc (.cells #[.int .u8 5] 5))) := HB1.out.trans (((Below.refl w1.heap.size w1).alloc (Nat.le_refl _) _).mono HB1.out.size)
 have HX2 := Lib.hid (HX1.out.alloc (.cells #[.int .u8 5] 5))
 have HR : Hid (Rd (w1.alloc (.cells #[.int .u8 5] 5)) (some ⟨w1.heap.size, 0, none⟩) [5]) := rd_one w1 5
 have x0 : w1.cell? ⟨w.heap.size, 0, none⟩ = some (.int .i64 (5)) := HX1.out.cell 0
 have y0 : (w1.alloc (.cells #[.int .u8 5] 5)).cell? ⟨w.heap.size, 0, none⟩ = some (.int .i64 (5)) := HX2.out.cell 0
 have y2 : (w1.alloc (.cells #[.int .u8 5] 5)).cell? ⟨w.heap.size, 2, none⟩ = some (.string t) := HX2.out.cell 2
 have HF := Lib.hid (pfind_any At T nt ctt t (w1.alloc (.cells #[.int .u8 5] 5)) hT.len hT.few (hT.row.below HB2.out) hT.sort)
 rw [hy] at HF
 go_wp2_with fail
 refine HF.out.mono ?_
 rintro e w4 ⟨rfl, hb4⟩
 have HX4 := Lib.hid (HX2.out.below hb4.out HX2.out.lt)
 have HR4 := Lib.hid (HR.out.below hb4.out)
 have HB4 := Lib.hid (HB2.out.trans (hb4.out.mono HB2.out.size))
 generalize w1.heap.size = g at *
 clear hb4 HB2 HX2 HR HF x0 y0 y2 HX1 HB1
 obtain ⟨W5, hW5⟩ : ∃ W, W = w4.alloc (.cells #[.slice yA yn yc, .int .i64 kk] 27) := ⟨_, rfl⟩
 have hb5 : Below w4.heap.size w4 W5 := by rw [hW5]; exact (Below.refl _ w4).alloc (Nat.le_refl _) _
 have hs5 : Has W5 w4.heap.size 27 #[.slice yA yn yc, .int .i64 kk] := by rw [hW5]; exact Has.new _ _ _
 replace hW5 := hW5.symm
 have HX5 := Lib.hid (HX4.out.below hb5 HX4.out.lt)
 have HR5 := Lib.hid (HR4.out.below hb5)
 have HB5 := Lib.hid (HB4.out.trans (hb5.mono HB4.out.size))
 have HS5 := Lib.hid hs5
 clear hs5 hb5 HX4 HR4 HB4
 obtain ⟨q, hq⟩ : ∃ q, w4.heap.size = q := ⟨_, rfl⟩
 rw [hq] at HS5
 go_wp2_with fail
 clear hW5
 refine wp_region_held_drew (S := (fun X : World => X.cell? ⟨w.heap.size, 2, none⟩ = some (.string t) ∧ X.cell? ⟨w.heap.size, 3, none⟩ = some (.slice Ab nb zb) ∧ X.cell? ⟨q, 0, none⟩ = some (.slice yA yn yc) ∧ X.cell? ⟨q, 1, none⟩ = some (.int .i64 kk))) (by kernel_rfl) (by exact ⟨HX5.out.cell 2, HX5.out.cell 3, HS5.out.cell 0, HS5.out.cell 1⟩) (fun _ => ?_)
 (refine wpAnyH_take (i := 0) (v := ?_) rfl (by kernel_rfl) (by kernel_rfl) (by kernel_rfl) (fun _ _ _ h => h) (Or.inl ⟨by rfl, ?_⟩) (by assumption) ?_; rotate_left; (intro w hSw; (try dsimp only at hSw); go_simp; try with_reducible rfl); ((try simp only [zA, zB, zC, Act.put, zD, zE, zF])))
 (refine wpAnyH_take (i := 1) (v := ?_) rfl (by kernel_rfl) (by kernel_rfl) (by kernel_rfl) (fun _ _ _ h => h) (Or.inl ⟨by rfl, ?_⟩) (by assumption) ?_; rotate_left; (intro w hSw; (try dsimp only at hSw); go_simp; try with_reducible rfl); ((try simp only [zA, zB, zC, Act.put, zD, zE, zF])))
 (refine wpAnyH_take (i := 2) (v := ?_) rfl (by kernel_rfl) (by kernel_rfl) (by kernel_rfl) (fun _ _ _ h => h) (Or.inl ⟨by rfl, ?_⟩) (by assumption) ?_; rotate_left; (intro w hSw; (try dsimp only at hSw); go_simp; try with_reducible rfl); ((try simp only [zA, zB, zC, Act.put, zD, zE, zF])))
 (refine wpAnyH_take (i := 4) (v := ?_) rfl (by kernel_rfl) (by kernel_rfl) (by kernel_rfl) (fun _ _ _ h => h) (Or.inl ⟨by rfl, ?_⟩) (by assumption) ?_; rotate_left; (intro w hSw; (try dsimp only at hSw); go_simp; try with_reducible rfl); ((try simp only [zA, zB, zC, Act.put, zD, zE, zF])))
 (refine wpAnyH_take (i := 5) (v := ?_) rfl (by kernel_rfl) (by kernel_rfl) (by kernel_rfl) (fun _ _ _ h => h) (Or.inl ⟨by rfl, ?_⟩) (by assumption) ?_; rotate_left; (intro w hSw; (try dsimp only at hSw); go_simp; try with_reducible rfl); ((try simp only [zA, zB, zC, Act.put, zD, zE, zF])))
 (refine wpAnyH_take (i := 6) (v := ?_) rfl (by kernel_rfl) (by kernel_rfl) (by kernel_rfl) (fun _ _ _ h => h) (Or.inl ⟨by rfl, ?_⟩) (by assumption) ?_; rotate_left; (intro w hSw; (try dsimp only at hSw); go_simp; try with_reducible rfl); ((try simp only [zA, zB, zC, Act.put, zD, zE, zF])))
 refine wpAnyH_ready (rs := [3]) (by kernel_rfl) (by simp) ?_
 refine AllReadyH.cons rfl (fun K2 hK2 => ?_) AllReadyH.nil
 go_simp
 refine (TextW_any (some ⟨g, 0, none⟩) [5] 1 1 t W5.drew rfl (by omega) (HR5.out.below (Below.refl _ _).drew) (by omega) (by omega)).mono ?_
 rintro e w7 ⟨v7, rfl, ho7, hb7⟩
 have hb57 : Below W5.heap.size W5 w7 := (Below.refl W5.heap.size W5).drew.trans hb7.out
 have HX7 := Lib.hid (HX5.out.below hb57 HX5.out.lt)
 have HS7 := Lib.hid (HS5.out.below hb57 HS5.out.lt)
 have HB7 := Lib.hid (HB5.out.trans (hb57.mono HB5.out.size))
 obtain ⟨A7, n7, c7, rfl, hn7, hc7, hr7, hz7⟩ := own_openZ ho7.out
 clear ho7 hb7 hb57
 go_wp2_with fail
 refine hK2.out _ _ (by (try dsimp only); exact ⟨HX7.out.cell 2, HX7.out.cell 3, HS7.out.cell 0, HS7.out.cell 1⟩) (fun _ => ?_)
 clear hK2 K2
 (try simp only [zA, zB, zC, Act.put, zD, zE, zF])
 refine wpAnyH_ready (rs := [7]) (by kernel_rfl) (by simp) ?_
 refine AllReadyH.cons rfl (fun K2 hK2 => ?_) AllReadyH.nil
 go_simp
 refine (writeKey_any A7 _ n7 c7 yA yn yc kk Ab R nb zb w7 hn7.out (by have h1 := hn7.out; have h2 := ytxt_len' t ht; simp only [List.length_append, List.length_cons, List.length_nil] at h1; omega) hr7.out hz7.out hkn (by have := HYN.out; omega) h1 h8 hyn hnc hnr hncr (by have := HYN.out; omega) ((hR.below HB7.out)) hmay hfit hsz).mono ?_
 rintro e w8 ⟨v8, rfl, ho8, hb8⟩
 have HX8 := Lib.hid (HX7.out.below hb8.out HX7.out.lt)
 have HS8 := Lib.hid (HS7.out.below hb8.out HS7.out.lt)
 have HB8 := Lib.hid (HB7.out.trans (hb8.out.mono HB7.out.size))
 have HO8 := Lib.hid (own_down ho8.out HB7.out.size)
 clear ho8 hb8
 go_wp2_with fail
 refine hK2.out _ _ (by (try dsimp only); exact ⟨HX8.out.cell 2, HX8.out.cell 3, HS8.out.cell 0, HS8.out.cell 1⟩) (fun _ => ?_)
 clear hK2 K2
 (try simp only [zA, zB, zC, Act.put, zD, zE, zF])
 (refine wpAnyH_take (i := 8) (v := ?_) rfl (by kernel_rfl) (by kernel_rfl) (by kernel_rfl) (fun _ _ _ h => h) (Or.inl ⟨by rfl, ?_⟩) (by assumption) ?_; rotate_left; (intro w hSw; (try dsimp only at hSw); go_simp; try with_reducible rfl); ((try simp only [zA, zB, zC, Act.put, zD, zE, zF])))
 (refine wpAnyH_take (i := 9) (v := ?_) rfl (by kernel_rfl) (by kernel_rfl) (by kernel_rfl) (fun _ _ _ h => h) (Or.inl ⟨by rfl, ?_⟩) (by assumption) ?_; rotate_left; (intro w hSw; (try dsimp only at hSw); go_simp; try with_reducible rfl); ((try simp only [zA, zB, zC, Act.put, zD, zE, zF])))
 refine wpAnyH_done (by kernel_rfl) ?_ _
 go_wp2_with fail
 go_ret2
 refine ⟨v8, rfl, ?_, HB8⟩
 have ho := HO8.out
 rw [List.take_of_length_le (by have := HYN.out; omega)] at ho
 exact ho
end Go.Proofs.YtnpmgempkoeapaaGreatDoor
