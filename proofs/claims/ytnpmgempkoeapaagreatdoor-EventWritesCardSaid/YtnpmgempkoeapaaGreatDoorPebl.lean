/-
  Put together, as far as it is used: EwR4.
-/
import Derived.Test.YtnpmgempkoeapaaGreatDoorPebk
set_option linter.unusedVariables false
set_option linter.unusedSimpArgs false
set_option linter.defProp false
namespace Go.Proofs.YtnpmgempkoeapaaGreatDoor
open Go.RowKit Go.Maps Dg
set_option maxRecDepth 100000
theorem OwnC.turR {X : List Nat} {B : Nat} {w w' : World} {v : Value} {L : List Cl} (h : OwnC B w v L) (ht : Tur X w w') (hx : ∀ b ∈ X, b < B) : OwnC B w' v L := by
 rcases h.2 with ⟨hv, hn⟩ | ⟨g, cap, cur, hv, hg, hh, hc, hcm, hsz, htk⟩
 ·exact ⟨h.1, .inl ⟨hv, hn⟩⟩
 ·exact ⟨h.1, .inr ⟨g, cap, cur, hv, hg, Has.tur (t := 29) (cs := cur) hh ht (fun hh => by have := hx g hh; omega), hc, hcm, hsz, htk⟩⟩
theorem eslice_inj {A A' : Option Addr} {n n' c c' : Nat} (h : Value.slice A n c = Value.slice A' n' c') : A = A' ∧ n = n' ∧ c = c' := by
 injection h with h1 h2 h3
 exact ⟨h1, h2, h3⟩
theorem ownC_lo {B : Nat} {w : World} {A : Option Addr} {n c : Nat} {L : List Cl} (h : OwnC B w (.slice A n c) L) : ∀ a, A = some a → B ≤ a.block := by
 rcases h.2 with ⟨hv, _⟩ | ⟨g, cap, cur, hv, hg, _⟩
 ·injection hv with e1
  intro a e
  rw [e1] at e; cases e
 ·injection hv with e1
  intro a e
  rw [e1] at e
  injection e with e
  rw [← e]; exact hg
set_option maxHeartbeats 16000000 in
theorem ralter_1 {D : Nat} (g : Nat) (At : Option Addr) (nt ctt : Nat) (ct : ByteArray) (K : Nat) (L : List Cl) (rest : List Nat) (w : World) (h : RdrD D w g (1 :: (ytxt ct ++ (K :: L.length :: colsD L 0 rest))) 0) (hg : g < D) (hD : D ≤ w.heap.size) (hct : ct.size ≤ 32) (hL : L.length ≤ 16) (hLc : ∀ x ∈ L, x.nm.size ≤ 32 ∧ ∃ k : Nat, x.k = (k : Int) ∧ k < 256) (hl : ∀ x ∈ 1 :: (ytxt ct ++ (K :: L.length :: colsD L 0 rest)), x < 256) (hb : (1 :: (ytxt ct ++ (K :: L.length :: colsD L 0 rest))).length ≤ 1000000) :
 Calls Tryz.prog 74 #[.agg #[.pointer (some ⟨g, 0, none⟩), .slice At nt ctt]] w fun e w' => (∃ A n c, e = .returned (.tuple #[.agg #[.int .i64 0, .int .i64 0, .string ⟨#[]⟩, .slice none 0 0, .slice none 0 0, .int .i64 1, .string ct, .slice A n c, .int .i64 K, .string ⟨#[]⟩, .int .i64 0, .bool false], .int .i64 0]) ∧ Hid (L.length = n) ∧ n ≤ c ∧ c ≤ maxLen ∧ Hid (CRow w' A L) ∧ ∀ a, A = some a → w.heap.size ≤ a.block) ∧ Hid (RdrD D w' g rest 0) ∧ Hid (w.grownBy w' (some g)) := by
 obtain ⟨tl, htl⟩ : ∃ l, l = K :: L.length :: colsD L 0 rest := ⟨_, rfl⟩
 rw [← htl] at h hl hb
 have hl1 : ∀ x ∈ ytxt ct ++ tl, x < 256 := fun x hx => hl x (List.mem_cons_of_mem _ hx)
 have hb1 : (ytxt ct ++ tl).length ≤ 1000000 := by rw [List.length_cons] at hb; omega
 have hl2 : ∀ x ∈ tl, x < 256 := fun x hx => hl1 x (List.mem_append_right _ hx)
 have hb2 : tl.length ≤ 1000000 := by rw [List.length_append] at hb1; omega
 have HK := Lib.hid (fun W (hr : RdrD D W g (1 :: (ytxt ct ++ tl)) 0) => byteD_put g 1 (ytxt ct ++ tl) W hr hl hb)
 have HT := Lib.hid (fun W (hr : RdrD D W g (ytxt ct ++ tl) 0) => txtD_put g 32 ct tl W hr (by omega) (by omega) hl1 hb1)
 obtain ⟨q, hq⟩ : ∃ q, w.heap.size = q := ⟨_, rfl⟩
 obtain ⟨W1, hW1⟩ : ∃ W, (w.alloc (.cells #[.pointer (some ⟨g, 0, none⟩), .slice At nt ctt] 73)).alloc (.cells #[.int .i64 0, .int .i64 0, .string ⟨#[]⟩, .slice none 0 0, .slice none 0 0, .int .i64 0, .string ⟨#[]⟩, .slice none 0 0, .int .i64 0, .string ⟨#[]⟩, .int .i64 0, .bool false] 33) = W := ⟨_, rfl⟩
 have hba : Below w.heap.size w (w.alloc (.cells #[.pointer (some ⟨g, 0, none⟩), .slice At nt ctt] 73)) := (Below.refl _ w).alloc (Nat.le_refl _) _
 have hbb : Below w.heap.size w W1 := by rw [← hW1]; exact hba.alloc (by simp) _
 have hs1 : W1.heap.size = q + 2 := by rw [← hW1]; simp; omega
 have hz0 : q < W1.heap.size := by omega
 have hz1 : q + 1 < W1.heap.size := by omega
 have HX1 : Hid (Has W1 q 73 #[.pointer (some ⟨g, 0, none⟩), .slice At nt ctt]) := by rw [← hW1, ← hq]; exact (Has.new _ _ _).alloc _
 have HQ1 : Hid (Has W1 (q + 1) 33 #[.int .i64 0, .int .i64 0, .string ⟨#[]⟩, .slice none 0 0, .slice none 0 0, .int .i64 0, .string ⟨#[]⟩, .slice none 0 0, .int .i64 0, .string ⟨#[]⟩, .int .i64 0, .bool false]) := by
  have h := Has.new (w.alloc (.cells #[.pointer (some ⟨g, 0, none⟩), .slice At nt ctt] 73)) 33 #[.int .i64 0, .int .i64 0, .string ⟨#[]⟩, .slice none 0 0, .slice none 0 0, .int .i64 0, .string ⟨#[]⟩, .slice none 0 0, .int .i64 0, .string ⟨#[]⟩, .int .i64 0, .bool false]
  rw [World.size_alloc, hq, hW1] at h
  exact h
 have HR1 := Lib.hid (h.keep hg (hbb.mono hD))
 have HG1 := Lib.hid (grn_below (grown_refl w g) hbb)
 have x1 : W1.cell? ⟨q, 0, none⟩ = some (.pointer (some ⟨g, 0, none⟩)) := HX1.out.cell 0
 have x2 : W1.cell? ⟨q, 1, none⟩ = some (.slice At nt ctt) := HX1.out.cell 1
 rw [hq] at hD
 have hgq : g < q := by omega
 clear h hba hbb
 clear hl hb hl1 hb1
 go_enter Tryz.func74, Tryz.ntmps74
 go_wp2_with fail
 clear x1 x2 hW1
 refine (HK.out _ HR1.out).mono ?_
 rintro e w2 ⟨rfl, hr, hg2⟩
 have HX2 := Lib.hid (HX1.out.grn hg2.out (by omega))
 have HQ2 := Lib.hid (HQ1.out.grn hg2.out (by omega))
 have HG2 := Lib.hid (grown_trans HG1.out hg2.out)
 have HR2 := hr
 have hzq_2 : q < w2.heap.size := Nat.lt_of_lt_of_le hz0 hg2.out.size
 have hzqp1_2 : q + 1 < w2.heap.size := Nat.lt_of_lt_of_le hz1 hg2.out.size
 clear HX1 HQ1 HG1 HR1 hz0 hz1 hr hg2
 have HR2 := Lib.hid HR2.out
 obtain ⟨W3, hW3⟩ : ∃ W, W = w2.alloc (.cells #[.int .i64 1, .string ⟨#[]⟩, .slice none 0 0, .int .i64 0, .string ⟨#[]⟩, .int .i64 0, .bool false] 31) := ⟨_, rfl⟩
 have hbl : Below w2.heap.size w2 W3 := by rw [hW3]; exact (Below.refl _ _).alloc (Nat.le_refl _) _
 have hnew : Has W3 w2.heap.size 31 #[.int .i64 1, .string ⟨#[]⟩, .slice none 0 0, .int .i64 0, .string ⟨#[]⟩, .int .i64 0, .bool false] := by rw [hW3]; exact Has.new _ _ _
 have HX3 := Lib.hid (HX2.out.below hbl HX2.out.lt)
 have HQ3 := Lib.hid (HQ2.out.below hbl HQ2.out.lt)
 have HG3 := Lib.hid (grn_below HG2.out hbl)
 have HR3 := Lib.hid (HR2.out.keep hg (hbl.mono (by omega)))
 have hzq_3 : q < W3.heap.size := Nat.lt_of_lt_of_le hzq_2 hbl.size
 have hlt_q_q2 : q < w2.heap.size := hzq_2
 have hzqp1_3 : q + 1 < W3.heap.size := Nat.lt_of_lt_of_le hzqp1_2 hbl.size
 have hlt_qp1_q2 : q + 1 < w2.heap.size := hzqp1_2
 have HC3 := Lib.hid hnew
 have hzq2_3 : w2.heap.size < W3.heap.size := hnew.lt
 clear HX2 HQ2 HG2 HR2 hzq_2 hzqp1_2 hbl hnew
 have x0l : (w2.alloc (.cells #[.int .i64 1, .string ⟨#[]⟩, .slice none 0 0, .int .i64 0, .string ⟨#[]⟩, .int .i64 0, .bool false] 31)).cell? ⟨q, 0, none⟩ = some (.pointer (some ⟨g, 0, none⟩)) := by rw [← hW3]; exact HX3.out.cell 0
 go_wp2_with fail
 clear x0l
 (try rw [← hW3])
 clear hW3
 generalize w2.heap.size = q2 at *
 refine (HT.out _ HR3.out).mono ?_
 rintro e w4 ⟨rfl, hr, hg4⟩
 have HX4 := Lib.hid (HX3.out.grn hg4.out (by omega))
 have HQ4 := Lib.hid (HQ3.out.grn hg4.out (by omega))
 have HC4 := Lib.hid (HC3.out.grn hg4.out (by omega))
 have HG4 := Lib.hid (grown_trans HG3.out hg4.out)
 have HR4 := hr
 have hzq_4 : q < w4.heap.size := Nat.lt_of_lt_of_le hzq_3 hg4.out.size
 have hzqp1_4 : q + 1 < w4.heap.size := Nat.lt_of_lt_of_le hzqp1_3 hg4.out.size
 have hzq2_4 : q2 < w4.heap.size := Nat.lt_of_lt_of_le hzq2_3 hg4.out.size
 clear HX3 HQ3 HC3 HG3 HR3 hzq_3 hzqp1_3 hzq2_3 hr hg4
 have c1w4 : w4.cell? ⟨q2, 1, none⟩ = some (.string ⟨#[]⟩) := HC4.out.cell 1
 have f1w4 : w4.frozen? ⟨q2, 1, none⟩ = false := HC4.out.free 1
 obtain ⟨W5, hW5⟩ : ∃ W, (w4.setCell ⟨q2, 1, none⟩ (.string ct)) = W := ⟨_, rfl⟩
 have HX5 : Hid (Has W5 (q) 73 #[.pointer (some ⟨g, 0, none⟩), .slice At nt ctt]) := by rw [← hW5]; exact (HX4.out.far (p := ⟨q2, 1, none⟩) (by show q ≠ q2; omega) (.string ct))
 have HQ5 : Hid (Has W5 (q + 1) 33 #[.int .i64 0, .int .i64 0, .string ⟨#[]⟩, .slice none 0 0, .slice none 0 0, .int .i64 0, .string ⟨#[]⟩, .slice none 0 0, .int .i64 0, .string ⟨#[]⟩, .int .i64 0, .bool false]) := by rw [← hW5]; exact (HQ4.out.far (p := ⟨q2, 1, none⟩) (by show q + 1 ≠ q2; omega) (.string ct))
 have HC5 : Hid (Has W5 (q2) 31 #[.int .i64 1, .string ct, .slice none 0 0, .int .i64 0, .string ⟨#[]⟩, .int .i64 0, .bool false]) := by rw [← hW5]; exact (HC4.out.put 1 (.string ct))
 have HG5 : Hid (w.grownBy W5 (some g)) := by rw [← hW5]; exact (grn_set HG4.out (p := ⟨q2, 1, none⟩) (by show w.heap.size ≤ q2; omega) (.string ct))
 have HR5 : Hid (RdrD D W5 g (tl) 0) := by rw [← hW5]; exact HR4.out.keep hg ((Below.refl D w4).setCell (p := ⟨q2, 1, none⟩) (by show D ≤ q2; omega) (.string ct))
 have hzq_5 : q < W5.heap.size := by rw [← hW5]; simpa using hzq_4
 have hzqp1_5 : q + 1 < W5.heap.size := by rw [← hW5]; simpa using hzqp1_4
 have hzq2_5 : q2 < W5.heap.size := by rw [← hW5]; simpa using hzq2_4
 clear HX4 HQ4 HC4 HG4 HR4 hzq_4 hzqp1_4 hzq2_4
 have k0W5 : W5.cell? ⟨q2, 0, none⟩ = some (.int .i64 1) := HC5.out.cell 0
 have x0W5 : W5.cell? ⟨q, 0, none⟩ = some (.pointer (some ⟨g, 0, none⟩)) := HX5.out.cell 0
 have x1W5 : W5.cell? ⟨q, 1, none⟩ = some (.slice At nt ctt) := HX5.out.cell 1
 have hr0 := HR5.out
 rw [htl] at hr0 hl2 hb2
 have HSS := Lib.hid (rschema_any g At nt ctt K L rest W5 hr0 hg (by omega) hL hLc hl2 hb2)
 clear hr0
 go_wp2_with fail
 clear hW5 x0W5 x1W5 c1w4 f1w4 k0W5
 refine HSS.out.mono ?_
 rintro e w6 ⟨⟨v6, rfl, ho6⟩, hr, hg6⟩
 have hq25 : q2 + 1 ≤ W5.heap.size := by omega
 have HO6 := Lib.hid (ho6.out.downR hq25)
 obtain ⟨A, n, c, rfl, _⟩ := ownC_open ho6.out
 clear HSS ho6
 have HX6 := Lib.hid (HX5.out.grn hg6.out (by omega))
 have HQ6 := Lib.hid (HQ5.out.grn hg6.out (by omega))
 have HC6 := Lib.hid (HC5.out.grn hg6.out (by omega))
 have HG6 := Lib.hid (grown_trans HG5.out hg6.out)
 have HR6 := hr
 have hzq_6 : q < w6.heap.size := Nat.lt_of_lt_of_le hzq_5 hg6.out.size
 have hzqp1_6 : q + 1 < w6.heap.size := Nat.lt_of_lt_of_le hzqp1_5 hg6.out.size
 have hzq2_6 : q2 < w6.heap.size := Nat.lt_of_lt_of_le hzq2_5 hg6.out.size
 clear HX5 HQ5 HC5 HG5 HR5 hzq_5 hzqp1_5 hzq2_5 hr hg6
 have c2w6 : w6.cell? ⟨q2, 2, none⟩ = some (.slice none 0 0) := HC6.out.cell 2
 have c3w6 : w6.cell? ⟨q2, 3, none⟩ = some (.int .i64 0) := HC6.out.cell 3
 have f2w6 : w6.frozen? ⟨q2, 2, none⟩ = false := HC6.out.free 2
 have f3w6 : w6.frozen? ⟨q2, 3, none⟩ = false := HC6.out.free 3
 obtain ⟨W7, hW7⟩ : ∃ W, ((w6.setCell ⟨q2, 2, none⟩ (.slice A n c)).setCell ⟨q2, 3, none⟩ (.int .i64 K)) = W := ⟨_, rfl⟩
 have HX7 : Hid (Has W7 (q) 73 #[.pointer (some ⟨g, 0, none⟩), .slice At nt ctt]) := by rw [← hW7]; exact ((HX6.out.far (p := ⟨q2, 2, none⟩) (by show q ≠ q2; omega) (.slice A n c)).far (p := ⟨q2, 3, none⟩) (by show q ≠ q2; omega) (.int .i64 K))
 have HQ7 : Hid (Has W7 (q + 1) 33 #[.int .i64 0, .int .i64 0, .string ⟨#[]⟩, .slice none 0 0, .slice none 0 0, .int .i64 0, .string ⟨#[]⟩, .slice none 0 0, .int .i64 0, .string ⟨#[]⟩, .int .i64 0, .bool false]) := by rw [← hW7]; exact ((HQ6.out.far (p := ⟨q2, 2, none⟩) (by show q + 1 ≠ q2; omega) (.slice A n c)).far (p := ⟨q2, 3, none⟩) (by show q + 1 ≠ q2; omega) (.int .i64 K))
 have HC7 : Hid (Has W7 (q2) 31 #[.int .i64 1, .string ct, .slice A n c, .int .i64 K, .string ⟨#[]⟩, .int .i64 0, .bool false]) := by rw [← hW7]; exact ((HC6.out.put 2 (.slice A n c)).put 3 (.int .i64 K))
 have HG7 : Hid (w.grownBy W7 (some g)) := by rw [← hW7]; exact (grn_set (grn_set HG6.out (p := ⟨q2, 2, none⟩) (by show w.heap.size ≤ q2; omega) (.slice A n c)) (p := ⟨q2, 3, none⟩) (by show w.heap.size ≤ q2; omega) (.int .i64 K))
 have HR7 : Hid (RdrD D W7 g (rest) 0) := by rw [← hW7]; exact HR6.out.keep hg (((Below.refl D w6).setCell (p := ⟨q2, 2, none⟩) (by show D ≤ q2; omega) (.slice A n c)).setCell (p := ⟨q2, 3, none⟩) (by show D ≤ q2; omega) (.int .i64 K))
 have hzq_7 : q < W7.heap.size := by rw [← hW7]; simpa using hzq_6
 have hzqp1_7 : q + 1 < W7.heap.size := by rw [← hW7]; simpa using hzqp1_6
 have hzq2_7 : q2 < W7.heap.size := by rw [← hW7]; simpa using hzq2_6
 clear HX6 HQ6 HC6 HG6 HR6 hzq_6 hzqp1_6 hzq2_6
 have HO7 : Hid (OwnC (q2 + 1) W7 (.slice A n c) L) := by rw [← hW7]; exact (HO6.out.setR (p := ⟨q2, 2, none⟩) (by show q2 < q2 + 1; omega) (.slice A n c)).setR (p := ⟨q2, 3, none⟩) (by show q2 < q2 + 1; omega) (.int .i64 K)
 go_wp2_with fail
 clear hW7 HO6 c2w6 c3w6 f2w6 f3w6
 obtain ⟨Wd, hWd⟩ : ∃ X, X = W7.drew := ⟨_, rfl⟩
 have hbd : Below W7.heap.size W7 Wd := by rw [hWd]; exact (Below.refl _ _).drew
 have HX8 := Lib.hid (HX7.out.below hbd HX7.out.lt)
 have HQ8 := Lib.hid (HQ7.out.below hbd HQ7.out.lt)
 have HC8 := Lib.hid (HC7.out.below hbd HC7.out.lt)
 have HG8 := Lib.hid (grn_below HG7.out hbd)
 have HR8 := Lib.hid (HR7.out.keep hg (hbd.mono (by omega)))
 have hzq_8 : q < Wd.heap.size := Nat.lt_of_lt_of_le hzq_7 hbd.size
 have hzqp1_8 : q + 1 < Wd.heap.size := Nat.lt_of_lt_of_le hzqp1_7 hbd.size
 have hzq2_8 : q2 < Wd.heap.size := Nat.lt_of_lt_of_le hzq2_7 hbd.size
 have HOd := Lib.hid (HO7.out.below hbd)
 clear HX7 HQ7 HC7 HG7 HR7 hzq_7 hzqp1_7 hzq2_7
 have hSd : (fun X : World => X.cell? ⟨q2, 0, none⟩ = some (.int .i64 1) ∧ X.cell? ⟨q2, 1, none⟩ = some (.string ct) ∧ X.cell? ⟨q2, 2, none⟩ = some (.slice A n c) ∧ X.cell? ⟨q2, 3, none⟩ = some (.int .i64 K) ∧ X.cell? ⟨q2, 4, none⟩ = some (.string ⟨#[]⟩) ∧ X.cell? ⟨q2, 5, none⟩ = some (.int .i64 0) ∧ X.cell? ⟨q2, 6, none⟩ = some (.bool false)) Wd := ⟨HC8.out.cell 0, HC8.out.cell 1, HC8.out.cell 2, HC8.out.cell 3, HC8.out.cell 4, HC8.out.cell 5, HC8.out.cell 6⟩
 clear hbd
 refine wp_region_held_drew (S := (fun X : World => X.cell? ⟨q2, 0, none⟩ = some (.int .i64 1) ∧ X.cell? ⟨q2, 1, none⟩ = some (.string ct) ∧ X.cell? ⟨q2, 2, none⟩ = some (.slice A n c) ∧ X.cell? ⟨q2, 3, none⟩ = some (.int .i64 K) ∧ X.cell? ⟨q2, 4, none⟩ = some (.string ⟨#[]⟩) ∧ X.cell? ⟨q2, 5, none⟩ = some (.int .i64 0) ∧ X.cell? ⟨q2, 6, none⟩ = some (.bool false))) (by kernel_rfl) (hWd ▸ hSd) (fun _ => ?_)
 rw [← hWd]
 clear hWd
 (refine wpAnyH_take (i := 0) (v := ?_) rfl (by kernel_rfl) (by kernel_rfl) (by kernel_rfl) (fun _ _ _ h => h) (Or.inl ⟨by rfl, ?_⟩) (by assumption) ?_; rotate_left; (intro w hSw; (try dsimp only at hSw); go_simp; try with_reducible rfl); ((try simp only [zA, zB, zC, Act.put, zD, zE, zF])))
 (refine wpAnyH_take (i := 1) (v := ?_) rfl (by kernel_rfl) (by kernel_rfl) (by kernel_rfl) (fun _ _ _ h => h) (Or.inl ⟨by rfl, ?_⟩) (by assumption) ?_; rotate_left; (intro w hSw; (try dsimp only at hSw); go_simp; try with_reducible rfl); ((try simp only [zA, zB, zC, Act.put, zD, zE, zF])))
 (refine wpAnyH_take (i := 2) (v := ?_) rfl (by kernel_rfl) (by kernel_rfl) (by kernel_rfl) (fun _ _ _ h => h) (Or.inl ⟨by rfl, ?_⟩) (by assumption) ?_; rotate_left; (intro w hSw; (try dsimp only at hSw); go_simp; try with_reducible rfl); ((try simp only [zA, zB, zC, Act.put, zD, zE, zF])))
 refine wpAnyH_ready (rs := [3]) (by kernel_rfl) (by simp) ?_
 refine AllReadyH.cons rfl (fun K2 hK2 => ?_) AllReadyH.nil
 go_simp
 refine (form_any true Wd).mono ?_
 rintro e wx ⟨rfl, hwx⟩
 obtain rfl : Wd = wx := hwx.symm
 go_wp2_with fail
 refine hK2.out _ _ (by (try dsimp only); exact ⟨HC8.out.cell 0, HC8.out.cell 1, HC8.out.cell 2, HC8.out.cell 3, HC8.out.cell 4, HC8.out.cell 5, HC8.out.cell 6⟩) (fun _ => ?_)
 clear hK2 K2
 (try simp only [zA, zB, zC, Act.put, zD, zE, zF])
 obtain ⟨g0, g1, g2, g3, g4, g5, g6, g7, g8, g9, g10, g11, f0, f1, f2, f3, f4, f5, f6, f7, f8, f9, f10, f11⟩ := allE HQ8.out
 refine wpAnyH_ready (rs := [4]) (by kernel_rfl) (by simp) ?_
 refine AllReadyH.cons rfl (fun K2 hK2 => ?_) AllReadyH.nil
 go_simp
 have HP : Hid (Has (put12 Wd (q + 1) (.int .i64 0) (.int .i64 0) (.string ⟨#[]⟩) (.slice none 0 0) (.slice none 0 0) (.int .i64 1) (.string ct) (.slice A n c) (.int .i64 K) (.string ⟨#[]⟩) (.int .i64 0) (.bool false)) (q + 1) 33 #[.int .i64 0, .int .i64 0, .string ⟨#[]⟩, .slice none 0 0, .slice none 0 0, .int .i64 1, .string ct, .slice A n c, .int .i64 K, .string ⟨#[]⟩, .int .i64 0, .bool false]) := put12_has HQ8.out (.int .i64 0) (.int .i64 0) (.string ⟨#[]⟩) (.slice none 0 0) (.slice none 0 0) (.int .i64 1) (.string ct) (.slice A n c) (.int .i64 K) (.string ⟨#[]⟩) (.int .i64 0) (.bool false)
 clear f0 g0 f1 g1 f2 g2 f3 g3 f4 g4 f5 g5 f6 g6 f7 g7 f8 g8 f9 g9 f10 g10 f11 g11
 have ht := put12_tur Wd (q + 1) (.int .i64 0) (.int .i64 0) (.string ⟨#[]⟩) (.slice none 0 0) (.slice none 0 0) (.int .i64 1) (.string ct) (.slice A n c) (.int .i64 K) (.string ⟨#[]⟩) (.int .i64 0) (.bool false)
 have hput : put12 Wd (q + 1) (.int .i64 0) (.int .i64 0) (.string ⟨#[]⟩) (.slice none 0 0) (.slice none 0 0) (.int .i64 1) (.string ct) (.slice A n c) (.int .i64 K) (.string ⟨#[]⟩) (.int .i64 0) (.bool false) = ((((((((((((Wd.setCell ⟨q + 1, 0, none⟩ (.int .i64 0)).setCell ⟨q + 1, 1, none⟩ (.int .i64 0)).setCell ⟨q + 1, 2, none⟩ (.string ⟨#[]⟩)).setCell ⟨q + 1, 3, none⟩ (.slice none 0 0)).setCell ⟨q + 1, 4, none⟩ (.slice none 0 0)).setCell ⟨q + 1, 5, none⟩ (.int .i64 1)).setCell ⟨q + 1, 6, none⟩ (.string ct)).setCell ⟨q + 1, 7, none⟩ (.slice A n c)).setCell ⟨q + 1, 8, none⟩ (.int .i64 K)).setCell ⟨q + 1, 9, none⟩ (.string ⟨#[]⟩)).setCell ⟨q + 1, 10, none⟩ (.int .i64 0)).setCell ⟨q + 1, 11, none⟩ (.bool false)) := rfl
 rw [← hput]
 clear hput
 generalize put12 Wd (q + 1) (.int .i64 0) (.int .i64 0) (.string ⟨#[]⟩) (.slice none 0 0) (.slice none 0 0) (.int .i64 1) (.string ct) (.slice A n c) (.int .i64 K) (.string ⟨#[]⟩) (.int .i64 0) (.bool false) = P5 at HP ht ⊢
 have HX8P := Lib.hid (HX8.out.tur ht (by simp only [List.mem_singleton]; omega))
 have HC8P := Lib.hid (HC8.out.tur ht (by simp only [List.mem_singleton]; omega))
 have hbP : Below (q + 1) Wd P5 := ht.below (fun k hk => by simp at hk; omega) (by omega)
 refine hK2.out _ _ (by (try dsimp only); exact ⟨HC8P.out.cell 0, HC8P.out.cell 1, HC8P.out.cell 2, HC8P.out.cell 3, HC8P.out.cell 4, HC8P.out.cell 5, HC8P.out.cell 6⟩) (fun _ => ?_)
 clear hK2 K2
 (try simp only [zA, zB, zC, Act.put, zD, zE, zF])
 (refine wpAnyH_take (i := 5) (v := ?_) rfl (by kernel_rfl) (by kernel_rfl) (by kernel_rfl) (fun _ _ _ h => h) (Or.inl ⟨by rfl, ?_⟩) (by assumption) ?_; rotate_left; (intro w hSw; (try dsimp only at hSw); go_simp; try with_reducible rfl); ((try simp only [zA, zB, zC, Act.put, zD, zE, zF])))
 refine wpAnyH_done (by kernel_rfl) ?_ _
 go_wp2_with fail
 obtain ⟨A9, n9, c9, e9, hn9, hc9, hm9, hr9, _⟩ := ownC_open (HOd.out.turR ht (fun b hb => by rw [List.mem_singleton.1 hb]; omega))
 obtain ⟨rfl, rfl, rfl⟩ := eslice_inj e9
 exact bodyPost_ret (evEndR rfl _ (q + 1) _ _ _ _ _ _ _ _ _ _ _ _ _ rfl HP.out) rfl ⟨⟨_, _, _, rfl, hn9, hc9, hm9, hr9, fun a ea => by have := ownC_lo HOd.out a ea; omega⟩, HR8.out.keep hg (hbP.mono (by omega)), grn_lowB HG8.out hbP (by omega) (by omega)⟩
set_option maxHeartbeats 16000000 in
theorem ralter_2 {D : Nat} (g : Nat) (At : Option Addr) (nt ctt : Nat) (ct : ByteArray)  (rest : List Nat) (w : World) (h : RdrD D w g (2 :: (ytxt ct ++ (rest))) 0) (hg : g < D) (hD : D ≤ w.heap.size) (hct : ct.size ≤ 32)  (hl : ∀ x ∈ 2 :: (ytxt ct ++ (rest)), x < 256) (hb : (2 :: (ytxt ct ++ (rest))).length ≤ 1000000) :
 Calls Tryz.prog 74 #[.agg #[.pointer (some ⟨g, 0, none⟩), .slice At nt ctt]] w fun e w' => e = .returned (.tuple #[.agg #[.int .i64 0, .int .i64 0, .string ⟨#[]⟩, .slice none 0 0, .slice none 0 0, .int .i64 2, .string ct, .slice none 0 0, .int .i64 0, .string ⟨#[]⟩, .int .i64 0, .bool false], .int .i64 0]) ∧ Hid (RdrD D w' g rest 0) ∧ Hid (w.grownBy w' (some g)) := by
 obtain ⟨tl, htl⟩ : ∃ l, l = rest := ⟨_, rfl⟩
 rw [← htl] at h hl hb
 have hl1 : ∀ x ∈ ytxt ct ++ tl, x < 256 := fun x hx => hl x (List.mem_cons_of_mem _ hx)
 have hb1 : (ytxt ct ++ tl).length ≤ 1000000 := by rw [List.length_cons] at hb; omega
 have hl2 : ∀ x ∈ tl, x < 256 := fun x hx => hl1 x (List.mem_append_right _ hx)
 have hb2 : tl.length ≤ 1000000 := by rw [List.length_append] at hb1; omega
 have HK := Lib.hid (fun W (hr : RdrD D W g (2 :: (ytxt ct ++ tl)) 0) => byteD_put g 2 (ytxt ct ++ tl) W hr hl hb)
 have HT := Lib.hid (fun W (hr : RdrD D W g (ytxt ct ++ tl) 0) => txtD_put g 32 ct tl W hr (by omega) (by omega) hl1 hb1)
 obtain ⟨q, hq⟩ : ∃ q, w.heap.size = q := ⟨_, rfl⟩
 obtain ⟨W1, hW1⟩ : ∃ W, (w.alloc (.cells #[.pointer (some ⟨g, 0, none⟩), .slice At nt ctt] 73)).alloc (.cells #[.int .i64 0, .int .i64 0, .string ⟨#[]⟩, .slice none 0 0, .slice none 0 0, .int .i64 0, .string ⟨#[]⟩, .slice none 0 0, .int .i64 0, .string ⟨#[]⟩, .int .i64 0, .bool false] 33) = W := ⟨_, rfl⟩
 have hba : Below w.heap.size w (w.alloc (.cells #[.pointer (some ⟨g, 0, none⟩), .slice At nt ctt] 73)) := (Below.refl _ w).alloc (Nat.le_refl _) _
 have hbb : Below w.heap.size w W1 := by rw [← hW1]; exact hba.alloc (by simp) _
 have hs1 : W1.heap.size = q + 2 := by rw [← hW1]; simp; omega
 have hz0 : q < W1.heap.size := by omega
 have hz1 : q + 1 < W1.heap.size := by omega
 have HX1 : Hid (Has W1 q 73 #[.pointer (some ⟨g, 0, none⟩), .slice At nt ctt]) := by rw [← hW1, ← hq]; exact (Has.new _ _ _).alloc _
 have HQ1 : Hid (Has W1 (q + 1) 33 #[.int .i64 0, .int .i64 0, .string ⟨#[]⟩, .slice none 0 0, .slice none 0 0, .int .i64 0, .string ⟨#[]⟩, .slice none 0 0, .int .i64 0, .string ⟨#[]⟩, .int .i64 0, .bool false]) := by
  have h := Has.new (w.alloc (.cells #[.pointer (some ⟨g, 0, none⟩), .slice At nt ctt] 73)) 33 #[.int .i64 0, .int .i64 0, .string ⟨#[]⟩, .slice none 0 0, .slice none 0 0, .int .i64 0, .string ⟨#[]⟩, .slice none 0 0, .int .i64 0, .string ⟨#[]⟩, .int .i64 0, .bool false]
  rw [World.size_alloc, hq, hW1] at h
  exact h
 have HR1 := Lib.hid (h.keep hg (hbb.mono hD))
 have HG1 := Lib.hid (grn_below (grown_refl w g) hbb)
 have x1 : W1.cell? ⟨q, 0, none⟩ = some (.pointer (some ⟨g, 0, none⟩)) := HX1.out.cell 0
 have x2 : W1.cell? ⟨q, 1, none⟩ = some (.slice At nt ctt) := HX1.out.cell 1
 rw [hq] at hD
 have hgq : g < q := by omega
 clear h hba hbb
 clear hl hb hl1 hb1
 go_enter Tryz.func74, Tryz.ntmps74
 go_wp2_with fail
 clear x1 x2 hW1
 refine (HK.out _ HR1.out).mono ?_
 rintro e w2 ⟨rfl, hr, hg2⟩
 have HX2 := Lib.hid (HX1.out.grn hg2.out (by omega))
 have HQ2 := Lib.hid (HQ1.out.grn hg2.out (by omega))
 have HG2 := Lib.hid (grown_trans HG1.out hg2.out)
 have HR2 := hr
 have hzq_2 : q < w2.heap.size := Nat.lt_of_lt_of_le hz0 hg2.out.size
 have hzqp1_2 : q + 1 < w2.heap.size := Nat.lt_of_lt_of_le hz1 hg2.out.size
 clear HX1 HQ1 HG1 HR1 hz0 hz1 hr hg2
 have HR2 := Lib.hid HR2.out
 obtain ⟨W3, hW3⟩ : ∃ W, W = w2.alloc (.cells #[.int .i64 2, .string ⟨#[]⟩, .slice none 0 0, .int .i64 0, .string ⟨#[]⟩, .int .i64 0, .bool false] 31) := ⟨_, rfl⟩
 have hbl : Below w2.heap.size w2 W3 := by rw [hW3]; exact (Below.refl _ _).alloc (Nat.le_refl _) _
 have hnew : Has W3 w2.heap.size 31 #[.int .i64 2, .string ⟨#[]⟩, .slice none 0 0, .int .i64 0, .string ⟨#[]⟩, .int .i64 0, .bool false] := by rw [hW3]; exact Has.new _ _ _
 have HX3 := Lib.hid (HX2.out.below hbl HX2.out.lt)
 have HQ3 := Lib.hid (HQ2.out.below hbl HQ2.out.lt)
 have HG3 := Lib.hid (grn_below HG2.out hbl)
 have HR3 := Lib.hid (HR2.out.keep hg (hbl.mono (by omega)))
 have hzq_3 : q < W3.heap.size := Nat.lt_of_lt_of_le hzq_2 hbl.size
 have hlt_q_q2 : q < w2.heap.size := hzq_2
 have hzqp1_3 : q + 1 < W3.heap.size := Nat.lt_of_lt_of_le hzqp1_2 hbl.size
 have hlt_qp1_q2 : q + 1 < w2.heap.size := hzqp1_2
 have HC3 := Lib.hid hnew
 have hzq2_3 : w2.heap.size < W3.heap.size := hnew.lt
 clear HX2 HQ2 HG2 HR2 hzq_2 hzqp1_2 hbl hnew
 have x0l : (w2.alloc (.cells #[.int .i64 2, .string ⟨#[]⟩, .slice none 0 0, .int .i64 0, .string ⟨#[]⟩, .int .i64 0, .bool false] 31)).cell? ⟨q, 0, none⟩ = some (.pointer (some ⟨g, 0, none⟩)) := by rw [← hW3]; exact HX3.out.cell 0
 go_wp2_with fail
 clear x0l
 (try rw [← hW3])
 clear hW3
 generalize w2.heap.size = q2 at *
 refine (HT.out _ HR3.out).mono ?_
 rintro e w4 ⟨rfl, hr, hg4⟩
 have HX4 := Lib.hid (HX3.out.grn hg4.out (by omega))
 have HQ4 := Lib.hid (HQ3.out.grn hg4.out (by omega))
 have HC4 := Lib.hid (HC3.out.grn hg4.out (by omega))
 have HG4 := Lib.hid (grown_trans HG3.out hg4.out)
 have HR4 := hr
 have hzq_4 : q < w4.heap.size := Nat.lt_of_lt_of_le hzq_3 hg4.out.size
 have hzqp1_4 : q + 1 < w4.heap.size := Nat.lt_of_lt_of_le hzqp1_3 hg4.out.size
 have hzq2_4 : q2 < w4.heap.size := Nat.lt_of_lt_of_le hzq2_3 hg4.out.size
 clear HX3 HQ3 HC3 HG3 HR3 hzq_3 hzqp1_3 hzq2_3 hr hg4
 have c1w4 : w4.cell? ⟨q2, 1, none⟩ = some (.string ⟨#[]⟩) := HC4.out.cell 1
 have f1w4 : w4.frozen? ⟨q2, 1, none⟩ = false := HC4.out.free 1
 obtain ⟨W5, hW5⟩ : ∃ W, (w4.setCell ⟨q2, 1, none⟩ (.string ct)) = W := ⟨_, rfl⟩
 have HX5 : Hid (Has W5 (q) 73 #[.pointer (some ⟨g, 0, none⟩), .slice At nt ctt]) := by rw [← hW5]; exact (HX4.out.far (p := ⟨q2, 1, none⟩) (by show q ≠ q2; omega) (.string ct))
 have HQ5 : Hid (Has W5 (q + 1) 33 #[.int .i64 0, .int .i64 0, .string ⟨#[]⟩, .slice none 0 0, .slice none 0 0, .int .i64 0, .string ⟨#[]⟩, .slice none 0 0, .int .i64 0, .string ⟨#[]⟩, .int .i64 0, .bool false]) := by rw [← hW5]; exact (HQ4.out.far (p := ⟨q2, 1, none⟩) (by show q + 1 ≠ q2; omega) (.string ct))
 have HC5 : Hid (Has W5 (q2) 31 #[.int .i64 2, .string ct, .slice none 0 0, .int .i64 0, .string ⟨#[]⟩, .int .i64 0, .bool false]) := by rw [← hW5]; exact (HC4.out.put 1 (.string ct))
 have HG5 : Hid (w.grownBy W5 (some g)) := by rw [← hW5]; exact (grn_set HG4.out (p := ⟨q2, 1, none⟩) (by show w.heap.size ≤ q2; omega) (.string ct))
 have HR5 : Hid (RdrD D W5 g (tl) 0) := by rw [← hW5]; exact HR4.out.keep hg ((Below.refl D w4).setCell (p := ⟨q2, 1, none⟩) (by show D ≤ q2; omega) (.string ct))
 have hzq_5 : q < W5.heap.size := by rw [← hW5]; simpa using hzq_4
 have hzqp1_5 : q + 1 < W5.heap.size := by rw [← hW5]; simpa using hzqp1_4
 have hzq2_5 : q2 < W5.heap.size := by rw [← hW5]; simpa using hzq2_4
 clear HX4 HQ4 HC4 HG4 HR4 hzq_4 hzqp1_4 hzq2_4
 have k0W5 : W5.cell? ⟨q2, 0, none⟩ = some (.int .i64 2) := HC5.out.cell 0
 go_wp2_with fail
 clear hW5 c1w4 f1w4 k0W5
 have hlr : tl = rest := htl
 rw [hlr] at HR5
 obtain ⟨Wd, hWd⟩ : ∃ X, X = W5.drew := ⟨_, rfl⟩
 have hbd : Below W5.heap.size W5 Wd := by rw [hWd]; exact (Below.refl _ _).drew
 have HX6 := Lib.hid (HX5.out.below hbd HX5.out.lt)
 have HQ6 := Lib.hid (HQ5.out.below hbd HQ5.out.lt)
 have HC6 := Lib.hid (HC5.out.below hbd HC5.out.lt)
 have HG6 := Lib.hid (grn_below HG5.out hbd)
 have HR6 := Lib.hid (HR5.out.keep hg (hbd.mono (by omega)))
 have hzq_6 : q < Wd.heap.size := Nat.lt_of_lt_of_le hzq_5 hbd.size
 have hzqp1_6 : q + 1 < Wd.heap.size := Nat.lt_of_lt_of_le hzqp1_5 hbd.size
 have hzq2_6 : q2 < Wd.heap.size := Nat.lt_of_lt_of_le hzq2_5 hbd.size
 clear HX5 HQ5 HC5 HG5 HR5 hzq_5 hzqp1_5 hzq2_5
 have hSd : (fun X : World => X.cell? ⟨q2, 0, none⟩ = some (.int .i64 2) ∧ X.cell? ⟨q2, 1, none⟩ = some (.string ct) ∧ X.cell? ⟨q2, 2, none⟩ = some (.slice none 0 0) ∧ X.cell? ⟨q2, 3, none⟩ = some (.int .i64 0) ∧ X.cell? ⟨q2, 4, none⟩ = some (.string ⟨#[]⟩) ∧ X.cell? ⟨q2, 5, none⟩ = some (.int .i64 0) ∧ X.cell? ⟨q2, 6, none⟩ = some (.bool false)) Wd := ⟨HC6.out.cell 0, HC6.out.cell 1, HC6.out.cell 2, HC6.out.cell 3, HC6.out.cell 4, HC6.out.cell 5, HC6.out.cell 6⟩
 clear hbd
 refine wp_region_held_drew (S := (fun X : World => X.cell? ⟨q2, 0, none⟩ = some (.int .i64 2) ∧ X.cell? ⟨q2, 1, none⟩ = some (.string ct) ∧ X.cell? ⟨q2, 2, none⟩ = some (.slice none 0 0) ∧ X.cell? ⟨q2, 3, none⟩ = some (.int .i64 0) ∧ X.cell? ⟨q2, 4, none⟩ = some (.string ⟨#[]⟩) ∧ X.cell? ⟨q2, 5, none⟩ = some (.int .i64 0) ∧ X.cell? ⟨q2, 6, none⟩ = some (.bool false))) (by kernel_rfl) (hWd ▸ hSd) (fun _ => ?_)
 rw [← hWd]
 clear hWd
 (refine wpAnyH_take (i := 0) (v := ?_) rfl (by kernel_rfl) (by kernel_rfl) (by kernel_rfl) (fun _ _ _ h => h) (Or.inl ⟨by rfl, ?_⟩) (by assumption) ?_; rotate_left; (intro w hSw; (try dsimp only at hSw); go_simp; try with_reducible rfl); ((try simp only [zA, zB, zC, Act.put, zD, zE, zF])))
 (refine wpAnyH_take (i := 1) (v := ?_) rfl (by kernel_rfl) (by kernel_rfl) (by kernel_rfl) (fun _ _ _ h => h) (Or.inl ⟨by rfl, ?_⟩) (by assumption) ?_; rotate_left; (intro w hSw; (try dsimp only at hSw); go_simp; try with_reducible rfl); ((try simp only [zA, zB, zC, Act.put, zD, zE, zF])))
 (refine wpAnyH_take (i := 2) (v := ?_) rfl (by kernel_rfl) (by kernel_rfl) (by kernel_rfl) (fun _ _ _ h => h) (Or.inl ⟨by rfl, ?_⟩) (by assumption) ?_; rotate_left; (intro w hSw; (try dsimp only at hSw); go_simp; try with_reducible rfl); ((try simp only [zA, zB, zC, Act.put, zD, zE, zF])))
 refine wpAnyH_ready (rs := [3]) (by kernel_rfl) (by simp) ?_
 refine AllReadyH.cons rfl (fun K2 hK2 => ?_) AllReadyH.nil
 go_simp
 refine (form_any true Wd).mono ?_
 rintro e wx ⟨rfl, hwx⟩
 obtain rfl : Wd = wx := hwx.symm
 go_wp2_with fail
 refine hK2.out _ _ (by (try dsimp only); exact ⟨HC6.out.cell 0, HC6.out.cell 1, HC6.out.cell 2, HC6.out.cell 3, HC6.out.cell 4, HC6.out.cell 5, HC6.out.cell 6⟩) (fun _ => ?_)
 clear hK2 K2
 (try simp only [zA, zB, zC, Act.put, zD, zE, zF])
 obtain ⟨g0, g1, g2, g3, g4, g5, g6, g7, g8, g9, g10, g11, f0, f1, f2, f3, f4, f5, f6, f7, f8, f9, f10, f11⟩ := allE HQ6.out
 refine wpAnyH_ready (rs := [4]) (by kernel_rfl) (by simp) ?_
 refine AllReadyH.cons rfl (fun K2 hK2 => ?_) AllReadyH.nil
 go_simp
 have HP : Hid (Has (put12 Wd (q + 1) (.int .i64 0) (.int .i64 0) (.string ⟨#[]⟩) (.slice none 0 0) (.slice none 0 0) (.int .i64 2) (.string ct) (.slice none 0 0) (.int .i64 0) (.string ⟨#[]⟩) (.int .i64 0) (.bool false)) (q + 1) 33 #[.int .i64 0, .int .i64 0, .string ⟨#[]⟩, .slice none 0 0, .slice none 0 0, .int .i64 2, .string ct, .slice none 0 0, .int .i64 0, .string ⟨#[]⟩, .int .i64 0, .bool false]) := put12_has HQ6.out (.int .i64 0) (.int .i64 0) (.string ⟨#[]⟩) (.slice none 0 0) (.slice none 0 0) (.int .i64 2) (.string ct) (.slice none 0 0) (.int .i64 0) (.string ⟨#[]⟩) (.int .i64 0) (.bool false)
 clear f0 g0 f1 g1 f2 g2 f3 g3 f4 g4 f5 g5 f6 g6 f7 g7 f8 g8 f9 g9 f10 g10 f11 g11
 have ht := put12_tur Wd (q + 1) (.int .i64 0) (.int .i64 0) (.string ⟨#[]⟩) (.slice none 0 0) (.slice none 0 0) (.int .i64 2) (.string ct) (.slice none 0 0) (.int .i64 0) (.string ⟨#[]⟩) (.int .i64 0) (.bool false)
 have hput : put12 Wd (q + 1) (.int .i64 0) (.int .i64 0) (.string ⟨#[]⟩) (.slice none 0 0) (.slice none 0 0) (.int .i64 2) (.string ct) (.slice none 0 0) (.int .i64 0) (.string ⟨#[]⟩) (.int .i64 0) (.bool false) = ((((((((((((Wd.setCell ⟨q + 1, 0, none⟩ (.int .i64 0)).setCell ⟨q + 1, 1, none⟩ (.int .i64 0)).setCell ⟨q + 1, 2, none⟩ (.string ⟨#[]⟩)).setCell ⟨q + 1, 3, none⟩ (.slice none 0 0)).setCell ⟨q + 1, 4, none⟩ (.slice none 0 0)).setCell ⟨q + 1, 5, none⟩ (.int .i64 2)).setCell ⟨q + 1, 6, none⟩ (.string ct)).setCell ⟨q + 1, 7, none⟩ (.slice none 0 0)).setCell ⟨q + 1, 8, none⟩ (.int .i64 0)).setCell ⟨q + 1, 9, none⟩ (.string ⟨#[]⟩)).setCell ⟨q + 1, 10, none⟩ (.int .i64 0)).setCell ⟨q + 1, 11, none⟩ (.bool false)) := rfl
 rw [← hput]
 clear hput
 generalize put12 Wd (q + 1) (.int .i64 0) (.int .i64 0) (.string ⟨#[]⟩) (.slice none 0 0) (.slice none 0 0) (.int .i64 2) (.string ct) (.slice none 0 0) (.int .i64 0) (.string ⟨#[]⟩) (.int .i64 0) (.bool false) = P5 at HP ht ⊢
 have HX6P := Lib.hid (HX6.out.tur ht (by simp only [List.mem_singleton]; omega))
 have HC6P := Lib.hid (HC6.out.tur ht (by simp only [List.mem_singleton]; omega))
 have hbP : Below (q + 1) Wd P5 := ht.below (fun k hk => by simp at hk; omega) (by omega)
 refine hK2.out _ _ (by (try dsimp only); exact ⟨HC6P.out.cell 0, HC6P.out.cell 1, HC6P.out.cell 2, HC6P.out.cell 3, HC6P.out.cell 4, HC6P.out.cell 5, HC6P.out.cell 6⟩) (fun _ => ?_)
 clear hK2 K2
 (try simp only [zA, zB, zC, Act.put, zD, zE, zF])
 (refine wpAnyH_take (i := 5) (v := ?_) rfl (by kernel_rfl) (by kernel_rfl) (by kernel_rfl) (fun _ _ _ h => h) (Or.inl ⟨by rfl, ?_⟩) (by assumption) ?_; rotate_left; (intro w hSw; (try dsimp only at hSw); go_simp; try with_reducible rfl); ((try simp only [zA, zB, zC, Act.put, zD, zE, zF])))
 refine wpAnyH_done (by kernel_rfl) ?_ _
 go_wp2_with fail
 exact bodyPost_ret (evEndR rfl _ (q + 1) _ _ _ _ _ _ _ _ _ _ _ _ _ rfl HP.out) rfl ⟨rfl, HR6.out.keep hg (hbP.mono (by omega)), grn_lowB HG6.out hbP (by omega) (by omega)⟩
set_option maxHeartbeats 16000000 in
theorem ralter_3 {D : Nat} (g : Nat) (At : Option Addr) (nt ctt : Nat) (ct : ByteArray) (cn : ByteArray) (cq : Nat) (cb : Bool) (rest : List Nat) (w : World) (h : RdrD D w g (3 :: (ytxt ct ++ (colB cn cq cb ++ rest))) 0) (hg : g < D) (hD : D ≤ w.heap.size) (hct : ct.size ≤ 32) (hn : cn.size ≤ 32) (hl : ∀ x ∈ 3 :: (ytxt ct ++ (colB cn cq cb ++ rest)), x < 256) (hb : (3 :: (ytxt ct ++ (colB cn cq cb ++ rest))).length ≤ 1000000) :
 Calls Tryz.prog 74 #[.agg #[.pointer (some ⟨g, 0, none⟩), .slice At nt ctt]] w fun e w' => e = .returned (.tuple #[.agg #[.int .i64 0, .int .i64 0, .string ⟨#[]⟩, .slice none 0 0, .slice none 0 0, .int .i64 3, .string ct, .slice none 0 0, .int .i64 0, .string cn, .int .i64 cq, .bool cb], .int .i64 0]) ∧ Hid (RdrD D w' g rest 0) ∧ Hid (w.grownBy w' (some g)) := by
 obtain ⟨tl, htl⟩ : ∃ l, l = colB cn cq cb ++ rest := ⟨_, rfl⟩
 rw [← htl] at h hl hb
 have hl1 : ∀ x ∈ ytxt ct ++ tl, x < 256 := fun x hx => hl x (List.mem_cons_of_mem _ hx)
 have hb1 : (ytxt ct ++ tl).length ≤ 1000000 := by rw [List.length_cons] at hb; omega
 have hl2 : ∀ x ∈ tl, x < 256 := fun x hx => hl1 x (List.mem_append_right _ hx)
 have hb2 : tl.length ≤ 1000000 := by rw [List.length_append] at hb1; omega
 have HK := Lib.hid (fun W (hr : RdrD D W g (3 :: (ytxt ct ++ tl)) 0) => byteD_put g 3 (ytxt ct ++ tl) W hr hl hb)
 have HT := Lib.hid (fun W (hr : RdrD D W g (ytxt ct ++ tl) 0) => txtD_put g 32 ct tl W hr (by omega) (by omega) hl1 hb1)
 obtain ⟨q, hq⟩ : ∃ q, w.heap.size = q := ⟨_, rfl⟩
 obtain ⟨W1, hW1⟩ : ∃ W, (w.alloc (.cells #[.pointer (some ⟨g, 0, none⟩), .slice At nt ctt] 73)).alloc (.cells #[.int .i64 0, .int .i64 0, .string ⟨#[]⟩, .slice none 0 0, .slice none 0 0, .int .i64 0, .string ⟨#[]⟩, .slice none 0 0, .int .i64 0, .string ⟨#[]⟩, .int .i64 0, .bool false] 33) = W := ⟨_, rfl⟩
 have hba : Below w.heap.size w (w.alloc (.cells #[.pointer (some ⟨g, 0, none⟩), .slice At nt ctt] 73)) := (Below.refl _ w).alloc (Nat.le_refl _) _
 have hbb : Below w.heap.size w W1 := by rw [← hW1]; exact hba.alloc (by simp) _
 have hs1 : W1.heap.size = q + 2 := by rw [← hW1]; simp; omega
 have hz0 : q < W1.heap.size := by omega
 have hz1 : q + 1 < W1.heap.size := by omega
 have HX1 : Hid (Has W1 q 73 #[.pointer (some ⟨g, 0, none⟩), .slice At nt ctt]) := by rw [← hW1, ← hq]; exact (Has.new _ _ _).alloc _
 have HQ1 : Hid (Has W1 (q + 1) 33 #[.int .i64 0, .int .i64 0, .string ⟨#[]⟩, .slice none 0 0, .slice none 0 0, .int .i64 0, .string ⟨#[]⟩, .slice none 0 0, .int .i64 0, .string ⟨#[]⟩, .int .i64 0, .bool false]) := by
  have h := Has.new (w.alloc (.cells #[.pointer (some ⟨g, 0, none⟩), .slice At nt ctt] 73)) 33 #[.int .i64 0, .int .i64 0, .string ⟨#[]⟩, .slice none 0 0, .slice none 0 0, .int .i64 0, .string ⟨#[]⟩, .slice none 0 0, .int .i64 0, .string ⟨#[]⟩, .int .i64 0, .bool false]
  rw [World.size_alloc, hq, hW1] at h
  exact h
 have HR1 := Lib.hid (h.keep hg (hbb.mono hD))
 have HG1 := Lib.hid (grn_below (grown_refl w g) hbb)
 have x1 : W1.cell? ⟨q, 0, none⟩ = some (.pointer (some ⟨g, 0, none⟩)) := HX1.out.cell 0
 have x2 : W1.cell? ⟨q, 1, none⟩ = some (.slice At nt ctt) := HX1.out.cell 1
 rw [hq] at hD
 have hgq : g < q := by omega
 clear h hba hbb
 clear hl hb hl1 hb1
 go_enter Tryz.func74, Tryz.ntmps74
 go_wp2_with fail
 clear x1 x2 hW1
 refine (HK.out _ HR1.out).mono ?_
 rintro e w2 ⟨rfl, hr, hg2⟩
 have HX2 := Lib.hid (HX1.out.grn hg2.out (by omega))
 have HQ2 := Lib.hid (HQ1.out.grn hg2.out (by omega))
 have HG2 := Lib.hid (grown_trans HG1.out hg2.out)
 have HR2 := hr
 have hzq_2 : q < w2.heap.size := Nat.lt_of_lt_of_le hz0 hg2.out.size
 have hzqp1_2 : q + 1 < w2.heap.size := Nat.lt_of_lt_of_le hz1 hg2.out.size
 clear HX1 HQ1 HG1 HR1 hz0 hz1 hr hg2
 have HR2 := Lib.hid HR2.out
 obtain ⟨W3, hW3⟩ : ∃ W, W = w2.alloc (.cells #[.int .i64 3, .string ⟨#[]⟩, .slice none 0 0, .int .i64 0, .string ⟨#[]⟩, .int .i64 0, .bool false] 31) := ⟨_, rfl⟩
 have hbl : Below w2.heap.size w2 W3 := by rw [hW3]; exact (Below.refl _ _).alloc (Nat.le_refl _) _
 have hnew : Has W3 w2.heap.size 31 #[.int .i64 3, .string ⟨#[]⟩, .slice none 0 0, .int .i64 0, .string ⟨#[]⟩, .int .i64 0, .bool false] := by rw [hW3]; exact Has.new _ _ _
 have HX3 := Lib.hid (HX2.out.below hbl HX2.out.lt)
 have HQ3 := Lib.hid (HQ2.out.below hbl HQ2.out.lt)
 have HG3 := Lib.hid (grn_below HG2.out hbl)
 have HR3 := Lib.hid (HR2.out.keep hg (hbl.mono (by omega)))
 have hzq_3 : q < W3.heap.size := Nat.lt_of_lt_of_le hzq_2 hbl.size
 have hlt_q_q2 : q < w2.heap.size := hzq_2
 have hzqp1_3 : q + 1 < W3.heap.size := Nat.lt_of_lt_of_le hzqp1_2 hbl.size
 have hlt_qp1_q2 : q + 1 < w2.heap.size := hzqp1_2
 have HC3 := Lib.hid hnew
 have hzq2_3 : w2.heap.size < W3.heap.size := hnew.lt
 clear HX2 HQ2 HG2 HR2 hzq_2 hzqp1_2 hbl hnew
 have x0l : (w2.alloc (.cells #[.int .i64 3, .string ⟨#[]⟩, .slice none 0 0, .int .i64 0, .string ⟨#[]⟩, .int .i64 0, .bool false] 31)).cell? ⟨q, 0, none⟩ = some (.pointer (some ⟨g, 0, none⟩)) := by rw [← hW3]; exact HX3.out.cell 0
 go_wp2_with fail
 clear x0l
 (try rw [← hW3])
 clear hW3
 generalize w2.heap.size = q2 at *
 refine (HT.out _ HR3.out).mono ?_
 rintro e w4 ⟨rfl, hr, hg4⟩
 have HX4 := Lib.hid (HX3.out.grn hg4.out (by omega))
 have HQ4 := Lib.hid (HQ3.out.grn hg4.out (by omega))
 have HC4 := Lib.hid (HC3.out.grn hg4.out (by omega))
 have HG4 := Lib.hid (grown_trans HG3.out hg4.out)
 have HR4 := hr
 have hzq_4 : q < w4.heap.size := Nat.lt_of_lt_of_le hzq_3 hg4.out.size
 have hzqp1_4 : q + 1 < w4.heap.size := Nat.lt_of_lt_of_le hzqp1_3 hg4.out.size
 have hzq2_4 : q2 < w4.heap.size := Nat.lt_of_lt_of_le hzq2_3 hg4.out.size
 clear HX3 HQ3 HC3 HG3 HR3 hzq_3 hzqp1_3 hzq2_3 hr hg4
 have c1w4 : w4.cell? ⟨q2, 1, none⟩ = some (.string ⟨#[]⟩) := HC4.out.cell 1
 have f1w4 : w4.frozen? ⟨q2, 1, none⟩ = false := HC4.out.free 1
 obtain ⟨W5, hW5⟩ : ∃ W, (w4.setCell ⟨q2, 1, none⟩ (.string ct)) = W := ⟨_, rfl⟩
 have HX5 : Hid (Has W5 (q) 73 #[.pointer (some ⟨g, 0, none⟩), .slice At nt ctt]) := by rw [← hW5]; exact (HX4.out.far (p := ⟨q2, 1, none⟩) (by show q ≠ q2; omega) (.string ct))
 have HQ5 : Hid (Has W5 (q + 1) 33 #[.int .i64 0, .int .i64 0, .string ⟨#[]⟩, .slice none 0 0, .slice none 0 0, .int .i64 0, .string ⟨#[]⟩, .slice none 0 0, .int .i64 0, .string ⟨#[]⟩, .int .i64 0, .bool false]) := by rw [← hW5]; exact (HQ4.out.far (p := ⟨q2, 1, none⟩) (by show q + 1 ≠ q2; omega) (.string ct))
 have HC5 : Hid (Has W5 (q2) 31 #[.int .i64 3, .string ct, .slice none 0 0, .int .i64 0, .string ⟨#[]⟩, .int .i64 0, .bool false]) := by rw [← hW5]; exact (HC4.out.put 1 (.string ct))
 have HG5 : Hid (w.grownBy W5 (some g)) := by rw [← hW5]; exact (grn_set HG4.out (p := ⟨q2, 1, none⟩) (by show w.heap.size ≤ q2; omega) (.string ct))
 have HR5 : Hid (RdrD D W5 g (tl) 0) := by rw [← hW5]; exact HR4.out.keep hg ((Below.refl D w4).setCell (p := ⟨q2, 1, none⟩) (by show D ≤ q2; omega) (.string ct))
 have hzq_5 : q < W5.heap.size := by rw [← hW5]; simpa using hzq_4
 have hzqp1_5 : q + 1 < W5.heap.size := by rw [← hW5]; simpa using hzqp1_4
 have hzq2_5 : q2 < W5.heap.size := by rw [← hW5]; simpa using hzq2_4
 clear HX4 HQ4 HC4 HG4 HR4 hzq_4 hzqp1_4 hzq2_4
 have k0W5 : W5.cell? ⟨q2, 0, none⟩ = some (.int .i64 3) := HC5.out.cell 0
 have x0W5 : W5.cell? ⟨q, 0, none⟩ = some (.pointer (some ⟨g, 0, none⟩)) := HX5.out.cell 0
 have x1W5 : W5.cell? ⟨q, 1, none⟩ = some (.slice At nt ctt) := HX5.out.cell 1
 have hr0 := HR5.out
 rw [htl] at hr0 hl2 hb2
 have HCC := Lib.hid (rcolumn_any g At nt ctt cn cq cb rest W5 hr0 hg (by omega) hn hl2 hb2)
 clear hr0
 go_wp2_with fail
 clear hW5 x0W5 x1W5 c1w4 f1w4 k0W5
 refine HCC.out.mono ?_
 rintro e w6 ⟨rfl, hr, hg6⟩
 clear HCC
 have HX6 := Lib.hid (HX5.out.grn hg6.out (by omega))
 have HQ6 := Lib.hid (HQ5.out.grn hg6.out (by omega))
 have HC6 := Lib.hid (HC5.out.grn hg6.out (by omega))
 have HG6 := Lib.hid (grown_trans HG5.out hg6.out)
 have HR6 := hr
 have hzq_6 : q < w6.heap.size := Nat.lt_of_lt_of_le hzq_5 hg6.out.size
 have hzqp1_6 : q + 1 < w6.heap.size := Nat.lt_of_lt_of_le hzqp1_5 hg6.out.size
 have hzq2_6 : q2 < w6.heap.size := Nat.lt_of_lt_of_le hzq2_5 hg6.out.size
 clear HX5 HQ5 HC5 HG5 HR5 hzq_5 hzqp1_5 hzq2_5 hr hg6
 have c4w6 : w6.cell? ⟨q2, 4, none⟩ = some (.string ⟨#[]⟩) := HC6.out.cell 4
 have c5w6 : w6.cell? ⟨q2, 5, none⟩ = some (.int .i64 0) := HC6.out.cell 5
 have c6w6 : w6.cell? ⟨q2, 6, none⟩ = some (.bool false) := HC6.out.cell 6
 have f4w6 : w6.frozen? ⟨q2, 4, none⟩ = false := HC6.out.free 4
 have f5w6 : w6.frozen? ⟨q2, 5, none⟩ = false := HC6.out.free 5
 have f6w6 : w6.frozen? ⟨q2, 6, none⟩ = false := HC6.out.free 6
 obtain ⟨W7, hW7⟩ : ∃ W, (((w6.setCell ⟨q2, 4, none⟩ (.string cn)).setCell ⟨q2, 5, none⟩ (.int .i64 cq)).setCell ⟨q2, 6, none⟩ (.bool cb)) = W := ⟨_, rfl⟩
 have HX7 : Hid (Has W7 (q) 73 #[.pointer (some ⟨g, 0, none⟩), .slice At nt ctt]) := by rw [← hW7]; exact (((HX6.out.far (p := ⟨q2, 4, none⟩) (by show q ≠ q2; omega) (.string cn)).far (p := ⟨q2, 5, none⟩) (by show q ≠ q2; omega) (.int .i64 cq)).far (p := ⟨q2, 6, none⟩) (by show q ≠ q2; omega) (.bool cb))
 have HQ7 : Hid (Has W7 (q + 1) 33 #[.int .i64 0, .int .i64 0, .string ⟨#[]⟩, .slice none 0 0, .slice none 0 0, .int .i64 0, .string ⟨#[]⟩, .slice none 0 0, .int .i64 0, .string ⟨#[]⟩, .int .i64 0, .bool false]) := by rw [← hW7]; exact (((HQ6.out.far (p := ⟨q2, 4, none⟩) (by show q + 1 ≠ q2; omega) (.string cn)).far (p := ⟨q2, 5, none⟩) (by show q + 1 ≠ q2; omega) (.int .i64 cq)).far (p := ⟨q2, 6, none⟩) (by show q + 1 ≠ q2; omega) (.bool cb))
 have HC7 : Hid (Has W7 (q2) 31 #[.int .i64 3, .string ct, .slice none 0 0, .int .i64 0, .string cn, .int .i64 cq, .bool cb]) := by rw [← hW7]; exact (((HC6.out.put 4 (.string cn)).put 5 (.int .i64 cq)).put 6 (.bool cb))
 have HG7 : Hid (w.grownBy W7 (some g)) := by rw [← hW7]; exact (grn_set (grn_set (grn_set HG6.out (p := ⟨q2, 4, none⟩) (by show w.heap.size ≤ q2; omega) (.string cn)) (p := ⟨q2, 5, none⟩) (by show w.heap.size ≤ q2; omega) (.int .i64 cq)) (p := ⟨q2, 6, none⟩) (by show w.heap.size ≤ q2; omega) (.bool cb))
 have HR7 : Hid (RdrD D W7 g (rest) 0) := by rw [← hW7]; exact HR6.out.keep hg ((((Below.refl D w6).setCell (p := ⟨q2, 4, none⟩) (by show D ≤ q2; omega) (.string cn)).setCell (p := ⟨q2, 5, none⟩) (by show D ≤ q2; omega) (.int .i64 cq)).setCell (p := ⟨q2, 6, none⟩) (by show D ≤ q2; omega) (.bool cb))
 have hzq_7 : q < W7.heap.size := by rw [← hW7]; simpa using hzq_6
 have hzqp1_7 : q + 1 < W7.heap.size := by rw [← hW7]; simpa using hzqp1_6
 have hzq2_7 : q2 < W7.heap.size := by rw [← hW7]; simpa using hzq2_6
 clear HX6 HQ6 HC6 HG6 HR6 hzq_6 hzqp1_6 hzq2_6
 go_wp2_with fail
 clear hW7 c4w6 f4w6 c5w6 f5w6 c6w6 f6w6
 obtain ⟨Wd, hWd⟩ : ∃ X, X = W7.drew := ⟨_, rfl⟩
 have hbd : Below W7.heap.size W7 Wd := by rw [hWd]; exact (Below.refl _ _).drew
 have HX8 := Lib.hid (HX7.out.below hbd HX7.out.lt)
 have HQ8 := Lib.hid (HQ7.out.below hbd HQ7.out.lt)
 have HC8 := Lib.hid (HC7.out.below hbd HC7.out.lt)
 have HG8 := Lib.hid (grn_below HG7.out hbd)
 have HR8 := Lib.hid (HR7.out.keep hg (hbd.mono (by omega)))
 have hzq_8 : q < Wd.heap.size := Nat.lt_of_lt_of_le hzq_7 hbd.size
 have hzqp1_8 : q + 1 < Wd.heap.size := Nat.lt_of_lt_of_le hzqp1_7 hbd.size
 have hzq2_8 : q2 < Wd.heap.size := Nat.lt_of_lt_of_le hzq2_7 hbd.size
 clear HX7 HQ7 HC7 HG7 HR7 hzq_7 hzqp1_7 hzq2_7
 have hSd : (fun X : World => X.cell? ⟨q2, 0, none⟩ = some (.int .i64 3) ∧ X.cell? ⟨q2, 1, none⟩ = some (.string ct) ∧ X.cell? ⟨q2, 2, none⟩ = some (.slice none 0 0) ∧ X.cell? ⟨q2, 3, none⟩ = some (.int .i64 0) ∧ X.cell? ⟨q2, 4, none⟩ = some (.string cn) ∧ X.cell? ⟨q2, 5, none⟩ = some (.int .i64 cq) ∧ X.cell? ⟨q2, 6, none⟩ = some (.bool cb)) Wd := ⟨HC8.out.cell 0, HC8.out.cell 1, HC8.out.cell 2, HC8.out.cell 3, HC8.out.cell 4, HC8.out.cell 5, HC8.out.cell 6⟩
 clear hbd
 refine wp_region_held_drew (S := (fun X : World => X.cell? ⟨q2, 0, none⟩ = some (.int .i64 3) ∧ X.cell? ⟨q2, 1, none⟩ = some (.string ct) ∧ X.cell? ⟨q2, 2, none⟩ = some (.slice none 0 0) ∧ X.cell? ⟨q2, 3, none⟩ = some (.int .i64 0) ∧ X.cell? ⟨q2, 4, none⟩ = some (.string cn) ∧ X.cell? ⟨q2, 5, none⟩ = some (.int .i64 cq) ∧ X.cell? ⟨q2, 6, none⟩ = some (.bool cb))) (by kernel_rfl) (hWd ▸ hSd) (fun _ => ?_)
 rw [← hWd]
 clear hWd
 (refine wpAnyH_take (i := 0) (v := ?_) rfl (by kernel_rfl) (by kernel_rfl) (by kernel_rfl) (fun _ _ _ h => h) (Or.inl ⟨by rfl, ?_⟩) (by assumption) ?_; rotate_left; (intro w hSw; (try dsimp only at hSw); go_simp; try with_reducible rfl); ((try simp only [zA, zB, zC, Act.put, zD, zE, zF])))
 (refine wpAnyH_take (i := 1) (v := ?_) rfl (by kernel_rfl) (by kernel_rfl) (by kernel_rfl) (fun _ _ _ h => h) (Or.inl ⟨by rfl, ?_⟩) (by assumption) ?_; rotate_left; (intro w hSw; (try dsimp only at hSw); go_simp; try with_reducible rfl); ((try simp only [zA, zB, zC, Act.put, zD, zE, zF])))
 (refine wpAnyH_take (i := 2) (v := ?_) rfl (by kernel_rfl) (by kernel_rfl) (by kernel_rfl) (fun _ _ _ h => h) (Or.inl ⟨by rfl, ?_⟩) (by assumption) ?_; rotate_left; (intro w hSw; (try dsimp only at hSw); go_simp; try with_reducible rfl); ((try simp only [zA, zB, zC, Act.put, zD, zE, zF])))
 refine wpAnyH_ready (rs := [3]) (by kernel_rfl) (by simp) ?_
 refine AllReadyH.cons rfl (fun K2 hK2 => ?_) AllReadyH.nil
 go_simp
 refine (form_any true Wd).mono ?_
 rintro e wx ⟨rfl, hwx⟩
 obtain rfl : Wd = wx := hwx.symm
 go_wp2_with fail
 refine hK2.out _ _ (by (try dsimp only); exact ⟨HC8.out.cell 0, HC8.out.cell 1, HC8.out.cell 2, HC8.out.cell 3, HC8.out.cell 4, HC8.out.cell 5, HC8.out.cell 6⟩) (fun _ => ?_)
 clear hK2 K2
 (try simp only [zA, zB, zC, Act.put, zD, zE, zF])
 obtain ⟨g0, g1, g2, g3, g4, g5, g6, g7, g8, g9, g10, g11, f0, f1, f2, f3, f4, f5, f6, f7, f8, f9, f10, f11⟩ := allE HQ8.out
 refine wpAnyH_ready (rs := [4]) (by kernel_rfl) (by simp) ?_
 refine AllReadyH.cons rfl (fun K2 hK2 => ?_) AllReadyH.nil
 go_simp
 have HP : Hid (Has (put12 Wd (q + 1) (.int .i64 0) (.int .i64 0) (.string ⟨#[]⟩) (.slice none 0 0) (.slice none 0 0) (.int .i64 3) (.string ct) (.slice none 0 0) (.int .i64 0) (.string cn) (.int .i64 cq) (.bool cb)) (q + 1) 33 #[.int .i64 0, .int .i64 0, .string ⟨#[]⟩, .slice none 0 0, .slice none 0 0, .int .i64 3, .string ct, .slice none 0 0, .int .i64 0, .string cn, .int .i64 cq, .bool cb]) := put12_has HQ8.out (.int .i64 0) (.int .i64 0) (.string ⟨#[]⟩) (.slice none 0 0) (.slice none 0 0) (.int .i64 3) (.string ct) (.slice none 0 0) (.int .i64 0) (.string cn) (.int .i64 cq) (.bool cb)
 clear f0 g0 f1 g1 f2 g2 f3 g3 f4 g4 f5 g5 f6 g6 f7 g7 f8 g8 f9 g9 f10 g10 f11 g11
 have ht := put12_tur Wd (q + 1) (.int .i64 0) (.int .i64 0) (.string ⟨#[]⟩) (.slice none 0 0) (.slice none 0 0) (.int .i64 3) (.string ct) (.slice none 0 0) (.int .i64 0) (.string cn) (.int .i64 cq) (.bool cb)
 have hput : put12 Wd (q + 1) (.int .i64 0) (.int .i64 0) (.string ⟨#[]⟩) (.slice none 0 0) (.slice none 0 0) (.int .i64 3) (.string ct) (.slice none 0 0) (.int .i64 0) (.string cn) (.int .i64 cq) (.bool cb) = ((((((((((((Wd.setCell ⟨q + 1, 0, none⟩ (.int .i64 0)).setCell ⟨q + 1, 1, none⟩ (.int .i64 0)).setCell ⟨q + 1, 2, none⟩ (.string ⟨#[]⟩)).setCell ⟨q + 1, 3, none⟩ (.slice none 0 0)).setCell ⟨q + 1, 4, none⟩ (.slice none 0 0)).setCell ⟨q + 1, 5, none⟩ (.int .i64 3)).setCell ⟨q + 1, 6, none⟩ (.string ct)).setCell ⟨q + 1, 7, none⟩ (.slice none 0 0)).setCell ⟨q + 1, 8, none⟩ (.int .i64 0)).setCell ⟨q + 1, 9, none⟩ (.string cn)).setCell ⟨q + 1, 10, none⟩ (.int .i64 cq)).setCell ⟨q + 1, 11, none⟩ (.bool cb)) := rfl
 rw [← hput]
 clear hput
 generalize put12 Wd (q + 1) (.int .i64 0) (.int .i64 0) (.string ⟨#[]⟩) (.slice none 0 0) (.slice none 0 0) (.int .i64 3) (.string ct) (.slice none 0 0) (.int .i64 0) (.string cn) (.int .i64 cq) (.bool cb) = P5 at HP ht ⊢
 have HX8P := Lib.hid (HX8.out.tur ht (by simp only [List.mem_singleton]; omega))
 have HC8P := Lib.hid (HC8.out.tur ht (by simp only [List.mem_singleton]; omega))
 have hbP : Below (q + 1) Wd P5 := ht.below (fun k hk => by simp at hk; omega) (by omega)
 refine hK2.out _ _ (by (try dsimp only); exact ⟨HC8P.out.cell 0, HC8P.out.cell 1, HC8P.out.cell 2, HC8P.out.cell 3, HC8P.out.cell 4, HC8P.out.cell 5, HC8P.out.cell 6⟩) (fun _ => ?_)
 clear hK2 K2
 (try simp only [zA, zB, zC, Act.put, zD, zE, zF])
 (refine wpAnyH_take (i := 5) (v := ?_) rfl (by kernel_rfl) (by kernel_rfl) (by kernel_rfl) (fun _ _ _ h => h) (Or.inl ⟨by rfl, ?_⟩) (by assumption) ?_; rotate_left; (intro w hSw; (try dsimp only at hSw); go_simp; try with_reducible rfl); ((try simp only [zA, zB, zC, Act.put, zD, zE, zF])))
 refine wpAnyH_done (by kernel_rfl) ?_ _
 go_wp2_with fail
 exact bodyPost_ret (evEndR rfl _ (q + 1) _ _ _ _ _ _ _ _ _ _ _ _ _ rfl HP.out) rfl ⟨rfl, HR8.out.keep hg (hbP.mono (by omega)), grn_lowB HG8.out hbP (by omega) (by omega)⟩
set_option maxHeartbeats 16000000 in
theorem ralter_5 {D : Nat} (g : Nat) (At : Option Addr) (nt ctt : Nat) (ct : ByteArray) (cn : ByteArray) (cq : Nat) (cb : Bool) (rest : List Nat) (w : World) (h : RdrD D w g (5 :: (ytxt ct ++ (colB cn cq cb ++ rest))) 0) (hg : g < D) (hD : D ≤ w.heap.size) (hct : ct.size ≤ 32) (hn : cn.size ≤ 32) (hl : ∀ x ∈ 5 :: (ytxt ct ++ (colB cn cq cb ++ rest)), x < 256) (hb : (5 :: (ytxt ct ++ (colB cn cq cb ++ rest))).length ≤ 1000000) :
 Calls Tryz.prog 74 #[.agg #[.pointer (some ⟨g, 0, none⟩), .slice At nt ctt]] w fun e w' => e = .returned (.tuple #[.agg #[.int .i64 0, .int .i64 0, .string ⟨#[]⟩, .slice none 0 0, .slice none 0 0, .int .i64 5, .string ct, .slice none 0 0, .int .i64 0, .string cn, .int .i64 cq, .bool cb], .int .i64 0]) ∧ Hid (RdrD D w' g rest 0) ∧ Hid (w.grownBy w' (some g)) := by
 obtain ⟨tl, htl⟩ : ∃ l, l = colB cn cq cb ++ rest := ⟨_, rfl⟩
 rw [← htl] at h hl hb
 have hl1 : ∀ x ∈ ytxt ct ++ tl, x < 256 := fun x hx => hl x (List.mem_cons_of_mem _ hx)
 have hb1 : (ytxt ct ++ tl).length ≤ 1000000 := by rw [List.length_cons] at hb; omega
 have hl2 : ∀ x ∈ tl, x < 256 := fun x hx => hl1 x (List.mem_append_right _ hx)
 have hb2 : tl.length ≤ 1000000 := by rw [List.length_append] at hb1; omega
 have HK := Lib.hid (fun W (hr : RdrD D W g (5 :: (ytxt ct ++ tl)) 0) => byteD_put g 5 (ytxt ct ++ tl) W hr hl hb)
 have HT := Lib.hid (fun W (hr : RdrD D W g (ytxt ct ++ tl) 0) => txtD_put g 32 ct tl W hr (by omega) (by omega) hl1 hb1)
 obtain ⟨q, hq⟩ : ∃ q, w.heap.size = q := ⟨_, rfl⟩
 obtain ⟨W1, hW1⟩ : ∃ W, (w.alloc (.cells #[.pointer (some ⟨g, 0, none⟩), .slice At nt ctt] 73)).alloc (.cells #[.int .i64 0, .int .i64 0, .string ⟨#[]⟩, .slice none 0 0, .slice none 0 0, .int .i64 0, .string ⟨#[]⟩, .slice none 0 0, .int .i64 0, .string ⟨#[]⟩, .int .i64 0, .bool false] 33) = W := ⟨_, rfl⟩
 have hba : Below w.heap.size w (w.alloc (.cells #[.pointer (some ⟨g, 0, none⟩), .slice At nt ctt] 73)) := (Below.refl _ w).alloc (Nat.le_refl _) _
 have hbb : Below w.heap.size w W1 := by rw [← hW1]; exact hba.alloc (by simp) _
 have hs1 : W1.heap.size = q + 2 := by rw [← hW1]; simp; omega
 have hz0 : q < W1.heap.size := by omega
 have hz1 : q + 1 < W1.heap.size := by omega
 have HX1 : Hid (Has W1 q 73 #[.pointer (some ⟨g, 0, none⟩), .slice At nt ctt]) := by rw [← hW1, ← hq]; exact (Has.new _ _ _).alloc _
 have HQ1 : Hid (Has W1 (q + 1) 33 #[.int .i64 0, .int .i64 0, .string ⟨#[]⟩, .slice none 0 0, .slice none 0 0, .int .i64 0, .string ⟨#[]⟩, .slice none 0 0, .int .i64 0, .string ⟨#[]⟩, .int .i64 0, .bool false]) := by
  have h := Has.new (w.alloc (.cells #[.pointer (some ⟨g, 0, none⟩), .slice At nt ctt] 73)) 33 #[.int .i64 0, .int .i64 0, .string ⟨#[]⟩, .slice none 0 0, .slice none 0 0, .int .i64 0, .string ⟨#[]⟩, .slice none 0 0, .int .i64 0, .string ⟨#[]⟩, .int .i64 0, .bool false]
  rw [World.size_alloc, hq, hW1] at h
  exact h
 have HR1 := Lib.hid (h.keep hg (hbb.mono hD))
 have HG1 := Lib.hid (grn_below (grown_refl w g) hbb)
 have x1 : W1.cell? ⟨q, 0, none⟩ = some (.pointer (some ⟨g, 0, none⟩)) := HX1.out.cell 0
 have x2 : W1.cell? ⟨q, 1, none⟩ = some (.slice At nt ctt) := HX1.out.cell 1
 rw [hq] at hD
 have hgq : g < q := by omega
 clear h hba hbb
 clear hl hb hl1 hb1
 go_enter Tryz.func74, Tryz.ntmps74
 go_wp2_with fail
 clear x1 x2 hW1
 refine (HK.out _ HR1.out).mono ?_
 rintro e w2 ⟨rfl, hr, hg2⟩
 have HX2 := Lib.hid (HX1.out.grn hg2.out (by omega))
 have HQ2 := Lib.hid (HQ1.out.grn hg2.out (by omega))
 have HG2 := Lib.hid (grown_trans HG1.out hg2.out)
 have HR2 := hr
 have hzq_2 : q < w2.heap.size := Nat.lt_of_lt_of_le hz0 hg2.out.size
 have hzqp1_2 : q + 1 < w2.heap.size := Nat.lt_of_lt_of_le hz1 hg2.out.size
 clear HX1 HQ1 HG1 HR1 hz0 hz1 hr hg2
 have HR2 := Lib.hid HR2.out
 obtain ⟨W3, hW3⟩ : ∃ W, W = w2.alloc (.cells #[.int .i64 5, .string ⟨#[]⟩, .slice none 0 0, .int .i64 0, .string ⟨#[]⟩, .int .i64 0, .bool false] 31) := ⟨_, rfl⟩
 have hbl : Below w2.heap.size w2 W3 := by rw [hW3]; exact (Below.refl _ _).alloc (Nat.le_refl _) _
 have hnew : Has W3 w2.heap.size 31 #[.int .i64 5, .string ⟨#[]⟩, .slice none 0 0, .int .i64 0, .string ⟨#[]⟩, .int .i64 0, .bool false] := by rw [hW3]; exact Has.new _ _ _
 have HX3 := Lib.hid (HX2.out.below hbl HX2.out.lt)
 have HQ3 := Lib.hid (HQ2.out.below hbl HQ2.out.lt)
 have HG3 := Lib.hid (grn_below HG2.out hbl)
 have HR3 := Lib.hid (HR2.out.keep hg (hbl.mono (by omega)))
 have hzq_3 : q < W3.heap.size := Nat.lt_of_lt_of_le hzq_2 hbl.size
 have hlt_q_q2 : q < w2.heap.size := hzq_2
 have hzqp1_3 : q + 1 < W3.heap.size := Nat.lt_of_lt_of_le hzqp1_2 hbl.size
 have hlt_qp1_q2 : q + 1 < w2.heap.size := hzqp1_2
 have HC3 := Lib.hid hnew
 have hzq2_3 : w2.heap.size < W3.heap.size := hnew.lt
 clear HX2 HQ2 HG2 HR2 hzq_2 hzqp1_2 hbl hnew
 have x0l : (w2.alloc (.cells #[.int .i64 5, .string ⟨#[]⟩, .slice none 0 0, .int .i64 0, .string ⟨#[]⟩, .int .i64 0, .bool false] 31)).cell? ⟨q, 0, none⟩ = some (.pointer (some ⟨g, 0, none⟩)) := by rw [← hW3]; exact HX3.out.cell 0
 go_wp2_with fail
 clear x0l
 (try rw [← hW3])
 clear hW3
 generalize w2.heap.size = q2 at *
 refine (HT.out _ HR3.out).mono ?_
 rintro e w4 ⟨rfl, hr, hg4⟩
 have HX4 := Lib.hid (HX3.out.grn hg4.out (by omega))
 have HQ4 := Lib.hid (HQ3.out.grn hg4.out (by omega))
 have HC4 := Lib.hid (HC3.out.grn hg4.out (by omega))
 have HG4 := Lib.hid (grown_trans HG3.out hg4.out)
 have HR4 := hr
 have hzq_4 : q < w4.heap.size := Nat.lt_of_lt_of_le hzq_3 hg4.out.size
 have hzqp1_4 : q + 1 < w4.heap.size := Nat.lt_of_lt_of_le hzqp1_3 hg4.out.size
 have hzq2_4 : q2 < w4.heap.size := Nat.lt_of_lt_of_le hzq2_3 hg4.out.size
 clear HX3 HQ3 HC3 HG3 HR3 hzq_3 hzqp1_3 hzq2_3 hr hg4
 have c1w4 : w4.cell? ⟨q2, 1, none⟩ = some (.string ⟨#[]⟩) := HC4.out.cell 1
 have f1w4 : w4.frozen? ⟨q2, 1, none⟩ = false := HC4.out.free 1
 obtain ⟨W5, hW5⟩ : ∃ W, (w4.setCell ⟨q2, 1, none⟩ (.string ct)) = W := ⟨_, rfl⟩
 have HX5 : Hid (Has W5 (q) 73 #[.pointer (some ⟨g, 0, none⟩), .slice At nt ctt]) := by rw [← hW5]; exact (HX4.out.far (p := ⟨q2, 1, none⟩) (by show q ≠ q2; omega) (.string ct))
 have HQ5 : Hid (Has W5 (q + 1) 33 #[.int .i64 0, .int .i64 0, .string ⟨#[]⟩, .slice none 0 0, .slice none 0 0, .int .i64 0, .string ⟨#[]⟩, .slice none 0 0, .int .i64 0, .string ⟨#[]⟩, .int .i64 0, .bool false]) := by rw [← hW5]; exact (HQ4.out.far (p := ⟨q2, 1, none⟩) (by show q + 1 ≠ q2; omega) (.string ct))
 have HC5 : Hid (Has W5 (q2) 31 #[.int .i64 5, .string ct, .slice none 0 0, .int .i64 0, .string ⟨#[]⟩, .int .i64 0, .bool false]) := by rw [← hW5]; exact (HC4.out.put 1 (.string ct))
 have HG5 : Hid (w.grownBy W5 (some g)) := by rw [← hW5]; exact (grn_set HG4.out (p := ⟨q2, 1, none⟩) (by show w.heap.size ≤ q2; omega) (.string ct))
 have HR5 : Hid (RdrD D W5 g (tl) 0) := by rw [← hW5]; exact HR4.out.keep hg ((Below.refl D w4).setCell (p := ⟨q2, 1, none⟩) (by show D ≤ q2; omega) (.string ct))
 have hzq_5 : q < W5.heap.size := by rw [← hW5]; simpa using hzq_4
 have hzqp1_5 : q + 1 < W5.heap.size := by rw [← hW5]; simpa using hzqp1_4
 have hzq2_5 : q2 < W5.heap.size := by rw [← hW5]; simpa using hzq2_4
 clear HX4 HQ4 HC4 HG4 HR4 hzq_4 hzqp1_4 hzq2_4
 have k0W5 : W5.cell? ⟨q2, 0, none⟩ = some (.int .i64 5) := HC5.out.cell 0
 have x0W5 : W5.cell? ⟨q, 0, none⟩ = some (.pointer (some ⟨g, 0, none⟩)) := HX5.out.cell 0
 have x1W5 : W5.cell? ⟨q, 1, none⟩ = some (.slice At nt ctt) := HX5.out.cell 1
 have hr0 := HR5.out
 rw [htl] at hr0 hl2 hb2
 have HCC := Lib.hid (rcolumn_any g At nt ctt cn cq cb rest W5 hr0 hg (by omega) hn hl2 hb2)
 clear hr0
 go_wp2_with fail
 clear hW5 x0W5 x1W5 c1w4 f1w4 k0W5
 refine HCC.out.mono ?_
 rintro e w6 ⟨rfl, hr, hg6⟩
 clear HCC
 have HX6 := Lib.hid (HX5.out.grn hg6.out (by omega))
 have HQ6 := Lib.hid (HQ5.out.grn hg6.out (by omega))
 have HC6 := Lib.hid (HC5.out.grn hg6.out (by omega))
 have HG6 := Lib.hid (grown_trans HG5.out hg6.out)
 have HR6 := hr
 have hzq_6 : q < w6.heap.size := Nat.lt_of_lt_of_le hzq_5 hg6.out.size
 have hzqp1_6 : q + 1 < w6.heap.size := Nat.lt_of_lt_of_le hzqp1_5 hg6.out.size
 have hzq2_6 : q2 < w6.heap.size := Nat.lt_of_lt_of_le hzq2_5 hg6.out.size
 clear HX5 HQ5 HC5 HG5 HR5 hzq_5 hzqp1_5 hzq2_5 hr hg6
 have c4w6 : w6.cell? ⟨q2, 4, none⟩ = some (.string ⟨#[]⟩) := HC6.out.cell 4
 have c5w6 : w6.cell? ⟨q2, 5, none⟩ = some (.int .i64 0) := HC6.out.cell 5
 have c6w6 : w6.cell? ⟨q2, 6, none⟩ = some (.bool false) := HC6.out.cell 6
 have f4w6 : w6.frozen? ⟨q2, 4, none⟩ = false := HC6.out.free 4
 have f5w6 : w6.frozen? ⟨q2, 5, none⟩ = false := HC6.out.free 5
 have f6w6 : w6.frozen? ⟨q2, 6, none⟩ = false := HC6.out.free 6
 obtain ⟨W7, hW7⟩ : ∃ W, (((w6.setCell ⟨q2, 4, none⟩ (.string cn)).setCell ⟨q2, 5, none⟩ (.int .i64 cq)).setCell ⟨q2, 6, none⟩ (.bool cb)) = W := ⟨_, rfl⟩
 have HX7 : Hid (Has W7 (q) 73 #[.pointer (some ⟨g, 0, none⟩), .slice At nt ctt]) := by rw [← hW7]; exact (((HX6.out.far (p := ⟨q2, 4, none⟩) (by show q ≠ q2; omega) (.string cn)).far (p := ⟨q2, 5, none⟩) (by show q ≠ q2; omega) (.int .i64 cq)).far (p := ⟨q2, 6, none⟩) (by show q ≠ q2; omega) (.bool cb))
 have HQ7 : Hid (Has W7 (q + 1) 33 #[.int .i64 0, .int .i64 0, .string ⟨#[]⟩, .slice none 0 0, .slice none 0 0, .int .i64 0, .string ⟨#[]⟩, .slice none 0 0, .int .i64 0, .string ⟨#[]⟩, .int .i64 0, .bool false]) := by rw [← hW7]; exact (((HQ6.out.far (p := ⟨q2, 4, none⟩) (by show q + 1 ≠ q2; omega) (.string cn)).far (p := ⟨q2, 5, none⟩) (by show q + 1 ≠ q2; omega) (.int .i64 cq)).far (p := ⟨q2, 6, none⟩) (by show q + 1 ≠ q2; omega) (.bool cb))
 have HC7 : Hid (Has W7 (q2) 31 #[.int .i64 5, .string ct, .slice none 0 0, .int .i64 0, .string cn, .int .i64 cq, .bool cb]) := by rw [← hW7]; exact (((HC6.out.put 4 (.string cn)).put 5 (.int .i64 cq)).put 6 (.bool cb))
 have HG7 : Hid (w.grownBy W7 (some g)) := by rw [← hW7]; exact (grn_set (grn_set (grn_set HG6.out (p := ⟨q2, 4, none⟩) (by show w.heap.size ≤ q2; omega) (.string cn)) (p := ⟨q2, 5, none⟩) (by show w.heap.size ≤ q2; omega) (.int .i64 cq)) (p := ⟨q2, 6, none⟩) (by show w.heap.size ≤ q2; omega) (.bool cb))
 have HR7 : Hid (RdrD D W7 g (rest) 0) := by rw [← hW7]; exact HR6.out.keep hg ((((Below.refl D w6).setCell (p := ⟨q2, 4, none⟩) (by show D ≤ q2; omega) (.string cn)).setCell (p := ⟨q2, 5, none⟩) (by show D ≤ q2; omega) (.int .i64 cq)).setCell (p := ⟨q2, 6, none⟩) (by show D ≤ q2; omega) (.bool cb))
 have hzq_7 : q < W7.heap.size := by rw [← hW7]; simpa using hzq_6
 have hzqp1_7 : q + 1 < W7.heap.size := by rw [← hW7]; simpa using hzqp1_6
 have hzq2_7 : q2 < W7.heap.size := by rw [← hW7]; simpa using hzq2_6
 clear HX6 HQ6 HC6 HG6 HR6 hzq_6 hzqp1_6 hzq2_6
 go_wp2_with fail
 clear hW7 c4w6 f4w6 c5w6 f5w6 c6w6 f6w6
 obtain ⟨Wd, hWd⟩ : ∃ X, X = W7.drew := ⟨_, rfl⟩
 have hbd : Below W7.heap.size W7 Wd := by rw [hWd]; exact (Below.refl _ _).drew
 have HX8 := Lib.hid (HX7.out.below hbd HX7.out.lt)
 have HQ8 := Lib.hid (HQ7.out.below hbd HQ7.out.lt)
 have HC8 := Lib.hid (HC7.out.below hbd HC7.out.lt)
 have HG8 := Lib.hid (grn_below HG7.out hbd)
 have HR8 := Lib.hid (HR7.out.keep hg (hbd.mono (by omega)))
 have hzq_8 : q < Wd.heap.size := Nat.lt_of_lt_of_le hzq_7 hbd.size
 have hzqp1_8 : q + 1 < Wd.heap.size := Nat.lt_of_lt_of_le hzqp1_7 hbd.size
 have hzq2_8 : q2 < Wd.heap.size := Nat.lt_of_lt_of_le hzq2_7 hbd.size
 clear HX7 HQ7 HC7 HG7 HR7 hzq_7 hzqp1_7 hzq2_7
 have hSd : (fun X : World => X.cell? ⟨q2, 0, none⟩ = some (.int .i64 5) ∧ X.cell? ⟨q2, 1, none⟩ = some (.string ct) ∧ X.cell? ⟨q2, 2, none⟩ = some (.slice none 0 0) ∧ X.cell? ⟨q2, 3, none⟩ = some (.int .i64 0) ∧ X.cell? ⟨q2, 4, none⟩ = some (.string cn) ∧ X.cell? ⟨q2, 5, none⟩ = some (.int .i64 cq) ∧ X.cell? ⟨q2, 6, none⟩ = some (.bool cb)) Wd := ⟨HC8.out.cell 0, HC8.out.cell 1, HC8.out.cell 2, HC8.out.cell 3, HC8.out.cell 4, HC8.out.cell 5, HC8.out.cell 6⟩
 clear hbd
 refine wp_region_held_drew (S := (fun X : World => X.cell? ⟨q2, 0, none⟩ = some (.int .i64 5) ∧ X.cell? ⟨q2, 1, none⟩ = some (.string ct) ∧ X.cell? ⟨q2, 2, none⟩ = some (.slice none 0 0) ∧ X.cell? ⟨q2, 3, none⟩ = some (.int .i64 0) ∧ X.cell? ⟨q2, 4, none⟩ = some (.string cn) ∧ X.cell? ⟨q2, 5, none⟩ = some (.int .i64 cq) ∧ X.cell? ⟨q2, 6, none⟩ = some (.bool cb))) (by kernel_rfl) (hWd ▸ hSd) (fun _ => ?_)
 rw [← hWd]
 clear hWd
 (refine wpAnyH_take (i := 0) (v := ?_) rfl (by kernel_rfl) (by kernel_rfl) (by kernel_rfl) (fun _ _ _ h => h) (Or.inl ⟨by rfl, ?_⟩) (by assumption) ?_; rotate_left; (intro w hSw; (try dsimp only at hSw); go_simp; try with_reducible rfl); ((try simp only [zA, zB, zC, Act.put, zD, zE, zF])))
 (refine wpAnyH_take (i := 1) (v := ?_) rfl (by kernel_rfl) (by kernel_rfl) (by kernel_rfl) (fun _ _ _ h => h) (Or.inl ⟨by rfl, ?_⟩) (by assumption) ?_; rotate_left; (intro w hSw; (try dsimp only at hSw); go_simp; try with_reducible rfl); ((try simp only [zA, zB, zC, Act.put, zD, zE, zF])))
 (refine wpAnyH_take (i := 2) (v := ?_) rfl (by kernel_rfl) (by kernel_rfl) (by kernel_rfl) (fun _ _ _ h => h) (Or.inl ⟨by rfl, ?_⟩) (by assumption) ?_; rotate_left; (intro w hSw; (try dsimp only at hSw); go_simp; try with_reducible rfl); ((try simp only [zA, zB, zC, Act.put, zD, zE, zF])))
 refine wpAnyH_ready (rs := [3]) (by kernel_rfl) (by simp) ?_
 refine AllReadyH.cons rfl (fun K2 hK2 => ?_) AllReadyH.nil
 go_simp
 refine (form_any true Wd).mono ?_
 rintro e wx ⟨rfl, hwx⟩
 obtain rfl : Wd = wx := hwx.symm
 go_wp2_with fail
 refine hK2.out _ _ (by (try dsimp only); exact ⟨HC8.out.cell 0, HC8.out.cell 1, HC8.out.cell 2, HC8.out.cell 3, HC8.out.cell 4, HC8.out.cell 5, HC8.out.cell 6⟩) (fun _ => ?_)
 clear hK2 K2
 (try simp only [zA, zB, zC, Act.put, zD, zE, zF])
 obtain ⟨g0, g1, g2, g3, g4, g5, g6, g7, g8, g9, g10, g11, f0, f1, f2, f3, f4, f5, f6, f7, f8, f9, f10, f11⟩ := allE HQ8.out
 refine wpAnyH_ready (rs := [4]) (by kernel_rfl) (by simp) ?_
 refine AllReadyH.cons rfl (fun K2 hK2 => ?_) AllReadyH.nil
 go_simp
 have HP : Hid (Has (put12 Wd (q + 1) (.int .i64 0) (.int .i64 0) (.string ⟨#[]⟩) (.slice none 0 0) (.slice none 0 0) (.int .i64 5) (.string ct) (.slice none 0 0) (.int .i64 0) (.string cn) (.int .i64 cq) (.bool cb)) (q + 1) 33 #[.int .i64 0, .int .i64 0, .string ⟨#[]⟩, .slice none 0 0, .slice none 0 0, .int .i64 5, .string ct, .slice none 0 0, .int .i64 0, .string cn, .int .i64 cq, .bool cb]) := put12_has HQ8.out (.int .i64 0) (.int .i64 0) (.string ⟨#[]⟩) (.slice none 0 0) (.slice none 0 0) (.int .i64 5) (.string ct) (.slice none 0 0) (.int .i64 0) (.string cn) (.int .i64 cq) (.bool cb)
 clear f0 g0 f1 g1 f2 g2 f3 g3 f4 g4 f5 g5 f6 g6 f7 g7 f8 g8 f9 g9 f10 g10 f11 g11
 have ht := put12_tur Wd (q + 1) (.int .i64 0) (.int .i64 0) (.string ⟨#[]⟩) (.slice none 0 0) (.slice none 0 0) (.int .i64 5) (.string ct) (.slice none 0 0) (.int .i64 0) (.string cn) (.int .i64 cq) (.bool cb)
 have hput : put12 Wd (q + 1) (.int .i64 0) (.int .i64 0) (.string ⟨#[]⟩) (.slice none 0 0) (.slice none 0 0) (.int .i64 5) (.string ct) (.slice none 0 0) (.int .i64 0) (.string cn) (.int .i64 cq) (.bool cb) = ((((((((((((Wd.setCell ⟨q + 1, 0, none⟩ (.int .i64 0)).setCell ⟨q + 1, 1, none⟩ (.int .i64 0)).setCell ⟨q + 1, 2, none⟩ (.string ⟨#[]⟩)).setCell ⟨q + 1, 3, none⟩ (.slice none 0 0)).setCell ⟨q + 1, 4, none⟩ (.slice none 0 0)).setCell ⟨q + 1, 5, none⟩ (.int .i64 5)).setCell ⟨q + 1, 6, none⟩ (.string ct)).setCell ⟨q + 1, 7, none⟩ (.slice none 0 0)).setCell ⟨q + 1, 8, none⟩ (.int .i64 0)).setCell ⟨q + 1, 9, none⟩ (.string cn)).setCell ⟨q + 1, 10, none⟩ (.int .i64 cq)).setCell ⟨q + 1, 11, none⟩ (.bool cb)) := rfl
 rw [← hput]
 clear hput
 generalize put12 Wd (q + 1) (.int .i64 0) (.int .i64 0) (.string ⟨#[]⟩) (.slice none 0 0) (.slice none 0 0) (.int .i64 5) (.string ct) (.slice none 0 0) (.int .i64 0) (.string cn) (.int .i64 cq) (.bool cb) = P5 at HP ht ⊢
 have HX8P := Lib.hid (HX8.out.tur ht (by simp only [List.mem_singleton]; omega))
 have HC8P := Lib.hid (HC8.out.tur ht (by simp only [List.mem_singleton]; omega))
 have hbP : Below (q + 1) Wd P5 := ht.below (fun k hk => by simp at hk; omega) (by omega)
 refine hK2.out _ _ (by (try dsimp only); exact ⟨HC8P.out.cell 0, HC8P.out.cell 1, HC8P.out.cell 2, HC8P.out.cell 3, HC8P.out.cell 4, HC8P.out.cell 5, HC8P.out.cell 6⟩) (fun _ => ?_)
 clear hK2 K2
 (try simp only [zA, zB, zC, Act.put, zD, zE, zF])
 (refine wpAnyH_take (i := 5) (v := ?_) rfl (by kernel_rfl) (by kernel_rfl) (by kernel_rfl) (fun _ _ _ h => h) (Or.inl ⟨by rfl, ?_⟩) (by assumption) ?_; rotate_left; (intro w hSw; (try dsimp only at hSw); go_simp; try with_reducible rfl); ((try simp only [zA, zB, zC, Act.put, zD, zE, zF])))
 refine wpAnyH_done (by kernel_rfl) ?_ _
 go_wp2_with fail
 exact bodyPost_ret (evEndR rfl _ (q + 1) _ _ _ _ _ _ _ _ _ _ _ _ _ rfl HP.out) rfl ⟨rfl, HR8.out.keep hg (hbP.mono (by omega)), grn_lowB HG8.out hbP (by omega) (by omega)⟩
set_option maxHeartbeats 16000000 in
theorem ralter_4 {D : Nat} (g : Nat) (At : Option Addr) (nt ctt : Nat) (ct : ByteArray) (cn : ByteArray) (rest : List Nat) (w : World) (h : RdrD D w g (4 :: (ytxt ct ++ (ytxt cn ++ rest))) 0) (hg : g < D) (hD : D ≤ w.heap.size) (hct : ct.size ≤ 32) (hn : cn.size ≤ 32) (hl : ∀ x ∈ 4 :: (ytxt ct ++ (ytxt cn ++ rest)), x < 256) (hb : (4 :: (ytxt ct ++ (ytxt cn ++ rest))).length ≤ 1000000) :
 Calls Tryz.prog 74 #[.agg #[.pointer (some ⟨g, 0, none⟩), .slice At nt ctt]] w fun e w' => e = .returned (.tuple #[.agg #[.int .i64 0, .int .i64 0, .string ⟨#[]⟩, .slice none 0 0, .slice none 0 0, .int .i64 4, .string ct, .slice none 0 0, .int .i64 0, .string cn, .int .i64 0, .bool false], .int .i64 0]) ∧ Hid (RdrD D w' g rest 0) ∧ Hid (w.grownBy w' (some g)) := by
 obtain ⟨tl, htl⟩ : ∃ l, l = ytxt cn ++ rest := ⟨_, rfl⟩
 rw [← htl] at h hl hb
 have hl1 : ∀ x ∈ ytxt ct ++ tl, x < 256 := fun x hx => hl x (List.mem_cons_of_mem _ hx)
 have hb1 : (ytxt ct ++ tl).length ≤ 1000000 := by rw [List.length_cons] at hb; omega
 have hl2 : ∀ x ∈ tl, x < 256 := fun x hx => hl1 x (List.mem_append_right _ hx)
 have hb2 : tl.length ≤ 1000000 := by rw [List.length_append] at hb1; omega
 have HK := Lib.hid (fun W (hr : RdrD D W g (4 :: (ytxt ct ++ tl)) 0) => byteD_put g 4 (ytxt ct ++ tl) W hr hl hb)
 have HT := Lib.hid (fun W (hr : RdrD D W g (ytxt ct ++ tl) 0) => txtD_put g 32 ct tl W hr (by omega) (by omega) hl1 hb1)
 obtain ⟨q, hq⟩ : ∃ q, w.heap.size = q := ⟨_, rfl⟩
 obtain ⟨W1, hW1⟩ : ∃ W, (w.alloc (.cells #[.pointer (some ⟨g, 0, none⟩), .slice At nt ctt] 73)).alloc (.cells #[.int .i64 0, .int .i64 0, .string ⟨#[]⟩, .slice none 0 0, .slice none 0 0, .int .i64 0, .string ⟨#[]⟩, .slice none 0 0, .int .i64 0, .string ⟨#[]⟩, .int .i64 0, .bool false] 33) = W := ⟨_, rfl⟩
 have hba : Below w.heap.size w (w.alloc (.cells #[.pointer (some ⟨g, 0, none⟩), .slice At nt ctt] 73)) := (Below.refl _ w).alloc (Nat.le_refl _) _
 have hbb : Below w.heap.size w W1 := by rw [← hW1]; exact hba.alloc (by simp) _
 have hs1 : W1.heap.size = q + 2 := by rw [← hW1]; simp; omega
 have hz0 : q < W1.heap.size := by omega
 have hz1 : q + 1 < W1.heap.size := by omega
 have HX1 : Hid (Has W1 q 73 #[.pointer (some ⟨g, 0, none⟩), .slice At nt ctt]) := by rw [← hW1, ← hq]; exact (Has.new _ _ _).alloc _
 have HQ1 : Hid (Has W1 (q + 1) 33 #[.int .i64 0, .int .i64 0, .string ⟨#[]⟩, .slice none 0 0, .slice none 0 0, .int .i64 0, .string ⟨#[]⟩, .slice none 0 0, .int .i64 0, .string ⟨#[]⟩, .int .i64 0, .bool false]) := by
  have h := Has.new (w.alloc (.cells #[.pointer (some ⟨g, 0, none⟩), .slice At nt ctt] 73)) 33 #[.int .i64 0, .int .i64 0, .string ⟨#[]⟩, .slice none 0 0, .slice none 0 0, .int .i64 0, .string ⟨#[]⟩, .slice none 0 0, .int .i64 0, .string ⟨#[]⟩, .int .i64 0, .bool false]
  rw [World.size_alloc, hq, hW1] at h
  exact h
 have HR1 := Lib.hid (h.keep hg (hbb.mono hD))
 have HG1 := Lib.hid (grn_below (grown_refl w g) hbb)
 have x1 : W1.cell? ⟨q, 0, none⟩ = some (.pointer (some ⟨g, 0, none⟩)) := HX1.out.cell 0
 have x2 : W1.cell? ⟨q, 1, none⟩ = some (.slice At nt ctt) := HX1.out.cell 1
 rw [hq] at hD
 have hgq : g < q := by omega
 clear h hba hbb
 clear hl hb hl1 hb1
 go_enter Tryz.func74, Tryz.ntmps74
 go_wp2_with fail
 clear x1 x2 hW1
 refine (HK.out _ HR1.out).mono ?_
 rintro e w2 ⟨rfl, hr, hg2⟩
 have HX2 := Lib.hid (HX1.out.grn hg2.out (by omega))
 have HQ2 := Lib.hid (HQ1.out.grn hg2.out (by omega))
 have HG2 := Lib.hid (grown_trans HG1.out hg2.out)
 have HR2 := hr
 have hzq_2 : q < w2.heap.size := Nat.lt_of_lt_of_le hz0 hg2.out.size
 have hzqp1_2 : q + 1 < w2.heap.size := Nat.lt_of_lt_of_le hz1 hg2.out.size
 clear HX1 HQ1 HG1 HR1 hz0 hz1 hr hg2
 have HR2 := Lib.hid HR2.out
 obtain ⟨W3, hW3⟩ : ∃ W, W = w2.alloc (.cells #[.int .i64 4, .string ⟨#[]⟩, .slice none 0 0, .int .i64 0, .string ⟨#[]⟩, .int .i64 0, .bool false] 31) := ⟨_, rfl⟩
 have hbl : Below w2.heap.size w2 W3 := by rw [hW3]; exact (Below.refl _ _).alloc (Nat.le_refl _) _
 have hnew : Has W3 w2.heap.size 31 #[.int .i64 4, .string ⟨#[]⟩, .slice none 0 0, .int .i64 0, .string ⟨#[]⟩, .int .i64 0, .bool false] := by rw [hW3]; exact Has.new _ _ _
 have HX3 := Lib.hid (HX2.out.below hbl HX2.out.lt)
 have HQ3 := Lib.hid (HQ2.out.below hbl HQ2.out.lt)
 have HG3 := Lib.hid (grn_below HG2.out hbl)
 have HR3 := Lib.hid (HR2.out.keep hg (hbl.mono (by omega)))
 have hzq_3 : q < W3.heap.size := Nat.lt_of_lt_of_le hzq_2 hbl.size
 have hlt_q_q2 : q < w2.heap.size := hzq_2
 have hzqp1_3 : q + 1 < W3.heap.size := Nat.lt_of_lt_of_le hzqp1_2 hbl.size
 have hlt_qp1_q2 : q + 1 < w2.heap.size := hzqp1_2
 have HC3 := Lib.hid hnew
 have hzq2_3 : w2.heap.size < W3.heap.size := hnew.lt
 clear HX2 HQ2 HG2 HR2 hzq_2 hzqp1_2 hbl hnew
 have x0l : (w2.alloc (.cells #[.int .i64 4, .string ⟨#[]⟩, .slice none 0 0, .int .i64 0, .string ⟨#[]⟩, .int .i64 0, .bool false] 31)).cell? ⟨q, 0, none⟩ = some (.pointer (some ⟨g, 0, none⟩)) := by rw [← hW3]; exact HX3.out.cell 0
 go_wp2_with fail
 clear x0l
 (try rw [← hW3])
 clear hW3
 generalize w2.heap.size = q2 at *
 refine (HT.out _ HR3.out).mono ?_
 rintro e w4 ⟨rfl, hr, hg4⟩
 have HX4 := Lib.hid (HX3.out.grn hg4.out (by omega))
 have HQ4 := Lib.hid (HQ3.out.grn hg4.out (by omega))
 have HC4 := Lib.hid (HC3.out.grn hg4.out (by omega))
 have HG4 := Lib.hid (grown_trans HG3.out hg4.out)
 have HR4 := hr
 have hzq_4 : q < w4.heap.size := Nat.lt_of_lt_of_le hzq_3 hg4.out.size
 have hzqp1_4 : q + 1 < w4.heap.size := Nat.lt_of_lt_of_le hzqp1_3 hg4.out.size
 have hzq2_4 : q2 < w4.heap.size := Nat.lt_of_lt_of_le hzq2_3 hg4.out.size
 clear HX3 HQ3 HC3 HG3 HR3 hzq_3 hzqp1_3 hzq2_3 hr hg4
 have c1w4 : w4.cell? ⟨q2, 1, none⟩ = some (.string ⟨#[]⟩) := HC4.out.cell 1
 have f1w4 : w4.frozen? ⟨q2, 1, none⟩ = false := HC4.out.free 1
 obtain ⟨W5, hW5⟩ : ∃ W, (w4.setCell ⟨q2, 1, none⟩ (.string ct)) = W := ⟨_, rfl⟩
 have HX5 : Hid (Has W5 (q) 73 #[.pointer (some ⟨g, 0, none⟩), .slice At nt ctt]) := by rw [← hW5]; exact (HX4.out.far (p := ⟨q2, 1, none⟩) (by show q ≠ q2; omega) (.string ct))
 have HQ5 : Hid (Has W5 (q + 1) 33 #[.int .i64 0, .int .i64 0, .string ⟨#[]⟩, .slice none 0 0, .slice none 0 0, .int .i64 0, .string ⟨#[]⟩, .slice none 0 0, .int .i64 0, .string ⟨#[]⟩, .int .i64 0, .bool false]) := by rw [← hW5]; exact (HQ4.out.far (p := ⟨q2, 1, none⟩) (by show q + 1 ≠ q2; omega) (.string ct))
 have HC5 : Hid (Has W5 (q2) 31 #[.int .i64 4, .string ct, .slice none 0 0, .int .i64 0, .string ⟨#[]⟩, .int .i64 0, .bool false]) := by rw [← hW5]; exact (HC4.out.put 1 (.string ct))
 have HG5 : Hid (w.grownBy W5 (some g)) := by rw [← hW5]; exact (grn_set HG4.out (p := ⟨q2, 1, none⟩) (by show w.heap.size ≤ q2; omega) (.string ct))
 have HR5 : Hid (RdrD D W5 g (tl) 0) := by rw [← hW5]; exact HR4.out.keep hg ((Below.refl D w4).setCell (p := ⟨q2, 1, none⟩) (by show D ≤ q2; omega) (.string ct))
 have hzq_5 : q < W5.heap.size := by rw [← hW5]; simpa using hzq_4
 have hzqp1_5 : q + 1 < W5.heap.size := by rw [← hW5]; simpa using hzqp1_4
 have hzq2_5 : q2 < W5.heap.size := by rw [← hW5]; simpa using hzq2_4
 clear HX4 HQ4 HC4 HG4 HR4 hzq_4 hzqp1_4 hzq2_4
 have k0W5 : W5.cell? ⟨q2, 0, none⟩ = some (.int .i64 4) := HC5.out.cell 0
 have x0W5 : W5.cell? ⟨q, 0, none⟩ = some (.pointer (some ⟨g, 0, none⟩)) := HX5.out.cell 0
 have hr0 := HR5.out
 rw [htl] at hr0 hl2 hb2
 have HT2 := Lib.hid (txtD_put g 32 cn rest W5 hr0 (by omega) (by omega) hl2 hb2)
 clear hr0
 go_wp2_with fail
 clear hW5 x0W5 c1w4 f1w4 k0W5
 refine HT2.out.mono ?_
 rintro e w6 ⟨rfl, hr, hg6⟩
 clear HT2
 have HX6 := Lib.hid (HX5.out.grn hg6.out (by omega))
 have HQ6 := Lib.hid (HQ5.out.grn hg6.out (by omega))
 have HC6 := Lib.hid (HC5.out.grn hg6.out (by omega))
 have HG6 := Lib.hid (grown_trans HG5.out hg6.out)
 have HR6 := hr
 have hzq_6 : q < w6.heap.size := Nat.lt_of_lt_of_le hzq_5 hg6.out.size
 have hzqp1_6 : q + 1 < w6.heap.size := Nat.lt_of_lt_of_le hzqp1_5 hg6.out.size
 have hzq2_6 : q2 < w6.heap.size := Nat.lt_of_lt_of_le hzq2_5 hg6.out.size
 clear HX5 HQ5 HC5 HG5 HR5 hzq_5 hzqp1_5 hzq2_5 hr hg6
 have c4w6 : w6.cell? ⟨q2, 4, none⟩ = some (.string ⟨#[]⟩) := HC6.out.cell 4
 have f4w6 : w6.frozen? ⟨q2, 4, none⟩ = false := HC6.out.free 4
 obtain ⟨W7, hW7⟩ : ∃ W, (w6.setCell ⟨q2, 4, none⟩ (.string cn)) = W := ⟨_, rfl⟩
 have HX7 : Hid (Has W7 (q) 73 #[.pointer (some ⟨g, 0, none⟩), .slice At nt ctt]) := by rw [← hW7]; exact (HX6.out.far (p := ⟨q2, 4, none⟩) (by show q ≠ q2; omega) (.string cn))
 have HQ7 : Hid (Has W7 (q + 1) 33 #[.int .i64 0, .int .i64 0, .string ⟨#[]⟩, .slice none 0 0, .slice none 0 0, .int .i64 0, .string ⟨#[]⟩, .slice none 0 0, .int .i64 0, .string ⟨#[]⟩, .int .i64 0, .bool false]) := by rw [← hW7]; exact (HQ6.out.far (p := ⟨q2, 4, none⟩) (by show q + 1 ≠ q2; omega) (.string cn))
 have HC7 : Hid (Has W7 (q2) 31 #[.int .i64 4, .string ct, .slice none 0 0, .int .i64 0, .string cn, .int .i64 0, .bool false]) := by rw [← hW7]; exact (HC6.out.put 4 (.string cn))
 have HG7 : Hid (w.grownBy W7 (some g)) := by rw [← hW7]; exact (grn_set HG6.out (p := ⟨q2, 4, none⟩) (by show w.heap.size ≤ q2; omega) (.string cn))
 have HR7 : Hid (RdrD D W7 g (rest) 0) := by rw [← hW7]; exact HR6.out.keep hg ((Below.refl D w6).setCell (p := ⟨q2, 4, none⟩) (by show D ≤ q2; omega) (.string cn))
 have hzq_7 : q < W7.heap.size := by rw [← hW7]; simpa using hzq_6
 have hzqp1_7 : q + 1 < W7.heap.size := by rw [← hW7]; simpa using hzqp1_6
 have hzq2_7 : q2 < W7.heap.size := by rw [← hW7]; simpa using hzq2_6
 clear HX6 HQ6 HC6 HG6 HR6 hzq_6 hzqp1_6 hzq2_6
 go_wp2_with fail
 clear hW7 c4w6 f4w6
 obtain ⟨Wd, hWd⟩ : ∃ X, X = W7.drew := ⟨_, rfl⟩
 have hbd : Below W7.heap.size W7 Wd := by rw [hWd]; exact (Below.refl _ _).drew
 have HX8 := Lib.hid (HX7.out.below hbd HX7.out.lt)
 have HQ8 := Lib.hid (HQ7.out.below hbd HQ7.out.lt)
 have HC8 := Lib.hid (HC7.out.below hbd HC7.out.lt)
 have HG8 := Lib.hid (grn_below HG7.out hbd)
 have HR8 := Lib.hid (HR7.out.keep hg (hbd.mono (by omega)))
 have hzq_8 : q < Wd.heap.size := Nat.lt_of_lt_of_le hzq_7 hbd.size
 have hzqp1_8 : q + 1 < Wd.heap.size := Nat.lt_of_lt_of_le hzqp1_7 hbd.size
 have hzq2_8 : q2 < Wd.heap.size := Nat.lt_of_lt_of_le hzq2_7 hbd.size
 clear HX7 HQ7 HC7 HG7 HR7 hzq_7 hzqp1_7 hzq2_7
 have hSd : (fun X : World => X.cell? ⟨q2, 0, none⟩ = some (.int .i64 4) ∧ X.cell? ⟨q2, 1, none⟩ = some (.string ct) ∧ X.cell? ⟨q2, 2, none⟩ = some (.slice none 0 0) ∧ X.cell? ⟨q2, 3, none⟩ = some (.int .i64 0) ∧ X.cell? ⟨q2, 4, none⟩ = some (.string cn) ∧ X.cell? ⟨q2, 5, none⟩ = some (.int .i64 0) ∧ X.cell? ⟨q2, 6, none⟩ = some (.bool false)) Wd := ⟨HC8.out.cell 0, HC8.out.cell 1, HC8.out.cell 2, HC8.out.cell 3, HC8.out.cell 4, HC8.out.cell 5, HC8.out.cell 6⟩
 clear hbd
 refine wp_region_held_drew (S := (fun X : World => X.cell? ⟨q2, 0, none⟩ = some (.int .i64 4) ∧ X.cell? ⟨q2, 1, none⟩ = some (.string ct) ∧ X.cell? ⟨q2, 2, none⟩ = some (.slice none 0 0) ∧ X.cell? ⟨q2, 3, none⟩ = some (.int .i64 0) ∧ X.cell? ⟨q2, 4, none⟩ = some (.string cn) ∧ X.cell? ⟨q2, 5, none⟩ = some (.int .i64 0) ∧ X.cell? ⟨q2, 6, none⟩ = some (.bool false))) (by kernel_rfl) (hWd ▸ hSd) (fun _ => ?_)
 rw [← hWd]
 clear hWd
 (refine wpAnyH_take (i := 0) (v := ?_) rfl (by kernel_rfl) (by kernel_rfl) (by kernel_rfl) (fun _ _ _ h => h) (Or.inl ⟨by rfl, ?_⟩) (by assumption) ?_; rotate_left; (intro w hSw; (try dsimp only at hSw); go_simp; try with_reducible rfl); ((try simp only [zA, zB, zC, Act.put, zD, zE, zF])))
 (refine wpAnyH_take (i := 1) (v := ?_) rfl (by kernel_rfl) (by kernel_rfl) (by kernel_rfl) (fun _ _ _ h => h) (Or.inl ⟨by rfl, ?_⟩) (by assumption) ?_; rotate_left; (intro w hSw; (try dsimp only at hSw); go_simp; try with_reducible rfl); ((try simp only [zA, zB, zC, Act.put, zD, zE, zF])))
 (refine wpAnyH_take (i := 2) (v := ?_) rfl (by kernel_rfl) (by kernel_rfl) (by kernel_rfl) (fun _ _ _ h => h) (Or.inl ⟨by rfl, ?_⟩) (by assumption) ?_; rotate_left; (intro w hSw; (try dsimp only at hSw); go_simp; try with_reducible rfl); ((try simp only [zA, zB, zC, Act.put, zD, zE, zF])))
 refine wpAnyH_ready (rs := [3]) (by kernel_rfl) (by simp) ?_
 refine AllReadyH.cons rfl (fun K2 hK2 => ?_) AllReadyH.nil
 go_simp
 refine (form_any true Wd).mono ?_
 rintro e wx ⟨rfl, hwx⟩
 obtain rfl : Wd = wx := hwx.symm
 go_wp2_with fail
 refine hK2.out _ _ (by (try dsimp only); exact ⟨HC8.out.cell 0, HC8.out.cell 1, HC8.out.cell 2, HC8.out.cell 3, HC8.out.cell 4, HC8.out.cell 5, HC8.out.cell 6⟩) (fun _ => ?_)
 clear hK2 K2
 (try simp only [zA, zB, zC, Act.put, zD, zE, zF])
 obtain ⟨g0, g1, g2, g3, g4, g5, g6, g7, g8, g9, g10, g11, f0, f1, f2, f3, f4, f5, f6, f7, f8, f9, f10, f11⟩ := allE HQ8.out
 refine wpAnyH_ready (rs := [4]) (by kernel_rfl) (by simp) ?_
 refine AllReadyH.cons rfl (fun K2 hK2 => ?_) AllReadyH.nil
 go_simp
 have HP : Hid (Has (put12 Wd (q + 1) (.int .i64 0) (.int .i64 0) (.string ⟨#[]⟩) (.slice none 0 0) (.slice none 0 0) (.int .i64 4) (.string ct) (.slice none 0 0) (.int .i64 0) (.string cn) (.int .i64 0) (.bool false)) (q + 1) 33 #[.int .i64 0, .int .i64 0, .string ⟨#[]⟩, .slice none 0 0, .slice none 0 0, .int .i64 4, .string ct, .slice none 0 0, .int .i64 0, .string cn, .int .i64 0, .bool false]) := put12_has HQ8.out (.int .i64 0) (.int .i64 0) (.string ⟨#[]⟩) (.slice none 0 0) (.slice none 0 0) (.int .i64 4) (.string ct) (.slice none 0 0) (.int .i64 0) (.string cn) (.int .i64 0) (.bool false)
 clear f0 g0 f1 g1 f2 g2 f3 g3 f4 g4 f5 g5 f6 g6 f7 g7 f8 g8 f9 g9 f10 g10 f11 g11
 have ht := put12_tur Wd (q + 1) (.int .i64 0) (.int .i64 0) (.string ⟨#[]⟩) (.slice none 0 0) (.slice none 0 0) (.int .i64 4) (.string ct) (.slice none 0 0) (.int .i64 0) (.string cn) (.int .i64 0) (.bool false)
 have hput : put12 Wd (q + 1) (.int .i64 0) (.int .i64 0) (.string ⟨#[]⟩) (.slice none 0 0) (.slice none 0 0) (.int .i64 4) (.string ct) (.slice none 0 0) (.int .i64 0) (.string cn) (.int .i64 0) (.bool false) = ((((((((((((Wd.setCell ⟨q + 1, 0, none⟩ (.int .i64 0)).setCell ⟨q + 1, 1, none⟩ (.int .i64 0)).setCell ⟨q + 1, 2, none⟩ (.string ⟨#[]⟩)).setCell ⟨q + 1, 3, none⟩ (.slice none 0 0)).setCell ⟨q + 1, 4, none⟩ (.slice none 0 0)).setCell ⟨q + 1, 5, none⟩ (.int .i64 4)).setCell ⟨q + 1, 6, none⟩ (.string ct)).setCell ⟨q + 1, 7, none⟩ (.slice none 0 0)).setCell ⟨q + 1, 8, none⟩ (.int .i64 0)).setCell ⟨q + 1, 9, none⟩ (.string cn)).setCell ⟨q + 1, 10, none⟩ (.int .i64 0)).setCell ⟨q + 1, 11, none⟩ (.bool false)) := rfl
 rw [← hput]
 clear hput
 generalize put12 Wd (q + 1) (.int .i64 0) (.int .i64 0) (.string ⟨#[]⟩) (.slice none 0 0) (.slice none 0 0) (.int .i64 4) (.string ct) (.slice none 0 0) (.int .i64 0) (.string cn) (.int .i64 0) (.bool false) = P5 at HP ht ⊢
 have HX8P := Lib.hid (HX8.out.tur ht (by simp only [List.mem_singleton]; omega))
 have HC8P := Lib.hid (HC8.out.tur ht (by simp only [List.mem_singleton]; omega))
 have hbP : Below (q + 1) Wd P5 := ht.below (fun k hk => by simp at hk; omega) (by omega)
 refine hK2.out _ _ (by (try dsimp only); exact ⟨HC8P.out.cell 0, HC8P.out.cell 1, HC8P.out.cell 2, HC8P.out.cell 3, HC8P.out.cell 4, HC8P.out.cell 5, HC8P.out.cell 6⟩) (fun _ => ?_)
 clear hK2 K2
 (try simp only [zA, zB, zC, Act.put, zD, zE, zF])
 (refine wpAnyH_take (i := 5) (v := ?_) rfl (by kernel_rfl) (by kernel_rfl) (by kernel_rfl) (fun _ _ _ h => h) (Or.inl ⟨by rfl, ?_⟩) (by assumption) ?_; rotate_left; (intro w hSw; (try dsimp only at hSw); go_simp; try with_reducible rfl); ((try simp only [zA, zB, zC, Act.put, zD, zE, zF])))
 refine wpAnyH_done (by kernel_rfl) ?_ _
 go_wp2_with fail
 exact bodyPost_ret (evEndR rfl _ (q + 1) _ _ _ _ _ _ _ _ _ _ _ _ _ rfl HP.out) rfl ⟨rfl, HR8.out.keep hg (hbP.mono (by omega)), grn_lowB HG8.out hbP (by omega) (by omega)⟩
end Go.Proofs.YtnpmgempkoeapaaGreatDoor
