/-
  Put together, as far as it is used: EwV.
-/
import Derived.Test.YtnpmgempkoeapaaGreatDoorPebf
set_option linter.unusedVariables false
set_option linter.unusedSimpArgs false
set_option linter.defProp false
namespace Go.Proofs.YtnpmgempkoeapaaGreatDoor
open Go.RowKit Go.Maps Dg
set_option maxRecDepth 100000
set_option maxHeartbeats 8000000 in
theorem rwr_num (k m : Nat) (t : ByteArray) (ck K cq : Int) (Ab : Option Addr) (nb zb : Nat) (Aa : Option Addr) (na za : Nat) (ct : ByteArray) (A : Option Addr) (nl c : Nat) (cn : ByteArray) (cb : Bool) (At : Option Addr) (nt ctt : Nat) (w : World) (hk : k = 1 ∨ k = 2 ∨ k = 7 ∨ k = 8 ∨ k = 9 ∨ k = 10) (hm : (m : Int) ≤ 9223372036854775807) :
 Calls Tryz.prog 12 #[.agg #[.int .i64 ((k : Int)), .int .i64 ((m : Int)), .string t, .slice Ab nb zb, .slice Aa na za, .int .i64 (ck), .string ct, .slice A nl c, .int .i64 (K), .string cn, .int .i64 (cq), .bool cb], .slice At nt ctt] w fun e w' => ∃ v, e = .returned v ∧ Hid (Own w.heap.size w' v (k :: digs m)) ∧ Hid (Below w.heap.size w w') := by
 have hwk := u8_wrap k (by omega)
 have q6 : (((k : Int) != 6)) = true := by simp; omega
 have q35 : (k : Int) < 3 ∨ (5 : Int) < k := by omega
 obtain ⟨W, hW⟩ : ∃ X, w.alloc (.cells #[.int .i64 ((k : Int)), .int .i64 ((m : Int)), .string t, .slice Ab nb zb, .slice Aa na za, .int .i64 (ck), .string ct, .slice A nl c, .int .i64 (K), .string cn, .int .i64 (cq), .bool cb] 33) = X := ⟨_, rfl⟩
 have hHE : Has W w.heap.size 33 #[.int .i64 ((k : Int)), .int .i64 ((m : Int)), .string t, .slice Ab nb zb, .slice Aa na za, .int .i64 (ck), .string ct, .slice A nl c, .int .i64 (K), .string cn, .int .i64 (cq), .bool cb] := by rw [← hW]; exact Has.new _ _ _
 have hbW : Below w.heap.size w W := by rw [← hW]; exact (Below.refl _ w).alloc (Nat.le_refl _) _
 obtain ⟨W0, hW0⟩ : ∃ X, W.alloc (.cells #[.int .u8 (k : Int)] 5) = X := ⟨_, rfl⟩
 have hb0 : Below W.heap.size W W0 := by rw [← hW0]; exact (Below.refl _ W).alloc (Nat.le_refl _) _
 have HE0 := Lib.hid (hHE.below hb0 hHE.lt)
 have HB0 := Lib.hid (hbW.trans (hb0.mono hbW.size))
 have hlt : Has W0 W.heap.size 5 (([k] : List Nat).map bv).toArray := by rw [← hW0]; exact Has.new _ _ _
 have HO0 : Hid (Own w.heap.size W0 (.slice (some ⟨W.heap.size, 0, none⟩) 1 1) [k]) := own_lit hlt hbW.size (by simp) (by simp)
 have k0 : W.cell? ⟨w.heap.size, 0, none⟩ = some (.int .i64 ((k : Int))) := hHE.cell 0
 clear hHE hbW hb0 hlt
 rcases q35 with q3 | q5
 ·have q3b : ¬ (3 : Int) ≤ k := by omega
  go_enter Tryz.func12, Tryz.ntmps12
  have c0W0 : W0.cell? ⟨w.heap.size, 0, none⟩ = some (.int .i64 ((k : Int))) := HE0.out.cell 0
  have c1W0 : W0.cell? ⟨w.heap.size, 1, none⟩ = some (.int .i64 ((m : Int))) := HE0.out.cell 1
  go_wp2_with fail
  clear hW hW0
  refine (refNumber_any m W0 hm).mono ?_
  rintro e wc1 ⟨vc1, rfl, hoc1, hb1⟩
  obtain ⟨A1, na1, ca1, rfl, h11, _, h21, h31⟩ := own_openZ hoc1
  have HOc1 := Lib.hid (HO0.out.below hb1)
  have HBc1 := Lib.hid (HB0.out.trans (hb1.mono HB0.out.size))
  have HE1 := Lib.hid (HE0.out.below hb1 HE0.out.lt)
  obtain ⟨R1, W1, hrun1, ho1, hw1, hk1⟩ := eown_app wc1 w.heap.size (.slice (some ⟨W.heap.size, 0, none⟩) 1 1) ([k]) HOc1.out HBc1.out.size A1 (digs m) na1 ca1 h11.out h21.out (by have := h11.out; have := digs_le_ten m (by omega); simp only [List.length_singleton]; omega) h31.out
  have HO1 := Lib.hid ho1
  have HB1 := Lib.hid (HBc1.out.trans hw1)
  have HE1k := Lib.hid (hk1 w.heap.size 33 _ (by decide) HE1.out)
  clear ho1 hw1 hk1 hb1
  go_wp2_with (at_builtin; refine wpList_app rfl _ _ 37 37 rfl (.slice (some ⟨W.heap.size, 0, none⟩) 1 1) (.slice A1 na1 ca1) rfl rfl ⟨_, _, hrun1, ?_⟩)
  go_ret
  exact ⟨_, rfl, HO1, HB1⟩
 ·have q3b : (3 : Int) ≤ k := by omega
  have q5b : ¬ (k : Int) ≤ 5 := by omega
  go_enter Tryz.func12, Tryz.ntmps12
  have c0W0 : W0.cell? ⟨w.heap.size, 0, none⟩ = some (.int .i64 ((k : Int))) := HE0.out.cell 0
  have c1W0 : W0.cell? ⟨w.heap.size, 1, none⟩ = some (.int .i64 ((m : Int))) := HE0.out.cell 1
  go_wp2_with fail
  clear hW hW0
  refine (refNumber_any m W0 hm).mono ?_
  rintro e wc1 ⟨vc1, rfl, hoc1, hb1⟩
  obtain ⟨A1, na1, ca1, rfl, h11, _, h21, h31⟩ := own_openZ hoc1
  have HOc1 := Lib.hid (HO0.out.below hb1)
  have HBc1 := Lib.hid (HB0.out.trans (hb1.mono HB0.out.size))
  have HE1 := Lib.hid (HE0.out.below hb1 HE0.out.lt)
  obtain ⟨R1, W1, hrun1, ho1, hw1, hk1⟩ := eown_app wc1 w.heap.size (.slice (some ⟨W.heap.size, 0, none⟩) 1 1) ([k]) HOc1.out HBc1.out.size A1 (digs m) na1 ca1 h11.out h21.out (by have := h11.out; have := digs_le_ten m (by omega); simp only [List.length_singleton]; omega) h31.out
  have HO1 := Lib.hid ho1
  have HB1 := Lib.hid (HBc1.out.trans hw1)
  have HE1k := Lib.hid (hk1 w.heap.size 33 _ (by decide) HE1.out)
  clear ho1 hw1 hk1 hb1
  go_wp2_with (at_builtin; refine wpList_app rfl _ _ 37 37 rfl (.slice (some ⟨W.heap.size, 0, none⟩) 1 1) (.slice A1 na1 ca1) rfl rfl ⟨_, _, hrun1, ?_⟩)
  go_ret
  exact ⟨_, rfl, HO1, HB1⟩
set_option maxHeartbeats 8000000 in
theorem rwr_3 (n : Int) (t : ByteArray) (ck K cq : Int) (Ab : Option Addr) (nb zb : Nat) (Aa : Option Addr) (na za : Nat) (ct : ByteArray) (A : Option Addr) (nl c : Nat) (cn : ByteArray) (cb : Bool) (At : Option Addr) (nt ctt : Nat) (w : World) (ht : t.size ≤ 900) (R : List Vl) (hnr : R.length = na) (hncr : na ≤ za) (hR : VRow w Aa R) (hmay : ∀ x ∈ R, x.may = true) (hfit : ∀ x ∈ R, x.fits) (hsz : ∀ x ∈ R, x.s.size ≤ 1000) (h1 : 1 ≤ na) (h8 : na ≤ 8) :
 Calls Tryz.prog 12 #[.agg #[.int .i64 (3), .int .i64 (n), .string t, .slice Ab nb zb, .slice Aa na za, .int .i64 (ck), .string ct, .slice A nl c, .int .i64 (K), .string cn, .int .i64 (cq), .bool cb], .slice At nt ctt] w fun e w' => ∃ v, e = .returned v ∧ Hid (Own w.heap.size w' v (3 :: (ytxt t ++ imgF R))) ∧ Hid (Below w.heap.size w w') := by
 obtain ⟨W, hW⟩ : ∃ X, w.alloc (.cells #[.int .i64 (3), .int .i64 (n), .string t, .slice Ab nb zb, .slice Aa na za, .int .i64 (ck), .string ct, .slice A nl c, .int .i64 (K), .string cn, .int .i64 (cq), .bool cb] 33) = X := ⟨_, rfl⟩
 have hHE : Has W w.heap.size 33 #[.int .i64 (3), .int .i64 (n), .string t, .slice Ab nb zb, .slice Aa na za, .int .i64 (ck), .string ct, .slice A nl c, .int .i64 (K), .string cn, .int .i64 (cq), .bool cb] := by rw [← hW]; exact Has.new _ _ _
 have hbW : Below w.heap.size w W := by rw [← hW]; exact (Below.refl _ w).alloc (Nat.le_refl _) _
 obtain ⟨W0, hW0⟩ : ∃ X, W.alloc (.cells #[.int .u8 3] 5) = X := ⟨_, rfl⟩
 have hb0 : Below W.heap.size W W0 := by rw [← hW0]; exact (Below.refl _ W).alloc (Nat.le_refl _) _
 have HE0 := Lib.hid (hHE.below hb0 hHE.lt)
 have HB0 := Lib.hid (hbW.trans (hb0.mono hbW.size))
 have hlt : Has W0 W.heap.size 5 (([3] : List Nat).map bv).toArray := by rw [← hW0]; exact Has.new _ _ _
 have HO0 : Hid (Own w.heap.size W0 (.slice (some ⟨W.heap.size, 0, none⟩) 1 1) [3]) := own_lit hlt hbW.size (by simp) (by simp)
 have k0 : W.cell? ⟨w.heap.size, 0, none⟩ = some (.int .i64 (3)) := hHE.cell 0
 clear hHE hbW hb0 hlt
 go_enter Tryz.func12, Tryz.ntmps12
 have c0W0 : W0.cell? ⟨w.heap.size, 0, none⟩ = some (.int .i64 (3)) := HE0.out.cell 0
 have c2W0 : W0.cell? ⟨w.heap.size, 2, none⟩ = some (.string t) := HE0.out.cell 2
 go_wp2_with fail
 clear hW hW0
 refine (refText_any t W0 (by omega)).mono ?_
 rintro e wc1 ⟨vc1, rfl, hoc1, hb1⟩
 obtain ⟨A1, na1, ca1, rfl, h11, _, h21, h31⟩ := own_openZ hoc1
 have HOc1 := Lib.hid (HO0.out.below hb1)
 have HBc1 := Lib.hid (HB0.out.trans (hb1.mono HB0.out.size))
 have HE1 := Lib.hid (HE0.out.below hb1 HE0.out.lt)
 obtain ⟨R1, W1, hrun1, ho1, hw1, hk1⟩ := eown_app wc1 w.heap.size (.slice (some ⟨W.heap.size, 0, none⟩) 1 1) ([3]) HOc1.out HBc1.out.size A1 (ytxt t) na1 ca1 h11.out h21.out (by have := h11.out; have := ytxt_len t (by omega); simp only [List.length_append, List.length_cons, List.length_nil, List.length_singleton]; omega) h31.out
 have HO1 := Lib.hid ho1
 have HB1 := Lib.hid (HBc1.out.trans hw1)
 have HE1k := Lib.hid (hk1 w.heap.size 33 _ (by decide) HE1.out)
 clear ho1 hw1 hk1 hb1
 have d0W1 : W1.cell? ⟨w.heap.size, 0, none⟩ = some (.int .i64 (3)) := HE1k.out.cell 0
 have d3W1 : W1.cell? ⟨w.heap.size, 3, none⟩ = some (.slice Ab nb zb) := HE1k.out.cell 3
 have d4W1 : W1.cell? ⟨w.heap.size, 4, none⟩ = some (.slice Aa na za) := HE1k.out.cell 4
 go_wp2_with (at_builtin; refine wpList_app rfl _ _ 37 37 rfl (.slice (some ⟨W.heap.size, 0, none⟩) 1 1) (.slice A1 na1 ca1) rfl rfl ⟨_, _, hrun1, ?_⟩)
 refine (rwrite_any Aa R na za W1 h1 h8 hnr hncr (hR.below HB1.out) hmay hfit hsz).mono ?_
 rintro e wc2 ⟨vc2, rfl, hoc2, hb2⟩
 obtain ⟨A2, na2, ca2, rfl, h12, _, h22, h32⟩ := own_openZ hoc2.out
 have HOc2 := Lib.hid (HO1.out.below hb2.out)
 have HBc2 := Lib.hid (HB1.out.trans (hb2.out.mono HB1.out.size))
 have HE1k2 := Lib.hid (HE1k.out.below hb2.out HE1k.out.lt)
 obtain ⟨R2, W2, hrun2, ho2, hw2, hk2⟩ := eown_app wc2 w.heap.size (R1) ([3] ++ ytxt t) HOc2.out HBc2.out.size A2 (imgF R) na2 ca2 h12.out h22.out (by have := h12.out; have := ytxt_len t (by omega); have := eimg_len R (by omega) (fun x hx => ⟨hsz x hx, hfit x hx⟩); simp only [List.length_append, List.length_cons, List.length_nil, List.length_singleton]; omega) h32.out
 have HO2 := Lib.hid ho2
 have HB2 := Lib.hid (HBc2.out.trans hw2)
 have HE1k2k := Lib.hid (hk2 w.heap.size 33 _ (by decide) HE1k2.out)
 clear ho2 hw2 hk2 hb2
 go_wp2_with (at_builtin; refine wpList_app rfl _ _ 37 37 rfl (R1) (.slice A2 na2 ca2) rfl rfl ⟨_, _, hrun2, ?_⟩)
 go_ret
 exact ⟨_, rfl, by show Own _ _ _ _; simpa [List.append_assoc] using HO2.out, HB2⟩
set_option maxHeartbeats 8000000 in
theorem rwr_4 (n : Int) (t : ByteArray) (ck K cq : Int) (Ab : Option Addr) (nb zb : Nat) (Aa : Option Addr) (na za : Nat) (ct : ByteArray) (A : Option Addr) (nl c : Nat) (cn : ByteArray) (cb : Bool) (At : Option Addr) (nt ctt : Nat) (w : World) (ht : t.size ≤ 900) (R : List Vl) (hnr : R.length = na) (hncr : na ≤ za) (hR : VRow w Aa R) (hmay : ∀ x ∈ R, x.may = true) (hfit : ∀ x ∈ R, x.fits) (hsz : ∀ x ∈ R, x.s.size ≤ 1000) (h1 : 1 ≤ na) (h8 : na ≤ 8) :
 Calls Tryz.prog 12 #[.agg #[.int .i64 (4), .int .i64 (n), .string t, .slice Ab nb zb, .slice Aa na za, .int .i64 (ck), .string ct, .slice A nl c, .int .i64 (K), .string cn, .int .i64 (cq), .bool cb], .slice At nt ctt] w fun e w' => ∃ v, e = .returned v ∧ Hid (Own w.heap.size w' v (4 :: (ytxt t ++ imgF R))) ∧ Hid (Below w.heap.size w w') := by
 obtain ⟨W, hW⟩ : ∃ X, w.alloc (.cells #[.int .i64 (4), .int .i64 (n), .string t, .slice Ab nb zb, .slice Aa na za, .int .i64 (ck), .string ct, .slice A nl c, .int .i64 (K), .string cn, .int .i64 (cq), .bool cb] 33) = X := ⟨_, rfl⟩
 have hHE : Has W w.heap.size 33 #[.int .i64 (4), .int .i64 (n), .string t, .slice Ab nb zb, .slice Aa na za, .int .i64 (ck), .string ct, .slice A nl c, .int .i64 (K), .string cn, .int .i64 (cq), .bool cb] := by rw [← hW]; exact Has.new _ _ _
 have hbW : Below w.heap.size w W := by rw [← hW]; exact (Below.refl _ w).alloc (Nat.le_refl _) _
 obtain ⟨W0, hW0⟩ : ∃ X, W.alloc (.cells #[.int .u8 4] 5) = X := ⟨_, rfl⟩
 have hb0 : Below W.heap.size W W0 := by rw [← hW0]; exact (Below.refl _ W).alloc (Nat.le_refl _) _
 have HE0 := Lib.hid (hHE.below hb0 hHE.lt)
 have HB0 := Lib.hid (hbW.trans (hb0.mono hbW.size))
 have hlt : Has W0 W.heap.size 5 (([4] : List Nat).map bv).toArray := by rw [← hW0]; exact Has.new _ _ _
 have HO0 : Hid (Own w.heap.size W0 (.slice (some ⟨W.heap.size, 0, none⟩) 1 1) [4]) := own_lit hlt hbW.size (by simp) (by simp)
 have k0 : W.cell? ⟨w.heap.size, 0, none⟩ = some (.int .i64 (4)) := hHE.cell 0
 clear hHE hbW hb0 hlt
 go_enter Tryz.func12, Tryz.ntmps12
 have c0W0 : W0.cell? ⟨w.heap.size, 0, none⟩ = some (.int .i64 (4)) := HE0.out.cell 0
 have c2W0 : W0.cell? ⟨w.heap.size, 2, none⟩ = some (.string t) := HE0.out.cell 2
 go_wp2_with fail
 clear hW hW0
 refine (refText_any t W0 (by omega)).mono ?_
 rintro e wc1 ⟨vc1, rfl, hoc1, hb1⟩
 obtain ⟨A1, na1, ca1, rfl, h11, _, h21, h31⟩ := own_openZ hoc1
 have HOc1 := Lib.hid (HO0.out.below hb1)
 have HBc1 := Lib.hid (HB0.out.trans (hb1.mono HB0.out.size))
 have HE1 := Lib.hid (HE0.out.below hb1 HE0.out.lt)
 obtain ⟨R1, W1, hrun1, ho1, hw1, hk1⟩ := eown_app wc1 w.heap.size (.slice (some ⟨W.heap.size, 0, none⟩) 1 1) ([4]) HOc1.out HBc1.out.size A1 (ytxt t) na1 ca1 h11.out h21.out (by have := h11.out; have := ytxt_len t (by omega); simp only [List.length_append, List.length_cons, List.length_nil, List.length_singleton]; omega) h31.out
 have HO1 := Lib.hid ho1
 have HB1 := Lib.hid (HBc1.out.trans hw1)
 have HE1k := Lib.hid (hk1 w.heap.size 33 _ (by decide) HE1.out)
 clear ho1 hw1 hk1 hb1
 have d0W1 : W1.cell? ⟨w.heap.size, 0, none⟩ = some (.int .i64 (4)) := HE1k.out.cell 0
 have d3W1 : W1.cell? ⟨w.heap.size, 3, none⟩ = some (.slice Ab nb zb) := HE1k.out.cell 3
 have d4W1 : W1.cell? ⟨w.heap.size, 4, none⟩ = some (.slice Aa na za) := HE1k.out.cell 4
 go_wp2_with (at_builtin; refine wpList_app rfl _ _ 37 37 rfl (.slice (some ⟨W.heap.size, 0, none⟩) 1 1) (.slice A1 na1 ca1) rfl rfl ⟨_, _, hrun1, ?_⟩)
 refine (rwrite_any Aa R na za W1 h1 h8 hnr hncr (hR.below HB1.out) hmay hfit hsz).mono ?_
 rintro e wc2 ⟨vc2, rfl, hoc2, hb2⟩
 obtain ⟨A2, na2, ca2, rfl, h12, _, h22, h32⟩ := own_openZ hoc2.out
 have HOc2 := Lib.hid (HO1.out.below hb2.out)
 have HBc2 := Lib.hid (HB1.out.trans (hb2.out.mono HB1.out.size))
 have HE1k2 := Lib.hid (HE1k.out.below hb2.out HE1k.out.lt)
 obtain ⟨R2, W2, hrun2, ho2, hw2, hk2⟩ := eown_app wc2 w.heap.size (R1) ([4] ++ ytxt t) HOc2.out HBc2.out.size A2 (imgF R) na2 ca2 h12.out h22.out (by have := h12.out; have := ytxt_len t (by omega); have := eimg_len R (by omega) (fun x hx => ⟨hsz x hx, hfit x hx⟩); simp only [List.length_append, List.length_cons, List.length_nil, List.length_singleton]; omega) h32.out
 have HO2 := Lib.hid ho2
 have HB2 := Lib.hid (HBc2.out.trans hw2)
 have HE1k2k := Lib.hid (hk2 w.heap.size 33 _ (by decide) HE1k2.out)
 clear ho2 hw2 hk2 hb2
 go_wp2_with (at_builtin; refine wpList_app rfl _ _ 37 37 rfl (R1) (.slice A2 na2 ca2) rfl rfl ⟨_, _, hrun2, ?_⟩)
 go_ret
 exact ⟨_, rfl, by show Own _ _ _ _; simpa [List.append_assoc] using HO2.out, HB2⟩
set_option maxHeartbeats 8000000 in
theorem rwr_5 (n : Int) (t : ByteArray) (ck K cq : Int) (Ab : Option Addr) (nb zb : Nat) (Aa : Option Addr) (na za : Nat) (ct : ByteArray) (A : Option Addr) (nl c : Nat) (cn : ByteArray) (cb : Bool) (At : Option Addr) (nt ctt : Nat) (w : World) (ht : t.size ≤ 900) (R : List Vl) (hnr : R.length = nb) (hncr : nb ≤ zb) (hR : VRow w Ab R) (hmay : ∀ x ∈ R, x.may = true) (hfit : ∀ x ∈ R, x.fits) (hsz : ∀ x ∈ R, x.s.size ≤ 1000) (h1 : 1 ≤ nb) (h8 : nb ≤ 8) :
 Calls Tryz.prog 12 #[.agg #[.int .i64 (5), .int .i64 (n), .string t, .slice Ab nb zb, .slice Aa na za, .int .i64 (ck), .string ct, .slice A nl c, .int .i64 (K), .string cn, .int .i64 (cq), .bool cb], .slice At nt ctt] w fun e w' => ∃ v, e = .returned v ∧ Hid (Own w.heap.size w' v (5 :: (ytxt t ++ imgF R))) ∧ Hid (Below w.heap.size w w') := by
 obtain ⟨W, hW⟩ : ∃ X, w.alloc (.cells #[.int .i64 (5), .int .i64 (n), .string t, .slice Ab nb zb, .slice Aa na za, .int .i64 (ck), .string ct, .slice A nl c, .int .i64 (K), .string cn, .int .i64 (cq), .bool cb] 33) = X := ⟨_, rfl⟩
 have hHE : Has W w.heap.size 33 #[.int .i64 (5), .int .i64 (n), .string t, .slice Ab nb zb, .slice Aa na za, .int .i64 (ck), .string ct, .slice A nl c, .int .i64 (K), .string cn, .int .i64 (cq), .bool cb] := by rw [← hW]; exact Has.new _ _ _
 have hbW : Below w.heap.size w W := by rw [← hW]; exact (Below.refl _ w).alloc (Nat.le_refl _) _
 obtain ⟨W0, hW0⟩ : ∃ X, W.alloc (.cells #[.int .u8 5] 5) = X := ⟨_, rfl⟩
 have hb0 : Below W.heap.size W W0 := by rw [← hW0]; exact (Below.refl _ W).alloc (Nat.le_refl _) _
 have HE0 := Lib.hid (hHE.below hb0 hHE.lt)
 have HB0 := Lib.hid (hbW.trans (hb0.mono hbW.size))
 have hlt : Has W0 W.heap.size 5 (([5] : List Nat).map bv).toArray := by rw [← hW0]; exact Has.new _ _ _
 have HO0 : Hid (Own w.heap.size W0 (.slice (some ⟨W.heap.size, 0, none⟩) 1 1) [5]) := own_lit hlt hbW.size (by simp) (by simp)
 have k0 : W.cell? ⟨w.heap.size, 0, none⟩ = some (.int .i64 (5)) := hHE.cell 0
 clear hHE hbW hb0 hlt
 go_enter Tryz.func12, Tryz.ntmps12
 have c0W0 : W0.cell? ⟨w.heap.size, 0, none⟩ = some (.int .i64 (5)) := HE0.out.cell 0
 have c2W0 : W0.cell? ⟨w.heap.size, 2, none⟩ = some (.string t) := HE0.out.cell 2
 go_wp2_with fail
 clear hW hW0
 refine (refText_any t W0 (by omega)).mono ?_
 rintro e wc1 ⟨vc1, rfl, hoc1, hb1⟩
 obtain ⟨A1, na1, ca1, rfl, h11, _, h21, h31⟩ := own_openZ hoc1
 have HOc1 := Lib.hid (HO0.out.below hb1)
 have HBc1 := Lib.hid (HB0.out.trans (hb1.mono HB0.out.size))
 have HE1 := Lib.hid (HE0.out.below hb1 HE0.out.lt)
 obtain ⟨R1, W1, hrun1, ho1, hw1, hk1⟩ := eown_app wc1 w.heap.size (.slice (some ⟨W.heap.size, 0, none⟩) 1 1) ([5]) HOc1.out HBc1.out.size A1 (ytxt t) na1 ca1 h11.out h21.out (by have := h11.out; have := ytxt_len t (by omega); simp only [List.length_append, List.length_cons, List.length_nil, List.length_singleton]; omega) h31.out
 have HO1 := Lib.hid ho1
 have HB1 := Lib.hid (HBc1.out.trans hw1)
 have HE1k := Lib.hid (hk1 w.heap.size 33 _ (by decide) HE1.out)
 clear ho1 hw1 hk1 hb1
 have d0W1 : W1.cell? ⟨w.heap.size, 0, none⟩ = some (.int .i64 (5)) := HE1k.out.cell 0
 have d3W1 : W1.cell? ⟨w.heap.size, 3, none⟩ = some (.slice Ab nb zb) := HE1k.out.cell 3
 have d4W1 : W1.cell? ⟨w.heap.size, 4, none⟩ = some (.slice Aa na za) := HE1k.out.cell 4
 go_wp2_with (at_builtin; refine wpList_app rfl _ _ 37 37 rfl (.slice (some ⟨W.heap.size, 0, none⟩) 1 1) (.slice A1 na1 ca1) rfl rfl ⟨_, _, hrun1, ?_⟩)
 refine (rwrite_any Ab R nb zb W1 h1 h8 hnr hncr (hR.below HB1.out) hmay hfit hsz).mono ?_
 rintro e wc2 ⟨vc2, rfl, hoc2, hb2⟩
 obtain ⟨A2, na2, ca2, rfl, h12, _, h22, h32⟩ := own_openZ hoc2.out
 have HOc2 := Lib.hid (HO1.out.below hb2.out)
 have HBc2 := Lib.hid (HB1.out.trans (hb2.out.mono HB1.out.size))
 have HE1k2 := Lib.hid (HE1k.out.below hb2.out HE1k.out.lt)
 obtain ⟨R2, W2, hrun2, ho2, hw2, hk2⟩ := eown_app wc2 w.heap.size (R1) ([5] ++ ytxt t) HOc2.out HBc2.out.size A2 (imgF R) na2 ca2 h12.out h22.out (by have := h12.out; have := ytxt_len t (by omega); have := eimg_len R (by omega) (fun x hx => ⟨hsz x hx, hfit x hx⟩); simp only [List.length_append, List.length_cons, List.length_nil, List.length_singleton]; omega) h32.out
 have HO2 := Lib.hid ho2
 have HB2 := Lib.hid (HBc2.out.trans hw2)
 have HE1k2k := Lib.hid (hk2 w.heap.size 33 _ (by decide) HE1k2.out)
 clear ho2 hw2 hk2 hb2
 go_wp2_with (at_builtin; refine wpList_app rfl _ _ 37 37 rfl (R1) (.slice A2 na2 ca2) rfl rfl ⟨_, _, hrun2, ?_⟩)
 go_ret
 exact ⟨_, rfl, by show Own _ _ _ _; simpa [List.append_assoc] using HO2.out, HB2⟩
end Go.Proofs.YtnpmgempkoeapaaGreatDoor
