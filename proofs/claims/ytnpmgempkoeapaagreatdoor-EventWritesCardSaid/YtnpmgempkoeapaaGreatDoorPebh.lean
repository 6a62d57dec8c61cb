/-
  Put together, as far as it is used: EwU.
-/
import Derived.Test.YtnpmgempkoeapaaGreatDoorPebg
set_option linter.unusedVariables false
set_option linter.unusedSimpArgs false
set_option linter.defProp false
namespace Go.Proofs.YtnpmgempkoeapaaGreatDoor
open Go.RowKit Go.Maps Dg
set_option maxRecDepth 100000
set_option maxHeartbeats 8000000 in
theorem rwr_alt1 (n : Int) (t : ByteArray) (K cq : Nat) (L : List Cl) (Ab : Option Addr) (nb zb : Nat) (Aa : Option Addr) (na za : Nat) (ct : ByteArray) (A : Option Addr) (nl c : Nat) (cn : ByteArray) (cb : Bool) (At : Option Addr) (nt ctt : Nat) (w : World) (hA0 : CRow w A L) (hL0 : L.length = nl) (hok0 : ChOk 1 ct L K ⟨cn, (cq : Int), cb⟩) :
 Calls Tryz.prog 12 #[.agg #[.int .i64 (6), .int .i64 (n), .string t, .slice Ab nb zb, .slice Aa na za, .int .i64 (1), .string ct, .slice A nl c, .int .i64 ((K : Int)), .string cn, .int .i64 ((cq : Int)), .bool cb], .slice At nt ctt] w fun e w' => ∃ v, e = .returned v ∧ Hid (Own w.heap.size w' v (6 :: chB 1 ct L K ⟨cn, (cq : Int), cb⟩)) ∧ Hid (Below w.heap.size w w') := by
 have HA := Lib.hid hA0
 have hLn := Lib.hid hL0
 have hok := Lib.hid hok0
 clear hA0 hL0 hok0
 obtain ⟨W, hW⟩ : ∃ X, w.alloc (.cells #[.int .i64 (6), .int .i64 (n), .string t, .slice Ab nb zb, .slice Aa na za, .int .i64 (1), .string ct, .slice A nl c, .int .i64 ((K : Int)), .string cn, .int .i64 ((cq : Int)), .bool cb] 33) = X := ⟨_, rfl⟩
 have hHE : Has W w.heap.size 33 #[.int .i64 (6), .int .i64 (n), .string t, .slice Ab nb zb, .slice Aa na za, .int .i64 (1), .string ct, .slice A nl c, .int .i64 ((K : Int)), .string cn, .int .i64 ((cq : Int)), .bool cb] := by rw [← hW]; exact Has.new _ _ _
 have hbW : Below w.heap.size w W := by rw [← hW]; exact (Below.refl _ w).alloc (Nat.le_refl _) _
 obtain ⟨W0, hW0⟩ : ∃ X, W.alloc (.cells #[.int .u8 6] 5) = X := ⟨_, rfl⟩
 have hb0 : Below W.heap.size W W0 := by rw [← hW0]; exact (Below.refl _ W).alloc (Nat.le_refl _) _
 have HE0 := Lib.hid (hHE.below hb0 hHE.lt)
 have HB0 := Lib.hid (hbW.trans (hb0.mono hbW.size))
 have hlt : Has W0 W.heap.size 5 (([6] : List Nat).map bv).toArray := by rw [← hW0]; exact Has.new _ _ _
 have HO0 : Hid (Own w.heap.size W0 (.slice (some ⟨W.heap.size, 0, none⟩) 1 1) [6]) := own_lit hlt hbW.size (by simp) (by simp)
 have k0 : W.cell? ⟨w.heap.size, 0, none⟩ = some (.int .i64 (6)) := hHE.cell 0
 clear hHE hbW hb0 hlt
 go_enter Tryz.func12, Tryz.ntmps12
 have hwK := u8_wrap K hok.out.K
 have hwn := u8_wrap nl (by have := hok.out.L.1; have := hLn.out; omega)
 have c0W0 : W0.cell? ⟨w.heap.size, 0, none⟩ = some (.int .i64 (6)) := HE0.out.cell 0
 have c5W0 : W0.cell? ⟨w.heap.size, 5, none⟩ = some (.int .i64 (1)) := HE0.out.cell 5
 have c6W0 : W0.cell? ⟨w.heap.size, 6, none⟩ = some (.string ct) := HE0.out.cell 6
 have c7W0 : W0.cell? ⟨w.heap.size, 7, none⟩ = some (.slice A nl c) := HE0.out.cell 7
 have c8W0 : W0.cell? ⟨w.heap.size, 8, none⟩ = some (.int .i64 ((K : Int))) := HE0.out.cell 8
 have c9W0 : W0.cell? ⟨w.heap.size, 9, none⟩ = some (.string cn) := HE0.out.cell 9
 have c10W0 : W0.cell? ⟨w.heap.size, 10, none⟩ = some (.int .i64 ((cq : Int))) := HE0.out.cell 10
 have c11W0 : W0.cell? ⟨w.heap.size, 11, none⟩ = some (.bool cb) := HE0.out.cell 11
 obtain ⟨Wc, hWc⟩ : ∃ X, X = W0.alloc (.cells #[.int .i64 1, .string ct, .slice A nl c, .int .i64 (K : Int), .string cn, .int .i64 (cq : Int), .bool cb] 31) := ⟨_, rfl⟩
 obtain ⟨qc, hqc⟩ : ∃ q, W0.heap.size = q := ⟨_, rfl⟩
 have hbc : Below W0.heap.size W0 Wc := by rw [hWc]; exact (Below.refl _ W0).alloc (Nat.le_refl _) _
 have HCc : Hid (Has Wc qc 31 #[.int .i64 1, .string ct, .slice A nl c, .int .i64 (K : Int), .string cn, .int .i64 (cq : Int), .bool cb]) := by rw [hWc, ← hqc]; exact Has.new _ _ _
 have HOc := Lib.hid (HO0.out.below hbc)
 have HBc := Lib.hid (HB0.out.trans (hbc.mono HB0.out.size))
 obtain ⟨R1, W1, hrun1, ho1, hw1, hk1⟩ := app_at Wc (W0.heap.size + 1) (by rw [hWc]; simp) w.heap.size (.slice (some ⟨W.heap.size, 0, none⟩) 1 1) [6] [1] #[.int .u8 1] (by simp [bv]) 1 rfl HOc.out HBc.out.size (by simp)
 rw [hWc, hqc] at hrun1
 have HO1 := Lib.hid ho1
 have HB1 := Lib.hid (HBc.out.trans hw1)
 have HC1 := Lib.hid (hk1 qc 31 _ (by decide) HCc.out)
 clear ho1 hw1 hk1 hWc hbc HOc HBc HCc HE0
 have e0W1 : W1.cell? ⟨qc, 0, none⟩ = some (.int .i64 1) := HC1.out.cell 0
 have e1W1 : W1.cell? ⟨qc, 1, none⟩ = some (.string ct) := HC1.out.cell 1
 go_wp2_with (at_builtin; refine wpList_app rfl _ _ 37 37 rfl (.slice (some ⟨W.heap.size, 0, none⟩) 1 1) (.slice (some ⟨qc + 1, 0, none⟩) 1 1) rfl rfl ⟨_, _, hrun1, ?_⟩)
 clear hW hW0 hrun1
 refine (refText_any ct W1 hok.out.ct).mono ?_
 rintro e wc2 ⟨vc2, rfl, hoc2, hb2⟩
 obtain ⟨A2, na2, ca2, rfl, h12, _, h22, h32⟩ := own_openZ hoc2
 have HOc2 := Lib.hid (HO1.out.below hb2)
 have HBc2 := Lib.hid (HB1.out.trans (hb2.mono HB1.out.size))
 have HC2 := Lib.hid (HC1.out.below hb2 HC1.out.lt)
 obtain ⟨R2, W2, hrun2, ho2, hw2, hk2⟩ := eown_app wc2 w.heap.size (R1) ([6] ++ [1]) HOc2.out HBc2.out.size A2 (ytxt ct) na2 ca2 h12.out h22.out (by have := h12.out; have h9 := ytxt_len ct hok.out.ct; simp only [List.length_append, List.length_cons, List.length_nil, List.length_singleton]; omega) h32.out
 have HO2 := Lib.hid ho2
 have HB2 := Lib.hid (HBc2.out.trans hw2)
 have HC2k := Lib.hid (hk2 qc 31 _ (by decide) HC2.out)
 clear ho2 hw2 hk2 hb2
 have d0W2 : W2.cell? ⟨qc, 0, none⟩ = some (.int .i64 1) := HC2k.out.cell 0
 have d2W2 : W2.cell? ⟨qc, 2, none⟩ = some (.slice A nl c) := HC2k.out.cell 2
 have d3W2 : W2.cell? ⟨qc, 3, none⟩ = some (.int .i64 (K : Int)) := HC2k.out.cell 3
 obtain ⟨R3, W3, hrun3, ho3, hw3, hk3⟩ := app_at W2 W2.heap.size rfl w.heap.size (R2) ([6] ++ [1] ++ ytxt ct) [K, nl] #[.int .u8 K, .int .u8 nl] (by simp [bv]) 2 rfl HO2.out HB2.out.size (by have h9 := ytxt_len ct hok.out.ct; simp only [List.length_append, List.length_cons, List.length_nil, List.length_singleton]; omega)
 have HO3 := Lib.hid ho3
 have HB3 := Lib.hid (HB2.out.trans hw3)
 have HC3 := Lib.hid (hk3 qc 31 _ (by decide) HC2k.out)
 clear ho3 hw3 hk3
 have f2W3 : W3.cell? ⟨qc, 2, none⟩ = some (.slice A nl c) := HC3.out.cell 2
 go_wp2_with (at_builtin; first | (refine wpList_app rfl _ _ 37 37 rfl (R1) (.slice A2 na2 ca2) rfl rfl ⟨_, _, hrun2, ?_⟩) | (refine wpList_app rfl _ _ 37 37 rfl (R2) (.slice (some ⟨W2.heap.size, 0, none⟩) 2 2) rfl rfl ⟨_, _, hrun3, ?_⟩))
 clear f2W3 hrun3 hrun2
 obtain ⟨M, hM⟩ : ∃ M, M = [6] ++ [1] ++ ytxt ct ++ [K, nl] := ⟨_, rfl⟩
 have hML : M.length ≤ 2002 := by rw [hM]; have h9 := ytxt_len ct hok.out.ct; simp only [List.length_append, List.length_cons, List.length_nil]; omega
 rw [← hM] at HO3
 have HM := Lib.hid hM
 clear hM
 go_loopw [5, 8] (fun b i wr => ∃ (k : Nat) (u : Value), k ≤ nl ∧ i = .int .i64 k ∧ u = b ∧ Hid (Own w.heap.size wr u (M ++ colsB L k)) ∧ Hid (Below w.heap.size w wr) ∧ Hid (Has wr qc 31 #[.int .i64 1, .string ct, .slice A nl c, .int .i64 (K : Int), .string cn, .int .i64 (cq : Int), .bool cb])) (fun _ i _ => nl - (intOf i).toNat)
 case atStart => exact ⟨0, _, by omega, rfl, rfl, by show Own _ _ _ _; simpa [colsB] using HO3.out, HB3, HC3⟩
 case round =>
  obtain ⟨k, u, hkn, rfl, rfl, HO, HBr, HCr⟩ := hrel
  have r2 : wr.cell? ⟨qc, 2, none⟩ = some (.slice A nl c) := HCr.out.cell 2
  by_cases hkl : k < nl
  ·have hkt : k < L.length := by rw [hLn.out]; exact hkl
   obtain ⟨b, off, rfl, hc0⟩ := (HA.out.below HBr.out) (by intro e; rw [e] at hkt; simp at hkt)
   obtain ⟨q0, q1, q2⟩ := hc0 k hkt
   have HSU := Lib.hid (colsB_succ L k hkt)
   have HLE := Lib.hid (colsB_len L (fun x hx => (hok.out.L.2 x hx).1) k)
   obtain ⟨hs1, kq, hkq, hk256⟩ := hok.out.L.2 L[k] (List.getElem_mem hkt)
   have hkz : (k : Int) < (nl : Int) := by omega
   have hn16 : nl ≤ 16 := by have := hok.out.L.1; have := hLn.out; omega
   clear hc0
   have HRC := Lib.hid (rcol_any L[k] kq wr hs1 hkq hk256)
   have HCL := Lib.hid (colB_len L[k].nm L[k].k.toNat L[k].no hs1)
   generalize colsB L k = G at *
   clear hkq hs1 hk256
   generalize L[k] = xk at *
   go_wp2_with fail
   clear q0 q1 q2 r2
   refine HRC.out.mono ?_
   rintro e wc ⟨Ax, nx, cx, rfl, h1, h2, h3, hb⟩
   have hOx := HO.out.below hb.out
   have hBx := Lib.hid (HBr.out.trans (hb.out.mono HBr.out.size))
   have hCx := HCr.out.below hb.out HCr.out.lt
   obtain ⟨R9, W9, hrun9, ho9, hw9, hk9⟩ := eown_app wc w.heap.size u (M ++ G) hOx hBx.out.size Ax (colC xk) nx cx h1.out h2.out (by have a1 := h1.out; have a2 := HLE.out; have a3 : (colC xk).length ≤ 1012 := HCL.out; rw [List.length_append]; omega) h3.out
   have HO9 : Hid (Own w.heap.size W9 R9 (M ++ colsB L (k + 1))) := by show Own _ _ _ _; rw [HSU.out, ← List.append_assoc]; exact ho9
   have HB9 := Lib.hid (hBx.out.trans hw9)
   have HC9 := Lib.hid (hk9 qc 31 _ (by decide) hCx)
   clear ho9 hw9 hk9 hOx hBx hCx hb HRC
   go_wp2_with (at_builtin; refine wpList_app rfl _ _ 37 37 rfl u (.slice Ax nx cx) rfl rfl ⟨_, _, hrun9, ?_⟩)
   go_roundw
   case rel => exact ⟨k + 1, R9, by omega, by go_num, rfl, HO9.out, HB9.out, HC9.out⟩
   case measure => simp [intOf]; omega
  ·obtain rfl : k = nl := by omega
   have hkz : ¬ ((k : Int) < (k : Int)) := by omega
   go_wp2_with fail
   go_ret
   refine ⟨_, rfl, ?_, HBr⟩
   have ho := HO.out
   rw [HM.out] at ho
   show Own _ _ _ _
   unfold chB
   rw [if_pos rfl, hLn.out]
   simpa [List.append_assoc] using ho
set_option maxHeartbeats 8000000 in
theorem rwr_alt2 (n : Int) (t : ByteArray) (K cq : Nat) (L : List Cl) (Ab : Option Addr) (nb zb : Nat) (Aa : Option Addr) (na za : Nat) (ct : ByteArray) (A : Option Addr) (nl c : Nat) (cn : ByteArray) (cb : Bool) (At : Option Addr) (nt ctt : Nat) (w : World) (hA0 : CRow w A L) (hL0 : L.length = nl) (hok0 : ChOk 2 ct L K ⟨cn, (cq : Int), cb⟩) :
 Calls Tryz.prog 12 #[.agg #[.int .i64 (6), .int .i64 (n), .string t, .slice Ab nb zb, .slice Aa na za, .int .i64 (2), .string ct, .slice A nl c, .int .i64 ((K : Int)), .string cn, .int .i64 ((cq : Int)), .bool cb], .slice At nt ctt] w fun e w' => ∃ v, e = .returned v ∧ Hid (Own w.heap.size w' v (6 :: chB 2 ct L K ⟨cn, (cq : Int), cb⟩)) ∧ Hid (Below w.heap.size w w') := by
 have HA := Lib.hid hA0
 have hLn := Lib.hid hL0
 have hok := Lib.hid hok0
 clear hA0 hL0 hok0
 obtain ⟨W, hW⟩ : ∃ X, w.alloc (.cells #[.int .i64 (6), .int .i64 (n), .string t, .slice Ab nb zb, .slice Aa na za, .int .i64 (2), .string ct, .slice A nl c, .int .i64 ((K : Int)), .string cn, .int .i64 ((cq : Int)), .bool cb] 33) = X := ⟨_, rfl⟩
 have hHE : Has W w.heap.size 33 #[.int .i64 (6), .int .i64 (n), .string t, .slice Ab nb zb, .slice Aa na za, .int .i64 (2), .string ct, .slice A nl c, .int .i64 ((K : Int)), .string cn, .int .i64 ((cq : Int)), .bool cb] := by rw [← hW]; exact Has.new _ _ _
 have hbW : Below w.heap.size w W := by rw [← hW]; exact (Below.refl _ w).alloc (Nat.le_refl _) _
 obtain ⟨W0, hW0⟩ : ∃ X, W.alloc (.cells #[.int .u8 6] 5) = X := ⟨_, rfl⟩
 have hb0 : Below W.heap.size W W0 := by rw [← hW0]; exact (Below.refl _ W).alloc (Nat.le_refl _) _
 have HE0 := Lib.hid (hHE.below hb0 hHE.lt)
 have HB0 := Lib.hid (hbW.trans (hb0.mono hbW.size))
 have hlt : Has W0 W.heap.size 5 (([6] : List Nat).map bv).toArray := by rw [← hW0]; exact Has.new _ _ _
 have HO0 : Hid (Own w.heap.size W0 (.slice (some ⟨W.heap.size, 0, none⟩) 1 1) [6]) := own_lit hlt hbW.size (by simp) (by simp)
 have k0 : W.cell? ⟨w.heap.size, 0, none⟩ = some (.int .i64 (6)) := hHE.cell 0
 clear hHE hbW hb0 hlt
 go_enter Tryz.func12, Tryz.ntmps12
 have c0W0 : W0.cell? ⟨w.heap.size, 0, none⟩ = some (.int .i64 (6)) := HE0.out.cell 0
 have c5W0 : W0.cell? ⟨w.heap.size, 5, none⟩ = some (.int .i64 (2)) := HE0.out.cell 5
 have c6W0 : W0.cell? ⟨w.heap.size, 6, none⟩ = some (.string ct) := HE0.out.cell 6
 have c7W0 : W0.cell? ⟨w.heap.size, 7, none⟩ = some (.slice A nl c) := HE0.out.cell 7
 have c8W0 : W0.cell? ⟨w.heap.size, 8, none⟩ = some (.int .i64 ((K : Int))) := HE0.out.cell 8
 have c9W0 : W0.cell? ⟨w.heap.size, 9, none⟩ = some (.string cn) := HE0.out.cell 9
 have c10W0 : W0.cell? ⟨w.heap.size, 10, none⟩ = some (.int .i64 ((cq : Int))) := HE0.out.cell 10
 have c11W0 : W0.cell? ⟨w.heap.size, 11, none⟩ = some (.bool cb) := HE0.out.cell 11
 obtain ⟨Wc, hWc⟩ : ∃ X, X = W0.alloc (.cells #[.int .i64 2, .string ct, .slice A nl c, .int .i64 (K : Int), .string cn, .int .i64 (cq : Int), .bool cb] 31) := ⟨_, rfl⟩
 obtain ⟨qc, hqc⟩ : ∃ q, W0.heap.size = q := ⟨_, rfl⟩
 have hbc : Below W0.heap.size W0 Wc := by rw [hWc]; exact (Below.refl _ W0).alloc (Nat.le_refl _) _
 have HCc : Hid (Has Wc qc 31 #[.int .i64 2, .string ct, .slice A nl c, .int .i64 (K : Int), .string cn, .int .i64 (cq : Int), .bool cb]) := by rw [hWc, ← hqc]; exact Has.new _ _ _
 have HOc := Lib.hid (HO0.out.below hbc)
 have HBc := Lib.hid (HB0.out.trans (hbc.mono HB0.out.size))
 obtain ⟨R1, W1, hrun1, ho1, hw1, hk1⟩ := app_at Wc (W0.heap.size + 1) (by rw [hWc]; simp) w.heap.size (.slice (some ⟨W.heap.size, 0, none⟩) 1 1) [6] [2] #[.int .u8 2] (by simp [bv]) 1 rfl HOc.out HBc.out.size (by simp)
 rw [hWc, hqc] at hrun1
 have HO1 := Lib.hid ho1
 have HB1 := Lib.hid (HBc.out.trans hw1)
 have HC1 := Lib.hid (hk1 qc 31 _ (by decide) HCc.out)
 clear ho1 hw1 hk1 hWc hbc HOc HBc HCc HE0
 have e0W1 : W1.cell? ⟨qc, 0, none⟩ = some (.int .i64 2) := HC1.out.cell 0
 have e1W1 : W1.cell? ⟨qc, 1, none⟩ = some (.string ct) := HC1.out.cell 1
 go_wp2_with (at_builtin; refine wpList_app rfl _ _ 37 37 rfl (.slice (some ⟨W.heap.size, 0, none⟩) 1 1) (.slice (some ⟨qc + 1, 0, none⟩) 1 1) rfl rfl ⟨_, _, hrun1, ?_⟩)
 clear hW hW0 hrun1
 refine (refText_any ct W1 hok.out.ct).mono ?_
 rintro e wc2 ⟨vc2, rfl, hoc2, hb2⟩
 obtain ⟨A2, na2, ca2, rfl, h12, _, h22, h32⟩ := own_openZ hoc2
 have HOc2 := Lib.hid (HO1.out.below hb2)
 have HBc2 := Lib.hid (HB1.out.trans (hb2.mono HB1.out.size))
 have HC2 := Lib.hid (HC1.out.below hb2 HC1.out.lt)
 obtain ⟨R2, W2, hrun2, ho2, hw2, hk2⟩ := eown_app wc2 w.heap.size (R1) ([6] ++ [2]) HOc2.out HBc2.out.size A2 (ytxt ct) na2 ca2 h12.out h22.out (by have := h12.out; have h9 := ytxt_len ct hok.out.ct; simp only [List.length_append, List.length_cons, List.length_nil, List.length_singleton]; omega) h32.out
 have HO2 := Lib.hid ho2
 have HB2 := Lib.hid (HBc2.out.trans hw2)
 have HC2k := Lib.hid (hk2 qc 31 _ (by decide) HC2.out)
 clear ho2 hw2 hk2 hb2
 have d0W2 : W2.cell? ⟨qc, 0, none⟩ = some (.int .i64 2) := HC2k.out.cell 0
 go_wp2_with (at_builtin; refine wpList_app rfl _ _ 37 37 rfl (R1) (.slice A2 na2 ca2) rfl rfl ⟨_, _, hrun2, ?_⟩)
 go_ret
 exact ⟨_, rfl, by show Own _ _ _ _; simpa [chB, colC, colB, List.append_assoc] using HO2.out, HB2⟩
set_option maxHeartbeats 8000000 in
theorem rwr_alt3 (n : Int) (t : ByteArray) (K cq : Nat) (L : List Cl) (Ab : Option Addr) (nb zb : Nat) (Aa : Option Addr) (na za : Nat) (ct : ByteArray) (A : Option Addr) (nl c : Nat) (cn : ByteArray) (cb : Bool) (At : Option Addr) (nt ctt : Nat) (w : World) (hA0 : CRow w A L) (hL0 : L.length = nl) (hok0 : ChOk 3 ct L K ⟨cn, (cq : Int), cb⟩) :
 Calls Tryz.prog 12 #[.agg #[.int .i64 (6), .int .i64 (n), .string t, .slice Ab nb zb, .slice Aa na za, .int .i64 (3), .string ct, .slice A nl c, .int .i64 ((K : Int)), .string cn, .int .i64 ((cq : Int)), .bool cb], .slice At nt ctt] w fun e w' => ∃ v, e = .returned v ∧ Hid (Own w.heap.size w' v (6 :: chB 3 ct L K ⟨cn, (cq : Int), cb⟩)) ∧ Hid (Below w.heap.size w w') := by
 have HA := Lib.hid hA0
 have hLn := Lib.hid hL0
 have hok := Lib.hid hok0
 clear hA0 hL0 hok0
 obtain ⟨W, hW⟩ : ∃ X, w.alloc (.cells #[.int .i64 (6), .int .i64 (n), .string t, .slice Ab nb zb, .slice Aa na za, .int .i64 (3), .string ct, .slice A nl c, .int .i64 ((K : Int)), .string cn, .int .i64 ((cq : Int)), .bool cb] 33) = X := ⟨_, rfl⟩
 have hHE : Has W w.heap.size 33 #[.int .i64 (6), .int .i64 (n), .string t, .slice Ab nb zb, .slice Aa na za, .int .i64 (3), .string ct, .slice A nl c, .int .i64 ((K : Int)), .string cn, .int .i64 ((cq : Int)), .bool cb] := by rw [← hW]; exact Has.new _ _ _
 have hbW : Below w.heap.size w W := by rw [← hW]; exact (Below.refl _ w).alloc (Nat.le_refl _) _
 obtain ⟨W0, hW0⟩ : ∃ X, W.alloc (.cells #[.int .u8 6] 5) = X := ⟨_, rfl⟩
 have hb0 : Below W.heap.size W W0 := by rw [← hW0]; exact (Below.refl _ W).alloc (Nat.le_refl _) _
 have HE0 := Lib.hid (hHE.below hb0 hHE.lt)
 have HB0 := Lib.hid (hbW.trans (hb0.mono hbW.size))
 have hlt : Has W0 W.heap.size 5 (([6] : List Nat).map bv).toArray := by rw [← hW0]; exact Has.new _ _ _
 have HO0 : Hid (Own w.heap.size W0 (.slice (some ⟨W.heap.size, 0, none⟩) 1 1) [6]) := own_lit hlt hbW.size (by simp) (by simp)
 have k0 : W.cell? ⟨w.heap.size, 0, none⟩ = some (.int .i64 (6)) := hHE.cell 0
 clear hHE hbW hb0 hlt
 go_enter Tryz.func12, Tryz.ntmps12
 have c0W0 : W0.cell? ⟨w.heap.size, 0, none⟩ = some (.int .i64 (6)) := HE0.out.cell 0
 have c5W0 : W0.cell? ⟨w.heap.size, 5, none⟩ = some (.int .i64 (3)) := HE0.out.cell 5
 have c6W0 : W0.cell? ⟨w.heap.size, 6, none⟩ = some (.string ct) := HE0.out.cell 6
 have c7W0 : W0.cell? ⟨w.heap.size, 7, none⟩ = some (.slice A nl c) := HE0.out.cell 7
 have c8W0 : W0.cell? ⟨w.heap.size, 8, none⟩ = some (.int .i64 ((K : Int))) := HE0.out.cell 8
 have c9W0 : W0.cell? ⟨w.heap.size, 9, none⟩ = some (.string cn) := HE0.out.cell 9
 have c10W0 : W0.cell? ⟨w.heap.size, 10, none⟩ = some (.int .i64 ((cq : Int))) := HE0.out.cell 10
 have c11W0 : W0.cell? ⟨w.heap.size, 11, none⟩ = some (.bool cb) := HE0.out.cell 11
 obtain ⟨Wc, hWc⟩ : ∃ X, X = W0.alloc (.cells #[.int .i64 3, .string ct, .slice A nl c, .int .i64 (K : Int), .string cn, .int .i64 (cq : Int), .bool cb] 31) := ⟨_, rfl⟩
 obtain ⟨qc, hqc⟩ : ∃ q, W0.heap.size = q := ⟨_, rfl⟩
 have hbc : Below W0.heap.size W0 Wc := by rw [hWc]; exact (Below.refl _ W0).alloc (Nat.le_refl _) _
 have HCc : Hid (Has Wc qc 31 #[.int .i64 3, .string ct, .slice A nl c, .int .i64 (K : Int), .string cn, .int .i64 (cq : Int), .bool cb]) := by rw [hWc, ← hqc]; exact Has.new _ _ _
 have HOc := Lib.hid (HO0.out.below hbc)
 have HBc := Lib.hid (HB0.out.trans (hbc.mono HB0.out.size))
 obtain ⟨R1, W1, hrun1, ho1, hw1, hk1⟩ := app_at Wc (W0.heap.size + 1) (by rw [hWc]; simp) w.heap.size (.slice (some ⟨W.heap.size, 0, none⟩) 1 1) [6] [3] #[.int .u8 3] (by simp [bv]) 1 rfl HOc.out HBc.out.size (by simp)
 rw [hWc, hqc] at hrun1
 have HO1 := Lib.hid ho1
 have HB1 := Lib.hid (HBc.out.trans hw1)
 have HC1 := Lib.hid (hk1 qc 31 _ (by decide) HCc.out)
 clear ho1 hw1 hk1 hWc hbc HOc HBc HCc HE0
 have e0W1 : W1.cell? ⟨qc, 0, none⟩ = some (.int .i64 3) := HC1.out.cell 0
 have e1W1 : W1.cell? ⟨qc, 1, none⟩ = some (.string ct) := HC1.out.cell 1
 go_wp2_with (at_builtin; refine wpList_app rfl _ _ 37 37 rfl (.slice (some ⟨W.heap.size, 0, none⟩) 1 1) (.slice (some ⟨qc + 1, 0, none⟩) 1 1) rfl rfl ⟨_, _, hrun1, ?_⟩)
 clear hW hW0 hrun1
 refine (refText_any ct W1 hok.out.ct).mono ?_
 rintro e wc2 ⟨vc2, rfl, hoc2, hb2⟩
 obtain ⟨A2, na2, ca2, rfl, h12, _, h22, h32⟩ := own_openZ hoc2
 have HOc2 := Lib.hid (HO1.out.below hb2)
 have HBc2 := Lib.hid (HB1.out.trans (hb2.mono HB1.out.size))
 have HC2 := Lib.hid (HC1.out.below hb2 HC1.out.lt)
 obtain ⟨R2, W2, hrun2, ho2, hw2, hk2⟩ := eown_app wc2 w.heap.size (R1) ([6] ++ [3]) HOc2.out HBc2.out.size A2 (ytxt ct) na2 ca2 h12.out h22.out (by have := h12.out; have h9 := ytxt_len ct hok.out.ct; simp only [List.length_append, List.length_cons, List.length_nil, List.length_singleton]; omega) h32.out
 have HO2 := Lib.hid ho2
 have HB2 := Lib.hid (HBc2.out.trans hw2)
 have HC2k := Lib.hid (hk2 qc 31 _ (by decide) HC2.out)
 clear ho2 hw2 hk2 hb2
 have d0W2 : W2.cell? ⟨qc, 0, none⟩ = some (.int .i64 3) := HC2k.out.cell 0
 have d4W2 : W2.cell? ⟨qc, 4, none⟩ = some (.string cn) := HC2k.out.cell 4
 have d5W2 : W2.cell? ⟨qc, 5, none⟩ = some (.int .i64 (cq : Int)) := HC2k.out.cell 5
 have d6W2 : W2.cell? ⟨qc, 6, none⟩ = some (.bool cb) := HC2k.out.cell 6
 go_wp2_with (at_builtin; refine wpList_app rfl _ _ 37 37 rfl (R1) (.slice A2 na2 ca2) rfl rfl ⟨_, _, hrun2, ?_⟩)
 obtain ⟨qk, hqk, hq6⟩ := hok.out.q.2
 simp only at hqk
 refine (rcol_any ⟨cn, (cq : Int), cb⟩ cq W2 hok.out.q.1 rfl (by omega)).mono ?_
 rintro e wc3 ⟨A3, na3, ca3, rfl, h13, h23, h33, hb3⟩
 have HOc3 := Lib.hid (HO2.out.below hb3.out)
 have HBc3 := Lib.hid (HB2.out.trans (hb3.out.mono HB2.out.size))
 have HC2k3 := Lib.hid (HC2k.out.below hb3.out HC2k.out.lt)
 obtain ⟨R3, W3, hrun3, ho3, hw3, hk3⟩ := eown_app wc3 w.heap.size (R2) ([6] ++ [3] ++ ytxt ct) HOc3.out HBc3.out.size A3 (colC ⟨cn, (cq : Int), cb⟩) na3 ca3 h13.out h23.out (by have := h13.out; have h9 := ytxt_len ct hok.out.ct; have h8 := colB_len cn cq cb hok.out.q.1; have h7 : (colC ⟨cn, (cq : Int), cb⟩).length = (colB cn cq cb).length := rfl; simp only [List.length_append, List.length_cons, List.length_nil, List.length_singleton]; omega) h33.out
 have HO3 := Lib.hid ho3
 have HB3 := Lib.hid (HBc3.out.trans hw3)
 have HC2k3k := Lib.hid (hk3 qc 31 _ (by decide) HC2k3.out)
 clear ho3 hw3 hk3 hb3
 go_wp2_with (at_builtin; refine wpList_app rfl _ _ 37 37 rfl (R2) (.slice A3 na3 ca3) rfl rfl ⟨_, _, hrun3, ?_⟩)
 go_ret
 exact ⟨_, rfl, by show Own _ _ _ _; simpa [chB, colC, colB, List.append_assoc] using HO3.out, HB3⟩
set_option maxHeartbeats 8000000 in
theorem rwr_alt5 (n : Int) (t : ByteArray) (K cq : Nat) (L : List Cl) (Ab : Option Addr) (nb zb : Nat) (Aa : Option Addr) (na za : Nat) (ct : ByteArray) (A : Option Addr) (nl c : Nat) (cn : ByteArray) (cb : Bool) (At : Option Addr) (nt ctt : Nat) (w : World) (hA0 : CRow w A L) (hL0 : L.length = nl) (hok0 : ChOk 5 ct L K ⟨cn, (cq : Int), cb⟩) :
 Calls Tryz.prog 12 #[.agg #[.int .i64 (6), .int .i64 (n), .string t, .slice Ab nb zb, .slice Aa na za, .int .i64 (5), .string ct, .slice A nl c, .int .i64 ((K : Int)), .string cn, .int .i64 ((cq : Int)), .bool cb], .slice At nt ctt] w fun e w' => ∃ v, e = .returned v ∧ Hid (Own w.heap.size w' v (6 :: chB 5 ct L K ⟨cn, (cq : Int), cb⟩)) ∧ Hid (Below w.heap.size w w') := by
 have HA := Lib.hid hA0
 have hLn := Lib.hid hL0
 have hok := Lib.hid hok0
 clear hA0 hL0 hok0
 obtain ⟨W, hW⟩ : ∃ X, w.alloc (.cells #[.int .i64 (6), .int .i64 (n), .string t, .slice Ab nb zb, .slice Aa na za, .int .i64 (5), .string ct, .slice A nl c, .int .i64 ((K : Int)), .string cn, .int .i64 ((cq : Int)), .bool cb] 33) = X := ⟨_, rfl⟩
 have hHE : Has W w.heap.size 33 #[.int .i64 (6), .int .i64 (n), .string t, .slice Ab nb zb, .slice Aa na za, .int .i64 (5), .string ct, .slice A nl c, .int .i64 ((K : Int)), .string cn, .int .i64 ((cq : Int)), .bool cb] := by rw [← hW]; exact Has.new _ _ _
 have hbW : Below w.heap.size w W := by rw [← hW]; exact (Below.refl _ w).alloc (Nat.le_refl _) _
 obtain ⟨W0, hW0⟩ : ∃ X, W.alloc (.cells #[.int .u8 6] 5) = X := ⟨_, rfl⟩
 have hb0 : Below W.heap.size W W0 := by rw [← hW0]; exact (Below.refl _ W).alloc (Nat.le_refl _) _
 have HE0 := Lib.hid (hHE.below hb0 hHE.lt)
 have HB0 := Lib.hid (hbW.trans (hb0.mono hbW.size))
 have hlt : Has W0 W.heap.size 5 (([6] : List Nat).map bv).toArray := by rw [← hW0]; exact Has.new _ _ _
 have HO0 : Hid (Own w.heap.size W0 (.slice (some ⟨W.heap.size, 0, none⟩) 1 1) [6]) := own_lit hlt hbW.size (by simp) (by simp)
 have k0 : W.cell? ⟨w.heap.size, 0, none⟩ = some (.int .i64 (6)) := hHE.cell 0
 clear hHE hbW hb0 hlt
 go_enter Tryz.func12, Tryz.ntmps12
 have c0W0 : W0.cell? ⟨w.heap.size, 0, none⟩ = some (.int .i64 (6)) := HE0.out.cell 0
 have c5W0 : W0.cell? ⟨w.heap.size, 5, none⟩ = some (.int .i64 (5)) := HE0.out.cell 5
 have c6W0 : W0.cell? ⟨w.heap.size, 6, none⟩ = some (.string ct) := HE0.out.cell 6
 have c7W0 : W0.cell? ⟨w.heap.size, 7, none⟩ = some (.slice A nl c) := HE0.out.cell 7
 have c8W0 : W0.cell? ⟨w.heap.size, 8, none⟩ = some (.int .i64 ((K : Int))) := HE0.out.cell 8
 have c9W0 : W0.cell? ⟨w.heap.size, 9, none⟩ = some (.string cn) := HE0.out.cell 9
 have c10W0 : W0.cell? ⟨w.heap.size, 10, none⟩ = some (.int .i64 ((cq : Int))) := HE0.out.cell 10
 have c11W0 : W0.cell? ⟨w.heap.size, 11, none⟩ = some (.bool cb) := HE0.out.cell 11
 obtain ⟨Wc, hWc⟩ : ∃ X, X = W0.alloc (.cells #[.int .i64 5, .string ct, .slice A nl c, .int .i64 (K : Int), .string cn, .int .i64 (cq : Int), .bool cb] 31) := ⟨_, rfl⟩
 obtain ⟨qc, hqc⟩ : ∃ q, W0.heap.size = q := ⟨_, rfl⟩
 have hbc : Below W0.heap.size W0 Wc := by rw [hWc]; exact (Below.refl _ W0).alloc (Nat.le_refl _) _
 have HCc : Hid (Has Wc qc 31 #[.int .i64 5, .string ct, .slice A nl c, .int .i64 (K : Int), .string cn, .int .i64 (cq : Int), .bool cb]) := by rw [hWc, ← hqc]; exact Has.new _ _ _
 have HOc := Lib.hid (HO0.out.below hbc)
 have HBc := Lib.hid (HB0.out.trans (hbc.mono HB0.out.size))
 obtain ⟨R1, W1, hrun1, ho1, hw1, hk1⟩ := app_at Wc (W0.heap.size + 1) (by rw [hWc]; simp) w.heap.size (.slice (some ⟨W.heap.size, 0, none⟩) 1 1) [6] [5] #[.int .u8 5] (by simp [bv]) 1 rfl HOc.out HBc.out.size (by simp)
 rw [hWc, hqc] at hrun1
 have HO1 := Lib.hid ho1
 have HB1 := Lib.hid (HBc.out.trans hw1)
 have HC1 := Lib.hid (hk1 qc 31 _ (by decide) HCc.out)
 clear ho1 hw1 hk1 hWc hbc HOc HBc HCc HE0
 have e0W1 : W1.cell? ⟨qc, 0, none⟩ = some (.int .i64 5) := HC1.out.cell 0
 have e1W1 : W1.cell? ⟨qc, 1, none⟩ = some (.string ct) := HC1.out.cell 1
 go_wp2_with (at_builtin; refine wpList_app rfl _ _ 37 37 rfl (.slice (some ⟨W.heap.size, 0, none⟩) 1 1) (.slice (some ⟨qc + 1, 0, none⟩) 1 1) rfl rfl ⟨_, _, hrun1, ?_⟩)
 clear hW hW0 hrun1
 refine (refText_any ct W1 hok.out.ct).mono ?_
 rintro e wc2 ⟨vc2, rfl, hoc2, hb2⟩
 obtain ⟨A2, na2, ca2, rfl, h12, _, h22, h32⟩ := own_openZ hoc2
 have HOc2 := Lib.hid (HO1.out.below hb2)
 have HBc2 := Lib.hid (HB1.out.trans (hb2.mono HB1.out.size))
 have HC2 := Lib.hid (HC1.out.below hb2 HC1.out.lt)
 obtain ⟨R2, W2, hrun2, ho2, hw2, hk2⟩ := eown_app wc2 w.heap.size (R1) ([6] ++ [5]) HOc2.out HBc2.out.size A2 (ytxt ct) na2 ca2 h12.out h22.out (by have := h12.out; have h9 := ytxt_len ct hok.out.ct; simp only [List.length_append, List.length_cons, List.length_nil, List.length_singleton]; omega) h32.out
 have HO2 := Lib.hid ho2
 have HB2 := Lib.hid (HBc2.out.trans hw2)
 have HC2k := Lib.hid (hk2 qc 31 _ (by decide) HC2.out)
 clear ho2 hw2 hk2 hb2
 have d0W2 : W2.cell? ⟨qc, 0, none⟩ = some (.int .i64 5) := HC2k.out.cell 0
 have d4W2 : W2.cell? ⟨qc, 4, none⟩ = some (.string cn) := HC2k.out.cell 4
 have d5W2 : W2.cell? ⟨qc, 5, none⟩ = some (.int .i64 (cq : Int)) := HC2k.out.cell 5
 have d6W2 : W2.cell? ⟨qc, 6, none⟩ = some (.bool cb) := HC2k.out.cell 6
 go_wp2_with (at_builtin; refine wpList_app rfl _ _ 37 37 rfl (R1) (.slice A2 na2 ca2) rfl rfl ⟨_, _, hrun2, ?_⟩)
 obtain ⟨qk, hqk, hq6⟩ := hok.out.q.2
 simp only at hqk
 refine (rcol_any ⟨cn, (cq : Int), cb⟩ cq W2 hok.out.q.1 rfl (by omega)).mono ?_
 rintro e wc3 ⟨A3, na3, ca3, rfl, h13, h23, h33, hb3⟩
 have HOc3 := Lib.hid (HO2.out.below hb3.out)
 have HBc3 := Lib.hid (HB2.out.trans (hb3.out.mono HB2.out.size))
 have HC2k3 := Lib.hid (HC2k.out.below hb3.out HC2k.out.lt)
 obtain ⟨R3, W3, hrun3, ho3, hw3, hk3⟩ := eown_app wc3 w.heap.size (R2) ([6] ++ [5] ++ ytxt ct) HOc3.out HBc3.out.size A3 (colC ⟨cn, (cq : Int), cb⟩) na3 ca3 h13.out h23.out (by have := h13.out; have h9 := ytxt_len ct hok.out.ct; have h8 := colB_len cn cq cb hok.out.q.1; have h7 : (colC ⟨cn, (cq : Int), cb⟩).length = (colB cn cq cb).length := rfl; simp only [List.length_append, List.length_cons, List.length_nil, List.length_singleton]; omega) h33.out
 have HO3 := Lib.hid ho3
 have HB3 := Lib.hid (HBc3.out.trans hw3)
 have HC2k3k := Lib.hid (hk3 qc 31 _ (by decide) HC2k3.out)
 clear ho3 hw3 hk3 hb3
 go_wp2_with (at_builtin; refine wpList_app rfl _ _ 37 37 rfl (R2) (.slice A3 na3 ca3) rfl rfl ⟨_, _, hrun3, ?_⟩)
 go_ret
 exact ⟨_, rfl, by show Own _ _ _ _; simpa [chB, colC, colB, List.append_assoc] using HO3.out, HB3⟩
set_option maxHeartbeats 8000000 in
theorem rwr_alt4 (n : Int) (t : ByteArray) (K cq : Nat) (L : List Cl) (Ab : Option Addr) (nb zb : Nat) (Aa : Option Addr) (na za : Nat) (ct : ByteArray) (A : Option Addr) (nl c : Nat) (cn : ByteArray) (cb : Bool) (At : Option Addr) (nt ctt : Nat) (w : World) (hA0 : CRow w A L) (hL0 : L.length = nl) (hok0 : ChOk 4 ct L K ⟨cn, (cq : Int), cb⟩) :
 Calls Tryz.prog 12 #[.agg #[.int .i64 (6), .int .i64 (n), .string t, .slice Ab nb zb, .slice Aa na za, .int .i64 (4), .string ct, .slice A nl c, .int .i64 ((K : Int)), .string cn, .int .i64 ((cq : Int)), .bool cb], .slice At nt ctt] w fun e w' => ∃ v, e = .returned v ∧ Hid (Own w.heap.size w' v (6 :: chB 4 ct L K ⟨cn, (cq : Int), cb⟩)) ∧ Hid (Below w.heap.size w w') := by
 have HA := Lib.hid hA0
 have hLn := Lib.hid hL0
 have hok := Lib.hid hok0
 clear hA0 hL0 hok0
 obtain ⟨W, hW⟩ : ∃ X, w.alloc (.cells #[.int .i64 (6), .int .i64 (n), .string t, .slice Ab nb zb, .slice Aa na za, .int .i64 (4), .string ct, .slice A nl c, .int .i64 ((K : Int)), .string cn, .int .i64 ((cq : Int)), .bool cb] 33) = X := ⟨_, rfl⟩
 have hHE : Has W w.heap.size 33 #[.int .i64 (6), .int .i64 (n), .string t, .slice Ab nb zb, .slice Aa na za, .int .i64 (4), .string ct, .slice A nl c, .int .i64 ((K : Int)), .string cn, .int .i64 ((cq : Int)), .bool cb] := by rw [← hW]; exact Has.new _ _ _
 have hbW : Below w.heap.size w W := by rw [← hW]; exact (Below.refl _ w).alloc (Nat.le_refl _) _
 obtain ⟨W0, hW0⟩ : ∃ X, W.alloc (.cells #[.int .u8 6] 5) = X := ⟨_, rfl⟩
 have hb0 : Below W.heap.size W W0 := by rw [← hW0]; exact (Below.refl _ W).alloc (Nat.le_refl _) _
 have HE0 := Lib.hid (hHE.below hb0 hHE.lt)
 have HB0 := Lib.hid (hbW.trans (hb0.mono hbW.size))
 have hlt : Has W0 W.heap.size 5 (([6] : List Nat).map bv).toArray := by rw [← hW0]; exact Has.new _ _ _
 have HO0 : Hid (Own w.heap.size W0 (.slice (some ⟨W.heap.size, 0, none⟩) 1 1) [6]) := own_lit hlt hbW.size (by simp) (by simp)
 have k0 : W.cell? ⟨w.heap.size, 0, none⟩ = some (.int .i64 (6)) := hHE.cell 0
 clear hHE hbW hb0 hlt
 go_enter Tryz.func12, Tryz.ntmps12
 have c0W0 : W0.cell? ⟨w.heap.size, 0, none⟩ = some (.int .i64 (6)) := HE0.out.cell 0
 have c5W0 : W0.cell? ⟨w.heap.size, 5, none⟩ = some (.int .i64 (4)) := HE0.out.cell 5
 have c6W0 : W0.cell? ⟨w.heap.size, 6, none⟩ = some (.string ct) := HE0.out.cell 6
 have c7W0 : W0.cell? ⟨w.heap.size, 7, none⟩ = some (.slice A nl c) := HE0.out.cell 7
 have c8W0 : W0.cell? ⟨w.heap.size, 8, none⟩ = some (.int .i64 ((K : Int))) := HE0.out.cell 8
 have c9W0 : W0.cell? ⟨w.heap.size, 9, none⟩ = some (.string cn) := HE0.out.cell 9
 have c10W0 : W0.cell? ⟨w.heap.size, 10, none⟩ = some (.int .i64 ((cq : Int))) := HE0.out.cell 10
 have c11W0 : W0.cell? ⟨w.heap.size, 11, none⟩ = some (.bool cb) := HE0.out.cell 11
 obtain ⟨Wc, hWc⟩ : ∃ X, X = W0.alloc (.cells #[.int .i64 4, .string ct, .slice A nl c, .int .i64 (K : Int), .string cn, .int .i64 (cq : Int), .bool cb] 31) := ⟨_, rfl⟩
 obtain ⟨qc, hqc⟩ : ∃ q, W0.heap.size = q := ⟨_, rfl⟩
 have hbc : Below W0.heap.size W0 Wc := by rw [hWc]; exact (Below.refl _ W0).alloc (Nat.le_refl _) _
 have HCc : Hid (Has Wc qc 31 #[.int .i64 4, .string ct, .slice A nl c, .int .i64 (K : Int), .string cn, .int .i64 (cq : Int), .bool cb]) := by rw [hWc, ← hqc]; exact Has.new _ _ _
 have HOc := Lib.hid (HO0.out.below hbc)
 have HBc := Lib.hid (HB0.out.trans (hbc.mono HB0.out.size))
 obtain ⟨R1, W1, hrun1, ho1, hw1, hk1⟩ := app_at Wc (W0.heap.size + 1) (by rw [hWc]; simp) w.heap.size (.slice (some ⟨W.heap.size, 0, none⟩) 1 1) [6] [4] #[.int .u8 4] (by simp [bv]) 1 rfl HOc.out HBc.out.size (by simp)
 rw [hWc, hqc] at hrun1
 have HO1 := Lib.hid ho1
 have HB1 := Lib.hid (HBc.out.trans hw1)
 have HC1 := Lib.hid (hk1 qc 31 _ (by decide) HCc.out)
 clear ho1 hw1 hk1 hWc hbc HOc HBc HCc HE0
 have e0W1 : W1.cell? ⟨qc, 0, none⟩ = some (.int .i64 4) := HC1.out.cell 0
 have e1W1 : W1.cell? ⟨qc, 1, none⟩ = some (.string ct) := HC1.out.cell 1
 go_wp2_with (at_builtin; refine wpList_app rfl _ _ 37 37 rfl (.slice (some ⟨W.heap.size, 0, none⟩) 1 1) (.slice (some ⟨qc + 1, 0, none⟩) 1 1) rfl rfl ⟨_, _, hrun1, ?_⟩)
 clear hW hW0 hrun1
 refine (refText_any ct W1 hok.out.ct).mono ?_
 rintro e wc2 ⟨vc2, rfl, hoc2, hb2⟩
 obtain ⟨A2, na2, ca2, rfl, h12, _, h22, h32⟩ := own_openZ hoc2
 have HOc2 := Lib.hid (HO1.out.below hb2)
 have HBc2 := Lib.hid (HB1.out.trans (hb2.mono HB1.out.size))
 have HC2 := Lib.hid (HC1.out.below hb2 HC1.out.lt)
 obtain ⟨R2, W2, hrun2, ho2, hw2, hk2⟩ := eown_app wc2 w.heap.size (R1) ([6] ++ [4]) HOc2.out HBc2.out.size A2 (ytxt ct) na2 ca2 h12.out h22.out (by have := h12.out; have h9 := ytxt_len ct hok.out.ct; simp only [List.length_append, List.length_cons, List.length_nil, List.length_singleton]; omega) h32.out
 have HO2 := Lib.hid ho2
 have HB2 := Lib.hid (HBc2.out.trans hw2)
 have HC2k := Lib.hid (hk2 qc 31 _ (by decide) HC2.out)
 clear ho2 hw2 hk2 hb2
 have d0W2 : W2.cell? ⟨qc, 0, none⟩ = some (.int .i64 4) := HC2k.out.cell 0
 have d4W2 : W2.cell? ⟨qc, 4, none⟩ = some (.string cn) := HC2k.out.cell 4
 go_wp2_with (at_builtin; refine wpList_app rfl _ _ 37 37 rfl (R1) (.slice A2 na2 ca2) rfl rfl ⟨_, _, hrun2, ?_⟩)
 refine (refText_any cn W2 hok.out.q.1).mono ?_
 rintro e wc3 ⟨vc3, rfl, hoc3, hb3⟩
 obtain ⟨A3, na3, ca3, rfl, h13, _, h23, h33⟩ := own_openZ hoc3
 have HOc3 := Lib.hid (HO2.out.below hb3)
 have HBc3 := Lib.hid (HB2.out.trans (hb3.mono HB2.out.size))
 have HC2k3 := Lib.hid (HC2k.out.below hb3 HC2k.out.lt)
 obtain ⟨R3, W3, hrun3, ho3, hw3, hk3⟩ := eown_app wc3 w.heap.size (R2) ([6] ++ [4] ++ ytxt ct) HOc3.out HBc3.out.size A3 (ytxt cn) na3 ca3 h13.out h23.out (by have := h13.out; have h9 := ytxt_len ct hok.out.ct; have h8 := ytxt_len cn hok.out.q.1; simp only [List.length_append, List.length_cons, List.length_nil, List.length_singleton]; omega) h33.out
 have HO3 := Lib.hid ho3
 have HB3 := Lib.hid (HBc3.out.trans hw3)
 have HC2k3k := Lib.hid (hk3 qc 31 _ (by decide) HC2k3.out)
 clear ho3 hw3 hk3 hb3
 go_wp2_with (at_builtin; refine wpList_app rfl _ _ 37 37 rfl (R2) (.slice A3 na3 ca3) rfl rfl ⟨_, _, hrun3, ?_⟩)
 go_ret
 exact ⟨_, rfl, by show Own _ _ _ _; simpa [chB, colC, colB, List.append_assoc] using HO3.out, HB3⟩
end Go.Proofs.YtnpmgempkoeapaaGreatDoor
