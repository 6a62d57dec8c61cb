/-
  Put together, as far as it is used: EwB, EwZ, Rwrite.
-/
import Derived.Test.YtnpmgempkoeapaaGreatDoorPebc
import Derived.Test.YtnpmgempkoeapaaGreatDoorPeao
import Derived.Test.YtnpmgempkoeapaaGreatDoorPeal
import Derived.Test.YtnpmgempkoeapaaGreatDoorPean
set_option linter.unusedVariables false
set_option linter.unusedSimpArgs false
set_option linter.defProp false
namespace Go.Proofs.YtnpmgempkoeapaaGreatDoor
open Go.RowKit Go.Maps Dg
set_option maxRecDepth 100000
def colC (x : Cl) : List Nat := colB x.nm x.k.toNat x.no
def colsB (L : List Cl) (k : Nat) : List Nat := (L.take k).flatMap colC
theorem colsB_succ (L : List Cl) (k : Nat) (h : k < L.length) : colsB L (k + 1) = colsB L k ++ colC L[k] := by
 unfold colsB
 rw [List.take_succ_eq_append_getElem h, List.flatMap_append]
 simp
theorem ytxt_len (s : ByteArray) (h : s.size ≤ 1000) : (ytxt s).length ≤ 1010 := by
 have := digs_le_ten s.size (by omega)
 unfold ytxt; simp only [List.length_append, sb_length]; omega
theorem colB_len (s : ByteArray) (k : Nat) (no : Bool) (h : s.size ≤ 1000) : (colB s k no).length ≤ 1012 := by
 have := ytxt_len s h
 unfold colB; simp only [List.length_append, List.length_cons, List.length_nil]; omega
theorem colsB_len (L : List Cl) (h : ∀ x ∈ L, x.nm.size ≤ 1000) : ∀ k, (colsB L k).length ≤ k * 1012
 | 0 => by simp [colsB]
 | k + 1 => by
   by_cases hk : k < L.length
   ·have h1 := colsB_len L h k
    have h2 := colB_len L[k].nm L[k].k.toNat L[k].no (h _ (List.getElem_mem hk))
    rw [colsB_succ L k hk, List.length_append]
    unfold colC
    omega
   ·have h1 := colsB_len L h k
    have e : colsB L (k + 1) = colsB L k := by unfold colsB; rw [List.take_of_length_le (by omega), List.take_of_length_le (by omega)]
    rw [e]; omega
def chB (ck : Nat) (ct : ByteArray) (L : List Cl) (K : Nat) (q : Cl) : List Nat :=
 [ck] ++ ytxt ct ++ (if ck = 1 then [K, L.length] ++ colsB L L.length else if ck = 3 ∨ ck = 5 then colC q else if ck = 4 then ytxt q.nm else [])
structure ChOk (ck : Nat) (ct : ByteArray) (L : List Cl) (K : Nat) (q : Cl) : Prop where
 ck : ck = 1 ∨ ck = 2 ∨ ck = 3 ∨ ck = 4 ∨ ck = 5
 ct : ct.size ≤ 1000
 L : L.length ≤ 16 ∧ ∀ x ∈ L, x.nm.size ≤ 1000 ∧ ∃ k : Nat, x.k = (k : Int) ∧ k < 256
 K : K < 256
 q : q.nm.size ≤ 1000 ∧ ∃ k : Nat, q.k = (k : Int) ∧ k < 256
theorem own_openN {B : Nat} {w : World} {v : Value} {l : List Nat} (h : Own B w v l) : ∃ A n c, v = .slice A n c ∧ Hid (l.length = n) ∧ n ≤ c ∧ Hid (Rd w A l) := by
 obtain ⟨A, c, e, hc, hr⟩ := own_full h
 exact ⟨A, _, c, e, rfl, hc, hr⟩
theorem rd_one (w : World) (x : Nat) : Rd (w.alloc (.cells #[.int .u8 x] 5)) (some ⟨w.heap.size, 0, none⟩) [x] :=
 Rd.of_has (Has.new w 5 #[.int .u8 x]) fun i hi => by
  rcases i with _ | i
  ·rfl
  ·simp at hi
set_option maxHeartbeats 16000000 in
theorem addChange_any (g0 y ck : Nat) (ct : ByteArray) (A : Option Addr) (n c : Nat) (L : List Cl) (K : Nat) (cn : ByteArray) (cq : Nat) (cb : Bool) (w : World) (hY : Rd w (some ⟨g0, 0, none⟩) [y]) (hA : CRow w A L) (hL : L.length = n) (h : ChOk ck ct L K ⟨cn, cq, cb⟩) :
 Calls Tryz.prog 28 #[.slice (some ⟨g0, 0, none⟩) 1 1, .agg #[.int .i64 (ck : Int), .string ct, .slice A n c, .int .i64 (K : Int), .string cn, .int .i64 (cq : Int), .bool cb]] w fun e w' => ∃ v, e = .returned v ∧ Hid (Own w.heap.size w' v (y :: chB ck ct L K ⟨cn, cq, cb⟩)) ∧ Hid (Below w.heap.size w w') := by
 obtain ⟨w1, hw1⟩ : ∃ W, w.alloc (.cells #[.int .i64 (ck : Int), .string ct, .slice A n c, .int .i64 (K : Int), .string cn, .int .i64 (cq : Int), .bool cb] 31) = W := ⟨_, rfl⟩
 have HB : Hid (Below w.heap.size w w1) := by rw [← hw1]; exact (Below.refl _ w).alloc (Nat.le_refl _) _
 have HH : Hid (Has w1 w.heap.size 31 #[.int .i64 (ck : Int), .string ct, .slice A n c, .int .i64 (K : Int), .string cn, .int .i64 (cq : Int), .bool cb]) := by rw [← hw1]; exact Has.new _ _ _
 have HY := Lib.hid (hY.below HB.out)
 have HA := Lib.hid hA
 have hLn := Lib.hid hL
 have hok := Lib.hid h
 have hck := h.ck
 have hq : cq < 256 := by obtain ⟨k, h1, h2⟩ := h.q.2; simp only at h1; omega
 have hwk := u8_wrap ck (by omega)
 have c0 : w1.cell? ⟨w.heap.size, 0, none⟩ = some (.int .i64 ck) := HH.out.cell 0
 have c1 : w1.cell? ⟨w.heap.size, 1, none⟩ = some (.string ct) := HH.out.cell 1
 clear hY hA hL h
 go_enter Tryz.func28, Tryz.ntmps28
 go_wp2_with fail
 clear hw1
 refine wp_region_held_drew (S := (fun X : World => X.cell? ⟨w.heap.size, 0, none⟩ = some (.int .i64 ck) ∧ X.cell? ⟨w.heap.size, 1, none⟩ = some (.string ct))) (by kernel_rfl) (by exact ⟨c0, c1⟩) (fun _ => ?_)
 (refine wpAnyH_take (i := 0) (v := ?_) rfl (by kernel_rfl) (by kernel_rfl) (by kernel_rfl) (fun _ _ _ h => h) (Or.inl ⟨by rfl, ?_⟩) (by assumption) ?_; rotate_left; (intro w hSw; (try dsimp only at hSw); go_simp; try with_reducible rfl); ((try simp only [zA, zB, zC, Act.put, zD, zE, zF])))
 (refine wpAnyH_take (i := 1) (v := ?_) rfl (by kernel_rfl) (by kernel_rfl) (by kernel_rfl) (fun _ _ _ h => h) (Or.inl ⟨by rfl, ?_⟩) (by assumption) ?_; rotate_left; (intro w hSw; (try dsimp only at hSw); go_simp; try with_reducible rfl); ((try simp only [zA, zB, zC, Act.put, zD, zE, zF])))
 (refine wpAnyH_take (i := 2) (v := ?_) rfl (by kernel_rfl) (by kernel_rfl) (by kernel_rfl) (fun _ _ _ h => h) (Or.inl ⟨by rfl, ?_⟩) (by assumption) ?_; rotate_left; (intro w hSw; (try dsimp only at hSw); go_simp; try with_reducible rfl); ((try simp only [zA, zB, zC, Act.put, zD, zE, zF])))
 (refine wpAnyH_take (i := 3) (v := ?_) rfl (by kernel_rfl) (by kernel_rfl) (by kernel_rfl) (fun _ _ _ h => h) (Or.inl ⟨by rfl, ?_⟩) (by assumption) ?_; rotate_left; (intro w hSw; (try dsimp only at hSw); go_simp; try with_reducible rfl); ((try simp only [zA, zB, zC, Act.put, zD, zE, zF])))
 (refine wpAnyH_take (i := 6) (v := ?_) rfl (by kernel_rfl) (by kernel_rfl) (by kernel_rfl) (fun _ _ _ h => h) (Or.inl ⟨by rfl, ?_⟩) (by assumption) ?_; rotate_left; (intro w hSw; (try dsimp only at hSw); go_simp; try with_reducible rfl); ((try simp only [zA, zB, zC, Act.put, zD, zE, zF])))
 (refine wpAnyH_take (i := 7) (v := ?_) rfl (by kernel_rfl) (by kernel_rfl) (by kernel_rfl) (fun _ _ _ h => h) (Or.inl ⟨by rfl, ?_⟩) (by assumption) ?_; rotate_left; (intro w hSw; (try dsimp only at hSw); go_simp; try with_reducible rfl); ((try simp only [zA, zB, zC, Act.put, zD, zE, zF])))
 refine wpAnyH_ready (rs := [4]) (by kernel_rfl) (by simp) ?_
 refine AllReadyH.cons rfl (fun K2 hK2 => ?_) AllReadyH.nil
 go_simp
 obtain ⟨w2, hw2⟩ : ∃ W, (w1.alloc (.cells #[.int .u8 ck] 5)).drew = W := ⟨_, rfl⟩
 have hb12 : Below w1.heap.size w1 w2 := by rw [← hw2]; exact ((Below.refl _ w1).alloc (Nat.le_refl _) _).drew
 have HR2 : Hid (Rd w2 (some ⟨w1.heap.size, 0, none⟩) [ck]) := by rw [← hw2]; exact (rd_one w1 ck).below (Below.refl _ _).drew
 have HH2 := Lib.hid (HH.out.below hb12 HH.out.lt)
 have HB2 := Lib.hid (HB.out.trans (hb12.mono HB.out.size))
 have HY2 := Lib.hid (HY.out.below hb12)
 clear hb12
 have c0w2 : w2.cell? ⟨w.heap.size, 0, none⟩ = some (.int .i64 ck) := HH2.out.cell 0
 have c1w2 : w2.cell? ⟨w.heap.size, 1, none⟩ = some (.string ct) := HH2.out.cell 1
 (try rw [hw2])
 clear hw2
 obtain ⟨g, hg⟩ : ∃ g, w1.heap.size = g := ⟨_, rfl⟩
 rw [hg] at HR2 ⊢
 clear hg
 refine hK2.out _ _ (by (try dsimp only); exact ⟨c0w2, c1w2⟩) (fun _ => ?_)
 clear hK2 K2
 (try simp only [zA, zB, zC, Act.put, zD, zE, zF])
 refine wpAnyH_ready (rs := [5]) (by kernel_rfl) (by simp) ?_
 refine AllReadyH.cons rfl (fun K2 hK2 => ?_) AllReadyH.nil
 obtain ⟨R5, W5, hrun5, ho5, hb5⟩ := run_app_growO w2 (tx := 37) (some ⟨g0, 0, none⟩) [y] 1 HY2.out (.slice (some ⟨g, 0, none⟩) 1 1) [ck] (src_rd w2 Tryz.underlying37 (some ⟨g, 0, none⟩) [ck] 1 HR2.out) (by simp) (by simp)
 refine estep_app (by rfl) _ _ _ _ (by rfl) (.slice (some ⟨g0, 0, none⟩) 1 1) (.slice (some ⟨g, 0, none⟩) 1 1) (by rfl) (by rfl) ⟨R5, W5, hrun5, ?_⟩
 obtain ⟨A5, c5, e5, hc5, hr5⟩ := own_full ho5
 have e5b : R5 = .slice A5 2 c5 := e5
 subst e5b
 have HR5 := Lib.hid hr5
 have hc52 : 2 ≤ c5 := hc5
 have HH5 := Lib.hid (HH2.out.below hb5 HH2.out.lt)
 have HB5 := Lib.hid (HB2.out.trans (hb5.mono HB2.out.size))
 clear ho5 hb5 e5 hr5 hc5
 have c0W5 : W5.cell? ⟨w.heap.size, 0, none⟩ = some (.int .i64 ck) := HH5.out.cell 0
 have c1W5 : W5.cell? ⟨w.heap.size, 1, none⟩ = some (.string ct) := HH5.out.cell 1
 refine hK2.out _ _ (by (try dsimp only); exact ⟨c0W5, c1W5⟩) (fun _ => ?_)
 clear hK2 K2 hrun5
 (try simp only [zA, zB, zC, Act.put, zD, zE, zF])
 refine wpAnyH_ready (rs := [8]) (by kernel_rfl) (by simp) ?_
 refine AllReadyH.cons rfl (fun K2 hK2 => ?_) AllReadyH.nil
 go_simp
 refine (TextW_any A5 [y, ck] 2 c5 ct W5 rfl hc52 HR5.out (by omega) hok.out.ct).mono ?_
 rintro e w8 ⟨v8, rfl, ho8, hb8⟩
 have HH8 := Lib.hid (HH5.out.below hb8.out HH5.out.lt)
 have HB8 := Lib.hid (HB5.out.trans (hb8.out.mono HB5.out.size))
 have HO8 := Lib.hid (own_down ho8.out HB5.out.size)
 clear ho8 hb8
 have c0w8 : w8.cell? ⟨w.heap.size, 0, none⟩ = some (.int .i64 ck) := HH8.out.cell 0
 have c1w8 : w8.cell? ⟨w.heap.size, 1, none⟩ = some (.string ct) := HH8.out.cell 1
 go_wp2_with fail
 refine hK2.out _ _ (by (try dsimp only); exact ⟨c0w8, c1w8⟩) (fun _ => ?_)
 clear hK2 K2
 (try simp only [zA, zB, zC, Act.put, zD, zE, zF])
 (refine wpAnyH_take (i := 9) (v := ?_) rfl (by kernel_rfl) (by kernel_rfl) (by kernel_rfl) (fun _ _ _ h => h) (Or.inl ⟨by rfl, ?_⟩) (by assumption) ?_; rotate_left; (intro w hSw; (try dsimp only at hSw); go_simp; try with_reducible rfl); ((try simp only [zA, zB, zC, Act.put, zD, zE, zF])))
 refine wpAnyH_done (by kernel_rfl) ?_ _
 clear c0 c1 c0w8 c1w8 c0W5 c1W5 c0w2 c1w2 HH HH2 HH5 HB HB2 HB5 HR2 HR5 HY HY2 hwk
 rcases hck with rfl | rfl | rfl | rfl | rfl
 ·have c0 : w8.cell? ⟨w.heap.size, 0, none⟩ = some (.int .i64 1) := HH8.out.cell 0
  have c2 : w8.cell? ⟨w.heap.size, 2, none⟩ = some (.slice A n c) := HH8.out.cell 2
  have c3 : w8.cell? ⟨w.heap.size, 3, none⟩ = some (.int .i64 K) := HH8.out.cell 3
  have hwK := u8_wrap K hok.out.K
  have hwn := u8_wrap n (by have := hok.out.L.1; have := hLn.out; omega)
  have hl8 : ([y, 1] ++ ytxt ct).length ≤ 2000 := by have := ytxt_len ct hok.out.ct; simp only [List.length_append, List.length_cons, List.length_nil]; omega
  obtain ⟨R9, W9, hrun9, ho9, hb9, hk9⟩ := app_at w8 w8.heap.size rfl w.heap.size v8 ([y, 1] ++ ytxt ct) [K, n] #[.int .u8 K, .int .u8 n] (by simp [bv]) 2 rfl HO8.out HB8.out.size (by omega)
  have HO9 := Lib.hid ho9
  have HB9 := Lib.hid (HB8.out.trans hb9)
  have HH9 := Lib.hid (hk9 w.heap.size 31 _ (by decide) HH8.out)
  clear ho9 hb9 hk9
  have d2 : W9.cell? ⟨w.heap.size, 2, none⟩ = some (.slice A n c) := HH9.out.cell 2
  go_wp2_with (at_builtin; refine wpList_app rfl _ _ 37 37 rfl v8 (.slice (some ⟨w8.heap.size, 0, none⟩) 2 2) rfl rfl ⟨_, _, hrun9, ?_⟩)
  clear c0 c2 c3 d2 hrun9 HO8
  obtain ⟨M, hM⟩ : ∃ M, M = [y, 1] ++ ytxt ct ++ [K, n] := ⟨_, rfl⟩
  have hML : M.length ≤ 2002 := by rw [hM, List.length_append]; simp only [List.length_cons, List.length_nil]; omega
  rw [← hM] at HO9
  have HM := Lib.hid hM
  clear hM
  obtain ⟨wo, rfl⟩ : ∃ wo : World, wo = W9 := ⟨_, rfl⟩
  go_loopw [0, 36] (fun b i wr => ∃ (k : Nat) (u : Value), k ≤ n ∧ i = .int .i64 k ∧ u = b ∧ Hid (Own w.heap.size wr u (M ++ colsB L k)) ∧ Hid (Below w.heap.size w wr)) (fun _ i _ => n - (intOf i).toNat)
  case atStart => exact ⟨0, _, by omega, rfl, rfl, by show Own _ _ _ _; simpa [colsB] using HO9.out, HB9⟩
  case round =>
   obtain ⟨k, u, hkn, rfl, rfl, HO, HBr⟩ := hrel
   by_cases hkl : k < n
   ·have hkt : k < L.length := by rw [hLn.out]; exact hkl
    obtain ⟨b, off, rfl, hc0⟩ := (HA.out.below HBr.out) (by intro e; rw [e] at hkt; simp at hkt)
    obtain ⟨q0, q1, q2⟩ := hc0 k hkt
    have HSU := Lib.hid (colsB_succ L k hkt)
    have HLE := Lib.hid (colsB_len L (fun x hx => (hok.out.L.2 x hx).1) k)
    obtain ⟨hs1, kq, hkq, hk256⟩ := hok.out.L.2 L[k] (List.getElem_mem hkt)
    have hkz : (k : Int) < (n : Int) := by omega
    have hn16 : n ≤ 16 := by have := hok.out.L.1; have := hLn.out; omega
    clear hc0
    generalize colsB L k = G at *
    generalize L[k] = xk at *
    obtain ⟨xt, xk, xd⟩ := xk
    simp only at q0 q1 q2 hs1 hkq
    subst hkq
    have hba : Below wr.heap.size wr (wr.alloc (.cells #[.string xt, .int .i64 kq, .bool xd] 29)) := (Below.refl _ wr).alloc (Nat.le_refl _) _
    have hO5 := HO.out.below hba
    have HB5 := Lib.hid (HBr.out.trans (hba.mono HBr.out.size))
    have HX5 := Lib.hid (Has.new wr 29 #[.string xt, .int .i64 kq, .bool xd])
    go_wp2_with fail
    obtain ⟨W5, hW5⟩ : ∃ W, W = wr.alloc (.cells #[.string xt, .int .i64 kq, .bool xd] 29) := ⟨_, rfl⟩
    rw [← hW5] at hO5 HB5 HX5 ⊢
    clear hW5 hba q0 q1 q2
    obtain ⟨A5, n5, c5, rfl, hn5, hc5, hr5⟩ := own_openN hO5
    refine (addColumn_any A5 _ n5 c5 xt kq xd W5 hn5.out hc5 hr5.out (by have h1 := hn5.out; have h2 := HLE.out; rw [List.length_append] at h1; omega) hs1 hk256).mono ?_
    rintro e w6 ⟨v6, rfl, ho6, hb6⟩
    have HO6 : Hid (Own w.heap.size w6 v6 (M ++ colsB L (k + 1))) := by show Own _ _ _ _; rw [HSU.out, ← List.append_assoc]; exact own_down ho6.out HB5.out.size
    have HB6 := Lib.hid (HB5.out.trans (hb6.out.mono HB5.out.size))
    clear ho6 hb6
    go_wp2_with fail
    go_roundw
    case rel => exact ⟨k + 1, v6, by omega, by go_num, rfl, HO6.out, HB6.out⟩
    case measure => simp [intOf]; omega
   ·obtain rfl : k = n := by omega
    have hkz : ¬ ((k : Int) < (k : Int)) := by omega
    go_wp2_with fail
    go_ret
    refine ⟨_, rfl, ?_, HBr⟩
    have ho := HO.out
    rw [HM.out] at ho
    show Own _ _ _ _
    unfold chB
    rw [if_pos rfl, hLn.out]
    simpa [List.append_assoc] using ho
 ·have c0 : w8.cell? ⟨w.heap.size, 0, none⟩ = some (.int .i64 2) := HH8.out.cell 0
  go_wp2_with fail
  go_ret
  exact ⟨v8, rfl, by show Own _ _ _ _; simpa [chB] using HO8.out, HB8⟩
 ·have c0 : w8.cell? ⟨w.heap.size, 0, none⟩ = some (.int .i64 3) := HH8.out.cell 0
  have c4 : w8.cell? ⟨w.heap.size, 4, none⟩ = some (.string cn) := HH8.out.cell 4
  have c5 : w8.cell? ⟨w.heap.size, 5, none⟩ = some (.int .i64 cq) := HH8.out.cell 5
  have c6 : w8.cell? ⟨w.heap.size, 6, none⟩ = some (.bool cb) := HH8.out.cell 6
  obtain ⟨A8, n8, c8, rfl, hn8, hc8, hr8⟩ := own_openN HO8.out
  have HC := Lib.hid (addColumn_any A8 _ n8 c8 cn cq cb w8 hn8.out hc8 hr8.out (by have h1 := hn8.out; have h2 := ytxt_len ct hok.out.ct; simp only [List.length_append, List.length_cons, List.length_nil] at h1; omega) hok.out.q.1 hq)
  go_wp2_with fail
  refine HC.out.mono ?_
  rintro e w9 ⟨v9, rfl, ho9, hb9⟩
  have HO9 := Lib.hid (own_down ho9.out HB8.out.size)
  have HB9 := Lib.hid (HB8.out.trans (hb9.out.mono HB8.out.size))
  clear ho9 hb9
  go_wp2_with fail
  go_ret
  exact ⟨v9, rfl, by show Own _ _ _ _; simpa [chB, colC, List.append_assoc] using HO9.out, HB9⟩
 ·have c0 : w8.cell? ⟨w.heap.size, 0, none⟩ = some (.int .i64 4) := HH8.out.cell 0
  have c4 : w8.cell? ⟨w.heap.size, 4, none⟩ = some (.string cn) := HH8.out.cell 4
  obtain ⟨A8, n8, c8, rfl, hn8, hc8, hr8⟩ := own_openN HO8.out
  have HC := Lib.hid (TextW_any A8 _ n8 c8 cn w8 hn8.out hc8 hr8.out (by have h1 := hn8.out; have h2 := ytxt_len ct hok.out.ct; simp only [List.length_append, List.length_cons, List.length_nil] at h1; omega) hok.out.q.1)
  go_wp2_with fail
  refine HC.out.mono ?_
  rintro e w9 ⟨v9, rfl, ho9, hb9⟩
  have HO9 := Lib.hid (own_down ho9.out HB8.out.size)
  have HB9 := Lib.hid (HB8.out.trans (hb9.out.mono HB8.out.size))
  clear ho9 hb9
  go_wp2_with fail
  go_ret
  exact ⟨v9, rfl, by show Own _ _ _ _; simpa [chB, List.append_assoc] using HO9.out, HB9⟩
 ·have c0 : w8.cell? ⟨w.heap.size, 0, none⟩ = some (.int .i64 5) := HH8.out.cell 0
  have c4 : w8.cell? ⟨w.heap.size, 4, none⟩ = some (.string cn) := HH8.out.cell 4
  have c5 : w8.cell? ⟨w.heap.size, 5, none⟩ = some (.int .i64 cq) := HH8.out.cell 5
  have c6 : w8.cell? ⟨w.heap.size, 6, none⟩ = some (.bool cb) := HH8.out.cell 6
  obtain ⟨A8, n8, c8, rfl, hn8, hc8, hr8⟩ := own_openN HO8.out
  have HC := Lib.hid (addColumn_any A8 _ n8 c8 cn cq cb w8 hn8.out hc8 hr8.out (by have h1 := hn8.out; have h2 := ytxt_len ct hok.out.ct; simp only [List.length_append, List.length_cons, List.length_nil] at h1; omega) hok.out.q.1 hq)
  go_wp2_with fail
  refine HC.out.mono ?_
  rintro e w9 ⟨v9, rfl, ho9, hb9⟩
  have HO9 := Lib.hid (own_down ho9.out HB8.out.size)
  have HB9 := Lib.hid (HB8.out.trans (hb9.out.mono HB8.out.size))
  clear ho9 hb9
  go_wp2_with fail
  go_ret
  exact ⟨v9, rfl, by show Own _ _ _ _; simpa [chB, colC, List.append_assoc] using HO9.out, HB9⟩
theorem eplB_byte (v : Vl) : ∀ x ∈ plB v, x < 256 := fun x hx => by
 unfold plB at hx
 split at hx
 ·rw [List.mem_singleton.1 hx]; omega
 ·split at hx
  ·exact digs_byte _ x hx
  ·split at hx
   ·exact txt_byte _ x hx
   ·cases hx
theorem eimg_byte (R : List Vl) (h : R.length ≤ 8) : ∀ x ∈ imgF R, x < 256 := fun x hx => by
 unfold imgF at hx
 rcases List.mem_cons.1 hx with rfl | hx
 ·have h1 := nbits_lt R
  have h2 : 2 ^ R.length ≤ 2 ^ 8 := Nat.pow_le_pow_right (by omega) h
  omega
 ·obtain ⟨v, _, hv⟩ := List.mem_flatMap.1 hx
  exact eplB_byte v x hv
theorem eimg_len (R : List Vl) (h : R.length ≤ 8) (hs : ∀ x ∈ R, x.s.size ≤ 1000 ∧ x.fits) : (imgF R).length ≤ 9000 := by
 have h1 := plb_len R (fun x hx => plB_len x (hs x hx).1 (hs x hx).2.1.1 (hs x hx).2.1.2.1)
 unfold imgF
 rw [List.length_cons]
 have h3 := Nat.mul_le_mul_left 1020 h
 omega
end Go.Proofs.YtnpmgempkoeapaaGreatDoor
namespace Go.Proofs.YtnpmgempkoeapaaGreatDoor
open Go.RowKit Dg
theorem nbits_succ (R : List Vl) (k : Nat) (h : k < R.length) : nbits (R.take (k + 1)) = nbits (R.take k) + (if R[k].k = 0 then 2 ^ k else 0) := by
 have e := nbits_snoc (R.take k) R[k]
 rw [List.length_take, Nat.min_eq_left (by omega)] at e
 rw [List.take_succ_eq_append_getElem h]; exact e
theorem app_one (w : World) (B : Nat) (v : Value) (l : List Nat) (d : Nat) (x : Int) (hx : (d : Int) = x) (h : Own B w v l) (hB : B ≤ w.heap.size) (hl : l.length ≤ 10000) :
 ∃ R W', (Builtin.append_ #[37, 37] 37 #[v, .slice (some ⟨w.heap.size, 0, none⟩) 1 1]).run Tryz.prog (w.alloc (.cells #[.int .u8 x] 5)) = .ok R W' ∧ Own B W' R (l ++ [d]) ∧ Below B w W' := by
 subst hx
 obtain ⟨i0, hi, hz0, hz1, hz2⟩ := info_parts info5
 obtain ⟨R, W', hrun, hown, hg, _⟩ := run_append_own (P := Tryz.prog) (w.alloc (.cells #[bv d] 5)) B 37 37 5 i0 (.int .u8 0) 1 1 Tryz.underlying37 hi hz0 hz1 hz2 rfl (by decide) v l.length (l.map bv) (h.alloc _)
  ⟨w.heap.size, 0, none⟩ 1 1 [bv d] rfl (fun j u hj => by
    rcases j with _ | j
    ·have := (Has.new w 5 #[bv d]).cell 0
     simpa [Addr.add] using this.trans hj
    ·simp at hj) (fun u hu => by simp at hu; subst hu; rfl) (by unfold maxLen; omega) (by omega) (by simp; omega)
 refine ⟨R, W', hrun, ?_, ?_⟩
 ·unfold Own; rw [List.map_append, List.length_append]; exact hown
 ·exact ((Below.refl B w).alloc hB _).grown hg (by simp; omega) fun k hk => (World.ownsRow.lt h k hk).1
theorem pow_le8 (k : Nat) (h : k ≤ 8) : 2 ^ k ≤ 256 :=
 calc 2 ^ k ≤ 2 ^ 8 := Nat.pow_le_pow_right (by omega) h
  _ = 256 := rfl
set_option maxHeartbeats 4000000 in
set_option maxRecDepth 100000 in
theorem rwrite_any (Ar : Option Addr) (R : List Vl) (nr cr : Nat) (w : World) (h1 : 1 ≤ nr) (h8 : nr ≤ 8) (hnr : R.length = nr) (hncr : nr ≤ cr) (hR : VRow w Ar R) (hmay : ∀ x ∈ R, x.may = true) (hfit : ∀ x ∈ R, x.fits) (hsz : ∀ x ∈ R, x.s.size ≤ 1000) :
 Calls Tryz.prog 40 #[.slice Ar nr cr] w fun e w' => ∃ v, e = .returned v ∧ Hid (Own w.heap.size w' v (imgF R)) ∧ Hid (Below w.heap.size w w') := by
 have HNR := Lib.hid hnr
 have HR := Lib.hid hR
 have HMY := Lib.hid hmay
 have HFT := Lib.hid hfit
 have HSZ := Lib.hid hsz
 have HB0 := Lib.hid (Below.refl w.heap.size w)
 have h2 : (nr : Int) ≤ 8 := by omega
 have h3 : (1 : Int) ≤ (nr : Int) := by omega
 have h4 : (0 : Int) < (nr : Int) := by omega
 clear hnr hR hmay hfit hsz
 go_enter Tryz.func40, Tryz.ntmps40
 go_wp2_with fail
 go_loopw [3, 5] (fun b i wr => ∃ (u : Value), u = b ∧ ((i = .int .i64 0 ∧ Hid (Own w.heap.size wr u [])) ∨ (i = .int .i64 8 ∧ Hid (Own w.heap.size wr u [nbits R]))) ∧ Hid (Below w.heap.size w wr)) (fun _ i _ => 8 - (intOf i).toNat)
 case atStart => exact ⟨_, rfl, .inl ⟨rfl, World.ownsRow_nil _ _ _ _⟩, HB0⟩
 case round =>
  obtain ⟨u, rfl, hcase, HB⟩ := hrel
  clear HB0
  obtain ⟨wo, rfl⟩ : ∃ wo : World, wo = wr := ⟨_, rfl⟩
  rcases hcase with ⟨rfl, HO⟩ | ⟨rfl, HO⟩
  ·have h04 : (0 : Int) < (nr : Int) := h4
   go_wp2_with fail
   go_loopw [6, 7, 8] (fun x a k wr => ∃ (j xv av : Nat), j ≤ nr ∧ x = .int .i64 xv ∧ a = .int .i64 av ∧ k = .int .i64 j ∧ Hid (xv = nbits (R.take j)) ∧ Hid (av = 2 ^ j) ∧ wr = wo) (fun _ _ k _ => nr - (intOf k).toNat)
   case atStart => exact ⟨0, 0, 1, by omega, rfl, rfl, rfl, rfl, rfl, rfl⟩
   case round =>
    obtain ⟨j, xv, av, hj, rfl, rfl, rfl, HX, HA, rfl⟩ := hrel
    have hxv : xv < av := by rw [HX.out, HA.out]; have := nbits_lt (R.take j); rwa [List.length_take, Nat.min_eq_left (by rw [HNR.out]; omega)] at this
    have hav : av ≤ 256 := by rw [HA.out]; exact pow_le8 j (by omega)
    by_cases hlt : j < nr
    ·have hlz : (j : Int) < (nr : Int) := by omega
     have hl8 : (j : Int) < 8 := by omega
     have hjr : j < R.length := by rw [HNR.out]; omega
     have HS := Lib.hid (nbits_succ R j hjr)
     obtain ⟨b, off, rfl, hc⟩ := (HR.out.below HB.out) (by intro e; rw [e] at hjr; simp at hjr)
     obtain ⟨d0, d1, d2⟩ := hc j hjr
     clear hc
     generalize R[j] = y at *
     obtain ⟨yk, yn, ys⟩ := y
     simp only at d0 d1 d2
     by_cases hk : yk = 0
     ·subst hk
      go_wp2_with fail
      go_roundw
      case rel => exact ⟨j + 1, xv + av, 2 * av, by omega, by simp, by simp, by simp, by show _ = _; rw [HS.out, if_pos rfl, ← HX.out, ← HA.out], by show _ = _; rw [HA.out, Nat.pow_succ]; omega, trivial⟩
      case measure => simp [intOf]; omega
     ·have hke : (yk == 0) = false := beq_eq_false_iff_ne.2 hk
      go_wp2_with fail
      go_roundw
      case rel => exact ⟨j + 1, xv, 2 * av, by omega, rfl, by simp, by simp, by show _ = _; rw [HS.out, if_neg hk, ← HX.out]; rfl, by show _ = _; rw [HA.out, Nat.pow_succ]; omega, trivial⟩
      case measure => simp [intOf]; omega
    ·obtain rfl : j = nr := by omega
     replace HX : Hid (xv = nbits R) := by show _ = _; rw [HX.out, List.take_of_length_le (by rw [HNR.out]; omega)]
     have hx0 : (0 : Int) ≤ (xv : Int) := by omega
     have hx1 : (xv : Int) ≤ 255 := by omega
     have HAP := Lib.hid (app_one wr w.heap.size u [] xv (xv : Int) rfl HO.out HB.out.size (by simp))
     go_wp2_with (at_builtin; refine wpList_app rfl _ _ 37 37 rfl u (.slice (some ⟨wr.heap.size, 0, none⟩) 1 1) rfl rfl ?_; obtain ⟨Q, W', hrun, hmade⟩ := HAP.out; refine ⟨Q, W', hrun, ?_⟩; have HM := Lib.hid hmade; clear hrun hmade)
     go_roundw
     case rel => exact ⟨Q, rfl, .inr ⟨rfl, by rw [← HX.out]; exact HM.out.1⟩, HB.out.trans HM.out.2⟩
     case measure => simp [intOf]
  ·have h84 : ¬ ((8 : Int) < (nr : Int)) := by omega
   go_wp2_with fail
   go_loopw [3, 9] (fun b i wr => ∃ (k : Nat) (u : Value), k ≤ nr ∧ u = b ∧ i = .int .i64 k ∧ Hid (Own w.heap.size wr u (nbits R :: (R.take k).flatMap plB)) ∧ Hid (Below w.heap.size w wr)) (fun _ i _ => nr - (intOf i).toNat)
   case atStart => exact ⟨0, _, by omega, rfl, rfl, HO, HB⟩
   case round =>
    clear HO HB h84
    obtain ⟨k, u, hk, rfl, rfl, HO, HB⟩ := hrel
    by_cases hlt : k < nr
    ·have hlz : (k : Int) < (nr : Int) := by omega
     have hjr : k < R.length := by rw [HNR.out]; omega
     obtain ⟨b, off, rfl, hc⟩ := (HR.out.below HB.out) (by intro e; rw [e] at hjr; simp at hjr)
     obtain ⟨d0, d1, d2⟩ := hc k hjr
     have HT : Hid (nbits R :: (R.take (k + 1)).flatMap plB = (nbits R :: (R.take k).flatMap plB) ++ plB R[k]) := by
      show _ = _
      rw [List.take_succ_eq_append_getElem hjr, List.flatMap_append]; simp
     have HLI : Hid ((nbits R :: (R.take k).flatMap plB).length ≤ 9000) := by
      have h1 := plb_len (R.take k) (fun x hx => plB_len x (HSZ.out x (List.mem_of_mem_take hx)) (HFT.out x (List.mem_of_mem_take hx)).1.1 (HFT.out x (List.mem_of_mem_take hx)).1.2.1)
      show _ ≤ _
      rw [List.length_cons]
      have h2 : (R.take k).length ≤ 8 := by rw [List.length_take]; omega
      have h3 := Nat.mul_le_mul_left 1020 h2
      omega
     have hmy := HMY.out R[k] (List.getElem_mem hjr)
     have hft := HFT.out R[k] (List.getElem_mem hjr)
     have hsz := HSZ.out R[k] (List.getElem_mem hjr)
     clear hc
     generalize R[k] = y at *
     obtain ⟨yk, yn, ys⟩ := y
     simp only at d0 d1 d2 hsz
     have hn0 := hft.1.1
     have hn1 := hft.1.2.1
     simp only at hn0 hn1
     have hm : mayF yk yn ys = true := hmy
     clear hft hmy
     rcases may_kind hm with rfl | rfl | rfl | rfl | rfl
     ·have hp : plB ⟨0, yn, ys⟩ = [] := by simp [plB]
      rw [hp, List.append_nil] at HT
      have hba : Below wr.heap.size wr (wr.alloc (.cells #[.int .i64 0, .int .i64 yn, .string ys] 87)) := (Below.refl _ _).alloc (Nat.le_refl _) _
      replace HO := Lib.hid (HO.out.below hba)
      replace HB := Lib.hid (HB.out.trans (hba.mono HB.out.size))
      clear hba
      clear hp hm
      go_wp2_with fail
      go_roundw
      case rel => exact ⟨k + 1, u, by omega, rfl, by simp, by rw [HT.out]; exact HO, HB⟩
      case measure => simp [intOf]; omega
     ·have hn : yn = 0 ∨ yn = 1 := by
       simp only [mayF] at hm
       simp at hm
       exact hm.2
      clear hm
      obtain ⟨d, rfl, hd⟩ : ∃ d : Nat, yn = (d : Int) ∧ d ≤ 1 := by
       rcases hn with rfl | rfl
       ·exact ⟨0, rfl, by omega⟩
       ·exact ⟨1, rfl, by omega⟩
      have hd0 : (0 : Int) ≤ (d : Int) := by omega
      have hd1 : (d : Int) ≤ 255 := by omega
      have hp : plB ⟨1, (d : Int), ys⟩ = [d] := by
       show [((d : Int) % 256).toNat] = [d]
       congr 1; omega
      rw [hp] at HT
      have hba : Below wr.heap.size wr (wr.alloc (.cells #[.int .i64 1, .int .i64 (d : Int), .string ys] 87)) := (Below.refl _ _).alloc (Nat.le_refl _) _
      replace HO := Lib.hid (HO.out.below hba)
      replace HB := Lib.hid (HB.out.trans (hba.mono HB.out.size))
      clear hba
      have hap := app_one (wr.alloc (.cells #[.int .i64 1, .int .i64 (d : Int), .string ys] 87)) w.heap.size u _ d (d : Int) rfl HO.out HB.out.size (Nat.le_trans HLI.out (by omega))
      rw [show (wr.alloc (.cells #[.int .i64 1, .int .i64 (d : Int), .string ys] 87)).heap.size = wr.heap.size + 1 by simp] at hap
      have HAP := Lib.hid hap
      clear hap
      clear hp hn hd
      go_wp2_with (at_builtin; refine wpList_app rfl _ _ 37 37 rfl u (.slice (some ⟨wr.heap.size + 1, 0, none⟩) 1 1) rfl rfl ?_; obtain ⟨Q, W', hrun, hmade⟩ := HAP.out; refine ⟨Q, W', hrun, ?_⟩; have HM := Lib.hid hmade; clear hrun hmade)
      go_roundw
      case rel => exact ⟨k + 1, Q, by omega, rfl, by simp, by rw [HT.out]; exact HM.out.1, HB.out.trans HM.out.2⟩
      case measure => simp [intOf]; omega
     ·have hp : plB ⟨2, yn, ys⟩ = digs (zig yn) := rfl
      have HPL : Hid ((digs (zig yn)).length ≤ 10) := digs_le_ten (zig yn) (zig_lt yn hn0 hn1)
      have hba : Below wr.heap.size wr (wr.alloc (.cells #[.int .i64 2, .int .i64 yn, .string ys] 87)) := (Below.refl _ _).alloc (Nat.le_refl _) _
      replace HO := Lib.hid (HO.out.below hba)
      replace HB := Lib.hid (HB.out.trans (hba.mono HB.out.size))
      clear hba
      have HC := Lib.hid (refSigned_any yn (wr.alloc (.cells #[.int .i64 2, .int .i64 yn, .string ys] 87)) hn0 hn1)
      rw [hp] at HT
      clear hp hm
      go_wp2_with fail
      refine HC.out.mono ?_
      rintro e w1 ⟨v, rfl, ho, hb⟩
      obtain ⟨A1, n1, c1, rfl, HN1, hnc1, HR1, HZ1⟩ := own_openZ ho
      have HAP := Lib.hid (own_app w1 w.heap.size u _ (HO.out.below hb) (Nat.le_trans HB.out.size hb.size) A1 _ n1 c1 HN1.out HR1.out (by have := HLI.out; have := HPL.out; have := HN1.out; omega) HZ1.out)
      replace HB := Lib.hid (HB.out.trans (hb.mono HB.out.size))
      clear ho hb HC
      go_wp2_with (at_builtin; refine wpList_app rfl _ _ 37 37 rfl u (.slice A1 n1 c1) rfl rfl ?_; obtain ⟨Q, W', hrun, hmade⟩ := HAP.out; refine ⟨Q, W', hrun, ?_⟩; have HM := Lib.hid hmade; clear hrun hmade)
      go_roundw
      case rel => exact ⟨k + 1, Q, by omega, rfl, by simp, by rw [HT.out]; exact HM.out.1, HB.out.trans HM.out.2⟩
      case measure => simp [intOf]; omega
     ·have hp : plB ⟨3, yn, ys⟩ = ytxt ys := rfl
      have HPL : Hid ((ytxt ys).length ≤ 1010) := by
       show _ ≤ _
       unfold ytxt; rw [List.length_append, sb_length]; have := digs_le_ten ys.size (by omega); omega
      have hba : Below wr.heap.size wr (wr.alloc (.cells #[.int .i64 3, .int .i64 yn, .string ys] 87)) := (Below.refl _ _).alloc (Nat.le_refl _) _
      replace HO := Lib.hid (HO.out.below hba)
      replace HB := Lib.hid (HB.out.trans (hba.mono HB.out.size))
      clear hba
      have HC := Lib.hid (refText_any ys (wr.alloc (.cells #[.int .i64 3, .int .i64 yn, .string ys] 87)) hsz)
      rw [hp] at HT
      clear hp hm
      go_wp2_with fail
      refine HC.out.mono ?_
      rintro e w1 ⟨v, rfl, ho, hb⟩
      obtain ⟨A1, n1, c1, rfl, HN1, hnc1, HR1, HZ1⟩ := own_openZ ho
      have HAP := Lib.hid (own_app w1 w.heap.size u _ (HO.out.below hb) (Nat.le_trans HB.out.size hb.size) A1 _ n1 c1 HN1.out HR1.out (by have := HLI.out; have := HPL.out; have := HN1.out; omega) HZ1.out)
      replace HB := Lib.hid (HB.out.trans (hb.mono HB.out.size))
      clear ho hb HC
      go_wp2_with (at_builtin; refine wpList_app rfl _ _ 37 37 rfl u (.slice A1 n1 c1) rfl rfl ?_; obtain ⟨Q, W', hrun, hmade⟩ := HAP.out; refine ⟨Q, W', hrun, ?_⟩; have HM := Lib.hid hmade; clear hrun hmade)
      go_roundw
      case rel => exact ⟨k + 1, Q, by omega, rfl, by simp, by rw [HT.out]; exact HM.out.1, HB.out.trans HM.out.2⟩
      case measure => simp [intOf]; omega
     ·have hp : plB ⟨4, yn, ys⟩ = ytxt ys := rfl
      have HPL : Hid ((ytxt ys).length ≤ 1010) := by
       show _ ≤ _
       unfold ytxt; rw [List.length_append, sb_length]; have := digs_le_ten ys.size (by omega); omega
      have hba : Below wr.heap.size wr (wr.alloc (.cells #[.int .i64 4, .int .i64 yn, .string ys] 87)) := (Below.refl _ _).alloc (Nat.le_refl _) _
      replace HO := Lib.hid (HO.out.below hba)
      replace HB := Lib.hid (HB.out.trans (hba.mono HB.out.size))
      clear hba
      have HC := Lib.hid (refText_any ys (wr.alloc (.cells #[.int .i64 4, .int .i64 yn, .string ys] 87)) hsz)
      rw [hp] at HT
      clear hp hm
      go_wp2_with fail
      refine HC.out.mono ?_
      rintro e w1 ⟨v, rfl, ho, hb⟩
      obtain ⟨A1, n1, c1, rfl, HN1, hnc1, HR1, HZ1⟩ := own_openZ ho
      have HAP := Lib.hid (own_app w1 w.heap.size u _ (HO.out.below hb) (Nat.le_trans HB.out.size hb.size) A1 _ n1 c1 HN1.out HR1.out (by have := HLI.out; have := HPL.out; have := HN1.out; omega) HZ1.out)
      replace HB := Lib.hid (HB.out.trans (hb.mono HB.out.size))
      clear ho hb HC
      go_wp2_with (at_builtin; refine wpList_app rfl _ _ 37 37 rfl u (.slice A1 n1 c1) rfl rfl ?_; obtain ⟨Q, W', hrun, hmade⟩ := HAP.out; refine ⟨Q, W', hrun, ?_⟩; have HM := Lib.hid hmade; clear hrun hmade)
      go_roundw
      case rel => exact ⟨k + 1, Q, by omega, rfl, by simp, by rw [HT.out]; exact HM.out.1, HB.out.trans HM.out.2⟩
      case measure => simp [intOf]; omega
    ·obtain rfl : k = nr := by omega
     have HF : Hid (nbits R :: (R.take k).flatMap plB = imgF R) := by
      show _ = _
      rw [List.take_of_length_le (by rw [HNR.out]; omega)]; rfl
     go_wp2_with fail
     go_ret
     exact ⟨u, rfl, by rw [← HF.out]; exact HO, HB⟩
end Go.Proofs.YtnpmgempkoeapaaGreatDoor
