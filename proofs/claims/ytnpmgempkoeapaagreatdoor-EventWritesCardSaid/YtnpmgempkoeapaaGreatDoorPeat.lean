/-
  Put together, as far as it is used: Good4.
-/
import Derived.Test.YtnpmgempkoeapaaGreatDoorPeaf
import Derived.Test.YtnpmgempkoeapaaGreatDoorPeah
set_option linter.unusedVariables false
set_option linter.unusedSimpArgs false
set_option linter.defProp false
namespace Go.Proofs.YtnpmgempkoeapaaGreatDoor
open Go.RowKit Dg
structure GSt (w : World) (A : Option Addr) (n c : Nat) (K : Int) (wr : World) (v : Value) (kk : Int) (M : List Cl) : Prop where
 own : OwnC (w.heap.size + 4) wr v M
 bel : Below w.heap.size w wr
 prm : Has wr w.heap.size 27 #[.slice A n c, .int .i64 K]
 res : Has wr (w.heap.size + 1) 27 #[.slice none 0 0, .int .i64 0]
 out : Has wr (w.heap.size + 2) 27 #[v, .int .i64 kk]
 pol : Has wr (w.heap.size + 3) 9 #[.string ⟨#[105, 100]⟩, .string ⟨#[110, 97, 109, 101]⟩, .string ⟨#[110]⟩, .string ⟨#[102, 108, 97, 103]⟩, .string ⟨#[114, 97, 119]⟩, .string ⟨#[120]⟩]
 big : w.heap.size + 4 ≤ wr.heap.size
section
variable {w wr w' : World} {A : Option Addr} {n c : Nat} {K kk : Int} {v : Value} {M : List Cl}
theorem GSt.below (h : GSt w A n c K wr v kk M) (hb : Below wr.heap.size wr w') : GSt w A n c K w' v kk M :=
 ⟨h.own.below hb, h.bel.trans (hb.mono h.bel.size), h.prm.below hb h.prm.lt, h.res.below hb h.res.lt, h.out.below hb h.out.lt, h.pol.below hb h.pol.lt, Nat.le_trans h.big hb.size⟩
theorem GSt.stored (h : GSt w A n c K wr v kk M) {R : Value} {M' : List Cl} (ho : OwnC (w.heap.size + 4) w' R M') (hb : Below (w.heap.size + 4) wr w') : GSt w A n c K (w'.setCell ⟨w.heap.size + 2, 0, none⟩ R) R kk M' := by
 refine ⟨ho.far (by show w.heap.size + 2 < _; omega) R, (h.bel.trans (hb.mono (by omega))).setCell (by show w.heap.size ≤ w.heap.size + 2; omega) _, ?_, ?_, ?_, ?_, ?_⟩
 ·exact (h.prm.below hb (by omega)).far (by show w.heap.size ≠ w.heap.size + 2; omega) _
 ·exact (h.res.below hb (by omega)).far (by show w.heap.size + 1 ≠ w.heap.size + 2; omega) _
 ·exact (h.out.below hb (by omega)).put 0 R
 ·exact (h.pol.below hb (by omega)).far (by show w.heap.size + 3 ≠ w.heap.size + 2; omega) _
 ·rw [size_set]; exact Nat.le_trans h.big hb.size
theorem GSt.keyed (h : GSt w A n c K wr v kk M) (k2 : Int) : GSt w A n c K (wr.setCell ⟨w.heap.size + 2, 1, none⟩ (.int .i64 k2)) v k2 M := by
 refine ⟨h.own.far (by show w.heap.size + 2 < _; omega) _, h.bel.setCell (by show w.heap.size ≤ w.heap.size + 2; omega) _, ?_, ?_, ?_, ?_, ?_⟩
 ·exact h.prm.far (by show w.heap.size ≠ w.heap.size + 2; omega) _
 ·exact h.res.far (by show w.heap.size + 1 ≠ w.heap.size + 2; omega) _
 ·exact h.out.put 1 _
 ·exact h.pol.far (by show w.heap.size + 3 ≠ w.heap.size + 2; omega) _
 ·rw [size_set]; exact h.big
theorem GSt.cleared (h : GSt w A n c K wr v kk M) {g : Nat} (hg : w.heap.size + 4 ≤ g) (i : Nat) (u : Value) {M' : List Cl} (ho : OwnC (w.heap.size + 4) (wr.setCell ⟨g, i, none⟩ u) v M') : GSt w A n c K (wr.setCell ⟨g, i, none⟩ u) v kk M' := by
 refine ⟨ho, h.bel.setCell (by show w.heap.size ≤ g; omega) _, ?_, ?_, ?_, ?_, ?_⟩
 ·exact h.prm.far (by show w.heap.size ≠ g; omega) _
 ·exact h.res.far (by show w.heap.size + 1 ≠ g; omega) _
 ·exact h.out.far (by show w.heap.size + 2 ≠ g; omega) _
 ·exact h.pol.far (by show w.heap.size + 3 ≠ g; omega) _
 ·rw [size_set]; exact h.big
end
theorem pool_cell (k : Nat) (h : k < 6) : (#[.string ⟨#[105, 100]⟩, .string ⟨#[110, 97, 109, 101]⟩, .string ⟨#[110]⟩, .string ⟨#[102, 108, 97, 103]⟩, .string ⟨#[114, 97, 119]⟩, .string ⟨#[120]⟩] : Array Value)[k]? = some (.string (pool k)) := by
 have : k = 0 ∨ k = 1 ∨ k = 2 ∨ k = 3 ∨ k = 4 ∨ k = 5 := by omega
 rcases this with rfl | rfl | rfl | rfl | rfl | rfl <;> rfl
theorem keys_neg (m : Nat) (K : Int) (hm : 1 ≤ m) (h : K < 0) : ∃ r : Int, -((K + 1).tmod ((min m 3 : Nat) : Int)) = r ∧ ((gKeys m K : Nat) : Int) = 1 + r ∧ 0 ≤ r ∧ r < 3 := by
 have h1 := Int.emod_nonneg (absK K) (b := ((min m 3 : Nat) : Int)) (by omega)
 have h2 := Int.emod_lt_of_pos (absK K) (b := ((min m 3 : Nat) : Int)) (by omega)
 refine ⟨absK K % ((min m 3 : Nat) : Int), ?_, by unfold gKeys; omega, h1, by omega⟩
 unfold absK
 rw [if_pos h, ← Int.neg_tmod, Int.tmod_eq_emod_of_nonneg (by omega)]
theorem keys_pos (m : Nat) (K : Int) (hm : 1 ≤ m) (h : ¬ K < 0) : ∃ r : Int, K.tmod ((min m 3 : Nat) : Int) = r ∧ ((gKeys m K : Nat) : Int) = 1 + r ∧ 0 ≤ r ∧ r < 3 := by
 have h1 := Int.emod_nonneg (absK K) (b := ((min m 3 : Nat) : Int)) (by omega)
 have h2 := Int.emod_lt_of_pos (absK K) (b := ((min m 3 : Nat) : Int)) (by omega)
 refine ⟨absK K % ((min m 3 : Nat) : Int), ?_, by unfold gKeys; omega, h1, by omega⟩
 unfold absK
 rw [if_neg h, Int.tmod_eq_emod_of_nonneg (by omega)]
theorem keysN (m : Nat) (K : Int) (hm : 1 ≤ m) (h : K < 0) : ∃ (q : Nat) (r : Int), 1 ≤ q ∧ q ≤ 3 ∧ ((q : Int) == 0) = false ∧ (∀ ts t W, Sem.run Tryz.prog (Builtin.min_ ts t #[.int .i64 m, .int .i64 3]) W = .ok (.int .i64 (q : Nat)) W) ∧ -((K + 1).tmod (q : Int)) = r ∧ ((gKeys m K : Nat) : Int) = 1 + r ∧ 0 ≤ r ∧ r < 3 := by
 obtain ⟨r, h1, h2, h3, h4⟩ := keys_neg m K hm h
 refine ⟨min m 3, r, by omega, by omega, by simp; omega, fun ts t W => ?_, h1, h2, h3, h4⟩
 rw [run_min_int2]
 congr 2
 split <;> omega
theorem keysP (m : Nat) (K : Int) (hm : 1 ≤ m) (h : ¬ K < 0) : ∃ (q : Nat) (r : Int), 1 ≤ q ∧ q ≤ 3 ∧ ((q : Int) == 0) = false ∧ (∀ ts t W, Sem.run Tryz.prog (Builtin.min_ ts t #[.int .i64 m, .int .i64 3]) W = .ok (.int .i64 (q : Nat)) W) ∧ K.tmod (q : Int) = r ∧ ((gKeys m K : Nat) : Int) = 1 + r ∧ 0 ≤ r ∧ r < 3 := by
 obtain ⟨r, h1, h2, h3, h4⟩ := keys_pos m K hm h
 refine ⟨min m 3, r, by omega, by omega, by simp; omega, fun ts t W => ?_, h1, h2, h3, h4⟩
 rw [run_min_int2]
 congr 2
 split <;> omega
theorem clr_step (M : List Cl) (k : Nat) (h : k < M.length) : (clr M k).set k ⟨((clr M k)[k]'(by rw [clr_len]; exact h)).nm, ((clr M k)[k]'(by rw [clr_len]; exact h)).k, false⟩ = clr M (k + 1) := by
 have e := clr_get M k k h
 rw [if_neg (by omega)] at e
 rw [e]; exact clr_set M k h
theorem gName_pool {out : List Cl} {c : Cl} {i : Nat} (h : nameF c.nm = false ∨ ¬ findI out c.nm < 0) : gName out c i = pool i := by
 unfold gName
 rw [if_neg]
 rintro ⟨h1, h2⟩
 rcases h with h | h
 ·rw [h] at h1; cases h1
 ·exact h h2
theorem gName_own {out : List Cl} {c : Cl} {i : Nat} (h1 : nameF c.nm = true) (h2 : findI out c.nm < 0) : gName out c i = c.nm := by
 unfold gName; rw [if_pos ⟨h1, h2⟩]
theorem gEnd (w' : World) (g : Nat) (c0 c1 : Value) (tmps : Array Value) (hp : tmps.getD 2 undef = .pointer (some ⟨g, 0, none⟩)) (hh : Has w' g 27 #[c0, c1]) :
 (results Tryz.f19 tmps).run Tryz.prog w' = .ok (.agg #[c0, c1]) w' :=
 results_cell_row rfl _ _ g 27 #[c0, c1] (0, 0) _ hp hh Tryz.underlying27 rfl (by kernel_rfl)
set_option maxHeartbeats 16000000 in
set_option maxRecDepth 100000 in
theorem rgood_any (A : Option Addr) (L : List Cl) (n c : Nat) (K : Int) (w : World) (hn : L.length = n) (hnc : n ≤ c) (hcm : c ≤ maxLen) (hA : CRow w A L) (hf : ∀ x ∈ L, x.fit) (hk0 : -9223372036854775808 ≤ K) (hk1 : K ≤ 9223372036854775807) :
 Calls Tryz.prog 19 #[.agg #[.slice A n c, .int .i64 K]] w fun e w' => ∃ v, e = .returned (.agg #[v, .int .i64 (gdK L K)]) ∧ Hid (OwnC w.heap.size w' v (gdC L K)) ∧ Hid (Below w.heap.size w w') := by
 have HN := Lib.hid hn
 have HA := Lib.hid hA
 have HF := Lib.hid hf
 have hcm2 : n ≤ 9223372036854775807 := by unfold maxLen at hcm; omega
 have st0 : GSt w A n c K ((((w.alloc (.cells #[.slice A n c, .int .i64 K] 27)).alloc (.cells #[.slice none 0 0, .int .i64 0] 27)).alloc (.cells #[.slice none 0 0, .int .i64 0] 27)).alloc (.cells #[.string ⟨#[105, 100]⟩, .string ⟨#[110, 97, 109, 101]⟩, .string ⟨#[110]⟩, .string ⟨#[102, 108, 97, 103]⟩, .string ⟨#[114, 97, 119]⟩, .string ⟨#[120]⟩] 9)) (.slice none 0 0) 0 (gTo L 0) := by
  have e1 : (w.alloc (.cells #[.slice A n c, .int .i64 K] 27)).heap.size = w.heap.size + 1 := by simp
  have e2 : ((w.alloc (.cells #[.slice A n c, .int .i64 K] 27)).alloc (.cells #[.slice none 0 0, .int .i64 0] 27)).heap.size = w.heap.size + 2 := by simp
  have e3 : (((w.alloc (.cells #[.slice A n c, .int .i64 K] 27)).alloc (.cells #[.slice none 0 0, .int .i64 0] 27)).alloc (.cells #[.slice none 0 0, .int .i64 0] 27)).heap.size = w.heap.size + 3 := by simp
  refine ⟨ownC_nil _ _, ((((Below.refl w.heap.size w).alloc (Nat.le_refl _) _).alloc (by simp) _).alloc (by simp; omega) _).alloc (by simp; omega) _, (((Has.new w _ _).alloc _).alloc _).alloc _, ?_, ?_, ?_, by simp⟩
  ·have h := ((Has.new (w.alloc (.cells #[.slice A n c, .int .i64 K] 27)) 27 #[.slice none 0 0, .int .i64 0]).alloc (.cells #[.slice none 0 0, .int .i64 0] 27)).alloc (.cells #[.string ⟨#[105, 100]⟩, .string ⟨#[110, 97, 109, 101]⟩, .string ⟨#[110]⟩, .string ⟨#[102, 108, 97, 103]⟩, .string ⟨#[114, 97, 119]⟩, .string ⟨#[120]⟩] 9)
   rw [e1] at h; exact h
  ·have h := (Has.new ((w.alloc (.cells #[.slice A n c, .int .i64 K] 27)).alloc (.cells #[.slice none 0 0, .int .i64 0] 27)) 27 #[.slice none 0 0, .int .i64 0]).alloc (.cells #[.string ⟨#[105, 100]⟩, .string ⟨#[110, 97, 109, 101]⟩, .string ⟨#[110]⟩, .string ⟨#[102, 108, 97, 103]⟩, .string ⟨#[114, 97, 119]⟩, .string ⟨#[120]⟩] 9)
   rw [e2] at h; exact h
  ·have h := Has.new (((w.alloc (.cells #[.slice A n c, .int .i64 K] 27)).alloc (.cells #[.slice none 0 0, .int .i64 0] 27)).alloc (.cells #[.slice none 0 0, .int .i64 0] 27)) 9 #[.string ⟨#[105, 100]⟩, .string ⟨#[110, 97, 109, 101]⟩, .string ⟨#[110]⟩, .string ⟨#[102, 108, 97, 103]⟩, .string ⟨#[114, 97, 119]⟩, .string ⟨#[120]⟩]
   rw [e3] at h; exact h
 have S0 := Lib.hid st0
 clear hn hA hf st0 hnc hcm
 go_enter Tryz.func19, Tryz.ntmps19
 go_wp2_with fail
 go_loopw [5] (fun i wr => ∃ (k : Nat) (v : Value), k ≤ n ∧ k ≤ 6 ∧ i = .int .i64 k ∧ Hid (GSt w A n c K wr v 0 (gTo L k))) (fun i _ => n - (intOf i).toNat)
 case atStart => exact ⟨0, _, by omega, by omega, rfl, S0⟩
 case round =>
  obtain ⟨k, v, hk, hk6, rfl, HS⟩ := hrel
  clear S0
  obtain ⟨Ao, no, co, rfl, HNO, hnoc, hcom, HVO, HZO⟩ := ownC_open HS.out.own
  have a0 : wr.cell? ⟨w.heap.size, 0, none⟩ = some (.slice A n c) := HS.out.prm.cell 0
  have a1 : wr.cell? ⟨w.heap.size, 1, none⟩ = some (.int .i64 K) := HS.out.prm.cell 1
  have hno6 : no ≤ 6 := by
   have h := (gTo_cols L k).2
   have h2 := HNO.out
   omega
  by_cases hlt : k < n
  ·by_cases hl6 : k < 6
   ·have hkl : k < L.length := by rw [HN.out]; exact hlt
    obtain ⟨b, off, rfl, hc⟩ := (HA.out.below HS.out.bel) (by intro e; rw [e] at hkl; simp at hkl)
    obtain ⟨c0, c1, c2⟩ := hc k hkl
    obtain ⟨hf0, hf1, hf2⟩ := HF.out L[k] (List.getElem_mem hkl)
    have HG := Lib.hid (gTo_succ L k hkl)
    clear hc
    generalize L[k] = x at *
    obtain ⟨xa, xb, xc⟩ := x
    simp only at c0 c1 c2 hf0 hf1 hf2
    obtain ⟨M, hM⟩ : ∃ M, gTo L k = M := ⟨_, rfl⟩
    rw [hM] at HS HNO HVO HG
    clear hM
    by_cases hneg : xb < 0
    ·obtain ⟨q, hq, hq4, hq0, hq3⟩ : ∃ q : Int, -((xb + 1).tmod 4) = q ∧ kind4 xb = q ∧ 0 ≤ q ∧ q ≤ 3 := ⟨_, kind4_neg hneg, rfl, (kind4_range xb).1, (kind4_range xb).2⟩
     have HQ := Lib.hid hq4
     clear hq4
     go_wp2_with fail
     refine (refName_any xa _).mono ?_
     rintro e w0 ⟨rfl, rfl⟩
     obtain ⟨W2, hW2⟩ : ∃ W2, W2 = wr.alloc (.cells #[.string xa, .int .i64 (1 + q), .bool xc] 29) := ⟨_, rfl⟩
     rw [← hW2]
     have HBW : Hid (Below wr.heap.size wr W2) := by
      show Below _ _ _
      rw [hW2]; exact (Below.refl _ wr).alloc (Nat.le_refl _) _
     have HX : Hid (Has W2 wr.heap.size 29 #[.string xa, .int .i64 (1 + q), .bool xc]) := by
      show Has _ _ _ _
      rw [hW2]; exact Has.new wr _ _
     have S2 := Lib.hid (HS.out.below HBW.out)
     have HV2 := Lib.hid (HVO.out.below HBW.out)
     have hz2 : wr.heap.size < W2.heap.size := HX.out.lt
     clear hW2 c0 c1 c2 a0 a1 hq
     have o0 : W2.cell? ⟨w.heap.size + 2, 0, none⟩ = some (.slice Ao no co) := S2.out.out.cell 0
     have o1 : W2.cell? ⟨w.heap.size + 2, 1, none⟩ = some (.int .i64 0) := S2.out.out.cell 1
     have x0 : W2.cell? ⟨wr.heap.size, 0, none⟩ = some (.string xa) := HX.out.cell 0
     have x1 : W2.cell? ⟨wr.heap.size, 1, none⟩ = some (.int .i64 (1 + q)) := HX.out.cell 1
     have x2 : W2.cell? ⟨wr.heap.size, 2, none⟩ = some (.bool xc) := HX.out.cell 2
     have y0 : W2.frozen? ⟨wr.heap.size, 0, none⟩ = false := HX.out.free 0
     have p0 : W2.cell? ⟨w.heap.size + 3, k, none⟩ = some (.string (pool k)) := (S2.out.pol.cell k).trans (pool_cell k hl6)
     have hkz : (k : Int) < 6 := by omega
     cases hnm : nameF xa
     ·have HNM0 : Hid (gName M ⟨xa, xb, xc⟩ k = pool k) := gName_pool (.inl hnm)
      have HX3a := Lib.hid (HX.out.put 0 (.string (pool k)))
      have HB3a := Lib.hid (HBW.out.setCell (p := ⟨wr.heap.size, 0, none⟩) (Nat.le_refl _) (.string (pool k)))
      have S5a := Lib.hid (HS.out.below HB3a.out)
      have HV5a := Lib.hid (HVO.out.below HB3a.out)
      have o0a : (W2.setCell ⟨wr.heap.size, 0, none⟩ (.string (pool k))).cell? ⟨w.heap.size + 1 + 1, 0, none⟩ = some (.slice Ao no co) := S5a.out.out.cell 0
      have o1a : (W2.setCell ⟨wr.heap.size, 0, none⟩ (.string (pool k))).cell? ⟨w.heap.size + 1 + 1, 1, none⟩ = some (.int .i64 0) := S5a.out.out.cell 1
      go_wp2_with fail
      clear o0a o1a x0 x1 x2 y0 p0 o0 o1
      obtain ⟨nm, hnmk⟩ : ∃ nm, pool k = nm := ⟨_, rfl⟩
      obtain ⟨W5, hW5⟩ : ∃ W5, W5 = W2.setCell ⟨wr.heap.size, 0, none⟩ (.string nm) := ⟨_, rfl⟩
      rw [hnmk] at HX3a HB3a S5a HV5a HNM0 ⊢
      rw [← hW5] at HX3a HB3a S5a HV5a ⊢
      have HX3 : Hid (Has W5 wr.heap.size 29 #[.string nm, .int .i64 (1 + q), .bool xc]) := HX3a
      have HB3 := HB3a
      have S5 := S5a
      have HV5 := HV5a
      have HNM := HNM0
      clear HX3a HB3a S5a HV5a HNM0 hW5 hnmk
      have HGG : Hid (gTo L (k + 1) = if findI M nm < 0 then M ++ [⟨nm, 1 + q, xc⟩] else M) := by show _ = _; rw [HG.out]; simp only [gStep, HNM.out, HQ.out]
      refine (refFind_any Ao M no co 0 nm W5 HNO.out (by omega) HV5.out).mono ?_
      rintro e w5 ⟨rfl, hb5⟩
      have S6 := Lib.hid (S5.out.below hb5.out)
      have HX6 := Lib.hid (HX3.out.below hb5.out HX3.out.lt)
      clear hb5 HG
      by_cases hfi : findI M nm < 0
      ·have HG2 : Hid (gTo L (k + 1) = M ++ [⟨nm, 1 + q, xc⟩]) := by show _ = _; rw [HGG.out, if_pos hfi]
       have o0 : w5.cell? ⟨w.heap.size + 2, 0, none⟩ = some (.slice Ao no co) := S6.out.out.cell 0
       have x0 : w5.cell? ⟨wr.heap.size, 0, none⟩ = some (.string nm) := HX6.out.cell 0
       have x1 : w5.cell? ⟨wr.heap.size, 1, none⟩ = some (.int .i64 (1 + q)) := HX6.out.cell 1
       have x2 : w5.cell? ⟨wr.heap.size, 2, none⟩ = some (.bool xc) := HX6.out.cell 2
       generalize findI M nm = fi at *
       have HAP := Lib.hid (appC w5 w5.heap.size rfl (w.heap.size + 4) (.slice Ao no co) M ⟨nm, 1 + q, xc⟩ S6.out.own S6.out.big (by have := HNO.out; omega))
       go_wp2_with (at_builtin; refine wpList_app rfl _ _ 25 25 rfl (.slice Ao no co) (.slice (some ⟨w5.heap.size, 0, none⟩) 1 1) rfl rfl ?_; obtain ⟨R, W', hrun, hmade⟩ := HAP.out; refine ⟨R, W', hrun, ?_⟩; obtain ⟨A7, n7, c7, hR, _, _, _, _, _⟩ := ownC_open hmade.1; subst hR; have HM := Lib.hid hmade; have hO7 := S6.out.out.below hmade.2 (by omega); have f0 : W'.frozen? ⟨w.heap.size + 2, 0, none⟩ = false := hO7.free 0; have f1 : W'.cell? ⟨w.heap.size + 2, 0, none⟩ = some (.slice Ao no co) := hO7.cell 0; clear hrun hmade HAP hO7)
       go_roundw
       case rel => exact ⟨k + 1, _, by omega, by omega, by go_num, by rw [HG2.out]; exact S6.out.stored HM.out.1 HM.out.2⟩
       case measure => simp [intOf]; omega
      ·have HG2 : Hid (gTo L (k + 1) = M) := by show _ = _; rw [HGG.out, if_neg hfi]
       generalize findI M nm = fi at *
       have hfz : 0 ≤ fi := by omega
       go_wp2_with fail
       go_roundw
       case rel => exact ⟨k + 1, _, by omega, by omega, by go_num, by rw [HG2.out]; exact S6⟩
       case measure => simp [intOf]; omega
     ·go_wp2_with fail
      refine (refFind_any Ao M no co 0 xa W2 HNO.out (by omega) HV2.out).mono ?_
      rintro e w3 ⟨rfl, hb3⟩
      have S3 := Lib.hid (S2.out.below hb3.out)
      have HXB := Lib.hid (HX.out.below hb3.out HX.out.lt)
      have HB2 := Lib.hid (HBW.out.trans (hb3.out.mono HBW.out.size))
      clear hb3 S2 HX HBW HV2 o0 o1 x0 x1 x2 y0 p0 hz2
      have o0 : w3.cell? ⟨w.heap.size + 2, 0, none⟩ = some (.slice Ao no co) := S3.out.out.cell 0
      have o1 : w3.cell? ⟨w.heap.size + 2, 1, none⟩ = some (.int .i64 0) := S3.out.out.cell 1
      have x0 : w3.cell? ⟨wr.heap.size, 0, none⟩ = some (.string xa) := HXB.out.cell 0
      have x1 : w3.cell? ⟨wr.heap.size, 1, none⟩ = some (.int .i64 (1 + q)) := HXB.out.cell 1
      have x2 : w3.cell? ⟨wr.heap.size, 2, none⟩ = some (.bool xc) := HXB.out.cell 2
      have y0 : w3.frozen? ⟨wr.heap.size, 0, none⟩ = false := HXB.out.free 0
      have p0 : w3.cell? ⟨w.heap.size + 3, k, none⟩ = some (.string (pool k)) := (S3.out.pol.cell k).trans (pool_cell k hl6)
      by_cases hfa : findI M xa < 0
      ·have HNM : Hid (gName M ⟨xa, xb, xc⟩ k = xa) := gName_own hnm hfa
       have HX3 := HXB
       have HB3 := HB2
       have S5 := S3
       have HV5 := Lib.hid (HVO.out.below HB3.out)
       obtain ⟨W5, hW5⟩ : ∃ W5, W5 = w3 := ⟨_, rfl⟩
       subst hW5
       clear S3 HXB HB2
       generalize hfq : findI M xa = fa at *
       have HFQ := Lib.hid hfq
       clear hfq
       go_wp2_with fail
       clear o0 o1 x0 x1 x2 y0 p0
       have HGG : Hid (gTo L (k + 1) = if findI M xa < 0 then M ++ [⟨xa, 1 + q, xc⟩] else M) := by show _ = _; rw [HG.out]; simp only [gStep, HNM.out, HQ.out]
       refine (refFind_any Ao M no co 0 xa W5 HNO.out (by omega) HV5.out).mono ?_
       rintro e w5 ⟨rfl, hb5⟩
       have S6 := Lib.hid (S5.out.below hb5.out)
       have HX6 := Lib.hid (HX3.out.below hb5.out HX3.out.lt)
       clear hb5 HG
       by_cases hfi : findI M xa < 0
       ·have HG2 : Hid (gTo L (k + 1) = M ++ [⟨xa, 1 + q, xc⟩]) := by show _ = _; rw [HGG.out, if_pos hfi]
        have o0 : w5.cell? ⟨w.heap.size + 2, 0, none⟩ = some (.slice Ao no co) := S6.out.out.cell 0
        have x0 : w5.cell? ⟨wr.heap.size, 0, none⟩ = some (.string xa) := HX6.out.cell 0
        have x1 : w5.cell? ⟨wr.heap.size, 1, none⟩ = some (.int .i64 (1 + q)) := HX6.out.cell 1
        have x2 : w5.cell? ⟨wr.heap.size, 2, none⟩ = some (.bool xc) := HX6.out.cell 2
        generalize findI M xa = fi at *
        have HAP := Lib.hid (appC w5 w5.heap.size rfl (w.heap.size + 4) (.slice Ao no co) M ⟨xa, 1 + q, xc⟩ S6.out.own S6.out.big (by have := HNO.out; omega))
        go_wp2_with (at_builtin; refine wpList_app rfl _ _ 25 25 rfl (.slice Ao no co) (.slice (some ⟨w5.heap.size, 0, none⟩) 1 1) rfl rfl ?_; obtain ⟨R, W', hrun, hmade⟩ := HAP.out; refine ⟨R, W', hrun, ?_⟩; obtain ⟨A7, n7, c7, hR, _, _, _, _, _⟩ := ownC_open hmade.1; subst hR; have HM := Lib.hid hmade; have hO7 := S6.out.out.below hmade.2 (by omega); have f0 : W'.frozen? ⟨w.heap.size + 2, 0, none⟩ = false := hO7.free 0; have f1 : W'.cell? ⟨w.heap.size + 2, 0, none⟩ = some (.slice Ao no co) := hO7.cell 0; clear hrun hmade HAP hO7)
        go_roundw
        case rel => exact ⟨k + 1, _, by omega, by omega, by go_num, by rw [HG2.out]; exact S6.out.stored HM.out.1 HM.out.2⟩
        case measure => simp [intOf]; omega
       ·have HG2 : Hid (gTo L (k + 1) = M) := by show _ = _; rw [HGG.out, if_neg hfi]
        generalize findI M xa = fi at *
        have hfz : 0 ≤ fi := by omega
        go_wp2_with fail
        go_roundw
        case rel => exact ⟨k + 1, _, by omega, by omega, by go_num, by rw [HG2.out]; exact S6⟩
        case measure => simp [intOf]; omega
      ·have HNM0 : Hid (gName M ⟨xa, xb, xc⟩ k = pool k) := gName_pool (.inr hfa)
       generalize findI M xa = fa at *
       have hfz : 0 ≤ fa := by omega
       have HX3a := Lib.hid (HXB.out.put 0 (.string (pool k)))
       have HB3a := Lib.hid (HB2.out.setCell (p := ⟨wr.heap.size, 0, none⟩) (Nat.le_refl _) (.string (pool k)))
       have S5a := Lib.hid (HS.out.below HB3a.out)
       have HV5a := Lib.hid (HVO.out.below HB3a.out)
       have o0a : (w3.setCell ⟨wr.heap.size, 0, none⟩ (.string (pool k))).cell? ⟨w.heap.size + 1 + 1, 0, none⟩ = some (.slice Ao no co) := S5a.out.out.cell 0
       have o1a : (w3.setCell ⟨wr.heap.size, 0, none⟩ (.string (pool k))).cell? ⟨w.heap.size + 1 + 1, 1, none⟩ = some (.int .i64 0) := S5a.out.out.cell 1
       go_wp2_with fail
       clear o0a o1a x0 x1 x2 y0 p0 o0 o1
       obtain ⟨nm, hnmk⟩ : ∃ nm, pool k = nm := ⟨_, rfl⟩
       obtain ⟨W5, hW5⟩ : ∃ W5, W5 = w3.setCell ⟨wr.heap.size, 0, none⟩ (.string nm) := ⟨_, rfl⟩
       rw [hnmk] at HX3a HB3a S5a HV5a HNM0 ⊢
       rw [← hW5] at HX3a HB3a S5a HV5a ⊢
       have HX3 : Hid (Has W5 wr.heap.size 29 #[.string nm, .int .i64 (1 + q), .bool xc]) := HX3a
       have HB3 := HB3a
       have S5 := S5a
       have HV5 := HV5a
       have HNM := HNM0
       clear HX3a HB3a S5a HV5a HNM0 hW5 hnmk
       have HGG : Hid (gTo L (k + 1) = if findI M nm < 0 then M ++ [⟨nm, 1 + q, xc⟩] else M) := by show _ = _; rw [HG.out]; simp only [gStep, HNM.out, HQ.out]
       refine (refFind_any Ao M no co 0 nm W5 HNO.out (by omega) HV5.out).mono ?_
       rintro e w5 ⟨rfl, hb5⟩
       have S6 := Lib.hid (S5.out.below hb5.out)
       have HX6 := Lib.hid (HX3.out.below hb5.out HX3.out.lt)
       clear hb5 HG
       by_cases hfi : findI M nm < 0
       ·have HG2 : Hid (gTo L (k + 1) = M ++ [⟨nm, 1 + q, xc⟩]) := by show _ = _; rw [HGG.out, if_pos hfi]
        have o0 : w5.cell? ⟨w.heap.size + 2, 0, none⟩ = some (.slice Ao no co) := S6.out.out.cell 0
        have x0 : w5.cell? ⟨wr.heap.size, 0, none⟩ = some (.string nm) := HX6.out.cell 0
        have x1 : w5.cell? ⟨wr.heap.size, 1, none⟩ = some (.int .i64 (1 + q)) := HX6.out.cell 1
        have x2 : w5.cell? ⟨wr.heap.size, 2, none⟩ = some (.bool xc) := HX6.out.cell 2
        generalize findI M nm = fi at *
        have HAP := Lib.hid (appC w5 w5.heap.size rfl (w.heap.size + 4) (.slice Ao no co) M ⟨nm, 1 + q, xc⟩ S6.out.own S6.out.big (by have := HNO.out; omega))
        go_wp2_with (at_builtin; refine wpList_app rfl _ _ 25 25 rfl (.slice Ao no co) (.slice (some ⟨w5.heap.size, 0, none⟩) 1 1) rfl rfl ?_; obtain ⟨R, W', hrun, hmade⟩ := HAP.out; refine ⟨R, W', hrun, ?_⟩; obtain ⟨A7, n7, c7, hR, _, _, _, _, _⟩ := ownC_open hmade.1; subst hR; have HM := Lib.hid hmade; have hO7 := S6.out.out.below hmade.2 (by omega); have f0 : W'.frozen? ⟨w.heap.size + 2, 0, none⟩ = false := hO7.free 0; have f1 : W'.cell? ⟨w.heap.size + 2, 0, none⟩ = some (.slice Ao no co) := hO7.cell 0; clear hrun hmade HAP hO7)
        go_roundw
        case rel => exact ⟨k + 1, _, by omega, by omega, by go_num, by rw [HG2.out]; exact S6.out.stored HM.out.1 HM.out.2⟩
        case measure => simp [intOf]; omega
       ·have HG2 : Hid (gTo L (k + 1) = M) := by show _ = _; rw [HGG.out, if_neg hfi]
        generalize findI M nm = fi at *
        have hfz : 0 ≤ fi := by omega
        go_wp2_with fail
        go_roundw
        case rel => exact ⟨k + 1, _, by omega, by omega, by go_num, by rw [HG2.out]; exact S6⟩
        case measure => simp [intOf]; omega
    ·obtain ⟨q, hq, hq4, hq0, hq3⟩ : ∃ q : Int, xb.tmod 4 = q ∧ kind4 xb = q ∧ 0 ≤ q ∧ q ≤ 3 := ⟨_, kind4_pos hneg, rfl, (kind4_range xb).1, (kind4_range xb).2⟩
     have HQ := Lib.hid hq4
     clear hq4
     go_wp2_with fail
     refine (refName_any xa _).mono ?_
     rintro e w0 ⟨rfl, rfl⟩
     obtain ⟨W2, hW2⟩ : ∃ W2, W2 = wr.alloc (.cells #[.string xa, .int .i64 (1 + q), .bool xc] 29) := ⟨_, rfl⟩
     rw [← hW2]
     have HBW : Hid (Below wr.heap.size wr W2) := by
      show Below _ _ _
      rw [hW2]; exact (Below.refl _ wr).alloc (Nat.le_refl _) _
     have HX : Hid (Has W2 wr.heap.size 29 #[.string xa, .int .i64 (1 + q), .bool xc]) := by
      show Has _ _ _ _
      rw [hW2]; exact Has.new wr _ _
     have S2 := Lib.hid (HS.out.below HBW.out)
     have HV2 := Lib.hid (HVO.out.below HBW.out)
     have hz2 : wr.heap.size < W2.heap.size := HX.out.lt
     clear hW2 c0 c1 c2 a0 a1 hq
     have o0 : W2.cell? ⟨w.heap.size + 2, 0, none⟩ = some (.slice Ao no co) := S2.out.out.cell 0
     have o1 : W2.cell? ⟨w.heap.size + 2, 1, none⟩ = some (.int .i64 0) := S2.out.out.cell 1
     have x0 : W2.cell? ⟨wr.heap.size, 0, none⟩ = some (.string xa) := HX.out.cell 0
     have x1 : W2.cell? ⟨wr.heap.size, 1, none⟩ = some (.int .i64 (1 + q)) := HX.out.cell 1
     have x2 : W2.cell? ⟨wr.heap.size, 2, none⟩ = some (.bool xc) := HX.out.cell 2
     have y0 : W2.frozen? ⟨wr.heap.size, 0, none⟩ = false := HX.out.free 0
     have p0 : W2.cell? ⟨w.heap.size + 3, k, none⟩ = some (.string (pool k)) := (S2.out.pol.cell k).trans (pool_cell k hl6)
     have hkz : (k : Int) < 6 := by omega
     cases hnm : nameF xa
     ·have HNM0 : Hid (gName M ⟨xa, xb, xc⟩ k = pool k) := gName_pool (.inl hnm)
      have HX3a := Lib.hid (HX.out.put 0 (.string (pool k)))
      have HB3a := Lib.hid (HBW.out.setCell (p := ⟨wr.heap.size, 0, none⟩) (Nat.le_refl _) (.string (pool k)))
      have S5a := Lib.hid (HS.out.below HB3a.out)
      have HV5a := Lib.hid (HVO.out.below HB3a.out)
      have o0a : (W2.setCell ⟨wr.heap.size, 0, none⟩ (.string (pool k))).cell? ⟨w.heap.size + 1 + 1, 0, none⟩ = some (.slice Ao no co) := S5a.out.out.cell 0
      have o1a : (W2.setCell ⟨wr.heap.size, 0, none⟩ (.string (pool k))).cell? ⟨w.heap.size + 1 + 1, 1, none⟩ = some (.int .i64 0) := S5a.out.out.cell 1
      go_wp2_with fail
      clear o0a o1a x0 x1 x2 y0 p0 o0 o1
      obtain ⟨nm, hnmk⟩ : ∃ nm, pool k = nm := ⟨_, rfl⟩
      obtain ⟨W5, hW5⟩ : ∃ W5, W5 = W2.setCell ⟨wr.heap.size, 0, none⟩ (.string nm) := ⟨_, rfl⟩
      rw [hnmk] at HX3a HB3a S5a HV5a HNM0 ⊢
      rw [← hW5] at HX3a HB3a S5a HV5a ⊢
      have HX3 : Hid (Has W5 wr.heap.size 29 #[.string nm, .int .i64 (1 + q), .bool xc]) := HX3a
      have HB3 := HB3a
      have S5 := S5a
      have HV5 := HV5a
      have HNM := HNM0
      clear HX3a HB3a S5a HV5a HNM0 hW5 hnmk
      have HGG : Hid (gTo L (k + 1) = if findI M nm < 0 then M ++ [⟨nm, 1 + q, xc⟩] else M) := by show _ = _; rw [HG.out]; simp only [gStep, HNM.out, HQ.out]
      refine (refFind_any Ao M no co 0 nm W5 HNO.out (by omega) HV5.out).mono ?_
      rintro e w5 ⟨rfl, hb5⟩
      have S6 := Lib.hid (S5.out.below hb5.out)
      have HX6 := Lib.hid (HX3.out.below hb5.out HX3.out.lt)
      clear hb5 HG
      by_cases hfi : findI M nm < 0
      ·have HG2 : Hid (gTo L (k + 1) = M ++ [⟨nm, 1 + q, xc⟩]) := by show _ = _; rw [HGG.out, if_pos hfi]
       have o0 : w5.cell? ⟨w.heap.size + 2, 0, none⟩ = some (.slice Ao no co) := S6.out.out.cell 0
       have x0 : w5.cell? ⟨wr.heap.size, 0, none⟩ = some (.string nm) := HX6.out.cell 0
       have x1 : w5.cell? ⟨wr.heap.size, 1, none⟩ = some (.int .i64 (1 + q)) := HX6.out.cell 1
       have x2 : w5.cell? ⟨wr.heap.size, 2, none⟩ = some (.bool xc) := HX6.out.cell 2
       generalize findI M nm = fi at *
       have HAP := Lib.hid (appC w5 w5.heap.size rfl (w.heap.size + 4) (.slice Ao no co) M ⟨nm, 1 + q, xc⟩ S6.out.own S6.out.big (by have := HNO.out; omega))
       go_wp2_with (at_builtin; refine wpList_app rfl _ _ 25 25 rfl (.slice Ao no co) (.slice (some ⟨w5.heap.size, 0, none⟩) 1 1) rfl rfl ?_; obtain ⟨R, W', hrun, hmade⟩ := HAP.out; refine ⟨R, W', hrun, ?_⟩; obtain ⟨A7, n7, c7, hR, _, _, _, _, _⟩ := ownC_open hmade.1; subst hR; have HM := Lib.hid hmade; have hO7 := S6.out.out.below hmade.2 (by omega); have f0 : W'.frozen? ⟨w.heap.size + 2, 0, none⟩ = false := hO7.free 0; have f1 : W'.cell? ⟨w.heap.size + 2, 0, none⟩ = some (.slice Ao no co) := hO7.cell 0; clear hrun hmade HAP hO7)
       go_roundw
       case rel => exact ⟨k + 1, _, by omega, by omega, by go_num, by rw [HG2.out]; exact S6.out.stored HM.out.1 HM.out.2⟩
       case measure => simp [intOf]; omega
      ·have HG2 : Hid (gTo L (k + 1) = M) := by show _ = _; rw [HGG.out, if_neg hfi]
       generalize findI M nm = fi at *
       have hfz : 0 ≤ fi := by omega
       go_wp2_with fail
       go_roundw
       case rel => exact ⟨k + 1, _, by omega, by omega, by go_num, by rw [HG2.out]; exact S6⟩
       case measure => simp [intOf]; omega
     ·go_wp2_with fail
      refine (refFind_any Ao M no co 0 xa W2 HNO.out (by omega) HV2.out).mono ?_
      rintro e w3 ⟨rfl, hb3⟩
      have S3 := Lib.hid (S2.out.below hb3.out)
      have HXB := Lib.hid (HX.out.below hb3.out HX.out.lt)
      have HB2 := Lib.hid (HBW.out.trans (hb3.out.mono HBW.out.size))
      clear hb3 S2 HX HBW HV2 o0 o1 x0 x1 x2 y0 p0 hz2
      have o0 : w3.cell? ⟨w.heap.size + 2, 0, none⟩ = some (.slice Ao no co) := S3.out.out.cell 0
      have o1 : w3.cell? ⟨w.heap.size + 2, 1, none⟩ = some (.int .i64 0) := S3.out.out.cell 1
      have x0 : w3.cell? ⟨wr.heap.size, 0, none⟩ = some (.string xa) := HXB.out.cell 0
      have x1 : w3.cell? ⟨wr.heap.size, 1, none⟩ = some (.int .i64 (1 + q)) := HXB.out.cell 1
      have x2 : w3.cell? ⟨wr.heap.size, 2, none⟩ = some (.bool xc) := HXB.out.cell 2
      have y0 : w3.frozen? ⟨wr.heap.size, 0, none⟩ = false := HXB.out.free 0
      have p0 : w3.cell? ⟨w.heap.size + 3, k, none⟩ = some (.string (pool k)) := (S3.out.pol.cell k).trans (pool_cell k hl6)
      by_cases hfa : findI M xa < 0
      ·have HNM : Hid (gName M ⟨xa, xb, xc⟩ k = xa) := gName_own hnm hfa
       have HX3 := HXB
       have HB3 := HB2
       have S5 := S3
       have HV5 := Lib.hid (HVO.out.below HB3.out)
       obtain ⟨W5, hW5⟩ : ∃ W5, W5 = w3 := ⟨_, rfl⟩
       subst hW5
       clear S3 HXB HB2
       generalize hfq : findI M xa = fa at *
       have HFQ := Lib.hid hfq
       clear hfq
       go_wp2_with fail
       clear o0 o1 x0 x1 x2 y0 p0
       have HGG : Hid (gTo L (k + 1) = if findI M xa < 0 then M ++ [⟨xa, 1 + q, xc⟩] else M) := by show _ = _; rw [HG.out]; simp only [gStep, HNM.out, HQ.out]
       refine (refFind_any Ao M no co 0 xa W5 HNO.out (by omega) HV5.out).mono ?_
       rintro e w5 ⟨rfl, hb5⟩
       have S6 := Lib.hid (S5.out.below hb5.out)
       have HX6 := Lib.hid (HX3.out.below hb5.out HX3.out.lt)
       clear hb5 HG
       by_cases hfi : findI M xa < 0
       ·have HG2 : Hid (gTo L (k + 1) = M ++ [⟨xa, 1 + q, xc⟩]) := by show _ = _; rw [HGG.out, if_pos hfi]
        have o0 : w5.cell? ⟨w.heap.size + 2, 0, none⟩ = some (.slice Ao no co) := S6.out.out.cell 0
        have x0 : w5.cell? ⟨wr.heap.size, 0, none⟩ = some (.string xa) := HX6.out.cell 0
        have x1 : w5.cell? ⟨wr.heap.size, 1, none⟩ = some (.int .i64 (1 + q)) := HX6.out.cell 1
        have x2 : w5.cell? ⟨wr.heap.size, 2, none⟩ = some (.bool xc) := HX6.out.cell 2
        generalize findI M xa = fi at *
        have HAP := Lib.hid (appC w5 w5.heap.size rfl (w.heap.size + 4) (.slice Ao no co) M ⟨xa, 1 + q, xc⟩ S6.out.own S6.out.big (by have := HNO.out; omega))
        go_wp2_with (at_builtin; refine wpList_app rfl _ _ 25 25 rfl (.slice Ao no co) (.slice (some ⟨w5.heap.size, 0, none⟩) 1 1) rfl rfl ?_; obtain ⟨R, W', hrun, hmade⟩ := HAP.out; refine ⟨R, W', hrun, ?_⟩; obtain ⟨A7, n7, c7, hR, _, _, _, _, _⟩ := ownC_open hmade.1; subst hR; have HM := Lib.hid hmade; have hO7 := S6.out.out.below hmade.2 (by omega); have f0 : W'.frozen? ⟨w.heap.size + 2, 0, none⟩ = false := hO7.free 0; have f1 : W'.cell? ⟨w.heap.size + 2, 0, none⟩ = some (.slice Ao no co) := hO7.cell 0; clear hrun hmade HAP hO7)
        go_roundw
        case rel => exact ⟨k + 1, _, by omega, by omega, by go_num, by rw [HG2.out]; exact S6.out.stored HM.out.1 HM.out.2⟩
        case measure => simp [intOf]; omega
       ·have HG2 : Hid (gTo L (k + 1) = M) := by show _ = _; rw [HGG.out, if_neg hfi]
        generalize findI M xa = fi at *
        have hfz : 0 ≤ fi := by omega
        go_wp2_with fail
        go_roundw
        case rel => exact ⟨k + 1, _, by omega, by omega, by go_num, by rw [HG2.out]; exact S6⟩
        case measure => simp [intOf]; omega
      ·have HNM0 : Hid (gName M ⟨xa, xb, xc⟩ k = pool k) := gName_pool (.inr hfa)
       generalize findI M xa = fa at *
       have hfz : 0 ≤ fa := by omega
       have HX3a := Lib.hid (HXB.out.put 0 (.string (pool k)))
       have HB3a := Lib.hid (HB2.out.setCell (p := ⟨wr.heap.size, 0, none⟩) (Nat.le_refl _) (.string (pool k)))
       have S5a := Lib.hid (HS.out.below HB3a.out)
       have HV5a := Lib.hid (HVO.out.below HB3a.out)
       have o0a : (w3.setCell ⟨wr.heap.size, 0, none⟩ (.string (pool k))).cell? ⟨w.heap.size + 1 + 1, 0, none⟩ = some (.slice Ao no co) := S5a.out.out.cell 0
       have o1a : (w3.setCell ⟨wr.heap.size, 0, none⟩ (.string (pool k))).cell? ⟨w.heap.size + 1 + 1, 1, none⟩ = some (.int .i64 0) := S5a.out.out.cell 1
       go_wp2_with fail
       clear o0a o1a x0 x1 x2 y0 p0 o0 o1
       obtain ⟨nm, hnmk⟩ : ∃ nm, pool k = nm := ⟨_, rfl⟩
       obtain ⟨W5, hW5⟩ : ∃ W5, W5 = w3.setCell ⟨wr.heap.size, 0, none⟩ (.string nm) := ⟨_, rfl⟩
       rw [hnmk] at HX3a HB3a S5a HV5a HNM0 ⊢
       rw [← hW5] at HX3a HB3a S5a HV5a ⊢
       have HX3 : Hid (Has W5 wr.heap.size 29 #[.string nm, .int .i64 (1 + q), .bool xc]) := HX3a
       have HB3 := HB3a
       have S5 := S5a
       have HV5 := HV5a
       have HNM := HNM0
       clear HX3a HB3a S5a HV5a HNM0 hW5 hnmk
       have HGG : Hid (gTo L (k + 1) = if findI M nm < 0 then M ++ [⟨nm, 1 + q, xc⟩] else M) := by show _ = _; rw [HG.out]; simp only [gStep, HNM.out, HQ.out]
       refine (refFind_any Ao M no co 0 nm W5 HNO.out (by omega) HV5.out).mono ?_
       rintro e w5 ⟨rfl, hb5⟩
       have S6 := Lib.hid (S5.out.below hb5.out)
       have HX6 := Lib.hid (HX3.out.below hb5.out HX3.out.lt)
       clear hb5 HG
       by_cases hfi : findI M nm < 0
       ·have HG2 : Hid (gTo L (k + 1) = M ++ [⟨nm, 1 + q, xc⟩]) := by show _ = _; rw [HGG.out, if_pos hfi]
        have o0 : w5.cell? ⟨w.heap.size + 2, 0, none⟩ = some (.slice Ao no co) := S6.out.out.cell 0
        have x0 : w5.cell? ⟨wr.heap.size, 0, none⟩ = some (.string nm) := HX6.out.cell 0
        have x1 : w5.cell? ⟨wr.heap.size, 1, none⟩ = some (.int .i64 (1 + q)) := HX6.out.cell 1
        have x2 : w5.cell? ⟨wr.heap.size, 2, none⟩ = some (.bool xc) := HX6.out.cell 2
        generalize findI M nm = fi at *
        have HAP := Lib.hid (appC w5 w5.heap.size rfl (w.heap.size + 4) (.slice Ao no co) M ⟨nm, 1 + q, xc⟩ S6.out.own S6.out.big (by have := HNO.out; omega))
        go_wp2_with (at_builtin; refine wpList_app rfl _ _ 25 25 rfl (.slice Ao no co) (.slice (some ⟨w5.heap.size, 0, none⟩) 1 1) rfl rfl ?_; obtain ⟨R, W', hrun, hmade⟩ := HAP.out; refine ⟨R, W', hrun, ?_⟩; obtain ⟨A7, n7, c7, hR, _, _, _, _, _⟩ := ownC_open hmade.1; subst hR; have HM := Lib.hid hmade; have hO7 := S6.out.out.below hmade.2 (by omega); have f0 : W'.frozen? ⟨w.heap.size + 2, 0, none⟩ = false := hO7.free 0; have f1 : W'.cell? ⟨w.heap.size + 2, 0, none⟩ = some (.slice Ao no co) := hO7.cell 0; clear hrun hmade HAP hO7)
        go_roundw
        case rel => exact ⟨k + 1, _, by omega, by omega, by go_num, by rw [HG2.out]; exact S6.out.stored HM.out.1 HM.out.2⟩
        case measure => simp [intOf]; omega
       ·have HG2 : Hid (gTo L (k + 1) = M) := by show _ = _; rw [HGG.out, if_neg hfi]
        generalize findI M nm = fi at *
        have hfz : 0 ≤ fi := by omega
        go_wp2_with fail
        go_roundw
        case rel => exact ⟨k + 1, _, by omega, by omega, by go_num, by rw [HG2.out]; exact S6⟩
        case measure => simp [intOf]; omega
   ·obtain rfl : k = 6 := by omega
    have HT : Hid (gTo L 6 = gTo L (min L.length 6)) := by show _ = _; rw [HN.out, Nat.min_eq_right (by omega)]
    rw [HT.out] at HS HNO HVO
    have HGC : Hid (gCols L = if (gTo L (min L.length 6)).length = 0 then gOne else gTo L (min L.length 6)) := rfl
    have HKK : Hid (gdK L K = gKeys (gCols L).length K) := rfl
    have HKC : Hid (gdC L K = clr (gCols L) (gKeys (gCols L).length K)) := rfl
    have HGR := Lib.hid (gCols_cols L).2
    clear HT
    obtain ⟨M0, hM0⟩ : ∃ M0, gTo L (min L.length 6) = M0 := ⟨_, rfl⟩
    rw [hM0] at HS HNO HVO HGC
    rw [HNO.out] at HGC
    clear hM0
    have o0 : wr.cell? ⟨w.heap.size + 2, 0, none⟩ = some (.slice Ao no co) := HS.out.out.cell 0
    have o1 : wr.cell? ⟨w.heap.size + 2, 1, none⟩ = some (.int .i64 0) := HS.out.out.cell 1
    have f1 : wr.frozen? ⟨w.heap.size + 2, 1, none⟩ = false := HS.out.out.free 1
    by_cases hK : K < 0
    ·by_cases hz : no = 0
     ·subst hz
      have hM0 : M0 = [] := List.eq_nil_of_length_eq_zero HNO.out
      subst hM0
      have HGO : Hid (gCols L = gOne) := by show _ = _; rw [HGC.out, if_pos rfl]
      have hmin1 : ∀ ts t W, Sem.run Tryz.prog (Builtin.min_ ts t #[.int .i64 1, .int .i64 3]) W = .ok (.int .i64 1) W := fun ts t W => by rw [run_min_int2]; simp
      have HAP := Lib.hid (appC wr wr.heap.size rfl (w.heap.size + 4) (.slice Ao 0 co) [] ⟨⟨#[105, 100]⟩, 2, false⟩ HS.out.own HS.out.big (by simp))
      go_wp2_with (at_builtin; refine wpList_app rfl _ _ 25 25 rfl (.slice Ao 0 co) (.slice (some ⟨wr.heap.size, 0, none⟩) 1 1) rfl rfl ?_; obtain ⟨R, W', hrun, hmade⟩ := HAP.out; refine ⟨R, W', hrun, ?_⟩; obtain ⟨Ag, m0, cg, hR, HN7, _, _, _, _⟩ := ownC_open hmade.1; have hm1 : 1 = m0 := HN7.out; subst hm1; subst hR; have HM := Lib.hid hmade; have hO7 := HS.out.out.below hmade.2 (by omega); have g0 : W'.frozen? ⟨w.heap.size + 2, 0, none⟩ = false := hO7.free 0; have g1 : W'.frozen? ⟨w.heap.size + 2, 1, none⟩ = false := hO7.free 1; have g2 : W'.cell? ⟨w.heap.size + 2, 0, none⟩ = some (.slice Ao 0 co) := hO7.cell 0; have g3 : W'.cell? ⟨w.heap.size + 2, 1, none⟩ = some (.int .i64 0) := hO7.cell 1; have g4 : W'.cell? ⟨w.heap.size, 1, none⟩ = some (.int .i64 K) := (HS.out.prm.below hmade.2 (by omega)).cell 1; clear hrun hmade HAP hO7 HN7)
      have HGL : Hid ((gCols L).length = 1) := by show _ = _; rw [HGO.out]; rfl
      have hgk : ((gKeys 1 K : Nat) : Int) = 1 := by
       have := gKeys_range 1 K (by omega)
       omega
      have S8 := Lib.hid ((HS.out.stored HM.out.1 HM.out.2).keyed 1)
      have hgm := (gKeys_range 1 K (by omega)).2.1
      have e0 : [] ++ [(⟨⟨#[105, 100]⟩, 2, false⟩ : Cl)] = gCols L := by rw [HGO.out]; rfl
      rw [e0] at S8
      clear e0 HM HS HNO HVO HGO HGC hmin1
      generalize gCols L = G at *
      rw [HGL.out] at HKK HKC
      generalize gKeys 1 K = gk at *
      go_loopw [10] (fun i wr2 => ∃ j : Nat, j ≤ gk ∧ i = .int .i64 j ∧ Hid (GSt w A n c K wr2 (.slice Ag 1 cg) (1) (clr G j))) (fun i _ => gk - (intOf i).toNat)
      case atStart => exact ⟨0, by omega, rfl, by rw [clr_zero]; exact S8.out⟩
      case round =>
       obtain ⟨j, hj, rfl, HS2⟩ := hrel
       clear S8
       have b0 : wr.cell? ⟨w.heap.size + 2, 0, none⟩ = some (.slice Ag 1 cg) := HS2.out.out.cell 0
       have b1 : wr.cell? ⟨w.heap.size + 2, 1, none⟩ = some (.int .i64 (1)) := HS2.out.out.cell 1
       by_cases hlt2 : j < gk
       ·have hjr : (j : Int) < 1 := by omega
        have hjm : (j : Int) < (1 : Int) := by omega
        have hjc : j < (clr G j).length := by rw [clr_len, HGL.out]; omega
        have hjG : j < G.length := by rw [HGL.out]; omega
        obtain ⟨g, c9, hv9, hg9, _, e9, d9, own9⟩ := ownC_put HS2.out.own j hjc 2 (by omega) (.bool false) ⟨(clr G j)[j].nm, (clr G j)[j].k, false⟩ rfl
        injection hv9 with hv9 hx1 hx2
        clear hx1 hx2
        subst hv9
        have HO9 := Lib.hid own9
        rw [clr_step G j hjG] at HO9
        have d9' : wr.cell? ⟨g, j * 3 + 2, none⟩ = some (.bool (clr G j)[j].no) := d9
        have HG9 := Lib.hid hg9
        clear own9 d9 hg9
        generalize (clr G j)[j].no = cj at *
        clear hjc
        go_wp2_with fail
        go_roundw
        case rel => exact ⟨j + 1, by omega, by go_num, HS2.out.cleared HG9.out (j * 3 + 2) (.bool false) HO9.out⟩
        case measure => simp [intOf]; omega
       ·obtain rfl : j = gk := by omega
        have hjr : ¬ (j : Int) < 1 := by omega
        have r0 : wr.cell? ⟨w.heap.size + 1, 0, none⟩ = some (.slice none 0 0) := HS2.out.res.cell 0
        have r1 : wr.cell? ⟨w.heap.size + 1, 1, none⟩ = some (.int .i64 0) := HS2.out.res.cell 1
        have t0 : wr.frozen? ⟨w.heap.size + 1, 0, none⟩ = false := HS2.out.res.free 0
        have t1 : wr.frozen? ⟨w.heap.size + 1, 1, none⟩ = false := HS2.out.res.free 1
        have HP := Lib.hid ((HS2.out.res.put 0 (.slice Ag 1 cg)).put 1 (.int .i64 (1)))
        have HO9 := Lib.hid ((HS2.out.own.far (p := ⟨w.heap.size + 1, 0, none⟩) (by show w.heap.size + 1 < w.heap.size + 4; omega) (.slice Ag 1 cg)).far (p := ⟨w.heap.size + 1, 1, none⟩) (by show w.heap.size + 1 < w.heap.size + 4; omega) (.int .i64 (1)))
        have HB9 := Lib.hid ((HS2.out.bel.setCell (p := ⟨w.heap.size + 1, 0, none⟩) (by show w.heap.size ≤ w.heap.size + 1; omega) (.slice Ag 1 cg)).setCell (p := ⟨w.heap.size + 1, 1, none⟩) (by show w.heap.size ≤ w.heap.size + 1; omega) (.int .i64 (1)))
        clear HS2
        go_wp2_with fail
        exact bodyPost_ret (gEnd _ (w.heap.size + 1) _ _ _ rfl HP.out) rfl ⟨_, by rw [HKK.out, hgk], by rw [HKC.out]; exact ownC_down HO9.out (Nat.le_add_right _ 4), HB9.out⟩
     ·have HGO : Hid (gCols L = M0) := by show _ = _; rw [HGC.out, if_neg hz]
      rw [← HGO.out] at HS HNO HVO
      have hm1 : 1 ≤ no := by omega
      obtain ⟨m0, hm0⟩ : ∃ m0, m0 = no := ⟨_, rfl⟩
      subst hm0
      obtain ⟨q, r, hq1, hq3, hq0, hmin, hr, hgk, hr0, hr3⟩ := keysN m0 K hm1 hK
      have hnz : ((m0 : Int) == 0) = false := by simp; omega
      have HGL : Hid ((gCols L).length = m0) := HNO
      have S8 := Lib.hid (HS.out.keyed (1 + r))
      have hgm := (gKeys_range m0 K hm1).2.1
      obtain ⟨Ag, hAg⟩ : ∃ Ag, Ag = Ao := ⟨_, rfl⟩
      obtain ⟨cg, hcg⟩ : ∃ cg, cg = co := ⟨_, rfl⟩
      subst hAg hcg
      go_wp2_with fail
      clear HS HNO HVO HGO HGC hmin
      generalize gCols L = G at *
      rw [HGL.out] at HKK HKC
      generalize gKeys m0 K = gk at *
      go_loopw [10] (fun i wr2 => ∃ j : Nat, j ≤ gk ∧ i = .int .i64 j ∧ Hid (GSt w A n c K wr2 (.slice Ag m0 cg) (1 + r) (clr G j))) (fun i _ => gk - (intOf i).toNat)
      case atStart => exact ⟨0, by omega, rfl, by rw [clr_zero]; exact S8.out⟩
      case round =>
       obtain ⟨j, hj, rfl, HS2⟩ := hrel
       clear S8
       have b0 : wr.cell? ⟨w.heap.size + 2, 0, none⟩ = some (.slice Ag m0 cg) := HS2.out.out.cell 0
       have b1 : wr.cell? ⟨w.heap.size + 2, 1, none⟩ = some (.int .i64 (1 + r)) := HS2.out.out.cell 1
       by_cases hlt2 : j < gk
       ·have hjr : (j : Int) < 1 + r := by omega
        have hjm : (j : Int) < (m0 : Int) := by omega
        have hjc : j < (clr G j).length := by rw [clr_len, HGL.out]; omega
        have hjG : j < G.length := by rw [HGL.out]; omega
        obtain ⟨g, c9, hv9, hg9, _, e9, d9, own9⟩ := ownC_put HS2.out.own j hjc 2 (by omega) (.bool false) ⟨(clr G j)[j].nm, (clr G j)[j].k, false⟩ rfl
        injection hv9 with hv9 hx1 hx2
        clear hx1 hx2
        subst hv9
        have HO9 := Lib.hid own9
        rw [clr_step G j hjG] at HO9
        have d9' : wr.cell? ⟨g, j * 3 + 2, none⟩ = some (.bool (clr G j)[j].no) := d9
        have HG9 := Lib.hid hg9
        clear own9 d9 hg9
        generalize (clr G j)[j].no = cj at *
        clear hjc
        go_wp2_with fail
        go_roundw
        case rel => exact ⟨j + 1, by omega, by go_num, HS2.out.cleared HG9.out (j * 3 + 2) (.bool false) HO9.out⟩
        case measure => simp [intOf]; omega
       ·obtain rfl : j = gk := by omega
        have hjr : ¬ (j : Int) < 1 + r := by omega
        have r0 : wr.cell? ⟨w.heap.size + 1, 0, none⟩ = some (.slice none 0 0) := HS2.out.res.cell 0
        have r1 : wr.cell? ⟨w.heap.size + 1, 1, none⟩ = some (.int .i64 0) := HS2.out.res.cell 1
        have t0 : wr.frozen? ⟨w.heap.size + 1, 0, none⟩ = false := HS2.out.res.free 0
        have t1 : wr.frozen? ⟨w.heap.size + 1, 1, none⟩ = false := HS2.out.res.free 1
        have HP := Lib.hid ((HS2.out.res.put 0 (.slice Ag m0 cg)).put 1 (.int .i64 (1 + r)))
        have HO9 := Lib.hid ((HS2.out.own.far (p := ⟨w.heap.size + 1, 0, none⟩) (by show w.heap.size + 1 < w.heap.size + 4; omega) (.slice Ag m0 cg)).far (p := ⟨w.heap.size + 1, 1, none⟩) (by show w.heap.size + 1 < w.heap.size + 4; omega) (.int .i64 (1 + r)))
        have HB9 := Lib.hid ((HS2.out.bel.setCell (p := ⟨w.heap.size + 1, 0, none⟩) (by show w.heap.size ≤ w.heap.size + 1; omega) (.slice Ag m0 cg)).setCell (p := ⟨w.heap.size + 1, 1, none⟩) (by show w.heap.size ≤ w.heap.size + 1; omega) (.int .i64 (1 + r)))
        clear HS2
        go_wp2_with fail
        exact bodyPost_ret (gEnd _ (w.heap.size + 1) _ _ _ rfl HP.out) rfl ⟨_, by rw [HKK.out, hgk], by rw [HKC.out]; exact ownC_down HO9.out (Nat.le_add_right _ 4), HB9.out⟩
    ·by_cases hz : no = 0
     ·subst hz
      have hM0 : M0 = [] := List.eq_nil_of_length_eq_zero HNO.out
      subst hM0
      have HGO : Hid (gCols L = gOne) := by show _ = _; rw [HGC.out, if_pos rfl]
      have hmin1 : ∀ ts t W, Sem.run Tryz.prog (Builtin.min_ ts t #[.int .i64 1, .int .i64 3]) W = .ok (.int .i64 1) W := fun ts t W => by rw [run_min_int2]; simp
      have HAP := Lib.hid (appC wr wr.heap.size rfl (w.heap.size + 4) (.slice Ao 0 co) [] ⟨⟨#[105, 100]⟩, 2, false⟩ HS.out.own HS.out.big (by simp))
      go_wp2_with (at_builtin; refine wpList_app rfl _ _ 25 25 rfl (.slice Ao 0 co) (.slice (some ⟨wr.heap.size, 0, none⟩) 1 1) rfl rfl ?_; obtain ⟨R, W', hrun, hmade⟩ := HAP.out; refine ⟨R, W', hrun, ?_⟩; obtain ⟨Ag, m0, cg, hR, HN7, _, _, _, _⟩ := ownC_open hmade.1; have hm1 : 1 = m0 := HN7.out; subst hm1; subst hR; have HM := Lib.hid hmade; have hO7 := HS.out.out.below hmade.2 (by omega); have g0 : W'.frozen? ⟨w.heap.size + 2, 0, none⟩ = false := hO7.free 0; have g1 : W'.frozen? ⟨w.heap.size + 2, 1, none⟩ = false := hO7.free 1; have g2 : W'.cell? ⟨w.heap.size + 2, 0, none⟩ = some (.slice Ao 0 co) := hO7.cell 0; have g3 : W'.cell? ⟨w.heap.size + 2, 1, none⟩ = some (.int .i64 0) := hO7.cell 1; have g4 : W'.cell? ⟨w.heap.size, 1, none⟩ = some (.int .i64 K) := (HS.out.prm.below hmade.2 (by omega)).cell 1; clear hrun hmade HAP hO7 HN7)
      have HGL : Hid ((gCols L).length = 1) := by show _ = _; rw [HGO.out]; rfl
      have hgk : ((gKeys 1 K : Nat) : Int) = 1 := by
       have := gKeys_range 1 K (by omega)
       omega
      have S8 := Lib.hid ((HS.out.stored HM.out.1 HM.out.2).keyed 1)
      have hgm := (gKeys_range 1 K (by omega)).2.1
      have e0 : [] ++ [(⟨⟨#[105, 100]⟩, 2, false⟩ : Cl)] = gCols L := by rw [HGO.out]; rfl
      rw [e0] at S8
      clear e0 HM HS HNO HVO HGO HGC hmin1
      generalize gCols L = G at *
      rw [HGL.out] at HKK HKC
      generalize gKeys 1 K = gk at *
      go_loopw [10] (fun i wr2 => ∃ j : Nat, j ≤ gk ∧ i = .int .i64 j ∧ Hid (GSt w A n c K wr2 (.slice Ag 1 cg) (1) (clr G j))) (fun i _ => gk - (intOf i).toNat)
      case atStart => exact ⟨0, by omega, rfl, by rw [clr_zero]; exact S8.out⟩
      case round =>
       obtain ⟨j, hj, rfl, HS2⟩ := hrel
       clear S8
       have b0 : wr.cell? ⟨w.heap.size + 2, 0, none⟩ = some (.slice Ag 1 cg) := HS2.out.out.cell 0
       have b1 : wr.cell? ⟨w.heap.size + 2, 1, none⟩ = some (.int .i64 (1)) := HS2.out.out.cell 1
       by_cases hlt2 : j < gk
       ·have hjr : (j : Int) < 1 := by omega
        have hjm : (j : Int) < (1 : Int) := by omega
        have hjc : j < (clr G j).length := by rw [clr_len, HGL.out]; omega
        have hjG : j < G.length := by rw [HGL.out]; omega
        obtain ⟨g, c9, hv9, hg9, _, e9, d9, own9⟩ := ownC_put HS2.out.own j hjc 2 (by omega) (.bool false) ⟨(clr G j)[j].nm, (clr G j)[j].k, false⟩ rfl
        injection hv9 with hv9 hx1 hx2
        clear hx1 hx2
        subst hv9
        have HO9 := Lib.hid own9
        rw [clr_step G j hjG] at HO9
        have d9' : wr.cell? ⟨g, j * 3 + 2, none⟩ = some (.bool (clr G j)[j].no) := d9
        have HG9 := Lib.hid hg9
        clear own9 d9 hg9
        generalize (clr G j)[j].no = cj at *
        clear hjc
        go_wp2_with fail
        go_roundw
        case rel => exact ⟨j + 1, by omega, by go_num, HS2.out.cleared HG9.out (j * 3 + 2) (.bool false) HO9.out⟩
        case measure => simp [intOf]; omega
       ·obtain rfl : j = gk := by omega
        have hjr : ¬ (j : Int) < 1 := by omega
        have r0 : wr.cell? ⟨w.heap.size + 1, 0, none⟩ = some (.slice none 0 0) := HS2.out.res.cell 0
        have r1 : wr.cell? ⟨w.heap.size + 1, 1, none⟩ = some (.int .i64 0) := HS2.out.res.cell 1
        have t0 : wr.frozen? ⟨w.heap.size + 1, 0, none⟩ = false := HS2.out.res.free 0
        have t1 : wr.frozen? ⟨w.heap.size + 1, 1, none⟩ = false := HS2.out.res.free 1
        have HP := Lib.hid ((HS2.out.res.put 0 (.slice Ag 1 cg)).put 1 (.int .i64 (1)))
        have HO9 := Lib.hid ((HS2.out.own.far (p := ⟨w.heap.size + 1, 0, none⟩) (by show w.heap.size + 1 < w.heap.size + 4; omega) (.slice Ag 1 cg)).far (p := ⟨w.heap.size + 1, 1, none⟩) (by show w.heap.size + 1 < w.heap.size + 4; omega) (.int .i64 (1)))
        have HB9 := Lib.hid ((HS2.out.bel.setCell (p := ⟨w.heap.size + 1, 0, none⟩) (by show w.heap.size ≤ w.heap.size + 1; omega) (.slice Ag 1 cg)).setCell (p := ⟨w.heap.size + 1, 1, none⟩) (by show w.heap.size ≤ w.heap.size + 1; omega) (.int .i64 (1)))
        clear HS2
        go_wp2_with fail
        exact bodyPost_ret (gEnd _ (w.heap.size + 1) _ _ _ rfl HP.out) rfl ⟨_, by rw [HKK.out, hgk], by rw [HKC.out]; exact ownC_down HO9.out (Nat.le_add_right _ 4), HB9.out⟩
     ·have HGO : Hid (gCols L = M0) := by show _ = _; rw [HGC.out, if_neg hz]
      rw [← HGO.out] at HS HNO HVO
      have hm1 : 1 ≤ no := by omega
      obtain ⟨m0, hm0⟩ : ∃ m0, m0 = no := ⟨_, rfl⟩
      subst hm0
      obtain ⟨q, r, hq1, hq3, hq0, hmin, hr, hgk, hr0, hr3⟩ := keysP m0 K hm1 hK
      have hnz : ((m0 : Int) == 0) = false := by simp; omega
      have HGL : Hid ((gCols L).length = m0) := HNO
      have S8 := Lib.hid (HS.out.keyed (1 + r))
      have hgm := (gKeys_range m0 K hm1).2.1
      obtain ⟨Ag, hAg⟩ : ∃ Ag, Ag = Ao := ⟨_, rfl⟩
      obtain ⟨cg, hcg⟩ : ∃ cg, cg = co := ⟨_, rfl⟩
      subst hAg hcg
      go_wp2_with fail
      clear HS HNO HVO HGO HGC hmin
      generalize gCols L = G at *
      rw [HGL.out] at HKK HKC
      generalize gKeys m0 K = gk at *
      go_loopw [10] (fun i wr2 => ∃ j : Nat, j ≤ gk ∧ i = .int .i64 j ∧ Hid (GSt w A n c K wr2 (.slice Ag m0 cg) (1 + r) (clr G j))) (fun i _ => gk - (intOf i).toNat)
      case atStart => exact ⟨0, by omega, rfl, by rw [clr_zero]; exact S8.out⟩
      case round =>
       obtain ⟨j, hj, rfl, HS2⟩ := hrel
       clear S8
       have b0 : wr.cell? ⟨w.heap.size + 2, 0, none⟩ = some (.slice Ag m0 cg) := HS2.out.out.cell 0
       have b1 : wr.cell? ⟨w.heap.size + 2, 1, none⟩ = some (.int .i64 (1 + r)) := HS2.out.out.cell 1
       by_cases hlt2 : j < gk
       ·have hjr : (j : Int) < 1 + r := by omega
        have hjm : (j : Int) < (m0 : Int) := by omega
        have hjc : j < (clr G j).length := by rw [clr_len, HGL.out]; omega
        have hjG : j < G.length := by rw [HGL.out]; omega
        obtain ⟨g, c9, hv9, hg9, _, e9, d9, own9⟩ := ownC_put HS2.out.own j hjc 2 (by omega) (.bool false) ⟨(clr G j)[j].nm, (clr G j)[j].k, false⟩ rfl
        injection hv9 with hv9 hx1 hx2
        clear hx1 hx2
        subst hv9
        have HO9 := Lib.hid own9
        rw [clr_step G j hjG] at HO9
        have d9' : wr.cell? ⟨g, j * 3 + 2, none⟩ = some (.bool (clr G j)[j].no) := d9
        have HG9 := Lib.hid hg9
        clear own9 d9 hg9
        generalize (clr G j)[j].no = cj at *
        clear hjc
        go_wp2_with fail
        go_roundw
        case rel => exact ⟨j + 1, by omega, by go_num, HS2.out.cleared HG9.out (j * 3 + 2) (.bool false) HO9.out⟩
        case measure => simp [intOf]; omega
       ·obtain rfl : j = gk := by omega
        have hjr : ¬ (j : Int) < 1 + r := by omega
        have r0 : wr.cell? ⟨w.heap.size + 1, 0, none⟩ = some (.slice none 0 0) := HS2.out.res.cell 0
        have r1 : wr.cell? ⟨w.heap.size + 1, 1, none⟩ = some (.int .i64 0) := HS2.out.res.cell 1
        have t0 : wr.frozen? ⟨w.heap.size + 1, 0, none⟩ = false := HS2.out.res.free 0
        have t1 : wr.frozen? ⟨w.heap.size + 1, 1, none⟩ = false := HS2.out.res.free 1
        have HP := Lib.hid ((HS2.out.res.put 0 (.slice Ag m0 cg)).put 1 (.int .i64 (1 + r)))
        have HO9 := Lib.hid ((HS2.out.own.far (p := ⟨w.heap.size + 1, 0, none⟩) (by show w.heap.size + 1 < w.heap.size + 4; omega) (.slice Ag m0 cg)).far (p := ⟨w.heap.size + 1, 1, none⟩) (by show w.heap.size + 1 < w.heap.size + 4; omega) (.int .i64 (1 + r)))
        have HB9 := Lib.hid ((HS2.out.bel.setCell (p := ⟨w.heap.size + 1, 0, none⟩) (by show w.heap.size ≤ w.heap.size + 1; omega) (.slice Ag m0 cg)).setCell (p := ⟨w.heap.size + 1, 1, none⟩) (by show w.heap.size ≤ w.heap.size + 1; omega) (.int .i64 (1 + r)))
        clear HS2
        go_wp2_with fail
        exact bodyPost_ret (gEnd _ (w.heap.size + 1) _ _ _ rfl HP.out) rfl ⟨_, by rw [HKK.out, hgk], by rw [HKC.out]; exact ownC_down HO9.out (Nat.le_add_right _ 4), HB9.out⟩
  ·obtain rfl : k = n := by omega
   have HT : Hid (gTo L k = gTo L (min L.length 6)) := by show _ = _; rw [HN.out, Nat.min_eq_left (by omega)]
   rw [HT.out] at HS HNO HVO
   have HGC : Hid (gCols L = if (gTo L (min L.length 6)).length = 0 then gOne else gTo L (min L.length 6)) := rfl
   have HKK : Hid (gdK L K = gKeys (gCols L).length K) := rfl
   have HKC : Hid (gdC L K = clr (gCols L) (gKeys (gCols L).length K)) := rfl
   have HGR := Lib.hid (gCols_cols L).2
   clear HT
   obtain ⟨M0, hM0⟩ : ∃ M0, gTo L (min L.length 6) = M0 := ⟨_, rfl⟩
   rw [hM0] at HS HNO HVO HGC
   rw [HNO.out] at HGC
   clear hM0
   have o0 : wr.cell? ⟨w.heap.size + 2, 0, none⟩ = some (.slice Ao no co) := HS.out.out.cell 0
   have o1 : wr.cell? ⟨w.heap.size + 2, 1, none⟩ = some (.int .i64 0) := HS.out.out.cell 1
   have f1 : wr.frozen? ⟨w.heap.size + 2, 1, none⟩ = false := HS.out.out.free 1
   by_cases hK : K < 0
   ·by_cases hz : no = 0
    ·subst hz
     have hM0 : M0 = [] := List.eq_nil_of_length_eq_zero HNO.out
     subst hM0
     have HGO : Hid (gCols L = gOne) := by show _ = _; rw [HGC.out, if_pos rfl]
     have hmin1 : ∀ ts t W, Sem.run Tryz.prog (Builtin.min_ ts t #[.int .i64 1, .int .i64 3]) W = .ok (.int .i64 1) W := fun ts t W => by rw [run_min_int2]; simp
     have HAP := Lib.hid (appC wr wr.heap.size rfl (w.heap.size + 4) (.slice Ao 0 co) [] ⟨⟨#[105, 100]⟩, 2, false⟩ HS.out.own HS.out.big (by simp))
     go_wp2_with (at_builtin; refine wpList_app rfl _ _ 25 25 rfl (.slice Ao 0 co) (.slice (some ⟨wr.heap.size, 0, none⟩) 1 1) rfl rfl ?_; obtain ⟨R, W', hrun, hmade⟩ := HAP.out; refine ⟨R, W', hrun, ?_⟩; obtain ⟨Ag, m0, cg, hR, HN7, _, _, _, _⟩ := ownC_open hmade.1; have hm1 : 1 = m0 := HN7.out; subst hm1; subst hR; have HM := Lib.hid hmade; have hO7 := HS.out.out.below hmade.2 (by omega); have g0 : W'.frozen? ⟨w.heap.size + 2, 0, none⟩ = false := hO7.free 0; have g1 : W'.frozen? ⟨w.heap.size + 2, 1, none⟩ = false := hO7.free 1; have g2 : W'.cell? ⟨w.heap.size + 2, 0, none⟩ = some (.slice Ao 0 co) := hO7.cell 0; have g3 : W'.cell? ⟨w.heap.size + 2, 1, none⟩ = some (.int .i64 0) := hO7.cell 1; have g4 : W'.cell? ⟨w.heap.size, 1, none⟩ = some (.int .i64 K) := (HS.out.prm.below hmade.2 (by omega)).cell 1; clear hrun hmade HAP hO7 HN7)
     have HGL : Hid ((gCols L).length = 1) := by show _ = _; rw [HGO.out]; rfl
     have hgk : ((gKeys 1 K : Nat) : Int) = 1 := by
      have := gKeys_range 1 K (by omega)
      omega
     have S8 := Lib.hid ((HS.out.stored HM.out.1 HM.out.2).keyed 1)
     have hgm := (gKeys_range 1 K (by omega)).2.1
     have e0 : [] ++ [(⟨⟨#[105, 100]⟩, 2, false⟩ : Cl)] = gCols L := by rw [HGO.out]; rfl
     rw [e0] at S8
     clear e0 HM HS HNO HVO HGO HGC hmin1
     generalize gCols L = G at *
     rw [HGL.out] at HKK HKC
     generalize gKeys 1 K = gk at *
     go_loopw [10] (fun i wr2 => ∃ j : Nat, j ≤ gk ∧ i = .int .i64 j ∧ Hid (GSt w A k c K wr2 (.slice Ag 1 cg) (1) (clr G j))) (fun i _ => gk - (intOf i).toNat)
     case atStart => exact ⟨0, by omega, rfl, by rw [clr_zero]; exact S8.out⟩
     case round =>
      obtain ⟨j, hj, rfl, HS2⟩ := hrel
      clear S8
      have b0 : wr.cell? ⟨w.heap.size + 2, 0, none⟩ = some (.slice Ag 1 cg) := HS2.out.out.cell 0
      have b1 : wr.cell? ⟨w.heap.size + 2, 1, none⟩ = some (.int .i64 (1)) := HS2.out.out.cell 1
      by_cases hlt2 : j < gk
      ·have hjr : (j : Int) < 1 := by omega
       have hjm : (j : Int) < (1 : Int) := by omega
       have hjc : j < (clr G j).length := by rw [clr_len, HGL.out]; omega
       have hjG : j < G.length := by rw [HGL.out]; omega
       obtain ⟨g, c9, hv9, hg9, _, e9, d9, own9⟩ := ownC_put HS2.out.own j hjc 2 (by omega) (.bool false) ⟨(clr G j)[j].nm, (clr G j)[j].k, false⟩ rfl
       injection hv9 with hv9 hx1 hx2
       clear hx1 hx2
       subst hv9
       have HO9 := Lib.hid own9
       rw [clr_step G j hjG] at HO9
       have d9' : wr.cell? ⟨g, j * 3 + 2, none⟩ = some (.bool (clr G j)[j].no) := d9
       have HG9 := Lib.hid hg9
       clear own9 d9 hg9
       generalize (clr G j)[j].no = cj at *
       clear hjc
       go_wp2_with fail
       go_roundw
       case rel => exact ⟨j + 1, by omega, by go_num, HS2.out.cleared HG9.out (j * 3 + 2) (.bool false) HO9.out⟩
       case measure => simp [intOf]; omega
      ·obtain rfl : j = gk := by omega
       have hjr : ¬ (j : Int) < 1 := by omega
       have r0 : wr.cell? ⟨w.heap.size + 1, 0, none⟩ = some (.slice none 0 0) := HS2.out.res.cell 0
       have r1 : wr.cell? ⟨w.heap.size + 1, 1, none⟩ = some (.int .i64 0) := HS2.out.res.cell 1
       have t0 : wr.frozen? ⟨w.heap.size + 1, 0, none⟩ = false := HS2.out.res.free 0
       have t1 : wr.frozen? ⟨w.heap.size + 1, 1, none⟩ = false := HS2.out.res.free 1
       have HP := Lib.hid ((HS2.out.res.put 0 (.slice Ag 1 cg)).put 1 (.int .i64 (1)))
       have HO9 := Lib.hid ((HS2.out.own.far (p := ⟨w.heap.size + 1, 0, none⟩) (by show w.heap.size + 1 < w.heap.size + 4; omega) (.slice Ag 1 cg)).far (p := ⟨w.heap.size + 1, 1, none⟩) (by show w.heap.size + 1 < w.heap.size + 4; omega) (.int .i64 (1)))
       have HB9 := Lib.hid ((HS2.out.bel.setCell (p := ⟨w.heap.size + 1, 0, none⟩) (by show w.heap.size ≤ w.heap.size + 1; omega) (.slice Ag 1 cg)).setCell (p := ⟨w.heap.size + 1, 1, none⟩) (by show w.heap.size ≤ w.heap.size + 1; omega) (.int .i64 (1)))
       clear HS2
       go_wp2_with fail
       exact bodyPost_ret (gEnd _ (w.heap.size + 1) _ _ _ rfl HP.out) rfl ⟨_, by rw [HKK.out, hgk], by rw [HKC.out]; exact ownC_down HO9.out (Nat.le_add_right _ 4), HB9.out⟩
    ·have HGO : Hid (gCols L = M0) := by show _ = _; rw [HGC.out, if_neg hz]
     rw [← HGO.out] at HS HNO HVO
     have hm1 : 1 ≤ no := by omega
     obtain ⟨m0, hm0⟩ : ∃ m0, m0 = no := ⟨_, rfl⟩
     subst hm0
     obtain ⟨q, r, hq1, hq3, hq0, hmin, hr, hgk, hr0, hr3⟩ := keysN m0 K hm1 hK
     have hnz : ((m0 : Int) == 0) = false := by simp; omega
     have HGL : Hid ((gCols L).length = m0) := HNO
     have S8 := Lib.hid (HS.out.keyed (1 + r))
     have hgm := (gKeys_range m0 K hm1).2.1
     obtain ⟨Ag, hAg⟩ : ∃ Ag, Ag = Ao := ⟨_, rfl⟩
     obtain ⟨cg, hcg⟩ : ∃ cg, cg = co := ⟨_, rfl⟩
     subst hAg hcg
     go_wp2_with fail
     clear HS HNO HVO HGO HGC hmin
     generalize gCols L = G at *
     rw [HGL.out] at HKK HKC
     generalize gKeys m0 K = gk at *
     go_loopw [10] (fun i wr2 => ∃ j : Nat, j ≤ gk ∧ i = .int .i64 j ∧ Hid (GSt w A k c K wr2 (.slice Ag m0 cg) (1 + r) (clr G j))) (fun i _ => gk - (intOf i).toNat)
     case atStart => exact ⟨0, by omega, rfl, by rw [clr_zero]; exact S8.out⟩
     case round =>
      obtain ⟨j, hj, rfl, HS2⟩ := hrel
      clear S8
      have b0 : wr.cell? ⟨w.heap.size + 2, 0, none⟩ = some (.slice Ag m0 cg) := HS2.out.out.cell 0
      have b1 : wr.cell? ⟨w.heap.size + 2, 1, none⟩ = some (.int .i64 (1 + r)) := HS2.out.out.cell 1
      by_cases hlt2 : j < gk
      ·have hjr : (j : Int) < 1 + r := by omega
       have hjm : (j : Int) < (m0 : Int) := by omega
       have hjc : j < (clr G j).length := by rw [clr_len, HGL.out]; omega
       have hjG : j < G.length := by rw [HGL.out]; omega
       obtain ⟨g, c9, hv9, hg9, _, e9, d9, own9⟩ := ownC_put HS2.out.own j hjc 2 (by omega) (.bool false) ⟨(clr G j)[j].nm, (clr G j)[j].k, false⟩ rfl
       injection hv9 with hv9 hx1 hx2
       clear hx1 hx2
       subst hv9
       have HO9 := Lib.hid own9
       rw [clr_step G j hjG] at HO9
       have d9' : wr.cell? ⟨g, j * 3 + 2, none⟩ = some (.bool (clr G j)[j].no) := d9
       have HG9 := Lib.hid hg9
       clear own9 d9 hg9
       generalize (clr G j)[j].no = cj at *
       clear hjc
       go_wp2_with fail
       go_roundw
       case rel => exact ⟨j + 1, by omega, by go_num, HS2.out.cleared HG9.out (j * 3 + 2) (.bool false) HO9.out⟩
       case measure => simp [intOf]; omega
      ·obtain rfl : j = gk := by omega
       have hjr : ¬ (j : Int) < 1 + r := by omega
       have r0 : wr.cell? ⟨w.heap.size + 1, 0, none⟩ = some (.slice none 0 0) := HS2.out.res.cell 0
       have r1 : wr.cell? ⟨w.heap.size + 1, 1, none⟩ = some (.int .i64 0) := HS2.out.res.cell 1
       have t0 : wr.frozen? ⟨w.heap.size + 1, 0, none⟩ = false := HS2.out.res.free 0
       have t1 : wr.frozen? ⟨w.heap.size + 1, 1, none⟩ = false := HS2.out.res.free 1
       have HP := Lib.hid ((HS2.out.res.put 0 (.slice Ag m0 cg)).put 1 (.int .i64 (1 + r)))
       have HO9 := Lib.hid ((HS2.out.own.far (p := ⟨w.heap.size + 1, 0, none⟩) (by show w.heap.size + 1 < w.heap.size + 4; omega) (.slice Ag m0 cg)).far (p := ⟨w.heap.size + 1, 1, none⟩) (by show w.heap.size + 1 < w.heap.size + 4; omega) (.int .i64 (1 + r)))
       have HB9 := Lib.hid ((HS2.out.bel.setCell (p := ⟨w.heap.size + 1, 0, none⟩) (by show w.heap.size ≤ w.heap.size + 1; omega) (.slice Ag m0 cg)).setCell (p := ⟨w.heap.size + 1, 1, none⟩) (by show w.heap.size ≤ w.heap.size + 1; omega) (.int .i64 (1 + r)))
       clear HS2
       go_wp2_with fail
       exact bodyPost_ret (gEnd _ (w.heap.size + 1) _ _ _ rfl HP.out) rfl ⟨_, by rw [HKK.out, hgk], by rw [HKC.out]; exact ownC_down HO9.out (Nat.le_add_right _ 4), HB9.out⟩
   ·by_cases hz : no = 0
    ·subst hz
     have hM0 : M0 = [] := List.eq_nil_of_length_eq_zero HNO.out
     subst hM0
     have HGO : Hid (gCols L = gOne) := by show _ = _; rw [HGC.out, if_pos rfl]
     have hmin1 : ∀ ts t W, Sem.run Tryz.prog (Builtin.min_ ts t #[.int .i64 1, .int .i64 3]) W = .ok (.int .i64 1) W := fun ts t W => by rw [run_min_int2]; simp
     have HAP := Lib.hid (appC wr wr.heap.size rfl (w.heap.size + 4) (.slice Ao 0 co) [] ⟨⟨#[105, 100]⟩, 2, false⟩ HS.out.own HS.out.big (by simp))
     go_wp2_with (at_builtin; refine wpList_app rfl _ _ 25 25 rfl (.slice Ao 0 co) (.slice (some ⟨wr.heap.size, 0, none⟩) 1 1) rfl rfl ?_; obtain ⟨R, W', hrun, hmade⟩ := HAP.out; refine ⟨R, W', hrun, ?_⟩; obtain ⟨Ag, m0, cg, hR, HN7, _, _, _, _⟩ := ownC_open hmade.1; have hm1 : 1 = m0 := HN7.out; subst hm1; subst hR; have HM := Lib.hid hmade; have hO7 := HS.out.out.below hmade.2 (by omega); have g0 : W'.frozen? ⟨w.heap.size + 2, 0, none⟩ = false := hO7.free 0; have g1 : W'.frozen? ⟨w.heap.size + 2, 1, none⟩ = false := hO7.free 1; have g2 : W'.cell? ⟨w.heap.size + 2, 0, none⟩ = some (.slice Ao 0 co) := hO7.cell 0; have g3 : W'.cell? ⟨w.heap.size + 2, 1, none⟩ = some (.int .i64 0) := hO7.cell 1; have g4 : W'.cell? ⟨w.heap.size, 1, none⟩ = some (.int .i64 K) := (HS.out.prm.below hmade.2 (by omega)).cell 1; clear hrun hmade HAP hO7 HN7)
     have HGL : Hid ((gCols L).length = 1) := by show _ = _; rw [HGO.out]; rfl
     have hgk : ((gKeys 1 K : Nat) : Int) = 1 := by
      have := gKeys_range 1 K (by omega)
      omega
     have S8 := Lib.hid ((HS.out.stored HM.out.1 HM.out.2).keyed 1)
     have hgm := (gKeys_range 1 K (by omega)).2.1
     have e0 : [] ++ [(⟨⟨#[105, 100]⟩, 2, false⟩ : Cl)] = gCols L := by rw [HGO.out]; rfl
     rw [e0] at S8
     clear e0 HM HS HNO HVO HGO HGC hmin1
     generalize gCols L = G at *
     rw [HGL.out] at HKK HKC
     generalize gKeys 1 K = gk at *
     go_loopw [10] (fun i wr2 => ∃ j : Nat, j ≤ gk ∧ i = .int .i64 j ∧ Hid (GSt w A k c K wr2 (.slice Ag 1 cg) (1) (clr G j))) (fun i _ => gk - (intOf i).toNat)
     case atStart => exact ⟨0, by omega, rfl, by rw [clr_zero]; exact S8.out⟩
     case round =>
      obtain ⟨j, hj, rfl, HS2⟩ := hrel
      clear S8
      have b0 : wr.cell? ⟨w.heap.size + 2, 0, none⟩ = some (.slice Ag 1 cg) := HS2.out.out.cell 0
      have b1 : wr.cell? ⟨w.heap.size + 2, 1, none⟩ = some (.int .i64 (1)) := HS2.out.out.cell 1
      by_cases hlt2 : j < gk
      ·have hjr : (j : Int) < 1 := by omega
       have hjm : (j : Int) < (1 : Int) := by omega
       have hjc : j < (clr G j).length := by rw [clr_len, HGL.out]; omega
       have hjG : j < G.length := by rw [HGL.out]; omega
       obtain ⟨g, c9, hv9, hg9, _, e9, d9, own9⟩ := ownC_put HS2.out.own j hjc 2 (by omega) (.bool false) ⟨(clr G j)[j].nm, (clr G j)[j].k, false⟩ rfl
       injection hv9 with hv9 hx1 hx2
       clear hx1 hx2
       subst hv9
       have HO9 := Lib.hid own9
       rw [clr_step G j hjG] at HO9
       have d9' : wr.cell? ⟨g, j * 3 + 2, none⟩ = some (.bool (clr G j)[j].no) := d9
       have HG9 := Lib.hid hg9
       clear own9 d9 hg9
       generalize (clr G j)[j].no = cj at *
       clear hjc
       go_wp2_with fail
       go_roundw
       case rel => exact ⟨j + 1, by omega, by go_num, HS2.out.cleared HG9.out (j * 3 + 2) (.bool false) HO9.out⟩
       case measure => simp [intOf]; omega
      ·obtain rfl : j = gk := by omega
       have hjr : ¬ (j : Int) < 1 := by omega
       have r0 : wr.cell? ⟨w.heap.size + 1, 0, none⟩ = some (.slice none 0 0) := HS2.out.res.cell 0
       have r1 : wr.cell? ⟨w.heap.size + 1, 1, none⟩ = some (.int .i64 0) := HS2.out.res.cell 1
       have t0 : wr.frozen? ⟨w.heap.size + 1, 0, none⟩ = false := HS2.out.res.free 0
       have t1 : wr.frozen? ⟨w.heap.size + 1, 1, none⟩ = false := HS2.out.res.free 1
       have HP := Lib.hid ((HS2.out.res.put 0 (.slice Ag 1 cg)).put 1 (.int .i64 (1)))
       have HO9 := Lib.hid ((HS2.out.own.far (p := ⟨w.heap.size + 1, 0, none⟩) (by show w.heap.size + 1 < w.heap.size + 4; omega) (.slice Ag 1 cg)).far (p := ⟨w.heap.size + 1, 1, none⟩) (by show w.heap.size + 1 < w.heap.size + 4; omega) (.int .i64 (1)))
       have HB9 := Lib.hid ((HS2.out.bel.setCell (p := ⟨w.heap.size + 1, 0, none⟩) (by show w.heap.size ≤ w.heap.size + 1; omega) (.slice Ag 1 cg)).setCell (p := ⟨w.heap.size + 1, 1, none⟩) (by show w.heap.size ≤ w.heap.size + 1; omega) (.int .i64 (1)))
       clear HS2
       go_wp2_with fail
       exact bodyPost_ret (gEnd _ (w.heap.size + 1) _ _ _ rfl HP.out) rfl ⟨_, by rw [HKK.out, hgk], by rw [HKC.out]; exact ownC_down HO9.out (Nat.le_add_right _ 4), HB9.out⟩
    ·have HGO : Hid (gCols L = M0) := by show _ = _; rw [HGC.out, if_neg hz]
     rw [← HGO.out] at HS HNO HVO
     have hm1 : 1 ≤ no := by omega
     obtain ⟨m0, hm0⟩ : ∃ m0, m0 = no := ⟨_, rfl⟩
     subst hm0
     obtain ⟨q, r, hq1, hq3, hq0, hmin, hr, hgk, hr0, hr3⟩ := keysP m0 K hm1 hK
     have hnz : ((m0 : Int) == 0) = false := by simp; omega
     have HGL : Hid ((gCols L).length = m0) := HNO
     have S8 := Lib.hid (HS.out.keyed (1 + r))
     have hgm := (gKeys_range m0 K hm1).2.1
     obtain ⟨Ag, hAg⟩ : ∃ Ag, Ag = Ao := ⟨_, rfl⟩
     obtain ⟨cg, hcg⟩ : ∃ cg, cg = co := ⟨_, rfl⟩
     subst hAg hcg
     go_wp2_with fail
     clear HS HNO HVO HGO HGC hmin
     generalize gCols L = G at *
     rw [HGL.out] at HKK HKC
     generalize gKeys m0 K = gk at *
     go_loopw [10] (fun i wr2 => ∃ j : Nat, j ≤ gk ∧ i = .int .i64 j ∧ Hid (GSt w A k c K wr2 (.slice Ag m0 cg) (1 + r) (clr G j))) (fun i _ => gk - (intOf i).toNat)
     case atStart => exact ⟨0, by omega, rfl, by rw [clr_zero]; exact S8.out⟩
     case round =>
      obtain ⟨j, hj, rfl, HS2⟩ := hrel
      clear S8
      have b0 : wr.cell? ⟨w.heap.size + 2, 0, none⟩ = some (.slice Ag m0 cg) := HS2.out.out.cell 0
      have b1 : wr.cell? ⟨w.heap.size + 2, 1, none⟩ = some (.int .i64 (1 + r)) := HS2.out.out.cell 1
      by_cases hlt2 : j < gk
      ·have hjr : (j : Int) < 1 + r := by omega
       have hjm : (j : Int) < (m0 : Int) := by omega
       have hjc : j < (clr G j).length := by rw [clr_len, HGL.out]; omega
       have hjG : j < G.length := by rw [HGL.out]; omega
       obtain ⟨g, c9, hv9, hg9, _, e9, d9, own9⟩ := ownC_put HS2.out.own j hjc 2 (by omega) (.bool false) ⟨(clr G j)[j].nm, (clr G j)[j].k, false⟩ rfl
       injection hv9 with hv9 hx1 hx2
       clear hx1 hx2
       subst hv9
       have HO9 := Lib.hid own9
       rw [clr_step G j hjG] at HO9
       have d9' : wr.cell? ⟨g, j * 3 + 2, none⟩ = some (.bool (clr G j)[j].no) := d9
       have HG9 := Lib.hid hg9
       clear own9 d9 hg9
       generalize (clr G j)[j].no = cj at *
       clear hjc
       go_wp2_with fail
       go_roundw
       case rel => exact ⟨j + 1, by omega, by go_num, HS2.out.cleared HG9.out (j * 3 + 2) (.bool false) HO9.out⟩
       case measure => simp [intOf]; omega
      ·obtain rfl : j = gk := by omega
       have hjr : ¬ (j : Int) < 1 + r := by omega
       have r0 : wr.cell? ⟨w.heap.size + 1, 0, none⟩ = some (.slice none 0 0) := HS2.out.res.cell 0
       have r1 : wr.cell? ⟨w.heap.size + 1, 1, none⟩ = some (.int .i64 0) := HS2.out.res.cell 1
       have t0 : wr.frozen? ⟨w.heap.size + 1, 0, none⟩ = false := HS2.out.res.free 0
       have t1 : wr.frozen? ⟨w.heap.size + 1, 1, none⟩ = false := HS2.out.res.free 1
       have HP := Lib.hid ((HS2.out.res.put 0 (.slice Ag m0 cg)).put 1 (.int .i64 (1 + r)))
       have HO9 := Lib.hid ((HS2.out.own.far (p := ⟨w.heap.size + 1, 0, none⟩) (by show w.heap.size + 1 < w.heap.size + 4; omega) (.slice Ag m0 cg)).far (p := ⟨w.heap.size + 1, 1, none⟩) (by show w.heap.size + 1 < w.heap.size + 4; omega) (.int .i64 (1 + r)))
       have HB9 := Lib.hid ((HS2.out.bel.setCell (p := ⟨w.heap.size + 1, 0, none⟩) (by show w.heap.size ≤ w.heap.size + 1; omega) (.slice Ag m0 cg)).setCell (p := ⟨w.heap.size + 1, 1, none⟩) (by show w.heap.size ≤ w.heap.size + 1; omega) (.int .i64 (1 + r)))
       clear HS2
       go_wp2_with fail
       exact bodyPost_ret (gEnd _ (w.heap.size + 1) _ _ _ rfl HP.out) rfl ⟨_, by rw [HKK.out, hgk], by rw [HKC.out]; exact ownC_down HO9.out (Nat.le_add_right _ 4), HB9.out⟩
end Go.Proofs.YtnpmgempkoeapaaGreatDoor
