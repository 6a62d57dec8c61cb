/-
  Put together, as far as it is used: Good4, Qd, Qf, TabP, Qh, Qi, Qj, Ql, PutW, Qm.
-/
import Derived.Test.YtlnbhlgkehenpaaGreatDoorPwc
import Derived.Test.YtlnbhlgkehenpaaGreatDoorPwb
import Derived.Test.YtlnbhlgkehenpaaGreatDoorShelf
import Derived.RegionTactic
import Derived.Deep.QuietTactic
import Derived.BigQuiet
import Derived.Laws.ResultCell
import Derived.Deep.RegionHeld3
import Derived.MapKept
import Derived.Lib.AppendZerosOnto
import Derived.Laws.AppendOwnNone
import Derived.Lib.LazyBuf
import Derived.IntWalk
set_option linter.unusedVariables false
set_option linter.unusedSimpArgs false
set_option linter.defProp false
namespace Go.Proofs.YtlnbhlgkehenpaaGreatDoor
open Go.RowKit Dg
structure GSt (w : World) (A : Option Addr) (n c : Nat) (K : Int) (wr : World) (v : Value) (kk : Int) (M : List Cl) : Prop where
 own : OwnC (w.heap.size + 4) wr v M
 bel : Below w.heap.size w wr
 prm : Has wr w.heap.size 39 #[.slice A n c, .int .i64 K]
 res : Has wr (w.heap.size + 1) 39 #[.slice none 0 0, .int .i64 0]
 out : Has wr (w.heap.size + 2) 39 #[v, .int .i64 kk]
 pol : Has wr (w.heap.size + 3) 9 #[.string ⟨#[105, 100]⟩, .string ⟨#[110, 97, 109, 101]⟩, .string ⟨#[110]⟩, .string ⟨#[102, 108, 97, 103]⟩, .string ⟨#[114, 97, 119]⟩, .string ⟨#[120]⟩]
 big : w.heap.size + 4 ≤ wr.heap.size
theorem OwnC.belowB {B : Nat} {w w' : World} {v : Value} {L : List Cl} (h : OwnC B w v L) {D : Nat} (hb : Below D w w') (hD : w.heap.size ≤ D) : OwnC B w' v L := h.below (hb.mono hD)
section
variable {w wr w' : World} {A : Option Addr} {n c : Nat} {K kk : Int} {v : Value} {M : List Cl}
theorem GSt.below (h : GSt w A n c K wr v kk M) (hb : Below wr.heap.size wr w') : GSt w A n c K w' v kk M :=
 ⟨h.own.below hb, h.bel.trans (hb.mono h.bel.size), h.prm.below hb h.prm.lt, h.res.below hb h.res.lt, h.out.below hb h.out.lt, h.pol.below hb h.pol.lt, Nat.le_trans h.big hb.size⟩
theorem GSt.stored (h : GSt w A n c K wr v kk M) {R : Value} {M' : List Cl} (ho : OwnC (w.heap.size + 4) w' R M') (hb : Below (w.heap.size + 4) wr w') : GSt w A n c K (w'.setCell ⟨w.heap.size + 2, 0, none⟩ R) R kk M' := by
 refine ⟨ho.far (by show w.heap.size + 2 < _; omega) R, (h.bel.trans (hb.mono (by omega))).setCell (by show w.heap.size ≤ w.heap.size + 2; omega) _, ?_, ?_, ?_, ?_, ?_⟩
 ·exact (h.prm.below hb (by omega)).far (by show w.heap.size ≠ w.heap.size + 2; omega) _
 ·exact (h.res.below hb (by omega)).far (by show w.heap.size + 1 ≠ w.heap.size + 2; omega) _
 ·exact (h.out.below hb (by omega)).put 0 R
 ·exact (h.pol.below hb (by omega)).far (by show w.heap.size + 3 ≠ w.heap.size + 2; omega) _
 ·rw [size_set]; exact Nat.le_trans h.big hb.size
theorem GSt.keyed (h : GSt w A n c K wr v kk M) (k2 : Int) : GSt w A n c K (wr.setCell ⟨w.heap.size + 2, 1, none⟩ (.int .i64 k2)) v k2 M := by
 refine ⟨h.own.far (by show w.heap.size + 2 < _; omega) _, h.bel.setCell (by show w.heap.size ≤ w.heap.size + 2; omega) _, ?_, ?_, ?_, ?_, ?_⟩
 ·exact h.prm.far (by show w.heap.size ≠ w.heap.size + 2; omega) _
 ·exact h.res.far (by show w.heap.size + 1 ≠ w.heap.size + 2; omega) _
 ·exact h.out.put 1 _
 ·exact h.pol.far (by show w.heap.size + 3 ≠ w.heap.size + 2; omega) _
 ·rw [size_set]; exact h.big
theorem GSt.cleared (h : GSt w A n c K wr v kk M) {g : Nat} (hg : w.heap.size + 4 ≤ g) (i : Nat) (u : Value) {M' : List Cl} (ho : OwnC (w.heap.size + 4) (wr.setCell ⟨g, i, none⟩ u) v M') : GSt w A n c K (wr.setCell ⟨g, i, none⟩ u) v kk M' := by
 refine ⟨ho, h.bel.setCell (by show w.heap.size ≤ g; omega) _, ?_, ?_, ?_, ?_, ?_⟩
 ·exact h.prm.far (by show w.heap.size ≠ g; omega) _
 ·exact h.res.far (by show w.heap.size + 1 ≠ g; omega) _
 ·exact h.out.far (by show w.heap.size + 2 ≠ g; omega) _
 ·exact h.pol.far (by show w.heap.size + 3 ≠ g; omega) _
 ·rw [size_set]; exact h.big
end
theorem pool_cell (k : Nat) (h : k < 6) : (#[.string ⟨#[105, 100]⟩, .string ⟨#[110, 97, 109, 101]⟩, .string ⟨#[110]⟩, .string ⟨#[102, 108, 97, 103]⟩, .string ⟨#[114, 97, 119]⟩, .string ⟨#[120]⟩] : Array Value)[k]? = some (.string (pool k)) := by
 have : k = 0 ∨ k = 1 ∨ k = 2 ∨ k = 3 ∨ k = 4 ∨ k = 5 := by omega
 rcases this with rfl | rfl | rfl | rfl | rfl | rfl <;> rfl
theorem keys_neg (m : Nat) (K : Int) (hm : 1 ≤ m) (h : K < 0) : ∃ r : Int, -((K + 1).tmod ((min m 3 : Nat) : Int)) = r ∧ ((gKeys m K : Nat) : Int) = 1 + r ∧ 0 ≤ r ∧ r < 3 := by
 have h1 := Int.emod_nonneg (absK K) (b := ((min m 3 : Nat) : Int)) (by omega)
 have h2 := Int.emod_lt_of_pos (absK K) (b := ((min m 3 : Nat) : Int)) (by omega)
 refine ⟨absK K % ((min m 3 : Nat) : Int), ?_, by unfold gKeys; omega, h1, by omega⟩
 unfold absK
 rw [if_pos h, ← Int.neg_tmod, Int.tmod_eq_emod_of_nonneg (by omega)]
theorem keys_pos (m : Nat) (K : Int) (hm : 1 ≤ m) (h : ¬ K < 0) : ∃ r : Int, K.tmod ((min m 3 : Nat) : Int) = r ∧ ((gKeys m K : Nat) : Int) = 1 + r ∧ 0 ≤ r ∧ r < 3 := by
 have h1 := Int.emod_nonneg (absK K) (b := ((min m 3 : Nat) : Int)) (by omega)
 have h2 := Int.emod_lt_of_pos (absK K) (b := ((min m 3 : Nat) : Int)) (by omega)
 refine ⟨absK K % ((min m 3 : Nat) : Int), ?_, by unfold gKeys; omega, h1, by omega⟩
 unfold absK
 rw [if_neg h, Int.tmod_eq_emod_of_nonneg (by omega)]
theorem keysN (m : Nat) (K : Int) (hm : 1 ≤ m) (h : K < 0) : ∃ (q : Nat) (r : Int), 1 ≤ q ∧ q ≤ 3 ∧ ((q : Int) == 0) = false ∧ (∀ ts t W, Sem.run Tryz.prog (Builtin.min_ ts t #[.int .i64 m, .int .i64 3]) W = .ok (.int .i64 (q : Nat)) W) ∧ -((K + 1).tmod (q : Int)) = r ∧ ((gKeys m K : Nat) : Int) = 1 + r ∧ 0 ≤ r ∧ r < 3 := by
 obtain ⟨r, h1, h2, h3, h4⟩ := keys_neg m K hm h
 refine ⟨min m 3, r, by omega, by omega, by simp; omega, fun ts t W => ?_, h1, h2, h3, h4⟩
 rw [run_min_int2]
 congr 2
 split <;> omega
theorem keysP (m : Nat) (K : Int) (hm : 1 ≤ m) (h : ¬ K < 0) : ∃ (q : Nat) (r : Int), 1 ≤ q ∧ q ≤ 3 ∧ ((q : Int) == 0) = false ∧ (∀ ts t W, Sem.run Tryz.prog (Builtin.min_ ts t #[.int .i64 m, .int .i64 3]) W = .ok (.int .i64 (q : Nat)) W) ∧ K.tmod (q : Int) = r ∧ ((gKeys m K : Nat) : Int) = 1 + r ∧ 0 ≤ r ∧ r < 3 := by
 obtain ⟨r, h1, h2, h3, h4⟩ := keys_pos m K hm h
 refine ⟨min m 3, r, by omega, by omega, by simp; omega, fun ts t W => ?_, h1, h2, h3, h4⟩
 rw [run_min_int2]
 congr 2
 split <;> omega
theorem clr_step (M : List Cl) (k : Nat) (h : k < M.length) : (clr M k).set k ⟨((clr M k)[k]'(by rw [clr_len]; exact h)).nm, ((clr M k)[k]'(by rw [clr_len]; exact h)).k, false⟩ = clr M (k + 1) := by
 have e := clr_get M k k h
 rw [if_neg (by omega)] at e
 rw [e]; exact clr_set M k h
theorem gName_pool {out : List Cl} {c : Cl} {i : Nat} (h : nameF c.nm = false ∨ ¬ findI out c.nm < 0) : gName out c i = pool i := by
 unfold gName
 rw [if_neg]
 rintro ⟨h1, h2⟩
 rcases h with h | h
 ·rw [h] at h1; cases h1
 ·exact h h2
theorem gName_own {out : List Cl} {c : Cl} {i : Nat} (h1 : nameF c.nm = true) (h2 : findI out c.nm < 0) : gName out c i = c.nm := by
 unfold gName; rw [if_pos ⟨h1, h2⟩]
theorem gEnd (w' : World) (g : Nat) (c0 c1 : Value) (tmps : Array Value) (hp : tmps.getD 2 undef = .pointer (some ⟨g, 0, none⟩)) (hh : Has w' g 39 #[c0, c1]) :
 (results Tryz.f14 tmps).run Tryz.prog w' = .ok (.agg #[c0, c1]) w' :=
 results_cell_row rfl _ _ g 39 #[c0, c1] (0, 0) _ hp hh Tryz.underlying39 rfl (by kernel_rfl)
set_option maxHeartbeats 16000000 in
set_option maxRecDepth 100000 in
theorem rgood_any (A : Option Addr) (L : List Cl) (n c : Nat) (K : Int) (w : World) (hn : L.length = n) (hnc : n ≤ c) (hcm : c ≤ maxLen) (hA : CRow w A L) (hf : ∀ x ∈ L, x.fit) (hk0 : -9223372036854775808 ≤ K) (hk1 : K ≤ 9223372036854775807) :
 Calls Tryz.prog 14 #[.agg #[.slice A n c, .int .i64 K]] w fun e w' => ∃ v, e = .returned (.agg #[v, .int .i64 (gdK L K)]) ∧ Hid (OwnC w.heap.size w' v (gdC L K)) ∧ Hid (Below w.heap.size w w') := by
 have HN := Lib.hid hn
 have HA := Lib.hid hA
 have HF := Lib.hid hf
 have hcm2 : n ≤ 9223372036854775807 := by unfold maxLen at hcm; omega
 have st0 : GSt w A n c K ((((w.alloc (.cells #[.slice A n c, .int .i64 K] 39)).alloc (.cells #[.slice none 0 0, .int .i64 0] 39)).alloc (.cells #[.slice none 0 0, .int .i64 0] 39)).alloc (.cells #[.string ⟨#[105, 100]⟩, .string ⟨#[110, 97, 109, 101]⟩, .string ⟨#[110]⟩, .string ⟨#[102, 108, 97, 103]⟩, .string ⟨#[114, 97, 119]⟩, .string ⟨#[120]⟩] 9)) (.slice none 0 0) 0 (gTo L 0) := by
  have e1 : (w.alloc (.cells #[.slice A n c, .int .i64 K] 39)).heap.size = w.heap.size + 1 := by simp
  have e2 : ((w.alloc (.cells #[.slice A n c, .int .i64 K] 39)).alloc (.cells #[.slice none 0 0, .int .i64 0] 39)).heap.size = w.heap.size + 2 := by simp
  have e3 : (((w.alloc (.cells #[.slice A n c, .int .i64 K] 39)).alloc (.cells #[.slice none 0 0, .int .i64 0] 39)).alloc (.cells #[.slice none 0 0, .int .i64 0] 39)).heap.size = w.heap.size + 3 := by simp
  refine ⟨ownC_nil _ _, ((((Below.refl w.heap.size w).alloc (Nat.le_refl _) _).alloc (by simp) _).alloc (by simp; omega) _).alloc (by simp; omega) _, (((Has.new w _ _).alloc _).alloc _).alloc _, ?_, ?_, ?_, by simp⟩
  ·have h := ((Has.new (w.alloc (.cells #[.slice A n c, .int .i64 K] 39)) 39 #[.slice none 0 0, .int .i64 0]).alloc (.cells #[.slice none 0 0, .int .i64 0] 39)).alloc (.cells #[.string ⟨#[105, 100]⟩, .string ⟨#[110, 97, 109, 101]⟩, .string ⟨#[110]⟩, .string ⟨#[102, 108, 97, 103]⟩, .string ⟨#[114, 97, 119]⟩, .string ⟨#[120]⟩] 9)
   rw [e1] at h; exact h
  ·have h := (Has.new ((w.alloc (.cells #[.slice A n c, .int .i64 K] 39)).alloc (.cells #[.slice none 0 0, .int .i64 0] 39)) 39 #[.slice none 0 0, .int .i64 0]).alloc (.cells #[.string ⟨#[105, 100]⟩, .string ⟨#[110, 97, 109, 101]⟩, .string ⟨#[110]⟩, .string ⟨#[102, 108, 97, 103]⟩, .string ⟨#[114, 97, 119]⟩, .string ⟨#[120]⟩] 9)
   rw [e2] at h; exact h
  ·have h := Has.new (((w.alloc (.cells #[.slice A n c, .int .i64 K] 39)).alloc (.cells #[.slice none 0 0, .int .i64 0] 39)).alloc (.cells #[.slice none 0 0, .int .i64 0] 39)) 9 #[.string ⟨#[105, 100]⟩, .string ⟨#[110, 97, 109, 101]⟩, .string ⟨#[110]⟩, .string ⟨#[102, 108, 97, 103]⟩, .string ⟨#[114, 97, 119]⟩, .string ⟨#[120]⟩]
   rw [e3] at h; exact h
 have S0 := Lib.hid st0
 clear hn hA hf st0 hnc hcm
 go_enter Tryz.func14, Tryz.ntmps14
 go_wp2_with fail
 go_loopw [5] (fun i wr => ∃ (k : Nat) (v : Value), k ≤ n ∧ k ≤ 6 ∧ i = .int .i64 k ∧ Hid (GSt w A n c K wr v 0 (gTo L k))) (fun i _ => n - (intOf i).toNat)
 case atStart => exact ⟨0, _, by omega, by omega, rfl, S0⟩
 case round =>
  obtain ⟨k, v, hk, hk6, rfl, HS⟩ := hrel
  clear S0
  obtain ⟨Ao, no, co, rfl, HNO, hnoc, hcom, HVO, HZO⟩ := ownC_open HS.out.own
  have a0 : wr.cell? ⟨w.heap.size, 0, none⟩ = some (.slice A n c) := HS.out.prm.cell 0
  have a1 : wr.cell? ⟨w.heap.size, 1, none⟩ = some (.int .i64 K) := HS.out.prm.cell 1
  have hno6 : no ≤ 6 := by
   have h := (gTo_cols L k).2
   have h2 := HNO.out
   omega
  by_cases hlt : k < n
  ·by_cases hl6 : k < 6
   ·have hkl : k < L.length := by rw [HN.out]; exact hlt
    obtain ⟨b, off, rfl, hc⟩ := (HA.out.below HS.out.bel) (by intro e; rw [e] at hkl; simp at hkl)
    obtain ⟨c0, c1, c2⟩ := hc k hkl
    obtain ⟨hf0, hf1, hf2⟩ := HF.out L[k] (List.getElem_mem hkl)
    have HG := Lib.hid (gTo_succ L k hkl)
    clear hc
    generalize L[k] = x at *
    obtain ⟨xa, xb, xc⟩ := x
    simp only at c0 c1 c2 hf0 hf1 hf2
    obtain ⟨M, hM⟩ : ∃ M, gTo L k = M := ⟨_, rfl⟩
    rw [hM] at HS HNO HVO HG
    clear hM
    by_cases hneg : xb < 0
    ·obtain ⟨q, hq, hq4, hq0, hq3⟩ : ∃ q : Int, -((xb + 1).tmod 4) = q ∧ kind4 xb = q ∧ 0 ≤ q ∧ q ≤ 3 := ⟨_, kind4_neg hneg, rfl, (kind4_range xb).1, (kind4_range xb).2⟩
     have HQ := Lib.hid hq4
     clear hq4
     go_wp2_with fail
     refine (refName_any xa _).mono ?_
     rintro e w0 ⟨rfl, rfl⟩
     obtain ⟨W2, hW2⟩ : ∃ W2, W2 = wr.alloc (.cells #[.string xa, .int .i64 (1 + q), .bool xc] 46) := ⟨_, rfl⟩
     rw [← hW2]
     have HBW : Hid (Below wr.heap.size wr W2) := by
      show Below _ _ _
      rw [hW2]; exact (Below.refl _ wr).alloc (Nat.le_refl _) _
     have HX : Hid (Has W2 wr.heap.size 46 #[.string xa, .int .i64 (1 + q), .bool xc]) := by
      show Has _ _ _ _
      rw [hW2]; exact Has.new wr _ _
     have S2 := Lib.hid (HS.out.below HBW.out)
     have HV2 := Lib.hid (HVO.out.below HBW.out)
     have hz2 : wr.heap.size < W2.heap.size := HX.out.lt
     clear hW2 c0 c1 c2 a0 a1 hq
     have o0 : W2.cell? ⟨w.heap.size + 2, 0, none⟩ = some (.slice Ao no co) := S2.out.out.cell 0
     have o1 : W2.cell? ⟨w.heap.size + 2, 1, none⟩ = some (.int .i64 0) := S2.out.out.cell 1
     have x0 : W2.cell? ⟨wr.heap.size, 0, none⟩ = some (.string xa) := HX.out.cell 0
     have x1 : W2.cell? ⟨wr.heap.size, 1, none⟩ = some (.int .i64 (1 + q)) := HX.out.cell 1
     have x2 : W2.cell? ⟨wr.heap.size, 2, none⟩ = some (.bool xc) := HX.out.cell 2
     have y0 : W2.frozen? ⟨wr.heap.size, 0, none⟩ = false := HX.out.free 0
     have p0 : W2.cell? ⟨w.heap.size + 3, k, none⟩ = some (.string (pool k)) := (S2.out.pol.cell k).trans (pool_cell k hl6)
     have hkz : (k : Int) < 6 := by omega
     cases hnm : nameF xa
     ·have HNM0 : Hid (gName M ⟨xa, xb, xc⟩ k = pool k) := gName_pool (.inl hnm)
      have HX3a := Lib.hid (HX.out.put 0 (.string (pool k)))
      have HB3a := Lib.hid (HBW.out.setCell (p := ⟨wr.heap.size, 0, none⟩) (Nat.le_refl _) (.string (pool k)))
      have S5a := Lib.hid (HS.out.below HB3a.out)
      have HV5a := Lib.hid (HVO.out.below HB3a.out)
      have o0a : (W2.setCell ⟨wr.heap.size, 0, none⟩ (.string (pool k))).cell? ⟨w.heap.size + 1 + 1, 0, none⟩ = some (.slice Ao no co) := S5a.out.out.cell 0
      have o1a : (W2.setCell ⟨wr.heap.size, 0, none⟩ (.string (pool k))).cell? ⟨w.heap.size + 1 + 1, 1, none⟩ = some (.int .i64 0) := S5a.out.out.cell 1
      go_wp2_with fail
      clear o0a o1a x0 x1 x2 y0 p0 o0 o1
      obtain ⟨nm, hnmk⟩ : ∃ nm, pool k = nm := ⟨_, rfl⟩
      obtain ⟨W5, hW5⟩ : ∃ W5, W5 = W2.setCell ⟨wr.heap.size, 0, none⟩ (.string nm) := ⟨_, rfl⟩
      rw [hnmk] at HX3a HB3a S5a HV5a HNM0 ⊢
      rw [← hW5] at HX3a HB3a S5a HV5a ⊢
      have HX3 : Hid (Has W5 wr.heap.size 46 #[.string nm, .int .i64 (1 + q), .bool xc]) := HX3a
      have HB3 := HB3a
      have S5 := S5a
      have HV5 := HV5a
      have HNM := HNM0
      clear HX3a HB3a S5a HV5a HNM0 hW5 hnmk
      have HGG : Hid (gTo L (k + 1) = if findI M nm < 0 then M ++ [⟨nm, 1 + q, xc⟩] else M) := by show _ = _; rw [HG.out]; simp only [gStep, HNM.out, HQ.out]
      refine (refFind_any Ao M no co 0 nm W5 HNO.out (by omega) HV5.out).mono ?_
      rintro e w5 ⟨rfl, hb5⟩
      have S6 := Lib.hid (S5.out.below hb5.out)
      have HX6 := Lib.hid (HX3.out.below hb5.out HX3.out.lt)
      clear hb5 HG
      by_cases hfi : findI M nm < 0
      ·have HG2 : Hid (gTo L (k + 1) = M ++ [⟨nm, 1 + q, xc⟩]) := by show _ = _; rw [HGG.out, if_pos hfi]
       have o0 : w5.cell? ⟨w.heap.size + 2, 0, none⟩ = some (.slice Ao no co) := S6.out.out.cell 0
       have x0 : w5.cell? ⟨wr.heap.size, 0, none⟩ = some (.string nm) := HX6.out.cell 0
       have x1 : w5.cell? ⟨wr.heap.size, 1, none⟩ = some (.int .i64 (1 + q)) := HX6.out.cell 1
       have x2 : w5.cell? ⟨wr.heap.size, 2, none⟩ = some (.bool xc) := HX6.out.cell 2
       generalize findI M nm = fi at *
       have HAP := Lib.hid (appC w5 w5.heap.size rfl (w.heap.size + 4) (.slice Ao no co) M ⟨nm, 1 + q, xc⟩ S6.out.own S6.out.big (by have := HNO.out; omega))
       go_wp2_with (at_builtin; refine wpList_app rfl _ _ 37 37 rfl (.slice Ao no co) (.slice (some ⟨w5.heap.size, 0, none⟩) 1 1) rfl rfl ?_; obtain ⟨R, W', hrun, hmade⟩ := HAP.out; refine ⟨R, W', hrun, ?_⟩; obtain ⟨A7, n7, c7, hR, _, _, _, _, _⟩ := ownC_open hmade.1; subst hR; have HM := Lib.hid hmade; have hO7 := S6.out.out.below hmade.2 (by omega); have f0 : W'.frozen? ⟨w.heap.size + 2, 0, none⟩ = false := hO7.free 0; have f1 : W'.cell? ⟨w.heap.size + 2, 0, none⟩ = some (.slice Ao no co) := hO7.cell 0; clear hrun hmade HAP hO7)
       go_roundw
       case rel => exact ⟨k + 1, _, by omega, by omega, by go_num, by rw [HG2.out]; exact S6.out.stored HM.out.1 HM.out.2⟩
       case measure => simp [intOf]; omega
      ·have HG2 : Hid (gTo L (k + 1) = M) := by show _ = _; rw [HGG.out, if_neg hfi]
       generalize findI M nm = fi at *
       have hfz : 0 ≤ fi := by omega
       go_wp2_with fail
       go_roundw
       case rel => exact ⟨k + 1, _, by omega, by omega, by go_num, by rw [HG2.out]; exact S6⟩
       case measure => simp [intOf]; omega
     ·go_wp2_with fail
      refine (refFind_any Ao M no co 0 xa W2 HNO.out (by omega) HV2.out).mono ?_
      rintro e w3 ⟨rfl, hb3⟩
      have S3 := Lib.hid (S2.out.below hb3.out)
      have HXB := Lib.hid (HX.out.below hb3.out HX.out.lt)
      have HB2 := Lib.hid (HBW.out.trans (hb3.out.mono HBW.out.size))
      clear hb3 S2 HX HBW HV2 o0 o1 x0 x1 x2 y0 p0 hz2
      have o0 : w3.cell? ⟨w.heap.size + 2, 0, none⟩ = some (.slice Ao no co) := S3.out.out.cell 0
      have o1 : w3.cell? ⟨w.heap.size + 2, 1, none⟩ = some (.int .i64 0) := S3.out.out.cell 1
      have x0 : w3.cell? ⟨wr.heap.size, 0, none⟩ = some (.string xa) := HXB.out.cell 0
      have x1 : w3.cell? ⟨wr.heap.size, 1, none⟩ = some (.int .i64 (1 + q)) := HXB.out.cell 1
      have x2 : w3.cell? ⟨wr.heap.size, 2, none⟩ = some (.bool xc) := HXB.out.cell 2
      have y0 : w3.frozen? ⟨wr.heap.size, 0, none⟩ = false := HXB.out.free 0
      have p0 : w3.cell? ⟨w.heap.size + 3, k, none⟩ = some (.string (pool k)) := (S3.out.pol.cell k).trans (pool_cell k hl6)
      by_cases hfa : findI M xa < 0
      ·have HNM : Hid (gName M ⟨xa, xb, xc⟩ k = xa) := gName_own hnm hfa
       have HX3 := HXB
       have HB3 := HB2
       have S5 := S3
       have HV5 := Lib.hid (HVO.out.below HB3.out)
       obtain ⟨W5, hW5⟩ : ∃ W5, W5 = w3 := ⟨_, rfl⟩
       subst hW5
       clear S3 HXB HB2
       generalize hfq : findI M xa = fa at *
       have HFQ := Lib.hid hfq
       clear hfq
       go_wp2_with fail
       clear o0 o1 x0 x1 x2 y0 p0
       have HGG : Hid (gTo L (k + 1) = if findI M xa < 0 then M ++ [⟨xa, 1 + q, xc⟩] else M) := by show _ = _; rw [HG.out]; simp only [gStep, HNM.out, HQ.out]
       refine (refFind_any Ao M no co 0 xa W5 HNO.out (by omega) HV5.out).mono ?_
       rintro e w5 ⟨rfl, hb5⟩
       have S6 := Lib.hid (S5.out.below hb5.out)
       have HX6 := Lib.hid (HX3.out.below hb5.out HX3.out.lt)
       clear hb5 HG
       by_cases hfi : findI M xa < 0
       ·have HG2 : Hid (gTo L (k + 1) = M ++ [⟨xa, 1 + q, xc⟩]) := by show _ = _; rw [HGG.out, if_pos hfi]
        have o0 : w5.cell? ⟨w.heap.size + 2, 0, none⟩ = some (.slice Ao no co) := S6.out.out.cell 0
        have x0 : w5.cell? ⟨wr.heap.size, 0, none⟩ = some (.string xa) := HX6.out.cell 0
        have x1 : w5.cell? ⟨wr.heap.size, 1, none⟩ = some (.int .i64 (1 + q)) := HX6.out.cell 1
        have x2 : w5.cell? ⟨wr.heap.size, 2, none⟩ = some (.bool xc) := HX6.out.cell 2
        generalize findI M xa = fi at *
        have HAP := Lib.hid (appC w5 w5.heap.size rfl (w.heap.size + 4) (.slice Ao no co) M ⟨xa, 1 + q, xc⟩ S6.out.own S6.out.big (by have := HNO.out; omega))
        go_wp2_with (at_builtin; refine wpList_app rfl _ _ 37 37 rfl (.slice Ao no co) (.slice (some ⟨w5.heap.size, 0, none⟩) 1 1) rfl rfl ?_; obtain ⟨R, W', hrun, hmade⟩ := HAP.out; refine ⟨R, W', hrun, ?_⟩; obtain ⟨A7, n7, c7, hR, _, _, _, _, _⟩ := ownC_open hmade.1; subst hR; have HM := Lib.hid hmade; have hO7 := S6.out.out.below hmade.2 (by omega); have f0 : W'.frozen? ⟨w.heap.size + 2, 0, none⟩ = false := hO7.free 0; have f1 : W'.cell? ⟨w.heap.size + 2, 0, none⟩ = some (.slice Ao no co) := hO7.cell 0; clear hrun hmade HAP hO7)
        go_roundw
        case rel => exact ⟨k + 1, _, by omega, by omega, by go_num, by rw [HG2.out]; exact S6.out.stored HM.out.1 HM.out.2⟩
        case measure => simp [intOf]; omega
       ·have HG2 : Hid (gTo L (k + 1) = M) := by show _ = _; rw [HGG.out, if_neg hfi]
        generalize findI M xa = fi at *
        have hfz : 0 ≤ fi := by omega
        go_wp2_with fail
        go_roundw
        case rel => exact ⟨k + 1, _, by omega, by omega, by go_num, by rw [HG2.out]; exact S6⟩
        case measure => simp [intOf]; omega
      ·have HNM0 : Hid (gName M ⟨xa, xb, xc⟩ k = pool k) := gName_pool (.inr hfa)
       generalize findI M xa = fa at *
       have hfz : 0 ≤ fa := by omega
       have HX3a := Lib.hid (HXB.out.put 0 (.string (pool k)))
       have HB3a := Lib.hid (HB2.out.setCell (p := ⟨wr.heap.size, 0, none⟩) (Nat.le_refl _) (.string (pool k)))
       have S5a := Lib.hid (HS.out.below HB3a.out)
       have HV5a := Lib.hid (HVO.out.below HB3a.out)
       have o0a : (w3.setCell ⟨wr.heap.size, 0, none⟩ (.string (pool k))).cell? ⟨w.heap.size + 1 + 1, 0, none⟩ = some (.slice Ao no co) := S5a.out.out.cell 0
       have o1a : (w3.setCell ⟨wr.heap.size, 0, none⟩ (.string (pool k))).cell? ⟨w.heap.size + 1 + 1, 1, none⟩ = some (.int .i64 0) := S5a.out.out.cell 1
       go_wp2_with fail
       clear o0a o1a x0 x1 x2 y0 p0 o0 o1
       obtain ⟨nm, hnmk⟩ : ∃ nm, pool k = nm := ⟨_, rfl⟩
       obtain ⟨W5, hW5⟩ : ∃ W5, W5 = w3.setCell ⟨wr.heap.size, 0, none⟩ (.string nm) := ⟨_, rfl⟩
       rw [hnmk] at HX3a HB3a S5a HV5a HNM0 ⊢
       rw [← hW5] at HX3a HB3a S5a HV5a ⊢
       have HX3 : Hid (Has W5 wr.heap.size 46 #[.string nm, .int .i64 (1 + q), .bool xc]) := HX3a
       have HB3 := HB3a
       have S5 := S5a
       have HV5 := HV5a
       have HNM := HNM0
       clear HX3a HB3a S5a HV5a HNM0 hW5 hnmk
       have HGG : Hid (gTo L (k + 1) = if findI M nm < 0 then M ++ [⟨nm, 1 + q, xc⟩] else M) := by show _ = _; rw [HG.out]; simp only [gStep, HNM.out, HQ.out]
       refine (refFind_any Ao M no co 0 nm W5 HNO.out (by omega) HV5.out).mono ?_
       rintro e w5 ⟨rfl, hb5⟩
       have S6 := Lib.hid (S5.out.below hb5.out)
       have HX6 := Lib.hid (HX3.out.below hb5.out HX3.out.lt)
       clear hb5 HG
       by_cases hfi : findI M nm < 0
       ·have HG2 : Hid (gTo L (k + 1) = M ++ [⟨nm, 1 + q, xc⟩]) := by show _ = _; rw [HGG.out, if_pos hfi]
        have o0 : w5.cell? ⟨w.heap.size + 2, 0, none⟩ = some (.slice Ao no co) := S6.out.out.cell 0
        have x0 : w5.cell? ⟨wr.heap.size, 0, none⟩ = some (.string nm) := HX6.out.cell 0
        have x1 : w5.cell? ⟨wr.heap.size, 1, none⟩ = some (.int .i64 (1 + q)) := HX6.out.cell 1
        have x2 : w5.cell? ⟨wr.heap.size, 2, none⟩ = some (.bool xc) := HX6.out.cell 2
        generalize findI M nm = fi at *
        have HAP := Lib.hid (appC w5 w5.heap.size rfl (w.heap.size + 4) (.slice Ao no co) M ⟨nm, 1 + q, xc⟩ S6.out.own S6.out.big (by have := HNO.out; omega))
        go_wp2_with (at_builtin; refine wpList_app rfl _ _ 37 37 rfl (.slice Ao no co) (.slice (some ⟨w5.heap.size, 0, none⟩) 1 1) rfl rfl ?_; obtain ⟨R, W', hrun, hmade⟩ := HAP.out; refine ⟨R, W', hrun, ?_⟩; obtain ⟨A7, n7, c7, hR, _, _, _, _, _⟩ := ownC_open hmade.1; subst hR; have HM := Lib.hid hmade; have hO7 := S6.out.out.below hmade.2 (by omega); have f0 : W'.frozen? ⟨w.heap.size + 2, 0, none⟩ = false := hO7.free 0; have f1 : W'.cell? ⟨w.heap.size + 2, 0, none⟩ = some (.slice Ao no co) := hO7.cell 0; clear hrun hmade HAP hO7)
        go_roundw
        case rel => exact ⟨k + 1, _, by omega, by omega, by go_num, by rw [HG2.out]; exact S6.out.stored HM.out.1 HM.out.2⟩
        case measure => simp [intOf]; omega
       ·have HG2 : Hid (gTo L (k + 1) = M) := by show _ = _; rw [HGG.out, if_neg hfi]
        generalize findI M nm = fi at *
        have hfz : 0 ≤ fi := by omega
        go_wp2_with fail
        go_roundw
        case rel => exact ⟨k + 1, _, by omega, by omega, by go_num, by rw [HG2.out]; exact S6⟩
        case measure => simp [intOf]; omega
    ·obtain ⟨q, hq, hq4, hq0, hq3⟩ : ∃ q : Int, xb.tmod 4 = q ∧ kind4 xb = q ∧ 0 ≤ q ∧ q ≤ 3 := ⟨_, kind4_pos hneg, rfl, (kind4_range xb).1, (kind4_range xb).2⟩
     have HQ := Lib.hid hq4
     clear hq4
     go_wp2_with fail
     refine (refName_any xa _).mono ?_
     rintro e w0 ⟨rfl, rfl⟩
     obtain ⟨W2, hW2⟩ : ∃ W2, W2 = wr.alloc (.cells #[.string xa, .int .i64 (1 + q), .bool xc] 46) := ⟨_, rfl⟩
     rw [← hW2]
     have HBW : Hid (Below wr.heap.size wr W2) := by
      show Below _ _ _
      rw [hW2]; exact (Below.refl _ wr).alloc (Nat.le_refl _) _
     have HX : Hid (Has W2 wr.heap.size 46 #[.string xa, .int .i64 (1 + q), .bool xc]) := by
      show Has _ _ _ _
      rw [hW2]; exact Has.new wr _ _
     have S2 := Lib.hid (HS.out.below HBW.out)
     have HV2 := Lib.hid (HVO.out.below HBW.out)
     have hz2 : wr.heap.size < W2.heap.size := HX.out.lt
     clear hW2 c0 c1 c2 a0 a1 hq
     have o0 : W2.cell? ⟨w.heap.size + 2, 0, none⟩ = some (.slice Ao no co) := S2.out.out.cell 0
     have o1 : W2.cell? ⟨w.heap.size + 2, 1, none⟩ = some (.int .i64 0) := S2.out.out.cell 1
     have x0 : W2.cell? ⟨wr.heap.size, 0, none⟩ = some (.string xa) := HX.out.cell 0
     have x1 : W2.cell? ⟨wr.heap.size, 1, none⟩ = some (.int .i64 (1 + q)) := HX.out.cell 1
     have x2 : W2.cell? ⟨wr.heap.size, 2, none⟩ = some (.bool xc) := HX.out.cell 2
     have y0 : W2.frozen? ⟨wr.heap.size, 0, none⟩ = false := HX.out.free 0
     have p0 : W2.cell? ⟨w.heap.size + 3, k, none⟩ = some (.string (pool k)) := (S2.out.pol.cell k).trans (pool_cell k hl6)
     have hkz : (k : Int) < 6 := by omega
     cases hnm : nameF xa
     ·have HNM0 : Hid (gName M ⟨xa, xb, xc⟩ k = pool k) := gName_pool (.inl hnm)
      have HX3a := Lib.hid (HX.out.put 0 (.string (pool k)))
      have HB3a := Lib.hid (HBW.out.setCell (p := ⟨wr.heap.size, 0, none⟩) (Nat.le_refl _) (.string (pool k)))
      have S5a := Lib.hid (HS.out.below HB3a.out)
      have HV5a := Lib.hid (HVO.out.below HB3a.out)
      have o0a : (W2.setCell ⟨wr.heap.size, 0, none⟩ (.string (pool k))).cell? ⟨w.heap.size + 1 + 1, 0, none⟩ = some (.slice Ao no co) := S5a.out.out.cell 0
      have o1a : (W2.setCell ⟨wr.heap.size, 0, none⟩ (.string (pool k))).cell? ⟨w.heap.size + 1 + 1, 1, none⟩ = some (.int .i64 0) := S5a.out.out.cell 1
      go_wp2_with fail
      clear o0a o1a x0 x1 x2 y0 p0 o0 o1
      obtain ⟨nm, hnmk⟩ : ∃ nm, pool k = nm := ⟨_, rfl⟩
      obtain ⟨W5, hW5⟩ : ∃ W5, W5 = W2.setCell ⟨wr.heap.size, 0, none⟩ (.string nm) := ⟨_, rfl⟩
      rw [hnmk] at HX3a HB3a S5a HV5a HNM0 ⊢
      rw [← hW5] at HX3a HB3a S5a HV5a ⊢
      have HX3 : Hid (Has W5 wr.heap.size 46 #[.string nm, .int .i64 (1 + q), .bool xc]) := HX3a
      have HB3 := HB3a
      have S5 := S5a
      have HV5 := HV5a
      have HNM := HNM0
      clear HX3a HB3a S5a HV5a HNM0 hW5 hnmk
      have HGG : Hid (gTo L (k + 1) = if findI M nm < 0 then M ++ [⟨nm, 1 + q, xc⟩] else M) := by show _ = _; rw [HG.out]; simp only [gStep, HNM.out, HQ.out]
      refine (refFind_any Ao M no co 0 nm W5 HNO.out (by omega) HV5.out).mono ?_
      rintro e w5 ⟨rfl, hb5⟩
      have S6 := Lib.hid (S5.out.below hb5.out)
      have HX6 := Lib.hid (HX3.out.below hb5.out HX3.out.lt)
      clear hb5 HG
      by_cases hfi : findI M nm < 0
      ·have HG2 : Hid (gTo L (k + 1) = M ++ [⟨nm, 1 + q, xc⟩]) := by show _ = _; rw [HGG.out, if_pos hfi]
       have o0 : w5.cell? ⟨w.heap.size + 2, 0, none⟩ = some (.slice Ao no co) := S6.out.out.cell 0
       have x0 : w5.cell? ⟨wr.heap.size, 0, none⟩ = some (.string nm) := HX6.out.cell 0
       have x1 : w5.cell? ⟨wr.heap.size, 1, none⟩ = some (.int .i64 (1 + q)) := HX6.out.cell 1
       have x2 : w5.cell? ⟨wr.heap.size, 2, none⟩ = some (.bool xc) := HX6.out.cell 2
       generalize findI M nm = fi at *
       have HAP := Lib.hid (appC w5 w5.heap.size rfl (w.heap.size + 4) (.slice Ao no co) M ⟨nm, 1 + q, xc⟩ S6.out.own S6.out.big (by have := HNO.out; omega))
       go_wp2_with (at_builtin; refine wpList_app rfl _ _ 37 37 rfl (.slice Ao no co) (.slice (some ⟨w5.heap.size, 0, none⟩) 1 1) rfl rfl ?_; obtain ⟨R, W', hrun, hmade⟩ := HAP.out; refine ⟨R, W', hrun, ?_⟩; obtain ⟨A7, n7, c7, hR, _, _, _, _, _⟩ := ownC_open hmade.1; subst hR; have HM := Lib.hid hmade; have hO7 := S6.out.out.below hmade.2 (by omega); have f0 : W'.frozen? ⟨w.heap.size + 2, 0, none⟩ = false := hO7.free 0; have f1 : W'.cell? ⟨w.heap.size + 2, 0, none⟩ = some (.slice Ao no co) := hO7.cell 0; clear hrun hmade HAP hO7)
       go_roundw
       case rel => exact ⟨k + 1, _, by omega, by omega, by go_num, by rw [HG2.out]; exact S6.out.stored HM.out.1 HM.out.2⟩
       case measure => simp [intOf]; omega
      ·have HG2 : Hid (gTo L (k + 1) = M) := by show _ = _; rw [HGG.out, if_neg hfi]
       generalize findI M nm = fi at *
       have hfz : 0 ≤ fi := by omega
       go_wp2_with fail
       go_roundw
       case rel => exact ⟨k + 1, _, by omega, by omega, by go_num, by rw [HG2.out]; exact S6⟩
       case measure => simp [intOf]; omega
     ·go_wp2_with fail
      refine (refFind_any Ao M no co 0 xa W2 HNO.out (by omega) HV2.out).mono ?_
      rintro e w3 ⟨rfl, hb3⟩
      have S3 := Lib.hid (S2.out.below hb3.out)
      have HXB := Lib.hid (HX.out.below hb3.out HX.out.lt)
      have HB2 := Lib.hid (HBW.out.trans (hb3.out.mono HBW.out.size))
      clear hb3 S2 HX HBW HV2 o0 o1 x0 x1 x2 y0 p0 hz2
      have o0 : w3.cell? ⟨w.heap.size + 2, 0, none⟩ = some (.slice Ao no co) := S3.out.out.cell 0
      have o1 : w3.cell? ⟨w.heap.size + 2, 1, none⟩ = some (.int .i64 0) := S3.out.out.cell 1
      have x0 : w3.cell? ⟨wr.heap.size, 0, none⟩ = some (.string xa) := HXB.out.cell 0
      have x1 : w3.cell? ⟨wr.heap.size, 1, none⟩ = some (.int .i64 (1 + q)) := HXB.out.cell 1
      have x2 : w3.cell? ⟨wr.heap.size, 2, none⟩ = some (.bool xc) := HXB.out.cell 2
      have y0 : w3.frozen? ⟨wr.heap.size, 0, none⟩ = false := HXB.out.free 0
      have p0 : w3.cell? ⟨w.heap.size + 3, k, none⟩ = some (.string (pool k)) := (S3.out.pol.cell k).trans (pool_cell k hl6)
      by_cases hfa : findI M xa < 0
      ·have HNM : Hid (gName M ⟨xa, xb, xc⟩ k = xa) := gName_own hnm hfa
       have HX3 := HXB
       have HB3 := HB2
       have S5 := S3
       have HV5 := Lib.hid (HVO.out.below HB3.out)
       obtain ⟨W5, hW5⟩ : ∃ W5, W5 = w3 := ⟨_, rfl⟩
       subst hW5
       clear S3 HXB HB2
       generalize hfq : findI M xa = fa at *
       have HFQ := Lib.hid hfq
       clear hfq
       go_wp2_with fail
       clear o0 o1 x0 x1 x2 y0 p0
       have HGG : Hid (gTo L (k + 1) = if findI M xa < 0 then M ++ [⟨xa, 1 + q, xc⟩] else M) := by show _ = _; rw [HG.out]; simp only [gStep, HNM.out, HQ.out]
       refine (refFind_any Ao M no co 0 xa W5 HNO.out (by omega) HV5.out).mono ?_
       rintro e w5 ⟨rfl, hb5⟩
       have S6 := Lib.hid (S5.out.below hb5.out)
       have HX6 := Lib.hid (HX3.out.below hb5.out HX3.out.lt)
       clear hb5 HG
       by_cases hfi : findI M xa < 0
       ·have HG2 : Hid (gTo L (k + 1) = M ++ [⟨xa, 1 + q, xc⟩]) := by show _ = _; rw [HGG.out, if_pos hfi]
        have o0 : w5.cell? ⟨w.heap.size + 2, 0, none⟩ = some (.slice Ao no co) := S6.out.out.cell 0
        have x0 : w5.cell? ⟨wr.heap.size, 0, none⟩ = some (.string xa) := HX6.out.cell 0
        have x1 : w5.cell? ⟨wr.heap.size, 1, none⟩ = some (.int .i64 (1 + q)) := HX6.out.cell 1
        have x2 : w5.cell? ⟨wr.heap.size, 2, none⟩ = some (.bool xc) := HX6.out.cell 2
        generalize findI M xa = fi at *
        have HAP := Lib.hid (appC w5 w5.heap.size rfl (w.heap.size + 4) (.slice Ao no co) M ⟨xa, 1 + q, xc⟩ S6.out.own S6.out.big (by have := HNO.out; omega))
        go_wp2_with (at_builtin; refine wpList_app rfl _ _ 37 37 rfl (.slice Ao no co) (.slice (some ⟨w5.heap.size, 0, none⟩) 1 1) rfl rfl ?_; obtain ⟨R, W', hrun, hmade⟩ := HAP.out; refine ⟨R, W', hrun, ?_⟩; obtain ⟨A7, n7, c7, hR, _, _, _, _, _⟩ := ownC_open hmade.1; subst hR; have HM := Lib.hid hmade; have hO7 := S6.out.out.below hmade.2 (by omega); have f0 : W'.frozen? ⟨w.heap.size + 2, 0, none⟩ = false := hO7.free 0; have f1 : W'.cell? ⟨w.heap.size + 2, 0, none⟩ = some (.slice Ao no co) := hO7.cell 0; clear hrun hmade HAP hO7)
        go_roundw
        case rel => exact ⟨k + 1, _, by omega, by omega, by go_num, by rw [HG2.out]; exact S6.out.stored HM.out.1 HM.out.2⟩
        case measure => simp [intOf]; omega
       ·have HG2 : Hid (gTo L (k + 1) = M) := by show _ = _; rw [HGG.out, if_neg hfi]
        generalize findI M xa = fi at *
        have hfz : 0 ≤ fi := by omega
        go_wp2_with fail
        go_roundw
        case rel => exact ⟨k + 1, _, by omega, by omega, by go_num, by rw [HG2.out]; exact S6⟩
        case measure => simp [intOf]; omega
      ·have HNM0 : Hid (gName M ⟨xa, xb, xc⟩ k = pool k) := gName_pool (.inr hfa)
       generalize findI M xa = fa at *
       have hfz : 0 ≤ fa := by omega
       have HX3a := Lib.hid (HXB.out.put 0 (.string (pool k)))
       have HB3a := Lib.hid (HB2.out.setCell (p := ⟨wr.heap.size, 0, none⟩) (Nat.le_refl _) (.string (pool k)))
       have S5a := Lib.hid (HS.out.below HB3a.out)
       have HV5a := Lib.hid (HVO.out.below HB3a.out)
       have o0a : (w3.setCell ⟨wr.heap.size, 0, none⟩ (.string (pool k))).cell? ⟨w.heap.size + 1 + 1, 0, none⟩ = some (.slice Ao no co) := S5a.out.out.cell 0
       have o1a : (w3.setCell ⟨wr.heap.size, 0, none⟩ (.string (pool k))).cell? ⟨w.heap.size + 1 + 1, 1, none⟩ = some (.int .i64 0) := S5a.out.out.cell 1
       go_wp2_with fail
       clear o0a o1a x0 x1 x2 y0 p0 o0 o1
       obtain ⟨nm, hnmk⟩ : ∃ nm, pool k = nm := ⟨_, rfl⟩
       obtain ⟨W5, hW5⟩ : ∃ W5, W5 = w3.setCell ⟨wr.heap.size, 0, none⟩ (.string nm) := ⟨_, rfl⟩
       rw [hnmk] at HX3a HB3a S5a HV5a HNM0 ⊢
       rw [← hW5] at HX3a HB3a S5a HV5a ⊢
       have HX3 : Hid (Has W5 wr.heap.size 46 #[.string nm, .int .i64 (1 + q), .bool xc]) := HX3a
       have HB3 := HB3a
       have S5 := S5a
       have HV5 := HV5a
       have HNM := HNM0
       clear HX3a HB3a S5a HV5a HNM0 hW5 hnmk
       have HGG : Hid (gTo L (k + 1) = if findI M nm < 0 then M ++ [⟨nm, 1 + q, xc⟩] else M) := by show _ = _; rw [HG.out]; simp only [gStep, HNM.out, HQ.out]
       refine (refFind_any Ao M no co 0 nm W5 HNO.out (by omega) HV5.out).mono ?_
       rintro e w5 ⟨rfl, hb5⟩
       have S6 := Lib.hid (S5.out.below hb5.out)
       have HX6 := Lib.hid (HX3.out.below hb5.out HX3.out.lt)
       clear hb5 HG
       by_cases hfi : findI M nm < 0
       ·have HG2 : Hid (gTo L (k + 1) = M ++ [⟨nm, 1 + q, xc⟩]) := by show _ = _; rw [HGG.out, if_pos hfi]
        have o0 : w5.cell? ⟨w.heap.size + 2, 0, none⟩ = some (.slice Ao no co) := S6.out.out.cell 0
        have x0 : w5.cell? ⟨wr.heap.size, 0, none⟩ = some (.string nm) := HX6.out.cell 0
        have x1 : w5.cell? ⟨wr.heap.size, 1, none⟩ = some (.int .i64 (1 + q)) := HX6.out.cell 1
        have x2 : w5.cell? ⟨wr.heap.size, 2, none⟩ = some (.bool xc) := HX6.out.cell 2
        generalize findI M nm = fi at *
        have HAP := Lib.hid (appC w5 w5.heap.size rfl (w.heap.size + 4) (.slice Ao no co) M ⟨nm, 1 + q, xc⟩ S6.out.own S6.out.big (by have := HNO.out; omega))
        go_wp2_with (at_builtin; refine wpList_app rfl _ _ 37 37 rfl (.slice Ao no co) (.slice (some ⟨w5.heap.size, 0, none⟩) 1 1) rfl rfl ?_; obtain ⟨R, W', hrun, hmade⟩ := HAP.out; refine ⟨R, W', hrun, ?_⟩; obtain ⟨A7, n7, c7, hR, _, _, _, _, _⟩ := ownC_open hmade.1; subst hR; have HM := Lib.hid hmade; have hO7 := S6.out.out.below hmade.2 (by omega); have f0 : W'.frozen? ⟨w.heap.size + 2, 0, none⟩ = false := hO7.free 0; have f1 : W'.cell? ⟨w.heap.size + 2, 0, none⟩ = some (.slice Ao no co) := hO7.cell 0; clear hrun hmade HAP hO7)
        go_roundw
        case rel => exact ⟨k + 1, _, by omega, by omega, by go_num, by rw [HG2.out]; exact S6.out.stored HM.out.1 HM.out.2⟩
        case measure => simp [intOf]; omega
       ·have HG2 : Hid (gTo L (k + 1) = M) := by show _ = _; rw [HGG.out, if_neg hfi]
        generalize findI M nm = fi at *
        have hfz : 0 ≤ fi := by omega
        go_wp2_with fail
        go_roundw
        case rel => exact ⟨k + 1, _, by omega, by omega, by go_num, by rw [HG2.out]; exact S6⟩
        case measure => simp [intOf]; omega
   ·obtain rfl : k = 6 := by omega
    have HT : Hid (gTo L 6 = gTo L (min L.length 6)) := by show _ = _; rw [HN.out, Nat.min_eq_right (by omega)]
    rw [HT.out] at HS HNO HVO
    have HGC : Hid (gCols L = if (gTo L (min L.length 6)).length = 0 then gOne else gTo L (min L.length 6)) := rfl
    have HKK : Hid (gdK L K = gKeys (gCols L).length K) := rfl
    have HKC : Hid (gdC L K = clr (gCols L) (gKeys (gCols L).length K)) := rfl
    have HGR := Lib.hid (gCols_cols L).2
    clear HT
    obtain ⟨M0, hM0⟩ : ∃ M0, gTo L (min L.length 6) = M0 := ⟨_, rfl⟩
    rw [hM0] at HS HNO HVO HGC
    rw [HNO.out] at HGC
    clear hM0
    have o0 : wr.cell? ⟨w.heap.size + 2, 0, none⟩ = some (.slice Ao no co) := HS.out.out.cell 0
    have o1 : wr.cell? ⟨w.heap.size + 2, 1, none⟩ = some (.int .i64 0) := HS.out.out.cell 1
    have f1 : wr.frozen? ⟨w.heap.size + 2, 1, none⟩ = false := HS.out.out.free 1
    by_cases hK : K < 0
    ·by_cases hz : no = 0
     ·subst hz
      have hM0 : M0 = [] := List.eq_nil_of_length_eq_zero HNO.out
      subst hM0
      have HGO : Hid (gCols L = gOne) := by show _ = _; rw [HGC.out, if_pos rfl]
      have hmin1 : ∀ ts t W, Sem.run Tryz.prog (Builtin.min_ ts t #[.int .i64 1, .int .i64 3]) W = .ok (.int .i64 1) W := fun ts t W => by rw [run_min_int2]; simp
      have HAP := Lib.hid (appC wr wr.heap.size rfl (w.heap.size + 4) (.slice Ao 0 co) [] ⟨⟨#[105, 100]⟩, 2, false⟩ HS.out.own HS.out.big (by simp))
      go_wp2_with (at_builtin; refine wpList_app rfl _ _ 37 37 rfl (.slice Ao 0 co) (.slice (some ⟨wr.heap.size, 0, none⟩) 1 1) rfl rfl ?_; obtain ⟨R, W', hrun, hmade⟩ := HAP.out; refine ⟨R, W', hrun, ?_⟩; obtain ⟨Ag, m0, cg, hR, HN7, _, _, _, _⟩ := ownC_open hmade.1; have hm1 : 1 = m0 := HN7.out; subst hm1; subst hR; have HM := Lib.hid hmade; have hO7 := HS.out.out.below hmade.2 (by omega); have g0 : W'.frozen? ⟨w.heap.size + 2, 0, none⟩ = false := hO7.free 0; have g1 : W'.frozen? ⟨w.heap.size + 2, 1, none⟩ = false := hO7.free 1; have g2 : W'.cell? ⟨w.heap.size + 2, 0, none⟩ = some (.slice Ao 0 co) := hO7.cell 0; have g3 : W'.cell? ⟨w.heap.size + 2, 1, none⟩ = some (.int .i64 0) := hO7.cell 1; have g4 : W'.cell? ⟨w.heap.size, 1, none⟩ = some (.int .i64 K) := (HS.out.prm.below hmade.2 (by omega)).cell 1; clear hrun hmade HAP hO7 HN7)
      have HGL : Hid ((gCols L).length = 1) := by show _ = _; rw [HGO.out]; rfl
      have hgk : ((gKeys 1 K : Nat) : Int) = 1 := by
       have := gKeys_range 1 K (by omega)
       omega
      have S8 := Lib.hid ((HS.out.stored HM.out.1 HM.out.2).keyed 1)
      have hgm := (gKeys_range 1 K (by omega)).2.1
      have e0 : [] ++ [(⟨⟨#[105, 100]⟩, 2, false⟩ : Cl)] = gCols L := by rw [HGO.out]; rfl
      rw [e0] at S8
      clear e0 HM HS HNO HVO HGO HGC hmin1
      generalize gCols L = G at *
      rw [HGL.out] at HKK HKC
      generalize gKeys 1 K = gk at *
      go_loopw [10] (fun i wr2 => ∃ j : Nat, j ≤ gk ∧ i = .int .i64 j ∧ Hid (GSt w A n c K wr2 (.slice Ag 1 cg) (1) (clr G j))) (fun i _ => gk - (intOf i).toNat)
      case atStart => exact ⟨0, by omega, rfl, by rw [clr_zero]; exact S8.out⟩
      case round =>
       obtain ⟨j, hj, rfl, HS2⟩ := hrel
       clear S8
       have b0 : wr.cell? ⟨w.heap.size + 2, 0, none⟩ = some (.slice Ag 1 cg) := HS2.out.out.cell 0
       have b1 : wr.cell? ⟨w.heap.size + 2, 1, none⟩ = some (.int .i64 (1)) := HS2.out.out.cell 1
       by_cases hlt2 : j < gk
       ·have hjr : (j : Int) < 1 := by omega
        have hjm : (j : Int) < (1 : Int) := by omega
        have hjc : j < (clr G j).length := by rw [clr_len, HGL.out]; omega
        have hjG : j < G.length := by rw [HGL.out]; omega
        obtain ⟨g, c9, hv9, hg9, _, e9, d9, own9⟩ := ownC_put HS2.out.own j hjc 2 (by omega) (.bool false) ⟨(clr G j)[j].nm, (clr G j)[j].k, false⟩ rfl
        injection hv9 with hv9 hx1 hx2
        clear hx1 hx2
        subst hv9
        have HO9 := Lib.hid own9
        rw [clr_step G j hjG] at HO9
        have d9' : wr.cell? ⟨g, j * 3 + 2, none⟩ = some (.bool (clr G j)[j].no) := d9
        have HG9 := Lib.hid hg9
        clear own9 d9 hg9
        generalize (clr G j)[j].no = cj at *
        clear hjc
        go_wp2_with fail
        go_roundw
        case rel => exact ⟨j + 1, by omega, by go_num, HS2.out.cleared HG9.out (j * 3 + 2) (.bool false) HO9.out⟩
        case measure => simp [intOf]; omega
       ·obtain rfl : j = gk := by omega
        have hjr : ¬ (j : Int) < 1 := by omega
        have r0 : wr.cell? ⟨w.heap.size + 1, 0, none⟩ = some (.slice none 0 0) := HS2.out.res.cell 0
        have r1 : wr.cell? ⟨w.heap.size + 1, 1, none⟩ = some (.int .i64 0) := HS2.out.res.cell 1
        have t0 : wr.frozen? ⟨w.heap.size + 1, 0, none⟩ = false := HS2.out.res.free 0
        have t1 : wr.frozen? ⟨w.heap.size + 1, 1, none⟩ = false := HS2.out.res.free 1
        have HP := Lib.hid ((HS2.out.res.put 0 (.slice Ag 1 cg)).put 1 (.int .i64 (1)))
        have HO9 := Lib.hid ((HS2.out.own.far (p := ⟨w.heap.size + 1, 0, none⟩) (by show w.heap.size + 1 < w.heap.size + 4; omega) (.slice Ag 1 cg)).far (p := ⟨w.heap.size + 1, 1, none⟩) (by show w.heap.size + 1 < w.heap.size + 4; omega) (.int .i64 (1)))
        have HB9 := Lib.hid ((HS2.out.bel.setCell (p := ⟨w.heap.size + 1, 0, none⟩) (by show w.heap.size ≤ w.heap.size + 1; omega) (.slice Ag 1 cg)).setCell (p := ⟨w.heap.size + 1, 1, none⟩) (by show w.heap.size ≤ w.heap.size + 1; omega) (.int .i64 (1)))
        clear HS2
        go_wp2_with fail
        exact bodyPost_ret (gEnd _ (w.heap.size + 1) _ _ _ rfl HP.out) rfl ⟨_, by rw [HKK.out, hgk], by rw [HKC.out]; exact ownC_down HO9.out (Nat.le_add_right _ 4), HB9.out⟩
     ·have HGO : Hid (gCols L = M0) := by show _ = _; rw [HGC.out, if_neg hz]
      rw [← HGO.out] at HS HNO HVO
      have hm1 : 1 ≤ no := by omega
      obtain ⟨m0, hm0⟩ : ∃ m0, m0 = no := ⟨_, rfl⟩
      subst hm0
      obtain ⟨q, r, hq1, hq3, hq0, hmin, hr, hgk, hr0, hr3⟩ := keysN m0 K hm1 hK
      have hnz : ((m0 : Int) == 0) = false := by simp; omega
      have HGL : Hid ((gCols L).length = m0) := HNO
      have S8 := Lib.hid (HS.out.keyed (1 + r))
      have hgm := (gKeys_range m0 K hm1).2.1
      obtain ⟨Ag, hAg⟩ : ∃ Ag, Ag = Ao := ⟨_, rfl⟩
      obtain ⟨cg, hcg⟩ : ∃ cg, cg = co := ⟨_, rfl⟩
      subst hAg hcg
      go_wp2_with fail
      clear HS HNO HVO HGO HGC hmin
      generalize gCols L = G at *
      rw [HGL.out] at HKK HKC
      generalize gKeys m0 K = gk at *
      go_loopw [10] (fun i wr2 => ∃ j : Nat, j ≤ gk ∧ i = .int .i64 j ∧ Hid (GSt w A n c K wr2 (.slice Ag m0 cg) (1 + r) (clr G j))) (fun i _ => gk - (intOf i).toNat)
      case atStart => exact ⟨0, by omega, rfl, by rw [clr_zero]; exact S8.out⟩
      case round =>
       obtain ⟨j, hj, rfl, HS2⟩ := hrel
       clear S8
       have b0 : wr.cell? ⟨w.heap.size + 2, 0, none⟩ = some (.slice Ag m0 cg) := HS2.out.out.cell 0
       have b1 : wr.cell? ⟨w.heap.size + 2, 1, none⟩ = some (.int .i64 (1 + r)) := HS2.out.out.cell 1
       by_cases hlt2 : j < gk
       ·have hjr : (j : Int) < 1 + r := by omega
        have hjm : (j : Int) < (m0 : Int) := by omega
        have hjc : j < (clr G j).length := by rw [clr_len, HGL.out]; omega
        have hjG : j < G.length := by rw [HGL.out]; omega
        obtain ⟨g, c9, hv9, hg9, _, e9, d9, own9⟩ := ownC_put HS2.out.own j hjc 2 (by omega) (.bool false) ⟨(clr G j)[j].nm, (clr G j)[j].k, false⟩ rfl
        injection hv9 with hv9 hx1 hx2
        clear hx1 hx2
        subst hv9
        have HO9 := Lib.hid own9
        rw [clr_step G j hjG] at HO9
        have d9' : wr.cell? ⟨g, j * 3 + 2, none⟩ = some (.bool (clr G j)[j].no) := d9
        have HG9 := Lib.hid hg9
        clear own9 d9 hg9
        generalize (clr G j)[j].no = cj at *
        clear hjc
        go_wp2_with fail
        go_roundw
        case rel => exact ⟨j + 1, by omega, by go_num, HS2.out.cleared HG9.out (j * 3 + 2) (.bool false) HO9.out⟩
        case measure => simp [intOf]; omega
       ·obtain rfl : j = gk := by omega
        have hjr : ¬ (j : Int) < 1 + r := by omega
        have r0 : wr.cell? ⟨w.heap.size + 1, 0, none⟩ = some (.slice none 0 0) := HS2.out.res.cell 0
        have r1 : wr.cell? ⟨w.heap.size + 1, 1, none⟩ = some (.int .i64 0) := HS2.out.res.cell 1
        have t0 : wr.frozen? ⟨w.heap.size + 1, 0, none⟩ = false := HS2.out.res.free 0
        have t1 : wr.frozen? ⟨w.heap.size + 1, 1, none⟩ = false := HS2.out.res.free 1
        have HP := Lib.hid ((HS2.out.res.put 0 (.slice Ag m0 cg)).put 1 (.int .i64 (1 + r)))
        have HO9 := Lib.hid ((HS2.out.own.far (p := ⟨w.heap.size + 1, 0, none⟩) (by show w.heap.size + 1 < w.heap.size + 4; omega) (.slice Ag m0 cg)).far (p := ⟨w.heap.size + 1, 1, none⟩) (by show w.heap.size + 1 < w.heap.size + 4; omega) (.int .i64 (1 + r)))
        have HB9 := Lib.hid ((HS2.out.bel.setCell (p := ⟨w.heap.size + 1, 0, none⟩) (by show w.heap.size ≤ w.heap.size + 1; omega) (.slice Ag m0 cg)).setCell (p := ⟨w.heap.size + 1, 1, none⟩) (by show w.heap.size ≤ w.heap.size + 1; omega) (.int .i64 (1 + r)))
        clear HS2
        go_wp2_with fail
        exact bodyPost_ret (gEnd _ (w.heap.size + 1) _ _ _ rfl HP.out) rfl ⟨_, by rw [HKK.out, hgk], by rw [HKC.out]; exact ownC_down HO9.out (Nat.le_add_right _ 4), HB9.out⟩
    ·by_cases hz : no = 0
     ·subst hz
      have hM0 : M0 = [] := List.eq_nil_of_length_eq_zero HNO.out
      subst hM0
      have HGO : Hid (gCols L = gOne) := by show _ = _; rw [HGC.out, if_pos rfl]
      have hmin1 : ∀ ts t W, Sem.run Tryz.prog (Builtin.min_ ts t #[.int .i64 1, .int .i64 3]) W = .ok (.int .i64 1) W := fun ts t W => by rw [run_min_int2]; simp
      have HAP := Lib.hid (appC wr wr.heap.size rfl (w.heap.size + 4) (.slice Ao 0 co) [] ⟨⟨#[105, 100]⟩, 2, false⟩ HS.out.own HS.out.big (by simp))
      go_wp2_with (at_builtin; refine wpList_app rfl _ _ 37 37 rfl (.slice Ao 0 co) (.slice (some ⟨wr.heap.size, 0, none⟩) 1 1) rfl rfl ?_; obtain ⟨R, W', hrun, hmade⟩ := HAP.out; refine ⟨R, W', hrun, ?_⟩; obtain ⟨Ag, m0, cg, hR, HN7, _, _, _, _⟩ := ownC_open hmade.1; have hm1 : 1 = m0 := HN7.out; subst hm1; subst hR; have HM := Lib.hid hmade; have hO7 := HS.out.out.below hmade.2 (by omega); have g0 : W'.frozen? ⟨w.heap.size + 2, 0, none⟩ = false := hO7.free 0; have g1 : W'.frozen? ⟨w.heap.size + 2, 1, none⟩ = false := hO7.free 1; have g2 : W'.cell? ⟨w.heap.size + 2, 0, none⟩ = some (.slice Ao 0 co) := hO7.cell 0; have g3 : W'.cell? ⟨w.heap.size + 2, 1, none⟩ = some (.int .i64 0) := hO7.cell 1; have g4 : W'.cell? ⟨w.heap.size, 1, none⟩ = some (.int .i64 K) := (HS.out.prm.below hmade.2 (by omega)).cell 1; clear hrun hmade HAP hO7 HN7)
      have HGL : Hid ((gCols L).length = 1) := by show _ = _; rw [HGO.out]; rfl
      have hgk : ((gKeys 1 K : Nat) : Int) = 1 := by
       have := gKeys_range 1 K (by omega)
       omega
      have S8 := Lib.hid ((HS.out.stored HM.out.1 HM.out.2).keyed 1)
      have hgm := (gKeys_range 1 K (by omega)).2.1
      have e0 : [] ++ [(⟨⟨#[105, 100]⟩, 2, false⟩ : Cl)] = gCols L := by rw [HGO.out]; rfl
      rw [e0] at S8
      clear e0 HM HS HNO HVO HGO HGC hmin1
      generalize gCols L = G at *
      rw [HGL.out] at HKK HKC
      generalize gKeys 1 K = gk at *
      go_loopw [10] (fun i wr2 => ∃ j : Nat, j ≤ gk ∧ i = .int .i64 j ∧ Hid (GSt w A n c K wr2 (.slice Ag 1 cg) (1) (clr G j))) (fun i _ => gk - (intOf i).toNat)
      case atStart => exact ⟨0, by omega, rfl, by rw [clr_zero]; exact S8.out⟩
      case round =>
       obtain ⟨j, hj, rfl, HS2⟩ := hrel
       clear S8
       have b0 : wr.cell? ⟨w.heap.size + 2, 0, none⟩ = some (.slice Ag 1 cg) := HS2.out.out.cell 0
       have b1 : wr.cell? ⟨w.heap.size + 2, 1, none⟩ = some (.int .i64 (1)) := HS2.out.out.cell 1
       by_cases hlt2 : j < gk
       ·have hjr : (j : Int) < 1 := by omega
        have hjm : (j : Int) < (1 : Int) := by omega
        have hjc : j < (clr G j).length := by rw [clr_len, HGL.out]; omega
        have hjG : j < G.length := by rw [HGL.out]; omega
        obtain ⟨g, c9, hv9, hg9, _, e9, d9, own9⟩ := ownC_put HS2.out.own j hjc 2 (by omega) (.bool false) ⟨(clr G j)[j].nm, (clr G j)[j].k, false⟩ rfl
        injection hv9 with hv9 hx1 hx2
        clear hx1 hx2
        subst hv9
        have HO9 := Lib.hid own9
        rw [clr_step G j hjG] at HO9
        have d9' : wr.cell? ⟨g, j * 3 + 2, none⟩ = some (.bool (clr G j)[j].no) := d9
        have HG9 := Lib.hid hg9
        clear own9 d9 hg9
        generalize (clr G j)[j].no = cj at *
        clear hjc
        go_wp2_with fail
        go_roundw
        case rel => exact ⟨j + 1, by omega, by go_num, HS2.out.cleared HG9.out (j * 3 + 2) (.bool false) HO9.out⟩
        case measure => simp [intOf]; omega
       ·obtain rfl : j = gk := by omega
        have hjr : ¬ (j : Int) < 1 := by omega
        have r0 : wr.cell? ⟨w.heap.size + 1, 0, none⟩ = some (.slice none 0 0) := HS2.out.res.cell 0
        have r1 : wr.cell? ⟨w.heap.size + 1, 1, none⟩ = some (.int .i64 0) := HS2.out.res.cell 1
        have t0 : wr.frozen? ⟨w.heap.size + 1, 0, none⟩ = false := HS2.out.res.free 0
        have t1 : wr.frozen? ⟨w.heap.size + 1, 1, none⟩ = false := HS2.out.res.free 1
        have HP := Lib.hid ((HS2.out.res.put 0 (.slice Ag 1 cg)).put 1 (.int .i64 (1)))
        have HO9 := Lib.hid ((HS2.out.own.far (p := ⟨w.heap.size + 1, 0, none⟩) (by show w.heap.size + 1 < w.heap.size + 4; omega) (.slice Ag 1 cg)).far (p := ⟨w.heap.size + 1, 1, none⟩) (by show w.heap.size + 1 < w.heap.size + 4; omega) (.int .i64 (1)))
        have HB9 := Lib.hid ((HS2.out.bel.setCell (p := ⟨w.heap.size + 1, 0, none⟩) (by show w.heap.size ≤ w.heap.size + 1; omega) (.slice Ag 1 cg)).setCell (p := ⟨w.heap.size + 1, 1, none⟩) (by show w.heap.size ≤ w.heap.size + 1; omega) (.int .i64 (1)))
        clear HS2
        go_wp2_with fail
        exact bodyPost_ret (gEnd _ (w.heap.size + 1) _ _ _ rfl HP.out) rfl ⟨_, by rw [HKK.out, hgk], by rw [HKC.out]; exact ownC_down HO9.out (Nat.le_add_right _ 4), HB9.out⟩
     ·have HGO : Hid (gCols L = M0) := by show _ = _; rw [HGC.out, if_neg hz]
      rw [← HGO.out] at HS HNO HVO
      have hm1 : 1 ≤ no := by omega
      obtain ⟨m0, hm0⟩ : ∃ m0, m0 = no := ⟨_, rfl⟩
      subst hm0
      obtain ⟨q, r, hq1, hq3, hq0, hmin, hr, hgk, hr0, hr3⟩ := keysP m0 K hm1 hK
      have hnz : ((m0 : Int) == 0) = false := by simp; omega
      have HGL : Hid ((gCols L).length = m0) := HNO
      have S8 := Lib.hid (HS.out.keyed (1 + r))
      have hgm := (gKeys_range m0 K hm1).2.1
      obtain ⟨Ag, hAg⟩ : ∃ Ag, Ag = Ao := ⟨_, rfl⟩
      obtain ⟨cg, hcg⟩ : ∃ cg, cg = co := ⟨_, rfl⟩
      subst hAg hcg
      go_wp2_with fail
      clear HS HNO HVO HGO HGC hmin
      generalize gCols L = G at *
      rw [HGL.out] at HKK HKC
      generalize gKeys m0 K = gk at *
      go_loopw [10] (fun i wr2 => ∃ j : Nat, j ≤ gk ∧ i = .int .i64 j ∧ Hid (GSt w A n c K wr2 (.slice Ag m0 cg) (1 + r) (clr G j))) (fun i _ => gk - (intOf i).toNat)
      case atStart => exact ⟨0, by omega, rfl, by rw [clr_zero]; exact S8.out⟩
      case round =>
       obtain ⟨j, hj, rfl, HS2⟩ := hrel
       clear S8
       have b0 : wr.cell? ⟨w.heap.size + 2, 0, none⟩ = some (.slice Ag m0 cg) := HS2.out.out.cell 0
       have b1 : wr.cell? ⟨w.heap.size + 2, 1, none⟩ = some (.int .i64 (1 + r)) := HS2.out.out.cell 1
       by_cases hlt2 : j < gk
       ·have hjr : (j : Int) < 1 + r := by omega
        have hjm : (j : Int) < (m0 : Int) := by omega
        have hjc : j < (clr G j).length := by rw [clr_len, HGL.out]; omega
        have hjG : j < G.length := by rw [HGL.out]; omega
        obtain ⟨g, c9, hv9, hg9, _, e9, d9, own9⟩ := ownC_put HS2.out.own j hjc 2 (by omega) (.bool false) ⟨(clr G j)[j].nm, (clr G j)[j].k, false⟩ rfl
        injection hv9 with hv9 hx1 hx2
        clear hx1 hx2
        subst hv9
        have HO9 := Lib.hid own9
        rw [clr_step G j hjG] at HO9
        have d9' : wr.cell? ⟨g, j * 3 + 2, none⟩ = some (.bool (clr G j)[j].no) := d9
        have HG9 := Lib.hid hg9
        clear own9 d9 hg9
        generalize (clr G j)[j].no = cj at *
        clear hjc
        go_wp2_with fail
        go_roundw
        case rel => exact ⟨j + 1, by omega, by go_num, HS2.out.cleared HG9.out (j * 3 + 2) (.bool false) HO9.out⟩
        case measure => simp [intOf]; omega
       ·obtain rfl : j = gk := by omega
        have hjr : ¬ (j : Int) < 1 + r := by omega
        have r0 : wr.cell? ⟨w.heap.size + 1, 0, none⟩ = some (.slice none 0 0) := HS2.out.res.cell 0
        have r1 : wr.cell? ⟨w.heap.size + 1, 1, none⟩ = some (.int .i64 0) := HS2.out.res.cell 1
        have t0 : wr.frozen? ⟨w.heap.size + 1, 0, none⟩ = false := HS2.out.res.free 0
        have t1 : wr.frozen? ⟨w.heap.size + 1, 1, none⟩ = false := HS2.out.res.free 1
        have HP := Lib.hid ((HS2.out.res.put 0 (.slice Ag m0 cg)).put 1 (.int .i64 (1 + r)))
        have HO9 := Lib.hid ((HS2.out.own.far (p := ⟨w.heap.size + 1, 0, none⟩) (by show w.heap.size + 1 < w.heap.size + 4; omega) (.slice Ag m0 cg)).far (p := ⟨w.heap.size + 1, 1, none⟩) (by show w.heap.size + 1 < w.heap.size + 4; omega) (.int .i64 (1 + r)))
        have HB9 := Lib.hid ((HS2.out.bel.setCell (p := ⟨w.heap.size + 1, 0, none⟩) (by show w.heap.size ≤ w.heap.size + 1; omega) (.slice Ag m0 cg)).setCell (p := ⟨w.heap.size + 1, 1, none⟩) (by show w.heap.size ≤ w.heap.size + 1; omega) (.int .i64 (1 + r)))
        clear HS2
        go_wp2_with fail
        exact bodyPost_ret (gEnd _ (w.heap.size + 1) _ _ _ rfl HP.out) rfl ⟨_, by rw [HKK.out, hgk], by rw [HKC.out]; exact ownC_down HO9.out (Nat.le_add_right _ 4), HB9.out⟩
  ·obtain rfl : k = n := by omega
   have HT : Hid (gTo L k = gTo L (min L.length 6)) := by show _ = _; rw [HN.out, Nat.min_eq_left (by omega)]
   rw [HT.out] at HS HNO HVO
   have HGC : Hid (gCols L = if (gTo L (min L.length 6)).length = 0 then gOne else gTo L (min L.length 6)) := rfl
   have HKK : Hid (gdK L K = gKeys (gCols L).length K) := rfl
   have HKC : Hid (gdC L K = clr (gCols L) (gKeys (gCols L).length K)) := rfl
   have HGR := Lib.hid (gCols_cols L).2
   clear HT
   obtain ⟨M0, hM0⟩ : ∃ M0, gTo L (min L.length 6) = M0 := ⟨_, rfl⟩
   rw [hM0] at HS HNO HVO HGC
   rw [HNO.out] at HGC
   clear hM0
   have o0 : wr.cell? ⟨w.heap.size + 2, 0, none⟩ = some (.slice Ao no co) := HS.out.out.cell 0
   have o1 : wr.cell? ⟨w.heap.size + 2, 1, none⟩ = some (.int .i64 0) := HS.out.out.cell 1
   have f1 : wr.frozen? ⟨w.heap.size + 2, 1, none⟩ = false := HS.out.out.free 1
   by_cases hK : K < 0
   ·by_cases hz : no = 0
    ·subst hz
     have hM0 : M0 = [] := List.eq_nil_of_length_eq_zero HNO.out
     subst hM0
     have HGO : Hid (gCols L = gOne) := by show _ = _; rw [HGC.out, if_pos rfl]
     have hmin1 : ∀ ts t W, Sem.run Tryz.prog (Builtin.min_ ts t #[.int .i64 1, .int .i64 3]) W = .ok (.int .i64 1) W := fun ts t W => by rw [run_min_int2]; simp
     have HAP := Lib.hid (appC wr wr.heap.size rfl (w.heap.size + 4) (.slice Ao 0 co) [] ⟨⟨#[105, 100]⟩, 2, false⟩ HS.out.own HS.out.big (by simp))
     go_wp2_with (at_builtin; refine wpList_app rfl _ _ 37 37 rfl (.slice Ao 0 co) (.slice (some ⟨wr.heap.size, 0, none⟩) 1 1) rfl rfl ?_; obtain ⟨R, W', hrun, hmade⟩ := HAP.out; refine ⟨R, W', hrun, ?_⟩; obtain ⟨Ag, m0, cg, hR, HN7, _, _, _, _⟩ := ownC_open hmade.1; have hm1 : 1 = m0 := HN7.out; subst hm1; subst hR; have HM := Lib.hid hmade; have hO7 := HS.out.out.below hmade.2 (by omega); have g0 : W'.frozen? ⟨w.heap.size + 2, 0, none⟩ = false := hO7.free 0; have g1 : W'.frozen? ⟨w.heap.size + 2, 1, none⟩ = false := hO7.free 1; have g2 : W'.cell? ⟨w.heap.size + 2, 0, none⟩ = some (.slice Ao 0 co) := hO7.cell 0; have g3 : W'.cell? ⟨w.heap.size + 2, 1, none⟩ = some (.int .i64 0) := hO7.cell 1; have g4 : W'.cell? ⟨w.heap.size, 1, none⟩ = some (.int .i64 K) := (HS.out.prm.below hmade.2 (by omega)).cell 1; clear hrun hmade HAP hO7 HN7)
     have HGL : Hid ((gCols L).length = 1) := by show _ = _; rw [HGO.out]; rfl
     have hgk : ((gKeys 1 K : Nat) : Int) = 1 := by
      have := gKeys_range 1 K (by omega)
      omega
     have S8 := Lib.hid ((HS.out.stored HM.out.1 HM.out.2).keyed 1)
     have hgm := (gKeys_range 1 K (by omega)).2.1
     have e0 : [] ++ [(⟨⟨#[105, 100]⟩, 2, false⟩ : Cl)] = gCols L := by rw [HGO.out]; rfl
     rw [e0] at S8
     clear e0 HM HS HNO HVO HGO HGC hmin1
     generalize gCols L = G at *
     rw [HGL.out] at HKK HKC
     generalize gKeys 1 K = gk at *
     go_loopw [10] (fun i wr2 => ∃ j : Nat, j ≤ gk ∧ i = .int .i64 j ∧ Hid (GSt w A k c K wr2 (.slice Ag 1 cg) (1) (clr G j))) (fun i _ => gk - (intOf i).toNat)
     case atStart => exact ⟨0, by omega, rfl, by rw [clr_zero]; exact S8.out⟩
     case round =>
      obtain ⟨j, hj, rfl, HS2⟩ := hrel
      clear S8
      have b0 : wr.cell? ⟨w.heap.size + 2, 0, none⟩ = some (.slice Ag 1 cg) := HS2.out.out.cell 0
      have b1 : wr.cell? ⟨w.heap.size + 2, 1, none⟩ = some (.int .i64 (1)) := HS2.out.out.cell 1
      by_cases hlt2 : j < gk
      ·have hjr : (j : Int) < 1 := by omega
       have hjm : (j : Int) < (1 : Int) := by omega
       have hjc : j < (clr G j).length := by rw [clr_len, HGL.out]; omega
       have hjG : j < G.length := by rw [HGL.out]; omega
       obtain ⟨g, c9, hv9, hg9, _, e9, d9, own9⟩ := ownC_put HS2.out.own j hjc 2 (by omega) (.bool false) ⟨(clr G j)[j].nm, (clr G j)[j].k, false⟩ rfl
       injection hv9 with hv9 hx1 hx2
       clear hx1 hx2
       subst hv9
       have HO9 := Lib.hid own9
       rw [clr_step G j hjG] at HO9
       have d9' : wr.cell? ⟨g, j * 3 + 2, none⟩ = some (.bool (clr G j)[j].no) := d9
       have HG9 := Lib.hid hg9
       clear own9 d9 hg9
       generalize (clr G j)[j].no = cj at *
       clear hjc
       go_wp2_with fail
       go_roundw
       case rel => exact ⟨j + 1, by omega, by go_num, HS2.out.cleared HG9.out (j * 3 + 2) (.bool false) HO9.out⟩
       case measure => simp [intOf]; omega
      ·obtain rfl : j = gk := by omega
       have hjr : ¬ (j : Int) < 1 := by omega
       have r0 : wr.cell? ⟨w.heap.size + 1, 0, none⟩ = some (.slice none 0 0) := HS2.out.res.cell 0
       have r1 : wr.cell? ⟨w.heap.size + 1, 1, none⟩ = some (.int .i64 0) := HS2.out.res.cell 1
       have t0 : wr.frozen? ⟨w.heap.size + 1, 0, none⟩ = false := HS2.out.res.free 0
       have t1 : wr.frozen? ⟨w.heap.size + 1, 1, none⟩ = false := HS2.out.res.free 1
       have HP := Lib.hid ((HS2.out.res.put 0 (.slice Ag 1 cg)).put 1 (.int .i64 (1)))
       have HO9 := Lib.hid ((HS2.out.own.far (p := ⟨w.heap.size + 1, 0, none⟩) (by show w.heap.size + 1 < w.heap.size + 4; omega) (.slice Ag 1 cg)).far (p := ⟨w.heap.size + 1, 1, none⟩) (by show w.heap.size + 1 < w.heap.size + 4; omega) (.int .i64 (1)))
       have HB9 := Lib.hid ((HS2.out.bel.setCell (p := ⟨w.heap.size + 1, 0, none⟩) (by show w.heap.size ≤ w.heap.size + 1; omega) (.slice Ag 1 cg)).setCell (p := ⟨w.heap.size + 1, 1, none⟩) (by show w.heap.size ≤ w.heap.size + 1; omega) (.int .i64 (1)))
       clear HS2
       go_wp2_with fail
       exact bodyPost_ret (gEnd _ (w.heap.size + 1) _ _ _ rfl HP.out) rfl ⟨_, by rw [HKK.out, hgk], by rw [HKC.out]; exact ownC_down HO9.out (Nat.le_add_right _ 4), HB9.out⟩
    ·have HGO : Hid (gCols L = M0) := by show _ = _; rw [HGC.out, if_neg hz]
     rw [← HGO.out] at HS HNO HVO
     have hm1 : 1 ≤ no := by omega
     obtain ⟨m0, hm0⟩ : ∃ m0, m0 = no := ⟨_, rfl⟩
     subst hm0
     obtain ⟨q, r, hq1, hq3, hq0, hmin, hr, hgk, hr0, hr3⟩ := keysN m0 K hm1 hK
     have hnz : ((m0 : Int) == 0) = false := by simp; omega
     have HGL : Hid ((gCols L).length = m0) := HNO
     have S8 := Lib.hid (HS.out.keyed (1 + r))
     have hgm := (gKeys_range m0 K hm1).2.1
     obtain ⟨Ag, hAg⟩ : ∃ Ag, Ag = Ao := ⟨_, rfl⟩
     obtain ⟨cg, hcg⟩ : ∃ cg, cg = co := ⟨_, rfl⟩
     subst hAg hcg
     go_wp2_with fail
     clear HS HNO HVO HGO HGC hmin
     generalize gCols L = G at *
     rw [HGL.out] at HKK HKC
     generalize gKeys m0 K = gk at *
     go_loopw [10] (fun i wr2 => ∃ j : Nat, j ≤ gk ∧ i = .int .i64 j ∧ Hid (GSt w A k c K wr2 (.slice Ag m0 cg) (1 + r) (clr G j))) (fun i _ => gk - (intOf i).toNat)
     case atStart => exact ⟨0, by omega, rfl, by rw [clr_zero]; exact S8.out⟩
     case round =>
      obtain ⟨j, hj, rfl, HS2⟩ := hrel
      clear S8
      have b0 : wr.cell? ⟨w.heap.size + 2, 0, none⟩ = some (.slice Ag m0 cg) := HS2.out.out.cell 0
      have b1 : wr.cell? ⟨w.heap.size + 2, 1, none⟩ = some (.int .i64 (1 + r)) := HS2.out.out.cell 1
      by_cases hlt2 : j < gk
      ·have hjr : (j : Int) < 1 + r := by omega
       have hjm : (j : Int) < (m0 : Int) := by omega
       have hjc : j < (clr G j).length := by rw [clr_len, HGL.out]; omega
       have hjG : j < G.length := by rw [HGL.out]; omega
       obtain ⟨g, c9, hv9, hg9, _, e9, d9, own9⟩ := ownC_put HS2.out.own j hjc 2 (by omega) (.bool false) ⟨(clr G j)[j].nm, (clr G j)[j].k, false⟩ rfl
       injection hv9 with hv9 hx1 hx2
       clear hx1 hx2
       subst hv9
       have HO9 := Lib.hid own9
       rw [clr_step G j hjG] at HO9
       have d9' : wr.cell? ⟨g, j * 3 + 2, none⟩ = some (.bool (clr G j)[j].no) := d9
       have HG9 := Lib.hid hg9
       clear own9 d9 hg9
       generalize (clr G j)[j].no = cj at *
       clear hjc
       go_wp2_with fail
       go_roundw
       case rel => exact ⟨j + 1, by omega, by go_num, HS2.out.cleared HG9.out (j * 3 + 2) (.bool false) HO9.out⟩
       case measure => simp [intOf]; omega
      ·obtain rfl : j = gk := by omega
       have hjr : ¬ (j : Int) < 1 + r := by omega
       have r0 : wr.cell? ⟨w.heap.size + 1, 0, none⟩ = some (.slice none 0 0) := HS2.out.res.cell 0
       have r1 : wr.cell? ⟨w.heap.size + 1, 1, none⟩ = some (.int .i64 0) := HS2.out.res.cell 1
       have t0 : wr.frozen? ⟨w.heap.size + 1, 0, none⟩ = false := HS2.out.res.free 0
       have t1 : wr.frozen? ⟨w.heap.size + 1, 1, none⟩ = false := HS2.out.res.free 1
       have HP := Lib.hid ((HS2.out.res.put 0 (.slice Ag m0 cg)).put 1 (.int .i64 (1 + r)))
       have HO9 := Lib.hid ((HS2.out.own.far (p := ⟨w.heap.size + 1, 0, none⟩) (by show w.heap.size + 1 < w.heap.size + 4; omega) (.slice Ag m0 cg)).far (p := ⟨w.heap.size + 1, 1, none⟩) (by show w.heap.size + 1 < w.heap.size + 4; omega) (.int .i64 (1 + r)))
       have HB9 := Lib.hid ((HS2.out.bel.setCell (p := ⟨w.heap.size + 1, 0, none⟩) (by show w.heap.size ≤ w.heap.size + 1; omega) (.slice Ag m0 cg)).setCell (p := ⟨w.heap.size + 1, 1, none⟩) (by show w.heap.size ≤ w.heap.size + 1; omega) (.int .i64 (1 + r)))
       clear HS2
       go_wp2_with fail
       exact bodyPost_ret (gEnd _ (w.heap.size + 1) _ _ _ rfl HP.out) rfl ⟨_, by rw [HKK.out, hgk], by rw [HKC.out]; exact ownC_down HO9.out (Nat.le_add_right _ 4), HB9.out⟩
   ·by_cases hz : no = 0
    ·subst hz
     have hM0 : M0 = [] := List.eq_nil_of_length_eq_zero HNO.out
     subst hM0
     have HGO : Hid (gCols L = gOne) := by show _ = _; rw [HGC.out, if_pos rfl]
     have hmin1 : ∀ ts t W, Sem.run Tryz.prog (Builtin.min_ ts t #[.int .i64 1, .int .i64 3]) W = .ok (.int .i64 1) W := fun ts t W => by rw [run_min_int2]; simp
     have HAP := Lib.hid (appC wr wr.heap.size rfl (w.heap.size + 4) (.slice Ao 0 co) [] ⟨⟨#[105, 100]⟩, 2, false⟩ HS.out.own HS.out.big (by simp))
     go_wp2_with (at_builtin; refine wpList_app rfl _ _ 37 37 rfl (.slice Ao 0 co) (.slice (some ⟨wr.heap.size, 0, none⟩) 1 1) rfl rfl ?_; obtain ⟨R, W', hrun, hmade⟩ := HAP.out; refine ⟨R, W', hrun, ?_⟩; obtain ⟨Ag, m0, cg, hR, HN7, _, _, _, _⟩ := ownC_open hmade.1; have hm1 : 1 = m0 := HN7.out; subst hm1; subst hR; have HM := Lib.hid hmade; have hO7 := HS.out.out.below hmade.2 (by omega); have g0 : W'.frozen? ⟨w.heap.size + 2, 0, none⟩ = false := hO7.free 0; have g1 : W'.frozen? ⟨w.heap.size + 2, 1, none⟩ = false := hO7.free 1; have g2 : W'.cell? ⟨w.heap.size + 2, 0, none⟩ = some (.slice Ao 0 co) := hO7.cell 0; have g3 : W'.cell? ⟨w.heap.size + 2, 1, none⟩ = some (.int .i64 0) := hO7.cell 1; have g4 : W'.cell? ⟨w.heap.size, 1, none⟩ = some (.int .i64 K) := (HS.out.prm.below hmade.2 (by omega)).cell 1; clear hrun hmade HAP hO7 HN7)
     have HGL : Hid ((gCols L).length = 1) := by show _ = _; rw [HGO.out]; rfl
     have hgk : ((gKeys 1 K : Nat) : Int) = 1 := by
      have := gKeys_range 1 K (by omega)
      omega
     have S8 := Lib.hid ((HS.out.stored HM.out.1 HM.out.2).keyed 1)
     have hgm := (gKeys_range 1 K (by omega)).2.1
     have e0 : [] ++ [(⟨⟨#[105, 100]⟩, 2, false⟩ : Cl)] = gCols L := by rw [HGO.out]; rfl
     rw [e0] at S8
     clear e0 HM HS HNO HVO HGO HGC hmin1
     generalize gCols L = G at *
     rw [HGL.out] at HKK HKC
     generalize gKeys 1 K = gk at *
     go_loopw [10] (fun i wr2 => ∃ j : Nat, j ≤ gk ∧ i = .int .i64 j ∧ Hid (GSt w A k c K wr2 (.slice Ag 1 cg) (1) (clr G j))) (fun i _ => gk - (intOf i).toNat)
     case atStart => exact ⟨0, by omega, rfl, by rw [clr_zero]; exact S8.out⟩
     case round =>
      obtain ⟨j, hj, rfl, HS2⟩ := hrel
      clear S8
      have b0 : wr.cell? ⟨w.heap.size + 2, 0, none⟩ = some (.slice Ag 1 cg) := HS2.out.out.cell 0
      have b1 : wr.cell? ⟨w.heap.size + 2, 1, none⟩ = some (.int .i64 (1)) := HS2.out.out.cell 1
      by_cases hlt2 : j < gk
      ·have hjr : (j : Int) < 1 := by omega
       have hjm : (j : Int) < (1 : Int) := by omega
       have hjc : j < (clr G j).length := by rw [clr_len, HGL.out]; omega
       have hjG : j < G.length := by rw [HGL.out]; omega
       obtain ⟨g, c9, hv9, hg9, _, e9, d9, own9⟩ := ownC_put HS2.out.own j hjc 2 (by omega) (.bool false) ⟨(clr G j)[j].nm, (clr G j)[j].k, false⟩ rfl
       injection hv9 with hv9 hx1 hx2
       clear hx1 hx2
       subst hv9
       have HO9 := Lib.hid own9
       rw [clr_step G j hjG] at HO9
       have d9' : wr.cell? ⟨g, j * 3 + 2, none⟩ = some (.bool (clr G j)[j].no) := d9
       have HG9 := Lib.hid hg9
       clear own9 d9 hg9
       generalize (clr G j)[j].no = cj at *
       clear hjc
       go_wp2_with fail
       go_roundw
       case rel => exact ⟨j + 1, by omega, by go_num, HS2.out.cleared HG9.out (j * 3 + 2) (.bool false) HO9.out⟩
       case measure => simp [intOf]; omega
      ·obtain rfl : j = gk := by omega
       have hjr : ¬ (j : Int) < 1 := by omega
       have r0 : wr.cell? ⟨w.heap.size + 1, 0, none⟩ = some (.slice none 0 0) := HS2.out.res.cell 0
       have r1 : wr.cell? ⟨w.heap.size + 1, 1, none⟩ = some (.int .i64 0) := HS2.out.res.cell 1
       have t0 : wr.frozen? ⟨w.heap.size + 1, 0, none⟩ = false := HS2.out.res.free 0
       have t1 : wr.frozen? ⟨w.heap.size + 1, 1, none⟩ = false := HS2.out.res.free 1
       have HP := Lib.hid ((HS2.out.res.put 0 (.slice Ag 1 cg)).put 1 (.int .i64 (1)))
       have HO9 := Lib.hid ((HS2.out.own.far (p := ⟨w.heap.size + 1, 0, none⟩) (by show w.heap.size + 1 < w.heap.size + 4; omega) (.slice Ag 1 cg)).far (p := ⟨w.heap.size + 1, 1, none⟩) (by show w.heap.size + 1 < w.heap.size + 4; omega) (.int .i64 (1)))
       have HB9 := Lib.hid ((HS2.out.bel.setCell (p := ⟨w.heap.size + 1, 0, none⟩) (by show w.heap.size ≤ w.heap.size + 1; omega) (.slice Ag 1 cg)).setCell (p := ⟨w.heap.size + 1, 1, none⟩) (by show w.heap.size ≤ w.heap.size + 1; omega) (.int .i64 (1)))
       clear HS2
       go_wp2_with fail
       exact bodyPost_ret (gEnd _ (w.heap.size + 1) _ _ _ rfl HP.out) rfl ⟨_, by rw [HKK.out, hgk], by rw [HKC.out]; exact ownC_down HO9.out (Nat.le_add_right _ 4), HB9.out⟩
    ·have HGO : Hid (gCols L = M0) := by show _ = _; rw [HGC.out, if_neg hz]
     rw [← HGO.out] at HS HNO HVO
     have hm1 : 1 ≤ no := by omega
     obtain ⟨m0, hm0⟩ : ∃ m0, m0 = no := ⟨_, rfl⟩
     subst hm0
     obtain ⟨q, r, hq1, hq3, hq0, hmin, hr, hgk, hr0, hr3⟩ := keysP m0 K hm1 hK
     have hnz : ((m0 : Int) == 0) = false := by simp; omega
     have HGL : Hid ((gCols L).length = m0) := HNO
     have S8 := Lib.hid (HS.out.keyed (1 + r))
     have hgm := (gKeys_range m0 K hm1).2.1
     obtain ⟨Ag, hAg⟩ : ∃ Ag, Ag = Ao := ⟨_, rfl⟩
     obtain ⟨cg, hcg⟩ : ∃ cg, cg = co := ⟨_, rfl⟩
     subst hAg hcg
     go_wp2_with fail
     clear HS HNO HVO HGO HGC hmin
     generalize gCols L = G at *
     rw [HGL.out] at HKK HKC
     generalize gKeys m0 K = gk at *
     go_loopw [10] (fun i wr2 => ∃ j : Nat, j ≤ gk ∧ i = .int .i64 j ∧ Hid (GSt w A k c K wr2 (.slice Ag m0 cg) (1 + r) (clr G j))) (fun i _ => gk - (intOf i).toNat)
     case atStart => exact ⟨0, by omega, rfl, by rw [clr_zero]; exact S8.out⟩
     case round =>
      obtain ⟨j, hj, rfl, HS2⟩ := hrel
      clear S8
      have b0 : wr.cell? ⟨w.heap.size + 2, 0, none⟩ = some (.slice Ag m0 cg) := HS2.out.out.cell 0
      have b1 : wr.cell? ⟨w.heap.size + 2, 1, none⟩ = some (.int .i64 (1 + r)) := HS2.out.out.cell 1
      by_cases hlt2 : j < gk
      ·have hjr : (j : Int) < 1 + r := by omega
       have hjm : (j : Int) < (m0 : Int) := by omega
       have hjc : j < (clr G j).length := by rw [clr_len, HGL.out]; omega
       have hjG : j < G.length := by rw [HGL.out]; omega
       obtain ⟨g, c9, hv9, hg9, _, e9, d9, own9⟩ := ownC_put HS2.out.own j hjc 2 (by omega) (.bool false) ⟨(clr G j)[j].nm, (clr G j)[j].k, false⟩ rfl
       injection hv9 with hv9 hx1 hx2
       clear hx1 hx2
       subst hv9
       have HO9 := Lib.hid own9
       rw [clr_step G j hjG] at HO9
       have d9' : wr.cell? ⟨g, j * 3 + 2, none⟩ = some (.bool (clr G j)[j].no) := d9
       have HG9 := Lib.hid hg9
       clear own9 d9 hg9
       generalize (clr G j)[j].no = cj at *
       clear hjc
       go_wp2_with fail
       go_roundw
       case rel => exact ⟨j + 1, by omega, by go_num, HS2.out.cleared HG9.out (j * 3 + 2) (.bool false) HO9.out⟩
       case measure => simp [intOf]; omega
      ·obtain rfl : j = gk := by omega
       have hjr : ¬ (j : Int) < 1 + r := by omega
       have r0 : wr.cell? ⟨w.heap.size + 1, 0, none⟩ = some (.slice none 0 0) := HS2.out.res.cell 0
       have r1 : wr.cell? ⟨w.heap.size + 1, 1, none⟩ = some (.int .i64 0) := HS2.out.res.cell 1
       have t0 : wr.frozen? ⟨w.heap.size + 1, 0, none⟩ = false := HS2.out.res.free 0
       have t1 : wr.frozen? ⟨w.heap.size + 1, 1, none⟩ = false := HS2.out.res.free 1
       have HP := Lib.hid ((HS2.out.res.put 0 (.slice Ag m0 cg)).put 1 (.int .i64 (1 + r)))
       have HO9 := Lib.hid ((HS2.out.own.far (p := ⟨w.heap.size + 1, 0, none⟩) (by show w.heap.size + 1 < w.heap.size + 4; omega) (.slice Ag m0 cg)).far (p := ⟨w.heap.size + 1, 1, none⟩) (by show w.heap.size + 1 < w.heap.size + 4; omega) (.int .i64 (1 + r)))
       have HB9 := Lib.hid ((HS2.out.bel.setCell (p := ⟨w.heap.size + 1, 0, none⟩) (by show w.heap.size ≤ w.heap.size + 1; omega) (.slice Ag m0 cg)).setCell (p := ⟨w.heap.size + 1, 1, none⟩) (by show w.heap.size ≤ w.heap.size + 1; omega) (.int .i64 (1 + r)))
       clear HS2
       go_wp2_with fail
       exact bodyPost_ret (gEnd _ (w.heap.size + 1) _ _ _ rfl HP.out) rfl ⟨_, by rw [HKK.out, hgk], by rw [HKC.out]; exact ownC_down HO9.out (Nat.le_add_right _ 4), HB9.out⟩
end Go.Proofs.YtlnbhlgkehenpaaGreatDoor
namespace Go.Proofs.YtlnbhlgkehenpaaGreatDoor
open Go.RowKit Dg
set_option maxRecDepth 100000
def big : Nat := 18446744073709551616
def Digs (n : Nat) (w : World) (e : Ending) (w' : World) : Prop :=
 e = .returned (.slice (some ⟨w.heap.size, 0, none⟩) (digs n).length (digs n).length) ∧ Has w' w.heap.size 5 ((digs n).map bv).toArray ∧ w'.heap.size = w.heap.size + 1 ∧ Below w.heap.size w w'

theorem Digs.made {n : Nat} {w : World} {e : Ending} {w' : World} (h : Digs n w e w') : ∃ v, e = .returned v ∧ Made w (digs n) v w' := by
 obtain ⟨he, hh, _, hb⟩ := h
 refine ⟨_, he, _, _, rfl, Nat.le_refl _, Rd.of_has hh fun i hi => ?_, hb⟩
 simp [hi]

theorem Digs.out {n : Nat} {w : World} {e : Ending} {w' : World} (h : Digs n w e w') : ∃ A c, e = .returned (.slice A (digs n).length c) ∧ Rd w' A (digs n) ∧ Below w.heap.size w w' := by
 obtain ⟨v, he, A, c, rfl, _, hr, hb⟩ := h.made
 exact ⟨A, c, he, hr, hb⟩

def Vl.eqb (x y : Vl) : Bool := x.k == y.k && x.n == y.n && x.s.toList == y.s.toList
theorem toList_inj {s t : ByteArray} (h : s.toList = t.toList) : s = t := by
 rw [← bs_sb s, ← bs_sb t] at h ⊢
 rw [bs_toList, bs_toList] at h
 unfold bs
 rw [h]
theorem Vl.eqb_iff (x y : Vl) : x.eqb y = true ↔ x = y := by
 obtain ⟨a, b, c⟩ := x
 obtain ⟨a', b', c'⟩ := y
 simp only [Vl.eqb, Bool.and_eq_true, beq_iff_eq, Vl.mk.injEq]
 constructor
 ·rintro ⟨⟨rfl, rfl⟩, h⟩; exact ⟨rfl, rfl, toList_inj h⟩
 ·rintro ⟨rfl, rfl, rfl⟩; exact ⟨⟨rfl, rfl⟩, rfl⟩
def vsTo (L M : List Vl) (k : Nat) : Bool := (List.range k).all fun i => match L[i]?, M[i]? with | some x, some y => x.eqb y | _, _ => true
theorem vsTo_succ (L M : List Vl) (k : Nat) (hL : k < L.length) (hM : k < M.length) : vsTo L M (k + 1) = (vsTo L M k && L[k].eqb M[k]) := by
 unfold vsTo; rw [List.range_succ, List.all_append]; simp [hL, hM]
theorem vsTo_false (L M : List Vl) (k n : Nat) (hk : k < n) (hL : k < L.length) (hM : k < M.length) (h : L[k].eqb M[k] = false) : vsTo L M n = false := by
 unfold vsTo; rw [List.all_eq_false]
 exact ⟨k, List.mem_range.2 hk, by simp [hL, hM, h]⟩
def vsF (L M : List Vl) : Bool := decide (L.length = M.length) && vsTo L M L.length
theorem vsF_iff (L M : List Vl) : vsF L M = true ↔ L = M := by
 unfold vsF vsTo
 simp only [Bool.and_eq_true, decide_eq_true_eq, List.all_eq_true]
 constructor
 ·intro ⟨h1, h2⟩
  refine List.ext_getElem h1 fun i hi hj => ?_
  have := h2 i (List.mem_range.2 hi)
  rw [List.getElem?_eq_getElem hi, List.getElem?_eq_getElem hj] at this
  exact (Vl.eqb_iff _ _).1 this
 ·rintro rfl
  refine ⟨rfl, fun i hi => ?_⟩
  have hi := List.mem_range.1 hi
  rw [List.getElem?_eq_getElem hi]
  exact (Vl.eqb_iff _ _).2 rfl
def Cl.eqb (x y : Cl) : Bool := x.nm.toList == y.nm.toList && x.k == y.k && x.no == y.no
theorem Cl.eqb_refl (x : Cl) : x.eqb x = true := by simp [Cl.eqb]
def csTo (L M : List Cl) (k : Nat) : Bool := (List.range k).all fun i => match L[i]?, M[i]? with | some x, some y => x.eqb y | _, _ => true
theorem csTo_succ (L M : List Cl) (k : Nat) (hL : k < L.length) (hM : k < M.length) : csTo L M (k + 1) = (csTo L M k && L[k].eqb M[k]) := by
 unfold csTo; rw [List.range_succ, List.all_append]; simp [hL, hM]
theorem csTo_false (L M : List Cl) (k n : Nat) (hk : k < n) (hL : k < L.length) (hM : k < M.length) (h : L[k].eqb M[k] = false) : csTo L M n = false := by
 unfold csTo; rw [List.all_eq_false]
 exact ⟨k, List.mem_range.2 hk, by simp [hL, hM, h]⟩
def csF (L M : List Cl) : Bool := decide (L.length = M.length) && csTo L M L.length
def ssF (L : List Cl) (K : Int) (M : List Cl) (K' : Int) : Bool := K == K' && csF L M
theorem csF_refl (L : List Cl) : csF L L = true := by
 unfold csF csTo; simp
 intro i hi
 cases h : L[i]? with
 | none => rfl
 | some x => simp [Cl.eqb_refl]
theorem ssF_refl (L : List Cl) (K : Int) : ssF L K L K = true := by simp [ssF, csF_refl]
theorem partK (xs : Array Value) (i : Nat) (v : Value) (h : xs[i]? = some v) (w : World) : (part 4 xs i).run Tryz.prog w = .ok v w := by
 unfold part
 simp [Sem.run_bind, Tryz.isAgg4, h]
theorem partN (xs : Array Value) (i : Nat) (v : Value) (h : xs[i]? = some v) (w : World) : (part 3 xs i).run Tryz.prog w = .ok v w := by
 unfold part
 simp [Sem.run_bind, Tryz.isAgg3, h]
theorem partT (xs : Array Value) (i : Nat) (v : Value) (h : xs[i]? = some v) (w : World) : (part 9 xs i).run Tryz.prog w = .ok v w := by
 unfold part
 simp [Sem.run_bind, Tryz.isAgg9, h]
theorem eqC (s s' : ByteArray) (k k' : Int) (b b' : Bool) (w : World) : (Op.equalIn 10000 46 (.agg #[.string s, .int .i64 k, .bool b]) (.agg #[.string s', .int .i64 k', .bool b'])).run Tryz.prog w = .ok (Cl.eqb ⟨s, k, b⟩ ⟨s', k', b'⟩) w := by
 have e := fun (a b : Int) (w : World) => run_equalIn_int (P := Tryz.prog) w 9998 3 .i64 .i64 a b Tryz.underlying3
 have es := fun (a b : ByteArray) (w : World) => run_equalIn_string (P := Tryz.prog) w 9998 9 a b Tryz.underlying9
 have eb := fun (a b : Bool) (w : World) => run_equalIn_bool (P := Tryz.prog) w 9998 4 a b Tryz.underlying4
 have p0 := fun (x0 x1 x2 : Value) => partT #[x0, x1, x2] 0 x0 rfl
 have p1 := fun (x0 x1 x2 : Value) => partN #[x0, x1, x2] 1 x1 rfl
 have p2 := fun (x0 x1 x2 : Value) => partK #[x0, x1, x2] 2 x2 rfl
 rw [show (10000 : Nat) = 9999 + 1 by rfl, run_equalIn_agg w 9999 46 _ _ (by kernel_rfl) (by kernel_rfl)]
 unfold Program.fieldsOf
 rw [Tryz.underlying46]
 by_cases h0 : s.toList = s'.toList <;> by_cases h1 : k = k' <;> by_cases h2 : b = b' <;>
 simp [Op.eqFields, Sem.run_bind, Result.andThen, p0, p1, p2, e, es, eb, h0, h1, h2, Cl.eqb]
set_option maxHeartbeats 2000000 in
set_option maxRecDepth 100000 in
theorem equal_any (A : Option Addr) (L : List Cl) (n c : Nat) (A' : Option Addr) (M : List Cl) (n' c' : Nat) (w : World) (hn : L.length = n) (hn' : M.length = n') (hl : n ≤ 4398046511104) (hl' : n' ≤ 4398046511104) (hA : CRow w A L) (hA' : CRow w A' M) :
 Calls Tryz.prog 148 #[.slice A n c, .slice A' n' c'] w fun e w' => e = .returned (.bool (csF L M)) ∧ Hid (Below w.heap.size w w') := by
 have HN := Lib.hid hn
 have HN' := Lib.hid hn'
 have HA := Lib.hid hA
 have HA' := Lib.hid hA'
 have HB0 := Lib.hid (Below.refl w.heap.size w)
 have eq := eqC
 clear hn hA hA' hn'
 by_cases hnn : n = n'
 ·subst hnn
  have HC : Hid (csF L M = csTo L M n) := by show _ = _; unfold csF; rw [HN.out, HN'.out]; simp
  go_enter Tryz.func148, Tryz.ntmps148
  go_wp2_with fail
  go_loopw [13] (fun i wr => ∃ k : Nat, k ≤ n ∧ i = .int .i64 k ∧ Hid (csTo L M k = true) ∧ Hid (Below w.heap.size w wr)) (fun i _ => n - (intOf i).toNat)
  case atStart => exact ⟨0, by omega, rfl, rfl, Below.refl _ _⟩
  case round =>
   obtain ⟨k, hk, rfl, HT, HB⟩ := hrel
   by_cases hlt : k < n
   ·have hkl : k < L.length := by rw [HN.out]; exact hlt
    have hkm : k < M.length := by rw [HN'.out]; exact hlt
    obtain ⟨b, off, rfl, hc⟩ := (HA.out.below HB.out) (by intro e; rw [e] at hkl; simp at hkl)
    obtain ⟨b', off', rfl, hc'⟩ := (HA'.out.below HB.out) (by intro e; rw [e] at hkm; simp at hkm)
    obtain ⟨c0, c1, c2⟩ := hc k hkl
    obtain ⟨d0, d1, d2⟩ := hc' k hkm
    have HS := Lib.hid (csTo_succ L M k hkl hkm)
    have HF := Lib.hid (csTo_false L M k n hlt hkl hkm)
    clear hc hc'
    generalize L[k] = x at *
    generalize M[k] = y at *
    obtain ⟨xa, xb, xc⟩ := x
    obtain ⟨ya, yb, yc⟩ := y
    simp only at c0 c1 c2 d0 d1 d2
    have hkz : (k : Int) < (n : Int) := by omega
    have hk0 : (0 : Int) ≤ (k : Int) := by omega
    cases hq : Cl.eqb ⟨xa, xb, xc⟩ ⟨ya, yb, yc⟩
    ·go_wp2_with fail
     go_region
     all_goals
      go_wp2_with fail
      go_ret
      exact ⟨by rw [HC.out, HF.out hq]; rfl, HB.out.drew⟩
    ·go_wp2_with fail
     go_region
     all_goals
      go_wp2_with fail
      go_roundw
      case rel => exact ⟨k + 1, by omega, by go_num, by show _ = _; rw [HS.out, HT.out, hq]; rfl, HB.out.drew⟩
      case measure => simp [intOf]; omega
   ·obtain rfl : k = n := by omega
    go_wp2_with fail
    go_ret
    exact ⟨by rw [HC.out, HT.out]; rfl, HB⟩
 ·have HC : Hid (csF L M = false) := by show _ = _; unfold csF; rw [HN.out, HN'.out]; simp [hnn]
  have hq : ((n : Int) != (n' : Int)) = true := by simp; omega
  go_enter Tryz.func148, Tryz.ntmps148
  go_wp2_with fail
  go_ret
  exact ⟨by rw [HC.out]; rfl, HB0⟩
set_option maxHeartbeats 1000000 in
theorem same4_any (A : Option Addr) (L : List Cl) (n c : Nat) (K : Int) (A' : Option Addr) (M : List Cl) (n' c' : Nat) (K' : Int) (w : World) (hn : L.length = n) (hn' : M.length = n') (hl : n ≤ 4398046511104) (hl' : n' ≤ 4398046511104) (hA : CRow w A L) (hA' : CRow w A' M) :
 Calls Tryz.prog 133 #[.agg #[.slice A n c, .int .i64 K], .agg #[.slice A' n' c', .int .i64 K']] w fun e w' => e = .returned (.bool (ssF L K M K')) ∧ Hid (Below w.heap.size w w') := by
 have HB := Lib.hid (((Below.refl w.heap.size w).alloc (Nat.le_refl _) (.cells #[.slice A n c, .int .i64 K] 39)).alloc (by simp) (.cells #[.slice A' n' c', .int .i64 K'] 39))
 have HC := Lib.hid (equal_any A L n c A' M n' c' _ hn hn' hl hl' (hA.below HB.out) (hA'.below HB.out))
 clear hn hn' hA hA'
 by_cases hk : K = K'
 ·subst hk
  have HS : Hid (ssF L K M K = csF L M) := by show _ = _; simp [ssF]
  go_enter Tryz.func133, Tryz.ntmps133
  go_wp2_with fail
  refine HC.out.mono ?_
  rintro e w1 ⟨rfl, hb1⟩
  have HB1 := Lib.hid (HB.out.trans (hb1.out.mono HB.out.size))
  clear hb1
  go_wp2_with fail
  go_ret
  exact ⟨by rw [HS.out]; rfl, HB1⟩
 ·have HS : Hid (ssF L K M K' = false) := by show _ = _; simp [ssF, hk]
  have hq : (K == K') = false := by simp [hk]
  go_enter Tryz.func133, Tryz.ntmps133
  go_wp2_with fail
  go_ret
  exact ⟨by rw [HS.out]; rfl, HB⟩
set_option maxHeartbeats 2000000 in
set_option maxRecDepth 100000 in
theorem rsame_any (A : Option Addr) (L : List Cl) (n c : Nat) (K : Int) (A' : Option Addr) (M : List Cl) (n' c' : Nat) (K' : Int) (w : World) (hn : L.length = n) (hn' : M.length = n') (hl : n ≤ 4398046511104) (hl' : n' ≤ 4398046511104) (hA : CRow w A L) (hA' : CRow w A' M) :
 Calls Tryz.prog 21 #[.agg #[.slice A n c, .int .i64 K], .agg #[.slice A' n' c', .int .i64 K']] w fun e w' => e = .returned (.bool (ssF L K M K')) ∧ Hid (Below w.heap.size w w') := by
 have HB0 := Lib.hid (((Below.refl w.heap.size w).alloc (Nat.le_refl _) (.cells #[.slice A n c, .int .i64 K] 39)).alloc (by simp) (.cells #[.slice A' n' c', .int .i64 K'] 39))
 have HX0 := Lib.hid ((Has.new w 39 #[.slice A n c, .int .i64 K]).alloc (.cells #[.slice A' n' c', .int .i64 K'] 39))
 have hy := Has.new (w.alloc (.cells #[.slice A n c, .int .i64 K] 39)) 39 #[.slice A' n' c', .int .i64 K']
 rw [show (w.alloc (.cells #[.slice A n c, .int .i64 K] 39)).heap.size = w.heap.size + 1 by simp] at hy
 have HY0 := Lib.hid hy
 have HN := Lib.hid hn
 have HN' := Lib.hid hn'
 have HA := Lib.hid hA
 have HA' := Lib.hid hA'
 have eq := eqC
 clear hn hA hA' hn' hy
 by_cases hk : K = K'
 ·subst hk
  by_cases hnn : n = n'
  ·subst hnn
   have HC : Hid (ssF L K M K = csTo L M n) := by show _ = _; unfold ssF csF; rw [HN.out, HN'.out]; simp
   go_enter Tryz.func21, Tryz.ntmps21
   go_wp2_with fail
   go_loopw [5] (fun i wr => ∃ k : Nat, k ≤ n ∧ i = .int .i64 k ∧ Hid (csTo L M k = true) ∧ Hid (Below w.heap.size w wr) ∧ Hid (Has wr w.heap.size 39 #[.slice A n c, .int .i64 K]) ∧ Hid (Has wr (w.heap.size + 1) 39 #[.slice A' n c', .int .i64 K])) (fun i _ => n - (intOf i).toNat)
   case atStart => exact ⟨0, by omega, rfl, rfl, HB0.out, HX0.out, HY0.out⟩
   case round =>
    obtain ⟨k, hk, rfl, HT, HB, HX, HY⟩ := hrel
    have a0 := HX.out.cell 0
    have a1 := HY.out.cell 0
    simp at a0 a1
    by_cases hlt : k < n
    ·have hkl : k < L.length := by rw [HN.out]; exact hlt
     have hkm : k < M.length := by rw [HN'.out]; exact hlt
     obtain ⟨b, off, rfl, hc⟩ := (HA.out.below HB.out) (by intro e; rw [e] at hkl; simp at hkl)
     obtain ⟨b', off', rfl, hc'⟩ := (HA'.out.below HB.out) (by intro e; rw [e] at hkm; simp at hkm)
     obtain ⟨c0, c1, c2⟩ := hc k hkl
     obtain ⟨d0, d1, d2⟩ := hc' k hkm
     have HS := Lib.hid (csTo_succ L M k hkl hkm)
     have HF := Lib.hid (csTo_false L M k n hlt hkl hkm)
     clear hc hc'
     generalize L[k] = x at *
     generalize M[k] = y at *
     obtain ⟨xa, xb, xc⟩ := x
     obtain ⟨ya, yb, yc⟩ := y
     simp only at c0 c1 c2 d0 d1 d2
     have hkz : (k : Int) < (n : Int) := by omega
     have hk0 : (0 : Int) ≤ (k : Int) := by omega
     cases hq : Cl.eqb ⟨xa, xb, xc⟩ ⟨ya, yb, yc⟩
     ·go_wp2_with fail
      go_region
      all_goals
       go_wp2_with fail
       go_ret
       exact ⟨by rw [HC.out, HF.out hq]; rfl, HB.out.drew⟩
     ·go_wp2_with fail
      go_region
      all_goals
       go_wp2_with fail
       go_roundw
       case rel => exact ⟨k + 1, by omega, by go_num, by show _ = _; rw [HS.out, HT.out, hq]; rfl, HB.out.drew, HX.out.drew, HY.out.drew⟩
       case measure => simp [intOf]; omega
    ·obtain rfl : k = n := by omega
     go_wp2_with fail
     go_ret
     exact ⟨by rw [HC.out, HT.out]; rfl, HB⟩
  ·have HC : Hid (ssF L K M K = false) := by show _ = _; unfold ssF csF; rw [HN.out, HN'.out]; simp [hnn]
   have hq : ((n : Int) != (n' : Int)) = true := by simp; omega
   go_enter Tryz.func21, Tryz.ntmps21
   go_wp2_with fail
   go_ret
   exact ⟨by rw [HC.out]; rfl, HB0⟩
 ·have HS : Hid (ssF L K M K' = false) := by show _ = _; simp [ssF, hk]
  have hq : (K != K') = true := by simp [hk]
  go_enter Tryz.func21, Tryz.ntmps21
  go_wp2_with fail
  go_ret
  exact ⟨by rw [HS.out]; rfl, HB0⟩
set_option maxHeartbeats 4000000 in
set_option maxRecDepth 100000 in
theorem rmay_any (A : Option Addr) (L : List Cl) (n c : Nat) (K : Int) (w : World) (hn : L.length = n) (hl : n ≤ 4398046511104) (hA : CRow w A L) :
 Calls Tryz.prog 28 #[.agg #[.slice A n c, .int .i64 K]] w fun e w' => e = .returned (.bool (smayF L K)) ∧ Hid (Below w.heap.size w w') := by
 have HN := Lib.hid hn
 have HA := Lib.hid hA
 have HB0 := Lib.hid ((Below.refl w.heap.size w).alloc (Nat.le_refl _) (.cells #[.slice A n c, .int .i64 K] 39))
 have HH0 := Lib.hid (Has.new w 39 #[.slice A n c, .int .i64 K])
 have HY := Lib.hid (@smayF_yes L K)
 have HNO := Lib.hid (@smayF_no L K)
 rw [hn] at HY HNO
 clear hn hA
 by_cases h1 : 1 ≤ n
 ·by_cases h2 : n ≤ 16
  ·by_cases h3 : 1 ≤ K
   ·by_cases h4 : K ≤ 4
    ·by_cases h5 : K ≤ n
     ·have HY2 := Lib.hid (HY.out h1 h2 h3 h4 h5)
      clear HY HNO
      go_enter Tryz.func28, Tryz.ntmps28
      go_wp2_with fail
      go_loopw [4] (fun i wr => ∃ k : Nat, k ≤ n ∧ i = .int .i64 k ∧ Hid (colsTo L K k = true) ∧ Hid (Below w.heap.size w wr) ∧ Hid (Has wr w.heap.size 39 #[.slice A n c, .int .i64 K])) (fun i _ => n - (intOf i).toNat)
      case atStart => exact ⟨0, by omega, rfl, rfl, HB0.out, HH0.out⟩
      case round =>
       obtain ⟨k, hk, rfl, HT, HB, HH⟩ := hrel
       by_cases hlt : k < n
       ·have hkl : k < L.length := by rw [HN.out]; exact hlt
        have HR := Lib.hid (HA.out.below HB.out)
        obtain ⟨b, off, rfl, hc⟩ := HR.out (by intro e; rw [e] at hkl; simp at hkl)
        obtain ⟨c0, c1, c2⟩ := hc k hkl
        have HFA := Lib.hid (colsTo_false L K k n hlt)
        have HT2 : Hid (colsTo L K (k + 1) = colOk L K k) := by show _ = _; rw [colsTo_succ, HT.out, Bool.true_and]
        have HOK := Lib.hid (colOk_at L K k hkl)
        have HFE : Hid (∀ j (hj : j < k), (L[j].nm.toList == L[k].nm.toList) = true → (findI L L[k].nm == (k : Int)) = false) := fun j hj he => findI_early hj hkl he
        have HFI : Hid ((∀ j (hj : j < k), (L[j].nm.toList == L[k].nm.toList) = false) → findI L L[k].nm = (k : Int)) := fun h => findI_at hkl (by simp) h
        generalize hxa : L[k].nm = xa at *
        generalize L[k].k = xb at *
        generalize L[k].no = xc at *
        generalize colOk L K k = ok at *
        have HW : Hid (Below w.heap.size w (wr.alloc (.cells #[.string xa, .int .i64 xb, .bool xc] 46))) := HB.out.alloc HB.out.size _
        have HR1 : Hid (CRow (wr.alloc (.cells #[.string xa, .int .i64 xb, .bool xc] 46)) (some ⟨b, off, none⟩) L) := HR.out.below ((Below.refl _ wr).alloc (Nat.le_refl _) _)
        have HX : Hid (Has (wr.alloc (.cells #[.string xa, .int .i64 xb, .bool xc] 46)) wr.heap.size 46 #[.string xa, .int .i64 xb, .bool xc]) := Has.new _ _ _
        have HH1 : Hid (Has (wr.alloc (.cells #[.string xa, .int .i64 xb, .bool xc] 46)) w.heap.size 39 #[.slice (some ⟨b, off, none⟩) n c, .int .i64 K]) := HH.out.alloc _
        have a0 := HH.out.cell 0
        have a1 := HH.out.cell 1
        simp at a0 a1
        clear hc HR hxa
        go_wp2_with fail
        refine (refName_any xa _).mono ?_
        rintro e w1 ⟨rfl, rfl⟩
        clear c0 c1 c2 a0 a1
        obtain ⟨w1, hw1⟩ : ∃ w1, w1 = wr.alloc (.cells #[.string xa, .int .i64 xb, .bool xc] 46) := ⟨_, rfl⟩
        rw [← hw1] at HW HR1 HX HH1 ⊢
        have hzz : wr.heap.size < w1.heap.size := by rw [hw1]; simp
        clear hw1
        have a0 := HH1.out.cell 0
        have a1 := HH1.out.cell 1
        have c0 := HX.out.cell 0
        have c1 := HX.out.cell 1
        have c2 := HX.out.cell 2
        simp at a0 a1 c0 c1 c2
        generalize nameF xa = q1 at *
        cases q1
        ·have HO : Hid (ok = false) := by show _ = _; rw [HOK.out]; simp
         go_wp2_with fail
         go_ret
         exact ⟨by rw [HY2.out, HFA.out HO.out]; rfl, HW⟩
        ·by_cases hb1 : 1 ≤ xb
         ·by_cases hb2 : xb ≤ 4
          ·have hkd : kindF xb = true := by simp [kindF, hb1, hb2]
           rw [hkd] at HOK
           clear hkd
           by_cases hno : xc = true ∧ (k : Int) < K
           ·obtain ⟨rfl, hkk⟩ := hno
            have HO : Hid (ok = false) := by show _ = _; rw [HOK.out]; simp; omega
            go_wp2_with fail
            go_ret
            exact ⟨by rw [HY2.out, HFA.out HO.out]; rfl, HW⟩
           ·have HNOB : Hid ((xc && decide ((k : Int) < K)) = false) := by
             show _ = _
             cases xc
             ·rfl
             ·simp at hno ⊢; omega
            have hkk : (xc = false ∧ (k : Int) < K) ∨ ¬ (k : Int) < K := by
             by_cases hh : (k : Int) < K
             ·left
              cases xc
              ·exact ⟨rfl, hh⟩
              ·exact absurd ⟨rfl, hh⟩ hno
             ·exact .inr hh
            clear hno
            rcases hkk with ⟨rfl, hkk⟩ | hkk
            all_goals
             go_wp2_with fail
             go_loopw [7] (fun i wq => ∃ j : Nat, j ≤ k ∧ i = .int .i64 j ∧ Hid (∀ j' (hj' : j' < j) (hl' : j' < L.length), (L[j'].nm.toList == xa.toList) = false) ∧ Hid (Below w1.heap.size w1 wq)) (fun i _ => k - (intOf i).toNat)
             case atStart => exact ⟨0, by omega, rfl, (fun j hj => absurd hj (by omega)), Below.refl _ _⟩
             case round =>
              obtain ⟨j, hj, rfl, HNE, HBQ⟩ := hrel
              have HBW := Lib.hid (HW.out.trans (HBQ.out.mono HW.out.size))
              by_cases hjk : j < k
              ·have hjl : j < L.length := by omega
               obtain ⟨b', off', hbe, hc⟩ := (HR1.out.below HBQ.out) (by intro e; rw [e] at hkl; simp at hkl)
               injection hbe with hbe
               injection hbe with hb1' hb2'
               subst hb1' hb2'
               obtain ⟨d0, d1, d2⟩ := hc j hjl
               have e0 := (HH1.out.below HBQ.out HH1.out.lt).cell 0
               have f0 := (HX.out.below HBQ.out HX.out.lt).cell 0
               simp at e0 f0
               have HEJ := Lib.hid (HFE.out j hjk)
               have HNX : Hid ((L[j].nm.toList == xa.toList) = false → ∀ j' (hj' : j' < j + 1) (hl' : j' < L.length), (L[j'].nm.toList == xa.toList) = false) := fun he j' hj' hl' => by
                by_cases e : j' = j
                ·subst e; exact he
                ·exact HNE.out j' (by omega) hl'
               generalize L[j].nm = ya at *
               clear hc d1 d2 a0 a1 c0 c1 c2
               have hjz : (j : Int) < (n : Int) := by omega
               have hj0 : (0 : Int) ≤ (j : Int) := by omega
               cases hq : (ya.toList == xa.toList)
               ·go_wp2_with fail
                go_region
                all_goals
                 go_wp2_with fail
                 go_roundw
                 case rel => exact ⟨j + 1, by omega, by go_num, HNX.out hq, HBQ.out.drew⟩
                 case measure => simp [intOf]; omega
               ·have HO : Hid (ok = false) := by show _ = _; rw [HOK.out, HEJ.out hq]; simp
                go_wp2_with fail
                go_region
                all_goals
                 go_wp2_with fail
                 go_ret
                 exact ⟨by rw [HY2.out, HFA.out HO.out]; rfl, HBW.out.drew⟩
              ·obtain rfl : j = k := by omega
               have HO : Hid (ok = true) := by show _ = _; rw [HOK.out, HFI.out (fun j' hj' => HNE.out j' hj' (by omega)), HNOB.out]; simp
               go_wp2_with fail
               go_roundw
               case rel => exact ⟨j + 1, by omega, by go_num, by rw [HT2.out]; exact HO, HBW, HH1.out.below HBQ.out HH1.out.lt⟩
               case measure => simp [intOf]; omega
          ·have HO : Hid (ok = false) := by show _ = _; rw [HOK.out, show kindF xb = false by simp [kindF]; omega]; simp
           have hb2' : 4 < xb := by omega
           go_wp2_with fail
           go_ret
           exact ⟨by rw [HY2.out, HFA.out HO.out]; rfl, HW⟩
         ·have HO : Hid (ok = false) := by show _ = _; rw [HOK.out, show kindF xb = false by simp [kindF]; omega]; simp
          have hb1' : xb < 1 := by omega
          go_wp2_with fail
          go_ret
          exact ⟨by rw [HY2.out, HFA.out HO.out]; rfl, HW⟩
       ·obtain rfl : k = n := by omega
        have a0 := HH.out.cell 0
        have a1 := HH.out.cell 1
        simp at a0 a1
        go_wp2_with fail
        go_ret
        exact ⟨by rw [HY2.out, HT.out]; rfl, HB⟩
     ·have HO := Lib.hid (HNO.out (by omega))
      clear HY HNO
      have h5' : (n : Int) < K := by omega
      go_enter Tryz.func28, Tryz.ntmps28
      go_wp2_with fail
      go_ret
      exact ⟨by rw [HO.out]; rfl, HB0⟩
    ·have HO := Lib.hid (HNO.out (by omega))
     clear HY HNO
     have h4' : 4 < K := by omega
     go_enter Tryz.func28, Tryz.ntmps28
     go_wp2_with fail
     go_ret
     exact ⟨by rw [HO.out]; rfl, HB0⟩
   ·have HO := Lib.hid (HNO.out (by omega))
    clear HY HNO
    have h3' : K < 1 := by omega
    go_enter Tryz.func28, Tryz.ntmps28
    go_wp2_with fail
    go_ret
    exact ⟨by rw [HO.out]; rfl, HB0⟩
  ·have HO := Lib.hid (HNO.out (by omega))
   clear HY HNO
   have h2' : 16 < (n : Int) := by omega
   go_enter Tryz.func28, Tryz.ntmps28
   go_wp2_with fail
   go_ret
   exact ⟨by rw [HO.out]; rfl, HB0⟩
 ·have HO := Lib.hid (HNO.out (by omega))
  clear HY HNO
  have h1' : (n : Int) < 1 := by omega
  go_enter Tryz.func28, Tryz.ntmps28
  go_wp2_with fail
  go_ret
  exact ⟨by rw [HO.out]; rfl, HB0⟩
structure Tb where
 nm : ByteArray
 A : Option Addr
 n : Nat
 c : Nat
 L : List Cl
 K : Int
def TRow (w : World) (A : Option Addr) (T : List Tb) : Prop :=
 T ≠ [] → ∃ b off, A = some ⟨b, off, none⟩ ∧ ∀ i (h : i < T.length), w.cell? ⟨b, off + i * 3, none⟩ = some (.string T[i].nm) ∧ w.cell? ⟨b, off + i * 3 + 1, none⟩ = some (.slice T[i].A T[i].n T[i].c) ∧ w.cell? ⟨b, off + i * 3 + 2, none⟩ = some (.int .i64 T[i].K)
def TIn (w : World) (T : List Tb) : Prop := ∀ x ∈ T, x.L.length = x.n ∧ x.n ≤ x.c ∧ x.c ≤ maxLen ∧ CRow w x.A x.L
theorem TRow.below {w w' : World} {A : Option Addr} {T : List Tb} (h : TRow w A T) (hb : Below w.heap.size w w') : TRow w' A T := fun hne => by
 obtain ⟨b, off, e, hc⟩ := h hne
 have k := fun (a : Addr) (v : Value) (h : w.cell? a = some v) => (hb.cell (World.block_lt_of_cell? _ _ h)).trans h
 exact ⟨b, off, e, fun i hi => ⟨k _ _ (hc i hi).1, k _ _ (hc i hi).2.1, k _ _ (hc i hi).2.2⟩⟩
theorem TIn.below {w w' : World} {T : List Tb} (h : TIn w T) (hb : Below w.heap.size w w') : TIn w' T := fun x hx =>
 ⟨(h x hx).1, (h x hx).2.1, (h x hx).2.2.1, (h x hx).2.2.2.below hb⟩
def tatN (T : List Tb) (s : ByteArray) : Nat := T.findIdx fun x => x.nm.toList == s.toList
def tatI (T : List Tb) (s : ByteArray) : Int := if tatN T s < T.length then (tatN T s : Int) else -1
theorem tatN_at {T : List Tb} {s : ByteArray} {k : Nat} (h : k < T.length) (he : (T[k].nm.toList == s.toList) = true) (hb : ∀ j (hj : j < k), (T[j].nm.toList == s.toList) = false) : tatN T s = k := by
 unfold tatN
 rw [List.findIdx_eq h]
 exact ⟨he, fun j hj => hb j hj⟩
theorem tatI_at {T : List Tb} {s : ByteArray} {k : Nat} (h : k < T.length) (he : (T[k].nm.toList == s.toList) = true) (hb : ∀ j (hj : j < k), (T[j].nm.toList == s.toList) = false) : tatI T s = k := by
 unfold tatI; rw [tatN_at h he hb, if_pos h]
theorem tatI_none {T : List Tb} {s : ByteArray} (hb : ∀ j (hj : j < T.length), (T[j].nm.toList == s.toList) = false) : tatI T s = -1 := by
 unfold tatI
 rw [if_neg]
 unfold tatN
 have : T.findIdx (fun x => x.nm.toList == s.toList) = T.length := List.findIdx_eq_length.2 fun x hx => by
  obtain ⟨j, hj, rfl⟩ := List.getElem_of_mem hx
  exact hb j hj
 omega
set_option maxHeartbeats 2000000 in
theorem at_any (A : Option Addr) (T : List Tb) (n c : Nat) (s : ByteArray) (w : World) (hn : T.length = n) (hl : n ≤ 1000) (hA : TRow w A T) :
 Calls Tryz.prog 27 #[.slice A n c, .string s] w fun e w' => e = .returned (.int .i64 (tatI T s)) ∧ w' = w := by
 have HN := Lib.hid hn
 have HA := Lib.hid hA
 clear hn hA
 go_enter Tryz.func27, Tryz.ntmps27
 go_wp2_with fail
 go_loopw [5] (fun i wr => ∃ k : Nat, k ≤ n ∧ i = .int .i64 k ∧ Hid (∀ j (hj : j < k) (hj2 : j < T.length), (T[j].nm.toList == s.toList) = false) ∧ wr = w) (fun i _ => n - (intOf i).toNat)
 case atStart => exact ⟨0, by omega, rfl, (fun j hj => absurd hj (by omega)), rfl⟩
 case round =>
  obtain ⟨k, hk, rfl, HF, rfl⟩ := hrel
  by_cases hlt : k < n
  ·have hkl : k < T.length := by rw [HN.out]; exact hlt
   obtain ⟨b, off, rfl, hc⟩ := HA.out (by intro e; rw [e] at hkl; simp at hkl)
   obtain ⟨c0, c1, c2⟩ := hc k hkl
   have HAT := Lib.hid (fun he => tatI_at (s := s) hkl he (fun j hj => HF.out j hj (by omega)))
   have HNX : Hid ((T[k].nm.toList == s.toList) = false → ∀ j (hj : j < k + 1) (hj2 : j < T.length), (T[j].nm.toList == s.toList) = false) := fun he j hj hj2 => by
    by_cases e : j = k
    ·subst e; exact he
    ·exact HF.out j (by omega) hj2
   clear hc c1 c2
   generalize T[k].nm = xa at *
   have hkz : (k : Int) < (n : Int) := by omega
   cases q : (xa.toList == s.toList)
   ·go_wp2_with fail
    go_roundw
    case rel => exact ⟨k + 1, by omega, by go_num, HNX.out q, by trivial⟩
    case measure => simp [intOf]; omega
   ·go_wp2_with fail
    go_ret
    exact ⟨by rw [HAT.out q]; rfl, by trivial⟩
  ·obtain rfl : k = n := by omega
   have HF2 := Lib.hid (tatI_none (T := T) (s := s) (fun j hj => HF.out j (by rw [← HN.out]; exact hj) hj))
   go_wp2_with fail
   go_ret
   exact ⟨by rw [HF2.out]; rfl, by trivial⟩
def tfV (T : List Tb) (s : ByteArray) : Value := match T[tatN T s]? with
 | some x => .tuple #[.agg #[.slice x.A x.n x.c, .int .i64 x.K], .bool true]
 | none => .tuple #[.agg #[.slice none 0 0, .int .i64 0], .bool false]
theorem schEnd6 {fn : Func} {p u : Tmp} (h : fn.results = #[.cell p 39, .tmp u]) (w' : World) (g : Nat) (c0 c1 : Value) (tmps : Array Value) (hp : tmps.getD p undef = .pointer (some ⟨g, 0, none⟩)) (hh : Has w' g 39 #[c0, c1]) :
 (results fn tmps).run Tryz.prog w' = .ok (.tuple #[.agg #[c0, c1], tmps.getD u undef]) w' := by
 rw [results_cell_tmp h, hp]
 simp only [asAddr, Sem.run_pure, Result.andThen_ok]
 rw [run_loadVar_row w' g 39 39 #[c0, c1] (0, 0) _ hh Tryz.underlying39 rfl (by kernel_rfl)]
 rfl
set_option maxHeartbeats 2000000 in
theorem find6_any (A : Option Addr) (T : List Tb) (n c : Nat) (s : ByteArray) (w : World) (hn : T.length = n) (hl : n ≤ 1000) (hA : TRow w A T) :
 Calls Tryz.prog 38 #[.slice A n c, .string s] w fun e w' => e = .returned (tfV T s) ∧ Hid (Below w.heap.size w w') := by
 have HB := Lib.hid ((Below.refl w.heap.size w).alloc (Nat.le_refl _) (.cells #[.slice none 0 0, .int .i64 0] 39))
 have HC := Lib.hid (at_any A T n c s _ hn hl (hA.below HB.out))
 have HN := Lib.hid hn
 have HA := Lib.hid (hA.below HB.out)
 have HG := Lib.hid (Has.new w 39 #[.slice none 0 0, .int .i64 0])
 have g0 := HG.out.cell 0
 have g1 := HG.out.cell 1
 have f0 := HG.out.free 0
 have f1 := HG.out.free 1
 simp at g0 g1
 clear hn hA
 go_enter Tryz.func38, Tryz.ntmps38
 go_wp2_with fail
 refine HC.out.mono ?_
 rintro e w1 ⟨rfl, rfl⟩
 by_cases hk : tatN T s < T.length
 ·obtain ⟨k, hkk⟩ : ∃ k, tatN T s = k := ⟨_, rfl⟩
  have hTI : tatI T s = (k : Int) := by unfold tatI; rw [if_pos hk, hkk]
  rw [hTI]
  rw [hkk] at hk
  have HV : Hid (tfV T s = .tuple #[.agg #[.slice T[k].A T[k].n T[k].c, .int .i64 T[k].K], .bool true]) := by
   show _ = _
   unfold tfV
   rw [hkk, List.getElem?_eq_getElem hk]
  obtain ⟨b, off, rfl, hc⟩ := HA.out (by intro e; rw [e] at hk; simp at hk)
  obtain ⟨c0, c1, c2⟩ := hc k hk
  have hkz : (k : Int) < (n : Int) := by rw [← HN.out]; omega
  clear hTI hkk hc HC c0 HN
  generalize T[k] = x at *
  obtain ⟨xs, xA, xn, xc, xL, xK⟩ := x
  simp only at c1 c2 HV
  clear HG g0 g1 f0 f1
  go_wp2_with fail
  exact bodyPost_ret (schEnd6 rfl _ w.heap.size _ _ _ rfl (Has.new w 39 #[.slice xA xn xc, .int .i64 xK])) rfl ⟨by rw [HV.out]; rfl, (Below.refl w.heap.size w).alloc (Nat.le_refl _) _⟩
 ·have hTI : tatI T s = -1 := by unfold tatI; rw [if_neg hk]
  rw [hTI]
  have HV : Hid (tfV T s = .tuple #[.agg #[.slice none 0 0, .int .i64 0], .bool false]) := by
   show _ = _
   unfold tfV
   rw [List.getElem?_eq_none (by omega)]
  clear hTI hk HC
  go_wp2_with fail
  exact bodyPost_ret (schEnd6 rfl _ w.heap.size _ _ _ rfl HG.out) rfl ⟨by rw [HV.out]; rfl, HB⟩
set_option maxHeartbeats 1000000 in
theorem rmay_all (A : Option Addr) (L : List Cl) (n c : Nat) (K : Int) (w : World) (hn : L.length = n) (hA : CRow w A L) :
 Calls Tryz.prog 28 #[.agg #[.slice A n c, .int .i64 K]] w fun e w' => e = .returned (.bool (smayF L K)) ∧ Hid (Below w.heap.size w w') := by
 by_cases hl : n ≤ 1000
 ·exact rmay_any A L n c K w hn (by omega) hA
 ·have HB0 := Lib.hid ((Below.refl w.heap.size w).alloc (Nat.le_refl _) (.cells #[.slice A n c, .int .i64 K] 39))
  have HNO := Lib.hid (@smayF_no L K (by omega))
  have h1 : ¬ ((n : Int) < 1) := by omega
  have h2 : 16 < (n : Int) := by omega
  clear hn hA hl
  go_enter Tryz.func28, Tryz.ntmps28
  go_wp2_with fail
  go_ret
  exact ⟨by rw [HNO.out]; rfl, HB0⟩
theorem less_irrefl : ∀ x : List UInt8, Op.bytesLess x x = false
 | [] => rfl
 | a :: x => by simp [Op.bytesLess, less_irrefl x]
theorem less_asymm : ∀ x y : List UInt8, Op.bytesLess x y = true → Op.bytesLess y x = false
 | [], [], h => by simp [Op.bytesLess] at h
 | [], _ :: _, _ => rfl
 | _ :: _, [], h => by simp [Op.bytesLess] at h
 | a :: x, b :: y, h => by
   simp only [Op.bytesLess, Bool.or_eq_true, decide_eq_true_eq, Bool.and_eq_true, beq_iff_eq] at h
   simp only [Op.bytesLess, Bool.or_eq_false_iff, decide_eq_false_iff_not, Bool.and_eq_false_iff, beq_eq_false_iff_ne]
   rcases h with h | ⟨h, h'⟩
   ·exact ⟨by rw [UInt8.lt_iff_toNat_lt] at h ⊢; omega, .inl (by intro e; subst e; rw [UInt8.lt_iff_toNat_lt] at h; omega)⟩
   ·subst h
    exact ⟨by rw [UInt8.lt_iff_toNat_lt]; omega, .inr (less_asymm x y h')⟩
theorem less_total : ∀ x y : List UInt8, Op.bytesLess x y = false → Op.bytesLess y x = false → x = y
 | [], [], _, _ => rfl
 | [], _ :: _, h, _ => by simp [Op.bytesLess] at h
 | _ :: _, [], _, h => by simp [Op.bytesLess] at h
 | a :: x, b :: y, h, h' => by
   simp only [Op.bytesLess, Bool.or_eq_false_iff, decide_eq_false_iff_not, Bool.and_eq_false_iff, beq_eq_false_iff_ne, UInt8.lt_iff_toNat_lt] at h h'
   have e : a = b := by
    apply UInt8.toNat_inj.1; omega
   subst e
   rw [less_total x y (h.2.resolve_left (by simp)) (h'.2.resolve_left (by simp))]
set_option maxHeartbeats 1000000 in
theorem smay_all (A : Option Addr) (L : List Cl) (n c : Nat) (K : Int) (w : World) (hn : L.length = n) (hA : CRow w A L) (hf : ∀ x ∈ L, x.fit) :
 Calls Tryz.prog 85 #[.agg #[.slice A n c, .int .i64 K]] w fun e w' => e = .returned (.bool (smayF L K)) ∧ Hid (Below w.heap.size w w') := by
 by_cases hl : n ≤ 1000
 ·exact smay_any A L n c K w hn (by omega) hA hf
 ·have HB0 := Lib.hid ((Below.refl w.heap.size w).alloc (Nat.le_refl _) (.cells #[.slice A n c, .int .i64 K] 39))
  have HNO := Lib.hid (@smayF_no L K (by omega))
  have h1 : ¬ ((n : Int) < 1) := by omega
  have h2 : 16 < (n : Int) := by omega
  clear hn hA hl hf
  go_enter Tryz.func85, Tryz.ntmps85
  go_wp2_with fail
  go_ret
  exact ⟨by rw [HNO.out]; rfl, HB0⟩
def cmpS (x y : ByteArray) : Int := if Op.bytesLess x.toList y.toList then -1 else if Op.bytesLess y.toList x.toList then 1 else 0
set_option maxHeartbeats 400000 in
theorem nan_any (x : ByteArray) (w : World) : Calls Tryz.prog 109 #[.string x] w fun e w' => e = .returned (.bool false) ∧ w = w' := by
 go_enter Tryz.func109, Tryz.ntmps109
 go_wp2_with fail
 go_ret
 exact ⟨rfl, rfl⟩
set_option maxHeartbeats 400000 in
theorem cmpS_any (x y : ByteArray) (w : World) : Calls Tryz.prog 83 #[.string x, .string y] w fun e w' => e = .returned (.int .i64 (cmpS x y)) ∧ w = w' := by
 have HN := Lib.hid nan_any
 cases h : Op.bytesLess x.toList y.toList
 ·cases h2 : Op.bytesLess y.toList x.toList
  ·have hq : (x.toList == y.toList) = true := by rw [less_total _ _ h h2]; simp
   go_enter Tryz.func83, Tryz.ntmps83
   go_wp2_with fail
   refine (HN.out _ _).mono ?_
   rintro e w1 ⟨rfl, rfl⟩
   go_wp2_with fail
   refine (HN.out _ _).mono ?_
   rintro e w1 ⟨rfl, rfl⟩
   go_wp2_with fail
   go_ret
   exact ⟨by simp [cmpS, h, h2], rfl⟩
  ·have hq : (x.toList == y.toList) = false := by
    rw [beq_eq_false_iff_ne]
    intro e
    rw [e, less_irrefl] at h2
    cases h2
   go_enter Tryz.func83, Tryz.ntmps83
   go_wp2_with fail
   refine (HN.out _ _).mono ?_
   rintro e w1 ⟨rfl, rfl⟩
   go_wp2_with fail
   refine (HN.out _ _).mono ?_
   rintro e w1 ⟨rfl, rfl⟩
   go_wp2_with fail
   go_ret
   exact ⟨by simp [cmpS, h, h2], rfl⟩
 ·go_enter Tryz.func83, Tryz.ntmps83
  go_wp2_with fail
  refine (HN.out _ _).mono ?_
  rintro e w1 ⟨rfl, rfl⟩
  go_wp2_with fail
  refine (HN.out _ _).mono ?_
  rintro e w1 ⟨rfl, rfl⟩
  go_wp2_with fail
  go_ret
  exact ⟨by simp [cmpS, h], rfl⟩
theorem cmpS_neg (x y : ByteArray) : cmpS x y < 0 ↔ Op.bytesLess x.toList y.toList = true := by
 unfold cmpS
 cases Op.bytesLess x.toList y.toList
 ·cases Op.bytesLess y.toList x.toList <;> simp
 ·simp
theorem cmpS_zero (x y : ByteArray) : cmpS x y = 0 ↔ (x.toList == y.toList) = true := by
 unfold cmpS
 rw [beq_iff_eq]
 cases h : Op.bytesLess x.toList y.toList
 ·cases h2 : Op.bytesLess y.toList x.toList
  ·simp [less_total _ _ h h2]
  ·simp; intro e; rw [e, less_irrefl] at h2; cases h2
 ·simp; intro e; rw [e, less_irrefl] at h; cases h
theorem less_trans : ∀ x y z : List UInt8, Op.bytesLess x y = true → Op.bytesLess y z = true → Op.bytesLess x z = true
 | [], [], _, h, _ => by simp [Op.bytesLess] at h
 | [], _ :: _, [], _, h => by simp [Op.bytesLess] at h
 | [], _ :: _, _ :: _, _, _ => rfl
 | _ :: _, [], _, h, _ => by simp [Op.bytesLess] at h
 | _ :: _, _ :: _, [], _, h => by simp [Op.bytesLess] at h
 | a :: x, b :: y, c :: z, h, h' => by
   simp only [Op.bytesLess, Bool.or_eq_true, decide_eq_true_eq, Bool.and_eq_true, beq_iff_eq, UInt8.lt_iff_toNat_lt] at h h' ⊢
   rcases h with h | ⟨h, h1⟩
   ·rcases h' with h' | ⟨h', h2⟩
    ·exact .inl (by omega)
    ·subst h'; exact .inl h
   ·subst h
    rcases h' with h' | ⟨h', h2⟩
    ·exact .inl h'
    ·exact .inr ⟨h', less_trans x y z h1 h2⟩
def SortT (T : List Tb) : Prop := ∀ i j (hij : i < j) (hj : j < T.length), Op.bytesLess T[i].nm.toList T[j].nm.toList = true
def lbN (T : List Tb) (s : ByteArray) : Nat := T.findIdx fun x => !Op.bytesLess x.nm.toList s.toList
def plF (T : List Tb) (s : ByteArray) : Bool := match T[lbN T s]? with | some x => x.nm.toList == s.toList | none => false
theorem lb_le (T : List Tb) (s : ByteArray) : lbN T s ≤ T.length := List.findIdx_le_length
theorem lb_lo {T : List Tb} {s : ByteArray} {t : Nat} (h : t < lbN T s) (ht : t < T.length) : Op.bytesLess T[t].nm.toList s.toList = true := by
 have := List.not_of_lt_findIdx h
 simpa using this
theorem lb_hi {T : List Tb} {s : ByteArray} (hS : SortT T) {t : Nat} (h : lbN T s ≤ t) (ht : t < T.length) : Op.bytesLess T[t].nm.toList s.toList = false := by
 have hk : lbN T s < T.length := by omega
 have h0 : (!Op.bytesLess (T[lbN T s]'hk).nm.toList s.toList) = true := List.findIdx_getElem (w := hk)
 rw [Bool.not_eq_true'] at h0
 rcases Nat.lt_or_eq_of_le h with h1 | h1
 ·cases h2 : Op.bytesLess T[t].nm.toList s.toList
  ·rfl
  ·have := less_trans _ _ _ (hS _ _ h1 ht) h2
   rw [h0] at this; cases this
 ·subst h1; exact h0
theorem lb_is {T : List Tb} {s : ByteArray} {k : Nat} (hk : k ≤ T.length) (h1 : ∀ t (ht : t < k), Op.bytesLess (T[t]'(by omega)).nm.toList s.toList = true) (h2 : ∀ t (_ : k ≤ t) (ht : t < T.length), Op.bytesLess T[t].nm.toList s.toList = false) : lbN T s = k := by
 rcases Nat.lt_trichotomy (lbN T s) k with h | h | h
 ·have hl : lbN T s < T.length := by omega
  have h0 : (!Op.bytesLess (T[lbN T s]'hl).nm.toList s.toList) = true := List.findIdx_getElem (w := hl)
  rw [h1 _ h] at h0; cases h0
 ·exact h
 ·have hl := lb_le T s
  have := lb_lo h (by omega)
  rw [h2 k (Nat.le_refl _) (by omega)] at this; cases this
theorem plF_at {T : List Tb} {s : ByteArray} (h : lbN T s < T.length) : plF T s = ((T[lbN T s]'h).nm.toList == s.toList) := by
 unfold plF; rw [List.getElem?_eq_getElem h]
theorem plF_out {T : List Tb} {s : ByteArray} (h : ¬ lbN T s < T.length) : plF T s = false := by
 unfold plF; rw [List.getElem?_eq_none (by omega)]
theorem plF_tat {T : List Tb} {s : ByteArray} (h : plF T s = true) : lbN T s < T.length ∧ tatN T s = lbN T s := by
 by_cases hl : lbN T s < T.length
 ·rw [plF_at hl] at h
  refine ⟨hl, tatN_at hl h fun j hj => ?_⟩
  rw [beq_eq_false_iff_ne]
  intro e
  have h1 := lb_lo hj (by omega)
  rw [e, less_irrefl] at h1; cases h1
 ·rw [plF_out hl] at h; cases h
theorem plF_tat' {T : List Tb} {s : ByteArray} (hS : SortT T) (h : plF T s = false) : ¬ tatN T s < T.length := by
 intro hl
 have he : (T[tatN T s].nm.toList == s.toList) = true := List.findIdx_getElem (w := hl)
 have hn : lbN T s = tatN T s := lb_is (Nat.le_of_lt hl) (fun t ht => by rw [← eq_of_beq he]; exact hS _ _ ht hl) (fun t h1 ht => by
  rw [← eq_of_beq he]
  rcases Nat.lt_or_eq_of_le h1 with h2 | h2
  ·exact less_asymm _ _ (hS _ _ h2 ht)
  ·subst h2; exact less_irrefl _)
 rw [plF_at (by rw [hn]; exact hl)] at h
 simp only [hn] at h
 rw [he] at h; cases h
set_option maxHeartbeats 1000000 in
theorem plOne_any (nm : ByteArray) (A : Option Addr) (n c : Nat) (K : Int) (s : ByteArray) (w : World) :
 Calls Tryz.prog 82 #[.agg #[.string nm, .slice A n c, .int .i64 K], .string s] w fun e w' => e = .returned (.int .i64 (cmpS nm s)) ∧ Hid (Below w.heap.size w w') := by
 have HB := Lib.hid ((Below.refl w.heap.size w).alloc (Nat.le_refl _) (.cells #[.string nm, .slice A n c, .int .i64 K] 41))
 go_enter Tryz.func82, Tryz.ntmps82
 go_wp2_with fail
 refine (cmpS_any nm s _).mono ?_
 rintro e w1 ⟨rfl, rfl⟩
 go_wp2_with fail
 go_ret
 exact ⟨rfl, HB⟩
set_option maxHeartbeats 4000000 in
theorem bsf_any (A : Option Addr) (T : List Tb) (n c : Nat) (s : ByteArray) (w : World) (hn : T.length = n) (hl : n ≤ 1000) (hA : TRow w A T) (hS : SortT T) :
 Calls Tryz.prog 81 #[.slice A n c, .string s, .func (.func 82) #[] #[]] w fun e w' => e = .returned (.tuple #[.int .i64 (lbN T s : Nat), .bool (plF T s)]) ∧ Hid (Below w.heap.size w w') := by
 have HN := Lib.hid hn
 have HA := Lib.hid hA
 have HS := Lib.hid hS
 clear hn hA hS
 go_enter Tryz.func81, Tryz.ntmps81
 go_wp2_with fail
 go_loopw [9, 10] (fun i j wr => ∃ lo hi : Nat, i = .int .i64 lo ∧ j = .int .i64 hi ∧ lo ≤ hi ∧ hi ≤ n ∧ Hid (∀ t (_ : t < lo) (ht : t < T.length), Op.bytesLess T[t].nm.toList s.toList = true) ∧ Hid (∀ t (_ : hi ≤ t) (ht : t < T.length), Op.bytesLess T[t].nm.toList s.toList = false) ∧ Hid (Below w.heap.size w wr)) (fun i j _ => (intOf j).toNat - (intOf i).toNat)
 case atStart => exact ⟨0, n, rfl, rfl, by omega, by omega, (fun t ht => absurd ht (by omega)), (fun t h1 h2 => absurd h2 (by rw [HN.out]; omega)), Below.refl _ _⟩
 case round =>
  obtain ⟨lo, hi, rfl, rfl, hlh, hin, HL, HH, HB⟩ := hrel
  by_cases hlt : lo < hi
  ·have hkl : (lo + hi) / 2 < T.length := by rw [HN.out]; omega
   obtain ⟨b, off, rfl, hc⟩ := (HA.out.below HB.out) (by intro e; rw [e] at hkl; simp at hkl)
   obtain ⟨c0, c1, c2⟩ := hc _ hkl
   have hm1 : (lo + hi) / 2 < n := by omega
   have HC := Lib.hid (plOne_any T[(lo + hi) / 2].nm T[(lo + hi) / 2].A T[(lo + hi) / 2].n T[(lo + hi) / 2].c T[(lo + hi) / 2].K s wr)
   have HX1 : Hid (Op.bytesLess T[(lo + hi) / 2].nm.toList s.toList = true → ∀ t (_ : t < (lo + hi) / 2 + 1) (ht : t < T.length), Op.bytesLess T[t].nm.toList s.toList = true) := fun he t h1 ht => by
    rcases Nat.lt_or_eq_of_le (Nat.le_of_lt_succ h1) with h2 | h2
    ·exact less_trans _ _ _ (HS.out _ _ h2 hkl) he
    ·subst h2; exact he
   have HX2 : Hid (Op.bytesLess T[(lo + hi) / 2].nm.toList s.toList = false → ∀ t (_ : (lo + hi) / 2 ≤ t) (ht : t < T.length), Op.bytesLess T[t].nm.toList s.toList = false) := fun he t h1 ht => by
    rcases Nat.lt_or_eq_of_le h1 with h2 | h2
    ·cases h3 : Op.bytesLess T[t].nm.toList s.toList
     ·rfl
     ·rw [less_trans _ _ _ (HS.out _ _ h2 ht) h3] at he; cases he
    ·subst h2; exact he
   have HQ := Lib.hid (cmpS_neg T[(lo + hi) / 2].nm s)
   clear hc
   generalize T[(lo + hi) / 2] = x at *
   obtain ⟨xs, xA, xn, xc, xL, xK⟩ := x
   simp only at c0 c1 c2 HC HX1 HX2 HQ
   generalize cmpS xs s = q at *
   by_cases hq : q < 0
   ·go_wp2_with fail
    go_at_call 82
    refine HC.out.mono ?_
    rintro e w1 ⟨rfl, hb1⟩
    have HB1 := Lib.hid (HB.out.trans (hb1.out.mono HB.out.size))
    clear hb1 c0 c1 c2
    go_wp2_with fail
    go_roundw
    case rel => exact ⟨(lo + hi) / 2 + 1, hi, by go_num, rfl, by omega, by omega, HX1.out (HQ.out.1 hq), HH, HB1⟩
    case measure => simp [intOf]; omega
   ·go_wp2_with fail
    go_at_call 82
    refine HC.out.mono ?_
    rintro e w1 ⟨rfl, hb1⟩
    have HB1 := Lib.hid (HB.out.trans (hb1.out.mono HB.out.size))
    clear hb1 c0 c1 c2
    go_wp2_with fail
    go_roundw
    case rel => exact ⟨lo, (lo + hi) / 2, rfl, by go_num, by omega, by omega, HL, HX2.out (by rw [← Bool.not_eq_true]; exact fun h => by have := HQ.out.2 h; omega), HB1⟩
    case measure => simp [intOf]; omega
  ·obtain rfl : hi = lo := by omega
   have HLB := Lib.hid (lb_is (T := T) (s := s) (k := hi) (by rw [HN.out]; omega) (fun t ht => HL.out t ht _) (fun t h1 ht => HH.out t h1 ht))
   by_cases hn2 : hi < n
   ·have hkl : hi < T.length := by rw [HN.out]; omega
    obtain ⟨b, off, rfl, hc⟩ := (HA.out.below HB.out) (by intro e; rw [e] at hkl; simp at hkl)
    obtain ⟨c0, c1, c2⟩ := hc _ hkl
    have HC := Lib.hid (plOne_any T[hi].nm T[hi].A T[hi].n T[hi].c T[hi].K s wr)
    have HQ := Lib.hid (cmpS_zero T[hi].nm s)
    have HP := plF_at (T := T) (s := s) (by rw [HLB.out]; exact hkl)
    simp only [HLB.out] at HP
    have HP := Lib.hid HP
    clear hc
    generalize T[hi] = x at *
    obtain ⟨xs, xA, xn, xc, xL, xK⟩ := x
    simp only at c0 c1 c2 HC HQ HP
    generalize cmpS xs s = q at *
    by_cases hq : q = 0
    ·have HP2 : Hid (plF T s = true) := HP.out.trans (HQ.out.1 hq)
     go_wp2_with fail
     go_at_call 82
     refine HC.out.mono ?_
     rintro e w1 ⟨rfl, hb1⟩
     have HB1 := Lib.hid (HB.out.trans (hb1.out.mono HB.out.size))
     clear hb1 c0 c1 c2
     go_wp2_with fail
     go_ret2
     exact ⟨by rw [HLB.out, HP2.out]; try rfl, HB1⟩
    ·have HP2 : Hid (plF T s = false) := HP.out.trans (by rw [← Bool.not_eq_true]; exact fun h => by have := HQ.out.2 h; omega)
     go_wp2_with fail
     go_at_call 82
     refine HC.out.mono ?_
     rintro e w1 ⟨rfl, hb1⟩
     have HB1 := Lib.hid (HB.out.trans (hb1.out.mono HB.out.size))
     clear hb1 c0 c1 c2
     go_wp2_with fail
     go_ret2
     have hqb : (q == 0) = false := by simp [hq]
     exact ⟨by rw [HLB.out, HP2.out]; show Ending.returned (.tuple #[.int .i64 (hi : Int), .bool (q == 0)]) = _; rw [hqb], HB1⟩
   ·have HP2 := Lib.hid (plF_out (T := T) (s := s) (by rw [HLB.out, HN.out]; exact hn2))
    go_wp2_with fail
    go_ret2
    exact ⟨by rw [HLB.out, HP2.out]; try rfl, HB⟩
set_option maxHeartbeats 1000000 in
theorem place_any (A : Option Addr) (T : List Tb) (n c : Nat) (s : ByteArray) (w : World) (hn : T.length = n) (hl : n ≤ 1000) (hA : TRow w A T) (hS : SortT T) :
 Calls Tryz.prog 53 #[.slice A n c, .string s] w fun e w' => e = .returned (.tuple #[.int .i64 (lbN T s : Nat), .bool (plF T s)]) ∧ Hid (Below w.heap.size w w') := by
 have HC := fun W (hW : Hid (W = w)) => (bsf_any A T n c s W hn hl (by rw [hW.out]; exact hA) hS)
 have HC := Lib.hid HC
 clear hn hA hS
 go_enter Tryz.func53, Tryz.ntmps53
 go_wp2_with fail
 refine (HC.out _ rfl).mono ?_
 rintro e w1 ⟨rfl, HB⟩
 go_wp2_with fail
 go_ret2
 exact ⟨rfl, HB⟩
structure Td where
 nm : ByteArray
 L : List Cl
 K : Int
def Tb.td (x : Tb) : Td := ⟨x.nm, x.L, x.K⟩
def tds (T : List Tb) : List Td := T.map Tb.td
def lbD (D : List Td) (s : ByteArray) : Nat := D.findIdx fun x => !Op.bytesLess x.nm.toList s.toList
def plD (D : List Td) (s : ByteArray) : Bool := match D[lbD D s]? with | some x => x.nm.toList == s.toList | none => false
theorem lbN_d (T : List Tb) (s : ByteArray) : lbN T s = lbD (tds T) s := by
 unfold lbN lbD tds
 rw [List.findIdx_map]
 rfl
theorem plF_d (T : List Tb) (s : ByteArray) : plF T s = plD (tds T) s := by
 unfold plF plD
 rw [lbN_d]
 unfold tds
 rw [List.getElem?_map]
 cases T[lbD (T.map Tb.td) s]? <;> rfl
theorem tds_len (T : List Tb) : (tds T).length = T.length := List.length_map _
theorem tds_get (T : List Tb) (i : Nat) (h : i < T.length) : (tds T)[i]'(by rw [tds_len]; exact h) = T[i].td := List.getElem_map _
theorem tds_ins (T : List Tb) (x : Tb) (i j : Nat) : tds (T.take i ++ [x] ++ T.drop j) = (tds T).take i ++ [x.td] ++ (tds T).drop j := by
 unfold tds; simp [List.map_append, List.map_take, List.map_drop]
theorem tds_del (T : List Tb) (i j : Nat) : tds (T.take i ++ T.drop j) = (tds T).take i ++ (tds T).drop j := by
 unfold tds; simp [List.map_append, List.map_take, List.map_drop]
def SortD (D : List Td) : Prop := D.Pairwise fun x y => Op.bytesLess x.nm.toList y.nm.toList = true
theorem sort_d (T : List Tb) : SortT T ↔ SortD (tds T) := by
 unfold SortT SortD
 rw [List.pairwise_iff_getElem]
 constructor
 ·intro h i j hi hj hij
  rw [tds_len] at hi hj
  rw [tds_get T i hi, tds_get T j hj]
  exact h i j hij hj
 ·intro h i j hij hj
  have := h i j (by rw [tds_len]; omega) (by rw [tds_len]; exact hj) hij
  rw [tds_get T i (by omega), tds_get T j hj] at this
  exact this
theorem sortD_ins {D : List Td} {x : Td} (h : SortD D) (hp : plD D x.nm = false) : SortD (D.take (lbD D x.nm) ++ [x] ++ D.drop (lbD D x.nm)) := by
 have hlo : ∀ y ∈ D.take (lbD D x.nm), Op.bytesLess y.nm.toList x.nm.toList = true := fun y hy => by
  obtain ⟨i, hi, rfl⟩ := List.getElem_of_mem hy
  rw [List.length_take] at hi
  rw [List.getElem_take]
  have := List.not_of_lt_findIdx (xs := D) (p := fun y => !Op.bytesLess y.nm.toList x.nm.toList) (show i < lbD D x.nm by omega)
  simpa using this
 have hhi : ∀ y ∈ D.drop (lbD D x.nm), Op.bytesLess x.nm.toList y.nm.toList = true := fun y hy => by
  obtain ⟨i, hi, rfl⟩ := List.getElem_of_mem hy
  rw [List.length_drop] at hi
  rw [List.getElem_drop]
  have hk : lbD D x.nm < D.length := by omega
  have h0 : (!Op.bytesLess (D[lbD D x.nm]'hk).nm.toList x.nm.toList) = true := List.findIdx_getElem (w := hk)
  rw [Bool.not_eq_true'] at h0
  have h1 : ((D[lbD D x.nm]'hk).nm.toList == x.nm.toList) = false := by
   unfold plD at hp; rw [List.getElem?_eq_getElem hk] at hp; exact hp
  have h2 : Op.bytesLess x.nm.toList (D[lbD D x.nm]'hk).nm.toList = true := by
   cases h3 : Op.bytesLess x.nm.toList (D[lbD D x.nm]'hk).nm.toList
   ·have := less_total _ _ h0 h3
    rw [this] at h1; simp at h1
   ·rfl
  rcases Nat.eq_zero_or_pos i with rfl | hi0
  ·simpa using h2
  ·exact less_trans _ _ _ h2 ((List.pairwise_iff_getElem.1 h) _ _ hk (by omega) (by omega))
 unfold SortD at *
 rw [List.append_assoc, List.pairwise_append]
 refine ⟨h.sublist (List.take_sublist _ _), ?_, ?_⟩
 ·rw [List.singleton_append, List.pairwise_cons]
  exact ⟨hhi, h.sublist (List.drop_sublist _ _)⟩
 ·intro a ha b hb
  rw [List.singleton_append, List.mem_cons] at hb
  rcases hb with rfl | hb
  ·exact hlo a ha
  ·exact less_trans _ _ _ (hlo a ha) (hhi b hb)
theorem sortD_del {D : List Td} (h : SortD D) (i : Nat) : SortD (D.take i ++ D.drop (i + 1)) := by
 unfold SortD at *
 refine h.sublist ?_
 conv => rhs; rw [← List.take_append_drop i D]
 exact List.Sublist.append_left (by rw [← List.drop_drop]; exact List.drop_sublist _ _) _
theorem sortD_rep {D : List Td} (h : SortD D) {i : Nat} (hi : i < D.length) {x : Td} (hx : x.nm = D[i].nm) : SortD (D.take i ++ [x] ++ D.drop (i + 1)) := by
 have e : D.take i ++ [x] ++ D.drop (i + 1) = D.set i x := by
  apply List.ext_getElem
  ·simp; omega
  ·intro j h1 h2
   rw [List.getElem_set]
   by_cases hj : i = j
   ·subst hj
    rw [if_pos rfl]
    have : (D.take i ++ [x]).length = i + 1 := by simp; omega
    rw [List.getElem_append_left (by omega), List.getElem_append_right (by simp; omega)]
    simp
   ·rw [if_neg hj]
    by_cases hji : j < i
    ·rw [List.getElem_append_left (by simp; omega), List.getElem_append_left (by simp; omega), List.getElem_take]
    ·rw [List.getElem_append_right (by simp; omega), List.getElem_drop]
     congr 1
     simp; omega
 rw [e]
 unfold SortD at *
 rw [List.pairwise_iff_getElem] at *
 intro a b ha hb hab
 rw [List.length_set] at ha hb
 have key := h a b ha hb hab
 rw [List.getElem_set, List.getElem_set]
 split <;> split
 ·omega
 ·next h1 _ => subst h1; rw [hx]; exact key
 ·next h1 => subst h1; rw [hx]; exact key
 ·exact key
structure Dn where
 f : Nat
 t : Nat
 m : Nat
 e : Int
def Dn.val (d : Dn) : Value := .tuple #[.agg #[.int .i64 d.f, .int .i64 d.t, .int .i64 d.m], .int .i64 d.e]
def Dn.bad (e : Int) : Dn := ⟨0, 0, 0, e⟩
def addF (L : List Cl) (cn : ByteArray) (kd : Int) (no : Bool) : Dn :=
 if (nameF cn && kindF kd && no) = false then .bad 1 else if 0 ≤ findI L cn then .bad 8 else if 16 ≤ L.length then .bad 10 else ⟨L.length, L.length, 1, 0⟩
def cutF (L : List Cl) (K : Int) (cn : ByteArray) : Dn :=
 if findI L cn < 0 then .bad 7 else if findI L cn < K then .bad 10 else ⟨(findI L cn).toNat, (findI L cn).toNat + 1, 0, 0⟩
def noneAt (L : List Cl) (i : Int) : Bool := match L[i.toNat]? with | some c => c.no | none => false
def retF (L : List Cl) (K : Int) (cn : ByteArray) (kd : Int) : Dn :=
 if findI L cn < 0 then .bad 7 else if findI L cn < K ∨ noneAt L (findI L cn) = false then .bad 10 else if kindF kd = false then .bad 1 else ⟨(findI L cn).toNat, (findI L cn).toNat + 1, 1, 0⟩
theorem findI_lt (L : List Cl) (s : ByteArray) : findI L s < L.length := by
 unfold findI; split <;> omega
theorem findI_ge (L : List Cl) (s : ByteArray) : -1 ≤ findI L s := by
 unfold findI; split <;> omega
theorem doneEnd {fn : Func} {p u : Tmp} (h : fn.results = #[.cell p 141, .tmp u]) (w' : World) (g : Nat) (c0 c1 c2 : Value) (tmps : Array Value) (hp : tmps.getD p undef = .pointer (some ⟨g, 0, none⟩)) (hh : Has w' g 141 #[c0, c1, c2]) :
 (results fn tmps).run Tryz.prog w' = .ok (.tuple #[.agg #[c0, c1, c2], tmps.getD u undef]) w' := by
 rw [results_cell_tmp h, hp]
 simp only [asAddr, Sem.run_pure, Result.andThen_ok]
 rw [run_loadVar_row w' g 141 141 #[c0, c1, c2] (0, 0) _ hh Tryz.underlying141 rfl (by kernel_rfl)]
 rfl
set_option maxHeartbeats 4000000 in
set_option maxRecDepth 100000 in
theorem cut_any (A : Option Addr) (L : List Cl) (n c : Nat) (K : Int) (cn : ByteArray) (kd : Int) (no : Bool) (w : World) (hn : L.length = n) (hl : n ≤ 900) (_hcn : cn.size ≤ 140737488355328) (hA : CRow w A L) :
 Calls Tryz.prog 115 #[.agg #[.slice A n c, .int .i64 K, .string cn, .int .i64 kd, .bool no]] w fun e w' => e = .returned (cutF L K cn).val ∧ Hid (Below w.heap.size w w') := by
 have hlt := findI_lt L cn
 have hge := findI_ge L cn
 rw [hn] at hlt
 have HN := Lib.hid hn
 have HA := Lib.hid hA
 have HB0 := Lib.hid (((Below.refl w.heap.size w).alloc (Nat.le_refl _) (.cells #[.slice A n c, .int .i64 K, .string cn, .int .i64 kd, .bool no] 170)).alloc (by simp) (.cells #[.int .i64 0, .int .i64 0, .int .i64 0] 141))
 have HQ0 := Lib.hid ((Has.new w 170 #[.slice A n c, .int .i64 K, .string cn, .int .i64 kd, .bool no]).alloc (.cells #[.int .i64 0, .int .i64 0, .int .i64 0] 141))
 have hg := Has.new (w.alloc (.cells #[.slice A n c, .int .i64 K, .string cn, .int .i64 kd, .bool no] 170)) 141 #[.int .i64 0, .int .i64 0, .int .i64 0]
 rw [show (w.alloc (.cells #[.slice A n c, .int .i64 K, .string cn, .int .i64 kd, .bool no] 170)).heap.size = w.heap.size + 1 by simp] at hg
 have HG0 := Lib.hid hg
 clear hn hA hg
 have HD : Hid (cutF L K cn = if findI L cn < 0 then .bad 7 else if findI L cn < K then .bad 10 else ⟨(findI L cn).toNat, (findI L cn).toNat + 1, 0, 0⟩) := rfl
 go_enter Tryz.func115, Tryz.ntmps115
 go_wp2_with fail
 refine (find_any A L n c K cn _ HN.out (by omega) (HA.out.below HB0.out)).mono ?_
 rintro e w1 ⟨rfl, hb⟩
 have HB1 := Lib.hid (HB0.out.trans (hb.out.mono HB0.out.size))
 have HQ1 := Lib.hid (HQ0.out.below hb.out HQ0.out.lt)
 have HG1 := Lib.hid (HG0.out.below hb.out HG0.out.lt)
 clear hb HQ0 HG0
 have a0 := HQ1.out.cell 0
 have a1 := HQ1.out.cell 1
 have a2 := HQ1.out.cell 2
 have a3 := HQ1.out.cell 3
 have a4 := HQ1.out.cell 4
 have g0 := HG1.out.cell 0
 have g1 := HG1.out.cell 1
 have g2 := HG1.out.cell 2
 have e0 := HG1.out.free 0
 have e1 := HG1.out.free 1
 have e2 := HG1.out.free 2
 simp at a0 a1 a2 a3 a4 g0 g1 g2
 generalize findI L cn = i at *
 by_cases h1 : i < 0
 ·have HE : Hid (cutF L K cn = .bad 7) := by show _ = _; rw [HD.out, if_pos h1]
  have HP := Lib.hid (((HG1.out.put 0 (.int .i64 0)).put 1 (.int .i64 0)).put 2 (.int .i64 0))
  go_wp2_with fail
  exact bodyPost_ret (doneEnd rfl _ (w.heap.size + 1) _ _ _ _ rfl HP.out) rfl ⟨by rw [HE.out]; rfl, ((HB1.out.setCell (by simp) _).setCell (by simp) _).setCell (by simp) _⟩
 ·by_cases h2 : i < K
  ·have HE : Hid (cutF L K cn = .bad 10) := by show _ = _; rw [HD.out, if_neg h1, if_pos h2]
   have HP := Lib.hid (((HG1.out.put 0 (.int .i64 0)).put 1 (.int .i64 0)).put 2 (.int .i64 0))
   go_wp2_with fail
   exact bodyPost_ret (doneEnd rfl _ (w.heap.size + 1) _ _ _ _ rfl HP.out) rfl ⟨by rw [HE.out]; rfl, ((HB1.out.setCell (by simp) _).setCell (by simp) _).setCell (by simp) _⟩
  ·have HE : Hid (cutF L K cn = ⟨i.toNat, i.toNat + 1, 0, 0⟩) := by show _ = _; rw [HD.out, if_neg h1, if_neg h2]
   obtain ⟨j, rfl⟩ : ∃ j : Nat, i = j := ⟨i.toNat, by omega⟩
   simp only [Int.toNat_natCast] at HE
   have HP := Lib.hid (((HG1.out.put 0 (.int .i64 j)).put 1 (.int .i64 (j + 1 : Nat))).put 2 (.int .i64 0))
   go_wp2_with fail
   exact bodyPost_ret (doneEnd rfl _ (w.heap.size + 1) _ _ _ _ rfl HP.out) rfl ⟨by rw [HE.out]; rfl, ((HB1.out.setCell (by simp) _).setCell (by simp) _).setCell (by simp) _⟩
set_option maxHeartbeats 4000000 in
set_option maxRecDepth 100000 in
theorem add_any (A : Option Addr) (L : List Cl) (n c : Nat) (K : Int) (cn : ByteArray) (kd : Int) (no : Bool) (w : World) (hn : L.length = n) (hl : n ≤ 900) (hcn : cn.size ≤ 140737488355328) (hA : CRow w A L) :
 Calls Tryz.prog 114 #[.agg #[.slice A n c, .int .i64 K, .string cn, .int .i64 kd, .bool no]] w fun e w' => e = .returned (addF L cn kd no).val ∧ Hid (Below w.heap.size w w') := by
 have hlt := findI_lt L cn
 have hge := findI_ge L cn
 rw [hn] at hlt
 have HN := Lib.hid hn
 have HA := Lib.hid hA
 have HB0 := Lib.hid (((Below.refl w.heap.size w).alloc (Nat.le_refl _) (.cells #[.slice A n c, .int .i64 K, .string cn, .int .i64 kd, .bool no] 170)).alloc (by simp) (.cells #[.int .i64 0, .int .i64 0, .int .i64 0] 141))
 have HQ0 := Lib.hid ((Has.new w 170 #[.slice A n c, .int .i64 K, .string cn, .int .i64 kd, .bool no]).alloc (.cells #[.int .i64 0, .int .i64 0, .int .i64 0] 141))
 have hg := Has.new (w.alloc (.cells #[.slice A n c, .int .i64 K, .string cn, .int .i64 kd, .bool no] 170)) 141 #[.int .i64 0, .int .i64 0, .int .i64 0]
 rw [show (w.alloc (.cells #[.slice A n c, .int .i64 K, .string cn, .int .i64 kd, .bool no] 170)).heap.size = w.heap.size + 1 by simp] at hg
 have HG0 := Lib.hid hg
 clear hn hA hg
 have HD : Hid (addF L cn kd no = if (nameF cn && kindF kd && no) = false then .bad 1 else if 0 ≤ findI L cn then .bad 8 else if 16 ≤ n then .bad 10 else ⟨n, n, 1, 0⟩) := by show _ = _; rw [← HN.out]; rfl
 have q0 := HQ0.out.cell 0
 simp at q0
 go_enter Tryz.func114, Tryz.ntmps114
 go_wp2_with fail
 clear q0
 refine (name_any cn _ hcn).mono ?_
 rintro e w1 ⟨rfl, hb⟩
 have HB1 := Lib.hid (HB0.out.trans (hb.out.mono HB0.out.size))
 have HQ1 := Lib.hid (HQ0.out.below hb.out HQ0.out.lt)
 have HG1 := Lib.hid (HG0.out.below hb.out HG0.out.lt)
 clear hb HQ0 HG0
 have a0 := HQ1.out.cell 0
 have a1 := HQ1.out.cell 1
 have a2 := HQ1.out.cell 2
 have a3 := HQ1.out.cell 3
 have a4 := HQ1.out.cell 4
 have g0 := HG1.out.cell 0
 have g1 := HG1.out.cell 1
 have g2 := HG1.out.cell 2
 have e0 := HG1.out.free 0
 have e1 := HG1.out.free 1
 have e2 := HG1.out.free 2
 simp at a0 a1 a2 a3 a4 g0 g1 g2
 generalize nameF cn = q1 at *
 cases q1
 ·have HE : Hid (addF L cn kd no = .bad 1) := by show _ = _; rw [HD.out, if_pos (by rfl)]
  have HP := Lib.hid (((HG1.out.put 0 (.int .i64 0)).put 1 (.int .i64 0)).put 2 (.int .i64 0))
  go_wp2_with fail
  exact bodyPost_ret (doneEnd rfl _ (w.heap.size + 1) _ _ _ _ rfl HP.out) rfl ⟨by rw [HE.out]; rfl, ((HB1.out.setCell (by simp) _).setCell (by simp) _).setCell (by simp) _⟩
 ·go_wp2_with fail
  refine (ofColumn_any kd w1).mono ?_
  rintro e w2 ⟨rfl, rfl⟩
  generalize kindF kd = q2 at *
  cases q2
  ·have HE : Hid (addF L cn kd no = .bad 1) := by show _ = _; rw [HD.out, if_pos (by rfl)]
   have HP := Lib.hid (((HG1.out.put 0 (.int .i64 0)).put 1 (.int .i64 0)).put 2 (.int .i64 0))
   go_wp2_with fail
   exact bodyPost_ret (doneEnd rfl _ (w.heap.size + 1) _ _ _ _ rfl HP.out) rfl ⟨by rw [HE.out]; rfl, ((HB1.out.setCell (by simp) _).setCell (by simp) _).setCell (by simp) _⟩
  ·cases no
   ·have HE : Hid (addF L cn kd false = .bad 1) := by show _ = _; rw [HD.out, if_pos (by rfl)]
    have HP := Lib.hid (((HG1.out.put 0 (.int .i64 0)).put 1 (.int .i64 0)).put 2 (.int .i64 0))
    go_wp2_with fail
    exact bodyPost_ret (doneEnd rfl _ (w.heap.size + 1) _ _ _ _ rfl HP.out) rfl ⟨by rw [HE.out]; rfl, ((HB1.out.setCell (by simp) _).setCell (by simp) _).setCell (by simp) _⟩
   ·go_wp2_with fail
    refine (find_any A L n c K cn _ HN.out (by omega) (HA.out.below HB1.out)).mono ?_
    rintro e w2 ⟨rfl, hb⟩
    have HB2 := Lib.hid (HB1.out.trans (hb.out.mono HB1.out.size))
    have HQ2 := Lib.hid (HQ1.out.below hb.out HQ1.out.lt)
    have HG2 := Lib.hid (HG1.out.below hb.out HG1.out.lt)
    clear hb HQ1 HG1 a0 a1 a2 a3 a4 g0 g1 g2 e0 e1 e2
    have a0 := HQ2.out.cell 0
    have a1 := HQ2.out.cell 1
    have a2 := HQ2.out.cell 2
    have a3 := HQ2.out.cell 3
    have a4 := HQ2.out.cell 4
    have g0 := HG2.out.cell 0
    have g1 := HG2.out.cell 1
    have g2 := HG2.out.cell 2
    have e0 := HG2.out.free 0
    have e1 := HG2.out.free 1
    have e2 := HG2.out.free 2
    simp at a0 a1 a2 a3 a4 g0 g1 g2
    generalize findI L cn = i at *
    by_cases h1 : 0 ≤ i
    ·have HE : Hid (addF L cn kd true = .bad 8) := by show _ = _; rw [HD.out, if_neg (by simp), if_pos h1]
     have HP := Lib.hid (((HG2.out.put 0 (.int .i64 0)).put 1 (.int .i64 0)).put 2 (.int .i64 0))
     go_wp2_with fail
     exact bodyPost_ret (doneEnd rfl _ (w.heap.size + 1) _ _ _ _ rfl HP.out) rfl ⟨by rw [HE.out]; rfl, ((HB2.out.setCell (by simp) _).setCell (by simp) _).setCell (by simp) _⟩
    ·have h1' : i < 0 := by omega
     by_cases h2 : 16 ≤ n
     ·have HE : Hid (addF L cn kd true = .bad 10) := by show _ = _; rw [HD.out, if_neg (by simp), if_neg h1, if_pos h2]
      have HP := Lib.hid (((HG2.out.put 0 (.int .i64 0)).put 1 (.int .i64 0)).put 2 (.int .i64 0))
      go_wp2_with fail
      exact bodyPost_ret (doneEnd rfl _ (w.heap.size + 1) _ _ _ _ rfl HP.out) rfl ⟨by rw [HE.out]; rfl, ((HB2.out.setCell (by simp) _).setCell (by simp) _).setCell (by simp) _⟩
     ·have HE : Hid (addF L cn kd true = ⟨n, n, 1, 0⟩) := by show _ = _; rw [HD.out, if_neg (by simp), if_neg h1, if_neg h2]
      have h2' : (n : Int) < 16 := by omega
      have HP := Lib.hid (((HG2.out.put 0 (.int .i64 n)).put 1 (.int .i64 n)).put 2 (.int .i64 1))
      go_wp2_with fail
      exact bodyPost_ret (doneEnd rfl _ (w.heap.size + 1) _ _ _ _ rfl HP.out) rfl ⟨by rw [HE.out]; rfl, ((HB2.out.setCell (by simp) _).setCell (by simp) _).setCell (by simp) _⟩
set_option maxHeartbeats 4000000 in
set_option maxRecDepth 100000 in
theorem retype_any (A : Option Addr) (L : List Cl) (n c : Nat) (K : Int) (cn : ByteArray) (kd : Int) (no : Bool) (w : World) (hn : L.length = n) (hl : n ≤ 900) (_hcn : cn.size ≤ 140737488355328) (hA : CRow w A L) :
 Calls Tryz.prog 116 #[.agg #[.slice A n c, .int .i64 K, .string cn, .int .i64 kd, .bool no]] w fun e w' => e = .returned (retF L K cn kd).val ∧ Hid (Below w.heap.size w w') := by
 have hlt := findI_lt L cn
 have hge := findI_ge L cn
 rw [hn] at hlt
 have HN := Lib.hid hn
 have HA := Lib.hid hA
 have HB0 := Lib.hid (((Below.refl w.heap.size w).alloc (Nat.le_refl _) (.cells #[.slice A n c, .int .i64 K, .string cn, .int .i64 kd, .bool no] 170)).alloc (by simp) (.cells #[.int .i64 0, .int .i64 0, .int .i64 0] 141))
 have HQ0 := Lib.hid ((Has.new w 170 #[.slice A n c, .int .i64 K, .string cn, .int .i64 kd, .bool no]).alloc (.cells #[.int .i64 0, .int .i64 0, .int .i64 0] 141))
 have hg := Has.new (w.alloc (.cells #[.slice A n c, .int .i64 K, .string cn, .int .i64 kd, .bool no] 170)) 141 #[.int .i64 0, .int .i64 0, .int .i64 0]
 rw [show (w.alloc (.cells #[.slice A n c, .int .i64 K, .string cn, .int .i64 kd, .bool no] 170)).heap.size = w.heap.size + 1 by simp] at hg
 have HG0 := Lib.hid hg
 clear hn hA hg
 have HD : Hid (retF L K cn kd = if findI L cn < 0 then .bad 7 else if findI L cn < K ∨ noneAt L (findI L cn) = false then .bad 10 else if kindF kd = false then .bad 1 else ⟨(findI L cn).toNat, (findI L cn).toNat + 1, 1, 0⟩) := rfl
 go_enter Tryz.func116, Tryz.ntmps116
 go_wp2_with fail
 refine (find_any A L n c K cn _ HN.out (by omega) (HA.out.below HB0.out)).mono ?_
 rintro e w1 ⟨rfl, hb⟩
 have HB1 := Lib.hid (HB0.out.trans (hb.out.mono HB0.out.size))
 have HQ1 := Lib.hid (HQ0.out.below hb.out HQ0.out.lt)
 have HG1 := Lib.hid (HG0.out.below hb.out HG0.out.lt)
 clear hb HQ0 HG0
 have a0 := HQ1.out.cell 0
 have a1 := HQ1.out.cell 1
 have a2 := HQ1.out.cell 2
 have a3 := HQ1.out.cell 3
 have a4 := HQ1.out.cell 4
 have g0 := HG1.out.cell 0
 have g1 := HG1.out.cell 1
 have g2 := HG1.out.cell 2
 have e0 := HG1.out.free 0
 have e1 := HG1.out.free 1
 have e2 := HG1.out.free 2
 simp at a0 a1 a2 a3 a4 g0 g1 g2
 generalize findI L cn = i at *
 by_cases h1 : i < 0
 ·have HE : Hid (retF L K cn kd = .bad 7) := by show _ = _; rw [HD.out, if_pos h1]
  have HP := Lib.hid (((HG1.out.put 0 (.int .i64 0)).put 1 (.int .i64 0)).put 2 (.int .i64 0))
  go_wp2_with fail
  exact bodyPost_ret (doneEnd rfl _ (w.heap.size + 1) _ _ _ _ rfl HP.out) rfl ⟨by rw [HE.out]; rfl, ((HB1.out.setCell (by simp) _).setCell (by simp) _).setCell (by simp) _⟩
 ·obtain ⟨j, rfl⟩ : ∃ j : Nat, i = j := ⟨i.toNat, by omega⟩
  simp only [Int.toNat_natCast] at HD
  by_cases h2 : (j : Int) < K
  ·have HE : Hid (retF L K cn kd = .bad 10) := by show _ = _; rw [HD.out, if_neg h1, if_pos (.inl h2)]
   have HP := Lib.hid (((HG1.out.put 0 (.int .i64 0)).put 1 (.int .i64 0)).put 2 (.int .i64 0))
   go_wp2_with fail
   exact bodyPost_ret (doneEnd rfl _ (w.heap.size + 1) _ _ _ _ rfl HP.out) rfl ⟨by rw [HE.out]; rfl, ((HB1.out.setCell (by simp) _).setCell (by simp) _).setCell (by simp) _⟩
  ·have hkl : j < L.length := by rw [HN.out]; omega
   obtain ⟨b, off, rfl, hc⟩ := (HA.out.below HB1.out) (by intro e; rw [e] at hkl; simp at hkl)
   obtain ⟨c0, c1, c2⟩ := hc j hkl
   have HNA : Hid (noneAt L (j : Int) = L[j].no) := by show _ = _; unfold noneAt; rw [Int.toNat_natCast, List.getElem?_eq_getElem hkl]
   clear hc c0 c1
   generalize L[j].no = xc at *
   have hjz : (j : Int) < (n : Int) := by omega
   have hj0 : (0 : Int) ≤ (j : Int) := by omega
   cases xc
   ·have HE : Hid (retF L K cn kd = .bad 10) := by show _ = _; rw [HD.out, if_neg h1, if_pos (.inr HNA.out)]
    have HP := Lib.hid (((HG1.out.put 0 (.int .i64 0)).put 1 (.int .i64 0)).put 2 (.int .i64 0))
    go_wp2_with fail
    exact bodyPost_ret (doneEnd rfl _ (w.heap.size + 1) _ _ _ _ rfl HP.out) rfl ⟨by rw [HE.out]; rfl, ((HB1.out.setCell (by simp) _).setCell (by simp) _).setCell (by simp) _⟩
   ·go_wp2_with fail
    refine (ofColumn_any kd w1).mono ?_
    rintro e w2 ⟨rfl, rfl⟩
    generalize kindF kd = q2 at *
    have HNN : Hid (¬ ((j : Int) < K ∨ noneAt L (j : Int) = false)) := by show ¬ _; rw [HNA.out]; simp; omega
    cases q2
    ·have HE : Hid (retF L K cn kd = .bad 1) := by show _ = _; rw [HD.out, if_neg (by omega), if_neg HNN.out, if_pos rfl]
     have HP := Lib.hid (((HG1.out.put 0 (.int .i64 0)).put 1 (.int .i64 0)).put 2 (.int .i64 0))
     go_wp2_with fail
     exact bodyPost_ret (doneEnd rfl _ (w.heap.size + 1) _ _ _ _ rfl HP.out) rfl ⟨by rw [HE.out]; rfl, ((HB1.out.setCell (by simp) _).setCell (by simp) _).setCell (by simp) _⟩
    ·have HE : Hid (retF L K cn kd = ⟨j, j + 1, 1, 0⟩) := by show _ = _; rw [HD.out, if_neg (by omega), if_neg HNN.out, if_neg (by simp)]
     have HP := Lib.hid (((HG1.out.put 0 (.int .i64 j)).put 1 (.int .i64 (j + 1 : Nat))).put 2 (.int .i64 1))
     go_wp2_with fail
     exact bodyPost_ret (doneEnd rfl _ (w.heap.size + 1) _ _ _ _ rfl HP.out) rfl ⟨by rw [HE.out]; rfl, ((HB1.out.setCell (by simp) _).setCell (by simp) _).setCell (by simp) _⟩
theorem upd_at (W : World) (es : Array MapEntry) (clock : Nat) (k : Int) (v : Value) (hn : Instr.findNow (.int .i64) (.int .i64 k) es.toList 0 = some none) :
 (Instr.mapUpdate 171 (.map (some W.heap.size)) (.int .i64 k) v).run Tryz.prog (W.alloc (.map es clock)) = .ok () (W.alloc (.map (es.push ⟨.int .i64 k, v, clock⟩) (clock + 1))) := by
 have hb : (W.alloc (.map es clock)).heap[W.heap.size]? = some (.map es clock) := heap_alloc_new W _
 have hk : MapKept.IsKey (.int .i64) (.int .i64 k) := rfl
 have hc : (Instr.checkKey false 10000 3 (.int .i64 k)).run Tryz.prog (W.alloc (.map es clock)) = .ok () (W.alloc (.map es clock)) := MapKept.run_checkKey Tryz.underlying3 hk false 9999
 simp [Instr.mapUpdate, run_underlying Tryz.underlying171, MapKept.run_getObj_map hb, hc, MapKept.run_findKey Tryz.underlying3 hn, MapKept.run_setObj_map _ hb, Result.andThen]
 simp only [World.alloc]
 congr 1
 apply Array.ext'
 simp [Array.setIfInBounds, Array.toList_push]
theorem look_at (W : World) (es : Array MapEntry) (clock : Nat) (k : Int) (i : Nat) (v : Value) (hn : Instr.findNow (.int .i64) (.int .i64 k) es.toList 0 = some (some (i, v))) :
 (Instr.lookup 171 (.map (some W.heap.size)) (.int .i64 k) true).run Tryz.prog (W.alloc (.map es clock)) = .ok (.tuple #[v, .bool true]) (W.alloc (.map es clock)) := by
 have hb : (W.alloc (.map es clock)).heap[W.heap.size]? = some (.map es clock) := heap_alloc_new W _
 have hk : MapKept.IsKey (.int .i64) (.int .i64 k) := rfl
 have hc : (Instr.checkKey es.isEmpty 10000 3 (.int .i64 k)).run Tryz.prog (W.alloc (.map es clock)) = .ok () (W.alloc (.map es clock)) := MapKept.run_checkKey Tryz.underlying3 hk _ 9999
 simp [Instr.lookup, run_underlying Tryz.underlying171, MapKept.run_getObj_map hb, hc, MapKept.run_findKey Tryz.underlying3 hn, Result.andThen]
theorem look_no (W : World) (es : Array MapEntry) (clock : Nat) (k : Int) (hn : Instr.findNow (.int .i64) (.int .i64 k) es.toList 0 = some none) :
 (Instr.lookup 171 (.map (some W.heap.size)) (.int .i64 k) true).run Tryz.prog (W.alloc (.map es clock)) = .ok (.tuple #[.nilFunc, .bool false]) (W.alloc (.map es clock)) := by
 have hb : (W.alloc (.map es clock)).heap[W.heap.size]? = some (.map es clock) := heap_alloc_new W _
 have hk : MapKept.IsKey (.int .i64) (.int .i64 k) := rfl
 have hc : (Instr.checkKey es.isEmpty 10000 3 (.int .i64 k)).run Tryz.prog (W.alloc (.map es clock)) = .ok () (W.alloc (.map es clock)) := MapKept.run_checkKey Tryz.underlying3 hk _ 9999
 have hz : (zeroValue 167).run Tryz.prog (W.alloc (.map es clock)) = .ok .nilFunc (W.alloc (.map es clock)) := by kernel_rfl
 simp [Instr.lookup, run_underlying Tryz.underlying171, MapKept.run_getObj_map hb, hc, MapKept.run_findKey Tryz.underlying3 hn, Result.andThen, hz]
def kinds : Array MapEntry := #[⟨.int .i64 3, .func (.func 114) #[] #[], 0⟩, ⟨.int .i64 4, .func (.func 115) #[] #[], 1⟩, ⟨.int .i64 5, .func (.func 116) #[] #[], 2⟩]
def doesF (L : List Cl) (K : Int) (ck : Int) (cn : ByteArray) (kd : Int) (no : Bool) : Dn :=
 if ck = 3 then addF L cn kd no else if ck = 4 then cutF L K cn else if ck = 5 then retF L K cn kd else .bad 5
set_option maxHeartbeats 4000000 in
set_option maxRecDepth 100000 in
theorem does_any (A : Option Addr) (L : List Cl) (n c : Nat) (K : Int) (ck : Int) (tn : ByteArray) (A' : Option Addr) (n' c' : Nat) (K' : Int) (cn : ByteArray) (kd : Int) (no : Bool) (w : World) (hn : L.length = n) (hl : n ≤ 900) (hcn : cn.size ≤ 140737488355328) (hA : CRow w A L) :
 Calls Tryz.prog 88 #[.agg #[.slice A n c, .int .i64 K], .agg #[.int .i64 ck, .string tn, .slice A' n' c', .int .i64 K', .string cn, .int .i64 kd, .bool no]] w fun e w' => e = .returned (doesF L K ck cn kd no).val ∧ Hid (Below w.heap.size w w') := by
 obtain ⟨W3, hW3⟩ : ∃ W3, W3 = ((w.alloc (.cells #[.slice A n c, .int .i64 K] 39)).alloc (.cells #[.int .i64 ck, .string tn, .slice A' n' c', .int .i64 K', .string cn, .int .i64 kd, .bool no] 48)).alloc (.cells #[.int .i64 0, .int .i64 0, .int .i64 0] 141) := ⟨_, rfl⟩
 have hs3 : W3.heap.size = w.heap.size + 3 := by rw [hW3]; simp
 have u1 := upd_at W3 #[] 0 3 (.func (.func 114) #[] #[]) rfl
 have u2 := upd_at W3 #[⟨.int .i64 3, .func (.func 114) #[] #[], 0⟩] 1 4 (.func (.func 115) #[] #[]) rfl
 have u3 := upd_at W3 #[⟨.int .i64 3, .func (.func 114) #[] #[], 0⟩, ⟨.int .i64 4, .func (.func 115) #[] #[], 1⟩] 2 5 (.func (.func 116) #[] #[]) rfl
 simp only [List.push_toArray, List.cons_append, List.nil_append] at u1 u2 u3
 have hmk : ∀ W : World, (Instr.makeMap 171 none).run Tryz.prog W = .ok (.map (some W.heap.size)) (W.alloc (.map #[] 0)) := fun W => by simp [Instr.makeMap]
 have HB4 : Hid (Below w.heap.size w (W3.alloc (.map kinds 3))) := by
  show Below _ _ _
  rw [hW3]
  exact ((((Below.refl w.heap.size w).alloc (Nat.le_refl _) _).alloc (by simp) _).alloc (by simp; omega) _).alloc (by simp; omega) _
 have HG4 : Hid (Has (W3.alloc (.map kinds 3)) (w.heap.size + 2) 141 #[.int .i64 0, .int .i64 0, .int .i64 0]) := by
  show Has _ _ _ _
  rw [hW3]
  have h := Has.new ((w.alloc (.cells #[.slice A n c, .int .i64 K] 39)).alloc (.cells #[.int .i64 ck, .string tn, .slice A' n' c', .int .i64 K', .string cn, .int .i64 kd, .bool no] 48)) 141 #[.int .i64 0, .int .i64 0, .int .i64 0]
  rw [show ((w.alloc (.cells #[.slice A n c, .int .i64 K] 39)).alloc (.cells #[.int .i64 ck, .string tn, .slice A' n' c', .int .i64 K', .string cn, .int .i64 kd, .bool no] 48)).heap.size = w.heap.size + 2 by simp] at h
  exact h.alloc _
 have HD : Hid (doesF L K ck cn kd no = if ck = 3 then addF L cn kd no else if ck = 4 then cutF L K cn else if ck = 5 then retF L K cn kd else .bad 5) := rfl
 have HA4 := Lib.hid (hA.below HB4.out)
 have L3 := Lib.hid (look_at W3 kinds 3 3 0 (.func (.func 114) #[] #[]) rfl)
 have L4 := Lib.hid (look_at W3 kinds 3 4 1 (.func (.func 115) #[] #[]) rfl)
 have L5 := Lib.hid (look_at W3 kinds 3 5 2 (.func (.func 116) #[] #[]) rfl)
 have LN := Lib.hid (fun k hk => look_no W3 kinds 3 k hk)
 have HN := Lib.hid hn
 unfold kinds at *
 rw [hs3] at u1 u2 u3
 clear hn hA
 by_cases h3 : ck = 3
 ·subst h3
  have hl3 := L3.out
  rw [hs3] at hl3
  have HC := Lib.hid (add_any A L n c K cn kd no _ HN.out hl hcn HA4.out)
  have HE : Hid (doesF L K 3 cn kd no = addF L cn kd no) := by show _ = _; rw [HD.out, if_pos rfl]
  generalize addF L cn kd no = dn at *
  obtain ⟨df, dt, dm, de⟩ := dn
  clear L3 L4 L5 LN HD HA4
  subst hW3
  go_enter Tryz.func88, Tryz.ntmps88
  go_wp2_with fail
  go_at_call 114
  refine HC.out.mono ?_
  rintro e w1 ⟨rfl, hb1⟩
  have HB1 := Lib.hid (HB4.out.trans (hb1.out.mono HB4.out.size))
  have HG1 := Lib.hid (HG4.out.below hb1.out HG4.out.lt)
  clear hb1 HG4 hl3 u1 u2 u3 hmk
  have g0 := HG1.out.cell 0
  have g1 := HG1.out.cell 1
  have g2 := HG1.out.cell 2
  have e0 := HG1.out.free 0
  have e1 := HG1.out.free 1
  have e2 := HG1.out.free 2
  have HP := Lib.hid (((HG1.out.put 0 (.int .i64 df)).put 1 (.int .i64 dt)).put 2 (.int .i64 dm))
  simp at g0 g1 g2
  unfold Dn.val
  go_wp2_with fail
  exact bodyPost_ret (doneEnd rfl _ (w.heap.size + 2) _ _ _ _ rfl HP.out) rfl ⟨by rw [HE.out]; rfl, ((HB1.out.setCell (by show w.heap.size ≤ w.heap.size + 1 + 1; omega) _).setCell (by show w.heap.size ≤ w.heap.size + 1 + 1; omega) _).setCell (by show w.heap.size ≤ w.heap.size + 1 + 1; omega) _⟩
 by_cases h4 : ck = 4
 ·subst h4
  have hl3 := L4.out
  rw [hs3] at hl3
  have HC := Lib.hid (cut_any A L n c K cn kd no _ HN.out hl hcn HA4.out)
  have HE : Hid (doesF L K 4 cn kd no = cutF L K cn) := by show _ = _; rw [HD.out, if_neg (by omega), if_pos rfl]
  generalize cutF L K cn = dn at *
  obtain ⟨df, dt, dm, de⟩ := dn
  clear L3 L4 L5 LN HD HA4
  subst hW3
  go_enter Tryz.func88, Tryz.ntmps88
  go_wp2_with fail
  go_at_call 115
  refine HC.out.mono ?_
  rintro e w1 ⟨rfl, hb1⟩
  have HB1 := Lib.hid (HB4.out.trans (hb1.out.mono HB4.out.size))
  have HG1 := Lib.hid (HG4.out.below hb1.out HG4.out.lt)
  clear hb1 HG4 hl3 u1 u2 u3 hmk
  have g0 := HG1.out.cell 0
  have g1 := HG1.out.cell 1
  have g2 := HG1.out.cell 2
  have e0 := HG1.out.free 0
  have e1 := HG1.out.free 1
  have e2 := HG1.out.free 2
  have HP := Lib.hid (((HG1.out.put 0 (.int .i64 df)).put 1 (.int .i64 dt)).put 2 (.int .i64 dm))
  simp at g0 g1 g2
  unfold Dn.val
  go_wp2_with fail
  exact bodyPost_ret (doneEnd rfl _ (w.heap.size + 2) _ _ _ _ rfl HP.out) rfl ⟨by rw [HE.out]; rfl, ((HB1.out.setCell (by show w.heap.size ≤ w.heap.size + 1 + 1; omega) _).setCell (by show w.heap.size ≤ w.heap.size + 1 + 1; omega) _).setCell (by show w.heap.size ≤ w.heap.size + 1 + 1; omega) _⟩
 by_cases h5 : ck = 5
 ·subst h5
  have hl3 := L5.out
  rw [hs3] at hl3
  have HC := Lib.hid (retype_any A L n c K cn kd no _ HN.out hl hcn HA4.out)
  have HE : Hid (doesF L K 5 cn kd no = retF L K cn kd) := by show _ = _; rw [HD.out, if_neg (by omega), if_neg (by omega), if_pos rfl]
  generalize retF L K cn kd = dn at *
  obtain ⟨df, dt, dm, de⟩ := dn
  clear L3 L4 L5 LN HD HA4
  subst hW3
  go_enter Tryz.func88, Tryz.ntmps88
  go_wp2_with fail
  go_at_call 116
  refine HC.out.mono ?_
  rintro e w1 ⟨rfl, hb1⟩
  have HB1 := Lib.hid (HB4.out.trans (hb1.out.mono HB4.out.size))
  have HG1 := Lib.hid (HG4.out.below hb1.out HG4.out.lt)
  clear hb1 HG4 hl3 u1 u2 u3 hmk
  have g0 := HG1.out.cell 0
  have g1 := HG1.out.cell 1
  have g2 := HG1.out.cell 2
  have e0 := HG1.out.free 0
  have e1 := HG1.out.free 1
  have e2 := HG1.out.free 2
  have HP := Lib.hid (((HG1.out.put 0 (.int .i64 df)).put 1 (.int .i64 dt)).put 2 (.int .i64 dm))
  simp at g0 g1 g2
  unfold Dn.val
  go_wp2_with fail
  exact bodyPost_ret (doneEnd rfl _ (w.heap.size + 2) _ _ _ _ rfl HP.out) rfl ⟨by rw [HE.out]; rfl, ((HB1.out.setCell (by show w.heap.size ≤ w.heap.size + 1 + 1; omega) _).setCell (by show w.heap.size ≤ w.heap.size + 1 + 1; omega) _).setCell (by show w.heap.size ≤ w.heap.size + 1 + 1; omega) _⟩
 ·have q3 : (ck == 3) = false := by simp [h3]
  have q4 : (ck == 4) = false := by simp [h4]
  have q5 : (ck == 5) = false := by simp [h5]
  have hl3 := LN.out ck (by simp [Instr.findNow, Instr.sameNow, q3, q4, q5])
  rw [hs3] at hl3
  have HE : Hid (doesF L K ck cn kd no = .bad 5) := by show _ = _; rw [HD.out, if_neg h3, if_neg h4, if_neg h5]
  clear L3 L4 L5 LN HD HA4
  subst hW3
  have g0 := HG4.out.cell 0
  have g1 := HG4.out.cell 1
  have g2 := HG4.out.cell 2
  have e0 := HG4.out.free 0
  have e1 := HG4.out.free 1
  have e2 := HG4.out.free 2
  simp at g0 g1 g2
  go_enter Tryz.func88, Tryz.ntmps88
  go_wp2_with fail
  exact bodyPost_ret (doneEnd rfl _ (w.heap.size + 2) _ _ _ _ rfl HG4.out) rfl ⟨by rw [HE.out]; rfl, HB4.out⟩
def applyL (L : List Cl) (d : Dn) (cn : ByteArray) (kd : Int) : List Cl := if d.e = 0 then L.take d.f ++ List.replicate d.m ⟨cn, kd, true⟩ ++ L.drop d.t else []
def applyK (K : Int) (d : Dn) : Int := if d.e = 0 then K else 0
def Dn.ok (d : Dn) (n : Nat) : Prop := d.e = 0 → d.f ≤ d.t ∧ d.t ≤ n ∧ d.m ≤ 1
theorem bad_ok (e : Int) (n : Nat) (h : e ≠ 0) : (Dn.bad e).ok n := fun h2 => absurd h2 h
theorem doesF_ok (L : List Cl) (K ck : Int) (cn : ByteArray) (kd : Int) (no : Bool) : (doesF L K ck cn kd no).ok L.length := by
 have hlt := findI_lt L cn
 unfold doesF addF cutF retF
 split
 ·split
  ·exact bad_ok _ _ (by omega)
  ·split
   ·exact bad_ok _ _ (by omega)
   ·split
    ·exact bad_ok _ _ (by omega)
    ·exact fun _ => ⟨Nat.le_refl _, Nat.le_refl _, Nat.le_refl _⟩
 ·split
  ·split
   ·exact bad_ok _ _ (by omega)
   ·split
    ·exact bad_ok _ _ (by omega)
    ·exact fun _ => ⟨by simp, by simp; omega, by simp⟩
  ·split
   ·split
    ·exact bad_ok _ _ (by omega)
    ·split
     ·exact bad_ok _ _ (by omega)
     ·split
      ·exact bad_ok _ _ (by omega)
      ·exact fun _ => ⟨by simp, by simp; omega, by simp⟩
   ·exact bad_ok _ _ (by omega)
theorem hid_s2 {w W : World} (h : Hid (Below w.heap.size w W)) (u u' : Value) : Hid (Below w.heap.size w ((W.setCell ⟨w.heap.size + 1 + 1, 0, none⟩ u).setCell ⟨w.heap.size + 1 + 1, 1, none⟩ u')) := (h.out.setCell (by show w.heap.size ≤ w.heap.size + 1 + 1; omega) _).setCell (by show w.heap.size ≤ w.heap.size + 1 + 1; omega) _
theorem cell_s2 {W : World} {p : Nat} {u u' : Value} {a : Addr} {v : Value} (hne : p ≠ a.block) (h : W.cell? a = some v) : ((W.setCell ⟨p, 0, none⟩ u).setCell ⟨p, 1, none⟩ u').cell? a = some v := by
 rw [World.cell?_setCell_far _ _ _ _ hne, World.cell?_setCell_far _ _ _ _ hne]; exact h
theorem schEnd {fn : Func} {p u : Tmp} (h : fn.results = #[.cell p 39, .tmp u]) (w' : World) (g : Nat) (c0 c1 : Value) (tmps : Array Value) (hp : tmps.getD p undef = .pointer (some ⟨g, 0, none⟩)) (hh : Has w' g 39 #[c0, c1]) :
 (results fn tmps).run Tryz.prog w' = .ok (.tuple #[.agg #[c0, c1], tmps.getD u undef]) w' := by
 rw [results_cell_tmp h, hp]
 simp only [asAddr, Sem.run_pure, Result.andThen_ok]
 rw [run_loadVar_row w' g 39 39 #[c0, c1] (0, 0) _ hh Tryz.underlying39 rfl (by kernel_rfl)]
 rfl
set_option maxHeartbeats 4000000 in
set_option maxRecDepth 100000 in
theorem apply_any (A : Option Addr) (L : List Cl) (n c : Nat) (K : Int) (ck : Int) (tn : ByteArray) (A' : Option Addr) (n' c' : Nat) (K' : Int) (cn : ByteArray) (kd : Int) (no : Bool) (w : World) (hn : L.length = n) (hp : 0 < n) (hl : n ≤ 900) (hnc : n ≤ c) (hcm : c ≤ maxLen) (hcn : cn.size ≤ 140737488355328) (hA : CRow w A L) :
 Calls Tryz.prog 56 #[.agg #[.slice A n c, .int .i64 K], .agg #[.int .i64 ck, .string tn, .slice A' n' c', .int .i64 K', .string cn, .int .i64 kd, .bool no]] w fun e w' => ∃ v, e = .returned (.tuple #[.agg #[v, .int .i64 (applyK K (doesF L K ck cn kd no))], .int .i64 (doesF L K ck cn kd no).e]) ∧ Hid (OwnC w.heap.size w' v (applyL L (doesF L K ck cn kd no) cn kd)) ∧ Hid (Below w.heap.size w w') := by
 have HN := Lib.hid hn
 have HA := Lib.hid hA
 have HOK := Lib.hid (doesF_ok L K ck cn kd no)
 have HB0 := Lib.hid ((((Below.refl w.heap.size w).alloc (Nat.le_refl _) (.cells #[.slice A n c, .int .i64 K] 39)).alloc (by simp) (.cells #[.int .i64 ck, .string tn, .slice A' n' c', .int .i64 K', .string cn, .int .i64 kd, .bool no] 48)).alloc (by simp; omega) (.cells #[.slice none 0 0, .int .i64 0] 39))
 have HS0 := Lib.hid (((Has.new w 39 #[.slice A n c, .int .i64 K]).alloc (.cells #[.int .i64 ck, .string tn, .slice A' n' c', .int .i64 K', .string cn, .int .i64 kd, .bool no] 48)).alloc (.cells #[.slice none 0 0, .int .i64 0] 39))
 have hq := (Has.new (w.alloc (.cells #[.slice A n c, .int .i64 K] 39)) 48 #[.int .i64 ck, .string tn, .slice A' n' c', .int .i64 K', .string cn, .int .i64 kd, .bool no]).alloc (.cells #[.slice none 0 0, .int .i64 0] 39)
 rw [show (w.alloc (.cells #[.slice A n c, .int .i64 K] 39)).heap.size = w.heap.size + 1 by simp] at hq
 have HQ0 := Lib.hid hq
 have hg := Has.new ((w.alloc (.cells #[.slice A n c, .int .i64 K] 39)).alloc (.cells #[.int .i64 ck, .string tn, .slice A' n' c', .int .i64 K', .string cn, .int .i64 kd, .bool no] 48)) 39 #[.slice none 0 0, .int .i64 0]
 rw [show ((w.alloc (.cells #[.slice A n c, .int .i64 K] 39)).alloc (.cells #[.int .i64 ck, .string tn, .slice A' n' c', .int .i64 K', .string cn, .int .i64 kd, .bool no] 48)).heap.size = w.heap.size + 2 by simp] at hg
 have HG0 := Lib.hid hg
 clear hn hA hq hg
 go_enter Tryz.func56, Tryz.ntmps56
 go_wp2_with fail
 refine (does_any A L n c K ck tn A' n' c' K' cn kd no _ HN.out hl hcn (HA.out.below HB0.out)).mono ?_
 rintro e w1 ⟨rfl, hb1⟩
 have HB1 := Lib.hid (HB0.out.trans (hb1.out.mono HB0.out.size))
 have HS1 := Lib.hid (HS0.out.below hb1.out HS0.out.lt)
 have HQ1 := Lib.hid (HQ0.out.below hb1.out HQ0.out.lt)
 have HG1 := Lib.hid (HG0.out.below hb1.out HG0.out.lt)
 clear hb1 HB0 HS0 HQ0 HG0
 generalize hd : doesF L K ck cn kd no = d at *
 obtain ⟨df, dt, dm, de⟩ := d
 have HE := Lib.hid hd
 clear hd
 have hz := HB1.out.size
 have HZ2 : Hid (w.heap.size + 1 + 1 < w1.heap.size) := HG1.out.lt
 by_cases he : de = 0
 ·subst he
  obtain ⟨h1, h2, h3⟩ := HOK.out rfl
  rw [HN.out] at h2
  have HL : Hid (applyL L ⟨df, dt, dm, 0⟩ cn kd = L.take df ++ List.replicate dm ⟨cn, kd, true⟩ ++ L.drop dt) := rfl
  have HK : Hid (applyK K ⟨df, dt, dm, 0⟩ = K) := rfl
  simp only at h1 h2 h3
  -- the two variables
  have HB3 := Lib.hid ((HB1.out.alloc HB1.out.size (.cells #[.int .i64 df, .int .i64 dt, .int .i64 dm] 141)).alloc (by simp; omega) (.cells #[.string cn, .int .i64 kd, .bool true] 46))
  have HS3 := Lib.hid ((HS1.out.alloc (.cells #[.int .i64 df, .int .i64 dt, .int .i64 dm] 141)).alloc (.cells #[.string cn, .int .i64 kd, .bool true] 46))
  have HG3 := Lib.hid ((HG1.out.alloc (.cells #[.int .i64 df, .int .i64 dt, .int .i64 dm] 141)).alloc (.cells #[.string cn, .int .i64 kd, .bool true] 46))
  have HX3 := Lib.hid ((Has.new w1 141 #[.int .i64 df, .int .i64 dt, .int .i64 dm]).alloc (.cells #[.string cn, .int .i64 kd, .bool true] 46))
  have hy := Has.new (w1.alloc (.cells #[.int .i64 df, .int .i64 dt, .int .i64 dm] 141)) 46 #[.string cn, .int .i64 kd, .bool true]
  rw [show (w1.alloc (.cells #[.int .i64 df, .int .i64 dt, .int .i64 dm] 141)).heap.size = w1.heap.size + 1 by simp] at hy
  have HY3 := Lib.hid hy
  have HQ2 := Lib.hid (HQ1.out.alloc (.cells #[.int .i64 df, .int .i64 dt, .int .i64 dm] 141))
  have q4 : (w1.alloc (.cells #[.int .i64 df, .int .i64 dt, .int .i64 dm] 141)).cell? ⟨w.heap.size + 1, 4, none⟩ = some (.string cn) := HQ2.out.cell 4
  have q5 : (w1.alloc (.cells #[.int .i64 df, .int .i64 dt, .int .i64 dm] 141)).cell? ⟨w.heap.size + 1, 5, none⟩ = some (.int .i64 kd) := HQ2.out.cell 5
  clear hy
  unfold Dn.val
  go_wp2_with fail
  obtain ⟨W, hW⟩ : ∃ W, W = (w1.alloc (.cells #[.int .i64 df, .int .i64 dt, .int .i64 dm] 141)).alloc (.cells #[.string cn, .int .i64 kd, .bool true] 46) := ⟨_, rfl⟩
  simp only [← hW] at HB3 HS3 HG3 HX3 HY3 ⊢
  have hws : w1.heap.size < W.heap.size := by rw [hW]; simp; omega
  clear hW q4 q5
  have HBD : Hid (Below w.heap.size w W.drew) := HB3.out.drew
  have HC := Lib.hid (putC_any A L n c df dt dm ⟨cn, kd, true⟩ W.drew HN.out hp hnc hcm h1 h2 h3 hl (HA.out.below HBD.out))
  have a0 := HS3.out.drew.cell 0
  have a1 := HS3.out.drew.cell 1
  have d0 := HX3.out.drew.cell 0
  have d1 := HX3.out.drew.cell 1
  have d2 := HX3.out.drew.cell 2
  have y0 := HY3.out.drew.cell 0
  have y1 := HY3.out.drew.cell 1
  have y2 := HY3.out.drew.cell 2
  simp at a0 a1 d0 d1 d2 y0 y1 y2
  have hz2 := HZ2.out
  go_region_held3 (fun W => Hid (Below w.heap.size w W) ∧ W.cell? ⟨w.heap.size, 0, none⟩ = some (.slice A n c) ∧ W.cell? ⟨w.heap.size, 1, none⟩ = some (.int .i64 K) ∧ W.cell? ⟨w1.heap.size, 0, none⟩ = some (.int .i64 df) ∧ W.cell? ⟨w1.heap.size, 1, none⟩ = some (.int .i64 dt) ∧ W.cell? ⟨w1.heap.size, 2, none⟩ = some (.int .i64 dm) ∧ W.cell? ⟨w1.heap.size + 1, 0, none⟩ = some (.string cn) ∧ W.cell? ⟨w1.heap.size + 1, 1, none⟩ = some (.int .i64 kd) ∧ W.cell? ⟨w1.heap.size + 1, 2, none⟩ = some (.bool true)) (first | (refine ⟨by assumption, ?_⟩; go_keep; done) | exact ⟨hid_s2 (by assumption) _ _, cell_s2 (by show w.heap.size + 1 + 1 ≠ w.heap.size; omega) (by assumption), cell_s2 (by show w.heap.size + 1 + 1 ≠ w.heap.size; omega) (by assumption), cell_s2 (by show w.heap.size + 1 + 1 ≠ w1.heap.size; omega) (by assumption), cell_s2 (by show w.heap.size + 1 + 1 ≠ w1.heap.size; omega) (by assumption), cell_s2 (by show w.heap.size + 1 + 1 ≠ w1.heap.size; omega) (by assumption), cell_s2 (by show w.heap.size + 1 + 1 ≠ w1.heap.size + 1; omega) (by assumption), cell_s2 (by show w.heap.size + 1 + 1 ≠ w1.heap.size + 1; omega) (by assumption), cell_s2 (by show w.heap.size + 1 + 1 ≠ w1.heap.size + 1; omega) (by assumption)⟩) (first
   | (go_at_call 89; refine HC.out.mono ?_; rintro e x1 ⟨v, rfl, ho, hb⟩; obtain ⟨A5, n5, c5, rfl, HN5, _, _, HV5, _⟩ := ownC_open ho.out; clear HN5 HV5; have hg := HG3.out.drew.below hb.out HG3.out.drew.lt; have b1 := keepC hb.out a1; have b0 := keepC hb.out a0; have b2 := keepC hb.out d0; have b3 := keepC hb.out d1; have b4 := keepC hb.out d2; have b5 := keepC hb.out y0; have b6 := keepC hb.out y1; have b7 := keepC hb.out y2; have hbx := Lib.hid (HBD.out.trans (hb.out.mono HBD.out.size)); have g0 : x1.cell? ⟨w.heap.size + 1 + 1, 0, none⟩ = some (.slice none 0 0) := hg.cell 0; have g1 : x1.cell? ⟨w.heap.size + 1 + 1, 1, none⟩ = some (.int .i64 0) := hg.cell 1; have e0 : x1.frozen? ⟨w.heap.size + 1 + 1, 0, none⟩ = false := hg.free 0; have e1 : x1.frozen? ⟨w.heap.size + 1 + 1, 1, none⟩ = false := hg.free 1; have HG4 := Lib.hid hg; clear hg))
  all_goals
   have HP := Lib.hid ((HG4.out.put 0 (.slice A5 n5 c5)).put 1 (.int .i64 K))
   have HB5 := Lib.hid (HBD.out.trans (hb.out.mono HBD.out.size))
   have HO5 := Lib.hid ((ho.out.far (p := ⟨w.heap.size + 1 + 1, 0, none⟩) (by show w.heap.size + 1 + 1 < W.heap.size; omega) (.slice A5 n5 c5)).far (p := ⟨w.heap.size + 1 + 1, 1, none⟩) (by show w.heap.size + 1 + 1 < W.heap.size; omega) (.int .i64 K))
   have HZ3 : Hid (w.heap.size ≤ W.heap.size) := by show _ ≤ _; omega
   go_wp2_with fail
   exact bodyPost_ret (schEnd rfl _ (w.heap.size + 2) _ _ _ rfl HP.out) rfl ⟨_, by rw [HE.out, HK.out]; rfl, by rw [HE.out, HL.out]; exact ownC_down HO5.out HZ3.out, (HB5.out.setCell (by show w.heap.size ≤ w.heap.size + 1 + 1; omega) _).setCell (by show w.heap.size ≤ w.heap.size + 1 + 1; omega) _⟩
 ·have HL : Hid (applyL L ⟨df, dt, dm, de⟩ cn kd = []) := by show _ = _; unfold applyL; rw [if_neg he]
  have HK : Hid (applyK K ⟨df, dt, dm, de⟩ = 0) := by show _ = _; unfold applyK; rw [if_neg he]
  have hq : (de != 0) = true := by simp [he]
  have HG2 := Lib.hid (HG1.out.alloc (.cells #[.int .i64 df, .int .i64 dt, .int .i64 dm] 141))
  have HB2 := Lib.hid (HB1.out.alloc HB1.out.size (.cells #[.int .i64 df, .int .i64 dt, .int .i64 dm] 141))
  have g0 : (w1.alloc (.cells #[.int .i64 df, .int .i64 dt, .int .i64 dm] 141)).cell? ⟨w.heap.size + 1 + 1, 0, none⟩ = some (.slice none 0 0) := HG2.out.cell 0
  have g1 : (w1.alloc (.cells #[.int .i64 df, .int .i64 dt, .int .i64 dm] 141)).cell? ⟨w.heap.size + 1 + 1, 1, none⟩ = some (.int .i64 0) := HG2.out.cell 1
  have e0 : (w1.alloc (.cells #[.int .i64 df, .int .i64 dt, .int .i64 dm] 141)).frozen? ⟨w.heap.size + 1 + 1, 0, none⟩ = false := HG2.out.free 0
  have e1 : (w1.alloc (.cells #[.int .i64 df, .int .i64 dt, .int .i64 dm] 141)).frozen? ⟨w.heap.size + 1 + 1, 1, none⟩ = false := HG2.out.free 1
  unfold Dn.val
  go_wp2_with fail
  have HP := Lib.hid ((HG2.out.put 0 (.slice none 0 0)).put 1 (.int .i64 0))
  exact bodyPost_ret (schEnd rfl _ (w.heap.size + 2) _ _ _ rfl HP.out) rfl ⟨_, by rw [HE.out, HK.out]; rfl, by rw [HE.out, HL.out]; exact ownC_nil _ _, (HB2.out.setCell (by show w.heap.size ≤ w.heap.size + 1 + 1; omega) _).setCell (by show w.heap.size ≤ w.heap.size + 1 + 1; omega) _⟩
def fcE (T : List Tb) (tn : ByteArray) (L' : List Cl) (K' : Int) : Int :=
 if nameF tn = false then 6 else if plF T tn = true then 8 else if smayF L' K' = false then 1 else if 64 ≤ T.length then 13 else 0
def foE (T : List Tb) (ck : Int) (tn : ByteArray) (L' : List Cl) (K' : Int) (cn : ByteArray) (kd : Int) (no : Bool) : Int :=
 if ck = 1 then fcE T tn L' K' else match T[lbN T tn]? with
  | none => 7
  | some x => if plF T tn = false then 7 else if ck = 2 then 0 else (doesF x.L x.K ck cn kd no).e
def foD (T : List Tb) (ck : Int) (tn : ByteArray) (L' : List Cl) (K' : Int) (cn : ByteArray) (kd : Int) (no : Bool) : List Td :=
 if foE T ck tn L' K' cn kd no ≠ 0 then [] else if ck = 1 then (tds T).take (lbN T tn) ++ [⟨tn, L', K'⟩] ++ (tds T).drop (lbN T tn)
 else if ck = 2 then (tds T).take (lbN T tn) ++ (tds T).drop (lbN T tn + 1) else match T[lbN T tn]? with
  | none => []
  | some x => (tds T).take (lbN T tn) ++ [⟨tn, applyL x.L (doesF x.L x.K ck cn kd no) cn kd, applyK x.K (doesF x.L x.K ck cn kd no)⟩] ++ (tds T).drop (lbN T tn + 1)
section
variable {T : List Tb} {tn : ByteArray} {L' : List Cl} {K' : Int} {cn : ByteArray} {kd : Int} {no : Bool} {ck : Int}
theorem foE_c : foE T 1 tn L' K' cn kd no = fcE T tn L' K' := by unfold foE; rw [if_pos rfl]
theorem foE_none (h1 : ck ≠ 1) (hp : plF T tn = false) : foE T ck tn L' K' cn kd no = 7 := by
 unfold foE; rw [if_neg h1]
 split
 ·rfl
 ·rw [if_pos hp]
theorem plF_lt (h : plF T tn = true) : lbN T tn < T.length := by
 apply Decidable.byContradiction
 intro hl
 rw [plF_out hl] at h; cases h
theorem foE_drop (hp : plF T tn = true) : foE T 2 tn L' K' cn kd no = 0 := by
 have hl := plF_lt hp
 unfold foE; rw [if_neg (by omega), List.getElem?_eq_getElem hl]
 simp [hp]
theorem foE_alter (h1 : ck ≠ 1) (h2 : ck ≠ 2) (hp : plF T tn = true) (hl : lbN T tn < T.length) : foE T ck tn L' K' cn kd no = (doesF T[lbN T tn].L T[lbN T tn].K ck cn kd no).e := by
 unfold foE; rw [if_neg h1, List.getElem?_eq_getElem hl]
 simp [hp, h2]
theorem foD_bad (h : foE T ck tn L' K' cn kd no ≠ 0) : foD T ck tn L' K' cn kd no = [] := by unfold foD; rw [if_pos h]
theorem foD_c (h : fcE T tn L' K' = 0) : foD T 1 tn L' K' cn kd no = (tds T).take (lbN T tn) ++ [⟨tn, L', K'⟩] ++ (tds T).drop (lbN T tn) := by
 unfold foD; rw [foE_c, h]; simp
theorem foD_drop (hp : plF T tn = true) : foD T 2 tn L' K' cn kd no = (tds T).take (lbN T tn) ++ (tds T).drop (lbN T tn + 1) := by
 unfold foD; rw [foE_drop hp]; simp
theorem foD_alter (h1 : ck ≠ 1) (h2 : ck ≠ 2) (hp : plF T tn = true) (hl : lbN T tn < T.length) (he : (doesF T[lbN T tn].L T[lbN T tn].K ck cn kd no).e = 0) :
 foD T ck tn L' K' cn kd no = (tds T).take (lbN T tn) ++ [⟨tn, applyL T[lbN T tn].L (doesF T[lbN T tn].L T[lbN T tn].K ck cn kd no) cn kd, applyK T[lbN T tn].K (doesF T[lbN T tn].L T[lbN T tn].K ck cn kd no)⟩] ++ (tds T).drop (lbN T tn + 1) := by
 unfold foD; rw [foE_alter h1 h2 hp hl, he, List.getElem?_eq_getElem hl]; simp [h1, h2]
theorem fcE_name (h : nameF tn = false) : fcE T tn L' K' = 6 := by unfold fcE; rw [if_pos h]
theorem fcE_there (h : nameF tn = true) (hp : plF T tn = true) : fcE T tn L' K' = 8 := by unfold fcE; rw [if_neg (by rw [h]; simp), if_pos hp]
theorem fcE_may (h : nameF tn = true) (hp : plF T tn = false) (hm : smayF L' K' = false) : fcE T tn L' K' = 1 := by unfold fcE; rw [if_neg (by rw [h]; simp), if_neg (by rw [hp]; simp), if_pos hm]
theorem fcE_many (h : nameF tn = true) (hp : plF T tn = false) (hm : smayF L' K' = true) (h6 : 64 ≤ T.length) : fcE T tn L' K' = 13 := by unfold fcE; rw [if_neg (by rw [h]; simp), if_neg (by rw [hp]; simp), if_neg (by rw [hm]; simp), if_pos h6]
theorem fcE_ok (h : nameF tn = true) (hp : plF T tn = false) (hm : smayF L' K' = true) (h6 : T.length < 64) : fcE T tn L' K' = 0 := by unfold fcE; rw [if_neg (by rw [h]; simp), if_neg (by rw [hp]; simp), if_neg (by rw [hm]; simp), if_neg (by omega)]
end
end Go.Proofs.YtlnbhlgkehenpaaGreatDoor
namespace Go.Proofs.YtlnbhlgkehenpaaGreatDoor
open Go.RowKit Dg
set_option maxRecDepth 100000
def Tb.row (x : Tb) : List Value := [.string x.nm, .slice x.A x.n x.c, .int .i64 x.K]
theorem infoT : (Tryz.prog.info? 41).map (fun i => (i.zero, i.size, i.bytes)) = some (some (.agg #[.string ⟨#[]⟩, .slice none 0 0, .int .i64 0]), 3, 48) := by kernel_rfl
def OwnT (B : Nat) (w : World) (v : Value) (L : List Tb) : Prop := w.ownsRow B 41 3 v L.length (L.flatMap Tb.row)
theorem ownT_nil (B : Nat) (w : World) : OwnT B w (.slice none 0 0) [] := World.ownsRow_nil _ _ _ _
theorem OwnT.below {B : Nat} {w w' : World} {v : Value} {L : List Tb} (h : OwnT B w v L) (hb : Below w.heap.size w w') : OwnT B w' v L := by
 rcases h.2 with ⟨hv, hn⟩ | ⟨g, cap, cur, hv, hg, hh, hc, hcm, hsz, ht⟩
 ·exact ⟨h.1, .inl ⟨hv, hn⟩⟩
 ·exact ⟨h.1, .inr ⟨g, cap, cur, hv, hg, Has.below (t := 41) (cs := cur) hh hb (Has.lt (t := 41) (cs := cur) hh), hc, hcm, hsz, ht⟩⟩
theorem tflat_len (L : List Tb) : (L.flatMap Tb.row).length = L.length * 3 := by
 induction L with
 | nil => rfl
 | cons x L ih => rw [List.flatMap_cons, List.length_append, ih]; simp [Tb.row]; omega
theorem tflat_get (L : List Tb) (i j : Nat) (h : i < L.length) (hj : j < 3) : (L.flatMap Tb.row)[i * 3 + j]? = L[i].row[j]? := by
 induction L generalizing i with
 | nil => simp at h
 | cons x L ih =>
   rw [List.flatMap_cons]
   rcases i with _ | i
   ·rw [List.getElem?_append_left (by simp [Tb.row]; omega)]
    simp
   ·rw [List.getElem?_append_right (by simp [Tb.row]; omega)]
    have e : (i + 1) * 3 + j - x.row.length = i * 3 + j := by simp [Tb.row]; omega
    rw [e, ih i (by simpa using h)]
    simp
theorem ownT_row {B : Nat} {w : World} {v : Value} {L : List Tb} (h : OwnT B w v L) : ∃ A c, v = .slice A L.length c ∧ L.length ≤ c ∧ c ≤ maxLen ∧ TRow w A L ∧ (A = none → c = 0) := by
 rcases h.2 with ⟨hv, hn⟩ | ⟨g, cap, cur, hv, _, hh, hc, hcm, hsz, ht⟩
 ·obtain rfl := List.eq_nil_of_length_eq_zero hn
  exact ⟨none, 0, hv, Nat.le_refl _, Nat.zero_le _, fun h => absurd rfl h, fun _ => rfl⟩
 ·refine ⟨_, _, hv, hc, hcm, fun _ => ⟨g, 0, rfl, fun i hi => ?_⟩, fun e => by cases e⟩
  have hq : ∀ j, j < 3 → w.cell? ⟨g, 0 + (i * 3 + j), none⟩ = L[i].row[j]? := fun j hj => by
   rw [Nat.zero_add, Has.cell (t := 41) (cs := cur) hh, ← tflat_get L i j hi hj, ← ht, List.getElem?_take, if_pos (by omega)]
   simp
  have q0 := hq 0 (by omega)
  have q1 := hq 1 (by omega)
  have q2 := hq 2 (by omega)
  exact ⟨q0, q1, q2⟩
theorem appT (w : World) (g : Nat) (hg0 : g = w.heap.size) (B : Nat) (v : Value) (L : List Tb) (x : Tb) (h : OwnT B w v L) (hB : B ≤ w.heap.size) (hl : L.length ≤ 1000) :
 ∃ R W', (Builtin.append_ #[22, 22] 22 #[v, .slice (some ⟨g, 0, none⟩) 1 1]).run Tryz.prog (w.alloc (.cells #[.string x.nm, .slice x.A x.n x.c, .int .i64 x.K] 41)) = .ok R W' ∧ OwnT B W' R (L ++ [x]) ∧ Below B w W' := by
 subst hg0
 obtain ⟨i0, hi, hz0, hz1, hz2⟩ := info_parts infoT
 obtain ⟨R, W', hrun, hown, hg, _⟩ := run_append_own (P := Tryz.prog) (w.alloc (.cells x.row.toArray 41)) B 22 22 41 i0 _ 3 48 Tryz.underlying22 hi hz0 hz1 hz2 rfl (by decide) v L.length (L.flatMap Tb.row) (h.alloc _)
  ⟨w.heap.size, 0, none⟩ 1 1 x.row rfl (fun j u hj => by
    have := (Has.new w 41 x.row.toArray).cell j
    rw [List.getElem?_toArray] at this
    rw [Addr.add_lit, Nat.zero_add]
    exact this.trans hj) (fun u hu => by simp [Tb.row] at hu; rcases hu with rfl | rfl | rfl <;> rfl) (by unfold maxLen; omega) (by omega) (by simp; omega)
 refine ⟨R, W', hrun, ?_, ?_⟩
 ·unfold OwnT; rw [List.flatMap_append, List.length_append]; simpa using hown
 ·exact ((Below.refl B w).alloc hB _).grown hg (by simp; omega) fun k hk => (World.ownsRow.lt h k hk).1
theorem trow_cell {w : World} {b off : Nat} {M : List Tb} (h : ∀ i (h : i < M.length), w.cell? ⟨b, off + i * 3, none⟩ = some (.string M[i].nm) ∧ w.cell? ⟨b, off + i * 3 + 1, none⟩ = some (.slice M[i].A M[i].n M[i].c) ∧ w.cell? ⟨b, off + i * 3 + 2, none⟩ = some (.int .i64 M[i].K)) (j : Nat) (u : Value) (hj : (M.flatMap Tb.row)[j]? = some u) : w.cell? ⟨b, off + j, none⟩ = some u := by
 have hjl : j < M.length * 3 := by
  have := (List.getElem?_eq_some_iff.1 hj).1
  rwa [tflat_len] at this
 have hi : j / 3 < M.length := by omega
 have e : j = j / 3 * 3 + j % 3 := by omega
 have hr : j % 3 = 0 ∨ j % 3 = 1 ∨ j % 3 = 2 := by omega
 rw [e, tflat_get M (j / 3) (j % 3) hi (by omega)] at hj
 obtain ⟨h0, h1, h2⟩ := h (j / 3) hi
 rw [e]
 rcases hr with hr | hr | hr <;> rw [hr] at hj ⊢
 ·rw [← hj]; exact h0
 ·rw [← hj]; exact h1
 ·rw [← hj]; exact h2
theorem appTs (w : World) (B : Nat) (v : Value) (L : List Tb) (h : OwnT B w v L) (hB : B ≤ w.heap.size) (A : Option Addr) (M : List Tb) (n c : Nat) (hn : M.length = n) (hA : TRow w A M) (h0 : A = none → c = 0) (hl : L.length + n ≤ 1000) :
 ∃ R W', (Builtin.append_ #[22, 22] 22 #[v, .slice A n c]).run Tryz.prog w = .ok R W' ∧ OwnT B W' R (L ++ M) ∧ Below B w W' := by
 subst hn
 obtain ⟨i0, hi, hz0, hz1, hz2⟩ := info_parts infoT
 by_cases hM : M = []
 ·subst hM
  rcases A with _ | a
  ·rw [h0 rfl, List.append_nil]
   exact ⟨v, w, run_append_owned_none w B 22 22 41 i0 3 Tryz.underlying22 hi v _ _ h, h, Below.refl _ _⟩
  ·obtain ⟨R, W', hrun, hown, hg, _⟩ := run_append_own (P := Tryz.prog) w B 22 22 41 i0 _ 3 48 Tryz.underlying22 hi hz0 hz1 hz2 rfl (by decide) v L.length (L.flatMap Tb.row) h
    a 0 c [] rfl (fun j u hj => by simp at hj) (fun u hu => by cases hu) (by unfold maxLen; omega) (by omega) hB
   refine ⟨R, W', hrun, ?_, (Below.refl B w).grown hg hB fun k hk => (World.ownsRow.lt h k hk).1⟩
   unfold OwnT; simpa using hown
 ·obtain ⟨b, off, rfl, hc⟩ := hA hM
  obtain ⟨R, W', hrun, hown, hg, _⟩ := run_append_own (P := Tryz.prog) w B 22 22 41 i0 _ 3 48 Tryz.underlying22 hi hz0 hz1 hz2 rfl (by decide) v L.length (L.flatMap Tb.row) h
   ⟨b, off, none⟩ M.length c (M.flatMap Tb.row) (by rw [tflat_len]) (fun j u hj => by rw [Addr.add_lit]; exact trow_cell hc j u hj) (fun u hu => by
     obtain ⟨x, _, hx⟩ := List.mem_flatMap.1 hu
     simp [Tb.row] at hx; rcases hx with rfl | rfl | rfl <;> rfl) (by unfold maxLen; omega) (by omega) hB
  refine ⟨R, W', hrun, ?_, (Below.refl B w).grown hg hB fun k hk => (World.ownsRow.lt h k hk).1⟩
  unfold OwnT; rw [List.flatMap_append, List.length_append]; exact hown
theorem ownT_open {B : Nat} {w : World} {v : Value} {L : List Tb} (h : OwnT B w v L) : ∃ A n c, v = .slice A n c ∧ Hid (L.length = n) ∧ n ≤ c ∧ c ≤ maxLen ∧ Hid (TRow w A L) ∧ Hid (A = none → c = 0) := by
 obtain ⟨A, c, e, h1, h2, h3, h4⟩ := ownT_row h
 exact ⟨A, L.length, c, e, rfl, h1, h2, h3, h4⟩
theorem tflat_set (L : List Tb) (i j : Nat) (u : Value) (x : Tb) (hi : i < L.length) (hj : j < 3) (hx : x.row = L[i].row.set j u) : (L.flatMap Tb.row).set (i * 3 + j) u = (L.set i x).flatMap Tb.row := by
 induction L generalizing i with
 | nil => simp at hi
 | cons y L ih =>
   rcases i with _ | i
   ·simp only [zC] at hx
    rw [List.flatMap_cons, List.set_cons_zero, List.flatMap_cons, hx, Nat.zero_mul, Nat.zero_add]
    rw [List.set_append_left _ _ (by simp [Tb.row]; omega)]
   ·simp only [zB] at hx
    rw [List.flatMap_cons, List.set_cons_succ, List.flatMap_cons, ← ih i (by simpa using hi) hx]
    rw [List.set_append_right _ _ (by simp [Tb.row]; omega)]
    have e : (i + 1) * 3 + j - y.row.length = i * 3 + j := by simp [Tb.row]; omega
    rw [e]
theorem ownT_put {B : Nat} {w : World} {v : Value} {L : List Tb} (h : OwnT B w v L) (i : Nat) (hi : i < L.length) (j : Nat) (hj : j < 3) (u : Value) (x : Tb) (hx : x.row = L[i].row.set j u) :
 ∃ g c, v = .slice (some ⟨g, 0, none⟩) L.length c ∧ B ≤ g ∧ L.length ≤ c ∧ w.frozen? ⟨g, i * 3 + j, none⟩ = false ∧ w.cell? ⟨g, i * 3 + j, none⟩ = L[i].row[j]? ∧ OwnT B (w.setCell ⟨g, i * 3 + j, none⟩ u) v (L.set i x) := by
 rcases h.2 with ⟨hv, hn⟩ | ⟨g, cap, cur, hv, hg, hh, hc, hcm, hsz, ht⟩
 ·omega
 ·refine ⟨g, cap, hv, hg, hc, Has.free (t := 41) (cs := cur) hh _, ?_, ?_⟩
  ·rw [Has.cell (t := 41) (cs := cur) hh, ← tflat_get L i j hi hj, ← ht, List.getElem?_take, if_pos (by omega)]
   simp
  ·refine ⟨by rw [tflat_len], .inr ⟨g, cap, cur.setIfInBounds (i * 3 + j) u, by rw [List.length_set]; exact hv, hg, Has.put (t := 41) (cs := cur) hh (i * 3 + j) u, by rw [List.length_set]; exact hc, hcm, by simpa using hsz, ?_⟩⟩
   rw [List.length_set, ← tflat_set L i j u x hi hj hx, ← ht, Array.toList_setIfInBounds, List.take_set]
theorem TRow.drop {w : World} {b off : Nat} {L : List Tb} (h : TRow w (some ⟨b, off, none⟩) L) (k : Nat) : TRow w (some ⟨b, off + k * 3, none⟩) (L.drop k) := fun hl => by
 obtain ⟨b', off', e, hc⟩ := h (by rintro rfl; simp at hl)
 injection e with e
 injection e with e1 e2
 subst e1 e2
 refine ⟨b, off + k * 3, rfl, fun i hi => ?_⟩
 rw [List.length_drop] at hi
 obtain ⟨h0, h1, h2⟩ := hc (k + i) (by omega)
 rw [List.getElem_drop]
 have e : off + (k + i) * 3 = off + k * 3 + i * 3 := by omega
 rw [e] at h0 h1 h2
 exact ⟨h0, h1, h2⟩
theorem TRow.take {w : World} {A : Option Addr} {L : List Tb} (h : TRow w A L) (k : Nat) : TRow w A (L.take k) := fun hl => by
 obtain ⟨b, off, e, hc⟩ := h (by rintro rfl; simp at hl)
 refine ⟨b, off, e, fun i hi => ?_⟩
 rw [List.length_take] at hi
 rw [List.getElem_take]
 exact hc i (by omega)
theorem TRow.one (w : World) (x : Tb) : TRow (w.alloc (.cells #[.string x.nm, .slice x.A x.n x.c, .int .i64 x.K] 41)) (some ⟨w.heap.size, 0, none⟩) [x] := fun _ => ⟨w.heap.size, 0, rfl, fun i hi => by
 have hh := Has.new w 41 #[.string x.nm, .slice x.A x.n x.c, .int .i64 x.K]
 obtain rfl : i = 0 := by simpa using hi
 exact ⟨hh.cell 0, hh.cell 1, hh.cell 2⟩⟩
theorem OwnT.drew {B : Nat} {w : World} {v : Value} {L : List Tb} (h : OwnT B w v L) : OwnT B w.drew v L := h.below ((Below.refl _ w).drew)
theorem OwnT.off0 {B : Nat} {w : World} {g off n c : Nat} {L : List Tb} (h : OwnT B w (.slice (some ⟨g, off, none⟩) n c) L) : off = 0 := by
 rcases h.2 with ⟨hv, _⟩ | ⟨g2, cap, cur, hv, _⟩
 ·cases hv
 ·injection hv with e1 _ _
  injection e1 with e1
  injection e1
theorem ownT_put2 {B : Nat} {w : World} {g n c : Nat} {L : List Tb} (h : OwnT B w (.slice (some ⟨g, 0, none⟩) n c) L) (i : Nat) (hi : i < L.length) (j : Nat) (hj : j < 3) (u : Value) (x : Tb) (hx : x.row = L[i].row.set j u) :
 B ≤ g ∧ w.frozen? ⟨g, i * 3 + j, none⟩ = false ∧ OwnT B (w.setCell ⟨g, i * 3 + j, none⟩ u) (.slice (some ⟨g, 0, none⟩) n c) (L.set i x) := by
 obtain ⟨g2, c2, hv, hB, _, hf, _, ho⟩ := ownT_put h i hi j hj u x hx
 injection hv with e1 e2 e3
 injection e1 with e1
 injection e1 with e1
 subst e1
 exact ⟨hB, hf, ho⟩
theorem OwnT.row {B : Nat} {w : World} {v : Value} {L : List Tb} (h : OwnT B w v L) {A : Option Addr} {n c : Nat} (hv : v = .slice A n c) : TRow w A L := by
 obtain ⟨A2, c2, e, _, _, hr, _⟩ := ownT_row h
 rw [hv] at e
 injection e with e1 _ _
 rw [e1]; exact hr
theorem ownT_down {B B' : Nat} {w : World} {v : Value} {l : List Tb} (h : OwnT B w v l) (hb : B' ≤ B) : OwnT B' w v l := by
 obtain ⟨h1, h2⟩ := h
 refine ⟨h1, ?_⟩
 rcases h2 with h2 | ⟨g, cap, cur, e, hg, r⟩
 ·exact .inl h2
 ·exact .inr ⟨g, cap, cur, e, Nat.le_trans hb hg, r⟩
theorem OwnT.far {B : Nat} {w : World} {v : Value} {L : List Tb} (h : OwnT B w v L) {p : Addr} (hp : p.block < B) (u : Value) : OwnT B (w.setCell p u) v L := by
 rcases h.2 with ⟨hv, hn⟩ | ⟨g, cap, cur, hv, hg, hh, hc, hcm, hsz, ht⟩
 ·exact ⟨h.1, .inl ⟨hv, hn⟩⟩
 ·exact ⟨h.1, .inr ⟨g, cap, cur, hv, hg, Has.far (t := 41) (cs := cur) hh (by omega) u, hc, hcm, hsz, ht⟩⟩
theorem zerosT (w : World) (n G : Nat) (hG : n ≤ G) (hm : G ≤ maxLen) :
 OwnT w.heap.size (w.drew.alloc (.cells (([] : List Value).toArray ++ Builtin.zeroCells (Value.agg #[.string ⟨#[]⟩, .slice none 0 0, .int .i64 0]).cells n ++ Builtin.zeroCells (Value.agg #[.string ⟨#[]⟩, .slice none 0 0, .int .i64 0]).cells (G - n)) 41)) (.slice (some ⟨w.heap.size, 0, none⟩) 0 G) [] :=
 World.ownsRow_made (base := w.heap.size) w.drew _ G (Nat.le_refl _) hm (by simp [size_zeroCells, Value.cells]; omega)
set_option maxHeartbeats 1000000 in
theorem growT_any (n : Nat) (w : World) (h2 : n ≤ 1000) :
 Calls Tryz.prog 112 #[.slice none 0 0, .int .i64 n] w fun e w' => ∃ v, e = .returned v ∧ Hid (OwnT w.heap.size w' v []) ∧ Hid (Below w.heap.size w w') := by
 by_cases h1 : n = 0
 ·subst h1
  go_enter Tryz.func112, Tryz.ntmps112
  go_wp2_with fail
  go_ret
  exact ⟨_, rfl, World.ownsRow_nil _ _ _ _, Below.refl _ _⟩
 ·obtain ⟨i0, hi, hz0, hz1, hz2⟩ := info_parts infoT
  have h0 : 1 ≤ n := by omega
  have hr := fun ty => Lib.run_append_grow_zeros (P := Tryz.prog) w 22 3 ty 41 i0 (.agg #[.string ⟨#[]⟩, .slice none 0 0, .int .i64 0]) .i64 .i64 Tryz.underlying22 Tryz.underlying3 hi hz0 none 0 0 [] (run_firstCells_none w.drew i0.size 0 0 0) n (by omega) (by rw [hz1]; omega) (by omega) (by omega) (by rw [hz2]; omega) (by rw [hz2]; exact growslice_fits (by omega) (by omega))
  simp only [Nat.zero_add] at hr
  have hG := grownCap_ge w n 0 41
  have hM := grownCap_le_maxLen w n 0 41 (by unfold maxLen; omega)
  have HO := Lib.hid (zerosT w n _ hG hM)
  have HB := Lib.hid (((Below.refl w.heap.size w).drew).alloc (Nat.le_refl _) (.cells (([] : List Value).toArray ++ Builtin.zeroCells (Value.agg #[.string ⟨#[]⟩, .slice none 0 0, .int .i64 0]).cells n ++ Builtin.zeroCells (Value.agg #[.string ⟨#[]⟩, .slice none 0 0, .int .i64 0]).cells (grownCap w n 0 41 - n)) 41))
  have HR := Lib.hid hr
  unfold maxLen at hM
  clear hr h1
  generalize grownCap w n 0 41 = G at *
  obtain ⟨W, hW⟩ : ∃ W, W = w.drew.alloc (.cells (([] : List Value).toArray ++ Builtin.zeroCells (Value.agg #[.string ⟨#[]⟩, .slice none 0 0, .int .i64 0]).cells n ++ Builtin.zeroCells (Value.agg #[.string ⟨#[]⟩, .slice none 0 0, .int .i64 0]).cells (G - n)) 41) := ⟨_, rfl⟩
  rw [← hW] at HR HO HB
  clear hW
  go_enter Tryz.func112, Tryz.ntmps112
  go_wp2_with (at_builtin; refine Lib.wpList_append_run _ rfl _ _ _ _ rfl _ _ rfl rfl _ _ (HR.out _) ?_)
  go_ret
  exact ⟨_, rfl, HO, HB⟩
def PartsT (w : World) (g : Nat) (L : List (Option Addr × List Tb × Nat)) : Prop := ∀ i (h : i < L.length), w.cell? ⟨g, i, none⟩ = some (.slice L[i].1 L[i].2.1.length L[i].2.2) ∧ TRow w L[i].1 L[i].2.1 ∧ (L[i].1 = none → L[i].2.2 = 0)
def catT (L : List (Option Addr × List Tb × Nat)) (k : Nat) : List Tb := (L.take k).flatMap (fun x => x.2.1)
theorem catT_succ (L : List (Option Addr × List Tb × Nat)) (k : Nat) (h : k < L.length) : catT L (k + 1) = catT L k ++ L[k].2.1 := by
 unfold catT
 rw [List.take_succ_eq_append_getElem h, List.flatMap_append]
 simp
theorem catT_le (L : List (Option Addr × List Tb × Nat)) (k : Nat) : (catT L k).length ≤ (catT L L.length).length := by
 have h : catT L L.length = catT L k ++ (L.drop k).flatMap (fun x => x.2.1) := by
  unfold catT
  rw [← List.flatMap_append, List.take_append_drop, List.take_length]
 rw [h, List.length_append]
 omega
theorem catT_len_succ (L : List (Option Addr × List Tb × Nat)) (k : Nat) (h : k < L.length) : (catT L (k + 1)).length = (catT L k).length + L[k].2.1.length := by
 rw [catT_succ L k h, List.length_append]
set_option maxHeartbeats 2000000 in
set_option maxRecDepth 100000 in
theorem concatT_any (g : Nat) (L : List (Option Addr × List Tb × Nat)) (n c : Nat) (w : World) (hL : L.length = n) (hn : n ≤ 1000) (hP : PartsT w g L) (hb : (catT L n).length ≤ 1000) :
 Calls Tryz.prog 86 #[.slice (some ⟨g, 0, none⟩) n c] w fun e w' => ∃ v, e = .returned v ∧ Hid (OwnT w.heap.size w' v (catT L n)) ∧ Hid (Below w.heap.size w w') := by
 have HL := Lib.hid hL
 have HP := Lib.hid hP
 clear hL hP
 go_enter Tryz.func86, Tryz.ntmps86
 go_wp2_with fail
 go_loop [3, 11] (fun v i => ∃ k : Nat, k ≤ n ∧ i = .int .i64 k ∧ v = .int .i64 (catT L k).length) (fun _ i => n - (intOf i).toNat)
 case atStart => exact ⟨0, by omega, rfl, rfl⟩
 case round =>
  obtain ⟨k, hk, rfl, rfl⟩ := hrel
  by_cases hlt : k < n
  ·have hkl : k < L.length := by rw [HL.out]; exact hlt
   obtain ⟨hc, _, _⟩ := HP.out k hkl
   have h1 := catT_len_succ L k hkl
   have h2 := catT_le L (k + 1)
   rw [HL.out] at h2
   have H1 := Lib.hid h1
   have hs : (catT L k).length + L[k].2.1.length ≤ 1000 := by omega
   clear h1 h2
   generalize L[k].2.1.length = m at *
   generalize L[k].1 = B at *
   generalize L[k].2.2 = d at *
   generalize (catT L k).length = T at *
   go_wp2_with fail
   go_round
   case rel => exact ⟨k + 1, by omega, by go_num, by rw [H1.out]; go_num⟩
   case measure => simp [intOf]; omega
  ·obtain rfl : k = n := by omega
   go_wp2_with fail
   refine (growT_any _ _ hb).mono ?_
   rintro e w1 ⟨v, rfl, HO, HB⟩
   go_wp2_with fail
   go_loopw [6, 27] (fun v i wr => ∃ j : Nat, j ≤ k ∧ i = .int .i64 j ∧ Hid (OwnT w.heap.size wr v (catT L j)) ∧ Hid (Below w.heap.size w wr)) (fun _ i _ => k - (intOf i).toNat)
   case atStart => exact ⟨0, by omega, rfl, HO, HB⟩
   case round =>
    obtain ⟨j, hj, rfl, HO2, HB2⟩ := hrel
    clear HO HB
    by_cases hlt2 : j < k
    ·have hjl : j < L.length := by rw [HL.out]; exact hlt2
     obtain ⟨hc0, hr0, hn0⟩ := HP.out j hjl
     have hc : wr.cell? ⟨g, j, none⟩ = some (.slice L[j].1 L[j].2.1.length L[j].2.2) := (HB2.out.cell (World.block_lt_of_cell? w _ hc0)).trans hc0
     have h1 := catT_len_succ L j hjl
     have h2 := catT_le L (j + 1)
     rw [HL.out] at h2
     have HA := Lib.hid (appTs wr w.heap.size _ (catT L j) HO2.out HB2.out.size L[j].1 L[j].2.1 L[j].2.1.length L[j].2.2 rfl (hr0.below HB2.out) hn0 (by omega))
     rw [← catT_succ L j hjl] at HA
     clear hc0 hr0 hn0 h1 h2
     generalize L[j].2.1.length = m at *
     generalize L[j].1 = B at *
     generalize L[j].2.2 = d at *
     go_wp2_with (at_builtin; refine wpList_app rfl _ _ 22 22 rfl u6 (.slice B m d) rfl rfl ?_; obtain ⟨R, W', hrun, hmade⟩ := HA.out; refine ⟨R, W', hrun, ?_⟩; have HM := Lib.hid hmade; clear hrun hmade HA)
     go_roundw
     case rel => exact ⟨j + 1, by omega, by go_num, HM.out.1, HB2.out.trans (HM.out.2.mono (Nat.le_refl _))⟩
     case measure => simp [intOf]; omega
    ·obtain rfl : j = k := by omega
     go_wp2_with fail
     go_ret
     exact ⟨_, rfl, HO2.out, HB2.out⟩
structure CSt (w : World) (A : Option Addr) (n c : Nat) (K : Int) (wr : World) (v : Value) (M : List Cl) : Prop where
 own : OwnC (w.heap.size + 3) wr v M
 bel : Below w.heap.size w wr
 prm : Has wr w.heap.size 39 #[.slice A n c, .int .i64 K]
 res : Has wr (w.heap.size + 1) 39 #[.slice none 0 0, .int .i64 0]
 out : Has wr (w.heap.size + 2) 39 #[v, .int .i64 K]
 big : w.heap.size + 3 ≤ wr.heap.size
section
variable {w wr w' : World} {A : Option Addr} {n c : Nat} {K : Int} {v : Value} {M : List Cl}
theorem CSt.below (h : CSt w A n c K wr v M) (hb : Below wr.heap.size wr w') : CSt w A n c K w' v M :=
 ⟨h.own.below hb, h.bel.trans (hb.mono h.bel.size), h.prm.below hb h.prm.lt, h.res.below hb h.res.lt, h.out.below hb h.out.lt, Nat.le_trans h.big hb.size⟩
theorem CSt.stored (h : CSt w A n c K wr v M) {R : Value} {M' : List Cl} (ho : OwnC (w.heap.size + 3) w' R M') (hb : Below (w.heap.size + 3) wr w') : CSt w A n c K (w'.setCell ⟨w.heap.size + 2, 0, none⟩ R) R M' := by
 refine ⟨ho.far (by show w.heap.size + 2 < _; omega) R, (h.bel.trans (hb.mono (by omega))).setCell (by show w.heap.size ≤ w.heap.size + 2; omega) _, ?_, ?_, ?_, ?_⟩
 ·exact (h.prm.below hb (by omega)).far (by show w.heap.size ≠ w.heap.size + 2; omega) _
 ·exact (h.res.below hb (by omega)).far (by show w.heap.size + 1 ≠ w.heap.size + 2; omega) _
 ·exact (h.out.below hb (by omega)).put 0 R
 ·rw [size_set]; exact Nat.le_trans h.big hb.size
end
theorem clEnd (w' : World) (g : Nat) (c0 c1 : Value) (tmps : Array Value) (hp : tmps.getD 2 undef = .pointer (some ⟨g, 0, none⟩)) (hh : Has w' g 39 #[c0, c1]) :
 (results Tryz.f87 tmps).run Tryz.prog w' = .ok (.agg #[c0, c1]) w' :=
 results_cell_row rfl _ _ g 39 #[c0, c1] (0, 0) _ hp hh Tryz.underlying39 rfl (by kernel_rfl)
theorem sliceNil (a : Option Addr) (l c : Nat) (w : World) : (binOp .eql 37 (.slice a l c) (.slice none 0 0)).run Tryz.prog w = .ok (.bool a.isNone) w := Lib.run_eql_slice_nil (h := Tryz.underlying37) ..
theorem cell_s2' {W : World} {p : Nat} {u u' : Value} {a : Addr} {v : Value} (hne : p ≠ a.block) (h : W.cell? a = some v) : ((W.setCell ⟨p, 0, none⟩ u).setCell ⟨p, 1, none⟩ u').cell? a = some v := cell_s2 hne h
theorem own_empty (w : World) : OwnC w.heap.size (w.alloc (.cells #[] 46)) (.slice (some ⟨w.heap.size, 0, none⟩) 0 0) [] :=
 ⟨rfl, .inr ⟨w.heap.size, 0, #[], rfl, Nat.le_refl _, Has.new w 46 #[], Nat.le_refl _, Nat.zero_le _, rfl, rfl⟩⟩
set_option maxHeartbeats 2000000 in
set_option maxRecDepth 100000 in
theorem cloneC_any (A : Option Addr) (L : List Cl) (n c : Nat) (w : World) (hn : L.length = n) (hl : n ≤ 900) (hA : CRow w A L) (h0 : A = none → c = 0) :
 Calls Tryz.prog 113 #[.slice A n c] w fun e w' => ∃ v, e = .returned v ∧ Hid (OwnC w.heap.size w' v L) ∧ Hid (Below w.heap.size w w') := by
 have HN := Lib.hid hn
 have HA := Lib.hid hA
 clear hn hA
 rcases A with _ | ⟨b, off, x⟩
 ·have hc := h0 rfl
  subst hc
  have hL : L = [] := by
   rcases L with _ | ⟨y, L⟩
   ·rfl
   ·obtain ⟨b, off, e, _⟩ := HA.out (by simp); cases e
  subst hL
  have hn : n = 0 := HN.out.symm
  subst hn
  have hnil := sliceNil
  go_enter Tryz.func113, Tryz.ntmps113
  go_wp2_with fail
  go_ret
  exact ⟨_, rfl, ownC_nil _ _, Below.refl _ _⟩
 ·clear h0
  have HE := Lib.hid (own_empty w)
  have HB := Lib.hid ((Below.refl w.heap.size w).alloc (Nat.le_refl _) (.cells #[] 46))
  have HAP := Lib.hid (appCs (w.alloc (.cells #[] 46)) w.heap.size (.slice (some ⟨w.heap.size, 0, none⟩) 0 0) [] HE.out (by simp) (some ⟨b, off, x⟩) L n c HN.out (HA.out.below HB.out) (fun h => by cases h) (by simp; omega))
  have hnil := sliceNil
  go_enter Tryz.func113, Tryz.ntmps113
  go_wp2_with (at_builtin; refine wpList_app rfl _ _ 37 37 rfl (.slice (some ⟨w.heap.size, 0, none⟩) 0 0) (.slice (some ⟨b, off, x⟩) n c) rfl rfl ?_; obtain ⟨R, W', hrun, hmade⟩ := HAP.out; refine ⟨R, W', hrun, ?_⟩; have HM := Lib.hid hmade; clear hrun hmade HAP)
  go_ret
  exact ⟨R, rfl, HM.out.1, HB.out.trans HM.out.2⟩
set_option maxHeartbeats 2000000 in
set_option maxRecDepth 100000 in
theorem clone4_any (A : Option Addr) (L : List Cl) (n c : Nat) (K : Int) (w : World) (hn : L.length = n) (hl : n ≤ 900) (hA : CRow w A L) (h0 : A = none → c = 0) :
 Calls Tryz.prog 87 #[.agg #[.slice A n c, .int .i64 K]] w fun e w' => ∃ v, e = .returned (.agg #[v, .int .i64 K]) ∧ Hid (OwnC w.heap.size w' v L) ∧ Hid (Below w.heap.size w w') := by
 have HB0 := Lib.hid (((Below.refl w.heap.size w).alloc (Nat.le_refl _) (.cells #[.slice A n c, .int .i64 K] 39)).alloc (by simp) (.cells #[.slice none 0 0, .int .i64 0] 39))
 have HS0 := Lib.hid ((Has.new w 39 #[.slice A n c, .int .i64 K]).alloc (.cells #[.slice none 0 0, .int .i64 0] 39))
 have hg := Has.new (w.alloc (.cells #[.slice A n c, .int .i64 K] 39)) 39 #[.slice none 0 0, .int .i64 0]
 rw [show (w.alloc (.cells #[.slice A n c, .int .i64 K] 39)).heap.size = w.heap.size + 1 by simp] at hg
 have HG0 := Lib.hid hg
 have HCC := Lib.hid (fun W (hb : Below w.heap.size w W) => cloneC_any A L n c W hn hl (hA.below hb) h0)
 clear hg hn hA h0
 go_enter Tryz.func87, Tryz.ntmps87
 go_wp2_with fail
 obtain ⟨W, hW⟩ : ∃ W, W = (w.alloc (.cells #[.slice A n c, .int .i64 K] 39)).alloc (.cells #[.slice none 0 0, .int .i64 0] 39) := ⟨_, rfl⟩
 rw [← hW] at HB0 HS0 HG0 ⊢
 have hz : w.heap.size + 2 ≤ W.heap.size := by rw [hW]; simp
 clear hW
 have s0 : W.cell? ⟨w.heap.size, 0, none⟩ = some (.slice A n c) := HS0.out.cell 0
 have s1 : W.cell? ⟨w.heap.size, 1, none⟩ = some (.int .i64 K) := HS0.out.cell 1
 have g0 : W.cell? ⟨w.heap.size + 1, 0, none⟩ = some (.slice none 0 0) := HG0.out.cell 0
 have g1 : W.cell? ⟨w.heap.size + 1, 1, none⟩ = some (.int .i64 0) := HG0.out.cell 1
 have f0 : W.frozen? ⟨w.heap.size + 1, 0, none⟩ = false := HG0.out.free 0
 have HBD : Hid (Below w.heap.size w W.drew) := HB0.out.drew
 go_region_held3 (fun X => X.cell? ⟨w.heap.size, 0, none⟩ = some (.slice A n c) ∧ X.cell? ⟨w.heap.size, 1, none⟩ = some (.int .i64 K)) (first | (go_keep; done) | exact ⟨cell_s2' (by show w.heap.size + 1 ≠ w.heap.size; omega) (by assumption), cell_s2' (by show w.heap.size + 1 ≠ w.heap.size; omega) (by assumption)⟩) (first
  | (go_at_call 113; (with_reducible refine (HCC.out _ HBD.out).mono ?_); rintro e X ⟨v, rfl, ho, hb⟩; obtain ⟨A8, n8, c8, rfl, _, _, _, _, _⟩ := ownC_open ho.out; have z0 := keepC hb.out s0; have z1 := keepC hb.out s1; have HR := Lib.hid ((HG0.out.drew).below hb.out (by show w.heap.size + 1 < W.heap.size; omega)); have r0 : X.cell? ⟨w.heap.size + 1, 0, none⟩ = some (.slice none 0 0) := HR.out.cell 0; have r1 : X.cell? ⟨w.heap.size + 1, 1, none⟩ = some (.int .i64 0) := HR.out.cell 1; have e0 : X.frozen? ⟨w.heap.size + 1, 0, none⟩ = false := HR.out.free 0; have e1 : X.frozen? ⟨w.heap.size + 1, 1, none⟩ = false := HR.out.free 1; have HO := Lib.hid ho.out; have HBX := Lib.hid (HBD.out.trans (hb.out.mono (by show w.heap.size ≤ W.heap.size; omega))); clear ho hb))
 all_goals
  go_wp2_with fail
  have HP := Lib.hid ((HR.out.put 0 (.slice A8 n8 c8)).put 1 (.int .i64 K))
  have HO8 := Lib.hid ((HO.out.far (p := ⟨w.heap.size + 1, 0, none⟩) (by show w.heap.size + 1 < W.heap.size; omega) (.slice A8 n8 c8)).far (p := ⟨w.heap.size + 1, 1, none⟩) (by show w.heap.size + 1 < W.heap.size; omega) (.int .i64 K))
  exact bodyPost_ret (clEnd _ (w.heap.size + 1) _ _ _ rfl HP.out) rfl ⟨_, rfl, ownC_down HO8.out (by show w.heap.size ≤ W.heap.size; omega), (HBX.out.setCell (by show w.heap.size ≤ w.heap.size + 1; omega) _).setCell (by show w.heap.size ≤ w.heap.size + 1; omega) _⟩
end Go.Proofs.YtlnbhlgkehenpaaGreatDoor
namespace Go.Proofs.YtlnbhlgkehenpaaGreatDoor
open Go.RowKit Dg
theorem step_appA {P : Program} {ops : Array Oper} {o : Oper} {a : Act} {w : World} {K : Act → World → Prop} {Q : Exit → Act → World → Prop} {E : Prop} (hgd : o.guard = none) (s x : Operand) (t tx : TypeId)
 (ho : o.op = .call { callee := .builtin .append, args := #[s, x], argTypes := #[t, tx] }) (v xv : Value) (hs : a.eval s = v) (hx : a.eval x = xv)
 (hrun : ∃ R W', (Builtin.append_ #[t, tx] o.type #[v, xv]).run P w = .ok R W' ∧ K (a.put o.dst R) W') :
 if Region.wanted o (yielded ops a.tmps) = true then Oper.wp P o a w K Q else E := by
 have hw : Region.wanted o (yielded ops a.tmps) = true := by simp [Region.wanted, hgd]
 rw [if_pos hw]
 obtain ⟨R, W', hrun, h⟩ := hrun
 unfold Oper.wp execOp
 simp only [ho, resolve, invoke, builtin, Sem.run_bind, Sem.run_pure, Result.andThen_ok, List.map_toArray, List.map_cons, List.map_nil, hs, hx, hrun]
 exact h
theorem OwnC.drew {B : Nat} {w : World} {v : Value} {L : List Cl} (h : OwnC B w v L) : OwnC B w.drew v L := h.below ((Below.refl _ w).drew)
theorem cflat_take (L : List Cl) (i : Nat) (h : i ≤ L.length) : (L.flatMap Cl.cells).take (i * 3) = (L.take i).flatMap Cl.cells := by
 have e : L.flatMap Cl.cells = (L.take i).flatMap Cl.cells ++ (L.drop i).flatMap Cl.cells := by rw [← List.flatMap_append, List.take_append_drop]
 rw [e, List.take_append_of_le_length (by rw [cflat_len, List.length_take]; omega), List.take_of_length_le (by rw [cflat_len, List.length_take]; omega)]
theorem OwnC.takeV {B : Nat} {w : World} {a : Addr} {n c : Nat} {L : List Cl} (h : OwnC B w (.slice (some a) n c) L) (i : Nat) (hi : i ≤ L.length) : OwnC B w (.slice (some a) i c) (L.take i) := by
 rcases h.2 with ⟨hv, _⟩ | ⟨g, cap, cur, hv, hB, hh, hc, hcm, hsz, ht⟩
 ·cases hv
 ·injection hv with e1 e2 e3
  subst e3
  have hl : (L.take i).length = i := by rw [List.length_take]; omega
  refine ⟨cflat_len _, .inr ⟨g, c, cur, by rw [e1, hl], hB, hh, by rw [hl]; omega, hcm, hsz, ?_⟩⟩
  rw [hl, ← cflat_take L i hi, ← ht, List.take_take, Nat.min_eq_left (by omega)]
theorem OwnC.off0 {B : Nat} {w : World} {g off n c : Nat} {L : List Cl} (h : OwnC B w (.slice (some ⟨g, off, none⟩) n c) L) : off = 0 := by
 rcases h.2 with ⟨hv, _⟩ | ⟨g2, cap, cur, hv, _⟩
 ·cases hv
 ·injection hv with e1 _ _
  injection e1 with e1
  injection e1
theorem ownC_put2 {B : Nat} {w : World} {g n c : Nat} {L : List Cl} (h : OwnC B w (.slice (some ⟨g, 0, none⟩) n c) L) (i : Nat) (hi : i < L.length) (j : Nat) (hj : j < 3) (u : Value) (x : Cl) (hx : x.cells = L[i].cells.set j u) :
 B ≤ g ∧ w.frozen? ⟨g, i * 3 + j, none⟩ = false ∧ OwnC B (w.setCell ⟨g, i * 3 + j, none⟩ u) (.slice (some ⟨g, 0, none⟩) n c) (L.set i x) := by
 obtain ⟨g2, c2, hv, hB, _, hf, _, ho⟩ := ownC_put h i hi j hj u x hx
 injection hv with e1 e2 e3
 injection e1 with e1
 injection e1 with e1
 subst e1
 exact ⟨hB, hf, ho⟩
theorem OwnC.row {B : Nat} {w : World} {v : Value} {L : List Cl} (h : OwnC B w v L) {A : Option Addr} {n c : Nat} (hv : v = .slice A n c) : CRow w A L := by
 obtain ⟨A2, c2, e, _, _, hr, _⟩ := ownC_row h
 rw [hv] at e
 injection e with e1 _ _
 rw [e1]; exact hr
set_option maxRecDepth 100000
structure TOk (w : World) (x : Tb) : Prop where
 len : x.L.length = x.n
 cap : x.n ≤ x.c
 max : x.c ≤ maxLen
 row : CRow w x.A x.L
 nil : x.A = none → x.c = 0
 few : x.n ≤ 900
theorem TOk.below {w w' : World} {x : Tb} (h : TOk w x) (hb : Below w.heap.size w w') : TOk w' x := ⟨h.len, h.cap, h.max, h.row.below hb, h.nil, h.few⟩
def TOks (w : World) (T : List Tb) : Prop := ∀ x ∈ T, TOk w x
theorem TOks.below {w w' : World} {T : List Tb} (h : TOks w T) (hb : Below w.heap.size w w') : TOks w' T := fun x hx => (h x hx).below hb
structure Cln (B : Nat) (w : World) (x y : Tb) : Prop where
 td : y.td = x.td
 own : OwnC B w (.slice y.A y.n y.c) y.L
theorem Cln.ok {B : Nat} {w : World} {x y : Tb} (h : Cln B w x y) (hx : x.L.length ≤ 900) : TOk w y := by
 obtain ⟨A, c, e, h1, h2, h3, h4⟩ := ownC_row h.own
 injection e with e1 e2 e3
 have hL : y.L = x.L := congrArg Td.L h.td
 subst e1 e3
 exact ⟨e2.symm, by omega, h2, h3, h4, by rw [e2, hL]; exact hx⟩
def Clns (B : Nat) (w : World) (T T' : List Tb) : Prop := T'.length = T.length ∧ ∀ i (h : i < T.length) (h' : i < T'.length), Cln B w T[i] T'[i]
theorem Clns.td {B : Nat} {w : World} {T T' : List Tb} (h : Clns B w T T') : tds T' = tds T := by
 apply List.ext_getElem
 ·rw [tds_len, tds_len]; exact h.1
 ·intro i h1 h2
  rw [tds_len] at h1 h2
  rw [tds_get T' i h1, tds_get T i h2]
  exact (h.2 i h2 h1).td
theorem Clns.ok {B : Nat} {w : World} {T T' : List Tb} (h : Clns B w T T') (hx : ∀ x ∈ T, x.L.length ≤ 900) : TOks w T' := fun y hy => by
 obtain ⟨i, hi, rfl⟩ := List.getElem_of_mem hy
 have hi' : i < T.length := by rw [← h.1]; exact hi
 exact (h.2 i hi' hi).ok (hx _ (List.getElem_mem hi'))
theorem Cln.below {B : Nat} {w w' : World} {x y : Tb} (h : Cln B w x y) (hb : Below w.heap.size w w') : Cln B w' x y := ⟨h.td, h.own.below hb⟩
theorem Clns.below {B : Nat} {w w' : World} {T T' : List Tb} (h : Clns B w T T') (hb : Below w.heap.size w w') : Clns B w' T T' := ⟨h.1, fun i h1 h2 => (h.2 i h1 h2).below hb⟩
structure PSt (w : World) (D : Nat) (A9 : Option Addr) (n9 c9 : Nat) (T0 : List Tb) (k : Nat) (wr : World) (T1 : List Tb) : Prop where
 own : OwnT w.heap.size wr (.slice A9 n9 c9) T1
 dom : ∀ g, A9 = some ⟨g, 0, none⟩ → g < D
 len : T1.length = T0.length
 lo : ∀ i (h : i < T0.length) (h' : i < T1.length), i < k → Cln D wr T0[i] T1[i]
 hi : ∀ i (h : i < T0.length) (h' : i < T1.length), k ≤ i → T1[i] = T0[i]
 bel : Below w.heap.size w wr
 big : D ≤ wr.heap.size
theorem PSt.cells {w : World} {D g n9 c9 : Nat} {T0 : List Tb} {k : Nat} {wr : World} {T1 : List Tb} (h : PSt w D (some ⟨g, 0, none⟩) n9 c9 T0 k wr T1) (hk : k < T0.length) :
 wr.cell? ⟨g, k * 3 + 1, none⟩ = some (.slice T0[k].A T0[k].n T0[k].c) ∧ wr.cell? ⟨g, k * 3 + 2, none⟩ = some (.int .i64 T0[k].K) ∧ k < n9 ∧ w.heap.size ≤ g := by
 have hk1 : k < T1.length := by rw [h.len]; exact hk
 obtain ⟨g2, c2, hv, hg, hc, hf, hcell, _⟩ := ownT_put h.own k hk1 1 (by omega) (.slice T1[k].A T1[k].n T1[k].c) T1[k] rfl
 obtain ⟨_, _, hv', _, _, _, hcell2, _⟩ := ownT_put h.own k hk1 2 (by omega) (.int .i64 T1[k].K) T1[k] rfl
 injection hv with e1 e2 _
 injection e1 with e1
 injection e1 with e1
 injection hv' with e1' _ _
 injection e1' with e1'
 injection e1' with e1'
 subst e1 e1'
 rw [h.hi k hk hk1 (Nat.le_refl _)] at hcell hcell2
 exact ⟨hcell, hcell2, by omega, hg⟩
theorem PSt.step {w : World} {D g n9 c9 : Nat} {T0 : List Tb} {k : Nat} {wr : World} {T1 : List Tb} (h : PSt w D (some ⟨g, 0, none⟩) n9 c9 T0 k wr T1) (hk : k < T0.length) {w2 : World} {A8 : Option Addr} {n8 c8 : Nat} (ho : OwnC wr.heap.size w2 (.slice A8 n8 c8) T0[k].L) (hb : Below wr.heap.size wr w2) :
 w2.frozen? ⟨g, k * 3 + 1, none⟩ = false ∧ (w2.setCell ⟨g, k * 3 + 1, none⟩ (.slice A8 n8 c8)).frozen? ⟨g, k * 3 + 2, none⟩ = false ∧
 PSt w D (some ⟨g, 0, none⟩) n9 c9 T0 (k + 1) ((w2.setCell ⟨g, k * 3 + 1, none⟩ (.slice A8 n8 c8)).setCell ⟨g, k * 3 + 2, none⟩ (.int .i64 T0[k].K)) (T1.set k ⟨T0[k].nm, A8, n8, c8, T0[k].L, T0[k].K⟩) := by
 have hg : g < D := h.dom g rfl
 have hk1 : k < T1.length := by rw [h.len]; exact hk
 have hT := h.hi k hk hk1 (Nat.le_refl _)
 obtain ⟨hgB, hf1, ho1⟩ := ownT_put2 (h.own.below hb) k hk1 1 (by omega) (.slice A8 n8 c8) ⟨T0[k].nm, A8, n8, c8, T0[k].L, T0[k].K⟩ (by rw [hT]; rfl)
 have hk2 : k < (T1.set k ⟨T0[k].nm, A8, n8, c8, T0[k].L, T0[k].K⟩).length := by rw [List.length_set]; exact hk1
 obtain ⟨_, hf2, ho2⟩ := ownT_put2 ho1 k hk2 2 (by omega) (.int .i64 T0[k].K) ⟨T0[k].nm, A8, n8, c8, T0[k].L, T0[k].K⟩ (by rw [List.getElem_set_self]; rfl)
 rw [List.set_set] at ho2
 refine ⟨hf1, hf2, ho2, h.dom, by rw [List.length_set]; exact h.len, fun i h1 h2 hik => ?_, fun i h1 h2 hik => ?_, ?_, ?_⟩
 ·rw [List.length_set] at h2
  by_cases e : k = i
  ·subst e
   rw [List.getElem_set_self]
   exact ⟨rfl, ((ownC_down ho h.big).far (p := ⟨g, k * 3 + 1, none⟩) hg _).far (p := ⟨g, k * 3 + 2, none⟩) hg _⟩
  ·rw [List.getElem_set_ne e]
   have hc := h.lo i h1 h2 (by omega)
   exact ⟨hc.td, ((hc.own.below hb).far (p := ⟨g, k * 3 + 1, none⟩) hg _).far (p := ⟨g, k * 3 + 2, none⟩) hg _⟩
 ·rw [List.length_set] at h2
  rw [List.getElem_set_ne (by omega)]
  exact h.hi i h1 h2 (by omega)
 ·exact ((h.bel.trans (hb.mono h.bel.size)).setCell hgB _).setCell hgB _
 ·have h1 := h.big
  have h2 := hb.size
  simp
  omega
theorem PSt.open_ {w : World} {D : Nat} {A9 : Option Addr} {n9 c9 : Nat} {T0 : List Tb} {k : Nat} {wr : World} {T1 : List Tb} (h : PSt w D A9 n9 c9 T0 k wr T1) : n9 = T0.length ∧ (k < n9 → ∃ g, A9 = some ⟨g, 0, none⟩) := by
 have hn : n9 = T1.length := by
  obtain ⟨A, c, e, _⟩ := ownT_row h.own
  injection e
 refine ⟨by rw [hn, h.len], fun hk => ?_⟩
 obtain ⟨g2, c2, hv, _⟩ := ownT_put h.own k (by omega) 1 (by omega) (.slice T1[k].A T1[k].n T1[k].c) T1[k] rfl
 injection hv with e1 _ _
 exact ⟨g2, e1⟩
theorem PSt.start {w w1 W : World} {A9 : Option Addr} {n9 c9 : Nat} {T0 : List Tb} (ho : OwnT W.heap.size w1 (.slice A9 n9 c9) T0) (hb : Below w.heap.size w w1) (hW : w.heap.size ≤ W.heap.size) : PSt w w1.heap.size A9 n9 c9 T0 0 w1 T0 := by
 refine ⟨ownT_down ho hW, fun g e => ?_, rfl, fun i _ _ h => absurd h (by omega), fun i _ _ _ => rfl, hb, Nat.le_refl _⟩
 subst e
 rcases ho.2 with ⟨hv, _⟩ | ⟨g2, cap, cur, hv, _, hh, _⟩
 ·cases hv
 ·injection hv with e1 _ _
  injection e1 with e1
  injection e1 with e1
  subst e1
  exact Has.lt (t := 41) (cs := cur) hh
theorem PSt.done {w wr : World} {D : Nat} {A9 : Option Addr} {n9 c9 : Nat} {T0 T1 : List Tb} (h : PSt w D A9 n9 c9 T0 T0.length wr T1) (hD : w.heap.size ≤ D) : Clns w.heap.size wr T0 T1 :=
 ⟨h.len, fun i h1 h2 => ⟨(h.lo i h1 h2 h1).td, ownC_down (h.lo i h1 h2 h1).own hD⟩⟩
theorem cat3_any (g : Nat) (A1 A2 A3 : Option Addr) (T1 T2 T3 : List Tb) (n1 c1 n2 c2 n3 c3 : Nat) (w : World) (h1 : T1.length = n1) (h2 : T2.length = n2) (h3 : T3.length = n3) (hl : n1 + n2 + n3 ≤ 1000)
 (hc0 : w.cell? ⟨g, 0, none⟩ = some (.slice A1 n1 c1)) (hc1 : w.cell? ⟨g, 1, none⟩ = some (.slice A2 n2 c2)) (hc2 : w.cell? ⟨g, 2, none⟩ = some (.slice A3 n3 c3))
 (r1 : TRow w A1 T1) (r2 : TRow w A2 T2) (r3 : TRow w A3 T3) (z1 : A1 = none → c1 = 0) (z2 : A2 = none → c2 = 0) (z3 : A3 = none → c3 = 0) :
 Calls Tryz.prog 86 #[.slice (some ⟨g, 0, none⟩) 3 3] w fun e w' => ∃ v, e = .returned v ∧ Hid (OwnT w.heap.size w' v (T1 ++ T2 ++ T3)) ∧ Hid (Below w.heap.size w w') := by
 have hcat : catT [(A1, T1, c1), (A2, T2, c2), (A3, T3, c3)] 3 = T1 ++ T2 ++ T3 := by simp [catT]
 have hC := concatT_any g [(A1, T1, c1), (A2, T2, c2), (A3, T3, c3)] 3 3 w rfl (by omega) (fun i hi => by
  have : i = 0 ∨ i = 1 ∨ i = 2 := by simp at hi; omega
  rcases this with rfl | rfl | rfl
  ·exact ⟨by rw [hc0]; simp [h1], r1, z1⟩
  ·exact ⟨by rw [hc1]; simp [h2], r2, z2⟩
  ·exact ⟨by rw [hc2]; simp [h3], r3, z3⟩) (by rw [hcat]; simp; omega)
 rw [hcat] at hC
 exact hC
theorem catput_any (w W : World) (hb : Below w.heap.size w W) (A1 A2 A3 : Option Addr) (T1 T2 T3 : List Tb) (n1 c1 n2 c2 n3 c3 : Nat) (h1 : T1.length = n1) (h2 : T2.length = n2) (h3 : T3.length = n3) (hl : n1 + n2 + n3 ≤ 1000)
 (r1 : TRow w A1 T1) (r2 : TRow w A2 T2) (r3 : TRow w A3 T3) (z1 : A1 = none → c1 = 0) (z2 : A2 = none → c2 = 0) (z3 : A3 = none → c3 = 0) :
 Calls Tryz.prog 86 #[.slice (some ⟨W.heap.size, 0, none⟩) 3 3] (W.alloc (.cells #[.slice A1 n1 c1, .slice A2 n2 c2, .slice A3 n3 c3] 22)).drew fun e w' => ∃ v, e = .returned v ∧ Hid (OwnT W.heap.size w' v (T1 ++ T2 ++ T3)) ∧ Hid (Below W.heap.size W w') := by
 have hb2 : Below w.heap.size w (W.alloc (.cells #[.slice A1 n1 c1, .slice A2 n2 c2, .slice A3 n3 c3] 22)).drew := (hb.alloc hb.size _).drew
 have hh := (Has.new W 22 #[.slice A1 n1 c1, .slice A2 n2 c2, .slice A3 n3 c3]).drew
 refine (cat3_any W.heap.size A1 A2 A3 T1 T2 T3 n1 c1 n2 c2 n3 c3 _ h1 h2 h3 hl (hh.cell 0) (hh.cell 1) (hh.cell 2) (r1.below hb2) (r2.below hb2) (r3.below hb2) z1 z2 z3).mono ?_
 rintro e w' ⟨v, rfl, ho, hb'⟩
 exact ⟨v, rfl, ownT_down ho.out (by simp), (((Below.refl W.heap.size W).alloc (Nat.le_refl _) _).drew).trans (hb'.out.mono (by simp))⟩
theorem trow_nil (w : World) (A : Option Addr) : TRow w A [] := fun h => absurd rfl h
set_option maxHeartbeats 6000000 in
theorem putT_any (A : Option Addr) (T : List Tb) (n c f t : Nat) (B : Option Addr) (X : List Tb) (m d : Nat) (w : World) (hn : T.length = n) (hnc : n ≤ c) (hcm : c ≤ maxLen) (hft : f ≤ t) (htn : t ≤ n) (hl : n ≤ 900) (hA : TRow w A T) (hA0 : A = none → c = 0) (hI : TOks w T) (hX : X.length = m) (hm : m ≤ 1) (hB : TRow w B X) (hB0 : B = none → d = 0) (hXI : TOks w X) :
 Calls Tryz.prog 55 #[.slice A n c, .int .i64 f, .int .i64 t, .slice B m d] w fun e w' => ∃ v T', e = .returned v ∧ Hid (OwnT w.heap.size w' v T') ∧ Hid (Clns w.heap.size w' (T.take f ++ X ++ T.drop t) T') ∧ Hid (Below w.heap.size w w') := by
 have HI : Hid (TOks w (T.take f ++ X ++ T.drop t)) := fun x hx => by
  rw [List.mem_append, List.mem_append] at hx
  rcases hx with (hx | hx) | hx
  ·exact hI x (List.mem_of_mem_take hx)
  ·exact hXI x hx
  ·exact hI x (List.mem_of_mem_drop hx)
 have hlt : (T.take f).length = f := by rw [List.length_take]; omega
 have hld : (T.drop t).length = n - t := by rw [List.length_drop, hn]
 have HT0 : Hid ((T.take f ++ X ++ T.drop t).length ≤ 1000) := by show _ ≤ _; simp [hn, hX]; omega
 obtain ⟨T0, hT0⟩ : ∃ T0, T.take f ++ X ++ T.drop t = T0 := ⟨_, rfl⟩
 have z1 : (f : Int) ≤ (t : Int) := by omega
 have z2 : (t : Int) ≤ (n : Int) := by omega
 have z3 : (n : Int) ≤ (c : Int) := by omega
 have z4 : (f : Int) ≤ (c : Int) := by omega
 have z5 : (t : Int) ≤ (c : Int) := by omega
 unfold maxLen at hcm
 rcases A with _ | ⟨b, off, sp⟩
 ·obtain rfl : c = 0 := hA0 rfl
  obtain rfl : n = 0 := by omega
  obtain rfl : t = 0 := by omega
  obtain rfl : f = 0 := by omega
  have HC := Lib.hid (catput_any w w (Below.refl _ w) none B none (T.take 0) X (T.drop 0) 0 0 m d 0 0 hlt hX hld (by omega) (by rw [List.take_zero]; exact trow_nil _ _) hB (by rw [List.eq_nil_of_length_eq_zero hn]; exact trow_nil _ _) (fun _ => rfl) hB0 (fun _ => rfl))
  rw [hT0] at HC HI HT0 ⊢
  clear hA hA0 hI hX hB hB0 hXI hlt hld hT0 hn
  have hb0 : Hid (Below w.heap.size w w.drew) := (Below.refl _ w).drew
  have hbr : Hid (Below w.heap.size w w) := Below.refl _ w
  go_enter Tryz.func55, Tryz.ntmps55
  go_wp2_with fail
  go_region_held3 (fun X => Hid (Below w.heap.size w X)) (first | assumption | exact hid_d1 (by assumption) _)
   (first | (go_at_call 86; refine HC.out.mono ?_; rintro e x1 ⟨v, rfl, ho, hbx⟩; obtain ⟨A9, c9, hv, h91, h92, _, _⟩ := ownT_row ho.out; obtain ⟨n9, hn9⟩ : ∃ n9, T0.length = n9 := ⟨_, rfl⟩; rw [hn9] at hv h91; subst hv; have PS := Lib.hid (PSt.start ho.out hbx.out (Nat.le_refl _)); have hbw : Hid (Below w.heap.size w x1) := hbx; clear ho))
  all_goals
   have h1000 : n9 ≤ 1000 := by have := HT0.out; omega
   go_wp2_with fail
   go_loopw [22] (fun i wr => ∃ (k : Nat) (T1 : List Tb), k ≤ n9 ∧ i = .int .i64 k ∧ Hid (PSt w x1.heap.size A9 n9 c9 T0 k wr T1)) (fun i _ => n9 - (intOf i).toNat)
   case atStart => exact ⟨0, T0, by omega, rfl, PS⟩
   case round =>
    obtain ⟨k, T1, hk, rfl, HS⟩ := hrel
    clear PS HC
    by_cases hlt : k < n9
    ·obtain ⟨g, rfl⟩ := HS.out.open_.2 hlt
     have hk0 : k < T0.length := by rw [hn9]; exact hlt
     obtain ⟨p1, p2, _, _⟩ := HS.out.cells hk0
     have hx := HI.out T0[k] (List.getElem_mem hk0)
     have HCL := Lib.hid (clone4_any T0[k].A T0[k].L T0[k].n T0[k].c T0[k].K wr hx.len hx.few (hx.row.below HS.out.bel) hx.nil)
     have HST : Hid (∀ (w2 : World) (A8 : Option Addr) (n8 c8 : Nat), Hid (OwnC wr.heap.size w2 (.slice A8 n8 c8) T0[k].L) → Hid (Below wr.heap.size wr w2) → w2.frozen? ⟨g, k * 3 + 1, none⟩ = false ∧ (w2.setCell ⟨g, k * 3 + 1, none⟩ (.slice A8 n8 c8)).frozen? ⟨g, k * 3 + 2, none⟩ = false ∧ ∃ T2, Hid (PSt w x1.heap.size (some ⟨g, 0, none⟩) n9 c9 T0 (k + 1) ((w2.setCell ⟨g, k * 3 + 1, none⟩ (.slice A8 n8 c8)).setCell ⟨g, k * 3 + 2, none⟩ (.int .i64 T0[k].K)) T2)) := fun w2 A8 n8 c8 ho hb => by
      obtain ⟨q1, q2, q3⟩ := HS.out.step hk0 ho.out hb.out
      exact ⟨q1, q2, _, q3⟩
     have hkz : (k : Int) < (n9 : Int) := by omega
     clear hx
     generalize T0[k] = x at *
     obtain ⟨xs, xA, xn, xc, xL, xK⟩ := x
     simp only at p1 p2 HCL HST
     go_wp2_with fail
     refine HCL.out.mono ?_
     rintro e w2 ⟨v8, rfl, ho8, hb8⟩
     obtain ⟨A8, n8, c8, rfl, _, _, _, _, _⟩ := ownC_open ho8.out
     obtain ⟨q1, q2, T2, S2⟩ := HST.out w2 A8 n8 c8 ho8 hb8
     have y1 := keepC hb8.out p1
     have y2 := keepC hb8.out p2
     clear HST HCL ho8 p1 p2
     go_wp2_with fail
     go_roundw
     case rel => exact ⟨k + 1, T2, by omega, by go_num, S2⟩
     case measure => simp [intOf]; omega
    ·obtain rfl : k = n9 := by omega
     go_wp2_with fail
     go_ret
     exact ⟨_, T1, rfl, HS.out.own, (by have h := HS.out; rw [← hn9] at h; exact h.done hbx.out.size), HS.out.bel⟩
 ·by_cases hn0 : T = []
  ·subst hn0
   obtain rfl : n = 0 := by simpa using hn.symm
   obtain rfl : t = 0 := by omega
   obtain rfl : f = 0 := by omega
   have HC := Lib.hid (catput_any w w (Below.refl _ w) (some ⟨b, off, sp⟩) B (some ⟨b, off, sp⟩) ([].take 0) X ([].drop 0) 0 c m d 0 c hlt hX hld (by omega) (by rw [List.take_nil]; exact trow_nil _ _) hB (by rw [List.drop_nil]; exact trow_nil _ _) (fun e => by cases e) hB0 (fun e => by cases e))
   rw [hT0] at HC HI HT0 ⊢
   by_cases hct : c = 0
   ·subst hct
    clear hA hA0 hI hX hB hB0 hXI hlt hld hT0 hn
    have hb0 : Hid (Below w.heap.size w w.drew) := (Below.refl _ w).drew
    have hbr : Hid (Below w.heap.size w w) := Below.refl _ w
    go_enter Tryz.func55, Tryz.ntmps55
    go_wp2_with fail
    go_region_held3 (fun X => Hid (Below w.heap.size w X)) (first | assumption | exact hid_d1 (by assumption) _)
     (first | (go_at_call 86; refine HC.out.mono ?_; rintro e x1 ⟨v, rfl, ho, hbx⟩; obtain ⟨A9, c9, hv, h91, h92, _, _⟩ := ownT_row ho.out; obtain ⟨n9, hn9⟩ : ∃ n9, T0.length = n9 := ⟨_, rfl⟩; rw [hn9] at hv h91; subst hv; have PS := Lib.hid (PSt.start ho.out hbx.out (Nat.le_refl _)); have hbw : Hid (Below w.heap.size w x1) := hbx; clear ho))
    all_goals
     have h1000 : n9 ≤ 1000 := by have := HT0.out; omega
     go_wp2_with fail
     go_loopw [22] (fun i wr => ∃ (k : Nat) (T1 : List Tb), k ≤ n9 ∧ i = .int .i64 k ∧ Hid (PSt w x1.heap.size A9 n9 c9 T0 k wr T1)) (fun i _ => n9 - (intOf i).toNat)
     case atStart => exact ⟨0, T0, by omega, rfl, PS⟩
     case round =>
      obtain ⟨k, T1, hk, rfl, HS⟩ := hrel
      clear PS HC
      by_cases hlt : k < n9
      ·obtain ⟨g, rfl⟩ := HS.out.open_.2 hlt
       have hk0 : k < T0.length := by rw [hn9]; exact hlt
       obtain ⟨p1, p2, _, _⟩ := HS.out.cells hk0
       have hx := HI.out T0[k] (List.getElem_mem hk0)
       have HCL := Lib.hid (clone4_any T0[k].A T0[k].L T0[k].n T0[k].c T0[k].K wr hx.len hx.few (hx.row.below HS.out.bel) hx.nil)
       have HST : Hid (∀ (w2 : World) (A8 : Option Addr) (n8 c8 : Nat), Hid (OwnC wr.heap.size w2 (.slice A8 n8 c8) T0[k].L) → Hid (Below wr.heap.size wr w2) → w2.frozen? ⟨g, k * 3 + 1, none⟩ = false ∧ (w2.setCell ⟨g, k * 3 + 1, none⟩ (.slice A8 n8 c8)).frozen? ⟨g, k * 3 + 2, none⟩ = false ∧ ∃ T2, Hid (PSt w x1.heap.size (some ⟨g, 0, none⟩) n9 c9 T0 (k + 1) ((w2.setCell ⟨g, k * 3 + 1, none⟩ (.slice A8 n8 c8)).setCell ⟨g, k * 3 + 2, none⟩ (.int .i64 T0[k].K)) T2)) := fun w2 A8 n8 c8 ho hb => by
        obtain ⟨q1, q2, q3⟩ := HS.out.step hk0 ho.out hb.out
        exact ⟨q1, q2, _, q3⟩
       have hkz : (k : Int) < (n9 : Int) := by omega
       clear hx
       generalize T0[k] = x at *
       obtain ⟨xs, xA, xn, xc, xL, xK⟩ := x
       simp only at p1 p2 HCL HST
       go_wp2_with fail
       refine HCL.out.mono ?_
       rintro e w2 ⟨v8, rfl, ho8, hb8⟩
       obtain ⟨A8, n8, c8, rfl, _, _, _, _, _⟩ := ownC_open ho8.out
       obtain ⟨q1, q2, T2, S2⟩ := HST.out w2 A8 n8 c8 ho8 hb8
       have y1 := keepC hb8.out p1
       have y2 := keepC hb8.out p2
       clear HST HCL ho8 p1 p2
       go_wp2_with fail
       go_roundw
       case rel => exact ⟨k + 1, T2, by omega, by go_num, S2⟩
       case measure => simp [intOf]; omega
      ·obtain rfl : k = n9 := by omega
       go_wp2_with fail
       go_ret
       exact ⟨_, T1, rfl, HS.out.own, (by have h := HS.out; rw [← hn9] at h; exact h.done hbx.out.size), HS.out.bel⟩
   ·clear hA hA0 hI hX hB hB0 hXI hlt hld hT0 hn
    have hb0 : Hid (Below w.heap.size w w.drew) := (Below.refl _ w).drew
    have hbr : Hid (Below w.heap.size w w) := Below.refl _ w
    go_enter Tryz.func55, Tryz.ntmps55
    go_wp2_with fail
    go_region_held3 (fun X => Hid (Below w.heap.size w X)) (first | assumption | exact hid_d1 (by assumption) _)
     (first | (go_at_call 86; refine HC.out.mono ?_; rintro e x1 ⟨v, rfl, ho, hbx⟩; obtain ⟨A9, c9, hv, h91, h92, _, _⟩ := ownT_row ho.out; obtain ⟨n9, hn9⟩ : ∃ n9, T0.length = n9 := ⟨_, rfl⟩; rw [hn9] at hv h91; subst hv; have PS := Lib.hid (PSt.start ho.out hbx.out (Nat.le_refl _)); have hbw : Hid (Below w.heap.size w x1) := hbx; clear ho))
    all_goals
     have h1000 : n9 ≤ 1000 := by have := HT0.out; omega
     go_wp2_with fail
     go_loopw [22] (fun i wr => ∃ (k : Nat) (T1 : List Tb), k ≤ n9 ∧ i = .int .i64 k ∧ Hid (PSt w x1.heap.size A9 n9 c9 T0 k wr T1)) (fun i _ => n9 - (intOf i).toNat)
     case atStart => exact ⟨0, T0, by omega, rfl, PS⟩
     case round =>
      obtain ⟨k, T1, hk, rfl, HS⟩ := hrel
      clear PS HC
      by_cases hlt : k < n9
      ·obtain ⟨g, rfl⟩ := HS.out.open_.2 hlt
       have hk0 : k < T0.length := by rw [hn9]; exact hlt
       obtain ⟨p1, p2, _, _⟩ := HS.out.cells hk0
       have hx := HI.out T0[k] (List.getElem_mem hk0)
       have HCL := Lib.hid (clone4_any T0[k].A T0[k].L T0[k].n T0[k].c T0[k].K wr hx.len hx.few (hx.row.below HS.out.bel) hx.nil)
       have HST : Hid (∀ (w2 : World) (A8 : Option Addr) (n8 c8 : Nat), Hid (OwnC wr.heap.size w2 (.slice A8 n8 c8) T0[k].L) → Hid (Below wr.heap.size wr w2) → w2.frozen? ⟨g, k * 3 + 1, none⟩ = false ∧ (w2.setCell ⟨g, k * 3 + 1, none⟩ (.slice A8 n8 c8)).frozen? ⟨g, k * 3 + 2, none⟩ = false ∧ ∃ T2, Hid (PSt w x1.heap.size (some ⟨g, 0, none⟩) n9 c9 T0 (k + 1) ((w2.setCell ⟨g, k * 3 + 1, none⟩ (.slice A8 n8 c8)).setCell ⟨g, k * 3 + 2, none⟩ (.int .i64 T0[k].K)) T2)) := fun w2 A8 n8 c8 ho hb => by
        obtain ⟨q1, q2, q3⟩ := HS.out.step hk0 ho.out hb.out
        exact ⟨q1, q2, _, q3⟩
       have hkz : (k : Int) < (n9 : Int) := by omega
       clear hx
       generalize T0[k] = x at *
       obtain ⟨xs, xA, xn, xc, xL, xK⟩ := x
       simp only at p1 p2 HCL HST
       go_wp2_with fail
       refine HCL.out.mono ?_
       rintro e w2 ⟨v8, rfl, ho8, hb8⟩
       obtain ⟨A8, n8, c8, rfl, _, _, _, _, _⟩ := ownC_open ho8.out
       obtain ⟨q1, q2, T2, S2⟩ := HST.out w2 A8 n8 c8 ho8 hb8
       have y1 := keepC hb8.out p1
       have y2 := keepC hb8.out p2
       clear HST HCL ho8 p1 p2
       go_wp2_with fail
       go_roundw
       case rel => exact ⟨k + 1, T2, by omega, by go_num, S2⟩
       case measure => simp [intOf]; omega
      ·obtain rfl : k = n9 := by omega
       go_wp2_with fail
       go_ret
       exact ⟨_, T1, rfl, HS.out.own, (by have h := HS.out; rw [← hn9] at h; exact h.done hbx.out.size), HS.out.bel⟩
  ·obtain ⟨b', off', e, _⟩ := hA hn0
   injection e with e
   injection e with e1 e2 e3
   subst e1 e2 e3
   by_cases hct : c = t
   ·subst hct
    have HC := Lib.hid (catput_any w w (Below.refl _ w) (some ⟨b, off, none⟩) B (some ⟨b, off, none⟩) (T.take f) X (T.drop c) f c m d 0 0 hlt hX (by omega) (by omega) (hA.take f) hB (by rw [List.drop_eq_nil_of_le (by omega)]; exact trow_nil _ _) (fun e => by cases e) hB0 (fun e => by cases e))
    rw [hT0] at HC HI HT0 ⊢
    clear hA hA0 hI hX hB hB0 hXI hlt hld hT0 hn hn0
    have hb0 : Hid (Below w.heap.size w w.drew) := (Below.refl _ w).drew
    have hbr : Hid (Below w.heap.size w w) := Below.refl _ w
    go_enter Tryz.func55, Tryz.ntmps55
    go_wp2_with fail
    go_region_held3 (fun X => Hid (Below w.heap.size w X)) (first | assumption | exact hid_d1 (by assumption) _)
     (first | (go_at_call 86; refine HC.out.mono ?_; rintro e x1 ⟨v, rfl, ho, hbx⟩; obtain ⟨A9, c9, hv, h91, h92, _, _⟩ := ownT_row ho.out; obtain ⟨n9, hn9⟩ : ∃ n9, T0.length = n9 := ⟨_, rfl⟩; rw [hn9] at hv h91; subst hv; have PS := Lib.hid (PSt.start ho.out hbx.out (Nat.le_refl _)); have hbw : Hid (Below w.heap.size w x1) := hbx; clear ho))
    all_goals
     have h1000 : n9 ≤ 1000 := by have := HT0.out; omega
     go_wp2_with fail
     go_loopw [22] (fun i wr => ∃ (k : Nat) (T1 : List Tb), k ≤ n9 ∧ i = .int .i64 k ∧ Hid (PSt w x1.heap.size A9 n9 c9 T0 k wr T1)) (fun i _ => n9 - (intOf i).toNat)
     case atStart => exact ⟨0, T0, by omega, rfl, PS⟩
     case round =>
      obtain ⟨k, T1, hk, rfl, HS⟩ := hrel
      clear PS HC
      by_cases hlt : k < n9
      ·obtain ⟨g, rfl⟩ := HS.out.open_.2 hlt
       have hk0 : k < T0.length := by rw [hn9]; exact hlt
       obtain ⟨p1, p2, _, _⟩ := HS.out.cells hk0
       have hx := HI.out T0[k] (List.getElem_mem hk0)
       have HCL := Lib.hid (clone4_any T0[k].A T0[k].L T0[k].n T0[k].c T0[k].K wr hx.len hx.few (hx.row.below HS.out.bel) hx.nil)
       have HST : Hid (∀ (w2 : World) (A8 : Option Addr) (n8 c8 : Nat), Hid (OwnC wr.heap.size w2 (.slice A8 n8 c8) T0[k].L) → Hid (Below wr.heap.size wr w2) → w2.frozen? ⟨g, k * 3 + 1, none⟩ = false ∧ (w2.setCell ⟨g, k * 3 + 1, none⟩ (.slice A8 n8 c8)).frozen? ⟨g, k * 3 + 2, none⟩ = false ∧ ∃ T2, Hid (PSt w x1.heap.size (some ⟨g, 0, none⟩) n9 c9 T0 (k + 1) ((w2.setCell ⟨g, k * 3 + 1, none⟩ (.slice A8 n8 c8)).setCell ⟨g, k * 3 + 2, none⟩ (.int .i64 T0[k].K)) T2)) := fun w2 A8 n8 c8 ho hb => by
        obtain ⟨q1, q2, q3⟩ := HS.out.step hk0 ho.out hb.out
        exact ⟨q1, q2, _, q3⟩
       have hkz : (k : Int) < (n9 : Int) := by omega
       clear hx
       generalize T0[k] = x at *
       obtain ⟨xs, xA, xn, xc, xL, xK⟩ := x
       simp only at p1 p2 HCL HST
       go_wp2_with fail
       refine HCL.out.mono ?_
       rintro e w2 ⟨v8, rfl, ho8, hb8⟩
       obtain ⟨A8, n8, c8, rfl, _, _, _, _, _⟩ := ownC_open ho8.out
       obtain ⟨q1, q2, T2, S2⟩ := HST.out w2 A8 n8 c8 ho8 hb8
       have y1 := keepC hb8.out p1
       have y2 := keepC hb8.out p2
       clear HST HCL ho8 p1 p2
       go_wp2_with fail
       go_roundw
       case rel => exact ⟨k + 1, T2, by omega, by go_num, S2⟩
       case measure => simp [intOf]; omega
      ·obtain rfl : k = n9 := by omega
       go_wp2_with fail
       go_ret
       exact ⟨_, T1, rfl, HS.out.own, (by have h := HS.out; rw [← hn9] at h; exact h.done hbx.out.size), HS.out.bel⟩
   ·have HC := Lib.hid (catput_any w w (Below.refl _ w) (some ⟨b, off, none⟩) B (some ⟨b, off + t * 3, none⟩) (T.take f) X (T.drop t) f c m d (n - t) (c - t) hlt hX hld (by omega) (hA.take f) hB (hA.drop t) (fun e => by cases e) hB0 (fun e => by cases e))
    rw [hT0] at HC HI HT0 ⊢
    clear hA hA0 hI hX hB hB0 hXI hlt hld hT0 hn hn0
    have hb0 : Hid (Below w.heap.size w w.drew) := (Below.refl _ w).drew
    have hbr : Hid (Below w.heap.size w w) := Below.refl _ w
    go_enter Tryz.func55, Tryz.ntmps55
    go_wp2_with fail
    go_region_held3 (fun X => Hid (Below w.heap.size w X)) (first | assumption | exact hid_d1 (by assumption) _)
     (first | (go_at_call 86; refine HC.out.mono ?_; rintro e x1 ⟨v, rfl, ho, hbx⟩; obtain ⟨A9, c9, hv, h91, h92, _, _⟩ := ownT_row ho.out; obtain ⟨n9, hn9⟩ : ∃ n9, T0.length = n9 := ⟨_, rfl⟩; rw [hn9] at hv h91; subst hv; have PS := Lib.hid (PSt.start ho.out hbx.out (Nat.le_refl _)); have hbw : Hid (Below w.heap.size w x1) := hbx; clear ho))
    all_goals
     have h1000 : n9 ≤ 1000 := by have := HT0.out; omega
     go_wp2_with fail
     go_loopw [22] (fun i wr => ∃ (k : Nat) (T1 : List Tb), k ≤ n9 ∧ i = .int .i64 k ∧ Hid (PSt w x1.heap.size A9 n9 c9 T0 k wr T1)) (fun i _ => n9 - (intOf i).toNat)
     case atStart => exact ⟨0, T0, by omega, rfl, PS⟩
     case round =>
      obtain ⟨k, T1, hk, rfl, HS⟩ := hrel
      clear PS HC
      by_cases hlt : k < n9
      ·obtain ⟨g, rfl⟩ := HS.out.open_.2 hlt
       have hk0 : k < T0.length := by rw [hn9]; exact hlt
       obtain ⟨p1, p2, _, _⟩ := HS.out.cells hk0
       have hx := HI.out T0[k] (List.getElem_mem hk0)
       have HCL := Lib.hid (clone4_any T0[k].A T0[k].L T0[k].n T0[k].c T0[k].K wr hx.len hx.few (hx.row.below HS.out.bel) hx.nil)
       have HST : Hid (∀ (w2 : World) (A8 : Option Addr) (n8 c8 : Nat), Hid (OwnC wr.heap.size w2 (.slice A8 n8 c8) T0[k].L) → Hid (Below wr.heap.size wr w2) → w2.frozen? ⟨g, k * 3 + 1, none⟩ = false ∧ (w2.setCell ⟨g, k * 3 + 1, none⟩ (.slice A8 n8 c8)).frozen? ⟨g, k * 3 + 2, none⟩ = false ∧ ∃ T2, Hid (PSt w x1.heap.size (some ⟨g, 0, none⟩) n9 c9 T0 (k + 1) ((w2.setCell ⟨g, k * 3 + 1, none⟩ (.slice A8 n8 c8)).setCell ⟨g, k * 3 + 2, none⟩ (.int .i64 T0[k].K)) T2)) := fun w2 A8 n8 c8 ho hb => by
        obtain ⟨q1, q2, q3⟩ := HS.out.step hk0 ho.out hb.out
        exact ⟨q1, q2, _, q3⟩
       have hkz : (k : Int) < (n9 : Int) := by omega
       clear hx
       generalize T0[k] = x at *
       obtain ⟨xs, xA, xn, xc, xL, xK⟩ := x
       simp only at p1 p2 HCL HST
       go_wp2_with fail
       refine HCL.out.mono ?_
       rintro e w2 ⟨v8, rfl, ho8, hb8⟩
       obtain ⟨A8, n8, c8, rfl, _, _, _, _, _⟩ := ownC_open ho8.out
       obtain ⟨q1, q2, T2, S2⟩ := HST.out w2 A8 n8 c8 ho8 hb8
       have y1 := keepC hb8.out p1
       have y2 := keepC hb8.out p2
       clear HST HCL ho8 p1 p2
       go_wp2_with fail
       go_roundw
       case rel => exact ⟨k + 1, T2, by omega, by go_num, S2⟩
       case measure => simp [intOf]; omega
      ·obtain rfl : k = n9 := by omega
       go_wp2_with fail
       go_ret
       exact ⟨_, T1, rfl, HS.out.own, (by have h := HS.out; rw [← hn9] at h; exact h.done hbx.out.size), HS.out.bel⟩
theorem tat_yes {T : List Tb} {s : ByteArray} (h : plF T s = true) : tatI T s = ((lbN T s : Nat) : Int) := by
 obtain ⟨h1, h2⟩ := plF_tat h
 unfold tatI; rw [h2, if_pos h1]
theorem tat_no {T : List Tb} {s : ByteArray} (hS : SortT T) (h : plF T s = false) : tatI T s = -1 := by
 unfold tatI; rw [if_neg (plF_tat' hS h)]
def fcT (T : List Tb) (tn : ByteArray) (A' : Option Addr) (n' c' : Nat) (L' : List Cl) (K' : Int) : List Tb := if fcE T tn L' K' = 0 then T.take (lbN T tn) ++ [⟨tn, A', n', c', L', K'⟩] ++ T.drop (lbN T tn) else []
theorem fcT_ok {T : List Tb} {tn : ByteArray} {A' : Option Addr} {n' c' : Nat} {L' : List Cl} {K' : Int} (h : fcE T tn L' K' = 0) : fcT T tn A' n' c' L' K' = T.take (lbN T tn) ++ [⟨tn, A', n', c', L', K'⟩] ++ T.drop (lbN T tn) := by
 unfold fcT; rw [if_pos h]
theorem fcT_bad {T : List Tb} {tn : ByteArray} {A' : Option Addr} {n' c' : Nat} {L' : List Cl} {K' : Int} (h : fcE T tn L' K' ≠ 0) : fcT T tn A' n' c' L' K' = [] := by
 unfold fcT; rw [if_neg h]
theorem ownT_bad {B : Nat} {w : World} {T : List Tb} {tn : ByteArray} {A' : Option Addr} {n' c' : Nat} {L' : List Cl} {K' : Int} (h : fcE T tn L' K' ≠ 0) : Hid (OwnT B w (.slice none 0 0) (fcT T tn A' n' c' L' K')) := by
 show OwnT _ _ _ _
 rw [fcT_bad h]; exact ownT_nil _ _
set_option maxHeartbeats 4000000 in
theorem rfolC_any (A : Option Addr) (T : List Tb) (n c : Nat) (tn : ByteArray) (A' : Option Addr) (n' c' : Nat) (L' : List Cl) (K' : Int) (cn : ByteArray) (kd : Int) (no : Bool) (w : World) (hn : T.length = n) (hnc : n ≤ c) (hcm : c ≤ maxLen) (hl : n ≤ 900) (hA : TRow w A T) (hA0 : A = none → c = 0) (hS : SortT T) (hn' : L'.length = n') (hA' : CRow w A' L') :
 Calls Tryz.prog 13 #[.slice A n c, .agg #[.int .i64 1, .string tn, .slice A' n' c', .int .i64 K', .string cn, .int .i64 kd, .bool no]] w fun e w' => ∃ v, e = .returned (.tuple #[v, .int .i64 (fcE T tn L' K')]) ∧ Hid (OwnT w.heap.size w' v (fcT T tn A' n' c' L' K')) ∧ Hid (Below w.heap.size w w') := by
 have HB0 := Lib.hid ((Below.refl w.heap.size w).alloc (Nat.le_refl _) (.cells #[.int .i64 1, .string tn, .slice A' n' c', .int .i64 K', .string cn, .int .i64 kd, .bool no] 48))
 have HX0 := Lib.hid (Has.new w 48 #[.int .i64 1, .string tn, .slice A' n' c', .int .i64 K', .string cn, .int .i64 kd, .bool no])
 have HAT := fun (W : World) (hb : Below w.heap.size w W) => at_any A T n c tn W hn (by omega) (hA.below hb)
 have HMY := fun (W : World) (hb : Below w.heap.size w W) => rmay_all A' L' n' c' K' W hn' (hA'.below hb)
 have HAT := Lib.hid HAT
 have HMY := Lib.hid HMY
 have HN := Lib.hid hn
 have HA := Lib.hid hA
 have HS := Lib.hid hS
 have HTY := Lib.hid (@tat_yes T tn)
 have HTN := Lib.hid (@tat_no T tn hS)
 have HLE := Lib.hid (lb_le T tn)
 have e1 := @fcE_name T tn L' K'
 have e2 := @fcE_there T tn L' K'
 have e3 := @fcE_may T tn L' K'
 have e4 := @fcE_many T tn L' K'
 have e5 := @fcE_ok T tn L' K'
 rw [hn] at e4 e5
 clear hn hA hA' hn' hS
 obtain ⟨qm, hqm⟩ : ∃ q, smayF L' K' = q := ⟨_, rfl⟩
 rcases hqn : nameF tn with _ | _
 ·have HE := Lib.hid (e1 hqn)
  clear e1 e2 e3 e4 e5
  obtain ⟨ti, hti⟩ : ∃ ti, tatI T tn = ti := ⟨_, rfl⟩
  have HTI := Lib.hid hti
  clear hti
  go_enter Tryz.func13, Tryz.ntmps13
  go_wp2_with fail
  refine (HAT.out _ HB0.out).mono ?_
  rintro e w1 ⟨rfl, rfl⟩
  rw [HTI.out]
  go_wp2_with fail
  refine (refName_any tn _).mono ?_
  rintro e w2 ⟨rfl, rfl⟩
  rw [hqn]
  go_wp2_with fail
  refine (HMY.out _ HB0.out).mono ?_
  rintro e w3 ⟨rfl, hb3⟩
  rw [hqm]
  have HB3 := Lib.hid (HB0.out.trans (hb3.out.mono HB0.out.size))
  have HX3 := Lib.hid (HX0.out.below hb3.out HX0.out.lt)
  have x0 : w3.cell? ⟨w.heap.size, 0, none⟩ = some (.int .i64 1) := HX3.out.cell 0
  have x1 : w3.cell? ⟨w.heap.size, 1, none⟩ = some (.string tn) := HX3.out.cell 1
  have x2 : w3.cell? ⟨w.heap.size, 2, none⟩ = some (.slice A' n' c') := HX3.out.cell 2
  have x3 : w3.cell? ⟨w.heap.size, 3, none⟩ = some (.int .i64 K') := HX3.out.cell 3
  clear hb3 HX0 HB0
  go_wp2_with fail
  go_ret2
  exact ⟨_, by rw [HE.out]; rfl, ownT_bad (by rw [HE.out]; omega), HB3⟩
 ·rcases hp : plF T tn with _ | _
  ·have HTI := Lib.hid (HTN.out hp)
   cases qm
   ·have HE := Lib.hid (e3 hqn hp hqm)
    clear e1 e2 e3 e4 e5
    go_enter Tryz.func13, Tryz.ntmps13
    go_wp2_with fail
    refine (HAT.out _ HB0.out).mono ?_
    rintro e w1 ⟨rfl, rfl⟩
    rw [HTI.out]
    go_wp2_with fail
    refine (refName_any tn _).mono ?_
    rintro e w2 ⟨rfl, rfl⟩
    rw [hqn]
    go_wp2_with fail
    refine (HMY.out _ HB0.out).mono ?_
    rintro e w3 ⟨rfl, hb3⟩
    rw [hqm]
    have HB3 := Lib.hid (HB0.out.trans (hb3.out.mono HB0.out.size))
    have HX3 := Lib.hid (HX0.out.below hb3.out HX0.out.lt)
    have x0 : w3.cell? ⟨w.heap.size, 0, none⟩ = some (.int .i64 1) := HX3.out.cell 0
    have x1 : w3.cell? ⟨w.heap.size, 1, none⟩ = some (.string tn) := HX3.out.cell 1
    have x2 : w3.cell? ⟨w.heap.size, 2, none⟩ = some (.slice A' n' c') := HX3.out.cell 2
    have x3 : w3.cell? ⟨w.heap.size, 3, none⟩ = some (.int .i64 K') := HX3.out.cell 3
    clear hb3 HX0 HB0
    go_wp2_with fail
    go_ret2
    exact ⟨_, by rw [HE.out]; rfl, ownT_bad (by rw [HE.out]; omega), HB3⟩
   ·by_cases h64 : 64 ≤ n
    ·have HE := Lib.hid (e4 hqn hp hqm h64)
     have h64z : (64 : Int) ≤ (n : Int) := by omega
     clear e1 e2 e3 e4 e5
     go_enter Tryz.func13, Tryz.ntmps13
     go_wp2_with fail
     refine (HAT.out _ HB0.out).mono ?_
     rintro e w1 ⟨rfl, rfl⟩
     rw [HTI.out]
     go_wp2_with fail
     refine (refName_any tn _).mono ?_
     rintro e w2 ⟨rfl, rfl⟩
     rw [hqn]
     go_wp2_with fail
     refine (HMY.out _ HB0.out).mono ?_
     rintro e w3 ⟨rfl, hb3⟩
     rw [hqm]
     have HB3 := Lib.hid (HB0.out.trans (hb3.out.mono HB0.out.size))
     have HX3 := Lib.hid (HX0.out.below hb3.out HX0.out.lt)
     have x0 : w3.cell? ⟨w.heap.size, 0, none⟩ = some (.int .i64 1) := HX3.out.cell 0
     have x1 : w3.cell? ⟨w.heap.size, 1, none⟩ = some (.string tn) := HX3.out.cell 1
     have x2 : w3.cell? ⟨w.heap.size, 2, none⟩ = some (.slice A' n' c') := HX3.out.cell 2
     have x3 : w3.cell? ⟨w.heap.size, 3, none⟩ = some (.int .i64 K') := HX3.out.cell 3
     clear hb3 HX0 HB0
     go_wp2_with fail
     go_ret2
     exact ⟨_, by rw [HE.out]; rfl, ownT_bad (by rw [HE.out]; omega), HB3⟩
    ·have HE := Lib.hid (e5 hqn hp hqm (by omega))
     have h64z : ¬ (64 : Int) ≤ (n : Int) := by omega
     clear e1 e2 e3 e4 e5
     go_enter Tryz.func13, Tryz.ntmps13
     go_wp2_with fail
     refine (HAT.out _ HB0.out).mono ?_
     rintro e w1 ⟨rfl, rfl⟩
     rw [HTI.out]
     go_wp2_with fail
     refine (refName_any tn _).mono ?_
     rintro e w2 ⟨rfl, rfl⟩
     rw [hqn]
     go_wp2_with fail
     refine (HMY.out _ HB0.out).mono ?_
     rintro e w3 ⟨rfl, hb3⟩
     rw [hqm]
     have HB3 := Lib.hid (HB0.out.trans (hb3.out.mono HB0.out.size))
     have HX3 := Lib.hid (HX0.out.below hb3.out HX0.out.lt)
     have x0 : w3.cell? ⟨w.heap.size, 0, none⟩ = some (.int .i64 1) := HX3.out.cell 0
     have x1 : w3.cell? ⟨w.heap.size, 1, none⟩ = some (.string tn) := HX3.out.cell 1
     have x2 : w3.cell? ⟨w.heap.size, 2, none⟩ = some (.slice A' n' c') := HX3.out.cell 2
     have x3 : w3.cell? ⟨w.heap.size, 3, none⟩ = some (.int .i64 K') := HX3.out.cell 3
     clear hb3 HX0 HB0
     go_wp2_with fail
     go_loopw [10] (fun i wr => ∃ k : Nat, k ≤ lbN T tn ∧ i = .int .i64 k ∧ Hid (Below w3.heap.size w3 wr)) (fun i _ => n - (intOf i).toNat)
     case atStart => exact ⟨0, by omega, rfl, Below.refl _ _⟩
     case round =>
      obtain ⟨k, hk, rfl, HB⟩ := hrel
      have HBx := Lib.hid (HB3.out.trans (HB.out.mono HB3.out.size))
      have HX := Lib.hid (HX3.out.below HB.out HX3.out.lt)
      have HBY := Lib.hid HB.out
      clear x0 x1 x2 x3 HX3 HB3 HB
      have y1 : wr.cell? ⟨w.heap.size, 1, none⟩ = some (.string tn) := HX.out.cell 1
      by_cases hlt : k < lbN T tn
      ·have hkn : k < n := by have := HLE.out; have := HN.out; omega
       have hkl : k < T.length := by rw [HN.out]; exact hkn
       obtain ⟨b, off, rfl, hc⟩ := (HA.out.below HBx.out) (by intro e; rw [e] at hkl; simp at hkl)
       obtain ⟨c0, _, _⟩ := hc k hkl
       have hls := lb_lo hlt hkl
       have hkz : (k : Int) < (n : Int) := by omega
       clear hc
       generalize T[k].nm = xa at *
       go_wp2_with fail
       go_region
       all_goals
        go_wp2_with fail
        go_roundw
        case rel => exact ⟨k + 1, by omega, by go_num, HBY.out.drew⟩
        case measure => simp [intOf]; omega
      ·have hkk : lbN T tn = k := by omega
       have hkn0 : k ≤ n := by have := HLE.out; have := HN.out; omega
       have hcm1 : c ≤ 2 ^ 63 - 1 := by unfold maxLen at hcm; exact hcm
       have hkc : (k : Int) ≤ (c : Int) := by omega
       have hkn1 : (k : Int) ≤ (n : Int) := by omega
       have HFT := Lib.hid (fcT_ok (T := T) (tn := tn) (A' := A') (n' := n') (c' := c') (L' := L') (K' := K') HE.out)
       rw [hkk] at HFT
       by_cases hkn : k < n
       ·have hkl : k < T.length := by rw [HN.out]; exact hkn
        obtain ⟨b, off, rfl, hc⟩ := (HA.out.below HBx.out) (by intro e; rw [e] at hkl; simp at hkl)
        obtain ⟨c0, _, _⟩ := hc k hkl
        have hls := lb_hi HS.out (s := tn) (t := k) (by omega) hkl
        have hkz : (k : Int) < (n : Int) := by omega
        clear hc
        generalize T[k].nm = xa at *
        go_wp2_with fail
        go_region
        all_goals
         clear c0 hls
         have HXd := Lib.hid HX.out.drew
         have HBd := Lib.hid HBx.out.drew
         have HAd := Lib.hid (HA.out.below HBd.out)
         clear HX HBx HBY y1
         have HA1 := Lib.hid (appTs wr.drew (w.heap.size + 1) (.slice none 0 0) [] (ownT_nil _ _) HXd.out.lt (some ⟨b, off, none⟩) (T.take k) k c (by rw [List.length_take]; have := HN.out; omega) (HAd.out.take k) (fun e => by cases e) (by have := HN.out; simp <;> omega))
         go_wp2_with (first
          | (at_builtin; refine wpList_app rfl _ _ 22 22 rfl (.slice none 0 0) (.slice (some ⟨b, off, none⟩) k c) rfl rfl ?_; obtain ⟨R, W1, hrun, hm1, hm2⟩ := HA1.out; refine ⟨R, W1, hrun, ?_⟩; obtain ⟨A7, n7, c7, hR, HN7, hnc7, hcm7, _, _⟩ := ownT_open hm1; subst hR; have HB1 := Lib.hid (HBd.out.trans (hm2.mono (by omega))); have HX1 := Lib.hid (HXd.out.below hm2 (by omega)); have q1 : W1.cell? ⟨w.heap.size, 1, none⟩ = some (.string tn) := HX1.out.cell 1; have q2 : W1.cell? ⟨w.heap.size, 2, none⟩ = some (.slice A' n' c') := HX1.out.cell 2; have q3 : W1.cell? ⟨w.heap.size, 3, none⟩ = some (.int .i64 K') := HX1.out.cell 3; have HA2 := Lib.hid (appT W1 W1.heap.size rfl (w.heap.size + 1) (.slice A7 n7 c7) ([] ++ T.take k) ⟨tn, A', n', c', L', K'⟩ hm1 HX1.out.lt (by have := HN.out; simp; omega)); clear hrun hm1 hm2 HA1)
          | (at_builtin; refine wpList_app rfl _ _ 22 22 rfl (.slice A7 n7 c7) (.slice (some ⟨W1.heap.size, 0, none⟩) 1 1) rfl rfl ?_; obtain ⟨R, W2, hrun, hm1, hm2⟩ := HA2.out; refine ⟨R, W2, hrun, ?_⟩; obtain ⟨A8, n8, c8, hR, HN8, hnc8, hcm8, _, _⟩ := ownT_open hm1; subst hR; have HB2 := Lib.hid (HB1.out.trans (hm2.mono (by omega))); have HX2 := Lib.hid (HX1.out.below hm2 (by omega)); have HA3 := Lib.hid (appTs W2 (w.heap.size + 1) (.slice A8 n8 c8) ([] ++ T.take k ++ [⟨tn, A', n', c', L', K'⟩]) hm1 HX2.out.lt (some ⟨b, off + k * 3, none⟩) (T.drop k) (n - k) (c - k) (by rw [List.length_drop]; have := HN.out; omega) (by have h : TRow W2 _ T := HA.out.below HB2.out; exact h.drop k) (fun e => by cases e) (by have := HN.out; simp; omega)); clear hrun hm1 hm2 HA2)
          | (at_builtin; refine wpList_app rfl _ _ 22 22 rfl (.slice A8 n8 c8) (.slice (some ⟨b, off + k * 3, none⟩) (n - k) (c - k)) rfl rfl ?_; obtain ⟨R, W3, hrun, hm1, hm2⟩ := HA3.out; refine ⟨R, W3, hrun, ?_⟩; have HO := Lib.hid hm1; have HB5 := Lib.hid (HB2.out.trans (hm2.mono (by omega))); clear hrun hm1 hm2 HA3))

         go_ret2
         exact ⟨_, by rw [HE.out]; rfl, by rw [HFT.out]; exact ownT_down HO.out (by omega), HB5.out⟩
       ·have hkz : ¬ (k : Int) < (n : Int) := by omega
        obtain rfl : k = n := by omega
        rcases A with _ | ⟨b, off, sp⟩
        ·obtain rfl : c = 0 := hA0 rfl
         obtain rfl : k = 0 := by omega
         go_wp2_with fail
         go_region
         all_goals
          have HXd := Lib.hid HX.out.drew
          have HBd := Lib.hid HBx.out.drew
          have HNT : Hid (T = []) := List.eq_nil_of_length_eq_zero HN.out
          clear HX HBx HBY y1
          have q1 : wr.drew.cell? ⟨w.heap.size, 1, none⟩ = some (.string tn) := HXd.out.cell 1
          have q2 : wr.drew.cell? ⟨w.heap.size, 2, none⟩ = some (.slice A' n' c') := HXd.out.cell 2
          have q3 : wr.drew.cell? ⟨w.heap.size, 3, none⟩ = some (.int .i64 K') := HXd.out.cell 3
          have HA2 := Lib.hid (appT wr.drew wr.drew.heap.size rfl (w.heap.size + 1) (.slice none 0 0) [] ⟨tn, A', n', c', L', K'⟩ (ownT_nil _ _) HXd.out.lt (by simp))
          obtain ⟨wx, hwx⟩ : ∃ wx, wr.drew = wx := ⟨_, rfl⟩
          rw [hwx] at HA2 q1 q2 q3 HBd HXd ⊢
          clear hwx
          go_wp2_with (first
           | (at_builtin; refine wpList_app rfl _ _ 22 22 rfl (.slice none 0 0) (.slice (some ⟨wx.heap.size, 0, none⟩) 1 1) rfl rfl ?_; obtain ⟨R, W2, hrun, hm1, hm2⟩ := HA2.out; refine ⟨R, W2, hrun, ?_⟩; obtain ⟨A8, n8, c8, hR, HN8, hnc8, hcm8, _, _⟩ := ownT_open hm1; subst hR; have HO := Lib.hid hm1; have HB5 := Lib.hid (HBd.out.trans (hm2.mono (by omega))); have HA3 := Lib.hid (appTs W2 (w.heap.size + 1) (.slice A8 n8 c8) _ hm1 (by have := HXd.out.lt; have := hm2.size; omega) none [] 0 0 rfl (fun h => absurd rfl h) (fun _ => rfl) (by simp)); clear hrun hm1 hm2 HA2)
           | (at_builtin; refine wpList_app rfl _ _ 22 22 rfl (.slice A8 n8 c8) (.slice none 0 0) rfl rfl ?_; obtain ⟨R, W3, hrun, hm1, hm2⟩ := HA3.out; refine ⟨R, W3, hrun, ?_⟩; rw [List.append_nil] at hm1; have HO := Lib.hid hm1; have HB5 := Lib.hid (HB5.out.trans (hm2.mono (by omega))); clear hrun hm1 hm2 HA3))
          go_ret2
          exact ⟨_, by rw [HE.out]; rfl, by rw [HFT.out, HNT.out]; exact ownT_down HO.out (by omega), HB5.out⟩
        ·by_cases hck : c = k
         ·subst hck
          go_wp2_with fail
          go_region
          all_goals
           have HXd := Lib.hid HX.out.drew
           have HBd := Lib.hid HBx.out.drew
           have HAd := Lib.hid (HA.out.below HBd.out)
           clear HX HBx HBY y1
           have HA1 := Lib.hid (appTs wr.drew (w.heap.size + 1) (.slice none 0 0) [] (ownT_nil _ _) HXd.out.lt (some ⟨b, off, sp⟩) (T.take c) c c (by rw [List.length_take]; have := HN.out; omega) (HAd.out.take c) (fun e => by cases e) (by have := HN.out; simp <;> omega))
           go_wp2_with (first
            | (at_builtin; refine wpList_app rfl _ _ 22 22 rfl (.slice none 0 0) (.slice (some ⟨b, off, sp⟩) c c) rfl rfl ?_; obtain ⟨R, W1, hrun, hm1, hm2⟩ := HA1.out; refine ⟨R, W1, hrun, ?_⟩; obtain ⟨A7, n7, c7, hR, HN7, hnc7, hcm7, _, _⟩ := ownT_open hm1; subst hR; have HB1 := Lib.hid (HBd.out.trans (hm2.mono (by omega))); have HX1 := Lib.hid (HXd.out.below hm2 (by omega)); have q1 : W1.cell? ⟨w.heap.size, 1, none⟩ = some (.string tn) := HX1.out.cell 1; have q2 : W1.cell? ⟨w.heap.size, 2, none⟩ = some (.slice A' n' c') := HX1.out.cell 2; have q3 : W1.cell? ⟨w.heap.size, 3, none⟩ = some (.int .i64 K') := HX1.out.cell 3; have HA2 := Lib.hid (appT W1 W1.heap.size rfl (w.heap.size + 1) (.slice A7 n7 c7) ([] ++ T.take c) ⟨tn, A', n', c', L', K'⟩ hm1 HX1.out.lt (by have := HN.out; simp; omega)); clear hrun hm1 hm2 HA1)
            | (at_builtin; refine wpList_app rfl _ _ 22 22 rfl (.slice A7 n7 c7) (.slice (some ⟨W1.heap.size, 0, none⟩) 1 1) rfl rfl ?_; obtain ⟨R, W2, hrun, hm1, hm2⟩ := HA2.out; refine ⟨R, W2, hrun, ?_⟩; obtain ⟨A8, n8, c8, hR, HN8, hnc8, hcm8, _, _⟩ := ownT_open hm1; subst hR; have HB2 := Lib.hid (HB1.out.trans (hm2.mono (by omega))); have HX2 := Lib.hid (HX1.out.below hm2 (by omega)); have HA3 := Lib.hid (appTs W2 (w.heap.size + 1) (.slice A8 n8 c8) ([] ++ T.take c ++ [⟨tn, A', n', c', L', K'⟩]) hm1 HX2.out.lt (some ⟨b, off, sp⟩) (T.drop c) 0 0 (by rw [List.length_drop]; have := HN.out; omega) (by rw [List.drop_eq_nil_of_le (by have := HN.out; omega)]; exact fun h => absurd rfl h) (fun e => by cases e) (by have := HN.out; simp; omega)); clear hrun hm1 hm2 HA2)
            | (at_builtin; refine wpList_app rfl _ _ 22 22 rfl (.slice A8 n8 c8) (.slice (some ⟨b, off, sp⟩) 0 0) rfl rfl ?_; obtain ⟨R, W3, hrun, hm1, hm2⟩ := HA3.out; refine ⟨R, W3, hrun, ?_⟩; have HO := Lib.hid hm1; have HB5 := Lib.hid (HB2.out.trans (hm2.mono (by omega))); clear hrun hm1 hm2 HA3))

           go_ret2
           exact ⟨_, by rw [HE.out]; rfl, by rw [HFT.out]; exact ownT_down HO.out (by omega), HB5.out⟩
         ·by_cases hT0 : T = []
          ·obtain rfl : k = 0 := by have := HN.out; rw [hT0] at this; simpa using this.symm
           go_wp2_with fail
           go_region
           all_goals
            have HXd := Lib.hid HX.out.drew
            have HBd := Lib.hid HBx.out.drew
            have HNT : Hid (T = []) := List.eq_nil_of_length_eq_zero HN.out
            clear HX HBx HBY y1
            have q1 : wr.drew.cell? ⟨w.heap.size, 1, none⟩ = some (.string tn) := HXd.out.cell 1
            have q2 : wr.drew.cell? ⟨w.heap.size, 2, none⟩ = some (.slice A' n' c') := HXd.out.cell 2
            have q3 : wr.drew.cell? ⟨w.heap.size, 3, none⟩ = some (.int .i64 K') := HXd.out.cell 3
            have HA2 := Lib.hid (appT wr.drew wr.drew.heap.size rfl (w.heap.size + 1) (.slice none 0 0) [] ⟨tn, A', n', c', L', K'⟩ (ownT_nil _ _) HXd.out.lt (by simp))
            obtain ⟨wx, hwx⟩ : ∃ wx, wr.drew = wx := ⟨_, rfl⟩
            rw [hwx] at HA2 q1 q2 q3 HBd HXd ⊢
            clear hwx
            go_wp2_with (first
             | (at_builtin; refine wpList_app rfl _ _ 22 22 rfl (.slice none 0 0) (.slice (some ⟨wx.heap.size, 0, none⟩) 1 1) rfl rfl ?_; obtain ⟨R, W2, hrun, hm1, hm2⟩ := HA2.out; refine ⟨R, W2, hrun, ?_⟩; obtain ⟨A8, n8, c8, hR, HN8, hnc8, hcm8, _, _⟩ := ownT_open hm1; subst hR; have HO := Lib.hid hm1; have HB5 := Lib.hid (HBd.out.trans (hm2.mono (by omega))); have HA3 := Lib.hid (appTs W2 (w.heap.size + 1) (.slice A8 n8 c8) _ hm1 (by have := HXd.out.lt; have := hm2.size; omega) (some ⟨b, off, sp⟩) [] 0 c rfl (fun h => absurd rfl h) (fun e => by cases e) (by simp)); clear hrun hm1 hm2 HA2)
             | (at_builtin; refine wpList_app rfl _ _ 22 22 rfl (.slice A8 n8 c8) (.slice (some ⟨b, off, sp⟩) 0 c) rfl rfl ?_; obtain ⟨R, W3, hrun, hm1, hm2⟩ := HA3.out; refine ⟨R, W3, hrun, ?_⟩; rw [List.append_nil] at hm1; have HO := Lib.hid hm1; have HB5 := Lib.hid (HB5.out.trans (hm2.mono (by omega))); clear hrun hm1 hm2 HA3))
            go_ret2
            exact ⟨_, by rw [HE.out]; rfl, by rw [HFT.out, HNT.out]; exact ownT_down HO.out (by omega), HB5.out⟩
          ·obtain rfl : sp = none := by
            obtain ⟨b', off', e, _⟩ := HA.out hT0
            injection e with e
            injection e
           go_wp2_with fail
           go_region
           all_goals
            have HXd := Lib.hid HX.out.drew
            have HBd := Lib.hid HBx.out.drew
            have HAd := Lib.hid (HA.out.below HBd.out)
            clear HX HBx HBY y1
            have HA1 := Lib.hid (appTs wr.drew (w.heap.size + 1) (.slice none 0 0) [] (ownT_nil _ _) HXd.out.lt (some ⟨b, off, none⟩) (T.take k) k c (by rw [List.length_take]; have := HN.out; omega) (HAd.out.take k) (fun e => by cases e) (by have := HN.out; simp <;> omega))
            go_wp2_with (first
             | (at_builtin; refine wpList_app rfl _ _ 22 22 rfl (.slice none 0 0) (.slice (some ⟨b, off, none⟩) k c) rfl rfl ?_; obtain ⟨R, W1, hrun, hm1, hm2⟩ := HA1.out; refine ⟨R, W1, hrun, ?_⟩; obtain ⟨A7, n7, c7, hR, HN7, hnc7, hcm7, _, _⟩ := ownT_open hm1; subst hR; have HB1 := Lib.hid (HBd.out.trans (hm2.mono (by omega))); have HX1 := Lib.hid (HXd.out.below hm2 (by omega)); have q1 : W1.cell? ⟨w.heap.size, 1, none⟩ = some (.string tn) := HX1.out.cell 1; have q2 : W1.cell? ⟨w.heap.size, 2, none⟩ = some (.slice A' n' c') := HX1.out.cell 2; have q3 : W1.cell? ⟨w.heap.size, 3, none⟩ = some (.int .i64 K') := HX1.out.cell 3; have HA2 := Lib.hid (appT W1 W1.heap.size rfl (w.heap.size + 1) (.slice A7 n7 c7) ([] ++ T.take k) ⟨tn, A', n', c', L', K'⟩ hm1 HX1.out.lt (by have := HN.out; simp; omega)); clear hrun hm1 hm2 HA1)
             | (at_builtin; refine wpList_app rfl _ _ 22 22 rfl (.slice A7 n7 c7) (.slice (some ⟨W1.heap.size, 0, none⟩) 1 1) rfl rfl ?_; obtain ⟨R, W2, hrun, hm1, hm2⟩ := HA2.out; refine ⟨R, W2, hrun, ?_⟩; obtain ⟨A8, n8, c8, hR, HN8, hnc8, hcm8, _, _⟩ := ownT_open hm1; subst hR; have HB2 := Lib.hid (HB1.out.trans (hm2.mono (by omega))); have HX2 := Lib.hid (HX1.out.below hm2 (by omega)); have HA3 := Lib.hid (appTs W2 (w.heap.size + 1) (.slice A8 n8 c8) ([] ++ T.take k ++ [⟨tn, A', n', c', L', K'⟩]) hm1 HX2.out.lt (some ⟨b, off + k * 3, none⟩) (T.drop k) 0 (c - k) (by rw [List.length_drop]; have := HN.out; omega) (by rw [List.drop_eq_nil_of_le (by have := HN.out; omega)]; exact fun h => absurd rfl h) (fun e => by cases e) (by have := HN.out; simp; omega)); clear hrun hm1 hm2 HA2)
             | (at_builtin; refine wpList_app rfl _ _ 22 22 rfl (.slice A8 n8 c8) (.slice (some ⟨b, off + k * 3, none⟩) 0 (c - k)) rfl rfl ?_; obtain ⟨R, W3, hrun, hm1, hm2⟩ := HA3.out; refine ⟨R, W3, hrun, ?_⟩; have HO := Lib.hid hm1; have HB5 := Lib.hid (HB2.out.trans (hm2.mono (by omega))); clear hrun hm1 hm2 HA3))

            go_ret2
            exact ⟨_, by rw [HE.out]; rfl, by rw [HFT.out]; exact ownT_down HO.out (by omega), HB5.out⟩
  ·have HTI := Lib.hid (HTY.out hp)
   have HE := Lib.hid (e2 hqn hp)
   have hz : (0 : Int) ≤ ((lbN T tn : Nat) : Int) := by omega
   clear e1 e2 e3 e4 e5
   go_enter Tryz.func13, Tryz.ntmps13
   go_wp2_with fail
   refine (HAT.out _ HB0.out).mono ?_
   rintro e w1 ⟨rfl, rfl⟩
   rw [HTI.out]
   go_wp2_with fail
   refine (refName_any tn _).mono ?_
   rintro e w2 ⟨rfl, rfl⟩
   rw [hqn]
   go_wp2_with fail
   refine (HMY.out _ HB0.out).mono ?_
   rintro e w3 ⟨rfl, hb3⟩
   rw [hqm]
   have HB3 := Lib.hid (HB0.out.trans (hb3.out.mono HB0.out.size))
   have HX3 := Lib.hid (HX0.out.below hb3.out HX0.out.lt)
   have x0 : w3.cell? ⟨w.heap.size, 0, none⟩ = some (.int .i64 1) := HX3.out.cell 0
   have x1 : w3.cell? ⟨w.heap.size, 1, none⟩ = some (.string tn) := HX3.out.cell 1
   have x2 : w3.cell? ⟨w.heap.size, 2, none⟩ = some (.slice A' n' c') := HX3.out.cell 2
   have x3 : w3.cell? ⟨w.heap.size, 3, none⟩ = some (.int .i64 K') := HX3.out.cell 3
   clear hb3 HX0 HB0
   go_wp2_with fail
   go_ret2
   exact ⟨_, by rw [HE.out]; rfl, ownT_bad (by rw [HE.out]; omega), HB3⟩
theorem tfV_yes {T : List Tb} {s : ByteArray} (hp : plF T s = true) (hl : lbN T s < T.length) : tfV T s = .tuple #[.agg #[.slice T[lbN T s].A T[lbN T s].n T[lbN T s].c, .int .i64 T[lbN T s].K], .bool true] := by
 unfold tfV
 obtain ⟨_, h2⟩ := plF_tat hp
 rw [h2, List.getElem?_eq_getElem hl]
theorem tfV_no {T : List Tb} {s : ByteArray} (hS : SortT T) (hp : plF T s = false) : tfV T s = .tuple #[.agg #[.slice none 0 0, .int .i64 0], .bool false] := by
 unfold tfV
 rw [List.getElem?_eq_none (by have := plF_tat' hS hp; omega)]
def tfL (T : List Tb) (s : ByteArray) : List Cl := match T[tatN T s]? with | some x => x.L | none => []
def tfK (T : List Tb) (s : ByteArray) : Int := match T[tatN T s]? with | some x => x.K | none => 0
theorem tfL_yes {T : List Tb} {s : ByteArray} (hp : plF T s = true) (hl : lbN T s < T.length) : tfL T s = T[lbN T s].L ∧ tfK T s = T[lbN T s].K := by
 obtain ⟨_, h2⟩ := plF_tat hp
 unfold tfL tfK
 rw [h2, List.getElem?_eq_getElem hl]
 exact ⟨rfl, rfl⟩
theorem tfL_no {T : List Tb} {s : ByteArray} (hS : SortT T) (hp : plF T s = false) : tfL T s = [] ∧ tfK T s = 0 := by
 unfold tfL tfK
 rw [List.getElem?_eq_none (by have := plF_tat' hS hp; omega)]
 exact ⟨rfl, rfl⟩
set_option maxHeartbeats 2000000 in
theorem pfind_any (A : Option Addr) (T : List Tb) (n c : Nat) (s : ByteArray) (w : World) (hn : T.length = n) (hl : n ≤ 1000) (hA : TRow w A T) (hS : SortT T) :
 Calls Tryz.prog 69 #[.slice A n c, .string s] w fun e w' => e = .returned (tfV T s) ∧ Hid (Below w.heap.size w w') := by
 have HG := Lib.hid (Has.new w 39 #[.slice none 0 0, .int .i64 0])
 have HB := Lib.hid ((Below.refl w.heap.size w).alloc (Nat.le_refl _) (.cells #[.slice none 0 0, .int .i64 0] 39))
 have HC := Lib.hid (fun (W : World) (hb : Below w.heap.size w W) => place_any A T n c s W hn hl (hA.below hb) hS)
 have HN := Lib.hid hn
 have HA := Lib.hid hA
 have HS := Lib.hid hS
 clear hn hA hS
 go_enter Tryz.func69, Tryz.ntmps69
 go_wp2_with fail
 refine (HC.out _ HB.out).mono ?_
 rintro e w1 ⟨rfl, hb1⟩
 have HG1 := Lib.hid (HG.out.below hb1.out HG.out.lt)
 have HB1 := Lib.hid (HB.out.trans (hb1.out.mono HB.out.size))
 have f0 := HG1.out.free 0
 have f1 := HG1.out.free 1
 have g0 : w1.cell? ⟨w.heap.size, 0, none⟩ = some (.slice none 0 0) := HG1.out.cell 0
 have g1 : w1.cell? ⟨w.heap.size, 1, none⟩ = some (.int .i64 0) := HG1.out.cell 1
 clear hb1 HC HG HB
 rcases hp : plF T s with _ | _
 ·have HV := Lib.hid (tfV_no HS.out hp)
  have HR := Lib.hid ((HG1.out.put 0 (.slice none 0 0)).put 1 (.int .i64 0))
  go_wp2_with fail
  exact bodyPost_ret (schEnd6 rfl _ w.heap.size _ _ _ rfl HR.out) rfl ⟨by rw [HV.out]; rfl, (HB1.out.setCell (by show w.heap.size ≤ w.heap.size; omega) _).setCell (by show w.heap.size ≤ w.heap.size; omega) _⟩
 ·have hk := plF_lt hp
  have HV := Lib.hid (tfV_yes hp hk)
  obtain ⟨b, off, rfl, hc⟩ := (HA.out.below HB1.out) (by intro e; rw [e] at hk; simp at hk)
  obtain ⟨c0, c1, c2⟩ := hc _ hk
  have hkz : ((lbN T s : Nat) : Int) < (n : Int) := by rw [← HN.out]; omega
  clear hc c0
  obtain ⟨k, hkk⟩ : ∃ k, lbN T s = k := ⟨_, rfl⟩
  simp only [hkk] at c1 c2 hkz HV ⊢
  generalize T[k]'(by rw [← hkk]; exact hk) = x at *
  obtain ⟨xs, xA, xn, xc, xL, xK⟩ := x
  simp only at c1 c2 HV
  have HR := Lib.hid ((HG1.out.put 0 (.slice xA xn xc)).put 1 (.int .i64 xK))
  go_wp2_with fail
  exact bodyPost_ret (schEnd6 rfl _ w.heap.size _ _ _ rfl HR.out) rfl ⟨by rw [HV.out]; rfl, (HB1.out.setCell (by show w.heap.size ≤ w.heap.size; omega) _).setCell (by show w.heap.size ≤ w.heap.size; omega) _⟩
end Go.Proofs.YtlnbhlgkehenpaaGreatDoor
