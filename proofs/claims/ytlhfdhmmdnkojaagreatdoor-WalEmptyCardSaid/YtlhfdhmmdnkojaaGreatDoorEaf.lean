/-
  Put together, as far as it is used: Good4, Qj, Ql, Qm, Qe, Qq, Qr, WEmptyW, CardD.
-/
import Derived.Test.YtlhfdhmmdnkojaaGreatDoorEae
import Derived.Lib.AppendZerosOnto
import Derived.Laws.AppendOwnNone
import Derived.Lib.LazyBuf
import Derived.Deep.RegionHeld3
import Derived.IntWalk
import Derived.Deep.CutRange
import Derived.Test.YtlhfdhmmdnkojaaGreatDoorEad
import Derived.Test.YtlhfdhmmdnkojaaGreatDoorTie
import Derived.Test.YtlhfdhmmdnkojaaGreatDoorEab
import Derived.LaidMore
import Derived.Lay
import Derived.SevenTiedAt
import Derived.PinnedBridge
import Derived.Stop.Joined
namespace Go.Proofs.YtlhfdhmmdnkojaaGreatDoor
open Go.RowKit Dg
/-- How the memory stands while Good goes on: what came in, the result, the schema that is made, the pool of names. -/
structure GSt (w : World) (A : Option Addr) (n c : Nat) (K : Int) (wr : World) (v : Value) (kk : Int) (M : List Cl) : Prop where
  own : OwnC (w.heap.size + 4) wr v M
  bel : Below w.heap.size w wr
  prm : Has wr w.heap.size 27 #[.slice A n c, .int .i64 K]
  res : Has wr (w.heap.size + 1) 27 #[.slice none 0 0, .int .i64 0]
  out : Has wr (w.heap.size + 2) 27 #[v, .int .i64 kk]
  pol : Has wr (w.heap.size + 3) 9 #[.string ⟨#[105, 100]⟩, .string ⟨#[110, 97, 109, 101]⟩, .string ⟨#[110]⟩, .string ⟨#[102, 108, 97, 103]⟩, .string ⟨#[114, 97, 119]⟩, .string ⟨#[120]⟩]
  big : w.heap.size + 4 ≤ wr.heap.size
section
variable {w wr w' : World} {A : Option Addr} {n c : Nat} {K kk : Int} {v : Value} {M : List Cl}
theorem GSt.below (h : GSt w A n c K wr v kk M) (hb : Below wr.heap.size wr w') : GSt w A n c K w' v kk M :=
  ⟨h.own.below hb, h.bel.trans (hb.mono h.bel.size), h.prm.below hb h.prm.lt, h.res.below hb h.res.lt, h.out.below hb h.out.lt, h.pol.below hb h.pol.lt, Nat.le_trans h.big hb.size⟩
/-- The columns are stored anew, behind an append. -/
theorem GSt.stored (h : GSt w A n c K wr v kk M) {R : Value} {M' : List Cl} (ho : OwnC (w.heap.size + 4) w' R M') (hb : Below (w.heap.size + 4) wr w') : GSt w A n c K (w'.setCell ⟨w.heap.size + 2, 0, none⟩ R) R kk M' := by
  refine ⟨ho.far (by show w.heap.size + 2 < _; omega) R, (h.bel.trans (hb.mono (by omega))).setCell (by show w.heap.size ≤ w.heap.size + 2; omega) _, ?_, ?_, ?_, ?_, ?_⟩
  · exact (h.prm.below hb (by omega)).far (by show w.heap.size ≠ w.heap.size + 2; omega) _
  · exact (h.res.below hb (by omega)).far (by show w.heap.size + 1 ≠ w.heap.size + 2; omega) _
  · exact (h.out.below hb (by omega)).put 0 R
  · exact (h.pol.below hb (by omega)).far (by show w.heap.size + 3 ≠ w.heap.size + 2; omega) _
  · rw [size_set]; exact Nat.le_trans h.big hb.size
theorem GSt.keyed (h : GSt w A n c K wr v kk M) (k2 : Int) : GSt w A n c K (wr.setCell ⟨w.heap.size + 2, 1, none⟩ (.int .i64 k2)) v k2 M := by
  refine ⟨h.own.far (by show w.heap.size + 2 < _; omega) _, h.bel.setCell (by show w.heap.size ≤ w.heap.size + 2; omega) _, ?_, ?_, ?_, ?_, ?_⟩
  · exact h.prm.far (by show w.heap.size ≠ w.heap.size + 2; omega) _
  · exact h.res.far (by show w.heap.size + 1 ≠ w.heap.size + 2; omega) _
  · exact h.out.put 1 _
  · exact h.pol.far (by show w.heap.size + 3 ≠ w.heap.size + 2; omega) _
  · rw [size_set]; exact h.big
theorem GSt.cleared (h : GSt w A n c K wr v kk M) {g : Nat} (hg : w.heap.size + 4 ≤ g) (i : Nat) (u : Value) {M' : List Cl} (ho : OwnC (w.heap.size + 4) (wr.setCell ⟨g, i, none⟩ u) v M') : GSt w A n c K (wr.setCell ⟨g, i, none⟩ u) v kk M' := by
  refine ⟨ho, h.bel.setCell (by show w.heap.size ≤ g; omega) _, ?_, ?_, ?_, ?_, ?_⟩
  · exact h.prm.far (by show w.heap.size ≠ g; omega) _
  · exact h.res.far (by show w.heap.size + 1 ≠ g; omega) _
  · exact h.out.far (by show w.heap.size + 2 ≠ g; omega) _
  · exact h.pol.far (by show w.heap.size + 3 ≠ g; omega) _
  · rw [size_set]; exact h.big
end
theorem pool_cell (k : Nat) (h : k < 6) : (#[.string ⟨#[105, 100]⟩, .string ⟨#[110, 97, 109, 101]⟩, .string ⟨#[110]⟩, .string ⟨#[102, 108, 97, 103]⟩, .string ⟨#[114, 97, 119]⟩, .string ⟨#[120]⟩] : Array Value)[k]? = some (.string (pool k)) := by
  have : k = 0 ∨ k = 1 ∨ k = 2 ∨ k = 3 ∨ k = 4 ∨ k = 5 := by omega
  rcases this with rfl | rfl | rfl | rfl | rfl | rfl <;> rfl
theorem keys_neg (m : Nat) (K : Int) (hm : 1 ≤ m) (h : K < 0) : ∃ r : Int, -((K + 1).tmod ((min m 3 : Nat) : Int)) = r ∧ ((gKeys m K : Nat) : Int) = 1 + r ∧ 0 ≤ r ∧ r < 3 := by
  have h1 := Int.emod_nonneg (absK K) (b := ((min m 3 : Nat) : Int)) (by omega)
  have h2 := Int.emod_lt_of_pos (absK K) (b := ((min m 3 : Nat) : Int)) (by omega)
  refine ⟨absK K % ((min m 3 : Nat) : Int), ?_, by unfold gKeys; omega, h1, by omega⟩
  unfold absK
  rw [if_pos h, ← Int.neg_tmod, Int.tmod_eq_emod_of_nonneg (by omega)]
theorem keys_pos (m : Nat) (K : Int) (hm : 1 ≤ m) (h : ¬ K < 0) : ∃ r : Int, K.tmod ((min m 3 : Nat) : Int) = r ∧ ((gKeys m K : Nat) : Int) = 1 + r ∧ 0 ≤ r ∧ r < 3 := by
  have h1 := Int.emod_nonneg (absK K) (b := ((min m 3 : Nat) : Int)) (by omega)
  have h2 := Int.emod_lt_of_pos (absK K) (b := ((min m 3 : Nat) : Int)) (by omega)
  refine ⟨absK K % ((min m 3 : Nat) : Int), ?_, by unfold gKeys; omega, h1, by omega⟩
  unfold absK
  rw [if_neg h, Int.tmod_eq_emod_of_nonneg (by omega)]
theorem keysN (m : Nat) (K : Int) (hm : 1 ≤ m) (h : K < 0) : ∃ (q : Nat) (r : Int), 1 ≤ q ∧ q ≤ 3 ∧ ((q : Int) == 0) = false ∧ (∀ ts t W, Sem.run Tryz.prog (Builtin.min_ ts t #[.int .i64 m, .int .i64 3]) W = .ok (.int .i64 (q : Nat)) W) ∧ -((K + 1).tmod (q : Int)) = r ∧ ((gKeys m K : Nat) : Int) = 1 + r ∧ 0 ≤ r ∧ r < 3 := by
  obtain ⟨r, h1, h2, h3, h4⟩ := keys_neg m K hm h
  refine ⟨min m 3, r, by omega, by omega, by simp; omega, fun ts t W => ?_, h1, h2, h3, h4⟩
  rw [run_min_int2]
  congr 2
  split <;> omega
theorem keysP (m : Nat) (K : Int) (hm : 1 ≤ m) (h : ¬ K < 0) : ∃ (q : Nat) (r : Int), 1 ≤ q ∧ q ≤ 3 ∧ ((q : Int) == 0) = false ∧ (∀ ts t W, Sem.run Tryz.prog (Builtin.min_ ts t #[.int .i64 m, .int .i64 3]) W = .ok (.int .i64 (q : Nat)) W) ∧ K.tmod (q : Int) = r ∧ ((gKeys m K : Nat) : Int) = 1 + r ∧ 0 ≤ r ∧ r < 3 := by
  obtain ⟨r, h1, h2, h3, h4⟩ := keys_pos m K hm h
  refine ⟨min m 3, r, by omega, by omega, by simp; omega, fun ts t W => ?_, h1, h2, h3, h4⟩
  rw [run_min_int2]
  congr 2
  split <;> omega
theorem clr_step (M : List Cl) (k : Nat) (h : k < M.length) : (clr M k).set k ⟨((clr M k)[k]'(by rw [clr_len]; exact h)).nm, ((clr M k)[k]'(by rw [clr_len]; exact h)).k, false⟩ = clr M (k + 1) := by
  have e := clr_get M k k h
  rw [if_neg (by omega)] at e
  rw [e]; exact clr_set M k h
theorem gName_pool {out : List Cl} {c : Cl} {i : Nat} (h : nameF c.nm = false ∨ ¬ findI out c.nm < 0) : gName out c i = pool i := by
  unfold gName
  rw [if_neg]
  rintro ⟨h1, h2⟩
  rcases h with h | h
  · rw [h] at h1; cases h1
  · exact h h2
theorem gName_own {out : List Cl} {c : Cl} {i : Nat} (h1 : nameF c.nm = true) (h2 : findI out c.nm < 0) : gName out c i = c.nm := by
  unfold gName; rw [if_pos ⟨h1, h2⟩]
theorem gEnd (w' : World) (g : Nat) (c0 c1 : Value) (tmps : Array Value) (hp : tmps.getD 2 undef = .pointer (some ⟨g, 0, none⟩)) (hh : Has w' g 27 #[c0, c1]) :
    (results Tryz.f44 tmps).run Tryz.prog w' = .ok (.agg #[c0, c1]) w' :=
  results_cell_row rfl _ _ g 27 #[c0, c1] (0, 0) _ hp hh Tryz.underlying27 rfl (by kernel_rfl)
set_option maxHeartbeats 16000000 in
set_option maxRecDepth 100000 in
theorem rgood_any (A : Option Addr) (L : List Cl) (n c : Nat) (K : Int) (w : World) (hn : L.length = n) (hnc : n ≤ c) (hcm : c ≤ maxLen) (hA : CRow w A L) (hf : ∀ x ∈ L, x.fit) (hk0 : -9223372036854775808 ≤ K) (hk1 : K ≤ 9223372036854775807) :
    Calls Tryz.prog 44 #[.agg #[.slice A n c, .int .i64 K]] w fun e w' => ∃ v, e = .returned (.agg #[v, .int .i64 (gdK L K)]) ∧ Hid (OwnC w.heap.size w' v (gdC L K)) ∧ Hid (Below w.heap.size w w') := by
  have HN := Lib.hid hn
  have HA := Lib.hid hA
  have HF := Lib.hid hf
  have hcm2 : n ≤ 9223372036854775807 := by unfold maxLen at hcm; omega
  have st0 : GSt w A n c K ((((w.alloc (.cells #[.slice A n c, .int .i64 K] 27)).alloc (.cells #[.slice none 0 0, .int .i64 0] 27)).alloc (.cells #[.slice none 0 0, .int .i64 0] 27)).alloc (.cells #[.string ⟨#[105, 100]⟩, .string ⟨#[110, 97, 109, 101]⟩, .string ⟨#[110]⟩, .string ⟨#[102, 108, 97, 103]⟩, .string ⟨#[114, 97, 119]⟩, .string ⟨#[120]⟩] 9)) (.slice none 0 0) 0 (gTo L 0) := by
    have e1 : (w.alloc (.cells #[.slice A n c, .int .i64 K] 27)).heap.size = w.heap.size + 1 := by simp
    have e2 : ((w.alloc (.cells #[.slice A n c, .int .i64 K] 27)).alloc (.cells #[.slice none 0 0, .int .i64 0] 27)).heap.size = w.heap.size + 2 := by simp
    have e3 : (((w.alloc (.cells #[.slice A n c, .int .i64 K] 27)).alloc (.cells #[.slice none 0 0, .int .i64 0] 27)).alloc (.cells #[.slice none 0 0, .int .i64 0] 27)).heap.size = w.heap.size + 3 := by simp
    refine ⟨ownC_nil _ _, ((((Below.refl w.heap.size w).alloc (Nat.le_refl _) _).alloc (by simp) _).alloc (by simp; omega) _).alloc (by simp; omega) _, (((Has.new w _ _).alloc _).alloc _).alloc _, ?_, ?_, ?_, by simp⟩
    · have h := ((Has.new (w.alloc (.cells #[.slice A n c, .int .i64 K] 27)) 27 #[.slice none 0 0, .int .i64 0]).alloc (.cells #[.slice none 0 0, .int .i64 0] 27)).alloc (.cells #[.string ⟨#[105, 100]⟩, .string ⟨#[110, 97, 109, 101]⟩, .string ⟨#[110]⟩, .string ⟨#[102, 108, 97, 103]⟩, .string ⟨#[114, 97, 119]⟩, .string ⟨#[120]⟩] 9)
      rw [e1] at h; exact h
    · have h := (Has.new ((w.alloc (.cells #[.slice A n c, .int .i64 K] 27)).alloc (.cells #[.slice none 0 0, .int .i64 0] 27)) 27 #[.slice none 0 0, .int .i64 0]).alloc (.cells #[.string ⟨#[105, 100]⟩, .string ⟨#[110, 97, 109, 101]⟩, .string ⟨#[110]⟩, .string ⟨#[102, 108, 97, 103]⟩, .string ⟨#[114, 97, 119]⟩, .string ⟨#[120]⟩] 9)
      rw [e2] at h; exact h
    · have h := Has.new (((w.alloc (.cells #[.slice A n c, .int .i64 K] 27)).alloc (.cells #[.slice none 0 0, .int .i64 0] 27)).alloc (.cells #[.slice none 0 0, .int .i64 0] 27)) 9 #[.string ⟨#[105, 100]⟩, .string ⟨#[110, 97, 109, 101]⟩, .string ⟨#[110]⟩, .string ⟨#[102, 108, 97, 103]⟩, .string ⟨#[114, 97, 119]⟩, .string ⟨#[120]⟩]
      rw [e3] at h; exact h
  have S0 := Lib.hid st0
  clear hn hA hf st0 hnc hcm
  go_enter Tryz.func44, Tryz.ntmps44
  go_wp2_with fail
  go_loopw [5] (fun i wr => ∃ (k : Nat) (v : Value), k ≤ n ∧ k ≤ 6 ∧ i = .int .i64 k ∧ Hid (GSt w A n c K wr v 0 (gTo L k))) (fun i _ => n - (intOf i).toNat)
  case atStart => exact ⟨0, _, by omega, by omega, rfl, S0⟩
  case round =>
    obtain ⟨k, v, hk, hk6, rfl, HS⟩ := hrel
    clear S0
    obtain ⟨Ao, no, co, rfl, HNO, hnoc, hcom, HVO, HZO⟩ := ownC_open HS.out.own
    have a0 : wr.cell? ⟨w.heap.size, 0, none⟩ = some (.slice A n c) := HS.out.prm.cell 0
    have a1 : wr.cell? ⟨w.heap.size, 1, none⟩ = some (.int .i64 K) := HS.out.prm.cell 1
    have hno6 : no ≤ 6 := by
      have h := (gTo_cols L k).2
      have h2 := HNO.out
      omega
    by_cases hlt : k < n
    · by_cases hl6 : k < 6
      · have hkl : k < L.length := by rw [HN.out]; exact hlt
        obtain ⟨b, off, rfl, hc⟩ := (HA.out.below HS.out.bel) (by intro e; rw [e] at hkl; simp at hkl)
        obtain ⟨c0, c1, c2⟩ := hc k hkl
        obtain ⟨hf0, hf1, hf2⟩ := HF.out L[k] (List.getElem_mem hkl)
        have HG := Lib.hid (gTo_succ L k hkl)
        clear hc
        generalize L[k] = x at *
        obtain ⟨xa, xb, xc⟩ := x
        simp only at c0 c1 c2 hf0 hf1 hf2
        obtain ⟨M, hM⟩ : ∃ M, gTo L k = M := ⟨_, rfl⟩
        rw [hM] at HS HNO HVO HG
        clear hM
        by_cases hneg : xb < 0
        · obtain ⟨q, hq, hq4, hq0, hq3⟩ : ∃ q : Int, -((xb + 1).tmod 4) = q ∧ kind4 xb = q ∧ 0 ≤ q ∧ q ≤ 3 := ⟨_, kind4_neg hneg, rfl, (kind4_range xb).1, (kind4_range xb).2⟩
          have HQ := Lib.hid hq4
          clear hq4
          go_wp2_with fail
          refine (refName_any xa _).mono ?_
          rintro e w0 ⟨rfl, rfl⟩
          obtain ⟨W2, hW2⟩ : ∃ W2, W2 = wr.alloc (.cells #[.string xa, .int .i64 (1 + q), .bool xc] 29) := ⟨_, rfl⟩
          rw [← hW2]
          have HBW : Hid (Below wr.heap.size wr W2) := by
            show Below _ _ _
            rw [hW2]; exact (Below.refl _ wr).alloc (Nat.le_refl _) _
          have HX : Hid (Has W2 wr.heap.size 29 #[.string xa, .int .i64 (1 + q), .bool xc]) := by
            show Has _ _ _ _
            rw [hW2]; exact Has.new wr _ _
          have S2 := Lib.hid (HS.out.below HBW.out)
          have HV2 := Lib.hid (HVO.out.below HBW.out)
          have hz2 : wr.heap.size < W2.heap.size := HX.out.lt
          clear hW2 c0 c1 c2 a0 a1 hq
          have o0 : W2.cell? ⟨w.heap.size + 2, 0, none⟩ = some (.slice Ao no co) := S2.out.out.cell 0
          have o1 : W2.cell? ⟨w.heap.size + 2, 1, none⟩ = some (.int .i64 0) := S2.out.out.cell 1
          have x0 : W2.cell? ⟨wr.heap.size, 0, none⟩ = some (.string xa) := HX.out.cell 0
          have x1 : W2.cell? ⟨wr.heap.size, 1, none⟩ = some (.int .i64 (1 + q)) := HX.out.cell 1
          have x2 : W2.cell? ⟨wr.heap.size, 2, none⟩ = some (.bool xc) := HX.out.cell 2
          have y0 : W2.frozen? ⟨wr.heap.size, 0, none⟩ = false := HX.out.free 0
          have p0 : W2.cell? ⟨w.heap.size + 3, k, none⟩ = some (.string (pool k)) := (S2.out.pol.cell k).trans (pool_cell k hl6)
          have hkz : (k : Int) < 6 := by omega
          cases hnm : nameF xa
          · have HNM0 : Hid (gName M ⟨xa, xb, xc⟩ k = pool k) := gName_pool (.inl hnm)
            have HX3a := Lib.hid (HX.out.put 0 (.string (pool k)))
            have HB3a := Lib.hid (HBW.out.setCell (p := ⟨wr.heap.size, 0, none⟩) (Nat.le_refl _) (.string (pool k)))
            have S5a := Lib.hid (HS.out.below HB3a.out)
            have HV5a := Lib.hid (HVO.out.below HB3a.out)
            have o0a : (W2.setCell ⟨wr.heap.size, 0, none⟩ (.string (pool k))).cell? ⟨w.heap.size + 1 + 1, 0, none⟩ = some (.slice Ao no co) := S5a.out.out.cell 0
            have o1a : (W2.setCell ⟨wr.heap.size, 0, none⟩ (.string (pool k))).cell? ⟨w.heap.size + 1 + 1, 1, none⟩ = some (.int .i64 0) := S5a.out.out.cell 1
            go_wp2_with fail
            clear o0a o1a x0 x1 x2 y0 p0 o0 o1
            obtain ⟨nm, hnmk⟩ : ∃ nm, pool k = nm := ⟨_, rfl⟩
            obtain ⟨W5, hW5⟩ : ∃ W5, W5 = W2.setCell ⟨wr.heap.size, 0, none⟩ (.string nm) := ⟨_, rfl⟩
            rw [hnmk] at HX3a HB3a S5a HV5a HNM0 ⊢
            rw [← hW5] at HX3a HB3a S5a HV5a ⊢
            have HX3 : Hid (Has W5 wr.heap.size 29 #[.string nm, .int .i64 (1 + q), .bool xc]) := HX3a
            have HB3 := HB3a
            have S5 := S5a
            have HV5 := HV5a
            have HNM := HNM0
            clear HX3a HB3a S5a HV5a HNM0 hW5 hnmk
            have HGG : Hid (gTo L (k + 1) = if findI M nm < 0 then M ++ [⟨nm, 1 + q, xc⟩] else M) := by show _ = _; rw [HG.out]; simp only [gStep, HNM.out, HQ.out]
            refine (refFind_any Ao M no co 0 nm W5 HNO.out (by omega) HV5.out).mono ?_
            rintro e w5 ⟨rfl, hb5⟩
            have S6 := Lib.hid (S5.out.below hb5.out)
            have HX6 := Lib.hid (HX3.out.below hb5.out HX3.out.lt)
            clear hb5 HG
            by_cases hfi : findI M nm < 0
            · have HG2 : Hid (gTo L (k + 1) = M ++ [⟨nm, 1 + q, xc⟩]) := by show _ = _; rw [HGG.out, if_pos hfi]
              have o0 : w5.cell? ⟨w.heap.size + 2, 0, none⟩ = some (.slice Ao no co) := S6.out.out.cell 0
              have x0 : w5.cell? ⟨wr.heap.size, 0, none⟩ = some (.string nm) := HX6.out.cell 0
              have x1 : w5.cell? ⟨wr.heap.size, 1, none⟩ = some (.int .i64 (1 + q)) := HX6.out.cell 1
              have x2 : w5.cell? ⟨wr.heap.size, 2, none⟩ = some (.bool xc) := HX6.out.cell 2
              generalize findI M nm = fi at *
              have HAP := Lib.hid (appC w5 w5.heap.size rfl (w.heap.size + 4) (.slice Ao no co) M ⟨nm, 1 + q, xc⟩ S6.out.own S6.out.big (by have := HNO.out; omega))
              go_wp2_with (at_builtin; refine wpList_app rfl _ _ 25 25 rfl (.slice Ao no co) (.slice (some ⟨w5.heap.size, 0, none⟩) 1 1) rfl rfl ?_; obtain ⟨R, W', hrun, hmade⟩ := HAP.out; refine ⟨R, W', hrun, ?_⟩; obtain ⟨A7, n7, c7, hR, _, _, _, _, _⟩ := ownC_open hmade.1; subst hR; have HM := Lib.hid hmade; have hO7 := S6.out.out.below hmade.2 (by omega); have f0 : W'.frozen? ⟨w.heap.size + 2, 0, none⟩ = false := hO7.free 0; have f1 : W'.cell? ⟨w.heap.size + 2, 0, none⟩ = some (.slice Ao no co) := hO7.cell 0; clear hrun hmade HAP hO7)
              go_roundw
              case rel => exact ⟨k + 1, _, by omega, by omega, by go_num, by rw [HG2.out]; exact S6.out.stored HM.out.1 HM.out.2⟩
              case measure => simp [intOf]; omega
            · have HG2 : Hid (gTo L (k + 1) = M) := by show _ = _; rw [HGG.out, if_neg hfi]
              generalize findI M nm = fi at *
              have hfz : 0 ≤ fi := by omega
              go_wp2_with fail
              go_roundw
              case rel => exact ⟨k + 1, _, by omega, by omega, by go_num, by rw [HG2.out]; exact S6⟩
              case measure => simp [intOf]; omega
          · go_wp2_with fail
            refine (refFind_any Ao M no co 0 xa W2 HNO.out (by omega) HV2.out).mono ?_
            rintro e w3 ⟨rfl, hb3⟩
            have S3 := Lib.hid (S2.out.below hb3.out)
            have HXB := Lib.hid (HX.out.below hb3.out HX.out.lt)
            have HB2 := Lib.hid (HBW.out.trans (hb3.out.mono HBW.out.size))
            clear hb3 S2 HX HBW HV2 o0 o1 x0 x1 x2 y0 p0 hz2
            have o0 : w3.cell? ⟨w.heap.size + 2, 0, none⟩ = some (.slice Ao no co) := S3.out.out.cell 0
            have o1 : w3.cell? ⟨w.heap.size + 2, 1, none⟩ = some (.int .i64 0) := S3.out.out.cell 1
            have x0 : w3.cell? ⟨wr.heap.size, 0, none⟩ = some (.string xa) := HXB.out.cell 0
            have x1 : w3.cell? ⟨wr.heap.size, 1, none⟩ = some (.int .i64 (1 + q)) := HXB.out.cell 1
            have x2 : w3.cell? ⟨wr.heap.size, 2, none⟩ = some (.bool xc) := HXB.out.cell 2
            have y0 : w3.frozen? ⟨wr.heap.size, 0, none⟩ = false := HXB.out.free 0
            have p0 : w3.cell? ⟨w.heap.size + 3, k, none⟩ = some (.string (pool k)) := (S3.out.pol.cell k).trans (pool_cell k hl6)
            by_cases hfa : findI M xa < 0
            · have HNM : Hid (gName M ⟨xa, xb, xc⟩ k = xa) := gName_own hnm hfa
              have HX3 := HXB
              have HB3 := HB2
              have S5 := S3
              have HV5 := Lib.hid (HVO.out.below HB3.out)
              obtain ⟨W5, hW5⟩ : ∃ W5, W5 = w3 := ⟨_, rfl⟩
              subst hW5
              clear S3 HXB HB2
              generalize hfq : findI M xa = fa at *
              have HFQ := Lib.hid hfq
              clear hfq
              go_wp2_with fail
              clear o0 o1 x0 x1 x2 y0 p0
              have HGG : Hid (gTo L (k + 1) = if findI M xa < 0 then M ++ [⟨xa, 1 + q, xc⟩] else M) := by show _ = _; rw [HG.out]; simp only [gStep, HNM.out, HQ.out]
              refine (refFind_any Ao M no co 0 xa W5 HNO.out (by omega) HV5.out).mono ?_
              rintro e w5 ⟨rfl, hb5⟩
              have S6 := Lib.hid (S5.out.below hb5.out)
              have HX6 := Lib.hid (HX3.out.below hb5.out HX3.out.lt)
              clear hb5 HG
              by_cases hfi : findI M xa < 0
              · have HG2 : Hid (gTo L (k + 1) = M ++ [⟨xa, 1 + q, xc⟩]) := by show _ = _; rw [HGG.out, if_pos hfi]
                have o0 : w5.cell? ⟨w.heap.size + 2, 0, none⟩ = some (.slice Ao no co) := S6.out.out.cell 0
                have x0 : w5.cell? ⟨wr.heap.size, 0, none⟩ = some (.string xa) := HX6.out.cell 0
                have x1 : w5.cell? ⟨wr.heap.size, 1, none⟩ = some (.int .i64 (1 + q)) := HX6.out.cell 1
                have x2 : w5.cell? ⟨wr.heap.size, 2, none⟩ = some (.bool xc) := HX6.out.cell 2
                generalize findI M xa = fi at *
                have HAP := Lib.hid (appC w5 w5.heap.size rfl (w.heap.size + 4) (.slice Ao no co) M ⟨xa, 1 + q, xc⟩ S6.out.own S6.out.big (by have := HNO.out; omega))
                go_wp2_with (at_builtin; refine wpList_app rfl _ _ 25 25 rfl (.slice Ao no co) (.slice (some ⟨w5.heap.size, 0, none⟩) 1 1) rfl rfl ?_; obtain ⟨R, W', hrun, hmade⟩ := HAP.out; refine ⟨R, W', hrun, ?_⟩; obtain ⟨A7, n7, c7, hR, _, _, _, _, _⟩ := ownC_open hmade.1; subst hR; have HM := Lib.hid hmade; have hO7 := S6.out.out.below hmade.2 (by omega); have f0 : W'.frozen? ⟨w.heap.size + 2, 0, none⟩ = false := hO7.free 0; have f1 : W'.cell? ⟨w.heap.size + 2, 0, none⟩ = some (.slice Ao no co) := hO7.cell 0; clear hrun hmade HAP hO7)
                go_roundw
                case rel => exact ⟨k + 1, _, by omega, by omega, by go_num, by rw [HG2.out]; exact S6.out.stored HM.out.1 HM.out.2⟩
                case measure => simp [intOf]; omega
              · have HG2 : Hid (gTo L (k + 1) = M) := by show _ = _; rw [HGG.out, if_neg hfi]
                generalize findI M xa = fi at *
                have hfz : 0 ≤ fi := by omega
                go_wp2_with fail
                go_roundw
                case rel => exact ⟨k + 1, _, by omega, by omega, by go_num, by rw [HG2.out]; exact S6⟩
                case measure => simp [intOf]; omega
            · have HNM0 : Hid (gName M ⟨xa, xb, xc⟩ k = pool k) := gName_pool (.inr hfa)
              generalize findI M xa = fa at *
              have hfz : 0 ≤ fa := by omega
              have HX3a := Lib.hid (HXB.out.put 0 (.string (pool k)))
              have HB3a := Lib.hid (HB2.out.setCell (p := ⟨wr.heap.size, 0, none⟩) (Nat.le_refl _) (.string (pool k)))
              have S5a := Lib.hid (HS.out.below HB3a.out)
              have HV5a := Lib.hid (HVO.out.below HB3a.out)
              have o0a : (w3.setCell ⟨wr.heap.size, 0, none⟩ (.string (pool k))).cell? ⟨w.heap.size + 1 + 1, 0, none⟩ = some (.slice Ao no co) := S5a.out.out.cell 0
              have o1a : (w3.setCell ⟨wr.heap.size, 0, none⟩ (.string (pool k))).cell? ⟨w.heap.size + 1 + 1, 1, none⟩ = some (.int .i64 0) := S5a.out.out.cell 1
              go_wp2_with fail
              clear o0a o1a x0 x1 x2 y0 p0 o0 o1
              obtain ⟨nm, hnmk⟩ : ∃ nm, pool k = nm := ⟨_, rfl⟩
              obtain ⟨W5, hW5⟩ : ∃ W5, W5 = w3.setCell ⟨wr.heap.size, 0, none⟩ (.string nm) := ⟨_, rfl⟩
              rw [hnmk] at HX3a HB3a S5a HV5a HNM0 ⊢
              rw [← hW5] at HX3a HB3a S5a HV5a ⊢
              have HX3 : Hid (Has W5 wr.heap.size 29 #[.string nm, .int .i64 (1 + q), .bool xc]) := HX3a
              have HB3 := HB3a
              have S5 := S5a
              have HV5 := HV5a
              have HNM := HNM0
              clear HX3a HB3a S5a HV5a HNM0 hW5 hnmk
              have HGG : Hid (gTo L (k + 1) = if findI M nm < 0 then M ++ [⟨nm, 1 + q, xc⟩] else M) := by show _ = _; rw [HG.out]; simp only [gStep, HNM.out, HQ.out]
              refine (refFind_any Ao M no co 0 nm W5 HNO.out (by omega) HV5.out).mono ?_
              rintro e w5 ⟨rfl, hb5⟩
              have S6 := Lib.hid (S5.out.below hb5.out)
              have HX6 := Lib.hid (HX3.out.below hb5.out HX3.out.lt)
              clear hb5 HG
              by_cases hfi : findI M nm < 0
              · have HG2 : Hid (gTo L (k + 1) = M ++ [⟨nm, 1 + q, xc⟩]) := by show _ = _; rw [HGG.out, if_pos hfi]
                have o0 : w5.cell? ⟨w.heap.size + 2, 0, none⟩ = some (.slice Ao no co) := S6.out.out.cell 0
                have x0 : w5.cell? ⟨wr.heap.size, 0, none⟩ = some (.string nm) := HX6.out.cell 0
                have x1 : w5.cell? ⟨wr.heap.size, 1, none⟩ = some (.int .i64 (1 + q)) := HX6.out.cell 1
                have x2 : w5.cell? ⟨wr.heap.size, 2, none⟩ = some (.bool xc) := HX6.out.cell 2
                generalize findI M nm = fi at *
                have HAP := Lib.hid (appC w5 w5.heap.size rfl (w.heap.size + 4) (.slice Ao no co) M ⟨nm, 1 + q, xc⟩ S6.out.own S6.out.big (by have := HNO.out; omega))
                go_wp2_with (at_builtin; refine wpList_app rfl _ _ 25 25 rfl (.slice Ao no co) (.slice (some ⟨w5.heap.size, 0, none⟩) 1 1) rfl rfl ?_; obtain ⟨R, W', hrun, hmade⟩ := HAP.out; refine ⟨R, W', hrun, ?_⟩; obtain ⟨A7, n7, c7, hR, _, _, _, _, _⟩ := ownC_open hmade.1; subst hR; have HM := Lib.hid hmade; have hO7 := S6.out.out.below hmade.2 (by omega); have f0 : W'.frozen? ⟨w.heap.size + 2, 0, none⟩ = false := hO7.free 0; have f1 : W'.cell? ⟨w.heap.size + 2, 0, none⟩ = some (.slice Ao no co) := hO7.cell 0; clear hrun hmade HAP hO7)
                go_roundw
                case rel => exact ⟨k + 1, _, by omega, by omega, by go_num, by rw [HG2.out]; exact S6.out.stored HM.out.1 HM.out.2⟩
                case measure => simp [intOf]; omega
              · have HG2 : Hid (gTo L (k + 1) = M) := by show _ = _; rw [HGG.out, if_neg hfi]
                generalize findI M nm = fi at *
                have hfz : 0 ≤ fi := by omega
                go_wp2_with fail
                go_roundw
                case rel => exact ⟨k + 1, _, by omega, by omega, by go_num, by rw [HG2.out]; exact S6⟩
                case measure => simp [intOf]; omega
        · obtain ⟨q, hq, hq4, hq0, hq3⟩ : ∃ q : Int, xb.tmod 4 = q ∧ kind4 xb = q ∧ 0 ≤ q ∧ q ≤ 3 := ⟨_, kind4_pos hneg, rfl, (kind4_range xb).1, (kind4_range xb).2⟩
          have HQ := Lib.hid hq4
          clear hq4
          go_wp2_with fail
          refine (refName_any xa _).mono ?_
          rintro e w0 ⟨rfl, rfl⟩
          obtain ⟨W2, hW2⟩ : ∃ W2, W2 = wr.alloc (.cells #[.string xa, .int .i64 (1 + q), .bool xc] 29) := ⟨_, rfl⟩
          rw [← hW2]
          have HBW : Hid (Below wr.heap.size wr W2) := by
            show Below _ _ _
            rw [hW2]; exact (Below.refl _ wr).alloc (Nat.le_refl _) _
          have HX : Hid (Has W2 wr.heap.size 29 #[.string xa, .int .i64 (1 + q), .bool xc]) := by
            show Has _ _ _ _
            rw [hW2]; exact Has.new wr _ _
          have S2 := Lib.hid (HS.out.below HBW.out)
          have HV2 := Lib.hid (HVO.out.below HBW.out)
          have hz2 : wr.heap.size < W2.heap.size := HX.out.lt
          clear hW2 c0 c1 c2 a0 a1 hq
          have o0 : W2.cell? ⟨w.heap.size + 2, 0, none⟩ = some (.slice Ao no co) := S2.out.out.cell 0
          have o1 : W2.cell? ⟨w.heap.size + 2, 1, none⟩ = some (.int .i64 0) := S2.out.out.cell 1
          have x0 : W2.cell? ⟨wr.heap.size, 0, none⟩ = some (.string xa) := HX.out.cell 0
          have x1 : W2.cell? ⟨wr.heap.size, 1, none⟩ = some (.int .i64 (1 + q)) := HX.out.cell 1
          have x2 : W2.cell? ⟨wr.heap.size, 2, none⟩ = some (.bool xc) := HX.out.cell 2
          have y0 : W2.frozen? ⟨wr.heap.size, 0, none⟩ = false := HX.out.free 0
          have p0 : W2.cell? ⟨w.heap.size + 3, k, none⟩ = some (.string (pool k)) := (S2.out.pol.cell k).trans (pool_cell k hl6)
          have hkz : (k : Int) < 6 := by omega
          cases hnm : nameF xa
          · have HNM0 : Hid (gName M ⟨xa, xb, xc⟩ k = pool k) := gName_pool (.inl hnm)
            have HX3a := Lib.hid (HX.out.put 0 (.string (pool k)))
            have HB3a := Lib.hid (HBW.out.setCell (p := ⟨wr.heap.size, 0, none⟩) (Nat.le_refl _) (.string (pool k)))
            have S5a := Lib.hid (HS.out.below HB3a.out)
            have HV5a := Lib.hid (HVO.out.below HB3a.out)
            have o0a : (W2.setCell ⟨wr.heap.size, 0, none⟩ (.string (pool k))).cell? ⟨w.heap.size + 1 + 1, 0, none⟩ = some (.slice Ao no co) := S5a.out.out.cell 0
            have o1a : (W2.setCell ⟨wr.heap.size, 0, none⟩ (.string (pool k))).cell? ⟨w.heap.size + 1 + 1, 1, none⟩ = some (.int .i64 0) := S5a.out.out.cell 1
            go_wp2_with fail
            clear o0a o1a x0 x1 x2 y0 p0 o0 o1
            obtain ⟨nm, hnmk⟩ : ∃ nm, pool k = nm := ⟨_, rfl⟩
            obtain ⟨W5, hW5⟩ : ∃ W5, W5 = W2.setCell ⟨wr.heap.size, 0, none⟩ (.string nm) := ⟨_, rfl⟩
            rw [hnmk] at HX3a HB3a S5a HV5a HNM0 ⊢
            rw [← hW5] at HX3a HB3a S5a HV5a ⊢
            have HX3 : Hid (Has W5 wr.heap.size 29 #[.string nm, .int .i64 (1 + q), .bool xc]) := HX3a
            have HB3 := HB3a
            have S5 := S5a
            have HV5 := HV5a
            have HNM := HNM0
            clear HX3a HB3a S5a HV5a HNM0 hW5 hnmk
            have HGG : Hid (gTo L (k + 1) = if findI M nm < 0 then M ++ [⟨nm, 1 + q, xc⟩] else M) := by show _ = _; rw [HG.out]; simp only [gStep, HNM.out, HQ.out]
            refine (refFind_any Ao M no co 0 nm W5 HNO.out (by omega) HV5.out).mono ?_
            rintro e w5 ⟨rfl, hb5⟩
            have S6 := Lib.hid (S5.out.below hb5.out)
            have HX6 := Lib.hid (HX3.out.below hb5.out HX3.out.lt)
            clear hb5 HG
            by_cases hfi : findI M nm < 0
            · have HG2 : Hid (gTo L (k + 1) = M ++ [⟨nm, 1 + q, xc⟩]) := by show _ = _; rw [HGG.out, if_pos hfi]
              have o0 : w5.cell? ⟨w.heap.size + 2, 0, none⟩ = some (.slice Ao no co) := S6.out.out.cell 0
              have x0 : w5.cell? ⟨wr.heap.size, 0, none⟩ = some (.string nm) := HX6.out.cell 0
              have x1 : w5.cell? ⟨wr.heap.size, 1, none⟩ = some (.int .i64 (1 + q)) := HX6.out.cell 1
              have x2 : w5.cell? ⟨wr.heap.size, 2, none⟩ = some (.bool xc) := HX6.out.cell 2
              generalize findI M nm = fi at *
              have HAP := Lib.hid (appC w5 w5.heap.size rfl (w.heap.size + 4) (.slice Ao no co) M ⟨nm, 1 + q, xc⟩ S6.out.own S6.out.big (by have := HNO.out; omega))
              go_wp2_with (at_builtin; refine wpList_app rfl _ _ 25 25 rfl (.slice Ao no co) (.slice (some ⟨w5.heap.size, 0, none⟩) 1 1) rfl rfl ?_; obtain ⟨R, W', hrun, hmade⟩ := HAP.out; refine ⟨R, W', hrun, ?_⟩; obtain ⟨A7, n7, c7, hR, _, _, _, _, _⟩ := ownC_open hmade.1; subst hR; have HM := Lib.hid hmade; have hO7 := S6.out.out.below hmade.2 (by omega); have f0 : W'.frozen? ⟨w.heap.size + 2, 0, none⟩ = false := hO7.free 0; have f1 : W'.cell? ⟨w.heap.size + 2, 0, none⟩ = some (.slice Ao no co) := hO7.cell 0; clear hrun hmade HAP hO7)
              go_roundw
              case rel => exact ⟨k + 1, _, by omega, by omega, by go_num, by rw [HG2.out]; exact S6.out.stored HM.out.1 HM.out.2⟩
              case measure => simp [intOf]; omega
            · have HG2 : Hid (gTo L (k + 1) = M) := by show _ = _; rw [HGG.out, if_neg hfi]
              generalize findI M nm = fi at *
              have hfz : 0 ≤ fi := by omega
              go_wp2_with fail
              go_roundw
              case rel => exact ⟨k + 1, _, by omega, by omega, by go_num, by rw [HG2.out]; exact S6⟩
              case measure => simp [intOf]; omega
          · go_wp2_with fail
            refine (refFind_any Ao M no co 0 xa W2 HNO.out (by omega) HV2.out).mono ?_
            rintro e w3 ⟨rfl, hb3⟩
            have S3 := Lib.hid (S2.out.below hb3.out)
            have HXB := Lib.hid (HX.out.below hb3.out HX.out.lt)
            have HB2 := Lib.hid (HBW.out.trans (hb3.out.mono HBW.out.size))
            clear hb3 S2 HX HBW HV2 o0 o1 x0 x1 x2 y0 p0 hz2
            have o0 : w3.cell? ⟨w.heap.size + 2, 0, none⟩ = some (.slice Ao no co) := S3.out.out.cell 0
            have o1 : w3.cell? ⟨w.heap.size + 2, 1, none⟩ = some (.int .i64 0) := S3.out.out.cell 1
            have x0 : w3.cell? ⟨wr.heap.size, 0, none⟩ = some (.string xa) := HXB.out.cell 0
            have x1 : w3.cell? ⟨wr.heap.size, 1, none⟩ = some (.int .i64 (1 + q)) := HXB.out.cell 1
            have x2 : w3.cell? ⟨wr.heap.size, 2, none⟩ = some (.bool xc) := HXB.out.cell 2
            have y0 : w3.frozen? ⟨wr.heap.size, 0, none⟩ = false := HXB.out.free 0
            have p0 : w3.cell? ⟨w.heap.size + 3, k, none⟩ = some (.string (pool k)) := (S3.out.pol.cell k).trans (pool_cell k hl6)
            by_cases hfa : findI M xa < 0
            · have HNM : Hid (gName M ⟨xa, xb, xc⟩ k = xa) := gName_own hnm hfa
              have HX3 := HXB
              have HB3 := HB2
              have S5 := S3
              have HV5 := Lib.hid (HVO.out.below HB3.out)
              obtain ⟨W5, hW5⟩ : ∃ W5, W5 = w3 := ⟨_, rfl⟩
              subst hW5
              clear S3 HXB HB2
              generalize hfq : findI M xa = fa at *
              have HFQ := Lib.hid hfq
              clear hfq
              go_wp2_with fail
              clear o0 o1 x0 x1 x2 y0 p0
              have HGG : Hid (gTo L (k + 1) = if findI M xa < 0 then M ++ [⟨xa, 1 + q, xc⟩] else M) := by show _ = _; rw [HG.out]; simp only [gStep, HNM.out, HQ.out]
              refine (refFind_any Ao M no co 0 xa W5 HNO.out (by omega) HV5.out).mono ?_
              rintro e w5 ⟨rfl, hb5⟩
              have S6 := Lib.hid (S5.out.below hb5.out)
              have HX6 := Lib.hid (HX3.out.below hb5.out HX3.out.lt)
              clear hb5 HG
              by_cases hfi : findI M xa < 0
              · have HG2 : Hid (gTo L (k + 1) = M ++ [⟨xa, 1 + q, xc⟩]) := by show _ = _; rw [HGG.out, if_pos hfi]
                have o0 : w5.cell? ⟨w.heap.size + 2, 0, none⟩ = some (.slice Ao no co) := S6.out.out.cell 0
                have x0 : w5.cell? ⟨wr.heap.size, 0, none⟩ = some (.string xa) := HX6.out.cell 0
                have x1 : w5.cell? ⟨wr.heap.size, 1, none⟩ = some (.int .i64 (1 + q)) := HX6.out.cell 1
                have x2 : w5.cell? ⟨wr.heap.size, 2, none⟩ = some (.bool xc) := HX6.out.cell 2
                generalize findI M xa = fi at *
                have HAP := Lib.hid (appC w5 w5.heap.size rfl (w.heap.size + 4) (.slice Ao no co) M ⟨xa, 1 + q, xc⟩ S6.out.own S6.out.big (by have := HNO.out; omega))
                go_wp2_with (at_builtin; refine wpList_app rfl _ _ 25 25 rfl (.slice Ao no co) (.slice (some ⟨w5.heap.size, 0, none⟩) 1 1) rfl rfl ?_; obtain ⟨R, W', hrun, hmade⟩ := HAP.out; refine ⟨R, W', hrun, ?_⟩; obtain ⟨A7, n7, c7, hR, _, _, _, _, _⟩ := ownC_open hmade.1; subst hR; have HM := Lib.hid hmade; have hO7 := S6.out.out.below hmade.2 (by omega); have f0 : W'.frozen? ⟨w.heap.size + 2, 0, none⟩ = false := hO7.free 0; have f1 : W'.cell? ⟨w.heap.size + 2, 0, none⟩ = some (.slice Ao no co) := hO7.cell 0; clear hrun hmade HAP hO7)
                go_roundw
                case rel => exact ⟨k + 1, _, by omega, by omega, by go_num, by rw [HG2.out]; exact S6.out.stored HM.out.1 HM.out.2⟩
                case measure => simp [intOf]; omega
              · have HG2 : Hid (gTo L (k + 1) = M) := by show _ = _; rw [HGG.out, if_neg hfi]
                generalize findI M xa = fi at *
                have hfz : 0 ≤ fi := by omega
                go_wp2_with fail
                go_roundw
                case rel => exact ⟨k + 1, _, by omega, by omega, by go_num, by rw [HG2.out]; exact S6⟩
                case measure => simp [intOf]; omega
            · have HNM0 : Hid (gName M ⟨xa, xb, xc⟩ k = pool k) := gName_pool (.inr hfa)
              generalize findI M xa = fa at *
              have hfz : 0 ≤ fa := by omega
              have HX3a := Lib.hid (HXB.out.put 0 (.string (pool k)))
              have HB3a := Lib.hid (HB2.out.setCell (p := ⟨wr.heap.size, 0, none⟩) (Nat.le_refl _) (.string (pool k)))
              have S5a := Lib.hid (HS.out.below HB3a.out)
              have HV5a := Lib.hid (HVO.out.below HB3a.out)
              have o0a : (w3.setCell ⟨wr.heap.size, 0, none⟩ (.string (pool k))).cell? ⟨w.heap.size + 1 + 1, 0, none⟩ = some (.slice Ao no co) := S5a.out.out.cell 0
              have o1a : (w3.setCell ⟨wr.heap.size, 0, none⟩ (.string (pool k))).cell? ⟨w.heap.size + 1 + 1, 1, none⟩ = some (.int .i64 0) := S5a.out.out.cell 1
              go_wp2_with fail
              clear o0a o1a x0 x1 x2 y0 p0 o0 o1
              obtain ⟨nm, hnmk⟩ : ∃ nm, pool k = nm := ⟨_, rfl⟩
              obtain ⟨W5, hW5⟩ : ∃ W5, W5 = w3.setCell ⟨wr.heap.size, 0, none⟩ (.string nm) := ⟨_, rfl⟩
              rw [hnmk] at HX3a HB3a S5a HV5a HNM0 ⊢
              rw [← hW5] at HX3a HB3a S5a HV5a ⊢
              have HX3 : Hid (Has W5 wr.heap.size 29 #[.string nm, .int .i64 (1 + q), .bool xc]) := HX3a
              have HB3 := HB3a
              have S5 := S5a
              have HV5 := HV5a
              have HNM := HNM0
              clear HX3a HB3a S5a HV5a HNM0 hW5 hnmk
              have HGG : Hid (gTo L (k + 1) = if findI M nm < 0 then M ++ [⟨nm, 1 + q, xc⟩] else M) := by show _ = _; rw [HG.out]; simp only [gStep, HNM.out, HQ.out]
              refine (refFind_any Ao M no co 0 nm W5 HNO.out (by omega) HV5.out).mono ?_
              rintro e w5 ⟨rfl, hb5⟩
              have S6 := Lib.hid (S5.out.below hb5.out)
              have HX6 := Lib.hid (HX3.out.below hb5.out HX3.out.lt)
              clear hb5 HG
              by_cases hfi : findI M nm < 0
              · have HG2 : Hid (gTo L (k + 1) = M ++ [⟨nm, 1 + q, xc⟩]) := by show _ = _; rw [HGG.out, if_pos hfi]
                have o0 : w5.cell? ⟨w.heap.size + 2, 0, none⟩ = some (.slice Ao no co) := S6.out.out.cell 0
                have x0 : w5.cell? ⟨wr.heap.size, 0, none⟩ = some (.string nm) := HX6.out.cell 0
                have x1 : w5.cell? ⟨wr.heap.size, 1, none⟩ = some (.int .i64 (1 + q)) := HX6.out.cell 1
                have x2 : w5.cell? ⟨wr.heap.size, 2, none⟩ = some (.bool xc) := HX6.out.cell 2
                generalize findI M nm = fi at *
                have HAP := Lib.hid (appC w5 w5.heap.size rfl (w.heap.size + 4) (.slice Ao no co) M ⟨nm, 1 + q, xc⟩ S6.out.own S6.out.big (by have := HNO.out; omega))
                go_wp2_with (at_builtin; refine wpList_app rfl _ _ 25 25 rfl (.slice Ao no co) (.slice (some ⟨w5.heap.size, 0, none⟩) 1 1) rfl rfl ?_; obtain ⟨R, W', hrun, hmade⟩ := HAP.out; refine ⟨R, W', hrun, ?_⟩; obtain ⟨A7, n7, c7, hR, _, _, _, _, _⟩ := ownC_open hmade.1; subst hR; have HM := Lib.hid hmade; have hO7 := S6.out.out.below hmade.2 (by omega); have f0 : W'.frozen? ⟨w.heap.size + 2, 0, none⟩ = false := hO7.free 0; have f1 : W'.cell? ⟨w.heap.size + 2, 0, none⟩ = some (.slice Ao no co) := hO7.cell 0; clear hrun hmade HAP hO7)
                go_roundw
                case rel => exact ⟨k + 1, _, by omega, by omega, by go_num, by rw [HG2.out]; exact S6.out.stored HM.out.1 HM.out.2⟩
                case measure => simp [intOf]; omega
              · have HG2 : Hid (gTo L (k + 1) = M) := by show _ = _; rw [HGG.out, if_neg hfi]
                generalize findI M nm = fi at *
                have hfz : 0 ≤ fi := by omega
                go_wp2_with fail
                go_roundw
                case rel => exact ⟨k + 1, _, by omega, by omega, by go_num, by rw [HG2.out]; exact S6⟩
                case measure => simp [intOf]; omega
      · obtain rfl : k = 6 := by omega
        have HT : Hid (gTo L 6 = gTo L (min L.length 6)) := by show _ = _; rw [HN.out, Nat.min_eq_right (by omega)]
        rw [HT.out] at HS HNO HVO
        have HGC : Hid (gCols L = if (gTo L (min L.length 6)).length = 0 then gOne else gTo L (min L.length 6)) := rfl
        have HKK : Hid (gdK L K = gKeys (gCols L).length K) := rfl
        have HKC : Hid (gdC L K = clr (gCols L) (gKeys (gCols L).length K)) := rfl
        have HGR := Lib.hid (gCols_cols L).2
        clear HT
        obtain ⟨M0, hM0⟩ : ∃ M0, gTo L (min L.length 6) = M0 := ⟨_, rfl⟩
        rw [hM0] at HS HNO HVO HGC
        rw [HNO.out] at HGC
        clear hM0
        have o0 : wr.cell? ⟨w.heap.size + 2, 0, none⟩ = some (.slice Ao no co) := HS.out.out.cell 0
        have o1 : wr.cell? ⟨w.heap.size + 2, 1, none⟩ = some (.int .i64 0) := HS.out.out.cell 1
        have f1 : wr.frozen? ⟨w.heap.size + 2, 1, none⟩ = false := HS.out.out.free 1
        by_cases hK : K < 0
        · by_cases hz : no = 0
          · subst hz
            have hM0 : M0 = [] := List.eq_nil_of_length_eq_zero HNO.out
            subst hM0
            have HGO : Hid (gCols L = gOne) := by show _ = _; rw [HGC.out, if_pos rfl]
            have hmin1 : ∀ ts t W, Sem.run Tryz.prog (Builtin.min_ ts t #[.int .i64 1, .int .i64 3]) W = .ok (.int .i64 1) W := fun ts t W => by rw [run_min_int2]; simp
            have HAP := Lib.hid (appC wr wr.heap.size rfl (w.heap.size + 4) (.slice Ao 0 co) [] ⟨⟨#[105, 100]⟩, 2, false⟩ HS.out.own HS.out.big (by simp))
            go_wp2_with (at_builtin; refine wpList_app rfl _ _ 25 25 rfl (.slice Ao 0 co) (.slice (some ⟨wr.heap.size, 0, none⟩) 1 1) rfl rfl ?_; obtain ⟨R, W', hrun, hmade⟩ := HAP.out; refine ⟨R, W', hrun, ?_⟩; obtain ⟨Ag, m0, cg, hR, HN7, _, _, _, _⟩ := ownC_open hmade.1; have hm1 : 1 = m0 := HN7.out; subst hm1; subst hR; have HM := Lib.hid hmade; have hO7 := HS.out.out.below hmade.2 (by omega); have g0 : W'.frozen? ⟨w.heap.size + 2, 0, none⟩ = false := hO7.free 0; have g1 : W'.frozen? ⟨w.heap.size + 2, 1, none⟩ = false := hO7.free 1; have g2 : W'.cell? ⟨w.heap.size + 2, 0, none⟩ = some (.slice Ao 0 co) := hO7.cell 0; have g3 : W'.cell? ⟨w.heap.size + 2, 1, none⟩ = some (.int .i64 0) := hO7.cell 1; have g4 : W'.cell? ⟨w.heap.size, 1, none⟩ = some (.int .i64 K) := (HS.out.prm.below hmade.2 (by omega)).cell 1; clear hrun hmade HAP hO7 HN7)
            have HGL : Hid ((gCols L).length = 1) := by show _ = _; rw [HGO.out]; rfl
            have hgk : ((gKeys 1 K : Nat) : Int) = 1 := by
              have := gKeys_range 1 K (by omega)
              omega
            have S8 := Lib.hid ((HS.out.stored HM.out.1 HM.out.2).keyed 1)
            have hgm := (gKeys_range 1 K (by omega)).2.1
            have e0 : [] ++ [(⟨⟨#[105, 100]⟩, 2, false⟩ : Cl)] = gCols L := by rw [HGO.out]; rfl
            rw [e0] at S8
            clear e0 HM HS HNO HVO HGO HGC hmin1
            generalize gCols L = G at *
            rw [HGL.out] at HKK HKC
            generalize gKeys 1 K = gk at *
            go_loopw [10] (fun i wr2 => ∃ j : Nat, j ≤ gk ∧ i = .int .i64 j ∧ Hid (GSt w A n c K wr2 (.slice Ag 1 cg) (1) (clr G j))) (fun i _ => gk - (intOf i).toNat)
            case atStart => exact ⟨0, by omega, rfl, by rw [clr_zero]; exact S8.out⟩
            case round =>
              obtain ⟨j, hj, rfl, HS2⟩ := hrel
              clear S8
              have b0 : wr.cell? ⟨w.heap.size + 2, 0, none⟩ = some (.slice Ag 1 cg) := HS2.out.out.cell 0
              have b1 : wr.cell? ⟨w.heap.size + 2, 1, none⟩ = some (.int .i64 (1)) := HS2.out.out.cell 1
              by_cases hlt2 : j < gk
              · have hjr : (j : Int) < 1 := by omega
                have hjm : (j : Int) < (1 : Int) := by omega
                have hjc : j < (clr G j).length := by rw [clr_len, HGL.out]; omega
                have hjG : j < G.length := by rw [HGL.out]; omega
                obtain ⟨g, c9, hv9, hg9, _, e9, d9, own9⟩ := ownC_put HS2.out.own j hjc 2 (by omega) (.bool false) ⟨(clr G j)[j].nm, (clr G j)[j].k, false⟩ rfl
                injection hv9 with hv9 hx1 hx2
                clear hx1 hx2
                subst hv9
                have HO9 := Lib.hid own9
                rw [clr_step G j hjG] at HO9
                have d9' : wr.cell? ⟨g, j * 3 + 2, none⟩ = some (.bool (clr G j)[j].no) := d9
                have HG9 := Lib.hid hg9
                clear own9 d9 hg9
                generalize (clr G j)[j].no = cj at *
                clear hjc
                go_wp2_with fail
                go_roundw
                case rel => exact ⟨j + 1, by omega, by go_num, HS2.out.cleared HG9.out (j * 3 + 2) (.bool false) HO9.out⟩
                case measure => simp [intOf]; omega
              · obtain rfl : j = gk := by omega
                have hjr : ¬ (j : Int) < 1 := by omega
                have r0 : wr.cell? ⟨w.heap.size + 1, 0, none⟩ = some (.slice none 0 0) := HS2.out.res.cell 0
                have r1 : wr.cell? ⟨w.heap.size + 1, 1, none⟩ = some (.int .i64 0) := HS2.out.res.cell 1
                have t0 : wr.frozen? ⟨w.heap.size + 1, 0, none⟩ = false := HS2.out.res.free 0
                have t1 : wr.frozen? ⟨w.heap.size + 1, 1, none⟩ = false := HS2.out.res.free 1
                have HP := Lib.hid ((HS2.out.res.put 0 (.slice Ag 1 cg)).put 1 (.int .i64 (1)))
                have HO9 := Lib.hid ((HS2.out.own.far (p := ⟨w.heap.size + 1, 0, none⟩) (by show w.heap.size + 1 < w.heap.size + 4; omega) (.slice Ag 1 cg)).far (p := ⟨w.heap.size + 1, 1, none⟩) (by show w.heap.size + 1 < w.heap.size + 4; omega) (.int .i64 (1)))
                have HB9 := Lib.hid ((HS2.out.bel.setCell (p := ⟨w.heap.size + 1, 0, none⟩) (by show w.heap.size ≤ w.heap.size + 1; omega) (.slice Ag 1 cg)).setCell (p := ⟨w.heap.size + 1, 1, none⟩) (by show w.heap.size ≤ w.heap.size + 1; omega) (.int .i64 (1)))
                clear HS2
                go_wp2_with fail
                exact bodyPost_ret (gEnd _ (w.heap.size + 1) _ _ _ rfl HP.out) rfl ⟨_, by rw [HKK.out, hgk], by rw [HKC.out]; exact ownC_down HO9.out (Nat.le_add_right _ 4), HB9.out⟩
          · have HGO : Hid (gCols L = M0) := by show _ = _; rw [HGC.out, if_neg hz]
            rw [← HGO.out] at HS HNO HVO
            have hm1 : 1 ≤ no := by omega
            obtain ⟨m0, hm0⟩ : ∃ m0, m0 = no := ⟨_, rfl⟩
            subst hm0
            obtain ⟨q, r, hq1, hq3, hq0, hmin, hr, hgk, hr0, hr3⟩ := keysN m0 K hm1 hK
            have hnz : ((m0 : Int) == 0) = false := by simp; omega
            have HGL : Hid ((gCols L).length = m0) := HNO
            have S8 := Lib.hid (HS.out.keyed (1 + r))
            have hgm := (gKeys_range m0 K hm1).2.1
            obtain ⟨Ag, hAg⟩ : ∃ Ag, Ag = Ao := ⟨_, rfl⟩
            obtain ⟨cg, hcg⟩ : ∃ cg, cg = co := ⟨_, rfl⟩
            subst hAg hcg
            go_wp2_with fail
            clear HS HNO HVO HGO HGC hmin
            generalize gCols L = G at *
            rw [HGL.out] at HKK HKC
            generalize gKeys m0 K = gk at *
            go_loopw [10] (fun i wr2 => ∃ j : Nat, j ≤ gk ∧ i = .int .i64 j ∧ Hid (GSt w A n c K wr2 (.slice Ag m0 cg) (1 + r) (clr G j))) (fun i _ => gk - (intOf i).toNat)
            case atStart => exact ⟨0, by omega, rfl, by rw [clr_zero]; exact S8.out⟩
            case round =>
              obtain ⟨j, hj, rfl, HS2⟩ := hrel
              clear S8
              have b0 : wr.cell? ⟨w.heap.size + 2, 0, none⟩ = some (.slice Ag m0 cg) := HS2.out.out.cell 0
              have b1 : wr.cell? ⟨w.heap.size + 2, 1, none⟩ = some (.int .i64 (1 + r)) := HS2.out.out.cell 1
              by_cases hlt2 : j < gk
              · have hjr : (j : Int) < 1 + r := by omega
                have hjm : (j : Int) < (m0 : Int) := by omega
                have hjc : j < (clr G j).length := by rw [clr_len, HGL.out]; omega
                have hjG : j < G.length := by rw [HGL.out]; omega
                obtain ⟨g, c9, hv9, hg9, _, e9, d9, own9⟩ := ownC_put HS2.out.own j hjc 2 (by omega) (.bool false) ⟨(clr G j)[j].nm, (clr G j)[j].k, false⟩ rfl
                injection hv9 with hv9 hx1 hx2
                clear hx1 hx2
                subst hv9
                have HO9 := Lib.hid own9
                rw [clr_step G j hjG] at HO9
                have d9' : wr.cell? ⟨g, j * 3 + 2, none⟩ = some (.bool (clr G j)[j].no) := d9
                have HG9 := Lib.hid hg9
                clear own9 d9 hg9
                generalize (clr G j)[j].no = cj at *
                clear hjc
                go_wp2_with fail
                go_roundw
                case rel => exact ⟨j + 1, by omega, by go_num, HS2.out.cleared HG9.out (j * 3 + 2) (.bool false) HO9.out⟩
                case measure => simp [intOf]; omega
              · obtain rfl : j = gk := by omega
                have hjr : ¬ (j : Int) < 1 + r := by omega
                have r0 : wr.cell? ⟨w.heap.size + 1, 0, none⟩ = some (.slice none 0 0) := HS2.out.res.cell 0
                have r1 : wr.cell? ⟨w.heap.size + 1, 1, none⟩ = some (.int .i64 0) := HS2.out.res.cell 1
                have t0 : wr.frozen? ⟨w.heap.size + 1, 0, none⟩ = false := HS2.out.res.free 0
                have t1 : wr.frozen? ⟨w.heap.size + 1, 1, none⟩ = false := HS2.out.res.free 1
                have HP := Lib.hid ((HS2.out.res.put 0 (.slice Ag m0 cg)).put 1 (.int .i64 (1 + r)))
                have HO9 := Lib.hid ((HS2.out.own.far (p := ⟨w.heap.size + 1, 0, none⟩) (by show w.heap.size + 1 < w.heap.size + 4; omega) (.slice Ag m0 cg)).far (p := ⟨w.heap.size + 1, 1, none⟩) (by show w.heap.size + 1 < w.heap.size + 4; omega) (.int .i64 (1 + r)))
                have HB9 := Lib.hid ((HS2.out.bel.setCell (p := ⟨w.heap.size + 1, 0, none⟩) (by show w.heap.size ≤ w.heap.size + 1; omega) (.slice Ag m0 cg)).setCell (p := ⟨w.heap.size + 1, 1, none⟩) (by show w.heap.size ≤ w.heap.size + 1; omega) (.int .i64 (1 + r)))
                clear HS2
                go_wp2_with fail
                exact bodyPost_ret (gEnd _ (w.heap.size + 1) _ _ _ rfl HP.out) rfl ⟨_, by rw [HKK.out, hgk], by rw [HKC.out]; exact ownC_down HO9.out (Nat.le_add_right _ 4), HB9.out⟩
        · by_cases hz : no = 0
          · subst hz
            have hM0 : M0 = [] := List.eq_nil_of_length_eq_zero HNO.out
            subst hM0
            have HGO : Hid (gCols L = gOne) := by show _ = _; rw [HGC.out, if_pos rfl]
            have hmin1 : ∀ ts t W, Sem.run Tryz.prog (Builtin.min_ ts t #[.int .i64 1, .int .i64 3]) W = .ok (.int .i64 1) W := fun ts t W => by rw [run_min_int2]; simp
            have HAP := Lib.hid (appC wr wr.heap.size rfl (w.heap.size + 4) (.slice Ao 0 co) [] ⟨⟨#[105, 100]⟩, 2, false⟩ HS.out.own HS.out.big (by simp))
            go_wp2_with (at_builtin; refine wpList_app rfl _ _ 25 25 rfl (.slice Ao 0 co) (.slice (some ⟨wr.heap.size, 0, none⟩) 1 1) rfl rfl ?_; obtain ⟨R, W', hrun, hmade⟩ := HAP.out; refine ⟨R, W', hrun, ?_⟩; obtain ⟨Ag, m0, cg, hR, HN7, _, _, _, _⟩ := ownC_open hmade.1; have hm1 : 1 = m0 := HN7.out; subst hm1; subst hR; have HM := Lib.hid hmade; have hO7 := HS.out.out.below hmade.2 (by omega); have g0 : W'.frozen? ⟨w.heap.size + 2, 0, none⟩ = false := hO7.free 0; have g1 : W'.frozen? ⟨w.heap.size + 2, 1, none⟩ = false := hO7.free 1; have g2 : W'.cell? ⟨w.heap.size + 2, 0, none⟩ = some (.slice Ao 0 co) := hO7.cell 0; have g3 : W'.cell? ⟨w.heap.size + 2, 1, none⟩ = some (.int .i64 0) := hO7.cell 1; have g4 : W'.cell? ⟨w.heap.size, 1, none⟩ = some (.int .i64 K) := (HS.out.prm.below hmade.2 (by omega)).cell 1; clear hrun hmade HAP hO7 HN7)
            have HGL : Hid ((gCols L).length = 1) := by show _ = _; rw [HGO.out]; rfl
            have hgk : ((gKeys 1 K : Nat) : Int) = 1 := by
              have := gKeys_range 1 K (by omega)
              omega
            have S8 := Lib.hid ((HS.out.stored HM.out.1 HM.out.2).keyed 1)
            have hgm := (gKeys_range 1 K (by omega)).2.1
            have e0 : [] ++ [(⟨⟨#[105, 100]⟩, 2, false⟩ : Cl)] = gCols L := by rw [HGO.out]; rfl
            rw [e0] at S8
            clear e0 HM HS HNO HVO HGO HGC hmin1
            generalize gCols L = G at *
            rw [HGL.out] at HKK HKC
            generalize gKeys 1 K = gk at *
            go_loopw [10] (fun i wr2 => ∃ j : Nat, j ≤ gk ∧ i = .int .i64 j ∧ Hid (GSt w A n c K wr2 (.slice Ag 1 cg) (1) (clr G j))) (fun i _ => gk - (intOf i).toNat)
            case atStart => exact ⟨0, by omega, rfl, by rw [clr_zero]; exact S8.out⟩
            case round =>
              obtain ⟨j, hj, rfl, HS2⟩ := hrel
              clear S8
              have b0 : wr.cell? ⟨w.heap.size + 2, 0, none⟩ = some (.slice Ag 1 cg) := HS2.out.out.cell 0
              have b1 : wr.cell? ⟨w.heap.size + 2, 1, none⟩ = some (.int .i64 (1)) := HS2.out.out.cell 1
              by_cases hlt2 : j < gk
              · have hjr : (j : Int) < 1 := by omega
                have hjm : (j : Int) < (1 : Int) := by omega
                have hjc : j < (clr G j).length := by rw [clr_len, HGL.out]; omega
                have hjG : j < G.length := by rw [HGL.out]; omega
                obtain ⟨g, c9, hv9, hg9, _, e9, d9, own9⟩ := ownC_put HS2.out.own j hjc 2 (by omega) (.bool false) ⟨(clr G j)[j].nm, (clr G j)[j].k, false⟩ rfl
                injection hv9 with hv9 hx1 hx2
                clear hx1 hx2
                subst hv9
                have HO9 := Lib.hid own9
                rw [clr_step G j hjG] at HO9
                have d9' : wr.cell? ⟨g, j * 3 + 2, none⟩ = some (.bool (clr G j)[j].no) := d9
                have HG9 := Lib.hid hg9
                clear own9 d9 hg9
                generalize (clr G j)[j].no = cj at *
                clear hjc
                go_wp2_with fail
                go_roundw
                case rel => exact ⟨j + 1, by omega, by go_num, HS2.out.cleared HG9.out (j * 3 + 2) (.bool false) HO9.out⟩
                case measure => simp [intOf]; omega
              · obtain rfl : j = gk := by omega
                have hjr : ¬ (j : Int) < 1 := by omega
                have r0 : wr.cell? ⟨w.heap.size + 1, 0, none⟩ = some (.slice none 0 0) := HS2.out.res.cell 0
                have r1 : wr.cell? ⟨w.heap.size + 1, 1, none⟩ = some (.int .i64 0) := HS2.out.res.cell 1
                have t0 : wr.frozen? ⟨w.heap.size + 1, 0, none⟩ = false := HS2.out.res.free 0
                have t1 : wr.frozen? ⟨w.heap.size + 1, 1, none⟩ = false := HS2.out.res.free 1
                have HP := Lib.hid ((HS2.out.res.put 0 (.slice Ag 1 cg)).put 1 (.int .i64 (1)))
                have HO9 := Lib.hid ((HS2.out.own.far (p := ⟨w.heap.size + 1, 0, none⟩) (by show w.heap.size + 1 < w.heap.size + 4; omega) (.slice Ag 1 cg)).far (p := ⟨w.heap.size + 1, 1, none⟩) (by show w.heap.size + 1 < w.heap.size + 4; omega) (.int .i64 (1)))
                have HB9 := Lib.hid ((HS2.out.bel.setCell (p := ⟨w.heap.size + 1, 0, none⟩) (by show w.heap.size ≤ w.heap.size + 1; omega) (.slice Ag 1 cg)).setCell (p := ⟨w.heap.size + 1, 1, none⟩) (by show w.heap.size ≤ w.heap.size + 1; omega) (.int .i64 (1)))
                clear HS2
                go_wp2_with fail
                exact bodyPost_ret (gEnd _ (w.heap.size + 1) _ _ _ rfl HP.out) rfl ⟨_, by rw [HKK.out, hgk], by rw [HKC.out]; exact ownC_down HO9.out (Nat.le_add_right _ 4), HB9.out⟩
          · have HGO : Hid (gCols L = M0) := by show _ = _; rw [HGC.out, if_neg hz]
            rw [← HGO.out] at HS HNO HVO
            have hm1 : 1 ≤ no := by omega
            obtain ⟨m0, hm0⟩ : ∃ m0, m0 = no := ⟨_, rfl⟩
            subst hm0
            obtain ⟨q, r, hq1, hq3, hq0, hmin, hr, hgk, hr0, hr3⟩ := keysP m0 K hm1 hK
            have hnz : ((m0 : Int) == 0) = false := by simp; omega
            have HGL : Hid ((gCols L).length = m0) := HNO
            have S8 := Lib.hid (HS.out.keyed (1 + r))
            have hgm := (gKeys_range m0 K hm1).2.1
            obtain ⟨Ag, hAg⟩ : ∃ Ag, Ag = Ao := ⟨_, rfl⟩
            obtain ⟨cg, hcg⟩ : ∃ cg, cg = co := ⟨_, rfl⟩
            subst hAg hcg
            go_wp2_with fail
            clear HS HNO HVO HGO HGC hmin
            generalize gCols L = G at *
            rw [HGL.out] at HKK HKC
            generalize gKeys m0 K = gk at *
            go_loopw [10] (fun i wr2 => ∃ j : Nat, j ≤ gk ∧ i = .int .i64 j ∧ Hid (GSt w A n c K wr2 (.slice Ag m0 cg) (1 + r) (clr G j))) (fun i _ => gk - (intOf i).toNat)
            case atStart => exact ⟨0, by omega, rfl, by rw [clr_zero]; exact S8.out⟩
            case round =>
              obtain ⟨j, hj, rfl, HS2⟩ := hrel
              clear S8
              have b0 : wr.cell? ⟨w.heap.size + 2, 0, none⟩ = some (.slice Ag m0 cg) := HS2.out.out.cell 0
              have b1 : wr.cell? ⟨w.heap.size + 2, 1, none⟩ = some (.int .i64 (1 + r)) := HS2.out.out.cell 1
              by_cases hlt2 : j < gk
              · have hjr : (j : Int) < 1 + r := by omega
                have hjm : (j : Int) < (m0 : Int) := by omega
                have hjc : j < (clr G j).length := by rw [clr_len, HGL.out]; omega
                have hjG : j < G.length := by rw [HGL.out]; omega
                obtain ⟨g, c9, hv9, hg9, _, e9, d9, own9⟩ := ownC_put HS2.out.own j hjc 2 (by omega) (.bool false) ⟨(clr G j)[j].nm, (clr G j)[j].k, false⟩ rfl
                injection hv9 with hv9 hx1 hx2
                clear hx1 hx2
                subst hv9
                have HO9 := Lib.hid own9
                rw [clr_step G j hjG] at HO9
                have d9' : wr.cell? ⟨g, j * 3 + 2, none⟩ = some (.bool (clr G j)[j].no) := d9
                have HG9 := Lib.hid hg9
                clear own9 d9 hg9
                generalize (clr G j)[j].no = cj at *
                clear hjc
                go_wp2_with fail
                go_roundw
                case rel => exact ⟨j + 1, by omega, by go_num, HS2.out.cleared HG9.out (j * 3 + 2) (.bool false) HO9.out⟩
                case measure => simp [intOf]; omega
              · obtain rfl : j = gk := by omega
                have hjr : ¬ (j : Int) < 1 + r := by omega
                have r0 : wr.cell? ⟨w.heap.size + 1, 0, none⟩ = some (.slice none 0 0) := HS2.out.res.cell 0
                have r1 : wr.cell? ⟨w.heap.size + 1, 1, none⟩ = some (.int .i64 0) := HS2.out.res.cell 1
                have t0 : wr.frozen? ⟨w.heap.size + 1, 0, none⟩ = false := HS2.out.res.free 0
                have t1 : wr.frozen? ⟨w.heap.size + 1, 1, none⟩ = false := HS2.out.res.free 1
                have HP := Lib.hid ((HS2.out.res.put 0 (.slice Ag m0 cg)).put 1 (.int .i64 (1 + r)))
                have HO9 := Lib.hid ((HS2.out.own.far (p := ⟨w.heap.size + 1, 0, none⟩) (by show w.heap.size + 1 < w.heap.size + 4; omega) (.slice Ag m0 cg)).far (p := ⟨w.heap.size + 1, 1, none⟩) (by show w.heap.size + 1 < w.heap.size + 4; omega) (.int .i64 (1 + r)))
                have HB9 := Lib.hid ((HS2.out.bel.setCell (p := ⟨w.heap.size + 1, 0, none⟩) (by show w.heap.size ≤ w.heap.size + 1; omega) (.slice Ag m0 cg)).setCell (p := ⟨w.heap.size + 1, 1, none⟩) (by show w.heap.size ≤ w.heap.size + 1; omega) (.int .i64 (1 + r)))
                clear HS2
                go_wp2_with fail
                exact bodyPost_ret (gEnd _ (w.heap.size + 1) _ _ _ rfl HP.out) rfl ⟨_, by rw [HKK.out, hgk], by rw [HKC.out]; exact ownC_down HO9.out (Nat.le_add_right _ 4), HB9.out⟩
    · obtain rfl : k = n := by omega
      have HT : Hid (gTo L k = gTo L (min L.length 6)) := by show _ = _; rw [HN.out, Nat.min_eq_left (by omega)]
      rw [HT.out] at HS HNO HVO
      have HGC : Hid (gCols L = if (gTo L (min L.length 6)).length = 0 then gOne else gTo L (min L.length 6)) := rfl
      have HKK : Hid (gdK L K = gKeys (gCols L).length K) := rfl
      have HKC : Hid (gdC L K = clr (gCols L) (gKeys (gCols L).length K)) := rfl
      have HGR := Lib.hid (gCols_cols L).2
      clear HT
      obtain ⟨M0, hM0⟩ : ∃ M0, gTo L (min L.length 6) = M0 := ⟨_, rfl⟩
      rw [hM0] at HS HNO HVO HGC
      rw [HNO.out] at HGC
      clear hM0
      have o0 : wr.cell? ⟨w.heap.size + 2, 0, none⟩ = some (.slice Ao no co) := HS.out.out.cell 0
      have o1 : wr.cell? ⟨w.heap.size + 2, 1, none⟩ = some (.int .i64 0) := HS.out.out.cell 1
      have f1 : wr.frozen? ⟨w.heap.size + 2, 1, none⟩ = false := HS.out.out.free 1
      by_cases hK : K < 0
      · by_cases hz : no = 0
        · subst hz
          have hM0 : M0 = [] := List.eq_nil_of_length_eq_zero HNO.out
          subst hM0
          have HGO : Hid (gCols L = gOne) := by show _ = _; rw [HGC.out, if_pos rfl]
          have hmin1 : ∀ ts t W, Sem.run Tryz.prog (Builtin.min_ ts t #[.int .i64 1, .int .i64 3]) W = .ok (.int .i64 1) W := fun ts t W => by rw [run_min_int2]; simp
          have HAP := Lib.hid (appC wr wr.heap.size rfl (w.heap.size + 4) (.slice Ao 0 co) [] ⟨⟨#[105, 100]⟩, 2, false⟩ HS.out.own HS.out.big (by simp))
          go_wp2_with (at_builtin; refine wpList_app rfl _ _ 25 25 rfl (.slice Ao 0 co) (.slice (some ⟨wr.heap.size, 0, none⟩) 1 1) rfl rfl ?_; obtain ⟨R, W', hrun, hmade⟩ := HAP.out; refine ⟨R, W', hrun, ?_⟩; obtain ⟨Ag, m0, cg, hR, HN7, _, _, _, _⟩ := ownC_open hmade.1; have hm1 : 1 = m0 := HN7.out; subst hm1; subst hR; have HM := Lib.hid hmade; have hO7 := HS.out.out.below hmade.2 (by omega); have g0 : W'.frozen? ⟨w.heap.size + 2, 0, none⟩ = false := hO7.free 0; have g1 : W'.frozen? ⟨w.heap.size + 2, 1, none⟩ = false := hO7.free 1; have g2 : W'.cell? ⟨w.heap.size + 2, 0, none⟩ = some (.slice Ao 0 co) := hO7.cell 0; have g3 : W'.cell? ⟨w.heap.size + 2, 1, none⟩ = some (.int .i64 0) := hO7.cell 1; have g4 : W'.cell? ⟨w.heap.size, 1, none⟩ = some (.int .i64 K) := (HS.out.prm.below hmade.2 (by omega)).cell 1; clear hrun hmade HAP hO7 HN7)
          have HGL : Hid ((gCols L).length = 1) := by show _ = _; rw [HGO.out]; rfl
          have hgk : ((gKeys 1 K : Nat) : Int) = 1 := by
            have := gKeys_range 1 K (by omega)
            omega
          have S8 := Lib.hid ((HS.out.stored HM.out.1 HM.out.2).keyed 1)
          have hgm := (gKeys_range 1 K (by omega)).2.1
          have e0 : [] ++ [(⟨⟨#[105, 100]⟩, 2, false⟩ : Cl)] = gCols L := by rw [HGO.out]; rfl
          rw [e0] at S8
          clear e0 HM HS HNO HVO HGO HGC hmin1
          generalize gCols L = G at *
          rw [HGL.out] at HKK HKC
          generalize gKeys 1 K = gk at *
          go_loopw [10] (fun i wr2 => ∃ j : Nat, j ≤ gk ∧ i = .int .i64 j ∧ Hid (GSt w A k c K wr2 (.slice Ag 1 cg) (1) (clr G j))) (fun i _ => gk - (intOf i).toNat)
          case atStart => exact ⟨0, by omega, rfl, by rw [clr_zero]; exact S8.out⟩
          case round =>
            obtain ⟨j, hj, rfl, HS2⟩ := hrel
            clear S8
            have b0 : wr.cell? ⟨w.heap.size + 2, 0, none⟩ = some (.slice Ag 1 cg) := HS2.out.out.cell 0
            have b1 : wr.cell? ⟨w.heap.size + 2, 1, none⟩ = some (.int .i64 (1)) := HS2.out.out.cell 1
            by_cases hlt2 : j < gk
            · have hjr : (j : Int) < 1 := by omega
              have hjm : (j : Int) < (1 : Int) := by omega
              have hjc : j < (clr G j).length := by rw [clr_len, HGL.out]; omega
              have hjG : j < G.length := by rw [HGL.out]; omega
              obtain ⟨g, c9, hv9, hg9, _, e9, d9, own9⟩ := ownC_put HS2.out.own j hjc 2 (by omega) (.bool false) ⟨(clr G j)[j].nm, (clr G j)[j].k, false⟩ rfl
              injection hv9 with hv9 hx1 hx2
              clear hx1 hx2
              subst hv9
              have HO9 := Lib.hid own9
              rw [clr_step G j hjG] at HO9
              have d9' : wr.cell? ⟨g, j * 3 + 2, none⟩ = some (.bool (clr G j)[j].no) := d9
              have HG9 := Lib.hid hg9
              clear own9 d9 hg9
              generalize (clr G j)[j].no = cj at *
              clear hjc
              go_wp2_with fail
              go_roundw
              case rel => exact ⟨j + 1, by omega, by go_num, HS2.out.cleared HG9.out (j * 3 + 2) (.bool false) HO9.out⟩
              case measure => simp [intOf]; omega
            · obtain rfl : j = gk := by omega
              have hjr : ¬ (j : Int) < 1 := by omega
              have r0 : wr.cell? ⟨w.heap.size + 1, 0, none⟩ = some (.slice none 0 0) := HS2.out.res.cell 0
              have r1 : wr.cell? ⟨w.heap.size + 1, 1, none⟩ = some (.int .i64 0) := HS2.out.res.cell 1
              have t0 : wr.frozen? ⟨w.heap.size + 1, 0, none⟩ = false := HS2.out.res.free 0
              have t1 : wr.frozen? ⟨w.heap.size + 1, 1, none⟩ = false := HS2.out.res.free 1
              have HP := Lib.hid ((HS2.out.res.put 0 (.slice Ag 1 cg)).put 1 (.int .i64 (1)))
              have HO9 := Lib.hid ((HS2.out.own.far (p := ⟨w.heap.size + 1, 0, none⟩) (by show w.heap.size + 1 < w.heap.size + 4; omega) (.slice Ag 1 cg)).far (p := ⟨w.heap.size + 1, 1, none⟩) (by show w.heap.size + 1 < w.heap.size + 4; omega) (.int .i64 (1)))
              have HB9 := Lib.hid ((HS2.out.bel.setCell (p := ⟨w.heap.size + 1, 0, none⟩) (by show w.heap.size ≤ w.heap.size + 1; omega) (.slice Ag 1 cg)).setCell (p := ⟨w.heap.size + 1, 1, none⟩) (by show w.heap.size ≤ w.heap.size + 1; omega) (.int .i64 (1)))
              clear HS2
              go_wp2_with fail
              exact bodyPost_ret (gEnd _ (w.heap.size + 1) _ _ _ rfl HP.out) rfl ⟨_, by rw [HKK.out, hgk], by rw [HKC.out]; exact ownC_down HO9.out (Nat.le_add_right _ 4), HB9.out⟩
        · have HGO : Hid (gCols L = M0) := by show _ = _; rw [HGC.out, if_neg hz]
          rw [← HGO.out] at HS HNO HVO
          have hm1 : 1 ≤ no := by omega
          obtain ⟨m0, hm0⟩ : ∃ m0, m0 = no := ⟨_, rfl⟩
          subst hm0
          obtain ⟨q, r, hq1, hq3, hq0, hmin, hr, hgk, hr0, hr3⟩ := keysN m0 K hm1 hK
          have hnz : ((m0 : Int) == 0) = false := by simp; omega
          have HGL : Hid ((gCols L).length = m0) := HNO
          have S8 := Lib.hid (HS.out.keyed (1 + r))
          have hgm := (gKeys_range m0 K hm1).2.1
          obtain ⟨Ag, hAg⟩ : ∃ Ag, Ag = Ao := ⟨_, rfl⟩
          obtain ⟨cg, hcg⟩ : ∃ cg, cg = co := ⟨_, rfl⟩
          subst hAg hcg
          go_wp2_with fail
          clear HS HNO HVO HGO HGC hmin
          generalize gCols L = G at *
          rw [HGL.out] at HKK HKC
          generalize gKeys m0 K = gk at *
          go_loopw [10] (fun i wr2 => ∃ j : Nat, j ≤ gk ∧ i = .int .i64 j ∧ Hid (GSt w A k c K wr2 (.slice Ag m0 cg) (1 + r) (clr G j))) (fun i _ => gk - (intOf i).toNat)
          case atStart => exact ⟨0, by omega, rfl, by rw [clr_zero]; exact S8.out⟩
          case round =>
            obtain ⟨j, hj, rfl, HS2⟩ := hrel
            clear S8
            have b0 : wr.cell? ⟨w.heap.size + 2, 0, none⟩ = some (.slice Ag m0 cg) := HS2.out.out.cell 0
            have b1 : wr.cell? ⟨w.heap.size + 2, 1, none⟩ = some (.int .i64 (1 + r)) := HS2.out.out.cell 1
            by_cases hlt2 : j < gk
            · have hjr : (j : Int) < 1 + r := by omega
              have hjm : (j : Int) < (m0 : Int) := by omega
              have hjc : j < (clr G j).length := by rw [clr_len, HGL.out]; omega
              have hjG : j < G.length := by rw [HGL.out]; omega
              obtain ⟨g, c9, hv9, hg9, _, e9, d9, own9⟩ := ownC_put HS2.out.own j hjc 2 (by omega) (.bool false) ⟨(clr G j)[j].nm, (clr G j)[j].k, false⟩ rfl
              injection hv9 with hv9 hx1 hx2
              clear hx1 hx2
              subst hv9
              have HO9 := Lib.hid own9
              rw [clr_step G j hjG] at HO9
              have d9' : wr.cell? ⟨g, j * 3 + 2, none⟩ = some (.bool (clr G j)[j].no) := d9
              have HG9 := Lib.hid hg9
              clear own9 d9 hg9
              generalize (clr G j)[j].no = cj at *
              clear hjc
              go_wp2_with fail
              go_roundw
              case rel => exact ⟨j + 1, by omega, by go_num, HS2.out.cleared HG9.out (j * 3 + 2) (.bool false) HO9.out⟩
              case measure => simp [intOf]; omega
            · obtain rfl : j = gk := by omega
              have hjr : ¬ (j : Int) < 1 + r := by omega
              have r0 : wr.cell? ⟨w.heap.size + 1, 0, none⟩ = some (.slice none 0 0) := HS2.out.res.cell 0
              have r1 : wr.cell? ⟨w.heap.size + 1, 1, none⟩ = some (.int .i64 0) := HS2.out.res.cell 1
              have t0 : wr.frozen? ⟨w.heap.size + 1, 0, none⟩ = false := HS2.out.res.free 0
              have t1 : wr.frozen? ⟨w.heap.size + 1, 1, none⟩ = false := HS2.out.res.free 1
              have HP := Lib.hid ((HS2.out.res.put 0 (.slice Ag m0 cg)).put 1 (.int .i64 (1 + r)))
              have HO9 := Lib.hid ((HS2.out.own.far (p := ⟨w.heap.size + 1, 0, none⟩) (by show w.heap.size + 1 < w.heap.size + 4; omega) (.slice Ag m0 cg)).far (p := ⟨w.heap.size + 1, 1, none⟩) (by show w.heap.size + 1 < w.heap.size + 4; omega) (.int .i64 (1 + r)))
              have HB9 := Lib.hid ((HS2.out.bel.setCell (p := ⟨w.heap.size + 1, 0, none⟩) (by show w.heap.size ≤ w.heap.size + 1; omega) (.slice Ag m0 cg)).setCell (p := ⟨w.heap.size + 1, 1, none⟩) (by show w.heap.size ≤ w.heap.size + 1; omega) (.int .i64 (1 + r)))
              clear HS2
              go_wp2_with fail
              exact bodyPost_ret (gEnd _ (w.heap.size + 1) _ _ _ rfl HP.out) rfl ⟨_, by rw [HKK.out, hgk], by rw [HKC.out]; exact ownC_down HO9.out (Nat.le_add_right _ 4), HB9.out⟩
      · by_cases hz : no = 0
        · subst hz
          have hM0 : M0 = [] := List.eq_nil_of_length_eq_zero HNO.out
          subst hM0
          have HGO : Hid (gCols L = gOne) := by show _ = _; rw [HGC.out, if_pos rfl]
          have hmin1 : ∀ ts t W, Sem.run Tryz.prog (Builtin.min_ ts t #[.int .i64 1, .int .i64 3]) W = .ok (.int .i64 1) W := fun ts t W => by rw [run_min_int2]; simp
          have HAP := Lib.hid (appC wr wr.heap.size rfl (w.heap.size + 4) (.slice Ao 0 co) [] ⟨⟨#[105, 100]⟩, 2, false⟩ HS.out.own HS.out.big (by simp))
          go_wp2_with (at_builtin; refine wpList_app rfl _ _ 25 25 rfl (.slice Ao 0 co) (.slice (some ⟨wr.heap.size, 0, none⟩) 1 1) rfl rfl ?_; obtain ⟨R, W', hrun, hmade⟩ := HAP.out; refine ⟨R, W', hrun, ?_⟩; obtain ⟨Ag, m0, cg, hR, HN7, _, _, _, _⟩ := ownC_open hmade.1; have hm1 : 1 = m0 := HN7.out; subst hm1; subst hR; have HM := Lib.hid hmade; have hO7 := HS.out.out.below hmade.2 (by omega); have g0 : W'.frozen? ⟨w.heap.size + 2, 0, none⟩ = false := hO7.free 0; have g1 : W'.frozen? ⟨w.heap.size + 2, 1, none⟩ = false := hO7.free 1; have g2 : W'.cell? ⟨w.heap.size + 2, 0, none⟩ = some (.slice Ao 0 co) := hO7.cell 0; have g3 : W'.cell? ⟨w.heap.size + 2, 1, none⟩ = some (.int .i64 0) := hO7.cell 1; have g4 : W'.cell? ⟨w.heap.size, 1, none⟩ = some (.int .i64 K) := (HS.out.prm.below hmade.2 (by omega)).cell 1; clear hrun hmade HAP hO7 HN7)
          have HGL : Hid ((gCols L).length = 1) := by show _ = _; rw [HGO.out]; rfl
          have hgk : ((gKeys 1 K : Nat) : Int) = 1 := by
            have := gKeys_range 1 K (by omega)
            omega
          have S8 := Lib.hid ((HS.out.stored HM.out.1 HM.out.2).keyed 1)
          have hgm := (gKeys_range 1 K (by omega)).2.1
          have e0 : [] ++ [(⟨⟨#[105, 100]⟩, 2, false⟩ : Cl)] = gCols L := by rw [HGO.out]; rfl
          rw [e0] at S8
          clear e0 HM HS HNO HVO HGO HGC hmin1
          generalize gCols L = G at *
          rw [HGL.out] at HKK HKC
          generalize gKeys 1 K = gk at *
          go_loopw [10] (fun i wr2 => ∃ j : Nat, j ≤ gk ∧ i = .int .i64 j ∧ Hid (GSt w A k c K wr2 (.slice Ag 1 cg) (1) (clr G j))) (fun i _ => gk - (intOf i).toNat)
          case atStart => exact ⟨0, by omega, rfl, by rw [clr_zero]; exact S8.out⟩
          case round =>
            obtain ⟨j, hj, rfl, HS2⟩ := hrel
            clear S8
            have b0 : wr.cell? ⟨w.heap.size + 2, 0, none⟩ = some (.slice Ag 1 cg) := HS2.out.out.cell 0
            have b1 : wr.cell? ⟨w.heap.size + 2, 1, none⟩ = some (.int .i64 (1)) := HS2.out.out.cell 1
            by_cases hlt2 : j < gk
            · have hjr : (j : Int) < 1 := by omega
              have hjm : (j : Int) < (1 : Int) := by omega
              have hjc : j < (clr G j).length := by rw [clr_len, HGL.out]; omega
              have hjG : j < G.length := by rw [HGL.out]; omega
              obtain ⟨g, c9, hv9, hg9, _, e9, d9, own9⟩ := ownC_put HS2.out.own j hjc 2 (by omega) (.bool false) ⟨(clr G j)[j].nm, (clr G j)[j].k, false⟩ rfl
              injection hv9 with hv9 hx1 hx2
              clear hx1 hx2
              subst hv9
              have HO9 := Lib.hid own9
              rw [clr_step G j hjG] at HO9
              have d9' : wr.cell? ⟨g, j * 3 + 2, none⟩ = some (.bool (clr G j)[j].no) := d9
              have HG9 := Lib.hid hg9
              clear own9 d9 hg9
              generalize (clr G j)[j].no = cj at *
              clear hjc
              go_wp2_with fail
              go_roundw
              case rel => exact ⟨j + 1, by omega, by go_num, HS2.out.cleared HG9.out (j * 3 + 2) (.bool false) HO9.out⟩
              case measure => simp [intOf]; omega
            · obtain rfl : j = gk := by omega
              have hjr : ¬ (j : Int) < 1 := by omega
              have r0 : wr.cell? ⟨w.heap.size + 1, 0, none⟩ = some (.slice none 0 0) := HS2.out.res.cell 0
              have r1 : wr.cell? ⟨w.heap.size + 1, 1, none⟩ = some (.int .i64 0) := HS2.out.res.cell 1
              have t0 : wr.frozen? ⟨w.heap.size + 1, 0, none⟩ = false := HS2.out.res.free 0
              have t1 : wr.frozen? ⟨w.heap.size + 1, 1, none⟩ = false := HS2.out.res.free 1
              have HP := Lib.hid ((HS2.out.res.put 0 (.slice Ag 1 cg)).put 1 (.int .i64 (1)))
              have HO9 := Lib.hid ((HS2.out.own.far (p := ⟨w.heap.size + 1, 0, none⟩) (by show w.heap.size + 1 < w.heap.size + 4; omega) (.slice Ag 1 cg)).far (p := ⟨w.heap.size + 1, 1, none⟩) (by show w.heap.size + 1 < w.heap.size + 4; omega) (.int .i64 (1)))
              have HB9 := Lib.hid ((HS2.out.bel.setCell (p := ⟨w.heap.size + 1, 0, none⟩) (by show w.heap.size ≤ w.heap.size + 1; omega) (.slice Ag 1 cg)).setCell (p := ⟨w.heap.size + 1, 1, none⟩) (by show w.heap.size ≤ w.heap.size + 1; omega) (.int .i64 (1)))
              clear HS2
              go_wp2_with fail
              exact bodyPost_ret (gEnd _ (w.heap.size + 1) _ _ _ rfl HP.out) rfl ⟨_, by rw [HKK.out, hgk], by rw [HKC.out]; exact ownC_down HO9.out (Nat.le_add_right _ 4), HB9.out⟩
        · have HGO : Hid (gCols L = M0) := by show _ = _; rw [HGC.out, if_neg hz]
          rw [← HGO.out] at HS HNO HVO
          have hm1 : 1 ≤ no := by omega
          obtain ⟨m0, hm0⟩ : ∃ m0, m0 = no := ⟨_, rfl⟩
          subst hm0
          obtain ⟨q, r, hq1, hq3, hq0, hmin, hr, hgk, hr0, hr3⟩ := keysP m0 K hm1 hK
          have hnz : ((m0 : Int) == 0) = false := by simp; omega
          have HGL : Hid ((gCols L).length = m0) := HNO
          have S8 := Lib.hid (HS.out.keyed (1 + r))
          have hgm := (gKeys_range m0 K hm1).2.1
          obtain ⟨Ag, hAg⟩ : ∃ Ag, Ag = Ao := ⟨_, rfl⟩
          obtain ⟨cg, hcg⟩ : ∃ cg, cg = co := ⟨_, rfl⟩
          subst hAg hcg
          go_wp2_with fail
          clear HS HNO HVO HGO HGC hmin
          generalize gCols L = G at *
          rw [HGL.out] at HKK HKC
          generalize gKeys m0 K = gk at *
          go_loopw [10] (fun i wr2 => ∃ j : Nat, j ≤ gk ∧ i = .int .i64 j ∧ Hid (GSt w A k c K wr2 (.slice Ag m0 cg) (1 + r) (clr G j))) (fun i _ => gk - (intOf i).toNat)
          case atStart => exact ⟨0, by omega, rfl, by rw [clr_zero]; exact S8.out⟩
          case round =>
            obtain ⟨j, hj, rfl, HS2⟩ := hrel
            clear S8
            have b0 : wr.cell? ⟨w.heap.size + 2, 0, none⟩ = some (.slice Ag m0 cg) := HS2.out.out.cell 0
            have b1 : wr.cell? ⟨w.heap.size + 2, 1, none⟩ = some (.int .i64 (1 + r)) := HS2.out.out.cell 1
            by_cases hlt2 : j < gk
            · have hjr : (j : Int) < 1 + r := by omega
              have hjm : (j : Int) < (m0 : Int) := by omega
              have hjc : j < (clr G j).length := by rw [clr_len, HGL.out]; omega
              have hjG : j < G.length := by rw [HGL.out]; omega
              obtain ⟨g, c9, hv9, hg9, _, e9, d9, own9⟩ := ownC_put HS2.out.own j hjc 2 (by omega) (.bool false) ⟨(clr G j)[j].nm, (clr G j)[j].k, false⟩ rfl
              injection hv9 with hv9 hx1 hx2
              clear hx1 hx2
              subst hv9
              have HO9 := Lib.hid own9
              rw [clr_step G j hjG] at HO9
              have d9' : wr.cell? ⟨g, j * 3 + 2, none⟩ = some (.bool (clr G j)[j].no) := d9
              have HG9 := Lib.hid hg9
              clear own9 d9 hg9
              generalize (clr G j)[j].no = cj at *
              clear hjc
              go_wp2_with fail
              go_roundw
              case rel => exact ⟨j + 1, by omega, by go_num, HS2.out.cleared HG9.out (j * 3 + 2) (.bool false) HO9.out⟩
              case measure => simp [intOf]; omega
            · obtain rfl : j = gk := by omega
              have hjr : ¬ (j : Int) < 1 + r := by omega
              have r0 : wr.cell? ⟨w.heap.size + 1, 0, none⟩ = some (.slice none 0 0) := HS2.out.res.cell 0
              have r1 : wr.cell? ⟨w.heap.size + 1, 1, none⟩ = some (.int .i64 0) := HS2.out.res.cell 1
              have t0 : wr.frozen? ⟨w.heap.size + 1, 0, none⟩ = false := HS2.out.res.free 0
              have t1 : wr.frozen? ⟨w.heap.size + 1, 1, none⟩ = false := HS2.out.res.free 1
              have HP := Lib.hid ((HS2.out.res.put 0 (.slice Ag m0 cg)).put 1 (.int .i64 (1 + r)))
              have HO9 := Lib.hid ((HS2.out.own.far (p := ⟨w.heap.size + 1, 0, none⟩) (by show w.heap.size + 1 < w.heap.size + 4; omega) (.slice Ag m0 cg)).far (p := ⟨w.heap.size + 1, 1, none⟩) (by show w.heap.size + 1 < w.heap.size + 4; omega) (.int .i64 (1 + r)))
              have HB9 := Lib.hid ((HS2.out.bel.setCell (p := ⟨w.heap.size + 1, 0, none⟩) (by show w.heap.size ≤ w.heap.size + 1; omega) (.slice Ag m0 cg)).setCell (p := ⟨w.heap.size + 1, 1, none⟩) (by show w.heap.size ≤ w.heap.size + 1; omega) (.int .i64 (1 + r)))
              clear HS2
              go_wp2_with fail
              exact bodyPost_ret (gEnd _ (w.heap.size + 1) _ _ _ rfl HP.out) rfl ⟨_, by rw [HKK.out, hgk], by rw [HKC.out]; exact ownC_down HO9.out (Nat.le_add_right _ 4), HB9.out⟩
end Go.Proofs.YtlhfdhmmdnkojaaGreatDoor
namespace Go.Proofs.YtlhfdhmmdnkojaaGreatDoor
open Go.RowKit Dg
set_option maxRecDepth 100000
def Tb.row (x : Tb) : List Value := [.string x.nm, .slice x.A x.n x.c, .int .i64 x.K]
theorem infoT : (Tryz.prog.info? 79).map (fun i => (i.zero, i.size, i.bytes)) = some (some (.agg #[.string ⟨#[]⟩, .slice none 0 0, .int .i64 0]), 3, 48) := by kernel_rfl
/-- Columns in a row of the call's own. -/
def OwnT (B : Nat) (w : World) (v : Value) (L : List Tb) : Prop := w.ownsRow B 79 3 v L.length (L.flatMap Tb.row)
theorem ownT_nil (B : Nat) (w : World) : OwnT B w (.slice none 0 0) [] := World.ownsRow_nil _ _ _ _
theorem OwnT.below {B : Nat} {w w' : World} {v : Value} {L : List Tb} (h : OwnT B w v L) (hb : Below w.heap.size w w') : OwnT B w' v L := by
  rcases h.2 with ⟨hv, hn⟩ | ⟨g, cap, cur, hv, hg, hh, hc, hcm, hsz, ht⟩
  · exact ⟨h.1, .inl ⟨hv, hn⟩⟩
  · exact ⟨h.1, .inr ⟨g, cap, cur, hv, hg, Has.below (t := 79) (cs := cur) hh hb (Has.lt (t := 79) (cs := cur) hh), hc, hcm, hsz, ht⟩⟩
theorem tflat_len (L : List Tb) : (L.flatMap Tb.row).length = L.length * 3 := by
  induction L with
  | nil => rfl
  | cons x L ih => rw [List.flatMap_cons, List.length_append, ih]; simp [Tb.row]; omega
theorem tflat_get (L : List Tb) (i j : Nat) (h : i < L.length) (hj : j < 3) : (L.flatMap Tb.row)[i * 3 + j]? = L[i].row[j]? := by
  induction L generalizing i with
  | nil => simp at h
  | cons x L ih =>
    rw [List.flatMap_cons]
    rcases i with _ | i
    · rw [List.getElem?_append_left (by simp [Tb.row]; omega)]
      simp
    · rw [List.getElem?_append_right (by simp [Tb.row]; omega)]
      have e : (i + 1) * 3 + j - x.row.length = i * 3 + j := by simp [Tb.row]; omega
      rw [e, ih i (by simpa using h)]
      simp
theorem ownT_row {B : Nat} {w : World} {v : Value} {L : List Tb} (h : OwnT B w v L) : ∃ A c, v = .slice A L.length c ∧ L.length ≤ c ∧ c ≤ maxLen ∧ TRow w A L ∧ (A = none → c = 0) := by
  rcases h.2 with ⟨hv, hn⟩ | ⟨g, cap, cur, hv, _, hh, hc, hcm, hsz, ht⟩
  · obtain rfl := List.eq_nil_of_length_eq_zero hn
    exact ⟨none, 0, hv, Nat.le_refl _, Nat.zero_le _, fun h => absurd rfl h, fun _ => rfl⟩
  · refine ⟨_, _, hv, hc, hcm, fun _ => ⟨g, 0, rfl, fun i hi => ?_⟩, fun e => by cases e⟩
    have hq : ∀ j, j < 3 → w.cell? ⟨g, 0 + (i * 3 + j), none⟩ = L[i].row[j]? := fun j hj => by
      rw [Nat.zero_add, Has.cell (t := 79) (cs := cur) hh, ← tflat_get L i j hi hj, ← ht, List.getElem?_take, if_pos (by omega)]
      simp
    have q0 := hq 0 (by omega)
    have q1 := hq 1 (by omega)
    have q2 := hq 2 (by omega)
    exact ⟨q0, q1, q2⟩
/-- One column is put behind a row of the call's own. -/
theorem appT (w : World) (g : Nat) (hg0 : g = w.heap.size) (B : Nat) (v : Value) (L : List Tb) (x : Tb) (h : OwnT B w v L) (hB : B ≤ w.heap.size) (hl : L.length ≤ 1000) :
    ∃ R W', (Builtin.append_ #[22, 22] 22 #[v, .slice (some ⟨g, 0, none⟩) 1 1]).run Tryz.prog (w.alloc (.cells #[.string x.nm, .slice x.A x.n x.c, .int .i64 x.K] 79)) = .ok R W' ∧ OwnT B W' R (L ++ [x]) ∧ Below B w W' := by
  subst hg0
  obtain ⟨i0, hi, hz0, hz1, hz2⟩ := info_parts infoT
  obtain ⟨R, W', hrun, hown, hg, _⟩ := run_append_own (P := Tryz.prog) (w.alloc (.cells x.row.toArray 79)) B 22 22 79 i0 _ 3 48 Tryz.underlying22 hi hz0 hz1 hz2 rfl (by decide) v L.length (L.flatMap Tb.row) (h.alloc _)
    ⟨w.heap.size, 0, none⟩ 1 1 x.row rfl (fun j u hj => by
      have := (Has.new w 79 x.row.toArray).cell j
      rw [List.getElem?_toArray] at this
      rw [Addr.add_lit, Nat.zero_add]
      exact this.trans hj) (fun u hu => by simp [Tb.row] at hu; rcases hu with rfl | rfl | rfl <;> rfl) (by unfold maxLen; omega) (by omega) (by simp; omega)
  refine ⟨R, W', hrun, ?_, ?_⟩
  · unfold OwnT; rw [List.flatMap_append, List.length_append]; simpa using hown
  · exact ((Below.refl B w).alloc hB _).grown hg (by simp; omega) fun k hk => (World.ownsRow.lt h k hk).1
theorem trow_cell {w : World} {b off : Nat} {M : List Tb} (h : ∀ i (h : i < M.length), w.cell? ⟨b, off + i * 3, none⟩ = some (.string M[i].nm) ∧ w.cell? ⟨b, off + i * 3 + 1, none⟩ = some (.slice M[i].A M[i].n M[i].c) ∧ w.cell? ⟨b, off + i * 3 + 2, none⟩ = some (.int .i64 M[i].K)) (j : Nat) (u : Value) (hj : (M.flatMap Tb.row)[j]? = some u) : w.cell? ⟨b, off + j, none⟩ = some u := by
  have hjl : j < M.length * 3 := by
    have := (List.getElem?_eq_some_iff.1 hj).1
    rwa [tflat_len] at this
  have hi : j / 3 < M.length := by omega
  have e : j = j / 3 * 3 + j % 3 := by omega
  have hr : j % 3 = 0 ∨ j % 3 = 1 ∨ j % 3 = 2 := by omega
  rw [e, tflat_get M (j / 3) (j % 3) hi (by omega)] at hj
  obtain ⟨h0, h1, h2⟩ := h (j / 3) hi
  rw [e]
  rcases hr with hr | hr | hr <;> rw [hr] at hj ⊢
  · rw [← hj]; exact h0
  · rw [← hj]; exact h1
  · rw [← hj]; exact h2
/-- A row of columns is put behind one of the call's own. -/
theorem appTs (w : World) (B : Nat) (v : Value) (L : List Tb) (h : OwnT B w v L) (hB : B ≤ w.heap.size) (A : Option Addr) (M : List Tb) (n c : Nat) (hn : M.length = n) (hA : TRow w A M) (h0 : A = none → c = 0) (hl : L.length + n ≤ 1000) :
    ∃ R W', (Builtin.append_ #[22, 22] 22 #[v, .slice A n c]).run Tryz.prog w = .ok R W' ∧ OwnT B W' R (L ++ M) ∧ Below B w W' := by
  subst hn
  obtain ⟨i0, hi, hz0, hz1, hz2⟩ := info_parts infoT
  by_cases hM : M = []
  · subst hM
    rcases A with _ | a
    · rw [h0 rfl, List.append_nil]
      exact ⟨v, w, run_append_owned_none w B 22 22 79 i0 3 Tryz.underlying22 hi v _ _ h, h, Below.refl _ _⟩
    · obtain ⟨R, W', hrun, hown, hg, _⟩ := run_append_own (P := Tryz.prog) w B 22 22 79 i0 _ 3 48 Tryz.underlying22 hi hz0 hz1 hz2 rfl (by decide) v L.length (L.flatMap Tb.row) h
        a 0 c [] rfl (fun j u hj => by simp at hj) (fun u hu => by cases hu) (by unfold maxLen; omega) (by omega) hB
      refine ⟨R, W', hrun, ?_, (Below.refl B w).grown hg hB fun k hk => (World.ownsRow.lt h k hk).1⟩
      unfold OwnT; simpa using hown
  · obtain ⟨b, off, rfl, hc⟩ := hA hM
    obtain ⟨R, W', hrun, hown, hg, _⟩ := run_append_own (P := Tryz.prog) w B 22 22 79 i0 _ 3 48 Tryz.underlying22 hi hz0 hz1 hz2 rfl (by decide) v L.length (L.flatMap Tb.row) h
      ⟨b, off, none⟩ M.length c (M.flatMap Tb.row) (by rw [tflat_len]) (fun j u hj => by rw [Addr.add_lit]; exact trow_cell hc j u hj) (fun u hu => by
        obtain ⟨x, _, hx⟩ := List.mem_flatMap.1 hu
        simp [Tb.row] at hx; rcases hx with rfl | rfl | rfl <;> rfl) (by unfold maxLen; omega) (by omega) hB
    refine ⟨R, W', hrun, ?_, (Below.refl B w).grown hg hB fun k hk => (World.ownsRow.lt h k hk).1⟩
    unfold OwnT; rw [List.flatMap_append, List.length_append]; exact hown
/-- A row of the call's own, its length under a letter. -/
theorem ownT_open {B : Nat} {w : World} {v : Value} {L : List Tb} (h : OwnT B w v L) : ∃ A n c, v = .slice A n c ∧ Hid (L.length = n) ∧ n ≤ c ∧ c ≤ maxLen ∧ Hid (TRow w A L) ∧ Hid (A = none → c = 0) := by
  obtain ⟨A, c, e, h1, h2, h3, h4⟩ := ownT_row h
  exact ⟨A, L.length, c, e, rfl, h1, h2, h3, h4⟩
theorem tflat_set (L : List Tb) (i j : Nat) (u : Value) (x : Tb) (hi : i < L.length) (hj : j < 3) (hx : x.row = L[i].row.set j u) : (L.flatMap Tb.row).set (i * 3 + j) u = (L.set i x).flatMap Tb.row := by
  induction L generalizing i with
  | nil => simp at hi
  | cons y L ih =>
    rcases i with _ | i
    · simp only [List.getElem_cons_zero] at hx
      rw [List.flatMap_cons, List.set_cons_zero, List.flatMap_cons, hx, Nat.zero_mul, Nat.zero_add]
      rw [List.set_append_left _ _ (by simp [Tb.row]; omega)]
    · simp only [List.getElem_cons_succ] at hx
      rw [List.flatMap_cons, List.set_cons_succ, List.flatMap_cons, ← ih i (by simpa using hi) hx]
      rw [List.set_append_right _ _ (by simp [Tb.row]; omega)]
      have e : (i + 1) * 3 + j - y.row.length = i * 3 + j := by simp [Tb.row]; omega
      rw [e]
theorem ownT_put {B : Nat} {w : World} {v : Value} {L : List Tb} (h : OwnT B w v L) (i : Nat) (hi : i < L.length) (j : Nat) (hj : j < 3) (u : Value) (x : Tb) (hx : x.row = L[i].row.set j u) :
    ∃ g c, v = .slice (some ⟨g, 0, none⟩) L.length c ∧ B ≤ g ∧ L.length ≤ c ∧ w.frozen? ⟨g, i * 3 + j, none⟩ = false ∧ w.cell? ⟨g, i * 3 + j, none⟩ = L[i].row[j]? ∧ OwnT B (w.setCell ⟨g, i * 3 + j, none⟩ u) v (L.set i x) := by
  rcases h.2 with ⟨hv, hn⟩ | ⟨g, cap, cur, hv, hg, hh, hc, hcm, hsz, ht⟩
  · omega
  · refine ⟨g, cap, hv, hg, hc, Has.free (t := 79) (cs := cur) hh _, ?_, ?_⟩
    · rw [Has.cell (t := 79) (cs := cur) hh, ← tflat_get L i j hi hj, ← ht, List.getElem?_take, if_pos (by omega)]
      simp
    · refine ⟨by rw [tflat_len], .inr ⟨g, cap, cur.setIfInBounds (i * 3 + j) u, by rw [List.length_set]; exact hv, hg, Has.put (t := 79) (cs := cur) hh (i * 3 + j) u, by rw [List.length_set]; exact hc, hcm, by simpa using hsz, ?_⟩⟩
      rw [List.length_set, ← tflat_set L i j u x hi hj hx, ← ht, Array.toList_setIfInBounds, List.take_set]
theorem TRow.drop {w : World} {b off : Nat} {L : List Tb} (h : TRow w (some ⟨b, off, none⟩) L) (k : Nat) : TRow w (some ⟨b, off + k * 3, none⟩) (L.drop k) := fun hl => by
  obtain ⟨b', off', e, hc⟩ := h (by rintro rfl; simp at hl)
  injection e with e
  injection e with e1 e2
  subst e1 e2
  refine ⟨b, off + k * 3, rfl, fun i hi => ?_⟩
  rw [List.length_drop] at hi
  obtain ⟨h0, h1, h2⟩ := hc (k + i) (by omega)
  rw [List.getElem_drop]
  have e : off + (k + i) * 3 = off + k * 3 + i * 3 := by omega
  rw [e] at h0 h1 h2
  exact ⟨h0, h1, h2⟩
theorem TRow.take {w : World} {A : Option Addr} {L : List Tb} (h : TRow w A L) (k : Nat) : TRow w A (L.take k) := fun hl => by
  obtain ⟨b, off, e, hc⟩ := h (by rintro rfl; simp at hl)
  refine ⟨b, off, e, fun i hi => ?_⟩
  rw [List.length_take] at hi
  rw [List.getElem_take]
  exact hc i (by omega)
theorem TRow.one (w : World) (x : Tb) : TRow (w.alloc (.cells #[.string x.nm, .slice x.A x.n x.c, .int .i64 x.K] 79)) (some ⟨w.heap.size, 0, none⟩) [x] := fun _ => ⟨w.heap.size, 0, rfl, fun i hi => by
  have hh := Has.new w 79 #[.string x.nm, .slice x.A x.n x.c, .int .i64 x.K]
  obtain rfl : i = 0 := by simpa using hi
  exact ⟨hh.cell 0, hh.cell 1, hh.cell 2⟩⟩
theorem OwnT.drew {B : Nat} {w : World} {v : Value} {L : List Tb} (h : OwnT B w v L) : OwnT B w.drew v L := h.below ((Below.refl _ w).drew)
theorem ownT_put2 {B : Nat} {w : World} {g n c : Nat} {L : List Tb} (h : OwnT B w (.slice (some ⟨g, 0, none⟩) n c) L) (i : Nat) (hi : i < L.length) (j : Nat) (hj : j < 3) (u : Value) (x : Tb) (hx : x.row = L[i].row.set j u) :
    B ≤ g ∧ w.frozen? ⟨g, i * 3 + j, none⟩ = false ∧ OwnT B (w.setCell ⟨g, i * 3 + j, none⟩ u) (.slice (some ⟨g, 0, none⟩) n c) (L.set i x) := by
  obtain ⟨g2, c2, hv, hB, _, hf, _, ho⟩ := ownT_put h i hi j hj u x hx
  injection hv with e1 e2 e3
  injection e1 with e1
  injection e1 with e1
  subst e1
  exact ⟨hB, hf, ho⟩
theorem OwnT.row {B : Nat} {w : World} {v : Value} {L : List Tb} (h : OwnT B w v L) {A : Option Addr} {n c : Nat} (hv : v = .slice A n c) : TRow w A L := by
  obtain ⟨A2, c2, e, _, _, hr, _⟩ := ownT_row h
  rw [hv] at e
  injection e with e1 _ _
  rw [e1]; exact hr
theorem ownT_down {B B' : Nat} {w : World} {v : Value} {l : List Tb} (h : OwnT B w v l) (hb : B' ≤ B) : OwnT B' w v l := by
  obtain ⟨h1, h2⟩ := h
  refine ⟨h1, ?_⟩
  rcases h2 with h2 | ⟨g, cap, cur, e, hg, r⟩
  · exact .inl h2
  · exact .inr ⟨g, cap, cur, e, Nat.le_trans hb hg, r⟩
theorem OwnT.far {B : Nat} {w : World} {v : Value} {L : List Tb} (h : OwnT B w v L) {p : Addr} (hp : p.block < B) (u : Value) : OwnT B (w.setCell p u) v L := by
  rcases h.2 with ⟨hv, hn⟩ | ⟨g, cap, cur, hv, hg, hh, hc, hcm, hsz, ht⟩
  · exact ⟨h.1, .inl ⟨hv, hn⟩⟩
  · exact ⟨h.1, .inr ⟨g, cap, cur, hv, hg, Has.far (t := 79) (cs := cur) hh (by omega) u, hc, hcm, hsz, ht⟩⟩
end Go.Proofs.YtlhfdhmmdnkojaaGreatDoor
namespace Go.Proofs.YtlhfdhmmdnkojaaGreatDoor
open Go.RowKit Dg
set_option maxRecDepth 100000
end Go.Proofs.YtlhfdhmmdnkojaaGreatDoor
namespace Go.Proofs.YtlhfdhmmdnkojaaGreatDoor
open Go.RowKit Dg
structure CSt (w : World) (A : Option Addr) (n c : Nat) (K : Int) (wr : World) (v : Value) (M : List Cl) : Prop where
  own : OwnC (w.heap.size + 3) wr v M
  bel : Below w.heap.size w wr
  prm : Has wr w.heap.size 27 #[.slice A n c, .int .i64 K]
  res : Has wr (w.heap.size + 1) 27 #[.slice none 0 0, .int .i64 0]
  out : Has wr (w.heap.size + 2) 27 #[v, .int .i64 K]
  big : w.heap.size + 3 ≤ wr.heap.size
section
variable {w wr w' : World} {A : Option Addr} {n c : Nat} {K : Int} {v : Value} {M : List Cl}
theorem CSt.below (h : CSt w A n c K wr v M) (hb : Below wr.heap.size wr w') : CSt w A n c K w' v M :=
  ⟨h.own.below hb, h.bel.trans (hb.mono h.bel.size), h.prm.below hb h.prm.lt, h.res.below hb h.res.lt, h.out.below hb h.out.lt, Nat.le_trans h.big hb.size⟩
theorem CSt.stored (h : CSt w A n c K wr v M) {R : Value} {M' : List Cl} (ho : OwnC (w.heap.size + 3) w' R M') (hb : Below (w.heap.size + 3) wr w') : CSt w A n c K (w'.setCell ⟨w.heap.size + 2, 0, none⟩ R) R M' := by
  refine ⟨ho.far (by show w.heap.size + 2 < _; omega) R, (h.bel.trans (hb.mono (by omega))).setCell (by show w.heap.size ≤ w.heap.size + 2; omega) _, ?_, ?_, ?_, ?_⟩
  · exact (h.prm.below hb (by omega)).far (by show w.heap.size ≠ w.heap.size + 2; omega) _
  · exact (h.res.below hb (by omega)).far (by show w.heap.size + 1 ≠ w.heap.size + 2; omega) _
  · exact (h.out.below hb (by omega)).put 0 R
  · rw [size_set]; exact Nat.le_trans h.big hb.size
end
end Go.Proofs.YtlhfdhmmdnkojaaGreatDoor
namespace Go.Proofs.YtlhfdhmmdnkojaaGreatDoor
open Go.RowKit Dg
theorem OwnC.drew {B : Nat} {w : World} {v : Value} {L : List Cl} (h : OwnC B w v L) : OwnC B w.drew v L := h.below ((Below.refl _ w).drew)
theorem OwnC.row {B : Nat} {w : World} {v : Value} {L : List Cl} (h : OwnC B w v L) {A : Option Addr} {n c : Nat} (hv : v = .slice A n c) : CRow w A L := by
  obtain ⟨A2, c2, e, _, _, hr, _⟩ := ownC_row h
  rw [hv] at e
  injection e with e1 _ _
  rw [e1]; exact hr
end Go.Proofs.YtlhfdhmmdnkojaaGreatDoor
namespace Go.Proofs.YtlhfdhmmdnkojaaGreatDoor
open Go.RowKit Dg
set_option maxRecDepth 100000
/-- A table's columns lie where they should; they are few. -/
structure TOk (w : World) (x : Tb) : Prop where
  len : x.L.length = x.n
  cap : x.n ≤ x.c
  max : x.c ≤ maxLen
  row : CRow w x.A x.L
  nil : x.A = none → x.c = 0
  few : x.n ≤ 900
theorem TOk.below {w w' : World} {x : Tb} (h : TOk w x) (hb : Below w.heap.size w w') : TOk w' x := ⟨h.len, h.cap, h.max, h.row.below hb, h.nil, h.few⟩
def TOks (w : World) (T : List Tb) : Prop := ∀ x ∈ T, TOk w x
theorem TOks.below {w w' : World} {T : List Tb} (h : TOks w T) (hb : Below w.heap.size w w') : TOks w' T := fun x hx => (h x hx).below hb
/-- A table is another one's clone, in memory of its own. -/
structure Cln (B : Nat) (w : World) (x y : Tb) : Prop where
  td : y.td = x.td
  own : OwnC B w (.slice y.A y.n y.c) y.L
theorem Cln.ok {B : Nat} {w : World} {x y : Tb} (h : Cln B w x y) (hx : x.L.length ≤ 900) : TOk w y := by
  obtain ⟨A, c, e, h1, h2, h3, h4⟩ := ownC_row h.own
  injection e with e1 e2 e3
  have hL : y.L = x.L := congrArg Td.L h.td
  subst e1 e3
  exact ⟨e2.symm, by omega, h2, h3, h4, by rw [e2, hL]; exact hx⟩
def Clns (B : Nat) (w : World) (T T' : List Tb) : Prop := T'.length = T.length ∧ ∀ i (h : i < T.length) (h' : i < T'.length), Cln B w T[i] T'[i]
theorem Clns.td {B : Nat} {w : World} {T T' : List Tb} (h : Clns B w T T') : tds T' = tds T := by
  apply List.ext_getElem
  · rw [tds_len, tds_len]; exact h.1
  · intro i h1 h2
    rw [tds_len] at h1 h2
    rw [tds_get T' i h1, tds_get T i h2]
    exact (h.2 i h2 h1).td
theorem Clns.ok {B : Nat} {w : World} {T T' : List Tb} (h : Clns B w T T') (hx : ∀ x ∈ T, x.L.length ≤ 900) : TOks w T' := fun y hy => by
  obtain ⟨i, hi, rfl⟩ := List.getElem_of_mem hy
  have hi' : i < T.length := by rw [← h.1]; exact hi
  exact (h.2 i hi' hi).ok (hx _ (List.getElem_mem hi'))
theorem Cln.below {B : Nat} {w w' : World} {x y : Tb} (h : Cln B w x y) (hb : Below w.heap.size w w') : Cln B w' x y := ⟨h.td, h.own.below hb⟩
theorem Clns.below {B : Nat} {w w' : World} {T T' : List Tb} (h : Clns B w T T') (hb : Below w.heap.size w w') : Clns B w' T T' := ⟨h.1, fun i h1 h2 => (h.2 i h1 h2).below hb⟩
/-- How the memory stands while clones are made: the row, and what is in it. -/
structure PSt (w : World) (D : Nat) (A9 : Option Addr) (n9 c9 : Nat) (T0 : List Tb) (k : Nat) (wr : World) (T1 : List Tb) : Prop where
  own : OwnT w.heap.size wr (.slice A9 n9 c9) T1
  dom : ∀ g, A9 = some ⟨g, 0, none⟩ → g < D
  len : T1.length = T0.length
  lo : ∀ i (h : i < T0.length) (h' : i < T1.length), i < k → Cln D wr T0[i] T1[i]
  hi : ∀ i (h : i < T0.length) (h' : i < T1.length), k ≤ i → T1[i] = T0[i]
  bel : Below w.heap.size w wr
  big : D ≤ wr.heap.size
theorem PSt.cells {w : World} {D g n9 c9 : Nat} {T0 : List Tb} {k : Nat} {wr : World} {T1 : List Tb} (h : PSt w D (some ⟨g, 0, none⟩) n9 c9 T0 k wr T1) (hk : k < T0.length) :
    wr.cell? ⟨g, k * 3 + 1, none⟩ = some (.slice T0[k].A T0[k].n T0[k].c) ∧ wr.cell? ⟨g, k * 3 + 2, none⟩ = some (.int .i64 T0[k].K) ∧ k < n9 ∧ w.heap.size ≤ g := by
  have hk1 : k < T1.length := by rw [h.len]; exact hk
  obtain ⟨g2, c2, hv, hg, hc, hf, hcell, _⟩ := ownT_put h.own k hk1 1 (by omega) (.slice T1[k].A T1[k].n T1[k].c) T1[k] rfl
  obtain ⟨_, _, hv', _, _, _, hcell2, _⟩ := ownT_put h.own k hk1 2 (by omega) (.int .i64 T1[k].K) T1[k] rfl
  injection hv with e1 e2 _
  injection e1 with e1
  injection e1 with e1
  injection hv' with e1' _ _
  injection e1' with e1'
  injection e1' with e1'
  subst e1 e1'
  rw [h.hi k hk hk1 (Nat.le_refl _)] at hcell hcell2
  exact ⟨hcell, hcell2, by omega, hg⟩
theorem PSt.step {w : World} {D g n9 c9 : Nat} {T0 : List Tb} {k : Nat} {wr : World} {T1 : List Tb} (h : PSt w D (some ⟨g, 0, none⟩) n9 c9 T0 k wr T1) (hk : k < T0.length) {w2 : World} {A8 : Option Addr} {n8 c8 : Nat} (ho : OwnC wr.heap.size w2 (.slice A8 n8 c8) T0[k].L) (hb : Below wr.heap.size wr w2) :
    w2.frozen? ⟨g, k * 3 + 1, none⟩ = false ∧ (w2.setCell ⟨g, k * 3 + 1, none⟩ (.slice A8 n8 c8)).frozen? ⟨g, k * 3 + 2, none⟩ = false ∧
    PSt w D (some ⟨g, 0, none⟩) n9 c9 T0 (k + 1) ((w2.setCell ⟨g, k * 3 + 1, none⟩ (.slice A8 n8 c8)).setCell ⟨g, k * 3 + 2, none⟩ (.int .i64 T0[k].K)) (T1.set k ⟨T0[k].nm, A8, n8, c8, T0[k].L, T0[k].K⟩) := by
  have hg : g < D := h.dom g rfl
  have hk1 : k < T1.length := by rw [h.len]; exact hk
  have hT := h.hi k hk hk1 (Nat.le_refl _)
  obtain ⟨hgB, hf1, ho1⟩ := ownT_put2 (h.own.below hb) k hk1 1 (by omega) (.slice A8 n8 c8) ⟨T0[k].nm, A8, n8, c8, T0[k].L, T0[k].K⟩ (by rw [hT]; rfl)
  have hk2 : k < (T1.set k ⟨T0[k].nm, A8, n8, c8, T0[k].L, T0[k].K⟩).length := by rw [List.length_set]; exact hk1
  obtain ⟨_, hf2, ho2⟩ := ownT_put2 ho1 k hk2 2 (by omega) (.int .i64 T0[k].K) ⟨T0[k].nm, A8, n8, c8, T0[k].L, T0[k].K⟩ (by rw [List.getElem_set_self]; rfl)
  rw [List.set_set] at ho2
  refine ⟨hf1, hf2, ho2, h.dom, by rw [List.length_set]; exact h.len, fun i h1 h2 hik => ?_, fun i h1 h2 hik => ?_, ?_, ?_⟩
  · rw [List.length_set] at h2
    by_cases e : k = i
    · subst e
      rw [List.getElem_set_self]
      exact ⟨rfl, ((ownC_down ho h.big).far (p := ⟨g, k * 3 + 1, none⟩) hg _).far (p := ⟨g, k * 3 + 2, none⟩) hg _⟩
    · rw [List.getElem_set_ne e]
      have hc := h.lo i h1 h2 (by omega)
      exact ⟨hc.td, ((hc.own.below hb).far (p := ⟨g, k * 3 + 1, none⟩) hg _).far (p := ⟨g, k * 3 + 2, none⟩) hg _⟩
  · rw [List.length_set] at h2
    rw [List.getElem_set_ne (by omega)]
    exact h.hi i h1 h2 (by omega)
  · exact ((h.bel.trans (hb.mono h.bel.size)).setCell hgB _).setCell hgB _
  · have h1 := h.big
    have h2 := hb.size
    simp
    omega
theorem PSt.done {w wr : World} {D : Nat} {A9 : Option Addr} {n9 c9 : Nat} {T0 T1 : List Tb} (h : PSt w D A9 n9 c9 T0 T0.length wr T1) (hD : w.heap.size ≤ D) : Clns w.heap.size wr T0 T1 :=
  ⟨h.len, fun i h1 h2 => ⟨(h.lo i h1 h2 h1).td, ownC_down (h.lo i h1 h2 h1).own hD⟩⟩
end Go.Proofs.YtlhfdhmmdnkojaaGreatDoor
namespace Go.Proofs.YtlhfdhmmdnkojaaGreatDoor
open Go.RowKit Dg
set_option maxRecDepth 100000
theorem tat_yes {T : List Tb} {s : ByteArray} (h : plF T s = true) : tatI T s = ((lbN T s : Nat) : Int) := by
  obtain ⟨h1, h2⟩ := plF_tat h
  unfold tatI; rw [h2, if_pos h1]
theorem tat_no {T : List Tb} {s : ByteArray} (hS : SortT T) (h : plF T s = false) : tatI T s = -1 := by
  unfold tatI; rw [if_neg (plF_tat' hS h)]
/-- The tables behind one that is made, where there is no error. -/
def fcT (T : List Tb) (tn : ByteArray) (A' : Option Addr) (n' c' : Nat) (L' : List Cl) (K' : Int) : List Tb := if fcE T tn L' K' = 0 then T.take (lbN T tn) ++ [⟨tn, A', n', c', L', K'⟩] ++ T.drop (lbN T tn) else []
theorem fcT_ok {T : List Tb} {tn : ByteArray} {A' : Option Addr} {n' c' : Nat} {L' : List Cl} {K' : Int} (h : fcE T tn L' K' = 0) : fcT T tn A' n' c' L' K' = T.take (lbN T tn) ++ [⟨tn, A', n', c', L', K'⟩] ++ T.drop (lbN T tn) := by
  unfold fcT; rw [if_pos h]
theorem fcT_bad {T : List Tb} {tn : ByteArray} {A' : Option Addr} {n' c' : Nat} {L' : List Cl} {K' : Int} (h : fcE T tn L' K' ≠ 0) : fcT T tn A' n' c' L' K' = [] := by
  unfold fcT; rw [if_neg h]
theorem ownT_bad {B : Nat} {w : World} {T : List Tb} {tn : ByteArray} {A' : Option Addr} {n' c' : Nat} {L' : List Cl} {K' : Int} (h : fcE T tn L' K' ≠ 0) : Hid (OwnT B w (.slice none 0 0) (fcT T tn A' n' c' L' K')) := by
  show OwnT _ _ _ _
  rw [fcT_bad h]; exact ownT_nil _ _
set_option maxHeartbeats 4000000 in
theorem rfolC_any (A : Option Addr) (T : List Tb) (n c : Nat) (tn : ByteArray) (A' : Option Addr) (n' c' : Nat) (L' : List Cl) (K' : Int) (cn : ByteArray) (kd : Int) (no : Bool) (w : World) (hn : T.length = n) (hnc : n ≤ c) (hcm : c ≤ maxLen) (hl : n ≤ 900) (hA : TRow w A T) (hA0 : A = none → c = 0) (hS : SortT T) (hn' : L'.length = n') (hA' : CRow w A' L') :
    Calls Tryz.prog 43 #[.slice A n c, .agg #[.int .i64 1, .string tn, .slice A' n' c', .int .i64 K', .string cn, .int .i64 kd, .bool no]] w fun e w' => ∃ v, e = .returned (.tuple #[v, .int .i64 (fcE T tn L' K')]) ∧ Hid (OwnT w.heap.size w' v (fcT T tn A' n' c' L' K')) ∧ Hid (Below w.heap.size w w') := by
  have HB0 := Lib.hid ((Below.refl w.heap.size w).alloc (Nat.le_refl _) (.cells #[.int .i64 1, .string tn, .slice A' n' c', .int .i64 K', .string cn, .int .i64 kd, .bool no] 31))
  have HX0 := Lib.hid (Has.new w 31 #[.int .i64 1, .string tn, .slice A' n' c', .int .i64 K', .string cn, .int .i64 kd, .bool no])
  have HAT := fun (W : World) (hb : Below w.heap.size w W) => at_any A T n c tn W hn (by omega) (hA.below hb)
  have HMY := fun (W : World) (hb : Below w.heap.size w W) => rmay_all A' L' n' c' K' W hn' (hA'.below hb)
  have HAT := Lib.hid HAT
  have HMY := Lib.hid HMY
  have HN := Lib.hid hn
  have HA := Lib.hid hA
  have HS := Lib.hid hS
  have HTY := Lib.hid (@tat_yes T tn)
  have HTN := Lib.hid (@tat_no T tn hS)
  have HLE := Lib.hid (lb_le T tn)
  have e1 := @fcE_name T tn L' K'
  have e2 := @fcE_there T tn L' K'
  have e3 := @fcE_may T tn L' K'
  have e4 := @fcE_many T tn L' K'
  have e5 := @fcE_ok T tn L' K'
  rw [hn] at e4 e5
  clear hn hA hA' hn' hS
  obtain ⟨qm, hqm⟩ : ∃ q, smayF L' K' = q := ⟨_, rfl⟩
  rcases hqn : nameF tn with _ | _
  · have HE := Lib.hid (e1 hqn)
    clear e1 e2 e3 e4 e5
    obtain ⟨ti, hti⟩ : ∃ ti, tatI T tn = ti := ⟨_, rfl⟩
    have HTI := Lib.hid hti
    clear hti
    go_enter Tryz.func43, Tryz.ntmps43
    go_wp2_with fail
    refine (HAT.out _ HB0.out).mono ?_
    rintro e w1 ⟨rfl, rfl⟩
    rw [HTI.out]
    go_wp2_with fail
    refine (refName_any tn _).mono ?_
    rintro e w2 ⟨rfl, rfl⟩
    rw [hqn]
    go_wp2_with fail
    refine (HMY.out _ HB0.out).mono ?_
    rintro e w3 ⟨rfl, hb3⟩
    rw [hqm]
    have HB3 := Lib.hid (HB0.out.trans (hb3.out.mono HB0.out.size))
    have HX3 := Lib.hid (HX0.out.below hb3.out HX0.out.lt)
    have x0 : w3.cell? ⟨w.heap.size, 0, none⟩ = some (.int .i64 1) := HX3.out.cell 0
    have x1 : w3.cell? ⟨w.heap.size, 1, none⟩ = some (.string tn) := HX3.out.cell 1
    have x2 : w3.cell? ⟨w.heap.size, 2, none⟩ = some (.slice A' n' c') := HX3.out.cell 2
    have x3 : w3.cell? ⟨w.heap.size, 3, none⟩ = some (.int .i64 K') := HX3.out.cell 3
    clear hb3 HX0 HB0
    go_wp2_with fail
    go_ret2
    exact ⟨_, by rw [HE.out]; rfl, ownT_bad (by rw [HE.out]; omega), HB3⟩
  · rcases hp : plF T tn with _ | _
    · have HTI := Lib.hid (HTN.out hp)
      cases qm
      · have HE := Lib.hid (e3 hqn hp hqm)
        clear e1 e2 e3 e4 e5
        go_enter Tryz.func43, Tryz.ntmps43
        go_wp2_with fail
        refine (HAT.out _ HB0.out).mono ?_
        rintro e w1 ⟨rfl, rfl⟩
        rw [HTI.out]
        go_wp2_with fail
        refine (refName_any tn _).mono ?_
        rintro e w2 ⟨rfl, rfl⟩
        rw [hqn]
        go_wp2_with fail
        refine (HMY.out _ HB0.out).mono ?_
        rintro e w3 ⟨rfl, hb3⟩
        rw [hqm]
        have HB3 := Lib.hid (HB0.out.trans (hb3.out.mono HB0.out.size))
        have HX3 := Lib.hid (HX0.out.below hb3.out HX0.out.lt)
        have x0 : w3.cell? ⟨w.heap.size, 0, none⟩ = some (.int .i64 1) := HX3.out.cell 0
        have x1 : w3.cell? ⟨w.heap.size, 1, none⟩ = some (.string tn) := HX3.out.cell 1
        have x2 : w3.cell? ⟨w.heap.size, 2, none⟩ = some (.slice A' n' c') := HX3.out.cell 2
        have x3 : w3.cell? ⟨w.heap.size, 3, none⟩ = some (.int .i64 K') := HX3.out.cell 3
        clear hb3 HX0 HB0
        go_wp2_with fail
        go_ret2
        exact ⟨_, by rw [HE.out]; rfl, ownT_bad (by rw [HE.out]; omega), HB3⟩
      · by_cases h64 : 64 ≤ n
        · have HE := Lib.hid (e4 hqn hp hqm h64)
          have h64z : (64 : Int) ≤ (n : Int) := by omega
          clear e1 e2 e3 e4 e5
          go_enter Tryz.func43, Tryz.ntmps43
          go_wp2_with fail
          refine (HAT.out _ HB0.out).mono ?_
          rintro e w1 ⟨rfl, rfl⟩
          rw [HTI.out]
          go_wp2_with fail
          refine (refName_any tn _).mono ?_
          rintro e w2 ⟨rfl, rfl⟩
          rw [hqn]
          go_wp2_with fail
          refine (HMY.out _ HB0.out).mono ?_
          rintro e w3 ⟨rfl, hb3⟩
          rw [hqm]
          have HB3 := Lib.hid (HB0.out.trans (hb3.out.mono HB0.out.size))
          have HX3 := Lib.hid (HX0.out.below hb3.out HX0.out.lt)
          have x0 : w3.cell? ⟨w.heap.size, 0, none⟩ = some (.int .i64 1) := HX3.out.cell 0
          have x1 : w3.cell? ⟨w.heap.size, 1, none⟩ = some (.string tn) := HX3.out.cell 1
          have x2 : w3.cell? ⟨w.heap.size, 2, none⟩ = some (.slice A' n' c') := HX3.out.cell 2
          have x3 : w3.cell? ⟨w.heap.size, 3, none⟩ = some (.int .i64 K') := HX3.out.cell 3
          clear hb3 HX0 HB0
          go_wp2_with fail
          go_ret2
          exact ⟨_, by rw [HE.out]; rfl, ownT_bad (by rw [HE.out]; omega), HB3⟩
        · have HE := Lib.hid (e5 hqn hp hqm (by omega))
          have h64z : ¬ (64 : Int) ≤ (n : Int) := by omega
          clear e1 e2 e3 e4 e5
          go_enter Tryz.func43, Tryz.ntmps43
          go_wp2_with fail
          refine (HAT.out _ HB0.out).mono ?_
          rintro e w1 ⟨rfl, rfl⟩
          rw [HTI.out]
          go_wp2_with fail
          refine (refName_any tn _).mono ?_
          rintro e w2 ⟨rfl, rfl⟩
          rw [hqn]
          go_wp2_with fail
          refine (HMY.out _ HB0.out).mono ?_
          rintro e w3 ⟨rfl, hb3⟩
          rw [hqm]
          have HB3 := Lib.hid (HB0.out.trans (hb3.out.mono HB0.out.size))
          have HX3 := Lib.hid (HX0.out.below hb3.out HX0.out.lt)
          have x0 : w3.cell? ⟨w.heap.size, 0, none⟩ = some (.int .i64 1) := HX3.out.cell 0
          have x1 : w3.cell? ⟨w.heap.size, 1, none⟩ = some (.string tn) := HX3.out.cell 1
          have x2 : w3.cell? ⟨w.heap.size, 2, none⟩ = some (.slice A' n' c') := HX3.out.cell 2
          have x3 : w3.cell? ⟨w.heap.size, 3, none⟩ = some (.int .i64 K') := HX3.out.cell 3
          clear hb3 HX0 HB0
          go_wp2_with fail
          go_loopw [10] (fun i wr => ∃ k : Nat, k ≤ lbN T tn ∧ i = .int .i64 k ∧ Hid (Below w3.heap.size w3 wr)) (fun i _ => n - (intOf i).toNat)
          case atStart => exact ⟨0, by omega, rfl, Below.refl _ _⟩
          case round =>
            obtain ⟨k, hk, rfl, HB⟩ := hrel
            have HBx := Lib.hid (HB3.out.trans (HB.out.mono HB3.out.size))
            have HX := Lib.hid (HX3.out.below HB.out HX3.out.lt)
            have HBY := Lib.hid HB.out
            clear x0 x1 x2 x3 HX3 HB3 HB
            have y1 : wr.cell? ⟨w.heap.size, 1, none⟩ = some (.string tn) := HX.out.cell 1
            by_cases hlt : k < lbN T tn
            · have hkn : k < n := by have := HLE.out; have := HN.out; omega
              have hkl : k < T.length := by rw [HN.out]; exact hkn
              obtain ⟨b, off, rfl, hc⟩ := (HA.out.below HBx.out) (by intro e; rw [e] at hkl; simp at hkl)
              obtain ⟨c0, _, _⟩ := hc k hkl
              have hls := lb_lo hlt hkl
              have hkz : (k : Int) < (n : Int) := by omega
              clear hc
              generalize T[k].nm = xa at *
              go_wp2_with fail
              go_region
              all_goals
                go_wp2_with fail
                go_roundw
                case rel => exact ⟨k + 1, by omega, by go_num, HBY.out.drew⟩
                case measure => simp [intOf]; omega
            · have hkk : lbN T tn = k := by omega
              have hkn0 : k ≤ n := by have := HLE.out; have := HN.out; omega
              have hcm1 : c ≤ 2 ^ 63 - 1 := by unfold maxLen at hcm; exact hcm
              have hkc : (k : Int) ≤ (c : Int) := by omega
              have hkn1 : (k : Int) ≤ (n : Int) := by omega
              have HFT := Lib.hid (fcT_ok (T := T) (tn := tn) (A' := A') (n' := n') (c' := c') (L' := L') (K' := K') HE.out)
              rw [hkk] at HFT
              by_cases hkn : k < n
              · have hkl : k < T.length := by rw [HN.out]; exact hkn
                obtain ⟨b, off, rfl, hc⟩ := (HA.out.below HBx.out) (by intro e; rw [e] at hkl; simp at hkl)
                obtain ⟨c0, _, _⟩ := hc k hkl
                have hls := lb_hi HS.out (s := tn) (t := k) (by omega) hkl
                have hkz : (k : Int) < (n : Int) := by omega
                clear hc
                generalize T[k].nm = xa at *
                go_wp2_with fail
                go_region
                all_goals
                  clear c0 hls
                  have HXd := Lib.hid HX.out.drew
                  have HBd := Lib.hid HBx.out.drew
                  have HAd := Lib.hid (HA.out.below HBd.out)
                  clear HX HBx HBY y1
                  have HA1 := Lib.hid (appTs wr.drew (w.heap.size + 1) (.slice none 0 0) [] (ownT_nil _ _) HXd.out.lt (some ⟨b, off, none⟩) (T.take k) k c (by rw [List.length_take]; have := HN.out; omega) (HAd.out.take k) (fun e => by cases e) (by have := HN.out; simp <;> omega))
                  go_wp2_with (first
                    | (at_builtin; refine wpList_app rfl _ _ 22 22 rfl (.slice none 0 0) (.slice (some ⟨b, off, none⟩) k c) rfl rfl ?_; obtain ⟨R, W1, hrun, hm1, hm2⟩ := HA1.out; refine ⟨R, W1, hrun, ?_⟩; obtain ⟨A7, n7, c7, hR, HN7, hnc7, hcm7, _, _⟩ := ownT_open hm1; subst hR; have HB1 := Lib.hid (HBd.out.trans (hm2.mono (by omega))); have HX1 := Lib.hid (HXd.out.below hm2 (by omega)); have q1 : W1.cell? ⟨w.heap.size, 1, none⟩ = some (.string tn) := HX1.out.cell 1; have q2 : W1.cell? ⟨w.heap.size, 2, none⟩ = some (.slice A' n' c') := HX1.out.cell 2; have q3 : W1.cell? ⟨w.heap.size, 3, none⟩ = some (.int .i64 K') := HX1.out.cell 3; have HA2 := Lib.hid (appT W1 W1.heap.size rfl (w.heap.size + 1) (.slice A7 n7 c7) ([] ++ T.take k) ⟨tn, A', n', c', L', K'⟩ hm1 HX1.out.lt (by have := HN.out; simp; omega)); clear hrun hm1 hm2 HA1)
                    | (at_builtin; refine wpList_app rfl _ _ 22 22 rfl (.slice A7 n7 c7) (.slice (some ⟨W1.heap.size, 0, none⟩) 1 1) rfl rfl ?_; obtain ⟨R, W2, hrun, hm1, hm2⟩ := HA2.out; refine ⟨R, W2, hrun, ?_⟩; obtain ⟨A8, n8, c8, hR, HN8, hnc8, hcm8, _, _⟩ := ownT_open hm1; subst hR; have HB2 := Lib.hid (HB1.out.trans (hm2.mono (by omega))); have HX2 := Lib.hid (HX1.out.below hm2 (by omega)); have HA3 := Lib.hid (appTs W2 (w.heap.size + 1) (.slice A8 n8 c8) ([] ++ T.take k ++ [⟨tn, A', n', c', L', K'⟩]) hm1 HX2.out.lt (some ⟨b, off + k * 3, none⟩) (T.drop k) (n - k) (c - k) (by rw [List.length_drop]; have := HN.out; omega) (by have h : TRow W2 _ T := HA.out.below HB2.out; exact h.drop k) (fun e => by cases e) (by have := HN.out; simp; omega)); clear hrun hm1 hm2 HA2)
                    | (at_builtin; refine wpList_app rfl _ _ 22 22 rfl (.slice A8 n8 c8) (.slice (some ⟨b, off + k * 3, none⟩) (n - k) (c - k)) rfl rfl ?_; obtain ⟨R, W3, hrun, hm1, hm2⟩ := HA3.out; refine ⟨R, W3, hrun, ?_⟩; have HO := Lib.hid hm1; have HB5 := Lib.hid (HB2.out.trans (hm2.mono (by omega))); clear hrun hm1 hm2 HA3))

                  go_ret2
                  exact ⟨_, by rw [HE.out]; rfl, by rw [HFT.out]; exact ownT_down HO.out (by omega), HB5.out⟩
              · have hkz : ¬ (k : Int) < (n : Int) := by omega
                obtain rfl : k = n := by omega
                rcases A with _ | ⟨b, off, sp⟩
                · obtain rfl : c = 0 := hA0 rfl
                  obtain rfl : k = 0 := by omega
                  go_wp2_with fail
                  go_region
                  all_goals
                    have HXd := Lib.hid HX.out.drew
                    have HBd := Lib.hid HBx.out.drew
                    have HNT : Hid (T = []) := List.eq_nil_of_length_eq_zero HN.out
                    clear HX HBx HBY y1
                    have q1 : wr.drew.cell? ⟨w.heap.size, 1, none⟩ = some (.string tn) := HXd.out.cell 1
                    have q2 : wr.drew.cell? ⟨w.heap.size, 2, none⟩ = some (.slice A' n' c') := HXd.out.cell 2
                    have q3 : wr.drew.cell? ⟨w.heap.size, 3, none⟩ = some (.int .i64 K') := HXd.out.cell 3
                    have HA2 := Lib.hid (appT wr.drew wr.drew.heap.size rfl (w.heap.size + 1) (.slice none 0 0) [] ⟨tn, A', n', c', L', K'⟩ (ownT_nil _ _) HXd.out.lt (by simp))
                    obtain ⟨wx, hwx⟩ : ∃ wx, wr.drew = wx := ⟨_, rfl⟩
                    rw [hwx] at HA2 q1 q2 q3 HBd HXd ⊢
                    clear hwx
                    go_wp2_with (first
                      | (at_builtin; refine wpList_app rfl _ _ 22 22 rfl (.slice none 0 0) (.slice (some ⟨wx.heap.size, 0, none⟩) 1 1) rfl rfl ?_; obtain ⟨R, W2, hrun, hm1, hm2⟩ := HA2.out; refine ⟨R, W2, hrun, ?_⟩; obtain ⟨A8, n8, c8, hR, HN8, hnc8, hcm8, _, _⟩ := ownT_open hm1; subst hR; have HO := Lib.hid hm1; have HB5 := Lib.hid (HBd.out.trans (hm2.mono (by omega))); have HA3 := Lib.hid (appTs W2 (w.heap.size + 1) (.slice A8 n8 c8) _ hm1 (by have := HXd.out.lt; have := hm2.size; omega) none [] 0 0 rfl (fun h => absurd rfl h) (fun _ => rfl) (by simp)); clear hrun hm1 hm2 HA2)
                      | (at_builtin; refine wpList_app rfl _ _ 22 22 rfl (.slice A8 n8 c8) (.slice none 0 0) rfl rfl ?_; obtain ⟨R, W3, hrun, hm1, hm2⟩ := HA3.out; refine ⟨R, W3, hrun, ?_⟩; rw [List.append_nil] at hm1; have HO := Lib.hid hm1; have HB5 := Lib.hid (HB5.out.trans (hm2.mono (by omega))); clear hrun hm1 hm2 HA3))
                    go_ret2
                    exact ⟨_, by rw [HE.out]; rfl, by rw [HFT.out, HNT.out]; exact ownT_down HO.out (by omega), HB5.out⟩
                · by_cases hck : c = k
                  · subst hck
                    go_wp2_with fail
                    go_region
                    all_goals
                      have HXd := Lib.hid HX.out.drew
                      have HBd := Lib.hid HBx.out.drew
                      have HAd := Lib.hid (HA.out.below HBd.out)
                      clear HX HBx HBY y1
                      have HA1 := Lib.hid (appTs wr.drew (w.heap.size + 1) (.slice none 0 0) [] (ownT_nil _ _) HXd.out.lt (some ⟨b, off, sp⟩) (T.take c) c c (by rw [List.length_take]; have := HN.out; omega) (HAd.out.take c) (fun e => by cases e) (by have := HN.out; simp <;> omega))
                      go_wp2_with (first
                        | (at_builtin; refine wpList_app rfl _ _ 22 22 rfl (.slice none 0 0) (.slice (some ⟨b, off, sp⟩) c c) rfl rfl ?_; obtain ⟨R, W1, hrun, hm1, hm2⟩ := HA1.out; refine ⟨R, W1, hrun, ?_⟩; obtain ⟨A7, n7, c7, hR, HN7, hnc7, hcm7, _, _⟩ := ownT_open hm1; subst hR; have HB1 := Lib.hid (HBd.out.trans (hm2.mono (by omega))); have HX1 := Lib.hid (HXd.out.below hm2 (by omega)); have q1 : W1.cell? ⟨w.heap.size, 1, none⟩ = some (.string tn) := HX1.out.cell 1; have q2 : W1.cell? ⟨w.heap.size, 2, none⟩ = some (.slice A' n' c') := HX1.out.cell 2; have q3 : W1.cell? ⟨w.heap.size, 3, none⟩ = some (.int .i64 K') := HX1.out.cell 3; have HA2 := Lib.hid (appT W1 W1.heap.size rfl (w.heap.size + 1) (.slice A7 n7 c7) ([] ++ T.take c) ⟨tn, A', n', c', L', K'⟩ hm1 HX1.out.lt (by have := HN.out; simp; omega)); clear hrun hm1 hm2 HA1)
                        | (at_builtin; refine wpList_app rfl _ _ 22 22 rfl (.slice A7 n7 c7) (.slice (some ⟨W1.heap.size, 0, none⟩) 1 1) rfl rfl ?_; obtain ⟨R, W2, hrun, hm1, hm2⟩ := HA2.out; refine ⟨R, W2, hrun, ?_⟩; obtain ⟨A8, n8, c8, hR, HN8, hnc8, hcm8, _, _⟩ := ownT_open hm1; subst hR; have HB2 := Lib.hid (HB1.out.trans (hm2.mono (by omega))); have HX2 := Lib.hid (HX1.out.below hm2 (by omega)); have HA3 := Lib.hid (appTs W2 (w.heap.size + 1) (.slice A8 n8 c8) ([] ++ T.take c ++ [⟨tn, A', n', c', L', K'⟩]) hm1 HX2.out.lt (some ⟨b, off, sp⟩) (T.drop c) 0 0 (by rw [List.length_drop]; have := HN.out; omega) (by rw [List.drop_eq_nil_of_le (by have := HN.out; omega)]; exact fun h => absurd rfl h) (fun e => by cases e) (by have := HN.out; simp; omega)); clear hrun hm1 hm2 HA2)
                        | (at_builtin; refine wpList_app rfl _ _ 22 22 rfl (.slice A8 n8 c8) (.slice (some ⟨b, off, sp⟩) 0 0) rfl rfl ?_; obtain ⟨R, W3, hrun, hm1, hm2⟩ := HA3.out; refine ⟨R, W3, hrun, ?_⟩; have HO := Lib.hid hm1; have HB5 := Lib.hid (HB2.out.trans (hm2.mono (by omega))); clear hrun hm1 hm2 HA3))

                      go_ret2
                      exact ⟨_, by rw [HE.out]; rfl, by rw [HFT.out]; exact ownT_down HO.out (by omega), HB5.out⟩
                  · by_cases hT0 : T = []
                    · obtain rfl : k = 0 := by have := HN.out; rw [hT0] at this; simpa using this.symm
                      go_wp2_with fail
                      go_region
                      all_goals
                        have HXd := Lib.hid HX.out.drew
                        have HBd := Lib.hid HBx.out.drew
                        have HNT : Hid (T = []) := List.eq_nil_of_length_eq_zero HN.out
                        clear HX HBx HBY y1
                        have q1 : wr.drew.cell? ⟨w.heap.size, 1, none⟩ = some (.string tn) := HXd.out.cell 1
                        have q2 : wr.drew.cell? ⟨w.heap.size, 2, none⟩ = some (.slice A' n' c') := HXd.out.cell 2
                        have q3 : wr.drew.cell? ⟨w.heap.size, 3, none⟩ = some (.int .i64 K') := HXd.out.cell 3
                        have HA2 := Lib.hid (appT wr.drew wr.drew.heap.size rfl (w.heap.size + 1) (.slice none 0 0) [] ⟨tn, A', n', c', L', K'⟩ (ownT_nil _ _) HXd.out.lt (by simp))
                        obtain ⟨wx, hwx⟩ : ∃ wx, wr.drew = wx := ⟨_, rfl⟩
                        rw [hwx] at HA2 q1 q2 q3 HBd HXd ⊢
                        clear hwx
                        go_wp2_with (first
                          | (at_builtin; refine wpList_app rfl _ _ 22 22 rfl (.slice none 0 0) (.slice (some ⟨wx.heap.size, 0, none⟩) 1 1) rfl rfl ?_; obtain ⟨R, W2, hrun, hm1, hm2⟩ := HA2.out; refine ⟨R, W2, hrun, ?_⟩; obtain ⟨A8, n8, c8, hR, HN8, hnc8, hcm8, _, _⟩ := ownT_open hm1; subst hR; have HO := Lib.hid hm1; have HB5 := Lib.hid (HBd.out.trans (hm2.mono (by omega))); have HA3 := Lib.hid (appTs W2 (w.heap.size + 1) (.slice A8 n8 c8) _ hm1 (by have := HXd.out.lt; have := hm2.size; omega) (some ⟨b, off, sp⟩) [] 0 c rfl (fun h => absurd rfl h) (fun e => by cases e) (by simp)); clear hrun hm1 hm2 HA2)
                          | (at_builtin; refine wpList_app rfl _ _ 22 22 rfl (.slice A8 n8 c8) (.slice (some ⟨b, off, sp⟩) 0 c) rfl rfl ?_; obtain ⟨R, W3, hrun, hm1, hm2⟩ := HA3.out; refine ⟨R, W3, hrun, ?_⟩; rw [List.append_nil] at hm1; have HO := Lib.hid hm1; have HB5 := Lib.hid (HB5.out.trans (hm2.mono (by omega))); clear hrun hm1 hm2 HA3))
                        go_ret2
                        exact ⟨_, by rw [HE.out]; rfl, by rw [HFT.out, HNT.out]; exact ownT_down HO.out (by omega), HB5.out⟩
                    · obtain rfl : sp = none := by
                        obtain ⟨b', off', e, _⟩ := HA.out hT0
                        injection e with e
                        injection e
                      go_wp2_with fail
                      go_region
                      all_goals
                        have HXd := Lib.hid HX.out.drew
                        have HBd := Lib.hid HBx.out.drew
                        have HAd := Lib.hid (HA.out.below HBd.out)
                        clear HX HBx HBY y1
                        have HA1 := Lib.hid (appTs wr.drew (w.heap.size + 1) (.slice none 0 0) [] (ownT_nil _ _) HXd.out.lt (some ⟨b, off, none⟩) (T.take k) k c (by rw [List.length_take]; have := HN.out; omega) (HAd.out.take k) (fun e => by cases e) (by have := HN.out; simp <;> omega))
                        go_wp2_with (first
                          | (at_builtin; refine wpList_app rfl _ _ 22 22 rfl (.slice none 0 0) (.slice (some ⟨b, off, none⟩) k c) rfl rfl ?_; obtain ⟨R, W1, hrun, hm1, hm2⟩ := HA1.out; refine ⟨R, W1, hrun, ?_⟩; obtain ⟨A7, n7, c7, hR, HN7, hnc7, hcm7, _, _⟩ := ownT_open hm1; subst hR; have HB1 := Lib.hid (HBd.out.trans (hm2.mono (by omega))); have HX1 := Lib.hid (HXd.out.below hm2 (by omega)); have q1 : W1.cell? ⟨w.heap.size, 1, none⟩ = some (.string tn) := HX1.out.cell 1; have q2 : W1.cell? ⟨w.heap.size, 2, none⟩ = some (.slice A' n' c') := HX1.out.cell 2; have q3 : W1.cell? ⟨w.heap.size, 3, none⟩ = some (.int .i64 K') := HX1.out.cell 3; have HA2 := Lib.hid (appT W1 W1.heap.size rfl (w.heap.size + 1) (.slice A7 n7 c7) ([] ++ T.take k) ⟨tn, A', n', c', L', K'⟩ hm1 HX1.out.lt (by have := HN.out; simp; omega)); clear hrun hm1 hm2 HA1)
                          | (at_builtin; refine wpList_app rfl _ _ 22 22 rfl (.slice A7 n7 c7) (.slice (some ⟨W1.heap.size, 0, none⟩) 1 1) rfl rfl ?_; obtain ⟨R, W2, hrun, hm1, hm2⟩ := HA2.out; refine ⟨R, W2, hrun, ?_⟩; obtain ⟨A8, n8, c8, hR, HN8, hnc8, hcm8, _, _⟩ := ownT_open hm1; subst hR; have HB2 := Lib.hid (HB1.out.trans (hm2.mono (by omega))); have HX2 := Lib.hid (HX1.out.below hm2 (by omega)); have HA3 := Lib.hid (appTs W2 (w.heap.size + 1) (.slice A8 n8 c8) ([] ++ T.take k ++ [⟨tn, A', n', c', L', K'⟩]) hm1 HX2.out.lt (some ⟨b, off + k * 3, none⟩) (T.drop k) 0 (c - k) (by rw [List.length_drop]; have := HN.out; omega) (by rw [List.drop_eq_nil_of_le (by have := HN.out; omega)]; exact fun h => absurd rfl h) (fun e => by cases e) (by have := HN.out; simp; omega)); clear hrun hm1 hm2 HA2)
                          | (at_builtin; refine wpList_app rfl _ _ 22 22 rfl (.slice A8 n8 c8) (.slice (some ⟨b, off + k * 3, none⟩) 0 (c - k)) rfl rfl ?_; obtain ⟨R, W3, hrun, hm1, hm2⟩ := HA3.out; refine ⟨R, W3, hrun, ?_⟩; have HO := Lib.hid hm1; have HB5 := Lib.hid (HB2.out.trans (hm2.mono (by omega))); clear hrun hm1 hm2 HA3))

                        go_ret2
                        exact ⟨_, by rw [HE.out]; rfl, by rw [HFT.out]; exact ownT_down HO.out (by omega), HB5.out⟩
    · have HTI := Lib.hid (HTY.out hp)
      have HE := Lib.hid (e2 hqn hp)
      have hz : (0 : Int) ≤ ((lbN T tn : Nat) : Int) := by omega
      clear e1 e2 e3 e4 e5
      go_enter Tryz.func43, Tryz.ntmps43
      go_wp2_with fail
      refine (HAT.out _ HB0.out).mono ?_
      rintro e w1 ⟨rfl, rfl⟩
      rw [HTI.out]
      go_wp2_with fail
      refine (refName_any tn _).mono ?_
      rintro e w2 ⟨rfl, rfl⟩
      rw [hqn]
      go_wp2_with fail
      refine (HMY.out _ HB0.out).mono ?_
      rintro e w3 ⟨rfl, hb3⟩
      rw [hqm]
      have HB3 := Lib.hid (HB0.out.trans (hb3.out.mono HB0.out.size))
      have HX3 := Lib.hid (HX0.out.below hb3.out HX0.out.lt)
      have x0 : w3.cell? ⟨w.heap.size, 0, none⟩ = some (.int .i64 1) := HX3.out.cell 0
      have x1 : w3.cell? ⟨w.heap.size, 1, none⟩ = some (.string tn) := HX3.out.cell 1
      have x2 : w3.cell? ⟨w.heap.size, 2, none⟩ = some (.slice A' n' c') := HX3.out.cell 2
      have x3 : w3.cell? ⟨w.heap.size, 3, none⟩ = some (.int .i64 K') := HX3.out.cell 3
      clear hb3 HX0 HB0
      go_wp2_with fail
      go_ret2
      exact ⟨_, by rw [HE.out]; rfl, ownT_bad (by rw [HE.out]; omega), HB3⟩
end Go.Proofs.YtlhfdhmmdnkojaaGreatDoor
namespace Go.Proofs.YtlhfdhmmdnkojaaGreatDoor
open Go.RowKit Dg
set_option maxRecDepth 100000
end Go.Proofs.YtlhfdhmmdnkojaaGreatDoor
namespace Go.Proofs.YtlhfdhmmdnkojaaGreatDoor
open Go.RowKit Dg
/-- An event. -/
structure Ev where
  k : Int
  n : Int
  t : ByteArray
  B : List Vl
  A : List Vl
  ck : Int
  ct : ByteArray
  L : List Cl
  K : Int
  cl : Cl
end Go.Proofs.YtlhfdhmmdnkojaaGreatDoor
namespace Go.Proofs.YtlhfdhmmdnkojaaGreatDoor
open Go.RowKit Dg
/-- An event whose value and rows are known. -/
structure EvAt (w : World) (v : Value) (x : Ev) : Prop where
  known : ∃ Ab nb zb Aa na za A n c, v = .agg #[.int .i64 x.k, .int .i64 x.n, .string x.t, .slice Ab nb zb, .slice Aa na za, .int .i64 x.ck, .string x.ct, .slice A n c, .int .i64 x.K, .string x.cl.nm, .int .i64 x.cl.k, .bool x.cl.no] ∧ (x.B.length = nb ∧ (nb : Int) ≤ 9223372036854775807 ∧ VRow w Ab x.B) ∧ (x.A.length = na ∧ (na : Int) ≤ 9223372036854775807 ∧ VRow w Aa x.A) ∧ x.L.length = n ∧ n ≤ 1000 ∧ CRow w A x.L
theorem EvAt.below {w w' : World} {v : Value} {x : Ev} (h : EvAt w v x) (hb : Below w.heap.size w w') : EvAt w' v x := by
  obtain ⟨Ab, nb, zb, Aa, na, za, A, n, c, e, ⟨h1, h2, h3⟩, ⟨h4, h5, h6⟩, h7, h8, h9⟩ := h.known
  exact ⟨Ab, nb, zb, Aa, na, za, A, n, c, e, ⟨h1, h2, h3.below hb⟩, ⟨h4, h5, h6.below hb⟩, h7, h8, h9.below hb⟩
end Go.Proofs.YtlhfdhmmdnkojaaGreatDoor
namespace Go.Proofs.YtlhfdhmmdnkojaaGreatDoor
open Go.RowKit Dg
end Go.Proofs.YtlhfdhmmdnkojaaGreatDoor
namespace Go.Proofs.YtlhfdhmmdnkojaaGreatDoor
open Go.RowKit Dg
set_option linter.unusedVariables false
end Go.Proofs.YtlhfdhmmdnkojaaGreatDoor
namespace Go.Proofs.YtlhfdhmmdnkojaaGreatDoor
open Go.RowKit Dg
def pool6 (i : Nat) : ByteArray := if i = 0 then ⟨#[116]⟩ else if i = 1 then ⟨#[117]⟩ else ⟨#[118]⟩
theorem pool6_name (i : Nat) : nameF (pool6 i) = true := by
  unfold pool6
  split
  · decide
  · split <;> decide
def nm6 (s : ByteArray) (i : Nat) : ByteArray := if nameF s = true then s else pool6 i
theorem nm6_name (s : ByteArray) (i : Nat) : nameF (nm6 s i) = true := by
  unfold nm6; split
  · assumption
  · exact pool6_name i
/-- A table put where it belongs, if none of its name is there. -/
def insD (D : List Td) (x : Td) : List Td := if plD D x.nm = true then D else D.take (lbD D x.nm) ++ [x] ++ D.drop (lbD D x.nm)
def g6To (T : List Tb) : Nat → List Td
  | 0 => []
  | k + 1 => match T[k]? with
    | some x => insD (g6To T k) ⟨nm6 x.nm k, gdC x.L x.K, gdK x.L x.K⟩
    | none => g6To T k
theorem g6To_succ (T : List Tb) (k : Nat) (h : k < T.length) : g6To T (k + 1) = insD (g6To T k) ⟨nm6 T[k].nm k, gdC T[k].L T[k].K, gdK T[k].L T[k].K⟩ := by
  show (match T[k]? with | some x => _ | none => _) = _
  rw [List.getElem?_eq_getElem h]
/-- Tables that may be. -/
structure GoodD (D : List Td) : Prop where
  sort : SortD D
  ok : ∀ x ∈ D, nameF x.nm = true ∧ ∃ k : Nat, x.K = (k : Int) ∧ GoodS x.L k
theorem goodD_nil : GoodD [] := ⟨List.Pairwise.nil, fun _ h => by cases h⟩
theorem goodD_put {D : List Td} (h : GoodD D) {x : Td} (hp : plD D x.nm = false) (hx : nameF x.nm = true ∧ ∃ k : Nat, x.K = (k : Int) ∧ GoodS x.L k) : GoodD (D.take (lbD D x.nm) ++ [x] ++ D.drop (lbD D x.nm)) := by
  refine ⟨sortD_ins h.sort hp, fun y hy => ?_⟩
  rw [List.append_assoc, List.mem_append] at hy
  rcases hy with hy | hy
  · exact h.ok y (List.mem_of_mem_take hy)
  · rw [List.singleton_append, List.mem_cons] at hy
    rcases hy with rfl | hy
    · exact hx
    · exact h.ok y (List.mem_of_mem_drop hy)
theorem goodD_ins {D : List Td} (h : GoodD D) {x : Td} (hx : nameF x.nm = true ∧ ∃ k : Nat, x.K = (k : Int) ∧ GoodS x.L k) : GoodD (insD D x) := by
  unfold insD; split
  · exact h
  · next hp => exact goodD_put h (by simpa using hp) hx
theorem insD_len (D : List Td) (x : Td) : (insD D x).length ≤ D.length + 1 := by
  unfold insD; split
  · omega
  · simp; omega
theorem g6_good (T : List Tb) : ∀ k, GoodD (g6To T k) ∧ (g6To T k).length ≤ k
  | 0 => ⟨goodD_nil, by simp [g6To]⟩
  | k + 1 => by
    obtain ⟨h1, h2⟩ := g6_good T k
    by_cases hk : k < T.length
    · rw [g6To_succ T k hk]
      refine ⟨goodD_ins h1 ⟨nm6_name _ _, _, rfl, goodS_is _ _⟩, ?_⟩
      have := insD_len (g6To T k) ⟨nm6 T[k].nm k, gdC T[k].L T[k].K, gdK T[k].L T[k].K⟩
      omega
    · have e : g6To T (k + 1) = g6To T k := by
        show (match T[k]? with | some x => _ | none => _) = _
        rw [List.getElem?_eq_none (by omega)]
      rw [e]; exact ⟨h1, by omega⟩
/-- The same of tables that lie somewhere. -/
theorem goodT_sort {T : List Tb} (h : GoodD (tds T)) : SortT T := (sort_d T).2 h.sort
end Go.Proofs.YtlhfdhmmdnkojaaGreatDoor
namespace Go.Proofs.YtlhfdhmmdnkojaaGreatDoor
open Go.ChangeShapes Go.WideShapes Go.RowKit Go.Joins Go.Deep Go.Lib
set_option maxRecDepth 100000
section
variable {H : Type} {enc : TypeId × Value → H} {w : World} {base : Nat} {spare : Nat → Bool} {held : Bool}
end
end Go.Proofs.YtlhfdhmmdnkojaaGreatDoor
namespace Go.Proofs.YtlhfdhmmdnkojaaGreatDoor
open Go.ChangeShapes Go.WideShapes Go.RowKit Go.Joins Go.Deep Go.Lib
set_option maxRecDepth 100000
section
variable {H : Type} {enc : TypeId × Value → H} {w : World} {base : Nat} {spare : Nat → Bool} {held : Bool}
end
end Go.Proofs.YtlhfdhmmdnkojaaGreatDoor
namespace Go.Proofs.YtlhfdhmmdnkojaaGreatDoor
open Go.ChangeShapes Go.WideShapes Go.RowKit Go.Joins Go.Deep Go.Lib
set_option maxRecDepth 100000
theorem cellsT : Tryz.prog.cellsOf 79 = 3 := by kernel_rfl
def Tb.cells (x : Tb) : List Value := [.string x.nm, .slice x.A x.n x.c, .int .i64 x.K]
section
variable {H : Type} {enc : TypeId × Value → H} {w : World} {base : Nat} {spare : Nat → Bool} {held : Bool}
/-- A table's columns lie where they should, and what it has can be. -/
def TbIn (w : World) (x : Tb) : Prop := (x.L.length = x.n ∧ x.n ≤ x.c ∧ x.c ≤ maxLen ∧ CRow w x.A x.L) ∧ (∀ y ∈ x.L, y.fit) ∧ x.nm.size ≤ 140737488355328 ∧ -9223372036854775808 ≤ x.K ∧ x.K ≤ 9223372036854775807
theorem tab_in {fuel : Nat} {cs : List Value} {x : DataW H × List MemPlace} (h : DataW.trod enc Tryz.prog w base spare held fuel 79 cs = some x) (hl : Lite 79 x.1) :
    ∃ v : Tb, cs = v.cells ∧ TbIn w v := by
  obtain ⟨xs, n, _, hx, hc, hxl, hf⟩ := DataW.trod_struct Tryz.underlying79 h
  rw [cellsT] at hc
  match cs, hc with
  | [c0, c1, c2], _ =>
    match xs, hxl with
    | [y0, y1], _ =>
      have f0 := hf 0 _ rfl
      have f1 := hf 1 _ rfl
      simp [cellsS, cellsH] at f0 f1
      obtain ⟨s, e0, ey, _⟩ := DataW.trod_string Tryz.underlying9 f0
      have hsz := hl s.data.toList.length (by rw [hx]; simp [DataW.weights, Tryz.underlying79, DataW.weightsEach, ey])
      rw [bytes_size] at hsz
      obtain ⟨A, len, cap, L, K, e1, hL, hk1, hk2⟩ := sch_in f1 (fun n hn => hl n (by rw [hx]; simp only [DataW.weights, Tryz.underlying79]; simp [DataW.weightsEach]; exact .inr hn))
      simp at e0 e1
      obtain ⟨e1, e2⟩ := e1
      subst e0 e1 e2
      exact ⟨⟨s, A, len, cap, L, K⟩, rfl, ⟨hL.1, hL.2.1, hL.2.2.1, hL.2.2.2.1⟩, hL.2.2.2.2, reach_le hsz, hk1, hk2⟩
theorem tabs_in {fuel : Nat} {cs : List Value} {x : DataW H × List MemPlace} (h : DataW.trod enc Tryz.prog w base spare held fuel 22 cs = some x) (hl : Lite 22 x.1) :
    ∃ (A : Option Addr) (len cap : Nat) (L : List Tb), cs = [.slice A len cap] ∧ L.length = len ∧ len ≤ cap ∧ cap ≤ maxLen ∧ TRow w A L ∧ ∀ v ∈ L, TbIn w v := by
  rcases open_slice Tryz.underlying22 h with ⟨hcs, _⟩ | ⟨a, len, cap, m, n, D, Pl, hcs, _, hlc, hcm, hm, hx, hel⟩
  · exact ⟨none, 0, 0, [], hcs, rfl, Nat.le_refl _, Nat.zero_le _, fun h => absurd rfl h, fun _ h => by cases h⟩
  · have hlm : len ≤ m := by rw [hm]; split <;> omega
    have hv : ∀ i, i < len → ∃ v : Tb, TbIn w v ∧ ∀ j (hj : j < 3), w.cell? (a.add (i * 3 + j)) = v.cells[j]? := by
      intro i hi
      obtain ⟨cs', hc, ht⟩ := hel i (by omega)
      rw [cellsT] at hc
      obtain ⟨_, _, hat⟩ := World.cells?_some hc
      obtain ⟨v, e, hfit⟩ := tab_in ht (fun n hn => hl n (by
        rw [hx]
        simp only [DataW.weights, Tryz.underlying22]
        refine List.mem_cons_of_mem _ (List.mem_append_left _ (weights_in (d := D i) ?_ n hn))
        exact List.mem_map.2 ⟨i, List.mem_range.2 hi, rfl⟩))
      refine ⟨v, hfit, fun j hj => ?_⟩
      rw [← Go.Deep.add_add, hat j hj, e]
    have hL : ∃ L : List Tb, L.length = len ∧ (∀ v ∈ L, TbIn w v) ∧ ∀ i (hi : i < L.length), ∀ j, j < 3 → w.cell? (a.add (i * 3 + j)) = L[i].cells[j]? := by
      clear hx hel hm hlc hlm hcs
      induction len with
      | zero => exact ⟨[], rfl, fun _ h => (by cases h), fun i hi => absurd hi (by simp)⟩
      | succ len ih =>
        obtain ⟨L, h1, h2, h3⟩ := ih (fun i hi => hv i (by omega))
        obtain ⟨v, h4, h5⟩ := hv len (by omega)
        refine ⟨L ++ [v], by simp [h1], fun u hu => ?_, fun i hi j hj => ?_⟩
        · rcases List.mem_append.1 hu with h | h
          · exact h2 u h
          · rw [List.mem_singleton.1 h]; exact h4
        · by_cases hil : i < L.length
          · rw [List.getElem_append_left hil]; exact h3 i hil j hj
          · have e : i = len := by simp at hi; omega
            subst e
            rw [List.getElem_append_right (by omega)]
            simp only [h1, Nat.sub_self, List.getElem_cons_zero]
            exact h5 j hj
    obtain ⟨L, h1, h2, h3⟩ := hL
    refine ⟨some a, len, cap, L, hcs, h1, hlc, hcm, fun hne => ?_, h2⟩
    have h0 : 0 < L.length := List.length_pos_iff.2 hne
    obtain ⟨b, off, ha⟩ : ∃ b off, a = ⟨b, off, none⟩ := by
      have := h3 0 h0 0 (by omega)
      obtain ⟨b, off, spot⟩ := a
      have hspot : spot = none := by simpa [Addr.add] using World.cell?_spot this
      exact ⟨b, off, by rw [hspot]⟩
    subst ha
    refine ⟨b, off, rfl, fun i hi => ?_⟩
    have q0 := h3 i hi 0 (by omega)
    have q1 := h3 i hi 1 (by omega)
    have q2 := h3 i hi 2 (by omega)
    rw [Addr.add_lit] at q0 q1 q2
    exact ⟨q0, q1, q2⟩
/-- Tables that came in. -/
theorem tables_in {r : Reach} {b0 : Nat} {v : Value} {d : DataW H} {p : List MemPlace} (hv : Value.okWide Tryz.prog w r b0 22 v) (h : DataW.Trod enc Tryz.prog w base spare held 22 v d p) (hl : Lite 22 d) :
    ∃ (A : Option Addr) (len cap : Nat) (L : List Tb), v = .slice A len cap ∧ L.length = len ∧ len ≤ cap ∧ cap ≤ maxLen ∧ TRow w A L ∧ ∀ v ∈ L, TbIn w v := by
  obtain ⟨a, l, c, rfl⟩ := okWide_slice Tryz.underlying22 hv
  obtain ⟨fuel, hf⟩ := h
  obtain ⟨A, len, cap, L, hcs, h⟩ := tabs_in hf hl
  simp [Value.cells] at hcs
  obtain ⟨rfl, rfl, rfl⟩ := hcs
  exact ⟨_, _, _, L, rfl, h⟩
end
end Go.Proofs.YtlhfdhmmdnkojaaGreatDoor
namespace Go.Proofs.YtlhfdhmmdnkojaaGreatDoor
open Go.RowKit Dg
set_option maxRecDepth 100000
theorem g6_end (T : List Tb) (k : Nat) (h : T.length ≤ k) : ∀ j, g6To T (k + j) = g6To T k
  | 0 => rfl
  | j + 1 => by
    show (match T[k + j]? with | some x => _ | none => _) = _
    rw [List.getElem?_eq_none (by omega)]
    exact g6_end T k h j
theorem g6_three {T : List Tb} {k : Nat} (h : T.length ≤ k) (hk : k ≤ 3) : g6To T 3 = g6To T k := by
  have := g6_end T k h (3 - k)
  rwa [show k + (3 - k) = 3 by omega] at this
/-- How the memory stands while Good goes on. -/
structure G6 (w : World) (Ti : List Tb) (k : Nat) (wr : World) (v : Value) (T : List Tb) : Prop where
  own : OwnT (w.heap.size + 1) wr v T
  bel : Below w.heap.size w wr
  pool : Has wr w.heap.size 9 #[.string ⟨#[116]⟩, .string ⟨#[117]⟩, .string ⟨#[118]⟩]
  td : tds T = g6To Ti k
  ok : TOks wr T
  col : ∀ x ∈ T, OwnC (w.heap.size + 1) wr (.slice x.A x.n x.c) x.L
theorem G6.below {w wr w' : World} {Ti : List Tb} {k : Nat} {v : Value} {T : List Tb} (h : G6 w Ti k wr v T) (hb : Below wr.heap.size wr w') : G6 w Ti k w' v T :=
  ⟨h.own.below hb, h.bel.trans (hb.mono h.bel.size), h.pool.below hb h.pool.lt, h.td, h.ok.below hb, fun x hx => (h.col x hx).below hb⟩
theorem G6.stay {w wr : World} {Ti : List Tb} {k : Nat} {v : Value} {T : List Tb} (h : G6 w Ti k wr v T) (hk : k < Ti.length) (hp : plF T (nm6 Ti[k].nm k) = true) : G6 w Ti (k + 1) wr v T :=
  ⟨h.own, h.bel, h.pool, by rw [g6To_succ Ti k hk, ← h.td]; unfold insD; rw [← plF_d, if_pos hp], h.ok, h.col⟩
theorem G6.more {w wr w' : World} {Ti : List Tb} {k : Nat} {v v' : Value} {T : List Tb} {A' : Option Addr} {n' c' : Nat} (h : G6 w Ti k wr v T) (hk : k < Ti.length) (hp : plF T (nm6 Ti[k].nm k) = false) (hb : Below wr.heap.size wr w')
    (hx : OwnC wr.heap.size w' (.slice A' n' c') (gdC Ti[k].L Ti[k].K)) (ho : OwnT (w.heap.size + 1) w' v' (T.take (lbN T (nm6 Ti[k].nm k)) ++ [⟨nm6 Ti[k].nm k, A', n', c', gdC Ti[k].L Ti[k].K, gdK Ti[k].L Ti[k].K⟩] ++ T.drop (lbN T (nm6 Ti[k].nm k)))) :
    G6 w Ti (k + 1) w' v' (T.take (lbN T (nm6 Ti[k].nm k)) ++ [⟨nm6 Ti[k].nm k, A', n', c', gdC Ti[k].L Ti[k].K, gdK Ti[k].L Ti[k].K⟩] ++ T.drop (lbN T (nm6 Ti[k].nm k))) := by
  refine ⟨ho, h.bel.trans (hb.mono h.bel.size), h.pool.below hb h.pool.lt, ?_, ?_, ?_⟩
  · rw [g6To_succ Ti k hk, ← h.td, tds_ins]
    unfold insD
    rw [← plF_d, if_neg (by rw [hp]; simp), ← lbN_d]
    rfl
  · intro x hx'
    rw [List.append_assoc, List.mem_append] at hx'
    rcases hx' with hx' | hx'
    · exact (h.ok x (List.mem_of_mem_take hx')).below hb
    · rw [List.singleton_append, List.mem_cons] at hx'
      rcases hx' with rfl | hx'
      · obtain ⟨A, c, e, h1, h2, h3, h4⟩ := ownC_row hx
        injection e with e1 e2 e3
        subst e1 e3
        have h9 := (goodS_is Ti[k].L Ti[k].K).len.2
        exact ⟨e2.symm, by show n' ≤ c'; omega, h2, h3, h4, by show n' ≤ 900; omega⟩
      · exact (h.ok x (List.mem_of_mem_drop hx')).below hb
  · intro x hx'
    rw [List.append_assoc, List.mem_append] at hx'
    rcases hx' with hx' | hx'
    · exact (h.col x (List.mem_of_mem_take hx')).below hb
    · rw [List.singleton_append, List.mem_cons] at hx'
      rcases hx' with rfl | hx'
      · exact ownC_down hx h.pool.lt
      · exact (h.col x (List.mem_of_mem_drop hx')).below hb
theorem fcE_good {T : List Tb} {tn : ByteArray} {L : List Cl} {k : Nat} (hn : nameF tn = true) (hG : GoodS L k) (h6 : T.length < 64) : fcE T tn L k = if plF T tn = true then 8 else 0 := by
  cases hp : plF T tn
  · rw [fcE_ok hn hp (goodS_may _ _ hG) h6]; rfl
  · rw [fcE_there hn hp]; rfl
set_option maxHeartbeats 4000000 in
theorem rgood6_own (A : Option Addr) (Ti : List Tb) (n c : Nat) (w : World) (hn : Ti.length = n) (hA : TRow w A Ti) (hI : ∀ x ∈ Ti, TbIn w x) :
    Calls Tryz.prog 12 #[.slice A n c] w fun e w' => ∃ v T, e = .returned v ∧ Hid (OwnT w.heap.size w' v T) ∧ Hid (tds T = g6To Ti 3) ∧ Hid (TOks w' T) ∧ Hid (∀ x ∈ T, OwnC w.heap.size w' (.slice x.A x.n x.c) x.L) ∧ Hid (Below w.heap.size w w') := by
  have HN := Lib.hid hn
  have HA := Lib.hid hA
  have HI := Lib.hid hI
  clear hn hA hI
  go_enter Tryz.func12, Tryz.ntmps12
  go_wp2_with fail
  go_loopw [3, 5] (fun v i wr => ∃ (k : Nat) (T : List Tb), k ≤ n ∧ k ≤ 3 ∧ i = .int .i64 k ∧ Hid (G6 w Ti k wr v T)) (fun _ i _ => n - (intOf i).toNat)
  case atStart => exact ⟨0, [], by omega, by omega, rfl, ownT_nil _ _, (Below.refl w.heap.size w).alloc (Nat.le_refl _) _, Has.new w 9 _, rfl, (fun x hx => by cases hx), fun x hx => by cases hx⟩
  case round =>
    obtain ⟨k, T, hk, hk3, rfl, HS⟩ := hrel
    obtain ⟨A7, n7, c7, rfl, HN7, hnc7, hcm7, HV7, HZ7⟩ := ownT_open HS.out.own
    by_cases hlt : k < n
    · by_cases hl3 : k < 3
      · have hkl : k < Ti.length := by rw [HN.out]; exact hlt
        obtain ⟨b, off, rfl, hc⟩ := (HA.out.below HS.out.bel) (by intro e; rw [e] at hkl; simp at hkl)
        obtain ⟨c0, c1, c2⟩ := hc k hkl
        have hx := HI.out Ti[k] (List.getElem_mem hkl)
        have hkz : (k : Int) < (n : Int) := by omega
        have hkz3 : (k : Int) < 3 := by omega
        have hp0 : wr.cell? ⟨w.heap.size, k, none⟩ = some (.string (pool6 k)) := by
          have : k = 0 ∨ k = 1 ∨ k = 2 := by omega
          rcases this with rfl | rfl | rfl
          · exact HS.out.pool.cell 0
          · exact HS.out.pool.cell 1
          · exact HS.out.pool.cell 2
        have hg := g6_good Ti k
        rw [← HS.out.td] at hg
        have HGD := Lib.hid hg
        have hSrt := goodT_sort hg.1
        have h7 : n7 ≤ 3 := by have h1 := HN7.out; have h2 := hg.2; rw [tds_len] at h2; omega
        have HGO := Lib.hid (rgood_any Ti[k].A Ti[k].L Ti[k].n Ti[k].c Ti[k].K wr hx.1.1 hx.1.2.1 hx.1.2.2.1 (hx.1.2.2.2.below HS.out.bel) hx.2.1 hx.2.2.2.1 hx.2.2.2.2)
        have HNM := Lib.hid (nm6_name Ti[k].nm k)
        have HGS := Lib.hid (goodS_is Ti[k].L Ti[k].K)
        have HFO : Hid (∀ (s : ByteArray) (A8 : Option Addr) (n8 c8 : Nat) (W : World), Hid (OwnC wr.heap.size W (.slice A8 n8 c8) (gdC Ti[k].L Ti[k].K)) → Hid (Below wr.heap.size wr W) → Calls Tryz.prog 43 #[.slice A7 n7 c7, .agg #[.int .i64 1, .string s, .slice A8 n8 c8, .int .i64 (gdK Ti[k].L Ti[k].K), .string ⟨#[]⟩, .int .i64 0, .bool false]] W fun e w' => ∃ v, e = .returned (.tuple #[v, .int .i64 (fcE T s (gdC Ti[k].L Ti[k].K) (gdK Ti[k].L Ti[k].K))]) ∧ Hid (OwnT W.heap.size w' v (fcT T s A8 n8 c8 (gdC Ti[k].L Ti[k].K) (gdK Ti[k].L Ti[k].K))) ∧ Hid (Below W.heap.size W w')) := fun s A8 n8 c8 W ho hb => by
          have hr := HV7.out.below hb.out
          obtain ⟨A, c9, e, _, _, h3, _⟩ := ownC_row ho.out
          injection e with e1 e2 e3
          subst e1
          exact rfolC_any A7 T n7 c7 s A8 n8 c8 _ _ _ _ _ W HN7.out hnc7 hcm7 (by omega) hr HZ7.out hSrt e2.symm h3
        have HST := Lib.hid (fun hp => HS.out.stay hkl hp)
        have HMR := Lib.hid (fun (w' : World) (v' : Value) (A8 : Option Addr) (n8 c8 : Nat) hp hb hx ho => HS.out.more (w' := w') (v' := v') (A' := A8) (n' := n8) (c' := c8) hkl hp hb hx ho)
        have hsz : w.heap.size + 1 ≤ wr.heap.size := HS.out.pool.lt
        clear hc hx hg hSrt HV7 HZ7
        obtain ⟨nm, hnm⟩ : ∃ nm, nm6 Ti[k].nm k = nm := ⟨_, rfl⟩
        have hnmd : nm = if nameF Ti[k].nm = true then Ti[k].nm else pool6 k := hnm.symm
        rw [hnm] at HST HMR HNM
        clear hnm
        generalize gdC Ti[k].L Ti[k].K = GL at *
        generalize gdK Ti[k].L Ti[k].K = GK at *
        generalize Ti[k] = x at *
        obtain ⟨xs, xA, xn, xc, xL, xK⟩ := x
        simp only at c0 c1 c2 HGO hnmd
        rcases hqn : nameF xs with _ | _
        · obtain rfl : nm = pool6 k := by rw [hnmd, hqn]; simp
          clear hnmd
          go_wp2_with fail
          refine (refName_any xs _).mono ?_
          rintro e w1 ⟨rfl, rfl⟩
          rw [hqn]
          go_wp2_with fail
          refine HGO.out.mono ?_
          rintro e w2 ⟨v8, rfl, ho8, hb8⟩
          obtain ⟨A8, n8, c8, rfl, _, _, _, _, _⟩ := ownC_open ho8.out
          have HB8 := Lib.hid hb8.out
          have HO8 := Lib.hid ho8.out
          clear hb8 ho8 c0 c1 c2 HGO
          go_wp2_with fail
          refine (HFO.out _ A8 n8 c8 w2 HO8 HB8).mono ?_
          rintro e w3 ⟨v9, rfl, ho9, hb9⟩
          have hE := fcE_good (T := T) HNM.out HGS.out (by have := HN7.out; omega)
          rcases hp : plF T (pool6 k) with _ | _
          · have HE : Hid (fcE T (pool6 k) GL GK = 0) := by show _ = _; rw [hE, hp]; simp
            rw [fcT_ok HE.out] at ho9
            rw [HE.out]
            have HS3 := Lib.hid (HMR.out w3 v9 A8 n8 c8 hp (HB8.out.trans (hb9.out.mono HB8.out.size)) (HO8.out.below hb9.out) (ownT_down ho9.out (by have := HB8.out.size; omega)))
            obtain ⟨A9, n9, c9, rfl, _, _, _, _, _⟩ := ownT_open ho9.out
            clear hE ho9 hb9
            go_wp2_with fail
            go_roundw
            case rel => exact ⟨k + 1, _, by omega, by omega, by go_num, HS3⟩
            case measure => simp [intOf]; omega
          · have HE : Hid (fcE T (pool6 k) GL GK = 8) := by show _ = _; rw [hE, hp]; simp
            rw [HE.out]
            have HS3 := Lib.hid ((HST.out hp).below (HB8.out.trans (hb9.out.mono HB8.out.size)))
            rw [fcT_bad (by rw [HE.out]; omega)] at ho9
            obtain ⟨A9, n9, c9, rfl, _, _, _, _, _⟩ := ownT_open ho9.out
            clear hE ho9 hb9
            go_wp2_with fail
            go_roundw
            case rel => exact ⟨k + 1, _, by omega, by omega, by go_num, HS3⟩
            case measure => simp [intOf]; omega
        · obtain rfl : xs = nm := by rw [hnmd, hqn]; simp
          clear hnmd
          go_wp2_with fail
          refine (refName_any xs _).mono ?_
          rintro e w1 ⟨rfl, rfl⟩
          rw [hqn]
          go_wp2_with fail
          refine HGO.out.mono ?_
          rintro e w2 ⟨v8, rfl, ho8, hb8⟩
          obtain ⟨A8, n8, c8, rfl, _, _, _, _, _⟩ := ownC_open ho8.out
          have HB8 := Lib.hid hb8.out
          have HO8 := Lib.hid ho8.out
          clear hb8 ho8 c0 c1 c2 HGO
          go_wp2_with fail
          refine (HFO.out _ A8 n8 c8 w2 HO8 HB8).mono ?_
          rintro e w3 ⟨v9, rfl, ho9, hb9⟩
          have hE := fcE_good (T := T) HNM.out HGS.out (by have := HN7.out; omega)
          rcases hp : plF T xs with _ | _
          · have HE : Hid (fcE T xs GL GK = 0) := by show _ = _; rw [hE, hp]; simp
            rw [fcT_ok HE.out] at ho9
            rw [HE.out]
            have HS3 := Lib.hid (HMR.out w3 v9 A8 n8 c8 hp (HB8.out.trans (hb9.out.mono HB8.out.size)) (HO8.out.below hb9.out) (ownT_down ho9.out (by have := HB8.out.size; omega)))
            obtain ⟨A9, n9, c9, rfl, _, _, _, _, _⟩ := ownT_open ho9.out
            clear hE ho9 hb9
            go_wp2_with fail
            go_roundw
            case rel => exact ⟨k + 1, _, by omega, by omega, by go_num, HS3⟩
            case measure => simp [intOf]; omega
          · have HE : Hid (fcE T xs GL GK = 8) := by show _ = _; rw [hE, hp]; simp
            rw [HE.out]
            have HS3 := Lib.hid ((HST.out hp).below (HB8.out.trans (hb9.out.mono HB8.out.size)))
            rw [fcT_bad (by rw [HE.out]; omega)] at ho9
            obtain ⟨A9, n9, c9, rfl, _, _, _, _, _⟩ := ownT_open ho9.out
            clear hE ho9 hb9
            go_wp2_with fail
            go_roundw
            case rel => exact ⟨k + 1, _, by omega, by omega, by go_num, HS3⟩
            case measure => simp [intOf]; omega
      · obtain rfl : k = 3 := by omega
        go_wp2_with fail
        go_ret
        exact ⟨_, T, rfl, ownT_down HS.out.own (by omega), HS.out.td, HS.out.ok, (fun x hx => ownC_down (HS.out.col x hx) (Nat.le_succ _)), HS.out.bel⟩
    · obtain rfl : k = n := by omega
      have hkz : ¬ (k : Int) < (k : Int) := by omega
      go_wp2_with fail
      go_ret
      first
        | exact ⟨_, T, rfl, ownT_down HS.out.own (by have := HS.out.pool.lt; omega), by rw [HS.out.td]; exact (g6_three (by rw [HN.out]; omega) hk3).symm, HS.out.ok, (fun x hx => ownC_down (HS.out.col x hx) (Nat.le_succ _)), HS.out.bel⟩
        | exact ⟨_, rfl, T, ownT_down HS.out.own (by have := HS.out.pool.lt; omega), by rw [HS.out.td]; exact (g6_three (by rw [HN.out]; omega) hk3).symm, HS.out.ok, (fun x hx => ownC_down (HS.out.col x hx) (Nat.le_succ _)), HS.out.bel⟩
theorem rgood6_any (A : Option Addr) (Ti : List Tb) (n c : Nat) (w : World) (hn : Ti.length = n) (hA : TRow w A Ti) (hI : ∀ x ∈ Ti, TbIn w x) :
    Calls Tryz.prog 12 #[.slice A n c] w fun e w' => ∃ v T, e = .returned v ∧ Hid (OwnT w.heap.size w' v T) ∧ Hid (tds T = g6To Ti 3) ∧ Hid (TOks w' T) ∧ Hid (Below w.heap.size w w') :=
  (rgood6_own A Ti n c w hn hA hI).mono fun e w' h => by
    obtain ⟨v, T, h1, h2, h3, h4, _, h5⟩ := h
    exact ⟨v, T, h1, h2, h3, h4, h5⟩
end Go.Proofs.YtlhfdhmmdnkojaaGreatDoor
namespace Go.Proofs.YtlhfdhmmdnkojaaGreatDoor
open Go.RowKit Dg
end Go.Proofs.YtlhfdhmmdnkojaaGreatDoor
namespace Go.Proofs.YtlhfdhmmdnkojaaGreatDoor
open Go.RowKit Dg
structure D6 (w wr : World) (v : Value) (M : List Cl) (P : Array Value) : Prop where
  own : OwnC (w.heap.size + 2) wr v M
  bel : Below w.heap.size w wr
  prm : Has wr w.heap.size 31 P
  res : Has wr (w.heap.size + 1) 31 #[.int .i64 0, .string ⟨#[]⟩, .slice none 0 0, .int .i64 0, .string ⟨#[]⟩, .int .i64 0, .bool false]
  big : w.heap.size + 2 ≤ wr.heap.size
section
variable {w wr w' : World} {v : Value} {M : List Cl} {P : Array Value}
theorem D6.below (h : D6 w wr v M P) (hb : Below wr.heap.size wr w') : D6 w w' v M P :=
  ⟨h.own.below hb, h.bel.trans (hb.mono h.bel.size), h.prm.below hb h.prm.lt, h.res.below hb h.res.lt, Nat.le_trans h.big hb.size⟩
theorem D6.grown (h : D6 w wr v M P) {R : Value} {M' : List Cl} (ho : OwnC (w.heap.size + 2) w' R M') (hb : Below (w.heap.size + 2) wr w') : D6 w w' R M' P :=
  ⟨ho, h.bel.trans (hb.mono (by omega)), h.prm.below hb (by omega), h.res.below hb (by omega), Nat.le_trans h.big hb.size⟩
end
end Go.Proofs.YtlhfdhmmdnkojaaGreatDoor
namespace Go.Proofs.YtlhfdhmmdnkojaaGreatDoor
open Go.RowKit Go.Shelf Go.Maps Dg
theorem ptOk_good14 (x y z : Int) (L : List Wk) : ptOk (absP x) (absP y) (absP z) (goodW L) = true := by
  unfold ptOk
  rw [decide_eq_true (absP_ge x), decide_eq_true (absP_ge y), decide_eq_true (absP_ge z), wright_of (goodW_sort L) (fun x hx => (goodW_good L x hx).may)]
  rfl
theorem tbIn_below {w w' : World} {x : Tb} (h : TbIn w x) (hb : Below w.heap.size w w') : TbIn w' x := ⟨⟨h.1.1, h.1.2.1, h.1.2.2.1, h.1.2.2.2.below hb⟩, h.2⟩
theorem bs_zero (l : List Nat) : (⟨#[0]⟩ : ByteArray) ++ bs l = bs (0 :: l) := by
  have : (⟨#[0]⟩ : ByteArray) = bs [0] := by decide +kernel
  rw [this, ← bs_append]
  rfl
theorem pt_len14 {X Y Z : Nat} {T : List Wk} (hT : Short T) (hl : T.length ≤ 6) (hx : X ≤ 9223372036854775807) (hy : Y ≤ 9223372036854775807) (hz : Z ≤ 9223372036854775807) : (ptB (X : Int) (Y : Int) (Z : Int) T).length ≤ 100000 := by
  unfold ptB
  rw [List.length_append]
  have h1 := numsB_len X Y Z T.length (by omega) (by omega) (by omega) (by omega)
  have h2 := worksB_len hT T.length (Nat.le_refl _)
  simp only [Int.toNat_natCast]
  have h3 : 1821 * T.length ≤ 1821 * 6 := Nat.mul_le_mul_left _ hl
  omega
end Go.Proofs.YtlhfdhmmdnkojaaGreatDoor
namespace Go.Proofs.YtlhfdhmmdnkojaaGreatDoor.walEmpty
open Go.RowKit Go.Shelf Go.Maps Dg
set_option maxRecDepth 100000
set_option linter.unusedVariables false
set_option maxHeartbeats 4000000 in
theorem walk (A0 : Option Addr) (n0 c0 : Nat) (Ti : List Tb) (x y z : Int) (A : Option Addr) (n c : Nat) (L : List Wk) (w : World) (hn0 : Ti.length = n0) (hc0 : n0 ≤ c0) (hm0 : c0 ≤ maxLen) (hA0 : TRow w A0 Ti) (hI0 : ∀ x ∈ Ti, TbIn w x) (hx : -9223372036854775808 ≤ x ∧ x ≤ 9223372036854775807) (hy : -9223372036854775808 ≤ y ∧ y ≤ 9223372036854775807) (hz : -9223372036854775808 ≤ z ∧ z ≤ 9223372036854775807) (hn : L.length = n) (hnc : n ≤ c) (hcm : c ≤ maxLen) (hr : WRow w A L) (hf : ∀ x ∈ L, Wk.fit x) (hT : Tabs w) :
    Calls Tryz.prog 11 #[.slice A0 n0 c0, .agg #[.int .i64 x, .int .i64 y, .int .i64 z, .slice A n c]] w fun e w' => e = .returned (.bool true) ∧ Below w.heap.size w w' := by
  have hb0 : Below w.heap.size w (w.alloc (.cells #[.int .i64 x, .int .i64 y, .int .i64 z, .slice A n c] 67)) := (Below.refl _ w).alloc (Nat.le_refl _) _
  have HX0 := Lib.hid (Has.new w 67 #[.int .i64 x, .int .i64 y, .int .i64 z, .slice A n c])
  have HG := Lib.hid (rgood6_any A0 Ti n0 c0 _ hn0 (hA0.below hb0) (fun x hx => tbIn_below (hI0 x hx) hb0))
  have HPT := Lib.hid (fun (W : World) (hb : Below w.heap.size w W) => rpoint14_any x y z W hn hnc hcm (hr.below hb) hf hx hy hz)
  have HT := Lib.hid hT
  have HB0 := Lib.hid hb0
  clear hn0 hA0 hI0 hn hr hf hT
  go_enter Tryz.func11, Tryz.ntmps11
  go_wp2_with fail
  refine HG.out.mono ?_
  rintro e w1 ⟨v1, T1, rfl, ho1, _, hk1, hb1⟩
  obtain ⟨A1, n1, c1, rfl, hn1, hc1, hm1, hr1, hz1⟩ := ownT_open ho1.out
  have HB1 := Lib.hid (HB0.out.trans (hb1.out.mono HB0.out.size))
  have HX1 := Lib.hid (HX0.out.below hb1.out HX0.out.lt)
  clear HG HX0 HB0 ho1 hr1 hz1 hk1 hb1 hb0
  have x0 := HX1.out.cell 0
  have x1 := HX1.out.cell 1
  have x2 := HX1.out.cell 2
  have x3 := HX1.out.cell 3
  go_wp2_with fail
  refine (HPT.out w1 HB1.out).mono ?_
  rintro e w2 ⟨v2, rfl, ho2, hb2⟩
  have hok := ptOk_good14 x y z L
  have hgl := goodW_len L
  have HGG := Lib.hid (goodW_good L)
  obtain ⟨XX, hXX⟩ : ∃ k : Nat, absP x = (k : Int) := ⟨(absP x).toNat, by have := absP_ge x; omega⟩
  obtain ⟨Y, hY⟩ : ∃ k : Nat, absP y = (k : Int) := ⟨(absP y).toNat, by have := absP_ge y; omega⟩
  obtain ⟨Z, hZ⟩ : ∃ k : Nat, absP z = (k : Int) := ⟨(absP z).toNat, by have := absP_ge z; omega⟩
  have bX : XX ≤ 9223372036854775807 := by have : absP x ≤ 9223372036854775807 := (by unfold absP; split <;> omega); omega
  have bY : Y ≤ 9223372036854775807 := by have : absP y ≤ 9223372036854775807 := (by unfold absP; split <;> omega); omega
  have bZ : Z ≤ 9223372036854775807 := by have : absP z ≤ 9223372036854775807 := (by unfold absP; split <;> omega); omega
  rw [hXX, hY, hZ] at hok
  rw [hXX, hY, hZ]
  obtain ⟨G, hG⟩ : ∃ q, goodW L = q := ⟨_, rfl⟩
  rw [hG] at hok hgl HGG ho2
  have HOK := Lib.hid hok
  have HGS : Hid (Short G) := fun x hx => by have := (HGG.out x hx).sizes; omega
  have HSZ : Hid (∀ x ∈ G, x.t.size ≤ 32 ∧ x.k.size ≤ 900) := fun x hx => by have := (HGG.out x hx).sizes; omega
  have HPL := Lib.hid (pt_len14 HGS.out (by omega) bX bY bZ)
  have HPOS : Hid (0 < (ptB (XX : Int) (Y : Int) (Z : Int) G).length) := by
    show _ < _
    unfold ptB numsB
    have := digs_pos ((XX : Int).toNat)
    simp only [List.length_append]
    omega
  have HB2 := Lib.hid (HB1.out.trans (hb2.out.mono HB1.out.size))
  have HG2 := Lib.hid (ownW_down ho2.out HB1.out.size)
  clear ho2 hb2 hok hXX hY hZ hG HX1 HB1 HPT x0 x1 x2 x3
  obtain ⟨A5, n5, c5, rfl, _, _, _, _, _⟩ := ownW_open HG2.out
  have HY3 := Lib.hid (Has.new w2 67 #[.int .i64 (XX : Int), .int .i64 (Y : Int), .int .i64 (Z : Int), .slice A5 n5 c5])
  have hw3 : Below w2.heap.size w2 (w2.alloc (.cells #[.int .i64 (XX : Int), .int .i64 (Y : Int), .int .i64 (Z : Int), .slice A5 n5 c5] 67)) := (Below.refl _ w2).alloc (Nat.le_refl _) _
  have HB3 := Lib.hid (HB2.out.trans (hw3.mono HB2.out.size))
  have HG3 := Lib.hid (HG2.out.below hw3)
  clear hw3 HG2 HB2
  go_wp2_with fail
  obtain ⟨W3, hW3⟩ : ∃ W, W = w2.alloc (.cells #[.int .i64 (XX : Int), .int .i64 (Y : Int), .int .i64 (Z : Int), .slice A5 n5 c5] 67) := ⟨_, rfl⟩
  rw [← hW3] at HY3 HG3 HB3 ⊢
  clear hW3
  generalize w2.heap.size = q6 at *
  have y0 := HY3.out.cell 0
  have y1 := HY3.out.cell 1
  have y2 := HY3.out.cell 2
  have y3 := HY3.out.cell 3
  refine (wwrite0_any A1 n1 c1 none 0 (XX : Int) (Y : Int) (Z : Int) W3 HG3.out HGS.out (by omega) (by omega) (by omega) (by omega) (HT.out.below HB3.out) HOK.out (by have := HPL.out; omega)).mono ?_
  rintro e w4 ⟨v4, rfl, ho4, hb4⟩
  obtain ⟨A7, n7, c7, rfl, HL7, HR4, _⟩ := own_open ho4.out (by simp)
  have HNC : Hid (n7 ≤ c7) := by
    obtain ⟨A', c', e, h, _⟩ := own_full ho4.out
    injection e with e1 e2 e3
    show n7 ≤ c7
    rw [e2, e3]
    exact h
  have HB4 := Lib.hid (HB3.out.trans (hb4.out.mono HB3.out.size))
  have HY4 := Lib.hid (HY3.out.below hb4.out HY3.out.lt)
  have HG4 := Lib.hid (HG3.out.below hb4.out)
  clear ho4 hb4 HY3 HG3 HB3 y0 y1 y2 y3
  have y0 := HY4.out.cell 0
  have y1 := HY4.out.cell 1
  have y2 := HY4.out.cell 2
  have y3 := HY4.out.cell 3
  go_wp2_with fail
  refine (wwrite0_any none 0 0 none 0 (XX : Int) (Y : Int) (Z : Int) w4 HG4.out HGS.out (by omega) (by omega) (by omega) (by omega) (HT.out.below HB4.out) HOK.out (by have := HPL.out; omega)).mono ?_
  rintro e w5 ⟨v5, rfl, ho5, hb5⟩
  obtain ⟨A8, n8, c8, rfl, HL8, HU5, _⟩ := own_open ho5.out (by simp)
  have HB5 := Lib.hid (HB4.out.trans (hb5.out.mono HB4.out.size))
  have HY5 := Lib.hid (HY4.out.below hb5.out HY4.out.lt)
  have HG5 := Lib.hid (HG4.out.below hb5.out)
  have HR5 := Lib.hid (HR4.out.below hb5.out)
  clear ho5 hb5 HY4 HG4 HB4 HR4 y0 y1 y2 y3
  have HRD := Lib.hid (wread0_any XX Y Z G A1 n1 c1 A7 n7 c7 w5 HR5.out (by have := HL7.out; simpa using this) HNC.out (by have := HL7.out; have := HPL.out; simp at *; omega) bX bY bZ (by omega) HSZ.out (HT.out.below HB5.out) HOK.out)
  go_wp2_with fail
  refine HRD.out.mono ?_
  rintro e w6 ⟨v6, rfl, ho6, hb6⟩
  have HB6 := Lib.hid (HB5.out.trans (hb6.out.mono HB5.out.size))
  have HY6 := Lib.hid (HY5.out.below hb6.out HY5.out.lt)
  have HG6 := Lib.hid (HG5.out.below hb6.out)
  have HR6 := Lib.hid (HR5.out.below hb6.out)
  have HU6 := Lib.hid (HU5.out.below hb6.out)
  have HV6 := Lib.hid (ownW_down ho6.out HB5.out.size)
  clear HRD ho6 hb6 HB5 HY5 HG5 HR5 HU5
  obtain ⟨A9, n9, c9, rfl, _, _, _, _, _⟩ := ownW_open HV6.out
  have HQ9 := Lib.hid (Has.new w6 67 #[.int .i64 (XX : Int), .int .i64 (Y : Int), .int .i64 (Z : Int), .slice A9 n9 c9])
  have hw9 : Below w6.heap.size w6 (w6.alloc (.cells #[.int .i64 (XX : Int), .int .i64 (Y : Int), .int .i64 (Z : Int), .slice A9 n9 c9] 67)) := (Below.refl _ w6).alloc (Nat.le_refl _) _
  have HB9 := Lib.hid (HB6.out.trans (hw9.mono HB6.out.size))
  have HY9 := Lib.hid (HY6.out.below hw9 HY6.out.lt)
  have HG9 := Lib.hid (HG6.out.below hw9)
  have HR9 := Lib.hid (HR6.out.below hw9)
  have HU9 := Lib.hid (HU6.out.below hw9)
  have HV9 := Lib.hid (HV6.out.below hw9)
  clear hw9 HB6 HY6 HG6 HR6 HU6 HV6
  go_wp2_with fail
  obtain ⟨W9, hW9⟩ : ∃ W, W = w6.alloc (.cells #[.int .i64 (XX : Int), .int .i64 (Y : Int), .int .i64 (Z : Int), .slice A9 n9 c9] 67) := ⟨_, rfl⟩
  rw [← hW9] at HQ9 HY9 HG9 HR9 HU9 HV9 HB9 ⊢
  clear hW9
  generalize w6.heap.size = q9 at *
  obtain ⟨s7, hs7⟩ : ∃ s, bs (0 :: ptB (XX : Int) (Y : Int) (Z : Int) G) = s := ⟨_, rfl⟩
  obtain ⟨sP, hsP⟩ : ∃ s, bs (ptB (XX : Int) (Y : Int) (Z : Int) G) = s := ⟨_, rfl⟩
  have HSP := Lib.hid hsP
  have hcat : (⟨#[0]⟩ : ByteArray) ++ sP = s7 := by rw [← hsP, ← hs7, bs_zero]
  have hcc : ¬ (9223372036854775807 < (⟨#[0]⟩ : ByteArray).size + sP.size) := by rw [← hsP, bs_size]; have := HPL.out; show ¬ (_ < 1 + _); omega
  have hcc2 : ¬ (9223372036854775807 < 1 + sP.size) := hcc
  have HS7 := Lib.hid hs7
  clear hs7 hsP
  obtain ⟨w10, hw10⟩ : ∃ W, W = W9.drew := ⟨_, rfl⟩
  have hb10 : Below W9.heap.size W9 w10 := by rw [hw10]; exact (Below.refl _ W9).drew
  have HY10 := Lib.hid (HY9.out.below hb10 HY9.out.lt)
  have HQ10 := Lib.hid (HQ9.out.below hb10 HQ9.out.lt)
  have HG10 := Lib.hid (HG9.out.below hb10)
  have HV10 := Lib.hid (HV9.out.below hb10)
  have HR10 := Lib.hid (HR9.out.below hb10)
  have HU10 := Lib.hid (HU9.out.below hb10)
  have HB10 := Lib.hid (HB9.out.trans (hb10.mono HB9.out.size))
  have hS10 : (fun X : World => X.cell? ⟨q6, 0, none⟩ = some (.int .i64 (XX : Int)) ∧ X.cell? ⟨q6, 1, none⟩ = some (.int .i64 (Y : Int)) ∧ X.cell? ⟨q6, 2, none⟩ = some (.int .i64 (Z : Int)) ∧ X.cell? ⟨q6, 3, none⟩ = some (.slice A5 n5 c5) ∧ X.cell? ⟨q9, 0, none⟩ = some (.int .i64 (XX : Int)) ∧ X.cell? ⟨q9, 1, none⟩ = some (.int .i64 (Y : Int)) ∧ X.cell? ⟨q9, 2, none⟩ = some (.int .i64 (Z : Int)) ∧ X.cell? ⟨q9, 3, none⟩ = some (.slice A9 n9 c9) ∧ Sem.run Tryz.prog (convert 37 9 (.slice A7 n7 c7)) X = .ok (.string s7) X ∧ Sem.run Tryz.prog (convert 37 9 (.slice A8 n8 c8)) X = .ok (.string s7) X) w10 := ⟨HY10.out.cell 0, HY10.out.cell 1, HY10.out.cell 2, HY10.out.cell 3, HQ10.out.cell 0, HQ10.out.cell 1, HQ10.out.cell 2, HQ10.out.cell 3, (by rw [conv_len _ A7 _ n7 c7 HL7.out HR10.out, HS7.out]), (by rw [conv_len _ A8 _ n8 c8 HL8.out HU10.out, HS7.out])⟩
  clear HY9 HQ9 HG9 HV9 HR9 HU9 HB9
  have hS10' : (fun X : World => X.cell? ⟨q6, 0, none⟩ = some (.int .i64 (XX : Int)) ∧ X.cell? ⟨q6, 1, none⟩ = some (.int .i64 (Y : Int)) ∧ X.cell? ⟨q6, 2, none⟩ = some (.int .i64 (Z : Int)) ∧ X.cell? ⟨q6, 3, none⟩ = some (.slice A5 n5 c5) ∧ X.cell? ⟨q9, 0, none⟩ = some (.int .i64 (XX : Int)) ∧ X.cell? ⟨q9, 1, none⟩ = some (.int .i64 (Y : Int)) ∧ X.cell? ⟨q9, 2, none⟩ = some (.int .i64 (Z : Int)) ∧ X.cell? ⟨q9, 3, none⟩ = some (.slice A9 n9 c9) ∧ Sem.run Tryz.prog (convert 37 9 (.slice A7 n7 c7)) X = .ok (.string s7) X ∧ Sem.run Tryz.prog (convert 37 9 (.slice A8 n8 c8)) X = .ok (.string s7) X) W9.drew := hw10 ▸ hS10
  refine wp_region_held_drew (S := (fun X : World => X.cell? ⟨q6, 0, none⟩ = some (.int .i64 (XX : Int)) ∧ X.cell? ⟨q6, 1, none⟩ = some (.int .i64 (Y : Int)) ∧ X.cell? ⟨q6, 2, none⟩ = some (.int .i64 (Z : Int)) ∧ X.cell? ⟨q6, 3, none⟩ = some (.slice A5 n5 c5) ∧ X.cell? ⟨q9, 0, none⟩ = some (.int .i64 (XX : Int)) ∧ X.cell? ⟨q9, 1, none⟩ = some (.int .i64 (Y : Int)) ∧ X.cell? ⟨q9, 2, none⟩ = some (.int .i64 (Z : Int)) ∧ X.cell? ⟨q9, 3, none⟩ = some (.slice A9 n9 c9) ∧ Sem.run Tryz.prog (convert 37 9 (.slice A7 n7 c7)) X = .ok (.string s7) X ∧ Sem.run Tryz.prog (convert 37 9 (.slice A8 n8 c8)) X = .ok (.string s7) X)) (by kernel_rfl) hS10' (fun _ => ?_)
  rw [← hw10]
  clear hw10 hS10'
  (refine wpAnyH_take (i := 0) (v := ?_) rfl (by kernel_rfl) (by kernel_rfl) (by kernel_rfl) (fun _ _ _ h => h) (Or.inl ⟨by rfl, ?_⟩) (by assumption) ?_; rotate_left; (intro w hSw; (try dsimp only at hSw); go_simp; try with_reducible rfl); ((try simp only [List.getElem_toArray]); (try simp only [List.getElem_cons_succ]); (try simp only [List.getElem_cons_zero]); (try simp only [Act.put]); (try simp only [List.setIfInBounds_toArray]); (try simp only [List.set_cons_succ]); (try simp only [List.set_cons_zero])))
  (refine wpAnyH_take (i := 1) (v := ?_) rfl (by kernel_rfl) (by kernel_rfl) (by kernel_rfl) (fun _ _ _ h => h) (Or.inl ⟨by rfl, ?_⟩) (by assumption) ?_; rotate_left; (intro w hSw; (try dsimp only at hSw); go_simp; try with_reducible rfl); ((try simp only [List.getElem_toArray]); (try simp only [List.getElem_cons_succ]); (try simp only [List.getElem_cons_zero]); (try simp only [Act.put]); (try simp only [List.setIfInBounds_toArray]); (try simp only [List.set_cons_succ]); (try simp only [List.set_cons_zero])))
  (refine wpAnyH_take (i := 2) (v := ?_) rfl (by kernel_rfl) (by kernel_rfl) (by kernel_rfl) (fun _ _ _ h => h) (Or.inl ⟨by rfl, ?_⟩) (by assumption) ?_; rotate_left; (intro w hSw; (try dsimp only at hSw); go_simp; try with_reducible rfl); ((try simp only [List.getElem_toArray]); (try simp only [List.getElem_cons_succ]); (try simp only [List.getElem_cons_zero]); (try simp only [Act.put]); (try simp only [List.setIfInBounds_toArray]); (try simp only [List.set_cons_succ]); (try simp only [List.set_cons_zero])))
  refine wpAnyH_ready (rs := [3]) (by kernel_rfl) (by simp) ?_
  refine AllReadyH.cons rfl (fun K2 hK2 => ?_) AllReadyH.nil
  go_simp
  refine (rwritept_any XX Y Z _ HG10.out HGS.out (by omega) (by omega) (by omega) (by omega)).mono ?_
  rintro e w11 ⟨v11, rfl, ho11, hb11⟩
  obtain ⟨A11, n11, c11, rfl, HL11, HR11b, _⟩ := own_open ho11.out HPOS.out
  have HY11 := Lib.hid (HY10.out.below hb11.out HY10.out.lt)
  have HQ11 := Lib.hid (HQ10.out.below hb11.out HQ10.out.lt)
  have HG11 := Lib.hid (HG10.out.below hb11.out)
  have HV11 := Lib.hid (HV10.out.below hb11.out)
  have HR11 := Lib.hid (HR10.out.below hb11.out)
  have HU11 := Lib.hid (HU10.out.below hb11.out)
  have HB11 := Lib.hid (HB10.out.trans (hb11.out.mono HB10.out.size))
  have hS11 : (fun X : World => X.cell? ⟨q6, 0, none⟩ = some (.int .i64 (XX : Int)) ∧ X.cell? ⟨q6, 1, none⟩ = some (.int .i64 (Y : Int)) ∧ X.cell? ⟨q6, 2, none⟩ = some (.int .i64 (Z : Int)) ∧ X.cell? ⟨q6, 3, none⟩ = some (.slice A5 n5 c5) ∧ X.cell? ⟨q9, 0, none⟩ = some (.int .i64 (XX : Int)) ∧ X.cell? ⟨q9, 1, none⟩ = some (.int .i64 (Y : Int)) ∧ X.cell? ⟨q9, 2, none⟩ = some (.int .i64 (Z : Int)) ∧ X.cell? ⟨q9, 3, none⟩ = some (.slice A9 n9 c9) ∧ Sem.run Tryz.prog (convert 37 9 (.slice A7 n7 c7)) X = .ok (.string s7) X ∧ Sem.run Tryz.prog (convert 37 9 (.slice A8 n8 c8)) X = .ok (.string s7) X) w11 := ⟨HY11.out.cell 0, HY11.out.cell 1, HY11.out.cell 2, HY11.out.cell 3, HQ11.out.cell 0, HQ11.out.cell 1, HQ11.out.cell 2, HQ11.out.cell 3, (by rw [conv_len _ A7 _ n7 c7 HL7.out HR11.out, HS7.out]), (by rw [conv_len _ A8 _ n8 c8 HL8.out HU11.out, HS7.out])⟩
  clear HY10 HQ10 HG10 HV10 HR10 HU10 HB10
  have hcv : Sem.run Tryz.prog (convert 37 9 (.slice A11 n11 c11)) w11 = .ok (.string sP) w11 := by rw [conv_len _ A11 _ n11 c11 HL11.out HR11b.out, HSP.out]
  go_wp2_with fail
  refine hK2.out _ _ (by (try dsimp only); exact hS11) (fun _ => ?_)
  clear hK2 K2
  (try simp only [List.getElem_toArray]); (try simp only [List.getElem_cons_succ]); (try simp only [List.getElem_cons_zero]); (try simp only [Act.put]); (try simp only [List.setIfInBounds_toArray]); (try simp only [List.set_cons_succ]); (try simp only [List.set_cons_zero])
  refine wpAnyH_ready (rs := [4]) (by kernel_rfl) (by simp) ?_
  refine AllReadyH.cons rfl (fun K2 hK2 => ?_) (AllReadyH.nil)
  go_simp
  refine hK2.out _ _ (by (try dsimp only); exact hS11) (fun _ => ?_)
  clear hK2 K2 hcv ho11 hb11 HL11 HR11b
  (try simp only [List.getElem_toArray]); (try simp only [List.getElem_cons_succ]); (try simp only [List.getElem_cons_zero]); (try simp only [Act.put]); (try simp only [List.setIfInBounds_toArray]); (try simp only [List.set_cons_succ]); (try simp only [List.set_cons_zero])
  (refine wpAnyH_take (i := 5) (v := ?_) rfl (by kernel_rfl) (by kernel_rfl) (by kernel_rfl) (fun _ _ _ h => h) (Or.inl ⟨by rfl, ?_⟩) (by assumption) ?_; rotate_left; (intro w hSw; (try dsimp only at hSw); go_simp; try with_reducible rfl); ((try simp only [List.getElem_toArray]); (try simp only [List.getElem_cons_succ]); (try simp only [List.getElem_cons_zero]); (try simp only [Act.put]); (try simp only [List.setIfInBounds_toArray]); (try simp only [List.set_cons_succ]); (try simp only [List.set_cons_zero])))
  (refine wpAnyH_take (i := 6) (v := ?_) rfl (by kernel_rfl) (by kernel_rfl) (by kernel_rfl) (fun _ _ _ h => h) (Or.inl ⟨by rfl, ?_⟩) (by assumption) ?_; rotate_left; (intro w hSw; (try dsimp only at hSw); go_simp; try with_reducible rfl); ((try simp only [List.getElem_toArray]); (try simp only [List.getElem_cons_succ]); (try simp only [List.getElem_cons_zero]); (try simp only [Act.put]); (try simp only [List.setIfInBounds_toArray]); (try simp only [List.set_cons_succ]); (try simp only [List.set_cons_zero])))
  (refine wpAnyH_take (i := 7) (v := ?_) rfl (by kernel_rfl) (by kernel_rfl) (by kernel_rfl) (fun _ _ _ h => h) (Or.inl ⟨by rfl, ?_⟩) (by assumption) ?_; rotate_left; (intro w hSw; (try dsimp only at hSw); go_simp; try with_reducible rfl); ((try simp only [List.getElem_toArray]); (try simp only [List.getElem_cons_succ]); (try simp only [List.getElem_cons_zero]); (try simp only [Act.put]); (try simp only [List.setIfInBounds_toArray]); (try simp only [List.set_cons_succ]); (try simp only [List.set_cons_zero])))
  (refine wpAnyH_take (i := 8) (v := ?_) rfl (by kernel_rfl) (by kernel_rfl) (by kernel_rfl) (fun _ _ _ h => h) (Or.inl ⟨by rfl, ?_⟩) (by assumption) ?_; rotate_left; (intro w hSw; (try dsimp only at hSw); go_simp; try with_reducible rfl); ((try simp only [List.getElem_toArray]); (try simp only [List.getElem_cons_succ]); (try simp only [List.getElem_cons_zero]); (try simp only [Act.put]); (try simp only [List.setIfInBounds_toArray]); (try simp only [List.set_cons_succ]); (try simp only [List.set_cons_zero])))
  (refine wpAnyH_take (i := 9) (v := ?_) rfl (by kernel_rfl) (by kernel_rfl) (by kernel_rfl) (fun _ _ _ h => h) (Or.inl ⟨by rfl, ?_⟩) (by assumption) ?_; rotate_left; (intro w hSw; (try dsimp only at hSw); go_simp; try with_reducible rfl); ((try simp only [List.getElem_toArray]); (try simp only [List.getElem_cons_succ]); (try simp only [List.getElem_cons_zero]); (try simp only [Act.put]); (try simp only [List.setIfInBounds_toArray]); (try simp only [List.set_cons_succ]); (try simp only [List.set_cons_zero])))
  (refine wpAnyH_take (i := 10) (v := ?_) rfl (by kernel_rfl) (by kernel_rfl) (by kernel_rfl) (fun _ _ _ h => h) (Or.inl ⟨by rfl, ?_⟩) (by assumption) ?_; rotate_left; (intro w hSw; (try dsimp only at hSw); go_simp; try with_reducible rfl); ((try simp only [List.getElem_toArray]); (try simp only [List.getElem_cons_succ]); (try simp only [List.getElem_cons_zero]); (try simp only [Act.put]); (try simp only [List.setIfInBounds_toArray]); (try simp only [List.set_cons_succ]); (try simp only [List.set_cons_zero])))
  (refine wpAnyH_take (i := 11) (v := ?_) rfl (by kernel_rfl) (by kernel_rfl) (by kernel_rfl) (fun _ _ _ h => h) (Or.inl ⟨by rfl, ?_⟩) (by assumption) ?_; rotate_left; (intro w hSw; (try dsimp only at hSw); go_simp; try with_reducible rfl); ((try simp only [List.getElem_toArray]); (try simp only [List.getElem_cons_succ]); (try simp only [List.getElem_cons_zero]); (try simp only [Act.put]); (try simp only [List.setIfInBounds_toArray]); (try simp only [List.set_cons_succ]); (try simp only [List.set_cons_zero])))
  (refine wpAnyH_take (i := 12) (v := ?_) rfl (by kernel_rfl) (by kernel_rfl) (by kernel_rfl) (fun _ _ _ h => h) (Or.inl ⟨by rfl, ?_⟩) (by assumption) ?_; rotate_left; (intro w hSw; (try dsimp only at hSw); go_simp; try with_reducible rfl); ((try simp only [List.getElem_toArray]); (try simp only [List.getElem_cons_succ]); (try simp only [List.getElem_cons_zero]); (try simp only [Act.put]); (try simp only [List.setIfInBounds_toArray]); (try simp only [List.set_cons_succ]); (try simp only [List.set_cons_zero])))
  (refine wpAnyH_take (i := 13) (v := ?_) rfl (by kernel_rfl) (by kernel_rfl) (by kernel_rfl) (fun _ _ _ h => h) (Or.inl ⟨by rfl, ?_⟩) (by assumption) ?_; rotate_left; (intro w hSw; (try dsimp only at hSw); go_simp; try with_reducible rfl); ((try simp only [List.getElem_toArray]); (try simp only [List.getElem_cons_succ]); (try simp only [List.getElem_cons_zero]); (try simp only [Act.put]); (try simp only [List.setIfInBounds_toArray]); (try simp only [List.set_cons_succ]); (try simp only [List.set_cons_zero])))
  (refine wpAnyH_take (i := 14) (v := ?_) rfl (by kernel_rfl) (by kernel_rfl) (by kernel_rfl) (fun _ _ _ h => h) (Or.inl ⟨by rfl, ?_⟩) (by assumption) ?_; rotate_left; (intro w hSw; (try dsimp only at hSw); go_simp; try with_reducible rfl); ((try simp only [List.getElem_toArray]); (try simp only [List.getElem_cons_succ]); (try simp only [List.getElem_cons_zero]); (try simp only [Act.put]); (try simp only [List.setIfInBounds_toArray]); (try simp only [List.set_cons_succ]); (try simp only [List.set_cons_zero])))
  (refine wpAnyH_take (i := 15) (v := ?_) rfl (by kernel_rfl) (by kernel_rfl) (by kernel_rfl) (fun _ _ _ h => h) (Or.inl ⟨by rfl, ?_⟩) (by assumption) ?_; rotate_left; (intro w hSw; (try dsimp only at hSw); go_simp; try with_reducible rfl); ((try simp only [List.getElem_toArray]); (try simp only [List.getElem_cons_succ]); (try simp only [List.getElem_cons_zero]); (try simp only [Act.put]); (try simp only [List.setIfInBounds_toArray]); (try simp only [List.set_cons_succ]); (try simp only [List.set_cons_zero])))
  (refine wpAnyH_take (i := 16) (v := ?_) rfl (by kernel_rfl) (by kernel_rfl) (by kernel_rfl) (fun _ _ _ h => h) (Or.inl ⟨by rfl, ?_⟩) (by assumption) ?_; rotate_left; (intro w hSw; (try dsimp only at hSw); go_simp; try with_reducible rfl); ((try simp only [List.getElem_toArray]); (try simp only [List.getElem_cons_succ]); (try simp only [List.getElem_cons_zero]); (try simp only [Act.put]); (try simp only [List.setIfInBounds_toArray]); (try simp only [List.set_cons_succ]); (try simp only [List.set_cons_zero])))
  (refine wpAnyH_take (i := 17) (v := ?_) rfl (by kernel_rfl) (by kernel_rfl) (by kernel_rfl) (fun _ _ _ h => h) (Or.inl ⟨by rfl, ?_⟩) (by assumption) ?_; rotate_left; (intro w hSw; (try dsimp only at hSw); go_simp; try with_reducible rfl); ((try simp only [List.getElem_toArray]); (try simp only [List.getElem_cons_succ]); (try simp only [List.getElem_cons_zero]); (try simp only [Act.put]); (try simp only [List.setIfInBounds_toArray]); (try simp only [List.set_cons_succ]); (try simp only [List.set_cons_zero])))
  (refine wpAnyH_take (i := 18) (v := ?_) rfl (by kernel_rfl) (by kernel_rfl) (by kernel_rfl) (fun _ _ _ h => h) (Or.inl ⟨by rfl, ?_⟩) (by assumption) ?_; rotate_left; (intro w hSw; (try dsimp only at hSw); go_simp; try with_reducible rfl); ((try simp only [List.getElem_toArray]); (try simp only [List.getElem_cons_succ]); (try simp only [List.getElem_cons_zero]); (try simp only [Act.put]); (try simp only [List.setIfInBounds_toArray]); (try simp only [List.set_cons_succ]); (try simp only [List.set_cons_zero])))
  (refine wpAnyH_take (i := 19) (v := ?_) rfl (by kernel_rfl) (by kernel_rfl) (by kernel_rfl) (fun _ _ _ h => h) (Or.inl ⟨by rfl, ?_⟩) (by assumption) ?_; rotate_left; (intro w hSw; (try dsimp only at hSw); go_simp; try with_reducible rfl); ((try simp only [List.getElem_toArray]); (try simp only [List.getElem_cons_succ]); (try simp only [List.getElem_cons_zero]); (try simp only [Act.put]); (try simp only [List.setIfInBounds_toArray]); (try simp only [List.set_cons_succ]); (try simp only [List.set_cons_zero])))
  (refine wpAnyH_take (i := 20) (v := ?_) rfl (by kernel_rfl) (by kernel_rfl) (by kernel_rfl) (fun _ _ _ h => h) (Or.inl ⟨by rfl, ?_⟩) (by assumption) ?_; rotate_left; (intro w hSw; (try dsimp only at hSw); go_simp; try with_reducible rfl); ((try simp only [List.getElem_toArray]); (try simp only [List.getElem_cons_succ]); (try simp only [List.getElem_cons_zero]); (try simp only [Act.put]); (try simp only [List.setIfInBounds_toArray]); (try simp only [List.set_cons_succ]); (try simp only [List.set_cons_zero])))
  (refine wpAnyH_take (i := 21) (v := ?_) rfl (by kernel_rfl) (by kernel_rfl) (by kernel_rfl) (fun _ _ _ h => h) (Or.inl ⟨by rfl, ?_⟩) (by assumption) ?_; rotate_left; (intro w hSw; (try dsimp only at hSw); go_simp; try with_reducible rfl); ((try simp only [List.getElem_toArray]); (try simp only [List.getElem_cons_succ]); (try simp only [List.getElem_cons_zero]); (try simp only [Act.put]); (try simp only [List.setIfInBounds_toArray]); (try simp only [List.set_cons_succ]); (try simp only [List.set_cons_zero])))
  (refine wpAnyH_take (i := 22) (v := ?_) rfl (by kernel_rfl) (by kernel_rfl) (by kernel_rfl) (fun _ _ _ h => h) (Or.inl ⟨by rfl, ?_⟩) (by assumption) ?_; rotate_left; (intro w hSw; (try dsimp only at hSw); go_simp; try with_reducible rfl); ((try simp only [List.getElem_toArray]); (try simp only [List.getElem_cons_succ]); (try simp only [List.getElem_cons_zero]); (try simp only [Act.put]); (try simp only [List.setIfInBounds_toArray]); (try simp only [List.set_cons_succ]); (try simp only [List.set_cons_zero])))
  (refine wpAnyH_take (i := 23) (v := ?_) rfl (by kernel_rfl) (by kernel_rfl) (by kernel_rfl) (fun _ _ _ h => h) (Or.inl ⟨by rfl, ?_⟩) (by assumption) ?_; rotate_left; (intro w hSw; (try dsimp only at hSw); go_simp; try with_reducible rfl); ((try simp only [List.getElem_toArray]); (try simp only [List.getElem_cons_succ]); (try simp only [List.getElem_cons_zero]); (try simp only [Act.put]); (try simp only [List.setIfInBounds_toArray]); (try simp only [List.set_cons_succ]); (try simp only [List.set_cons_zero])))
  (refine wpAnyH_take (i := 24) (v := ?_) rfl (by kernel_rfl) (by kernel_rfl) (by kernel_rfl) (fun _ _ _ h => h) (Or.inl ⟨by rfl, ?_⟩) (by assumption) ?_; rotate_left; (intro w hSw; (try dsimp only at hSw); go_simp; try with_reducible rfl); ((try simp only [List.getElem_toArray]); (try simp only [List.getElem_cons_succ]); (try simp only [List.getElem_cons_zero]); (try simp only [Act.put]); (try simp only [List.setIfInBounds_toArray]); (try simp only [List.set_cons_succ]); (try simp only [List.set_cons_zero])))
  (refine wpAnyH_take (i := 25) (v := ?_) rfl (by kernel_rfl) (by kernel_rfl) (by kernel_rfl) (fun _ _ _ h => h) (Or.inl ⟨by rfl, ?_⟩) (by assumption) ?_; rotate_left; (intro w hSw; (try dsimp only at hSw); go_simp; try with_reducible rfl); ((try simp only [List.getElem_toArray]); (try simp only [List.getElem_cons_succ]); (try simp only [List.getElem_cons_zero]); (try simp only [Act.put]); (try simp only [List.setIfInBounds_toArray]); (try simp only [List.set_cons_succ]); (try simp only [List.set_cons_zero])))
  (refine wpAnyH_take (i := 26) (v := ?_) rfl (by kernel_rfl) (by kernel_rfl) (by kernel_rfl) (fun _ _ _ h => h) (Or.inl ⟨by rfl, ?_⟩) (by assumption) ?_; rotate_left; (intro w hSw; (try dsimp only at hSw); go_simp; try with_reducible rfl); ((try simp only [List.getElem_toArray]); (try simp only [List.getElem_cons_succ]); (try simp only [List.getElem_cons_zero]); (try simp only [Act.put]); (try simp only [List.setIfInBounds_toArray]); (try simp only [List.set_cons_succ]); (try simp only [List.set_cons_zero])))
  (refine wpAnyH_take (i := 27) (v := ?_) rfl (by kernel_rfl) (by kernel_rfl) (by kernel_rfl) (fun _ _ _ h => h) (Or.inl ⟨by rfl, ?_⟩) (by assumption) ?_; rotate_left; (intro w hSw; (try dsimp only at hSw); go_simp; try with_reducible rfl); ((try simp only [List.getElem_toArray]); (try simp only [List.getElem_cons_succ]); (try simp only [List.getElem_cons_zero]); (try simp only [Act.put]); (try simp only [List.setIfInBounds_toArray]); (try simp only [List.set_cons_succ]); (try simp only [List.set_cons_zero])))
  (refine wpAnyH_take (i := 28) (v := ?_) rfl (by kernel_rfl) (by kernel_rfl) (by kernel_rfl) (fun _ _ _ h => h) (Or.inl ⟨by rfl, ?_⟩) (by assumption) ?_; rotate_left; (intro w hSw; (try dsimp only at hSw); go_simp; try with_reducible rfl); ((try simp only [List.getElem_toArray]); (try simp only [List.getElem_cons_succ]); (try simp only [List.getElem_cons_zero]); (try simp only [Act.put]); (try simp only [List.setIfInBounds_toArray]); (try simp only [List.set_cons_succ]); (try simp only [List.set_cons_zero])))
  (refine wpAnyH_take (i := 29) (v := ?_) rfl (by kernel_rfl) (by kernel_rfl) (by kernel_rfl) (fun _ _ _ h => h) (Or.inl ⟨by rfl, ?_⟩) (by assumption) ?_; rotate_left; (intro w hSw; (try dsimp only at hSw); go_simp; try with_reducible rfl); ((try simp only [List.getElem_toArray]); (try simp only [List.getElem_cons_succ]); (try simp only [List.getElem_cons_zero]); (try simp only [Act.put]); (try simp only [List.setIfInBounds_toArray]); (try simp only [List.set_cons_succ]); (try simp only [List.set_cons_zero])))
  refine wpAnyH_ready (rs := [30]) (by kernel_rfl) (by simp) ?_
  refine AllReadyH.cons rfl (fun K2 hK2 => ?_) AllReadyH.nil
  go_simp
  refine (rsame_pt (XX : Int) (Y : Int) (Z : Int) _ HV11.out HG11.out (by omega)).mono ?_
  rintro e w12 ⟨rfl, hb12⟩
  have HY12 := Lib.hid (HY11.out.below hb12.out HY11.out.lt)
  have HQ12 := Lib.hid (HQ11.out.below hb12.out HQ11.out.lt)
  have HG12 := Lib.hid (HG11.out.below hb12.out)
  have HV12 := Lib.hid (HV11.out.below hb12.out)
  have HR12 := Lib.hid (HR11.out.below hb12.out)
  have HU12 := Lib.hid (HU11.out.below hb12.out)
  have HB12 := Lib.hid (HB11.out.trans (hb12.out.mono HB11.out.size))
  have hS12 : (fun X : World => X.cell? ⟨q6, 0, none⟩ = some (.int .i64 (XX : Int)) ∧ X.cell? ⟨q6, 1, none⟩ = some (.int .i64 (Y : Int)) ∧ X.cell? ⟨q6, 2, none⟩ = some (.int .i64 (Z : Int)) ∧ X.cell? ⟨q6, 3, none⟩ = some (.slice A5 n5 c5) ∧ X.cell? ⟨q9, 0, none⟩ = some (.int .i64 (XX : Int)) ∧ X.cell? ⟨q9, 1, none⟩ = some (.int .i64 (Y : Int)) ∧ X.cell? ⟨q9, 2, none⟩ = some (.int .i64 (Z : Int)) ∧ X.cell? ⟨q9, 3, none⟩ = some (.slice A9 n9 c9) ∧ Sem.run Tryz.prog (convert 37 9 (.slice A7 n7 c7)) X = .ok (.string s7) X ∧ Sem.run Tryz.prog (convert 37 9 (.slice A8 n8 c8)) X = .ok (.string s7) X) w12 := ⟨HY12.out.cell 0, HY12.out.cell 1, HY12.out.cell 2, HY12.out.cell 3, HQ12.out.cell 0, HQ12.out.cell 1, HQ12.out.cell 2, HQ12.out.cell 3, (by rw [conv_len _ A7 _ n7 c7 HL7.out HR12.out, HS7.out]), (by rw [conv_len _ A8 _ n8 c8 HL8.out HU12.out, HS7.out])⟩
  clear HY11 HQ11 HG11 HV11 HR11 HU11 HB11
  go_wp2_with fail
  refine hK2.out _ _ (by (try dsimp only); exact hS12) (fun _ => ?_)
  clear hK2 K2
  (try simp only [List.getElem_toArray]); (try simp only [List.getElem_cons_succ]); (try simp only [List.getElem_cons_zero]); (try simp only [Act.put]); (try simp only [List.setIfInBounds_toArray]); (try simp only [List.set_cons_succ]); (try simp only [List.set_cons_zero])
  (refine wpAnyH_take (i := 31) (v := ?_) rfl (by kernel_rfl) (by kernel_rfl) (by kernel_rfl) (fun _ _ _ h => h) (Or.inl ⟨by rfl, ?_⟩) (by assumption) ?_; rotate_left; (intro w hSw; (try dsimp only at hSw); go_simp; try with_reducible rfl); ((try simp only [List.getElem_toArray]); (try simp only [List.getElem_cons_succ]); (try simp only [List.getElem_cons_zero]); (try simp only [Act.put]); (try simp only [List.setIfInBounds_toArray]); (try simp only [List.set_cons_succ]); (try simp only [List.set_cons_zero])))
  (refine wpAnyH_take (i := 32) (v := ?_) rfl (by kernel_rfl) (by kernel_rfl) (by kernel_rfl) (fun _ _ _ h => h) (Or.inl ⟨by rfl, ?_⟩) (by assumption) ?_; rotate_left; (intro w hSw; (try dsimp only at hSw); go_simp; try with_reducible rfl); ((try simp only [List.getElem_toArray]); (try simp only [List.getElem_cons_succ]); (try simp only [List.getElem_cons_zero]); (try simp only [Act.put]); (try simp only [List.setIfInBounds_toArray]); (try simp only [List.set_cons_succ]); (try simp only [List.set_cons_zero])))
  (refine wpAnyH_take (i := 33) (v := ?_) rfl (by kernel_rfl) (by kernel_rfl) (by kernel_rfl) (fun _ _ _ h => h) (Or.inl ⟨by rfl, ?_⟩) (by assumption) ?_; rotate_left; (intro w hSw; (try dsimp only at hSw); go_simp; try with_reducible rfl); ((try simp only [List.getElem_toArray]); (try simp only [List.getElem_cons_succ]); (try simp only [List.getElem_cons_zero]); (try simp only [Act.put]); (try simp only [List.setIfInBounds_toArray]); (try simp only [List.set_cons_succ]); (try simp only [List.set_cons_zero])))
  (refine wpAnyH_take (i := 34) (v := ?_) rfl (by kernel_rfl) (by kernel_rfl) (by kernel_rfl) (fun _ _ _ h => h) (Or.inl ⟨by rfl, ?_⟩) (by assumption) ?_; rotate_left; (intro w hSw; (try dsimp only at hSw); go_simp; try with_reducible rfl); ((try simp only [List.getElem_toArray]); (try simp only [List.getElem_cons_succ]); (try simp only [List.getElem_cons_zero]); (try simp only [Act.put]); (try simp only [List.setIfInBounds_toArray]); (try simp only [List.set_cons_succ]); (try simp only [List.set_cons_zero])))
  (refine wpAnyH_take (i := 35) (v := ?_) rfl (by kernel_rfl) (by kernel_rfl) (by kernel_rfl) (fun _ _ _ h => h) (Or.inl ⟨by rfl, ?_⟩) (by assumption) ?_; rotate_left; (intro w hSw; (try dsimp only at hSw); go_simp; try with_reducible rfl); ((try simp only [List.getElem_toArray]); (try simp only [List.getElem_cons_succ]); (try simp only [List.getElem_cons_zero]); (try simp only [Act.put]); (try simp only [List.setIfInBounds_toArray]); (try simp only [List.set_cons_succ]); (try simp only [List.set_cons_zero])))
  (refine wpAnyH_take (i := 36) (v := ?_) rfl (by kernel_rfl) (by kernel_rfl) (by kernel_rfl) (fun _ _ _ h => h) (Or.inl ⟨by rfl, ?_⟩) (by assumption) ?_; rotate_left; (intro w hSw; (try dsimp only at hSw); go_simp; try with_reducible rfl); ((try simp only [List.getElem_toArray]); (try simp only [List.getElem_cons_succ]); (try simp only [List.getElem_cons_zero]); (try simp only [Act.put]); (try simp only [List.setIfInBounds_toArray]); (try simp only [List.set_cons_succ]); (try simp only [List.set_cons_zero])))
  refine wpAnyH_ready (rs := [37]) (by kernel_rfl) (by simp) ?_
  refine AllReadyH.cons rfl (fun K2 hK2 => ?_) AllReadyH.nil
  go_simp
  refine (lives14_any _ (HT.out.below HB12.out)).mono ?_
  rintro e w13 ⟨rfl, hb13⟩
  have HY13 := Lib.hid (HY12.out.below hb13.out HY12.out.lt)
  have HQ13 := Lib.hid (HQ12.out.below hb13.out HQ12.out.lt)
  have HG13 := Lib.hid (HG12.out.below hb13.out)
  have HV13 := Lib.hid (HV12.out.below hb13.out)
  have HR13 := Lib.hid (HR12.out.below hb13.out)
  have HU13 := Lib.hid (HU12.out.below hb13.out)
  have HB13 := Lib.hid (HB12.out.trans (hb13.out.mono HB12.out.size))
  have hS13 : (fun X : World => X.cell? ⟨q6, 0, none⟩ = some (.int .i64 (XX : Int)) ∧ X.cell? ⟨q6, 1, none⟩ = some (.int .i64 (Y : Int)) ∧ X.cell? ⟨q6, 2, none⟩ = some (.int .i64 (Z : Int)) ∧ X.cell? ⟨q6, 3, none⟩ = some (.slice A5 n5 c5) ∧ X.cell? ⟨q9, 0, none⟩ = some (.int .i64 (XX : Int)) ∧ X.cell? ⟨q9, 1, none⟩ = some (.int .i64 (Y : Int)) ∧ X.cell? ⟨q9, 2, none⟩ = some (.int .i64 (Z : Int)) ∧ X.cell? ⟨q9, 3, none⟩ = some (.slice A9 n9 c9) ∧ Sem.run Tryz.prog (convert 37 9 (.slice A7 n7 c7)) X = .ok (.string s7) X ∧ Sem.run Tryz.prog (convert 37 9 (.slice A8 n8 c8)) X = .ok (.string s7) X) w13 := ⟨HY13.out.cell 0, HY13.out.cell 1, HY13.out.cell 2, HY13.out.cell 3, HQ13.out.cell 0, HQ13.out.cell 1, HQ13.out.cell 2, HQ13.out.cell 3, (by rw [conv_len _ A7 _ n7 c7 HL7.out HR13.out, HS7.out]), (by rw [conv_len _ A8 _ n8 c8 HL8.out HU13.out, HS7.out])⟩
  clear HY12 HQ12 HG12 HV12 HR12 HU12 HB12
  go_wp2_with fail
  refine hK2.out _ _ (by (try dsimp only); exact hS13) (fun _ => ?_)
  clear hK2 K2
  (try simp only [List.getElem_toArray]); (try simp only [List.getElem_cons_succ]); (try simp only [List.getElem_cons_zero]); (try simp only [Act.put]); (try simp only [List.setIfInBounds_toArray]); (try simp only [List.set_cons_succ]); (try simp only [List.set_cons_zero])
  (refine wpAnyH_take (i := 38) (v := ?_) rfl (by kernel_rfl) (by kernel_rfl) (by kernel_rfl) (fun _ _ _ h => h) (Or.inl ⟨by rfl, ?_⟩) (by assumption) ?_; rotate_left; (intro w hSw; (try dsimp only at hSw); go_simp; try with_reducible rfl); ((try simp only [List.getElem_toArray]); (try simp only [List.getElem_cons_succ]); (try simp only [List.getElem_cons_zero]); (try simp only [Act.put]); (try simp only [List.setIfInBounds_toArray]); (try simp only [List.set_cons_succ]); (try simp only [List.set_cons_zero])))
  (refine wpAnyH_take (i := 39) (v := ?_) rfl (by kernel_rfl) (by kernel_rfl) (by kernel_rfl) (fun _ _ _ h => h) (Or.inl ⟨by rfl, ?_⟩) (by assumption) ?_; rotate_left; (intro w hSw; (try dsimp only at hSw); go_simp; try with_reducible rfl); ((try simp only [List.getElem_toArray]); (try simp only [List.getElem_cons_succ]); (try simp only [List.getElem_cons_zero]); (try simp only [Act.put]); (try simp only [List.setIfInBounds_toArray]); (try simp only [List.set_cons_succ]); (try simp only [List.set_cons_zero])))
  refine wpAnyH_done (by kernel_rfl) ?_ _
  go_wp2_with fail
  go_ret
  exact ⟨rfl, HB13.out⟩
end Go.Proofs.YtlhfdhmmdnkojaaGreatDoor.walEmpty
namespace Go.Proofs.YtlhfdhmmdnkojaaGreatDoor
open Go.ChangeShapes Go.WideShapes Go.RowKit Go.Joins Go.Deep Go.Lib
set_option maxRecDepth 100000
theorem own : ownKnob Tryz.prog.godebug = none := by kernel_rfl
theorem laidOut : laidOutB Tryz.prog = true := by kernel_rfl
/-- What a row of this seat lists. -/
def listed : List (String × DataW Unit) := [("unicode/utf8.acceptRanges", Rows.laid_unicode_utf8_acceptRanges), ("unicode/utf8.first", Rows.laid_unicode_utf8_first)]
theorem accept_eq : (Rows.laid_unicode_utf8_acceptRanges : DataW Unit) = acceptData := by kernel_rfl
theorem tabs_of {W : World} (h : laidMetH Tryz.prog listed W) : Tabs W := by
  rw [MakeChecks.laidMetH_plain _ _ _ (by kernel_rfl)] at h
  refine utf8Tabs_of_readsT (U8Types.of196 Tryz.laysValid) ⟨by kernel_rfl, by kernel_rfl, by kernel_rfl, by kernel_rfl, by kernel_rfl, by kernel_rfl, by kernel_rfl⟩ ?_ ?_
  · have := Lib.laidMet.reads h (.tail _ (.head _))
    exact Pinned.utf8First_eq ▸ this
  · have := Lib.laidMet.reads h (.head _)
    exact accept_eq ▸ this
section
variable {H : Type} {enc : TypeId × Value → H} {w : World} {base : Nat} {spare : Nat → Bool} {held : Bool}
end
end Go.Proofs.YtlhfdhmmdnkojaaGreatDoor
