/-
  Put together, as far as it is used: Cmp, Qc.
-/
import Derived.Test.YtnpmgempkoeapaaGreatDoorPead
import Derived.Deep.RegionHeld3
import Derived.Deep.QuietTactic
import Derived.BigQuiet
import Derived.Test.YtnpmgempkoeapaaGreatDoorPeac
import Derived.Lib.AppendZerosOnto
import Derived.Laws.AppendOwnNone
import Derived.Test.YtnpmgempkoeapaaGreatDoorPeag
set_option linter.unusedVariables false
set_option linter.unusedSimpArgs false
set_option linter.defProp false
namespace Go.Proofs.YtnpmgempkoeapaaGreatDoor
open Go.RowKit Dg
set_option maxHeartbeats 1000000 in
theorem refMay_any (k n : Int) (s : ByteArray) (w : World) (hs : s.size ≤ 140737488355328) :
 Calls Tryz.prog 94 #[.agg #[.int .i64 k, .int .i64 n, .string s]] w fun e w' => e = .returned (.bool (mayF k n s)) ∧ Hid (Below w.heap.size w w') := by
 have HB := fun k n s => Lib.hid ((Below.refl w.heap.size w).alloc (Nat.le_refl _) (.cells #[.int .i64 k, .int .i64 n, .string s] 87))
 by_cases h0 : k = 0
 ·subst h0
  by_cases hn : n = 0
  ·subst hn
   go_enter Tryz.func94, Tryz.ntmps94
   go_wp2_with fail
   go_ret
   exact ⟨by simp [mayF], HB _ _ _⟩
  ·have hq : (n == 0) = false := by simp [hn]
   go_enter Tryz.func94, Tryz.ntmps94
   go_wp2_with fail
   go_ret
   exact ⟨by simp [mayF, hn], HB _ _ _⟩
 by_cases h1 : k = 1
 ·subst h1
  cases he : s.toList.isEmpty
  ·go_enter Tryz.func94, Tryz.ntmps94
   go_wp2_with fail
   go_ret
   exact ⟨by simp [mayF, he], HB _ _ _⟩
  ·by_cases hn : n = 0
   ·subst hn
    go_enter Tryz.func94, Tryz.ntmps94
    go_wp2_with fail
    go_ret
    exact ⟨by simp [mayF, he], HB _ _ _⟩
   ·have hq : (n == 0) = false := by simp [hn]
    go_enter Tryz.func94, Tryz.ntmps94
    go_wp2_with fail
    go_ret
    exact ⟨by simp [mayF, he, hn], HB _ _ _⟩
 by_cases h2 : k = 2
 ·subst h2
  go_enter Tryz.func94, Tryz.ntmps94
  go_wp2_with fail
  go_ret
  exact ⟨by simp [mayF], HB _ _ _⟩
 by_cases h3 : k = 3
 ·subst h3
  have HC := Lib.hid (fun w => refUtf8_any s w hs)
  go_enter Tryz.func94, Tryz.ntmps94
  go_wp2_with fail
  refine (HC.out _).mono ?_
  rintro e w1 ⟨rfl, rfl⟩
  generalize hV : Lib.validD s.data.toList = V
  have hm : mayF 3 n s = (short n s && V) := by simp [mayF, hV]
  have HM := Lib.hid hm
  clear hm hV
  cases V
  ·go_wp2_with fail
   go_ret
   exact ⟨by simp [HM.out], HB _ _ _⟩
  ·by_cases hn : n = 0
   ·subst hn
    go_wp2_with fail
    go_ret
    exact ⟨by simp [HM.out, short]; omega, HB _ _ _⟩
   ·have hq : (n == 0) = false := by simp [hn]
    go_wp2_with fail
    go_ret
    exact ⟨by simp [HM.out, short, hn], HB _ _ _⟩
 by_cases h4 : k = 4
 ·subst h4
  by_cases hn : n = 0
  ·subst hn
   go_enter Tryz.func94, Tryz.ntmps94
   go_wp2_with fail
   go_ret
   exact ⟨by simp [mayF, short]; omega, HB _ _ _⟩
  ·have hq : (n == 0) = false := by simp [hn]
   go_enter Tryz.func94, Tryz.ntmps94
   go_wp2_with fail
   go_ret
   exact ⟨by simp [mayF, short, hn], HB _ _ _⟩
 ·go_enter Tryz.func94, Tryz.ntmps94
  go_wp2_with fail
  go_ret
  exact ⟨by simp [mayF, h0, h1, h2, h3, h4], HB _ _ _⟩
set_option maxRecDepth 100000
theorem ownC_down {B B' : Nat} {w : World} {v : Value} {l : List Cl} (h : OwnC B w v l) (hb : B' ≤ B) : OwnC B' w v l := by
 obtain ⟨h1, h2⟩ := h
 refine ⟨h1, ?_⟩
 rcases h2 with h2 | ⟨g, cap, cur, e, hg, r⟩
 ·exact .inl h2
 ·exact .inr ⟨g, cap, cur, e, Nat.le_trans hb hg, r⟩
theorem OwnC.far {B : Nat} {w : World} {v : Value} {L : List Cl} (h : OwnC B w v L) {p : Addr} (hp : p.block < B) (u : Value) : OwnC B (w.setCell p u) v L := by
 rcases h.2 with ⟨hv, hn⟩ | ⟨g, cap, cur, hv, hg, hh, hc, hcm, hsz, ht⟩
 ·exact ⟨h.1, .inl ⟨hv, hn⟩⟩
 ·exact ⟨h.1, .inr ⟨g, cap, cur, hv, hg, Has.far (t := 29) (cs := cur) hh (by omega) u, hc, hcm, hsz, ht⟩⟩
theorem keepC {W W' : World} {a : Addr} {v : Value} (hb : Below W.heap.size W W') (h : W.cell? a = some v) : W'.cell? a = some v := (hb.cell (World.block_lt_of_cell? _ _ h)).trans h
theorem CRow.drop {w : World} {b off : Nat} {L : List Cl} (h : CRow w (some ⟨b, off, none⟩) L) (k : Nat) : CRow w (some ⟨b, off + k * 3, none⟩) (L.drop k) := fun hl => by
 obtain ⟨b', off', e, hc⟩ := h (by rintro rfl; simp at hl)
 injection e with e
 injection e with e1 e2
 subst e1 e2
 refine ⟨b, off + k * 3, rfl, fun i hi => ?_⟩
 rw [List.length_drop] at hi
 obtain ⟨h0, h1, h2⟩ := hc (k + i) (by omega)
 rw [List.getElem_drop]
 have e : off + (k + i) * 3 = off + k * 3 + i * 3 := by omega
 rw [e] at h0 h1 h2
 exact ⟨h0, h1, h2⟩
theorem CRow.take {w : World} {A : Option Addr} {L : List Cl} (h : CRow w A L) (k : Nat) : CRow w A (L.take k) := fun hl => by
 obtain ⟨b, off, e, hc⟩ := h (by rintro rfl; simp at hl)
 refine ⟨b, off, e, fun i hi => ?_⟩
 rw [List.length_take] at hi
 rw [List.getElem_take]
 exact hc i (by omega)
theorem CRow.one (w : World) (x : Cl) : CRow (w.alloc (.cells #[.string x.nm, .int .i64 x.k, .bool x.no] 29)) (some ⟨w.heap.size, 0, none⟩) [x] := fun _ => ⟨w.heap.size, 0, rfl, fun i hi => by
 have hh := Has.new w 29 #[.string x.nm, .int .i64 x.k, .bool x.no]
 obtain rfl : i = 0 := by simpa using hi
 exact ⟨hh.cell 0, hh.cell 1, hh.cell 2⟩⟩
def standsF (c : Cl) (v : Vl) : Bool := v.may && (v.k == c.k || (v.k == 0 && c.no))
def fitsTo (M : List Cl) (R : List Vl) (k : Nat) : Bool := (List.range k).all fun i => match M[i]?, R[i]? with | some c, some v => standsF c v | _, _ => true
theorem fitsTo_succ (M : List Cl) (R : List Vl) (k : Nat) (h : k < M.length) (h' : k < R.length) : fitsTo M R (k + 1) = (fitsTo M R k && standsF M[k] R[k]) := by
 unfold fitsTo; rw [List.range_succ, List.all_append]; simp [h, h']
theorem fitsTo_false (M : List Cl) (R : List Vl) (k n : Nat) (hk : k < n) (h : k < M.length) (h' : k < R.length) (hs : standsF M[k] R[k] = false) : fitsTo M R n = false := by
 unfold fitsTo; rw [List.all_eq_false]
 exact ⟨k, List.mem_range.2 hk, by simp [h, h', hs]⟩
def fitsF (M : List Cl) (R : List Vl) : Bool := decide (R.length = M.length) && fitsTo M R M.length
set_option maxHeartbeats 2000000 in
theorem stands_any (xa : ByteArray) (xb : Int) (xc : Bool) (yk yn : Int) (ys : ByteArray) (w : World) (hs : ys.size ≤ 140737488355328) :
 Calls Tryz.prog 64 #[.agg #[.string xa, .int .i64 xb, .bool xc], .agg #[.int .i64 yk, .int .i64 yn, .string ys]] w fun e w' => e = .returned (.bool (standsF ⟨xa, xb, xc⟩ ⟨yk, yn, ys⟩)) ∧ Hid (Below w.heap.size w w') := by
 have HB0 := Lib.hid (((Below.refl w.heap.size w).alloc (Nat.le_refl _) (.cells #[.string xa, .int .i64 xb, .bool xc] 29)).alloc (by simp) (.cells #[.int .i64 yk, .int .i64 yn, .string ys] 87))
 have HX0 := Lib.hid ((Has.new w 29 #[.string xa, .int .i64 xb, .bool xc]).alloc (.cells #[.int .i64 yk, .int .i64 yn, .string ys] 87))
 have hy := Has.new (w.alloc (.cells #[.string xa, .int .i64 xb, .bool xc] 29)) 87 #[.int .i64 yk, .int .i64 yn, .string ys]
 rw [show (w.alloc (.cells #[.string xa, .int .i64 xb, .bool xc] 29)).heap.size = w.heap.size + 1 by simp] at hy
 have HY0 := Lib.hid hy
 have HS : Hid (standsF ⟨xa, xb, xc⟩ ⟨yk, yn, ys⟩ = (mayF yk yn ys && (yk == xb || (yk == 0 && xc)))) := rfl
 clear hy
 go_enter Tryz.func64, Tryz.ntmps64
 go_wp2_with fail
 refine (refMay_any yk yn ys _ hs).mono ?_
 rintro e w1 ⟨rfl, hb1⟩
 have HB1 := Lib.hid (HB0.out.trans (hb1.out.mono HB0.out.size))
 have HX1 := Lib.hid (HX0.out.below hb1.out HX0.out.lt)
 have HY1 := Lib.hid (HY0.out.below hb1.out HY0.out.lt)
 clear hb1 HX0 HY0 HB0
 have x1 : w1.cell? ⟨w.heap.size, 1, none⟩ = some (.int .i64 xb) := HX1.out.cell 1
 have x2 : w1.cell? ⟨w.heap.size, 2, none⟩ = some (.bool xc) := HX1.out.cell 2
 have y0 : w1.cell? ⟨w.heap.size + 1, 0, none⟩ = some (.int .i64 yk) := HY1.out.cell 0
 generalize mayF yk yn ys = q at *
 cases q
 ·go_wp2_with fail
  go_ret
  exact ⟨by rw [HS.out]; rfl, HB1⟩
 ·by_cases hk : yk = xb
  ·subst hk
   go_wp2_with fail
   go_ret
   exact ⟨by rw [HS.out]; simp, HB1⟩
  ·have hq : (yk == xb) = false := by simp [hk]
   by_cases h0 : yk = 0
   ·subst h0
    go_wp2_with fail
    go_ret
    exact ⟨by rw [HS.out, hq]; simp, HB1⟩
   ·have hq0 : (yk == 0) = false := by simp [h0]
    go_wp2_with fail
    go_ret
    exact ⟨by rw [HS.out, hq, hq0]; rfl, HB1⟩
set_option maxHeartbeats 4000000 in
set_option maxRecDepth 100000 in
theorem refFits_any (A : Option Addr) (M : List Cl) (n c : Nat) (K : Int) (Ar : Option Addr) (R : List Vl) (nr cr : Nat) (w : World) (hn : M.length = n) (hl : n ≤ 900) (hA : CRow w A M) (hnr : R.length = nr) (hR : VRow w Ar R) (hf : ∀ x ∈ R, x.fit) :
 Calls Tryz.prog 31 #[.agg #[.slice A n c, .int .i64 K], .slice Ar nr cr] w fun e w' => e = .returned (.bool (fitsF M R)) ∧ Hid (Below w.heap.size w w') := by
 have HN := Lib.hid hn
 have HA := Lib.hid hA
 have HNR := Lib.hid hnr
 have HR := Lib.hid hR
 have HF := Lib.hid hf
 have HB0 := Lib.hid ((Below.refl w.heap.size w).alloc (Nat.le_refl _) (.cells #[.slice A n c, .int .i64 K] 27))
 have HS0 := Lib.hid (Has.new w 27 #[.slice A n c, .int .i64 K])
 clear hn hA hnr hR hf
 by_cases hnn : nr = n
 ·subst hnn
  have HC : Hid (fitsF M R = fitsTo M R nr) := by show _ = _; unfold fitsF; rw [HN.out, HNR.out]; simp
  go_enter Tryz.func31, Tryz.ntmps31
  go_wp2_with fail
  go_loopw [5] (fun i wr => ∃ k : Nat, k ≤ nr ∧ i = .int .i64 k ∧ Hid (fitsTo M R k = true) ∧ Hid (Below w.heap.size w wr) ∧ Hid (Has wr w.heap.size 27 #[.slice A nr c, .int .i64 K])) (fun i _ => nr - (intOf i).toNat)
  case atStart => exact ⟨0, by omega, rfl, rfl, HB0.out, HS0.out⟩
  case round =>
   obtain ⟨k, hk, rfl, HT, HB, HS⟩ := hrel
   by_cases hlt : k < nr
   ·have hkl : k < M.length := by rw [HN.out]; exact hlt
    have hkr : k < R.length := by rw [HNR.out]; exact hlt
    obtain ⟨b, off, rfl, hc⟩ := (HA.out.below HB.out) (by intro e; rw [e] at hkl; simp at hkl)
    obtain ⟨b', off', rfl, hc'⟩ := (HR.out.below HB.out) (by intro e; rw [e] at hkr; simp at hkr)
    obtain ⟨c0, c1, c2⟩ := hc k hkl
    obtain ⟨d0, d1, d2⟩ := hc' k hkr
    have hfit := (HF.out R[k] (List.getElem_mem hkr)).2.2
    have HSU := Lib.hid (fitsTo_succ M R k hkl hkr)
    have HFA := Lib.hid (fitsTo_false M R k nr hlt hkl hkr)
    clear hc hc'
    generalize M[k] = x at *
    generalize R[k] = y at *
    obtain ⟨xa, xb, xc⟩ := x
    obtain ⟨yk, yn, ys⟩ := y
    simp only at c0 c1 c2 d0 d1 d2 hfit
    have a0 : wr.cell? ⟨w.heap.size, 0, none⟩ = some (.slice (some ⟨b, off, none⟩) nr c) := HS.out.cell 0
    have HCS := Lib.hid (fun W => stands_any xa xb xc yk yn ys W hfit)
    have hkz : (k : Int) < (nr : Int) := by omega
    have hk0 : (0 : Int) ≤ (k : Int) := by omega
    have hBD : Hid (Below wr.heap.size wr wr.drew) := (Below.refl _ wr).drew
    have hbw : Hid (Below w.heap.size w wr.drew) := HB.out.drew
    cases hq : standsF ⟨xa, xb, xc⟩ ⟨yk, yn, ys⟩
    ·go_wp2_with fail
     go_region_held3 (fun W => Hid (Below w.heap.size w W) ∧ W.cell? ⟨w.heap.size, 0, none⟩ = some (.slice (some ⟨b, off, none⟩) nr c) ∧ W.cell? ⟨b, off + k * 3, none⟩ = some (.string xa) ∧ W.cell? ⟨b, off + k * 3 + 1, none⟩ = some (.int .i64 xb) ∧ W.cell? ⟨b, off + k * 3 + 2, none⟩ = some (.bool xc) ∧ W.cell? ⟨b', off' + k * 3, none⟩ = some (.int .i64 yk) ∧ W.cell? ⟨b', off' + k * 3 + 1, none⟩ = some (.int .i64 yn) ∧ W.cell? ⟨b', off' + k * 3 + 2, none⟩ = some (.string ys)) ((refine ⟨by assumption, ?_⟩; go_keep))
      (first | (go_at_call 64; refine (HCS.out _).mono ?_; rintro e x1 ⟨rfl, hb1⟩; rw [hq]; have hbx := Lib.hid (hBD.out.trans (hb1.out.mono hBD.out.size)); have hby := Lib.hid (HB.out.trans (hbx.out.mono HB.out.size)); have za0 := keepC hbx.out a0; have zc0 := keepC hbx.out c0; have zc1 := keepC hbx.out c1; have zc2 := keepC hbx.out c2; have zd0 := keepC hbx.out d0; have zd1 := keepC hbx.out d1; have zd2 := keepC hbx.out d2; clear hb1))
     all_goals
      go_wp2_with fail
      go_ret
      exact ⟨by rw [HC.out, HFA.out hq]; rfl, hby⟩
    ·go_wp2_with fail
     go_region_held3 (fun W => Hid (Below w.heap.size w W) ∧ W.cell? ⟨w.heap.size, 0, none⟩ = some (.slice (some ⟨b, off, none⟩) nr c) ∧ W.cell? ⟨b, off + k * 3, none⟩ = some (.string xa) ∧ W.cell? ⟨b, off + k * 3 + 1, none⟩ = some (.int .i64 xb) ∧ W.cell? ⟨b, off + k * 3 + 2, none⟩ = some (.bool xc) ∧ W.cell? ⟨b', off' + k * 3, none⟩ = some (.int .i64 yk) ∧ W.cell? ⟨b', off' + k * 3 + 1, none⟩ = some (.int .i64 yn) ∧ W.cell? ⟨b', off' + k * 3 + 2, none⟩ = some (.string ys)) ((refine ⟨by assumption, ?_⟩; go_keep))
      (first | (go_at_call 64; refine (HCS.out _).mono ?_; rintro e x1 ⟨rfl, hb1⟩; rw [hq]; have hbx := Lib.hid (hBD.out.trans (hb1.out.mono hBD.out.size)); have hby := Lib.hid (HB.out.trans (hbx.out.mono HB.out.size)); have za0 := keepC hbx.out a0; have zc0 := keepC hbx.out c0; have zc1 := keepC hbx.out c1; have zc2 := keepC hbx.out c2; have zd0 := keepC hbx.out d0; have zd1 := keepC hbx.out d1; have zd2 := keepC hbx.out d2; clear hb1))
     all_goals
      go_wp2_with fail
      go_roundw
      case rel => exact ⟨k + 1, by omega, by go_num, by show _ = _; rw [HSU.out, HT.out, hq]; rfl, hby, HS.out.below hbx.out HS.out.lt⟩
      case measure => simp [intOf]; omega
   ·obtain rfl : k = nr := by omega
    go_wp2_with fail
    go_ret
    exact ⟨by rw [HC.out, HT.out]; rfl, HB⟩
 ·have HC : Hid (fitsF M R = false) := by show _ = _; unfold fitsF; rw [HN.out, HNR.out]; simp [hnn]
  have hq : ((nr : Int) != (n : Int)) = true := by simp; omega
  go_enter Tryz.func31, Tryz.ntmps31
  go_wp2_with fail
  go_ret
  exact ⟨by rw [HC.out]; rfl, HB0⟩
theorem rowF_len (M : List Cl) (R : List Vl) : (rowF M R).length = M.length := rowTo_len _ _ _
theorem rowF_get (M : List Cl) (R : List Vl) (i : Nat) (h : i < M.length) : (rowF M R)[i]'(by rw [rowF_len]; exact h) = rowOf M[i] (R.getD i vlNil) := by
 unfold rowF rowTo
 rw [List.getElem_map, List.getElem_range]
 unfold rowAt
 rw [List.getElem?_eq_getElem h]
theorem rowOf_fit (c : Cl) (v : Vl) (h0 : 1 ≤ c.k) (h1 : c.k ≤ 4) (hv : v.fits) : (rowOf c v).fits := by
 unfold rowOf
 split
 ·exact ⟨⟨by simp [vlNil], by simp [vlNil], by simp [vlNil, empty_zero]⟩, by simp [vlNil], by simp [vlNil]⟩
 ·exact good_fits _ ⟨hv.1, by show _ ≤ c.k; omega, by show c.k ≤ _; omega⟩
theorem nil_fits : vlNil.fits := ⟨⟨by simp [vlNil], by simp [vlNil], by simp [vlNil, empty_zero]⟩, by simp [vlNil], by simp [vlNil]⟩
theorem rowF_fit (M : List Cl) (R : List Vl) (hM : ∀ c ∈ M, 1 ≤ c.k ∧ c.k ≤ 4) (hR : ∀ v ∈ R, v.fits) : ∀ x ∈ rowF M R, x.fits := fun x hx => by
 obtain ⟨i, hi, rfl⟩ := List.getElem_of_mem hx
 have hi' : i < M.length := by rw [rowF_len] at hi; exact hi
 rw [rowF_get M R i hi']
 have h := hM M[i] (List.getElem_mem hi')
 refine rowOf_fit _ _ h.1 h.2 ?_
 rw [List.getD_eq_getElem?_getD]
 cases hh : R[i]? with
 | none => exact nil_fits
 | some v => exact hR v (List.mem_of_getElem? hh)
end Go.Proofs.YtnpmgempkoeapaaGreatDoor
