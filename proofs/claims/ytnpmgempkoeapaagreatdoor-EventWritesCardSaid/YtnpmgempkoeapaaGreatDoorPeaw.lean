/-
  Put together, as far as it is used: Qo.
-/
import Derived.Test.YtnpmgempkoeapaaGreatDoorPeah
import Derived.Test.YtnpmgempkoeapaaGreatDoorPeai
import Derived.Test.YtnpmgempkoeapaaGreatDoorPeap
import Derived.Test.YtnpmgempkoeapaaGreatDoorPeaq
import Derived.Test.YtnpmgempkoeapaaGreatDoorPeav
import Derived.Deep.RegionHeld3
set_option linter.unusedVariables false
set_option linter.unusedSimpArgs false
set_option linter.defProp false
namespace Go.Proofs.YtnpmgempkoeapaaGreatDoor
open Go.RowKit Dg
theorem VRow.takeK {w : World} {A : Option Addr} {L : List Vl} (h : VRow w A L) (k : Nat) : VRow w A (L.take k) := fun hl => by
 obtain ⟨b, off, e, hc⟩ := h (by rintro rfl; simp at hl)
 refine ⟨b, off, e, fun i hi => ?_⟩
 rw [List.length_take] at hi
 rw [List.getElem_take]
 exact hc i (by omega)
theorem fitsTo_may {M : List Cl} {R : List Vl} {k : Nat} (h : fitsTo M R k = true) (hM : k ≤ M.length) (hR : k ≤ R.length) : ∀ x ∈ R.take k, x.may = true := fun x hx => by
 obtain ⟨i, hi, rfl⟩ := List.getElem_of_mem hx
 rw [List.length_take] at hi
 rw [List.getElem_take]
 unfold fitsTo at h
 rw [List.all_eq_true] at h
 have := h i (List.mem_range.2 (by omega))
 rw [List.getElem?_eq_getElem (by omega), List.getElem?_eq_getElem (by omega)] at this
 simp only [standsF, Bool.and_eq_true] at this
 exact this.1
def keyOk (M : List Cl) (R : List Vl) (k : Nat) : Bool := decide (k ≤ R.length) && fitsTo M R k
def keyT (M : List Cl) (R : List Vl) (k : Nat) : Value := if keyOk M R k = true then .tuple #[.string (bs (keys (R.take k))), .int .i64 0] else .tuple #[.string ⟨#[]⟩, .int .i64 9]
set_option maxHeartbeats 4000000 in
set_option maxRecDepth 100000 in
theorem rkey_any (A : Option Addr) (M : List Cl) (n c : Nat) (kk : Nat) (Ar : Option Addr) (R : List Vl) (nr cr : Nat) (w : World) (hn : M.length = n) (hl : n ≤ 900) (hkn : kk ≤ n) (hk4 : kk ≤ 4) (hnc : nr ≤ cr) (hA : CRow w A M) (hnr : R.length = nr) (hR : VRow w Ar R) (hf : ∀ x ∈ R, x.fit) :
 Calls Tryz.prog 32 #[.agg #[.slice A n c, .int .i64 kk], .slice Ar nr cr] w fun e w' => e = .returned (keyT M R kk) ∧ Hid (Below w.heap.size w w') := by
 have HN := Lib.hid hn
 have HA := Lib.hid hA
 have HNR := Lib.hid hnr
 have HR := Lib.hid hR
 have HF := Lib.hid hf
 have HB0 := Lib.hid ((Below.refl w.heap.size w).alloc (Nat.le_refl _) (.cells #[.slice A n c, .int .i64 kk] 27))
 have HS0 := Lib.hid (Has.new w 27 #[.slice A n c, .int .i64 kk])
 clear hn hA hnr hR hf
 by_cases hnn : kk ≤ nr
 ·have HC : Hid (keyOk M R kk = fitsTo M R kk) := by show _ = _; unfold keyOk; rw [HNR.out]; simp [hnn]
  have hqd : decide (nr < kk) = false := by simp; omega
  go_enter Tryz.func32, Tryz.ntmps32
  go_wp2_with fail
  go_loopw [6] (fun i wr => ∃ k : Nat, k ≤ kk ∧ i = .int .i64 k ∧ Hid (fitsTo M R k = true) ∧ Hid (Below w.heap.size w wr) ∧ Hid (Has wr w.heap.size 27 #[.slice A n c, .int .i64 kk])) (fun i _ => kk - (intOf i).toNat)
  case atStart => exact ⟨0, by omega, rfl, rfl, HB0.out, HS0.out⟩
  case round =>
   obtain ⟨k, hk, rfl, HT, HB, HS⟩ := hrel
   by_cases hlt : k < kk
   ·have hkl : k < M.length := by rw [HN.out]; omega
    have hkr : k < R.length := by rw [HNR.out]; omega
    obtain ⟨b, off, rfl, hc⟩ := (HA.out.below HB.out) (by intro e; rw [e] at hkl; simp at hkl)
    obtain ⟨b', off', rfl, hc'⟩ := (HR.out.below HB.out) (by intro e; rw [e] at hkr; simp at hkr)
    obtain ⟨c0, c1, c2⟩ := hc k hkl
    obtain ⟨d0, d1, d2⟩ := hc' k hkr
    have hfit := (HF.out R[k] (List.getElem_mem hkr)).2.2
    have HSU := Lib.hid (fitsTo_succ M R k hkl hkr)
    have HFA := Lib.hid (fitsTo_false M R k kk hlt hkl hkr)
    clear hc hc'
    generalize M[k] = x at *
    generalize R[k] = y at *
    obtain ⟨xa, xb, xc⟩ := x
    obtain ⟨yk, yn, ys⟩ := y
    simp only at c0 c1 c2 d0 d1 d2 hfit
    have a0 : wr.cell? ⟨w.heap.size, 0, none⟩ = some (.slice (some ⟨b, off, none⟩) n c) := HS.out.cell 0
    have HCS := Lib.hid (fun W => stands_any xa xb xc yk yn ys W hfit)
    have hkz : (k : Int) < (nr : Int) := by omega
    have hkz2 : (k : Int) < (n : Int) := by omega
    have s1 : wr.cell? ⟨w.heap.size, 1, none⟩ = some (.int .i64 kk) := HS.out.cell 1
    have hk0 : (0 : Int) ≤ (k : Int) := by omega
    have hBD : Hid (Below wr.heap.size wr wr.drew) := (Below.refl _ wr).drew
    have hbw : Hid (Below w.heap.size w wr.drew) := HB.out.drew
    cases hq : standsF ⟨xa, xb, xc⟩ ⟨yk, yn, ys⟩
    ·go_wp2_with fail
     go_region_held3 (fun W => Hid (Below w.heap.size w W) ∧ W.cell? ⟨w.heap.size, 0, none⟩ = some (.slice (some ⟨b, off, none⟩) n c) ∧ W.cell? ⟨b, off + k * 3, none⟩ = some (.string xa) ∧ W.cell? ⟨b, off + k * 3 + 1, none⟩ = some (.int .i64 xb) ∧ W.cell? ⟨b, off + k * 3 + 2, none⟩ = some (.bool xc) ∧ W.cell? ⟨b', off' + k * 3, none⟩ = some (.int .i64 yk) ∧ W.cell? ⟨b', off' + k * 3 + 1, none⟩ = some (.int .i64 yn) ∧ W.cell? ⟨b', off' + k * 3 + 2, none⟩ = some (.string ys)) ((refine ⟨by assumption, ?_⟩; go_keep))
      (first | (go_at_call 64; refine (HCS.out _).mono ?_; rintro e x1 ⟨rfl, hb1⟩; rw [hq]; have hbx := Lib.hid (hBD.out.trans (hb1.out.mono hBD.out.size)); have hby := Lib.hid (HB.out.trans (hbx.out.mono HB.out.size)); have za0 := keepC hbx.out a0; have zc0 := keepC hbx.out c0; have zc1 := keepC hbx.out c1; have zc2 := keepC hbx.out c2; have zd0 := keepC hbx.out d0; have zd1 := keepC hbx.out d1; have zd2 := keepC hbx.out d2; clear hb1))
     all_goals
      go_wp2_with fail
      go_ret2
      exact ⟨by unfold keyT; rw [HC.out, HFA.out hq]; rfl, hby⟩
    ·go_wp2_with fail
     go_region_held3 (fun W => Hid (Below w.heap.size w W) ∧ W.cell? ⟨w.heap.size, 0, none⟩ = some (.slice (some ⟨b, off, none⟩) n c) ∧ W.cell? ⟨b, off + k * 3, none⟩ = some (.string xa) ∧ W.cell? ⟨b, off + k * 3 + 1, none⟩ = some (.int .i64 xb) ∧ W.cell? ⟨b, off + k * 3 + 2, none⟩ = some (.bool xc) ∧ W.cell? ⟨b', off' + k * 3, none⟩ = some (.int .i64 yk) ∧ W.cell? ⟨b', off' + k * 3 + 1, none⟩ = some (.int .i64 yn) ∧ W.cell? ⟨b', off' + k * 3 + 2, none⟩ = some (.string ys)) ((refine ⟨by assumption, ?_⟩; go_keep))
      (first | (go_at_call 64; refine (HCS.out _).mono ?_; rintro e x1 ⟨rfl, hb1⟩; rw [hq]; have hbx := Lib.hid (hBD.out.trans (hb1.out.mono hBD.out.size)); have hby := Lib.hid (HB.out.trans (hbx.out.mono HB.out.size)); have za0 := keepC hbx.out a0; have zc0 := keepC hbx.out c0; have zc1 := keepC hbx.out c1; have zc2 := keepC hbx.out c2; have zd0 := keepC hbx.out d0; have zd1 := keepC hbx.out d1; have zd2 := keepC hbx.out d2; clear hb1))
     all_goals
      go_wp2_with fail
      go_roundw
      case rel => exact ⟨k + 1, by omega, by go_num, by show _ = _; rw [HSU.out, HT.out, hq]; rfl, hby, HS.out.below hbx.out HS.out.lt⟩
      case measure => simp [intOf]; omega
   ·obtain rfl : k = kk := by omega
    have s1 : wr.cell? ⟨w.heap.size, 1, none⟩ = some (.int .i64 k) := HS.out.cell 1
    have z1 : (0 : Int) ≤ (k : Int) := by omega
    have z2 : (k : Int) ≤ (cr : Int) := by omega
    go_wp2_with fail
    refine (refKey_any Ar (R.take k) k cr wr (by rw [List.length_take, HNR.out]; omega) (by omega) ((HR.out.below HB.out).takeK k) (fun x hx => HF.out x (List.mem_of_mem_take hx)) (fitsTo_may HT.out (by rw [HN.out]; omega) (by rw [HNR.out]; omega))).mono ?_
    rintro e w2 ⟨rfl, hb2⟩
    have HB2 := Lib.hid (HB.out.trans (hb2.out.mono HB.out.size))
    clear hb2
    go_wp2_with fail
    go_ret2
    exact ⟨by unfold keyT; rw [HC.out, HT.out]; rfl, HB2⟩
 ·have HC : Hid (keyOk M R kk = false) := by show _ = _; unfold keyOk; rw [HNR.out]; simp [hnn]
  have hq : (nr : Int) < (kk : Int) := by omega
  go_enter Tryz.func32, Tryz.ntmps32
  go_wp2_with fail
  go_ret2
  exact ⟨by unfold keyT; rw [HC.out]; rfl, HB0⟩
def skT (M : List Cl) (R : List Vl) (k : Nat) : Value := if (beginsF M R k && (R.take k).all Vl.may) = true then .tuple #[.string (bs (keys (R.take k))), .int .i64 0] else .tuple #[.string ⟨#[]⟩, .int .i64 9]
set_option maxHeartbeats 3000000 in
set_option maxRecDepth 100000 in
theorem skey_any (A : Option Addr) (M : List Cl) (n c : Nat) (kk : Nat) (Ar : Option Addr) (R : List Vl) (nr cr : Nat) (w : World) (hn : M.length = n) (hkn : kk ≤ n) (hk4 : kk ≤ 4) (hnc : n ≤ c) (hncr : nr ≤ cr) (hA : CRow w A M) (hnr : R.length = nr) (hR : VRow w Ar R) (hf : ∀ x ∈ R, x.fit) (hTb : Tabs w) :
 Calls Tryz.prog 108 #[.agg #[.slice A n c, .int .i64 kk], .slice Ar nr cr] w fun e w' => e = .returned (skT M R kk) ∧ Hid (Below w.heap.size w w') := by
 have HNR := Lib.hid hnr
 have HR := Lib.hid hR
 have HF := Lib.hid hf
 have HTB := Lib.hid hTb
 have HB0 := Lib.hid ((Below.refl w.heap.size w).alloc (Nat.le_refl _) (.cells #[.slice A n c, .int .i64 kk] 27))
 have HS0 := Lib.hid (Has.new w 27 #[.slice A n c, .int .i64 kk])
 have HC := Lib.hid (begins_any A M n c kk Ar R nr cr _ hn hkn (by omega) hnc (hA.below HB0.out) hnr (hR.below HB0.out))
 have HSK : Hid (skT M R kk = if (beginsF M R kk && (R.take kk).all Vl.may) = true then .tuple #[.string (bs (keys (R.take kk))), .int .i64 0] else .tuple #[.string ⟨#[]⟩, .int .i64 9]) := rfl
 have HBL : Hid (beginsF M R kk = true → kk ≤ nr) := fun h => by
  unfold beginsF at h
  rw [hnr] at h
  simp only [Bool.and_eq_true, decide_eq_true_eq] at h
  exact h.1
 clear hn hA hnr hR hf hTb
 go_enter Tryz.func108, Tryz.ntmps108
 go_wp2_with fail
 refine HC.out.mono ?_
 rintro e w1 ⟨rfl, hb1⟩
 have HB1 := Lib.hid (HB0.out.trans (hb1.out.mono HB0.out.size))
 have HS1 := Lib.hid (HS0.out.below hb1.out HS0.out.lt)
 have s1 : w1.cell? ⟨w.heap.size, 1, none⟩ = some (.int .i64 kk) := HS1.out.cell 1
 clear hb1 HC
 generalize beginsF M R kk = q at *
 cases q
 ·go_wp2_with fail
  go_ret2
  exact ⟨by rw [HSK.out]; rfl, HB1⟩
 ·have hkr := HBL.out rfl
  have z0 : (0 : Int) ≤ (kk : Int) := by omega
  have z1 : (kk : Int) ≤ (cr : Int) := by omega
  have HRT := Lib.hid ((HR.out.below HB1.out).takeK kk)
  have HLT : Hid ((R.take kk).length = kk) := by show _ = _; rw [List.length_take, HNR.out]; omega
  have HFT : Hid (∀ x ∈ R.take kk, x.fit) := fun x hx => HF.out x (List.mem_of_mem_take hx)
  clear HBL
  generalize R.take kk = RT at *
  cases ha : RT.all Vl.may
  ·have hE : (∀ x ∈ RT, x.may = true) ∧ (1 : Nat) = 0 ∧ ([] : List Nat) = keys RT ∨ (∃ x ∈ RT, x.may = false) ∧ (1 : Nat) = 1 ∧ ([] : List Nat) = [] := by
    right
    obtain ⟨x, h1, h2⟩ := List.all_eq_false.1 ha
    exact ⟨⟨x, h1, by simpa using h2⟩, rfl, rfl⟩
   have HK := Lib.hid (key_any Ar RT kk cr w1 HLT.out (by omega) HRT.out HFT.out (HTB.out.below HB1.out) 1 [] hE)
   clear hE
   go_wp2_with fail
   refine HK.out.mono ?_
   rintro e w2 ⟨rfl, hb2⟩
   have HB2 := Lib.hid (HB1.out.trans (hb2.out.mono HB1.out.size))
   clear hb2
   go_wp2_with fail
   go_ret2
   exact ⟨by rw [HSK.out, ha]; rfl, HB2⟩
  ·have HK := Lib.hid (key_any Ar RT kk cr w1 HLT.out (by omega) HRT.out HFT.out (HTB.out.below HB1.out) 0 (keys RT) (.inl ⟨fun x hx => List.all_eq_true.1 ha x hx, rfl, rfl⟩))
   go_wp2_with fail
   refine HK.out.mono ?_
   rintro e w2 ⟨rfl, hb2⟩
   have HB2 := Lib.hid (HB1.out.trans (hb2.out.mono HB1.out.size))
   clear hb2
   go_wp2_with fail
   go_ret2
   exact ⟨by rw [HSK.out, ha]; rfl, HB2⟩
def bareE (k n : Int) : Ev := ⟨k, n, ⟨#[]⟩, [], [], 0, ⟨#[]⟩, [], 0, ⟨⟨#[]⟩, 0, false⟩⟩
theorem bare_at (w : World) (k n : Int) : EvAt w (.agg #[.int .i64 k, .int .i64 n, .string ⟨#[]⟩, .slice none 0 0, .slice none 0 0, .int .i64 0, .string ⟨#[]⟩, .slice none 0 0, .int .i64 0, .string ⟨#[]⟩, .int .i64 0, .bool false]) (bareE k n) :=
 ⟨none, 0, 0, none, 0, 0, none, 0, 0, rfl, ⟨rfl, by simp, fun h => absurd rfl h⟩, ⟨rfl, by simp, fun h => absurd rfl h⟩, rfl, by omega, fun h => absurd rfl h⟩
def numF6 (x : Ev) : Int := if x.n < 0 then 1 else if evF x (bareE x.k x.n) = true then 0 else 1
set_option maxHeartbeats 4000000 in
set_option maxRecDepth 100000 in
theorem mayNumber_any (x : Ev) (Ab : Option Addr) (nb zb : Nat) (Aa : Option Addr) (na za : Nat) (A : Option Addr) (n c : Nat) (w : World) (h : EvAt w (.agg #[.int .i64 x.k, .int .i64 x.n, .string x.t, .slice Ab nb zb, .slice Aa na za, .int .i64 x.ck, .string x.ct, .slice A n c, .int .i64 x.K, .string x.cl.nm, .int .i64 x.cl.k, .bool x.cl.no]) x) :
 Calls Tryz.prog 52 #[.agg #[.int .i64 x.k, .int .i64 x.n, .string x.t, .slice Ab nb zb, .slice Aa na za, .int .i64 x.ck, .string x.ct, .slice A n c, .int .i64 x.K, .string x.cl.nm, .int .i64 x.cl.k, .bool x.cl.no]] w fun e w' => e = .returned (.int .i64 (numF6 x)) ∧ Hid (Below w.heap.size w w') := by
 have HB := Lib.hid ((Below.refl w.heap.size w).alloc (Nat.le_refl _) (.cells #[.int .i64 x.k, .int .i64 x.n, .string x.t, .slice Ab nb zb, .slice Aa na za, .int .i64 x.ck, .string x.ct, .slice A n c, .int .i64 x.K, .string x.cl.nm, .int .i64 x.cl.k, .bool x.cl.no] 33))
 have HS := Lib.hid (esame_any _ _ x (bareE x.k x.n) _ (h.below HB.out) (bare_at _ x.k x.n))
 clear h
 by_cases hlt : x.n < 0
 ·have HF : Hid (numF6 x = 1) := by show _ = _; unfold numF6; rw [if_pos hlt]
  obtain ⟨k, m, t, B, AA, ck, ct, L, K, ⟨cn, cq, cb⟩⟩ := x
  have hlt2 : m < 0 := hlt
  clear hlt HS
  go_enter Tryz.func52, Tryz.ntmps52
  go_wp2_with fail
  go_ret
  exact ⟨by rw [HF.out]; rfl, HB⟩
 ·have hF : numF6 x = if evF x (bareE x.k x.n) = true then 0 else 1 := by unfold numF6; rw [if_neg hlt]
  cases hs : evF x (bareE x.k x.n) with
  | true =>
    rw [hs] at HS hF
    have HF := Lib.hid hF
    obtain ⟨k, m, t, B, AA, ck, ct, L, K, ⟨cn, cq, cb⟩⟩ := x
    have hlt2 : ¬ m < 0 := hlt
    clear hlt hs hF
    go_enter Tryz.func52, Tryz.ntmps52
    go_wp2_with fail
    refine HS.out.mono ?_
    rintro e w1 ⟨rfl, hb1⟩
    have HB1 := Lib.hid (HB.out.trans (hb1.out.mono HB.out.size))
    clear hb1 HS
    go_wp2_with fail
    go_ret
    exact ⟨by rw [HF.out]; rfl, HB1⟩
  | false =>
    rw [hs] at HS hF
    have HF := Lib.hid hF
    obtain ⟨k, m, t, B, AA, ck, ct, L, K, ⟨cn, cq, cb⟩⟩ := x
    have hlt2 : ¬ m < 0 := hlt
    clear hlt hs hF
    go_enter Tryz.func52, Tryz.ntmps52
    go_wp2_with fail
    refine HS.out.mono ?_
    rintro e w1 ⟨rfl, hb1⟩
    have HB1 := Lib.hid (HB.out.trans (hb1.out.mono HB.out.size))
    clear hb1 HS
    go_wp2_with fail
    go_ret
    exact ⟨by rw [HF.out]; rfl, HB1⟩
theorem natInt_beq (a b : Nat) : ((a : Int) == (b : Int)) = (a == b) := by
 rw [Bool.eq_iff_iff, beq_iff_eq, beq_iff_eq]
 omega
def isKeyF (M : List Cl) (k : Nat) (R : List Vl) : Bool := (beginsF M R k && (R.take k).all Vl.may) && R.length == k
set_option maxHeartbeats 4000000 in
set_option maxRecDepth 100000 in
theorem isKey_any (A : Option Addr) (M : List Cl) (n c : Nat) (kk : Nat) (Ar : Option Addr) (R : List Vl) (nr cr : Nat) (w : World) (hn : M.length = n) (hkn : kk ≤ n) (hk4 : kk ≤ 4) (hnc : n ≤ c) (hncr : nr ≤ cr) (hcm : (nr : Int) ≤ 9223372036854775807) (hA : CRow w A M) (hnr : R.length = nr) (hR : VRow w Ar R) (hf : ∀ x ∈ R, x.fit) (hTb : Tabs w) :
 Calls Tryz.prog 85 #[.agg #[.slice A n c, .int .i64 kk], .slice Ar nr cr] w fun e w' => e = .returned (.bool (isKeyF M kk R)) ∧ Hid (Below w.heap.size w w') := by
 have HB := Lib.hid ((Below.refl w.heap.size w).alloc (Nat.le_refl _) (.cells #[.slice A n c, .int .i64 kk] 27))
 have HX := Lib.hid (Has.new w 27 #[.slice A n c, .int .i64 kk])
 have HK := Lib.hid (skey_any A M n c kk Ar R nr cr _ hn hkn hk4 hnc hncr (hA.below HB.out) hnr (hR.below HB.out) hf (hTb.below HB.out))
 have hF : isKeyF M kk R = ((beginsF M R kk && (R.take kk).all Vl.may) && nr == kk) := by unfold isKeyF; rw [hnr]
 unfold skT at HK
 clear hn hA hnr hR hf hTb
 cases hk : (beginsF M R kk && (R.take kk).all Vl.may) with
 | true =>
   rw [hk, Bool.true_and] at hF
   rw [hk, if_pos rfl] at HK
   have HF := Lib.hid hF
   clear hk hF
   go_enter Tryz.func85, Tryz.ntmps85
   go_wp2_with fail
   refine HK.out.mono ?_
   rintro e w1 ⟨rfl, hb1⟩
   have HB1 := Lib.hid (HB.out.trans (hb1.out.mono HB.out.size))
   have HX1 := Lib.hid (HX.out.below hb1.out HX.out.lt)
   have x1 : w1.cell? ⟨w.heap.size, 1, none⟩ = some (.int .i64 kk) := HX1.out.cell 1
   clear hb1 HK
   go_wp2_with fail
   go_ret
   exact ⟨by rw [HF.out, ← natInt_beq]; rfl, HB1⟩
 | false =>
   rw [hk, Bool.false_and] at hF
   rw [hk, if_neg (by simp)] at HK
   have HF := Lib.hid hF
   clear hk hF
   go_enter Tryz.func85, Tryz.ntmps85
   go_wp2_with fail
   refine HK.out.mono ?_
   rintro e w1 ⟨rfl, hb1⟩
   have HB1 := Lib.hid (HB.out.trans (hb1.out.mono HB.out.size))
   clear hb1 HK
   go_wp2_with fail
   go_ret
   exact ⟨by rw [HF.out]; rfl, HB1⟩
theorem tfV_at {T : List Tb} {s : ByteArray} {w : World} (hS : SortT T) (hI : TOks w T) (hG : ∀ y ∈ T, ∃ k : Nat, y.K = (k : Int) ∧ k ≤ y.L.length ∧ k ≤ 4) :
 ∃ (A : Option Addr) (n c kk : Nat), tfV T s = .tuple #[.agg #[.slice A n c, .int .i64 kk], .bool (plF T s)] ∧ (tfL T s).length = n ∧ n ≤ 900 ∧ n ≤ c ∧ CRow w A (tfL T s) ∧ tfK T s = (kk : Int) ∧ kk ≤ n ∧ kk ≤ 4 := by
 cases hp : plF T s with
 | true =>
   have hl : lbN T s < T.length := by
    apply Classical.byContradiction
    intro hn
    unfold plF at hp
    simp [List.getElem?_eq_none (by omega : T.length ≤ lbN T s)] at hp
   have hm := List.getElem_mem hl
   obtain ⟨k, e1, e2, e3⟩ := hG _ hm
   have ok := hI _ hm
   obtain ⟨f1, f2⟩ := tfL_yes hp hl
   rw [tfV_yes hp hl, f1, f2, e1]
   exact ⟨_, _, _, k, rfl, ok.len, ok.few, ok.cap, ok.row, rfl, by rw [← ok.len]; exact e2, e3⟩
 | false =>
   obtain ⟨f1, f2⟩ := tfL_no hS hp
   rw [tfV_no hS hp, f1, f2]
   exact ⟨none, 0, 0, 0, rfl, rfl, by omega, by omega, fun h => absurd rfl h, rfl, by omega, by omega⟩
def ownE (x : Ev) : Ev := if x.k = 5 then ⟨x.k, 0, x.t, x.B, [], 0, ⟨#[]⟩, [], 0, ⟨⟨#[]⟩, 0, false⟩⟩ else ⟨x.k, 0, x.t, [], x.A, 0, ⟨#[]⟩, [], 0, ⟨⟨#[]⟩, 0, false⟩⟩
def rowFits (x : Ev) (T : List Tb) : Bool := if x.k = 5 then isKeyF (tfL T x.t) (tfK T x.t).toNat x.B else fitsF (tfL T x.t) x.A
def rowG6 (x : Ev) (T : List Tb) : Int := if plF T x.t = false then 7 else if rowFits x T = false then 9 else if evF x (ownE x) = true then 0 else 1
set_option maxHeartbeats 8000000 in
set_option maxRecDepth 100000 in
theorem mayRow5_any (x : Ev) (Ab : Option Addr) (nb zb : Nat) (Aa : Option Addr) (na za : Nat) (A : Option Addr) (n c : Nat) (At : Option Addr) (nt ct : Nat) (T : List Tb) (w : World) (h : EvAt w (.agg #[.int .i64 x.k, .int .i64 x.n, .string x.t, .slice Ab nb zb, .slice Aa na za, .int .i64 x.ck, .string x.ct, .slice A n c, .int .i64 x.K, .string x.cl.nm, .int .i64 x.cl.k, .bool x.cl.no]) x) (hk : x.k = 5) (hB : x.B.length = nb ∧ nb ≤ zb ∧ VRow w Ab x.B ∧ ∀ y ∈ x.B, y.fit) (hT : T.length = nt) (hl : nt ≤ 1000) (hA : TRow w At T) (hI : TOks w T) (hS : SortT T) (hG : ∀ y ∈ T, ∃ k : Nat, y.K = (k : Int) ∧ k ≤ y.L.length ∧ k ≤ 4) (hTb : Tabs w) (hnb : (nb : Int) ≤ 9223372036854775807) :
 Calls Tryz.prog 53 #[.agg #[.int .i64 x.k, .int .i64 x.n, .string x.t, .slice Ab nb zb, .slice Aa na za, .int .i64 x.ck, .string x.ct, .slice A n c, .int .i64 x.K, .string x.cl.nm, .int .i64 x.cl.k, .bool x.cl.no], .slice At nt ct] w fun e w' => e = .returned (.int .i64 (rowG6 x T)) ∧ Hid (Below w.heap.size w w') := by
 have hb0 := (Below.refl w.heap.size w).alloc (Nat.le_refl _) (.cells #[.int .i64 x.k, .int .i64 x.n, .string x.t, .slice Ab nb zb, .slice Aa na za, .int .i64 x.ck, .string x.ct, .slice A n c, .int .i64 x.K, .string x.cl.nm, .int .i64 x.cl.k, .bool x.cl.no] 33)
 have HB := Lib.hid hb0
 have HE := Lib.hid (Has.new w 33 #[.int .i64 x.k, .int .i64 x.n, .string x.t, .slice Ab nb zb, .slice Aa na za, .int .i64 x.ck, .string x.ct, .slice A n c, .int .i64 x.K, .string x.cl.nm, .int .i64 x.cl.k, .bool x.cl.no])
 have HF := Lib.hid (pfind_any At T nt ct x.t _ hT hl (hA.below hb0) hS)
 obtain ⟨As, ns, cs, kk, etf, q1, q2, q3, q4, q5, q6, q7⟩ := tfV_at (s := x.t) hS (fun y hy => (hI y hy).below hb0) hG
 rw [etf] at HF
 have hfit : rowFits x T = isKeyF (tfL T x.t) kk x.B := by unfold rowFits; rw [if_pos hk, q5]; rfl
 have hown : ownE x = ⟨x.k, 0, x.t, x.B, [], 0, ⟨#[]⟩, [], 0, ⟨⟨#[]⟩, 0, false⟩⟩ := by unfold ownE; rw [if_pos hk]
 have hrg : rowG6 x T = if plF T x.t = false then 7 else if isKeyF (tfL T x.t) kk x.B = false then 9 else if evF x ⟨x.k, 0, x.t, x.B, [], 0, ⟨#[]⟩, [], 0, ⟨⟨#[]⟩, 0, false⟩⟩ = true then 0 else 1 := by unfold rowG6; rw [hfit, hown]
 have HRG := Lib.hid hrg
 have HQ := Lib.hid q4
 have HBR := Lib.hid hB
 have HTB := Lib.hid hTb
 have HEV := Lib.hid h
 have HQ1 := Lib.hid q1
 clear hfit hown hrg q4 hB hTb h q1 hA hI hS hG etf q5 hb0
 generalize plF T x.t = ok at *
 generalize tfL T x.t = M at *
 obtain ⟨k, m, t, B, AA, ck, tn, L, K, ⟨cn, cq, cb⟩⟩ := x
 have hk5 : k = 5 := hk
 subst hk5
 clear hk
 go_enter Tryz.func53, Tryz.ntmps53
 go_wp2_with fail
 refine HF.out.mono ?_
 rintro e w1 ⟨rfl, hb1⟩
 have HB1 := Lib.hid (HB.out.trans (hb1.out.mono HB.out.size))
 have HQ1b := Lib.hid (HQ.out.below hb1.out)
 have HE1 := Lib.hid (HE.out.below hb1.out HE.out.lt)
 clear hb1 HF
 have x0 : w1.cell? ⟨w.heap.size, 0, none⟩ = some (.int .i64 5) := HE1.out.cell 0
 have x2 : w1.cell? ⟨w.heap.size, 2, none⟩ = some (.string t) := HE1.out.cell 2
 have xa0 : (w1.alloc (.cells #[.slice As ns cs, .int .i64 kk] 27)).cell? ⟨w.heap.size, 0, none⟩ = some (.int .i64 5) := (HE1.out.alloc _).cell 0
 have xa2 : (w1.alloc (.cells #[.slice As ns cs, .int .i64 kk] 27)).cell? ⟨w.heap.size, 2, none⟩ = some (.string t) := (HE1.out.alloc _).cell 2
 obtain ⟨w2, HW2⟩ : ∃ w2, Hid (w2 = (w1.alloc (.cells #[.slice As ns cs, .int .i64 kk] 27)).alloc (.cells #[.int .i64 5, .int .i64 0, .string t, .slice none 0 0, .slice none 0 0, .int .i64 0, .string ⟨#[]⟩, .slice none 0 0, .int .i64 0, .string ⟨#[]⟩, .int .i64 0, .bool false] 33)) := ⟨_, rfl⟩
 have b2 : Below w1.heap.size w1 w2 := by rw [HW2.out]; exact ((Below.refl _ w1).alloc (Nat.le_refl _) _).alloc (by simp) _
 have s2 : Has w2 w1.heap.size 27 #[.slice As ns cs, .int .i64 kk] := by rw [HW2.out]; exact (Has.new w1 _ _).alloc _
 have o2 : Has w2 (w1.heap.size + 1) 33 #[.int .i64 5, .int .i64 0, .string t, .slice none 0 0, .slice none 0 0, .int .i64 0, .string ⟨#[]⟩, .slice none 0 0, .int .i64 0, .string ⟨#[]⟩, .int .i64 0, .bool false] := by
  rw [HW2.out]
  have := Has.new (w1.alloc (.cells #[.slice As ns cs, .int .i64 kk] 27)) 33 #[.int .i64 5, .int .i64 0, .string t, .slice none 0 0, .slice none 0 0, .int .i64 0, .string ⟨#[]⟩, .slice none 0 0, .int .i64 0, .string ⟨#[]⟩, .int .i64 0, .bool false]
  rw [World.size_alloc] at this
  exact this
 have HE2 := Lib.hid (HE1.out.below b2 HE1.out.lt)
 have HB2 := Lib.hid (HB1.out.trans (b2.mono HB1.out.size))
 have HQ2 := Lib.hid (HQ1b.out.below b2)
 have HS2 := Lib.hid s2
 have HO2 := Lib.hid o2
 have z0 : ((w1.alloc (.cells #[.slice As ns cs, .int .i64 kk] 27)).alloc (.cells #[.int .i64 5, .int .i64 0, .string t, .slice none 0 0, .slice none 0 0, .int .i64 0, .string ⟨#[]⟩, .slice none 0 0, .int .i64 0, .string ⟨#[]⟩, .int .i64 0, .bool false] 33)).cell? ⟨w.heap.size, 0, none⟩ = some (.int .i64 5) := ((HE1.out.alloc _).alloc _).cell 0
 clear b2 s2 o2
 go_wp2_with fail
 rw [← HW2.out]
 have lt1 : w.heap.size < w1.heap.size := HE1.out.lt
 clear z0 x0 x2 xa0 xa2 HE1 HB1
 have y3 : w2.cell? ⟨w.heap.size, 3, none⟩ = some (.slice Ab nb zb) := HE2.out.cell 3
 have y4 : w2.cell? ⟨w1.heap.size, 0, none⟩ = some (.slice As ns cs) := HS2.out.cell 0
 have y5 : w2.cell? ⟨w1.heap.size, 1, none⟩ = some (.int .i64 kk) := HS2.out.cell 1
 have HD2 := Lib.hid ((Below.refl w2.heap.size w2).drew)
 have HC := Lib.hid (isKey_any As M ns cs kk Ab B nb zb w2.drew HQ1.out q6 q7 q3 HBR.out.2.1 hnb (HQ2.out.below HD2.out) HBR.out.1 ((HBR.out.2.2.1.below HB2.out).below HD2.out) HBR.out.2.2.2 ((HTB.out.below HB2.out).below HD2.out))
 have hS0 : (fun X : World => X.cell? ⟨w.heap.size, 3, none⟩ = some (.slice Ab nb zb) ∧ X.cell? ⟨w1.heap.size, 0, none⟩ = some (.slice As ns cs) ∧ X.cell? ⟨w1.heap.size, 1, none⟩ = some (.int .i64 kk)) w2.drew := ⟨y3, y4, y5⟩
 refine wp_region_held_drew (S := (fun X : World => X.cell? ⟨w.heap.size, 3, none⟩ = some (.slice Ab nb zb) ∧ X.cell? ⟨w1.heap.size, 0, none⟩ = some (.slice As ns cs) ∧ X.cell? ⟨w1.heap.size, 1, none⟩ = some (.int .i64 kk))) (by kernel_rfl) hS0 (fun _ => ?_)
 (refine wpAnyH_take (i := 0) (v := ?_) rfl (by kernel_rfl) (by kernel_rfl) (by kernel_rfl) (fun _ _ _ h => h) (Or.inl ⟨by rfl, ?_⟩) (by assumption) ?_; rotate_left; (intro w hSw; (try dsimp only at hSw); go_simp; try with_reducible rfl); ((try simp only [zA, zB, zC, Act.put, zD, zE, zF])))
 (refine wpAnyH_take (i := 1) (v := ?_) rfl (by kernel_rfl) (by kernel_rfl) (by kernel_rfl) (fun _ _ _ h => h) (Or.inl ⟨by rfl, ?_⟩) (by assumption) ?_; rotate_left; (intro w hSw; (try dsimp only at hSw); go_simp; try with_reducible rfl); ((try simp only [zA, zB, zC, Act.put, zD, zE, zF])))
 (refine wpAnyH_take (i := 2) (v := ?_) rfl (by kernel_rfl) (by kernel_rfl) (by kernel_rfl) (fun _ _ _ h => h) (Or.inl ⟨by rfl, ?_⟩) (by assumption) ?_; rotate_left; (intro w hSw; (try dsimp only at hSw); go_simp; try with_reducible rfl); ((try simp only [zA, zB, zC, Act.put, zD, zE, zF])))
 (refine wpAnyH_take (i := 3) (v := ?_) rfl (by kernel_rfl) (by kernel_rfl) (by kernel_rfl) (fun _ _ _ h => h) (Or.inl ⟨by rfl, ?_⟩) (by assumption) ?_; rotate_left; (intro w hSw; (try dsimp only at hSw); go_simp; try with_reducible rfl); ((try simp only [zA, zB, zC, Act.put, zD, zE, zF])))
 (refine wpAnyH_take (i := 4) (v := ?_) rfl (by kernel_rfl) (by kernel_rfl) (by kernel_rfl) (fun _ _ _ h => h) (Or.inl ⟨by rfl, ?_⟩) (by assumption) ?_; rotate_left; (intro w hSw; (try dsimp only at hSw); go_simp; try with_reducible rfl); ((try simp only [zA, zB, zC, Act.put, zD, zE, zF])))
 (refine wpAnyH_take (i := 6) (v := ?_) rfl (by kernel_rfl) (by kernel_rfl) (by kernel_rfl) (fun _ _ _ h => h) (Or.inl ⟨by rfl, ?_⟩) (by assumption) ?_; rotate_left; (intro w hSw; (try dsimp only at hSw); go_simp; try with_reducible rfl); ((try simp only [zA, zB, zC, Act.put, zD, zE, zF])))
 refine wpAnyH_ready (rs := [5]) (by kernel_rfl) (by simp) ?_
 refine AllReadyH.cons rfl (fun K2 hK2 => ?_) AllReadyH.nil
 go_simp
 refine (HC.out).mono ?_
 rintro e w3 ⟨rfl, hb3⟩
 have HB3 := Lib.hid (HD2.out.trans hb3.out)
 have z3 := keepC HB3.out y3
 have z4 := keepC HB3.out y4
 have z5 := keepC HB3.out y5
 have HO3 := Lib.hid (HO2.out.below HB3.out HO2.out.lt)
 have o3 : w3.cell? ⟨w1.heap.size + 1, 3, none⟩ = some (.slice none 0 0) := HO3.out.cell 3
 go_wp2_with fail
 refine hK2.out _ _ (by (try dsimp only); exact ⟨z3, z4, z5⟩) (fun _ => ?_)
 clear hK2 K2 HC hb3 hS0 y3 y4 y5
 ((try simp only [zA, zB, zC, Act.put, zD, zE, zF]))
 have HB23 := Lib.hid (HB2.out.trans (HB3.out.mono HB2.out.size))
 have HE3 := Lib.hid (HE2.out.below HB3.out HE2.out.lt)
 have HS3 := Lib.hid (HS2.out.below HB3.out HS2.out.lt)
 have f3 : w3.frozen? ⟨w1.heap.size + 1, 3, none⟩ = false := HO3.out.free 3
 have HO4 : Hid (Has (w3.setCell ⟨w1.heap.size + 1, 3, none⟩ (.slice Ab nb zb)) (w1.heap.size + 1) 33 #[.int .i64 5, .int .i64 0, .string t, .slice Ab nb zb, .slice none 0 0, .int .i64 0, .string ⟨#[]⟩, .slice none 0 0, .int .i64 0, .string ⟨#[]⟩, .int .i64 0, .bool false]) := HO3.out.put 3 _
 have HE4 : Hid (Has (w3.setCell ⟨w1.heap.size + 1, 3, none⟩ (.slice Ab nb zb)) w.heap.size 33 _) := HE3.out.far (by show w.heap.size ≠ w1.heap.size + 1; omega) _
 have HS4 : Hid (Has (w3.setCell ⟨w1.heap.size + 1, 3, none⟩ (.slice Ab nb zb)) w1.heap.size 27 _) := HS3.out.far (by show w1.heap.size ≠ w1.heap.size + 1; omega) _
 have HB4 : Hid (Below w.heap.size w (w3.setCell ⟨w1.heap.size + 1, 3, none⟩ (.slice Ab nb zb))) := HB23.out.setCell (by show w.heap.size ≤ w1.heap.size + 1; omega) _
 generalize hw4 : w3.setCell ⟨w1.heap.size + 1, 3, none⟩ (.slice Ab nb zb) = w4 at HO4 HE4 HS4 HB4
 refine wpAnyH_ready (rs := [7]) (by kernel_rfl) (by simp) ?_
 refine AllReadyH.cons rfl (fun K2 hK2 => ?_) AllReadyH.nil
 go_simp
 refine hK2.out _ _ (by (try dsimp only); exact ⟨HE4.out.cell 3, HS4.out.cell 0, HS4.out.cell 1⟩) (fun _ => ?_)
 clear hK2 K2 z3 z4 z5 o3 f3 HB23 HE3 HS3 HO3 hw4 HB3 HE2 HS2 HO2 HB2 HW2 HD2 HQ2 HQ1b
 ((try simp only [zA, zB, zC, Act.put, zD, zE, zF]))
 (refine wpAnyH_take (i := 8) (v := ?_) rfl (by kernel_rfl) (by kernel_rfl) (by kernel_rfl) (fun _ _ _ h => h) (Or.inl ⟨by rfl, ?_⟩) (by assumption) ?_; rotate_left; (intro w hSw; (try dsimp only at hSw); go_simp; try with_reducible rfl); ((try simp only [zA, zB, zC, Act.put, zD, zE, zF])))
 refine wpAnyH_done (by kernel_rfl) ?_ _
 cases ok with
 | false =>
   go_wp2_with fail
   go_ret
   exact ⟨by rw [HRG.out]; rfl, HB4⟩
 | true =>
   cases hf : isKeyF M kk B with
   | false =>
     rw [hf] at HRG
     go_wp2_with fail
     go_ret
     exact ⟨by rw [HRG.out]; rfl, HB4⟩
   | true =>
     rw [hf] at HRG
     have HS := Lib.hid (esame_any _ _ _ (⟨5, 0, t, B, [], 0, ⟨#[]⟩, [], 0, ⟨⟨#[]⟩, 0, false⟩⟩ : Ev) _ (HEV.out.below HB4.out) (⟨Ab, nb, zb, none, 0, 0, none, 0, 0, rfl, ⟨HBR.out.1, hnb, HBR.out.2.2.1.below HB4.out⟩, ⟨rfl, by simp, fun h => absurd rfl h⟩, rfl, by omega, fun h => absurd rfl h⟩ : EvAt w4 (.agg #[.int .i64 5, .int .i64 0, .string t, .slice Ab nb zb, .slice none 0 0, .int .i64 0, .string ⟨#[]⟩, .slice none 0 0, .int .i64 0, .string ⟨#[]⟩, .int .i64 0, .bool false]) _))
     have e0 : w4.cell? ⟨w.heap.size, 0, none⟩ = some (.int .i64 5) := HE4.out.cell 0
     have e1 : w4.cell? ⟨w.heap.size, 1, none⟩ = some (.int .i64 m) := HE4.out.cell 1
     have e2 : w4.cell? ⟨w.heap.size, 2, none⟩ = some (.string t) := HE4.out.cell 2
     have e3 : w4.cell? ⟨w.heap.size, 3, none⟩ = some (.slice Ab nb zb) := HE4.out.cell 3
     have e4 : w4.cell? ⟨w.heap.size, 4, none⟩ = some (.slice Aa na za) := HE4.out.cell 4
     have e5 : w4.cell? ⟨w.heap.size, 5, none⟩ = some (.int .i64 ck) := HE4.out.cell 5
     have e6 : w4.cell? ⟨w.heap.size, 6, none⟩ = some (.string tn) := HE4.out.cell 6
     have e7 : w4.cell? ⟨w.heap.size, 7, none⟩ = some (.slice A n c) := HE4.out.cell 7
     have e8 : w4.cell? ⟨w.heap.size, 8, none⟩ = some (.int .i64 K) := HE4.out.cell 8
     have e9 : w4.cell? ⟨w.heap.size, 9, none⟩ = some (.string cn) := HE4.out.cell 9
     have e10 : w4.cell? ⟨w.heap.size, 10, none⟩ = some (.int .i64 cq) := HE4.out.cell 10
     have e11 : w4.cell? ⟨w.heap.size, 11, none⟩ = some (.bool cb) := HE4.out.cell 11
     have o0 : w4.cell? ⟨w1.heap.size + 1, 0, none⟩ = some (.int .i64 5) := HO4.out.cell 0
     have o1 : w4.cell? ⟨w1.heap.size + 1, 1, none⟩ = some (.int .i64 0) := HO4.out.cell 1
     have o2 : w4.cell? ⟨w1.heap.size + 1, 2, none⟩ = some (.string t) := HO4.out.cell 2
     have o3 : w4.cell? ⟨w1.heap.size + 1, 3, none⟩ = some (.slice Ab nb zb) := HO4.out.cell 3
     have o4 : w4.cell? ⟨w1.heap.size + 1, 4, none⟩ = some (.slice none 0 0) := HO4.out.cell 4
     have o5 : w4.cell? ⟨w1.heap.size + 1, 5, none⟩ = some (.int .i64 0) := HO4.out.cell 5
     have o6 : w4.cell? ⟨w1.heap.size + 1, 6, none⟩ = some (.string ⟨#[]⟩) := HO4.out.cell 6
     have o7 : w4.cell? ⟨w1.heap.size + 1, 7, none⟩ = some (.slice none 0 0) := HO4.out.cell 7
     have o8 : w4.cell? ⟨w1.heap.size + 1, 8, none⟩ = some (.int .i64 0) := HO4.out.cell 8
     have o9 : w4.cell? ⟨w1.heap.size + 1, 9, none⟩ = some (.string ⟨#[]⟩) := HO4.out.cell 9
     have o10 : w4.cell? ⟨w1.heap.size + 1, 10, none⟩ = some (.int .i64 0) := HO4.out.cell 10
     have o11 : w4.cell? ⟨w1.heap.size + 1, 11, none⟩ = some (.bool false) := HO4.out.cell 11
     clear hf HEV HBR HTB
     go_wp2_with fail
     refine HS.out.mono ?_
     rintro e w5 ⟨rfl, hb5⟩
     have HB5 := Lib.hid (HB4.out.trans (hb5.out.mono HB4.out.size))
     clear HS hb5 e0 e1 e2 e3 e4 e5 e6 e7 e8 e9 e10 e11 o0 o1 o2 o3 o4 o5 o6 o7 o8 o9 o10 o11
     generalize evF _ _ = q at *
     cases q <;> go_wp2_with fail
     ·go_ret
      exact ⟨by rw [HRG.out]; rfl, HB5⟩
     ·go_ret
      exact ⟨by rw [HRG.out]; rfl, HB5⟩
end Go.Proofs.YtnpmgempkoeapaaGreatDoor
