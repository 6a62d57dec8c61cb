/-
  Whether a row begins with values of the kinds of the key's columns: the program's begins.
-/
import Derived.Test.YticfhjimbochlaaDoorRfits
namespace Go.Proofs.YticfhjimbochlaaDoor
open Go.RowKit Dg
def kindsTo (M : List Cl) (R : List Vl) (k : Nat) : Bool := (List.range k).all fun i => match M[i]?, R[i]? with | some c, some v => v.k == c.k | _, _ => true
theorem kindsTo_succ (M : List Cl) (R : List Vl) (k : Nat) (h : k < M.length) (h' : k < R.length) : kindsTo M R (k + 1) = (kindsTo M R k && (R[k].k == M[k].k)) := by
  unfold kindsTo; rw [List.range_succ, List.all_append]; simp [h, h']
theorem kindsTo_false (M : List Cl) (R : List Vl) (k n : Nat) (hk : k < n) (h : k < M.length) (h' : k < R.length) (hs : (R[k].k == M[k].k) = false) : kindsTo M R n = false := by
  unfold kindsTo; rw [List.all_eq_false]
  exact ⟨k, List.mem_range.2 hk, by simp [h, h', hs]⟩
def beginsF (M : List Cl) (R : List Vl) (k : Nat) : Bool := decide (k ≤ R.length) && kindsTo M R k
set_option maxHeartbeats 3000000 in
set_option maxRecDepth 100000 in
theorem begins_any (A : Option Addr) (M : List Cl) (n c : Nat) (kk : Nat) (Ar : Option Addr) (R : List Vl) (nr cr : Nat) (w : World) (hn : M.length = n) (hkn : kk ≤ n) (hk9 : kk ≤ 900) (hnc : n ≤ c) (hA : CRow w A M) (hnr : R.length = nr) (hR : VRow w Ar R) :
    Calls Tryd.prog 35 #[.agg #[.slice A n c, .int .i64 kk], .slice Ar nr cr] w fun e w' => e = .returned (.bool (beginsF M R kk)) ∧ Hid (Below w.heap.size w w') := by
  have HN := Lib.hid hn
  have HA := Lib.hid hA
  have HNR := Lib.hid hnr
  have HR := Lib.hid hR
  have HB0 := Lib.hid ((Below.refl w.heap.size w).alloc (Nat.le_refl _) (.cells #[.slice A n c, .int .i64 kk] 24))
  have z0 : (0 : Int) ≤ (kk : Int) := by omega
  have z1 : (kk : Int) ≤ (c : Int) := by omega
  have hz0 : ¬ (kk : Int) < 0 := by omega
  have hz1 : ¬ (n : Int) < (kk : Int) := by omega
  have hq1 : decide (n < kk) = false := by simp; omega
  clear hn hA hnr hR
  by_cases hnn : kk ≤ nr
  · have HC : Hid (beginsF M R kk = kindsTo M R kk) := by show _ = _; unfold beginsF; rw [HNR.out]; simp [hnn]
    have hq2 : decide (nr < kk) = false := by simp; omega
    go_enter Tryd.func35, Tryd.ntmps35
    go_wp2_with fail
    go_loopw [31] (fun i wr => ∃ k : Nat, k ≤ kk ∧ i = .int .i64 k ∧ Hid (kindsTo M R k = true) ∧ Hid (Below w.heap.size w wr)) (fun i _ => kk - (intOf i).toNat)
    case atStart => exact ⟨0, by omega, rfl, rfl, HB0.out⟩
    case round =>
      obtain ⟨k, hk, rfl, HT, HB⟩ := hrel
      by_cases hlt : k < kk
      · have hkl : k < M.length := by rw [HN.out]; omega
        have hkr : k < R.length := by rw [HNR.out]; omega
        obtain ⟨b, off, rfl, hc⟩ := (HA.out.below HB.out) (by intro e; rw [e] at hkl; simp at hkl)
        obtain ⟨b', off', rfl, hc'⟩ := (HR.out.below HB.out) (by intro e; rw [e] at hkr; simp at hkr)
        obtain ⟨c0, c1, c2⟩ := hc k hkl
        obtain ⟨d0, d1, d2⟩ := hc' k hkr
        have HSU := Lib.hid (kindsTo_succ M R k hkl hkr)
        have HFA := Lib.hid (kindsTo_false M R k kk hlt hkl hkr)
        clear hc hc'
        generalize M[k] = x at *
        generalize R[k] = y at *
        obtain ⟨xa, xb, xc⟩ := x
        obtain ⟨yk, yn, ys⟩ := y
        simp only at c0 c1 c2 d0 d1 d2
        have hkz : (k : Int) < (nr : Int) := by omega
        have hk0 : (0 : Int) ≤ (k : Int) := by omega
        have hBW : Hid (Below wr.heap.size wr (wr.alloc (.cells #[.string xa, .int .i64 xb, .bool xc] 57))) := (Below.refl _ wr).alloc (Nat.le_refl _) _
        have HBU := Lib.hid (HB.out.trans (hBW.out.mono HB.out.size))
        have e0 := keepC hBW.out d0
        have g1 : (wr.alloc (.cells #[.string xa, .int .i64 xb, .bool xc] 57)).cell? ⟨wr.heap.size, 1, none⟩ = some (.int .i64 xb) := (Has.new wr 57 #[.string xa, .int .i64 xb, .bool xc]).cell 1
        clear d0 d1 d2
        cases hq : (yk == xb)
        · have hqn : (yk != xb) = true := by simp [bne, hq]
          go_wp2_with fail
          obtain ⟨W9, hW9⟩ : ∃ W9, W9 = wr.alloc (.cells #[.string xa, .int .i64 xb, .bool xc] 57) := ⟨_, rfl⟩
          rw [← hW9] at HBU e0 g1 ⊢
          clear hW9
          go_region
          all_goals
            go_wp2_with fail
            go_ret
            exact ⟨by rw [HC.out, HFA.out hq]; rfl, HBU.out.drew⟩
        · have hqn : (yk != xb) = false := by simp [bne, hq]
          go_wp2_with fail
          obtain ⟨W9, hW9⟩ : ∃ W9, W9 = wr.alloc (.cells #[.string xa, .int .i64 xb, .bool xc] 57) := ⟨_, rfl⟩
          rw [← hW9] at HBU e0 g1 ⊢
          clear hW9
          go_region
          all_goals
            go_wp2_with fail
            go_roundw
            case rel => exact ⟨k + 1, by omega, by go_num, by show _ = _; rw [HSU.out, HT.out, hq]; rfl, HBU.out.drew⟩
            case measure => simp [intOf]; omega
      · obtain rfl : k = kk := by omega
        go_wp2_with fail
        go_ret
        exact ⟨by rw [HC.out, HT.out]; rfl, HB⟩
  · have HC : Hid (beginsF M R kk = false) := by show _ = _; unfold beginsF; rw [HNR.out]; simp [hnn]
    have hq : (nr : Int) < (kk : Int) := by omega
    go_enter Tryd.func35, Tryd.ntmps35
    go_wp2_with fail
    go_ret
    exact ⟨by rw [HC.out]; rfl, HB0⟩
end Go.Proofs.YticfhjimbochlaaDoor
