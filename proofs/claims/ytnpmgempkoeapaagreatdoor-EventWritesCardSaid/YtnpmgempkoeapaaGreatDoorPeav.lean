/-
  Put together, as far as it is used: Qm.
-/
import Derived.Test.YtnpmgempkoeapaaGreatDoorPeas
import Derived.Test.YtnpmgempkoeapaaGreatDoorPeau
set_option linter.unusedVariables false
set_option linter.unusedSimpArgs false
set_option linter.defProp false
namespace Go.Proofs.YtnpmgempkoeapaaGreatDoor
open Go.RowKit Dg
set_option maxRecDepth 100000
theorem tat_yes {T : List Tb} {s : ByteArray} (h : plF T s = true) : tatI T s = ((lbN T s : Nat) : Int) := by
 obtain ⟨h1, h2⟩ := plF_tat h
 unfold tatI; rw [h2, if_pos h1]
theorem tat_no {T : List Tb} {s : ByteArray} (hS : SortT T) (h : plF T s = false) : tatI T s = -1 := by
 unfold tatI; rw [if_neg (plF_tat' hS h)]
def fcT (T : List Tb) (tn : ByteArray) (A' : Option Addr) (n' c' : Nat) (L' : List Cl) (K' : Int) : List Tb := if fcE T tn L' K' = 0 then T.take (lbN T tn) ++ [⟨tn, A', n', c', L', K'⟩] ++ T.drop (lbN T tn) else []
theorem fcT_ok {T : List Tb} {tn : ByteArray} {A' : Option Addr} {n' c' : Nat} {L' : List Cl} {K' : Int} (h : fcE T tn L' K' = 0) : fcT T tn A' n' c' L' K' = T.take (lbN T tn) ++ [⟨tn, A', n', c', L', K'⟩] ++ T.drop (lbN T tn) := by
 unfold fcT; rw [if_pos h]
theorem fcT_bad {T : List Tb} {tn : ByteArray} {A' : Option Addr} {n' c' : Nat} {L' : List Cl} {K' : Int} (h : fcE T tn L' K' ≠ 0) : fcT T tn A' n' c' L' K' = [] := by
 unfold fcT; rw [if_neg h]
theorem ownT_bad {B : Nat} {w : World} {T : List Tb} {tn : ByteArray} {A' : Option Addr} {n' c' : Nat} {L' : List Cl} {K' : Int} (h : fcE T tn L' K' ≠ 0) : Hid (OwnT B w (.slice none 0 0) (fcT T tn A' n' c' L' K')) := by
 show OwnT _ _ _ _
 rw [fcT_bad h]; exact ownT_nil _ _
set_option maxHeartbeats 4000000 in
theorem rfolC_any (A : Option Addr) (T : List Tb) (n c : Nat) (tn : ByteArray) (A' : Option Addr) (n' c' : Nat) (L' : List Cl) (K' : Int) (cn : ByteArray) (kd : Int) (no : Bool) (w : World) (hn : T.length = n) (hnc : n ≤ c) (hcm : c ≤ maxLen) (hl : n ≤ 900) (hA : TRow w A T) (hA0 : A = none → c = 0) (hS : SortT T) (hn' : L'.length = n') (hA' : CRow w A' L') :
 Calls Tryz.prog 18 #[.slice A n c, .agg #[.int .i64 1, .string tn, .slice A' n' c', .int .i64 K', .string cn, .int .i64 kd, .bool no]] w fun e w' => ∃ v, e = .returned (.tuple #[v, .int .i64 (fcE T tn L' K')]) ∧ Hid (OwnT w.heap.size w' v (fcT T tn A' n' c' L' K')) ∧ Hid (Below w.heap.size w w') := by
 have HB0 := Lib.hid ((Below.refl w.heap.size w).alloc (Nat.le_refl _) (.cells #[.int .i64 1, .string tn, .slice A' n' c', .int .i64 K', .string cn, .int .i64 kd, .bool no] 31))
 have HX0 := Lib.hid (Has.new w 31 #[.int .i64 1, .string tn, .slice A' n' c', .int .i64 K', .string cn, .int .i64 kd, .bool no])
 have HAT := fun (W : World) (hb : Below w.heap.size w W) => at_any A T n c tn W hn (by omega) (hA.below hb)
 have HMY := fun (W : World) (hb : Below w.heap.size w W) => rmay_all A' L' n' c' K' W hn' (hA'.below hb)
 have HAT := Lib.hid HAT
 have HMY := Lib.hid HMY
 have HN := Lib.hid hn
 have HA := Lib.hid hA
 have HS := Lib.hid hS
 have HTY := Lib.hid (@tat_yes T tn)
 have HTN := Lib.hid (@tat_no T tn hS)
 have HLE := Lib.hid (lb_le T tn)
 have e1 := @fcE_name T tn L' K'
 have e2 := @fcE_there T tn L' K'
 have e3 := @fcE_may T tn L' K'
 have e4 := @fcE_many T tn L' K'
 have e5 := @fcE_ok T tn L' K'
 rw [hn] at e4 e5
 clear hn hA hA' hn' hS
 obtain ⟨qm, hqm⟩ : ∃ q, smayF L' K' = q := ⟨_, rfl⟩
 rcases hqn : nameF tn with _ | _
 ·have HE := Lib.hid (e1 hqn)
  clear e1 e2 e3 e4 e5
  obtain ⟨ti, hti⟩ : ∃ ti, tatI T tn = ti := ⟨_, rfl⟩
  have HTI := Lib.hid hti
  clear hti
  go_enter Tryz.func18, Tryz.ntmps18
  go_wp2_with fail
  refine (HAT.out _ HB0.out).mono ?_
  rintro e w1 ⟨rfl, rfl⟩
  rw [HTI.out]
  go_wp2_with fail
  refine (refName_any tn _).mono ?_
  rintro e w2 ⟨rfl, rfl⟩
  rw [hqn]
  go_wp2_with fail
  refine (HMY.out _ HB0.out).mono ?_
  rintro e w3 ⟨rfl, hb3⟩
  rw [hqm]
  have HB3 := Lib.hid (HB0.out.trans (hb3.out.mono HB0.out.size))
  have HX3 := Lib.hid (HX0.out.below hb3.out HX0.out.lt)
  have x0 : w3.cell? ⟨w.heap.size, 0, none⟩ = some (.int .i64 1) := HX3.out.cell 0
  have x1 : w3.cell? ⟨w.heap.size, 1, none⟩ = some (.string tn) := HX3.out.cell 1
  have x2 : w3.cell? ⟨w.heap.size, 2, none⟩ = some (.slice A' n' c') := HX3.out.cell 2
  have x3 : w3.cell? ⟨w.heap.size, 3, none⟩ = some (.int .i64 K') := HX3.out.cell 3
  clear hb3 HX0 HB0
  go_wp2_with fail
  go_ret2
  exact ⟨_, by rw [HE.out]; rfl, ownT_bad (by rw [HE.out]; omega), HB3⟩
 ·rcases hp : plF T tn with _ | _
  ·have HTI := Lib.hid (HTN.out hp)
   cases qm
   ·have HE := Lib.hid (e3 hqn hp hqm)
    clear e1 e2 e3 e4 e5
    go_enter Tryz.func18, Tryz.ntmps18
    go_wp2_with fail
    refine (HAT.out _ HB0.out).mono ?_
    rintro e w1 ⟨rfl, rfl⟩
    rw [HTI.out]
    go_wp2_with fail
    refine (refName_any tn _).mono ?_
    rintro e w2 ⟨rfl, rfl⟩
    rw [hqn]
    go_wp2_with fail
    refine (HMY.out _ HB0.out).mono ?_
    rintro e w3 ⟨rfl, hb3⟩
    rw [hqm]
    have HB3 := Lib.hid (HB0.out.trans (hb3.out.mono HB0.out.size))
    have HX3 := Lib.hid (HX0.out.below hb3.out HX0.out.lt)
    have x0 : w3.cell? ⟨w.heap.size, 0, none⟩ = some (.int .i64 1) := HX3.out.cell 0
    have x1 : w3.cell? ⟨w.heap.size, 1, none⟩ = some (.string tn) := HX3.out.cell 1
    have x2 : w3.cell? ⟨w.heap.size, 2, none⟩ = some (.slice A' n' c') := HX3.out.cell 2
    have x3 : w3.cell? ⟨w.heap.size, 3, none⟩ = some (.int .i64 K') := HX3.out.cell 3
    clear hb3 HX0 HB0
    go_wp2_with fail
    go_ret2
    exact ⟨_, by rw [HE.out]; rfl, ownT_bad (by rw [HE.out]; omega), HB3⟩
   ·by_cases h64 : 64 ≤ n
    ·have HE := Lib.hid (e4 hqn hp hqm h64)
     have h64z : (64 : Int) ≤ (n : Int) := by omega
     clear e1 e2 e3 e4 e5
     go_enter Tryz.func18, Tryz.ntmps18
     go_wp2_with fail
     refine (HAT.out _ HB0.out).mono ?_
     rintro e w1 ⟨rfl, rfl⟩
     rw [HTI.out]
     go_wp2_with fail
     refine (refName_any tn _).mono ?_
     rintro e w2 ⟨rfl, rfl⟩
     rw [hqn]
     go_wp2_with fail
     refine (HMY.out _ HB0.out).mono ?_
     rintro e w3 ⟨rfl, hb3⟩
     rw [hqm]
     have HB3 := Lib.hid (HB0.out.trans (hb3.out.mono HB0.out.size))
     have HX3 := Lib.hid (HX0.out.below hb3.out HX0.out.lt)
     have x0 : w3.cell? ⟨w.heap.size, 0, none⟩ = some (.int .i64 1) := HX3.out.cell 0
     have x1 : w3.cell? ⟨w.heap.size, 1, none⟩ = some (.string tn) := HX3.out.cell 1
     have x2 : w3.cell? ⟨w.heap.size, 2, none⟩ = some (.slice A' n' c') := HX3.out.cell 2
     have x3 : w3.cell? ⟨w.heap.size, 3, none⟩ = some (.int .i64 K') := HX3.out.cell 3
     clear hb3 HX0 HB0
     go_wp2_with fail
     go_ret2
     exact ⟨_, by rw [HE.out]; rfl, ownT_bad (by rw [HE.out]; omega), HB3⟩
    ·have HE := Lib.hid (e5 hqn hp hqm (by omega))
     have h64z : ¬ (64 : Int) ≤ (n : Int) := by omega
     clear e1 e2 e3 e4 e5
     go_enter Tryz.func18, Tryz.ntmps18
     go_wp2_with fail
     refine (HAT.out _ HB0.out).mono ?_
     rintro e w1 ⟨rfl, rfl⟩
     rw [HTI.out]
     go_wp2_with fail
     refine (refName_any tn _).mono ?_
     rintro e w2 ⟨rfl, rfl⟩
     rw [hqn]
     go_wp2_with fail
     refine (HMY.out _ HB0.out).mono ?_
     rintro e w3 ⟨rfl, hb3⟩
     rw [hqm]
     have HB3 := Lib.hid (HB0.out.trans (hb3.out.mono HB0.out.size))
     have HX3 := Lib.hid (HX0.out.below hb3.out HX0.out.lt)
     have x0 : w3.cell? ⟨w.heap.size, 0, none⟩ = some (.int .i64 1) := HX3.out.cell 0
     have x1 : w3.cell? ⟨w.heap.size, 1, none⟩ = some (.string tn) := HX3.out.cell 1
     have x2 : w3.cell? ⟨w.heap.size, 2, none⟩ = some (.slice A' n' c') := HX3.out.cell 2
     have x3 : w3.cell? ⟨w.heap.size, 3, none⟩ = some (.int .i64 K') := HX3.out.cell 3
     clear hb3 HX0 HB0
     go_wp2_with fail
     go_loopw [10] (fun i wr => ∃ k : Nat, k ≤ lbN T tn ∧ i = .int .i64 k ∧ Hid (Below w3.heap.size w3 wr)) (fun i _ => n - (intOf i).toNat)
     case atStart => exact ⟨0, by omega, rfl, Below.refl _ _⟩
     case round =>
      obtain ⟨k, hk, rfl, HB⟩ := hrel
      have HBx := Lib.hid (HB3.out.trans (HB.out.mono HB3.out.size))
      have HX := Lib.hid (HX3.out.below HB.out HX3.out.lt)
      have HBY := Lib.hid HB.out
      clear x0 x1 x2 x3 HX3 HB3 HB
      have y1 : wr.cell? ⟨w.heap.size, 1, none⟩ = some (.string tn) := HX.out.cell 1
      by_cases hlt : k < lbN T tn
      ·have hkn : k < n := by have := HLE.out; have := HN.out; omega
       have hkl : k < T.length := by rw [HN.out]; exact hkn
       obtain ⟨b, off, rfl, hc⟩ := (HA.out.below HBx.out) (by intro e; rw [e] at hkl; simp at hkl)
       obtain ⟨c0, _, _⟩ := hc k hkl
       have hls := lb_lo hlt hkl
       have hkz : (k : Int) < (n : Int) := by omega
       clear hc
       generalize T[k].nm = xa at *
       go_wp2_with fail
       go_region
       all_goals
        go_wp2_with fail
        go_roundw
        case rel => exact ⟨k + 1, by omega, by go_num, HBY.out.drew⟩
        case measure => simp [intOf]; omega
      ·have hkk : lbN T tn = k := by omega
       have hkn0 : k ≤ n := by have := HLE.out; have := HN.out; omega
       have hcm1 : c ≤ 2 ^ 63 - 1 := by unfold maxLen at hcm; exact hcm
       have hkc : (k : Int) ≤ (c : Int) := by omega
       have hkn1 : (k : Int) ≤ (n : Int) := by omega
       have HFT := Lib.hid (fcT_ok (T := T) (tn := tn) (A' := A') (n' := n') (c' := c') (L' := L') (K' := K') HE.out)
       rw [hkk] at HFT
       by_cases hkn : k < n
       ·have hkl : k < T.length := by rw [HN.out]; exact hkn
        obtain ⟨b, off, rfl, hc⟩ := (HA.out.below HBx.out) (by intro e; rw [e] at hkl; simp at hkl)
        obtain ⟨c0, _, _⟩ := hc k hkl
        have hls := lb_hi HS.out (s := tn) (t := k) (by omega) hkl
        have hkz : (k : Int) < (n : Int) := by omega
        clear hc
        generalize T[k].nm = xa at *
        go_wp2_with fail
        go_region
        all_goals
         clear c0 hls
         have HXd := Lib.hid HX.out.drew
         have HBd := Lib.hid HBx.out.drew
         have HAd := Lib.hid (HA.out.below HBd.out)
         clear HX HBx HBY y1
         have HA1 := Lib.hid (appTs wr.drew (w.heap.size + 1) (.slice none 0 0) [] (ownT_nil _ _) HXd.out.lt (some ⟨b, off, none⟩) (T.take k) k c (by rw [List.length_take]; have := HN.out; omega) (HAd.out.take k) (fun e => by cases e) (by have := HN.out; simp <;> omega))
         go_wp2_with (first
          | (at_builtin; refine wpList_app rfl _ _ 22 22 rfl (.slice none 0 0) (.slice (some ⟨b, off, none⟩) k c) rfl rfl ?_; obtain ⟨R, W1, hrun, hm1, hm2⟩ := HA1.out; refine ⟨R, W1, hrun, ?_⟩; obtain ⟨A7, n7, c7, hR, HN7, hnc7, hcm7, _, _⟩ := ownT_open hm1; subst hR; have HB1 := Lib.hid (HBd.out.trans (hm2.mono (by omega))); have HX1 := Lib.hid (HXd.out.below hm2 (by omega)); have q1 : W1.cell? ⟨w.heap.size, 1, none⟩ = some (.string tn) := HX1.out.cell 1; have q2 : W1.cell? ⟨w.heap.size, 2, none⟩ = some (.slice A' n' c') := HX1.out.cell 2; have q3 : W1.cell? ⟨w.heap.size, 3, none⟩ = some (.int .i64 K') := HX1.out.cell 3; have HA2 := Lib.hid (appT W1 W1.heap.size rfl (w.heap.size + 1) (.slice A7 n7 c7) ([] ++ T.take k) ⟨tn, A', n', c', L', K'⟩ hm1 HX1.out.lt (by have := HN.out; simp; omega)); clear hrun hm1 hm2 HA1)
          | (at_builtin; refine wpList_app rfl _ _ 22 22 rfl (.slice A7 n7 c7) (.slice (some ⟨W1.heap.size, 0, none⟩) 1 1) rfl rfl ?_; obtain ⟨R, W2, hrun, hm1, hm2⟩ := HA2.out; refine ⟨R, W2, hrun, ?_⟩; obtain ⟨A8, n8, c8, hR, HN8, hnc8, hcm8, _, _⟩ := ownT_open hm1; subst hR; have HB2 := Lib.hid (HB1.out.trans (hm2.mono (by omega))); have HX2 := Lib.hid (HX1.out.below hm2 (by omega)); have HA3 := Lib.hid (appTs W2 (w.heap.size + 1) (.slice A8 n8 c8) ([] ++ T.take k ++ [⟨tn, A', n', c', L', K'⟩]) hm1 HX2.out.lt (some ⟨b, off + k * 3, none⟩) (T.drop k) (n - k) (c - k) (by rw [List.length_drop]; have := HN.out; omega) (by have h : TRow W2 _ T := HA.out.below HB2.out; exact h.drop k) (fun e => by cases e) (by have := HN.out; simp; omega)); clear hrun hm1 hm2 HA2)
          | (at_builtin; refine wpList_app rfl _ _ 22 22 rfl (.slice A8 n8 c8) (.slice (some ⟨b, off + k * 3, none⟩) (n - k) (c - k)) rfl rfl ?_; obtain ⟨R, W3, hrun, hm1, hm2⟩ := HA3.out; refine ⟨R, W3, hrun, ?_⟩; have HO := Lib.hid hm1; have HB5 := Lib.hid (HB2.out.trans (hm2.mono (by omega))); clear hrun hm1 hm2 HA3))

         go_ret2
         exact ⟨_, by rw [HE.out]; rfl, by rw [HFT.out]; exact ownT_down HO.out (by omega), HB5.out⟩
       ·have hkz : ¬ (k : Int) < (n : Int) := by omega
        obtain rfl : k = n := by omega
        rcases A with _ | ⟨b, off, sp⟩
        ·obtain rfl : c = 0 := hA0 rfl
         obtain rfl : k = 0 := by omega
         go_wp2_with fail
         go_region
         all_goals
          have HXd := Lib.hid HX.out.drew
          have HBd := Lib.hid HBx.out.drew
          have HNT : Hid (T = []) := List.eq_nil_of_length_eq_zero HN.out
          clear HX HBx HBY y1
          have q1 : wr.drew.cell? ⟨w.heap.size, 1, none⟩ = some (.string tn) := HXd.out.cell 1
          have q2 : wr.drew.cell? ⟨w.heap.size, 2, none⟩ = some (.slice A' n' c') := HXd.out.cell 2
          have q3 : wr.drew.cell? ⟨w.heap.size, 3, none⟩ = some (.int .i64 K') := HXd.out.cell 3
          have HA2 := Lib.hid (appT wr.drew wr.drew.heap.size rfl (w.heap.size + 1) (.slice none 0 0) [] ⟨tn, A', n', c', L', K'⟩ (ownT_nil _ _) HXd.out.lt (by simp))
          obtain ⟨wx, hwx⟩ : ∃ wx, wr.drew = wx := ⟨_, rfl⟩
          rw [hwx] at HA2 q1 q2 q3 HBd HXd ⊢
          clear hwx
          go_wp2_with (first
           | (at_builtin; refine wpList_app rfl _ _ 22 22 rfl (.slice none 0 0) (.slice (some ⟨wx.heap.size, 0, none⟩) 1 1) rfl rfl ?_; obtain ⟨R, W2, hrun, hm1, hm2⟩ := HA2.out; refine ⟨R, W2, hrun, ?_⟩; obtain ⟨A8, n8, c8, hR, HN8, hnc8, hcm8, _, _⟩ := ownT_open hm1; subst hR; have HO := Lib.hid hm1; have HB5 := Lib.hid (HBd.out.trans (hm2.mono (by omega))); have HA3 := Lib.hid (appTs W2 (w.heap.size + 1) (.slice A8 n8 c8) _ hm1 (by have := HXd.out.lt; have := hm2.size; omega) none [] 0 0 rfl (fun h => absurd rfl h) (fun _ => rfl) (by simp)); clear hrun hm1 hm2 HA2)
           | (at_builtin; refine wpList_app rfl _ _ 22 22 rfl (.slice A8 n8 c8) (.slice none 0 0) rfl rfl ?_; obtain ⟨R, W3, hrun, hm1, hm2⟩ := HA3.out; refine ⟨R, W3, hrun, ?_⟩; rw [List.append_nil] at hm1; have HO := Lib.hid hm1; have HB5 := Lib.hid (HB5.out.trans (hm2.mono (by omega))); clear hrun hm1 hm2 HA3))
          go_ret2
          exact ⟨_, by rw [HE.out]; rfl, by rw [HFT.out, HNT.out]; exact ownT_down HO.out (by omega), HB5.out⟩
        ·by_cases hck : c = k
         ·subst hck
          go_wp2_with fail
          go_region
          all_goals
           have HXd := Lib.hid HX.out.drew
           have HBd := Lib.hid HBx.out.drew
           have HAd := Lib.hid (HA.out.below HBd.out)
           clear HX HBx HBY y1
           have HA1 := Lib.hid (appTs wr.drew (w.heap.size + 1) (.slice none 0 0) [] (ownT_nil _ _) HXd.out.lt (some ⟨b, off, sp⟩) (T.take c) c c (by rw [List.length_take]; have := HN.out; omega) (HAd.out.take c) (fun e => by cases e) (by have := HN.out; simp <;> omega))
           go_wp2_with (first
            | (at_builtin; refine wpList_app rfl _ _ 22 22 rfl (.slice none 0 0) (.slice (some ⟨b, off, sp⟩) c c) rfl rfl ?_; obtain ⟨R, W1, hrun, hm1, hm2⟩ := HA1.out; refine ⟨R, W1, hrun, ?_⟩; obtain ⟨A7, n7, c7, hR, HN7, hnc7, hcm7, _, _⟩ := ownT_open hm1; subst hR; have HB1 := Lib.hid (HBd.out.trans (hm2.mono (by omega))); have HX1 := Lib.hid (HXd.out.below hm2 (by omega)); have q1 : W1.cell? ⟨w.heap.size, 1, none⟩ = some (.string tn) := HX1.out.cell 1; have q2 : W1.cell? ⟨w.heap.size, 2, none⟩ = some (.slice A' n' c') := HX1.out.cell 2; have q3 : W1.cell? ⟨w.heap.size, 3, none⟩ = some (.int .i64 K') := HX1.out.cell 3; have HA2 := Lib.hid (appT W1 W1.heap.size rfl (w.heap.size + 1) (.slice A7 n7 c7) ([] ++ T.take c) ⟨tn, A', n', c', L', K'⟩ hm1 HX1.out.lt (by have := HN.out; simp; omega)); clear hrun hm1 hm2 HA1)
            | (at_builtin; refine wpList_app rfl _ _ 22 22 rfl (.slice A7 n7 c7) (.slice (some ⟨W1.heap.size, 0, none⟩) 1 1) rfl rfl ?_; obtain ⟨R, W2, hrun, hm1, hm2⟩ := HA2.out; refine ⟨R, W2, hrun, ?_⟩; obtain ⟨A8, n8, c8, hR, HN8, hnc8, hcm8, _, _⟩ := ownT_open hm1; subst hR; have HB2 := Lib.hid (HB1.out.trans (hm2.mono (by omega))); have HX2 := Lib.hid (HX1.out.below hm2 (by omega)); have HA3 := Lib.hid (appTs W2 (w.heap.size + 1) (.slice A8 n8 c8) ([] ++ T.take c ++ [⟨tn, A', n', c', L', K'⟩]) hm1 HX2.out.lt (some ⟨b, off, sp⟩) (T.drop c) 0 0 (by rw [List.length_drop]; have := HN.out; omega) (by rw [List.drop_eq_nil_of_le (by have := HN.out; omega)]; exact fun h => absurd rfl h) (fun e => by cases e) (by have := HN.out; simp; omega)); clear hrun hm1 hm2 HA2)
            | (at_builtin; refine wpList_app rfl _ _ 22 22 rfl (.slice A8 n8 c8) (.slice (some ⟨b, off, sp⟩) 0 0) rfl rfl ?_; obtain ⟨R, W3, hrun, hm1, hm2⟩ := HA3.out; refine ⟨R, W3, hrun, ?_⟩; have HO := Lib.hid hm1; have HB5 := Lib.hid (HB2.out.trans (hm2.mono (by omega))); clear hrun hm1 hm2 HA3))

           go_ret2
           exact ⟨_, by rw [HE.out]; rfl, by rw [HFT.out]; exact ownT_down HO.out (by omega), HB5.out⟩
         ·by_cases hT0 : T = []
          ·obtain rfl : k = 0 := by have := HN.out; rw [hT0] at this; simpa using this.symm
           go_wp2_with fail
           go_region
           all_goals
            have HXd := Lib.hid HX.out.drew
            have HBd := Lib.hid HBx.out.drew
            have HNT : Hid (T = []) := List.eq_nil_of_length_eq_zero HN.out
            clear HX HBx HBY y1
            have q1 : wr.drew.cell? ⟨w.heap.size, 1, none⟩ = some (.string tn) := HXd.out.cell 1
            have q2 : wr.drew.cell? ⟨w.heap.size, 2, none⟩ = some (.slice A' n' c') := HXd.out.cell 2
            have q3 : wr.drew.cell? ⟨w.heap.size, 3, none⟩ = some (.int .i64 K') := HXd.out.cell 3
            have HA2 := Lib.hid (appT wr.drew wr.drew.heap.size rfl (w.heap.size + 1) (.slice none 0 0) [] ⟨tn, A', n', c', L', K'⟩ (ownT_nil _ _) HXd.out.lt (by simp))
            obtain ⟨wx, hwx⟩ : ∃ wx, wr.drew = wx := ⟨_, rfl⟩
            rw [hwx] at HA2 q1 q2 q3 HBd HXd ⊢
            clear hwx
            go_wp2_with (first
             | (at_builtin; refine wpList_app rfl _ _ 22 22 rfl (.slice none 0 0) (.slice (some ⟨wx.heap.size, 0, none⟩) 1 1) rfl rfl ?_; obtain ⟨R, W2, hrun, hm1, hm2⟩ := HA2.out; refine ⟨R, W2, hrun, ?_⟩; obtain ⟨A8, n8, c8, hR, HN8, hnc8, hcm8, _, _⟩ := ownT_open hm1; subst hR; have HO := Lib.hid hm1; have HB5 := Lib.hid (HBd.out.trans (hm2.mono (by omega))); have HA3 := Lib.hid (appTs W2 (w.heap.size + 1) (.slice A8 n8 c8) _ hm1 (by have := HXd.out.lt; have := hm2.size; omega) (some ⟨b, off, sp⟩) [] 0 c rfl (fun h => absurd rfl h) (fun e => by cases e) (by simp)); clear hrun hm1 hm2 HA2)
             | (at_builtin; refine wpList_app rfl _ _ 22 22 rfl (.slice A8 n8 c8) (.slice (some ⟨b, off, sp⟩) 0 c) rfl rfl ?_; obtain ⟨R, W3, hrun, hm1, hm2⟩ := HA3.out; refine ⟨R, W3, hrun, ?_⟩; rw [List.append_nil] at hm1; have HO := Lib.hid hm1; have HB5 := Lib.hid (HB5.out.trans (hm2.mono (by omega))); clear hrun hm1 hm2 HA3))
            go_ret2
            exact ⟨_, by rw [HE.out]; rfl, by rw [HFT.out, HNT.out]; exact ownT_down HO.out (by omega), HB5.out⟩
          ·obtain rfl : sp = none := by
            obtain ⟨b', off', e, _⟩ := HA.out hT0
            injection e with e
            injection e
           go_wp2_with fail
           go_region
           all_goals
            have HXd := Lib.hid HX.out.drew
            have HBd := Lib.hid HBx.out.drew
            have HAd := Lib.hid (HA.out.below HBd.out)
            clear HX HBx HBY y1
            have HA1 := Lib.hid (appTs wr.drew (w.heap.size + 1) (.slice none 0 0) [] (ownT_nil _ _) HXd.out.lt (some ⟨b, off, none⟩) (T.take k) k c (by rw [List.length_take]; have := HN.out; omega) (HAd.out.take k) (fun e => by cases e) (by have := HN.out; simp <;> omega))
            go_wp2_with (first
             | (at_builtin; refine wpList_app rfl _ _ 22 22 rfl (.slice none 0 0) (.slice (some ⟨b, off, none⟩) k c) rfl rfl ?_; obtain ⟨R, W1, hrun, hm1, hm2⟩ := HA1.out; refine ⟨R, W1, hrun, ?_⟩; obtain ⟨A7, n7, c7, hR, HN7, hnc7, hcm7, _, _⟩ := ownT_open hm1; subst hR; have HB1 := Lib.hid (HBd.out.trans (hm2.mono (by omega))); have HX1 := Lib.hid (HXd.out.below hm2 (by omega)); have q1 : W1.cell? ⟨w.heap.size, 1, none⟩ = some (.string tn) := HX1.out.cell 1; have q2 : W1.cell? ⟨w.heap.size, 2, none⟩ = some (.slice A' n' c') := HX1.out.cell 2; have q3 : W1.cell? ⟨w.heap.size, 3, none⟩ = some (.int .i64 K') := HX1.out.cell 3; have HA2 := Lib.hid (appT W1 W1.heap.size rfl (w.heap.size + 1) (.slice A7 n7 c7) ([] ++ T.take k) ⟨tn, A', n', c', L', K'⟩ hm1 HX1.out.lt (by have := HN.out; simp; omega)); clear hrun hm1 hm2 HA1)
             | (at_builtin; refine wpList_app rfl _ _ 22 22 rfl (.slice A7 n7 c7) (.slice (some ⟨W1.heap.size, 0, none⟩) 1 1) rfl rfl ?_; obtain ⟨R, W2, hrun, hm1, hm2⟩ := HA2.out; refine ⟨R, W2, hrun, ?_⟩; obtain ⟨A8, n8, c8, hR, HN8, hnc8, hcm8, _, _⟩ := ownT_open hm1; subst hR; have HB2 := Lib.hid (HB1.out.trans (hm2.mono (by omega))); have HX2 := Lib.hid (HX1.out.below hm2 (by omega)); have HA3 := Lib.hid (appTs W2 (w.heap.size + 1) (.slice A8 n8 c8) ([] ++ T.take k ++ [⟨tn, A', n', c', L', K'⟩]) hm1 HX2.out.lt (some ⟨b, off + k * 3, none⟩) (T.drop k) 0 (c - k) (by rw [List.length_drop]; have := HN.out; omega) (by rw [List.drop_eq_nil_of_le (by have := HN.out; omega)]; exact fun h => absurd rfl h) (fun e => by cases e) (by have := HN.out; simp; omega)); clear hrun hm1 hm2 HA2)
             | (at_builtin; refine wpList_app rfl _ _ 22 22 rfl (.slice A8 n8 c8) (.slice (some ⟨b, off + k * 3, none⟩) 0 (c - k)) rfl rfl ?_; obtain ⟨R, W3, hrun, hm1, hm2⟩ := HA3.out; refine ⟨R, W3, hrun, ?_⟩; have HO := Lib.hid hm1; have HB5 := Lib.hid (HB2.out.trans (hm2.mono (by omega))); clear hrun hm1 hm2 HA3))

            go_ret2
            exact ⟨_, by rw [HE.out]; rfl, by rw [HFT.out]; exact ownT_down HO.out (by omega), HB5.out⟩
  ·have HTI := Lib.hid (HTY.out hp)
   have HE := Lib.hid (e2 hqn hp)
   have hz : (0 : Int) ≤ ((lbN T tn : Nat) : Int) := by omega
   clear e1 e2 e3 e4 e5
   go_enter Tryz.func18, Tryz.ntmps18
   go_wp2_with fail
   refine (HAT.out _ HB0.out).mono ?_
   rintro e w1 ⟨rfl, rfl⟩
   rw [HTI.out]
   go_wp2_with fail
   refine (refName_any tn _).mono ?_
   rintro e w2 ⟨rfl, rfl⟩
   rw [hqn]
   go_wp2_with fail
   refine (HMY.out _ HB0.out).mono ?_
   rintro e w3 ⟨rfl, hb3⟩
   rw [hqm]
   have HB3 := Lib.hid (HB0.out.trans (hb3.out.mono HB0.out.size))
   have HX3 := Lib.hid (HX0.out.below hb3.out HX0.out.lt)
   have x0 : w3.cell? ⟨w.heap.size, 0, none⟩ = some (.int .i64 1) := HX3.out.cell 0
   have x1 : w3.cell? ⟨w.heap.size, 1, none⟩ = some (.string tn) := HX3.out.cell 1
   have x2 : w3.cell? ⟨w.heap.size, 2, none⟩ = some (.slice A' n' c') := HX3.out.cell 2
   have x3 : w3.cell? ⟨w.heap.size, 3, none⟩ = some (.int .i64 K') := HX3.out.cell 3
   clear hb3 HX0 HB0
   go_wp2_with fail
   go_ret2
   exact ⟨_, by rw [HE.out]; rfl, ownT_bad (by rw [HE.out]; omega), HB3⟩
theorem tfV_yes {T : List Tb} {s : ByteArray} (hp : plF T s = true) (hl : lbN T s < T.length) : tfV T s = .tuple #[.agg #[.slice T[lbN T s].A T[lbN T s].n T[lbN T s].c, .int .i64 T[lbN T s].K], .bool true] := by
 unfold tfV
 obtain ⟨_, h2⟩ := plF_tat hp
 rw [h2, List.getElem?_eq_getElem hl]
theorem tfV_no {T : List Tb} {s : ByteArray} (hS : SortT T) (hp : plF T s = false) : tfV T s = .tuple #[.agg #[.slice none 0 0, .int .i64 0], .bool false] := by
 unfold tfV
 rw [List.getElem?_eq_none (by have := plF_tat' hS hp; omega)]
def tfL (T : List Tb) (s : ByteArray) : List Cl := match T[tatN T s]? with | some x => x.L | none => []
def tfK (T : List Tb) (s : ByteArray) : Int := match T[tatN T s]? with | some x => x.K | none => 0
theorem tfL_yes {T : List Tb} {s : ByteArray} (hp : plF T s = true) (hl : lbN T s < T.length) : tfL T s = T[lbN T s].L ∧ tfK T s = T[lbN T s].K := by
 obtain ⟨_, h2⟩ := plF_tat hp
 unfold tfL tfK
 rw [h2, List.getElem?_eq_getElem hl]
 exact ⟨rfl, rfl⟩
theorem tfL_no {T : List Tb} {s : ByteArray} (hS : SortT T) (hp : plF T s = false) : tfL T s = [] ∧ tfK T s = 0 := by
 unfold tfL tfK
 rw [List.getElem?_eq_none (by have := plF_tat' hS hp; omega)]
 exact ⟨rfl, rfl⟩
set_option maxHeartbeats 2000000 in
theorem pfind_any (A : Option Addr) (T : List Tb) (n c : Nat) (s : ByteArray) (w : World) (hn : T.length = n) (hl : n ≤ 1000) (hA : TRow w A T) (hS : SortT T) :
 Calls Tryz.prog 24 #[.slice A n c, .string s] w fun e w' => e = .returned (tfV T s) ∧ Hid (Below w.heap.size w w') := by
 have HG := Lib.hid (Has.new w 27 #[.slice none 0 0, .int .i64 0])
 have HB := Lib.hid ((Below.refl w.heap.size w).alloc (Nat.le_refl _) (.cells #[.slice none 0 0, .int .i64 0] 27))
 have HC := Lib.hid (fun (W : World) (hb : Below w.heap.size w W) => place_any A T n c s W hn hl (hA.below hb) hS)
 have HN := Lib.hid hn
 have HA := Lib.hid hA
 have HS := Lib.hid hS
 clear hn hA hS
 go_enter Tryz.func24, Tryz.ntmps24
 go_wp2_with fail
 refine (HC.out _ HB.out).mono ?_
 rintro e w1 ⟨rfl, hb1⟩
 have HG1 := Lib.hid (HG.out.below hb1.out HG.out.lt)
 have HB1 := Lib.hid (HB.out.trans (hb1.out.mono HB.out.size))
 have f0 := HG1.out.free 0
 have f1 := HG1.out.free 1
 have g0 : w1.cell? ⟨w.heap.size, 0, none⟩ = some (.slice none 0 0) := HG1.out.cell 0
 have g1 : w1.cell? ⟨w.heap.size, 1, none⟩ = some (.int .i64 0) := HG1.out.cell 1
 clear hb1 HC HG HB
 rcases hp : plF T s with _ | _
 ·have HV := Lib.hid (tfV_no HS.out hp)
  have HR := Lib.hid ((HG1.out.put 0 (.slice none 0 0)).put 1 (.int .i64 0))
  go_wp2_with fail
  exact bodyPost_ret (schEnd6 rfl _ w.heap.size _ _ _ rfl HR.out) rfl ⟨by rw [HV.out]; rfl, (HB1.out.setCell (by show w.heap.size ≤ w.heap.size; omega) _).setCell (by show w.heap.size ≤ w.heap.size; omega) _⟩
 ·have hk := plF_lt hp
  have HV := Lib.hid (tfV_yes hp hk)
  obtain ⟨b, off, rfl, hc⟩ := (HA.out.below HB1.out) (by intro e; rw [e] at hk; simp at hk)
  obtain ⟨c0, c1, c2⟩ := hc _ hk
  have hkz : ((lbN T s : Nat) : Int) < (n : Int) := by rw [← HN.out]; omega
  clear hc c0
  obtain ⟨k, hkk⟩ : ∃ k, lbN T s = k := ⟨_, rfl⟩
  simp only [hkk] at c1 c2 hkz HV ⊢
  generalize T[k]'(by rw [← hkk]; exact hk) = x at *
  obtain ⟨xs, xA, xn, xc, xL, xK⟩ := x
  simp only at c1 c2 HV
  have HR := Lib.hid ((HG1.out.put 0 (.slice xA xn xc)).put 1 (.int .i64 xK))
  go_wp2_with fail
  exact bodyPost_ret (schEnd6 rfl _ w.heap.size _ _ _ rfl HR.out) rfl ⟨by rw [HV.out]; rfl, (HB1.out.setCell (by show w.heap.size ≤ w.heap.size; omega) _).setCell (by show w.heap.size ≤ w.heap.size; omega) _⟩
end Go.Proofs.YtnpmgempkoeapaaGreatDoor
