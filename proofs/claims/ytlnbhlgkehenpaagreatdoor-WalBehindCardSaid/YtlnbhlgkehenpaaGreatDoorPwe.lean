/-
  Put together, as far as it is used: PCre, PFol, Knd, Rapply, RFol, Qe, Args, Qq, ConcV, PutV, Rturn, Qn, Qo, TurnM, AppM, Qp.
-/
import Derived.Test.YtlnbhlgkehenpaaGreatDoorPwd
import Derived.Test.YtlnbhlgkehenpaaGreatDoorPwc
import Derived.Test.YtlnbhlgkehenpaaGreatDoorRows
import Derived.ProofKit
import Derived.OpenShut
import Derived.ChangeOld
import Derived.Below
import Derived.Deep.Slices
import Derived.Lib.SmallJoins
import Derived.SizedLaws
import Derived.Deep.CutRange
import Derived.Lib.AppendZerosOnto
import Derived.Laws.AppendOwnNone
import Derived.Deep.RegionHeld3
import Derived.Test.YtlnbhlgkehenpaaGreatDoorPwb
set_option linter.unusedVariables false
set_option linter.unusedSimpArgs false
set_option linter.defProp false
namespace Go.Proofs.YtlnbhlgkehenpaaGreatDoor
open Go.RowKit Dg
set_option maxRecDepth 100000
theorem clns_nil (B : Nat) (w : World) : Clns B w [] [] := ⟨rfl, fun i h => by simp at h⟩
theorem Clns.down {B B' : Nat} {w : World} {T T' : List Tb} (h : Clns B w T T') (hb : B' ≤ B) : Clns B' w T T' := ⟨h.1, fun i h1 h2 => ⟨(h.2 i h1 h2).td, ownC_down (h.2 i h1 h2).own hb⟩⟩
theorem clns_bad {B : Nat} {w : World} {T : List Tb} {tn : ByteArray} {A' : Option Addr} {n' c' : Nat} {L' : List Cl} {K' : Int} (h : fcE T tn L' K' ≠ 0) : Hid (Clns B w (fcT T tn A' n' c' L' K') []) := by
 show Clns _ _ _ _
 rw [fcT_bad h]; exact clns_nil _ _
theorem may_few {L : List Cl} {K : Int} (h : smayF L K = true) : L.length ≤ 16 := by
 apply Decidable.byContradiction
 intro hc
 rw [smayF_no (by omega)] at h; cases h
theorem trow_one (w : World) (x : Tb) : TRow (w.alloc (.cells #[.string x.nm, .slice x.A x.n x.c, .int .i64 x.K] 41)) (some ⟨w.heap.size, 0, none⟩) [x] := TRow.one w x
set_option maxHeartbeats 4000000 in
theorem pcreate_any (A : Option Addr) (T : List Tb) (n c : Nat) (ck : Int) (tn : ByteArray) (A' : Option Addr) (n' c' : Nat) (L' : List Cl) (K' : Int) (cn : ByteArray) (kd : Int) (no : Bool) (w : World) (hn : T.length = n) (hnc : n ≤ c) (hcm : c ≤ maxLen) (hl : n ≤ 900) (hA : TRow w A T) (hA0 : A = none → c = 0) (hI : TOks w T)
 (hn' : L'.length = n') (hnc' : n' ≤ c') (hcm' : c' ≤ maxLen) (hA' : CRow w A' L') (hA0' : A' = none → c' = 0) (htn : tn.size ≤ 140737488355328) (hf : ∀ y ∈ L', y.fit) :
 Calls Tryz.prog 54 #[.slice A n c, .agg #[.int .i64 ck, .string tn, .slice A' n' c', .int .i64 K', .string cn, .int .i64 kd, .bool no], .int .i64 (lbN T tn : Nat), .bool (plF T tn)] w fun e w' => ∃ v T', e = .returned (.tuple #[v, .int .i64 (fcE T tn L' K')]) ∧ Hid (OwnT w.heap.size w' v T') ∧ Hid (Clns w.heap.size w' (fcT T tn A' n' c' L' K') T') ∧ Hid (Below w.heap.size w w') := by
 have HB0 := Lib.hid ((Below.refl w.heap.size w).alloc (Nat.le_refl _) (.cells #[.int .i64 ck, .string tn, .slice A' n' c', .int .i64 K', .string cn, .int .i64 kd, .bool no] 48))
 have HX0 := Lib.hid (Has.new w 48 #[.int .i64 ck, .string tn, .slice A' n' c', .int .i64 K', .string cn, .int .i64 kd, .bool no])
 have HMY := Lib.hid (fun (W : World) (hb : Below w.heap.size w W) => smay_all A' L' n' c' K' W hn' (hA'.below hb) hf)
 have HNM := Lib.hid (fun (W : World) => name_any tn W htn)
 have HPT := Lib.hid (fun (W : World) (hb : Below w.heap.size w W) (hq : smayF L' K' = true) => putT_any A T n c (lbN T tn) (lbN T tn) (some ⟨W.heap.size, 0, none⟩) [⟨tn, A', n', c', L', K'⟩] 1 1 (W.alloc (.cells #[.string tn, .slice A' n' c', .int .i64 K'] 41)) hn hnc hcm (Nat.le_refl _) (by rw [← hn]; exact lb_le T tn) hl (hA.below (hb.alloc hb.size _)) hA0 (hI.below (hb.alloc hb.size _)) rfl (Nat.le_refl _) (trow_one W ⟨tn, A', n', c', L', K'⟩) (fun e => by cases e) (fun x hx => by
  obtain rfl := List.mem_singleton.1 hx
  have h16 := may_few hq
  exact ⟨hn', hnc', hcm', hA'.below (hb.alloc hb.size _), hA0', by show n' ≤ 900; omega⟩))
 have HN := Lib.hid hn
 have e1 := @fcE_name T tn L' K'
 have e2 := @fcE_there T tn L' K'
 have e3 := @fcE_may T tn L' K'
 have e4 := @fcE_many T tn L' K'
 have e5 := @fcE_ok T tn L' K'
 rw [hn] at e4 e5
 have HLE : Hid (lbN T tn ≤ n) := by show _ ≤ _; rw [← hn]; exact lb_le T tn
 clear hn hA hA' hn' hI hf htn hA0'
 obtain ⟨k, hk⟩ : ∃ k, lbN T tn = k := ⟨_, rfl⟩
 obtain ⟨qm, hqm⟩ : ∃ q, smayF L' K' = q := ⟨_, rfl⟩
 rw [hk] at HPT HLE ⊢
 rcases hqn : nameF tn with _ | _
 ·have HE := Lib.hid (e1 hqn)
  clear e1 e2 e3 e4 e5
  go_enter Tryz.func54, Tryz.ntmps54
  go_wp2_with fail
  refine (HNM.out _).mono ?_
  rintro e w1 ⟨rfl, hb1⟩
  rw [hqn]
  have HB1 := Lib.hid (HB0.out.trans (hb1.out.mono HB0.out.size))
  have HX1 := Lib.hid (HX0.out.below hb1.out HX0.out.lt)
  have x1 : w1.cell? ⟨w.heap.size, 1, none⟩ = some (.string tn) := HX1.out.cell 1
  have x2 : w1.cell? ⟨w.heap.size, 2, none⟩ = some (.slice A' n' c') := HX1.out.cell 2
  have x3 : w1.cell? ⟨w.heap.size, 3, none⟩ = some (.int .i64 K') := HX1.out.cell 3
  clear hb1 HX0 HB0
  go_wp2_with fail
  go_ret2
  exact ⟨_, [], by rw [HE.out]; rfl, ownT_nil _ _, clns_bad (by rw [HE.out]; omega), HB1⟩
 ·rcases hp : plF T tn with _ | _
  ·cases qm
   ·have HE := Lib.hid (e3 hqn hp hqm)
    clear e1 e2 e3 e4 e5
    go_enter Tryz.func54, Tryz.ntmps54
    go_wp2_with fail
    refine (HNM.out _).mono ?_
    rintro e w1 ⟨rfl, hb1⟩
    rw [hqn]
    have HB1 := Lib.hid (HB0.out.trans (hb1.out.mono HB0.out.size))
    have HX1 := Lib.hid (HX0.out.below hb1.out HX0.out.lt)
    have x1 : w1.cell? ⟨w.heap.size, 1, none⟩ = some (.string tn) := HX1.out.cell 1
    have x2 : w1.cell? ⟨w.heap.size, 2, none⟩ = some (.slice A' n' c') := HX1.out.cell 2
    have x3 : w1.cell? ⟨w.heap.size, 3, none⟩ = some (.int .i64 K') := HX1.out.cell 3
    clear hb1 HX0 HB0
    go_wp2_with fail
    refine (HMY.out _ HB1.out).mono ?_
    rintro e w3 ⟨rfl, hb3⟩
    rw [hqm]
    have HB3 := Lib.hid (HB1.out.trans (hb3.out.mono HB1.out.size))
    have HX3 := Lib.hid (HX1.out.below hb3.out HX1.out.lt)
    have y1 : w3.cell? ⟨w.heap.size, 1, none⟩ = some (.string tn) := HX3.out.cell 1
    have y2 : w3.cell? ⟨w.heap.size, 2, none⟩ = some (.slice A' n' c') := HX3.out.cell 2
    have y3 : w3.cell? ⟨w.heap.size, 3, none⟩ = some (.int .i64 K') := HX3.out.cell 3
    clear hb3 HX1 HB1 x1 x2 x3
    go_wp2_with fail
    go_ret2
    exact ⟨_, [], by rw [HE.out]; rfl, ownT_nil _ _, clns_bad (by rw [HE.out]; omega), HB3⟩
   ·by_cases h64 : 64 ≤ n
    ·have HE := Lib.hid (e4 hqn hp hqm h64)
     have h64z : (64 : Int) ≤ (n : Int) := by omega
     clear e1 e2 e3 e4 e5
     go_enter Tryz.func54, Tryz.ntmps54
     go_wp2_with fail
     refine (HNM.out _).mono ?_
     rintro e w1 ⟨rfl, hb1⟩
     rw [hqn]
     have HB1 := Lib.hid (HB0.out.trans (hb1.out.mono HB0.out.size))
     have HX1 := Lib.hid (HX0.out.below hb1.out HX0.out.lt)
     have x1 : w1.cell? ⟨w.heap.size, 1, none⟩ = some (.string tn) := HX1.out.cell 1
     have x2 : w1.cell? ⟨w.heap.size, 2, none⟩ = some (.slice A' n' c') := HX1.out.cell 2
     have x3 : w1.cell? ⟨w.heap.size, 3, none⟩ = some (.int .i64 K') := HX1.out.cell 3
     clear hb1 HX0 HB0
     go_wp2_with fail
     refine (HMY.out _ HB1.out).mono ?_
     rintro e w3 ⟨rfl, hb3⟩
     rw [hqm]
     have HB3 := Lib.hid (HB1.out.trans (hb3.out.mono HB1.out.size))
     have HX3 := Lib.hid (HX1.out.below hb3.out HX1.out.lt)
     have y1 : w3.cell? ⟨w.heap.size, 1, none⟩ = some (.string tn) := HX3.out.cell 1
     have y2 : w3.cell? ⟨w.heap.size, 2, none⟩ = some (.slice A' n' c') := HX3.out.cell 2
     have y3 : w3.cell? ⟨w.heap.size, 3, none⟩ = some (.int .i64 K') := HX3.out.cell 3
     clear hb3 HX1 HB1 x1 x2 x3
     go_wp2_with fail
     go_ret2
     exact ⟨_, [], by rw [HE.out]; rfl, ownT_nil _ _, clns_bad (by rw [HE.out]; omega), HB3⟩
    ·have HE := Lib.hid (e5 hqn hp hqm (by omega))
     have h64z : ¬ (64 : Int) ≤ (n : Int) := by omega
     clear e1 e2 e3 e4 e5
     go_enter Tryz.func54, Tryz.ntmps54
     go_wp2_with fail
     refine (HNM.out _).mono ?_
     rintro e w1 ⟨rfl, hb1⟩
     rw [hqn]
     have HB1 := Lib.hid (HB0.out.trans (hb1.out.mono HB0.out.size))
     have HX1 := Lib.hid (HX0.out.below hb1.out HX0.out.lt)
     have x1 : w1.cell? ⟨w.heap.size, 1, none⟩ = some (.string tn) := HX1.out.cell 1
     have x2 : w1.cell? ⟨w.heap.size, 2, none⟩ = some (.slice A' n' c') := HX1.out.cell 2
     have x3 : w1.cell? ⟨w.heap.size, 3, none⟩ = some (.int .i64 K') := HX1.out.cell 3
     clear hb1 HX0 HB0
     go_wp2_with fail
     refine (HMY.out _ HB1.out).mono ?_
     rintro e w3 ⟨rfl, hb3⟩
     rw [hqm]
     have HB3 := Lib.hid (HB1.out.trans (hb3.out.mono HB1.out.size))
     have HX3 := Lib.hid (HX1.out.below hb3.out HX1.out.lt)
     have y1 : w3.cell? ⟨w.heap.size, 1, none⟩ = some (.string tn) := HX3.out.cell 1
     have y2 : w3.cell? ⟨w.heap.size, 2, none⟩ = some (.slice A' n' c') := HX3.out.cell 2
     have y3 : w3.cell? ⟨w.heap.size, 3, none⟩ = some (.int .i64 K') := HX3.out.cell 3
     clear hb3 HX1 HB1 x1 x2 x3
     have HPP := Lib.hid (HPT.out w3 HB3.out hqm)
     have HFT := Lib.hid (fcT_ok (T := T) (tn := tn) (A' := A') (n' := n') (c' := c') (L' := L') (K' := K') HE.out)
     rw [hk] at HFT
     have hal : Below w3.heap.size w3 (w3.alloc (.cells #[.string tn, .slice A' n' c', .int .i64 K'] 41)) := (Below.refl _ w3).alloc (Nat.le_refl _) _
     have HBa := Lib.hid (HB3.out.trans (hal.mono HB3.out.size))
     clear HPT HMY HNM hal
     go_wp2_with fail
     refine HPP.out.mono ?_
     rintro e w5 ⟨v5, T5, rfl, ho5, hc5, hb5⟩
     have HB5 := Lib.hid (HBa.out.trans (hb5.out.mono HBa.out.size))
     obtain ⟨A7, n7, c7, rfl, _, _, _, _, _⟩ := ownT_open ho5.out
     have HO5 := Lib.hid (ownT_down ho5.out HBa.out.size)
     have HC5 := Lib.hid (hc5.out.down HBa.out.size)
     clear ho5 hc5 hb5 HPP
     go_wp2_with fail
     go_ret2
     exact ⟨_, T5, by rw [HE.out]; rfl, HO5, by rw [HFT.out]; exact HC5, HB5⟩
  ·have HE := Lib.hid (e2 hqn hp)
   clear e1 e2 e3 e4 e5
   go_enter Tryz.func54, Tryz.ntmps54
   go_wp2_with fail
   refine (HNM.out _).mono ?_
   rintro e w1 ⟨rfl, hb1⟩
   rw [hqn]
   have HB1 := Lib.hid (HB0.out.trans (hb1.out.mono HB0.out.size))
   have HX1 := Lib.hid (HX0.out.below hb1.out HX0.out.lt)
   have x1 : w1.cell? ⟨w.heap.size, 1, none⟩ = some (.string tn) := HX1.out.cell 1
   have x2 : w1.cell? ⟨w.heap.size, 2, none⟩ = some (.slice A' n' c') := HX1.out.cell 2
   have x3 : w1.cell? ⟨w.heap.size, 3, none⟩ = some (.int .i64 K') := HX1.out.cell 3
   clear hb1 HX0 HB0
   go_wp2_with fail
   go_ret2
   exact ⟨_, [], by rw [HE.out]; rfl, ownT_nil _ _, clns_bad (by rw [HE.out]; omega), HB1⟩
structure OwnTs (B : Nat) (w : World) (v : Value) (T : List Tb) : Prop where
 own : OwnT B w v T
 col : ∀ x ∈ T, OwnC B w (.slice x.A x.n x.c) x.L
theorem Clns.cols {B : Nat} {w : World} {T T' : List Tb} (h : Clns B w T T') : ∀ y ∈ T', OwnC B w (.slice y.A y.n y.c) y.L := fun y hy => by
 obtain ⟨i, hi, rfl⟩ := List.getElem_of_mem hy
 exact (h.2 i (by rw [← h.1]; exact hi) hi).own
theorem ownTs_nil (B : Nat) (w : World) : OwnTs B w (.slice none 0 0) [] := ⟨ownT_nil _ _, fun _ h => by cases h⟩
theorem OwnTs.below {B : Nat} {w w' : World} {v : Value} {T : List Tb} (h : OwnTs B w v T) (hb : Below w.heap.size w w') : OwnTs B w' v T := ⟨h.own.below hb, fun x hx => (h.col x hx).below hb⟩
theorem OwnTs.down {B B' : Nat} {w : World} {v : Value} {T : List Tb} (h : OwnTs B w v T) (hb : B' ≤ B) : OwnTs B' w v T := ⟨ownT_down h.own hb, fun x hx => ownC_down (h.col x hx) hb⟩
theorem fcT_td {T : List Tb} {tn : ByteArray} {A' : Option Addr} {n' c' : Nat} {L' : List Cl} {K' : Int} {cn : ByteArray} {kd : Int} {no : Bool} : tds (fcT T tn A' n' c' L' K') = foD T 1 tn L' K' cn kd no := by
 by_cases h : fcE T tn L' K' = 0
 ·rw [fcT_ok h, tds_ins, foD_c h]; rfl
 ·rw [fcT_bad h, foD_bad (by rw [foE_c]; exact h)]; rfl
theorem apply_len {L : List Cl} {K ck : Int} {cn : ByteArray} {kd : Int} {no : Bool} (h : L.length ≤ 800) : (applyL L (doesF L K ck cn kd no) cn kd).length ≤ 900 := by
 have ho := doesF_ok L K ck cn kd no
 unfold applyL
 split
 ·next he =>
  obtain ⟨h1, h2, h3⟩ := ho he
  simp
  omega
 ·simp
theorem hid_a1 {w W : World} (h : Hid (Below w.heap.size w W)) (o : Obj) : Hid (Below w.heap.size w (W.alloc o)) := h.out.alloc h.out.size o
theorem hid_c2 {w W : World} (h : Hid (Below w.heap.size w W)) {g : Nat} (hg : w.heap.size ≤ g) (u u' : Value) : Hid (Below w.heap.size w ((W.setCell ⟨g, 0, none⟩ u).setCell ⟨g, 1, none⟩ u')) := (h.out.setCell hg u).setCell hg u'
set_option maxHeartbeats 4000000 in
theorem pfollow_any (A : Option Addr) (T : List Tb) (n c : Nat) (ck : Int) (tn : ByteArray) (A' : Option Addr) (n' c' : Nat) (L' : List Cl) (K' : Int) (cn : ByteArray) (kd : Int) (no : Bool) (w : World) (hn : T.length = n) (hnc : n ≤ c) (hcm : c ≤ maxLen) (hl : n ≤ 900) (hA : TRow w A T) (hA0 : A = none → c = 0) (hI : TOks w T) (hS : SortT T) (hsm : ∀ x ∈ T, 0 < x.L.length ∧ x.L.length ≤ 800)
 (hn' : L'.length = n') (hnc' : n' ≤ c') (hcm' : c' ≤ maxLen) (hA' : CRow w A' L') (hA0' : A' = none → c' = 0) (htn : tn.size ≤ 140737488355328) (hcn : cn.size ≤ 140737488355328) (hf : ∀ y ∈ L', y.fit) :
 Calls Tryz.prog 32 #[.slice A n c, .agg #[.int .i64 ck, .string tn, .slice A' n' c', .int .i64 K', .string cn, .int .i64 kd, .bool no]] w fun e w' => ∃ v T', e = .returned (.tuple #[v, .int .i64 (foE T ck tn L' K' cn kd no)]) ∧ Hid (OwnTs w.heap.size w' v T') ∧ Hid (tds T' = foD T ck tn L' K' cn kd no) ∧ Hid (Below w.heap.size w w') := by
 have HB0 := Lib.hid ((Below.refl w.heap.size w).alloc (Nat.le_refl _) (.cells #[.int .i64 ck, .string tn, .slice A' n' c', .int .i64 K', .string cn, .int .i64 kd, .bool no] 48))
 have HX0 := Lib.hid (Has.new w 48 #[.int .i64 ck, .string tn, .slice A' n' c', .int .i64 K', .string cn, .int .i64 kd, .bool no])
 have HPL := Lib.hid (fun (W : World) (hb : Below w.heap.size w W) => place_any A T n c tn W hn (by omega) (hA.below hb) hS)
 have HCR := Lib.hid (fun (W : World) (hb : Below w.heap.size w W) => pcreate_any A T n c ck tn A' n' c' L' K' cn kd no W hn hnc hcm hl (hA.below hb) hA0 (hI.below hb) hn' hnc' hcm' (hA'.below hb) hA0' htn hf)
 have HPD := Lib.hid (fun (W : World) (hb : Below w.heap.size w W) (hk : lbN T tn + 1 ≤ n) => putT_any A T n c (lbN T tn) (lbN T tn + 1) none [] 0 0 W hn hnc hcm (Nat.le_succ _) hk hl (hA.below hb) hA0 (hI.below hb) rfl (by omega) (fun h => absurd rfl h) (fun _ => rfl) (fun x hx => by cases hx))
 have HPA := Lib.hid (fun (W : World) (hb : Below w.heap.size w W) (hk : lbN T tn + 1 ≤ n) (A8 : Option Addr) (n8 c8 : Nat) (L8 : List Cl) (K8 : Int) (ho : OwnC w.heap.size W (.slice A8 n8 c8) L8) (h8 : L8.length ≤ 900) => putT_any A T n c (lbN T tn) (lbN T tn + 1) (some ⟨W.heap.size, 0, none⟩) [⟨tn, A8, n8, c8, L8, K8⟩] 1 1 (W.alloc (.cells #[.string tn, .slice A8 n8 c8, .int .i64 K8] 41)) hn hnc hcm (Nat.le_succ _) hk hl (hA.below (hb.alloc hb.size _)) hA0 (hI.below (hb.alloc hb.size _)) rfl (Nat.le_refl _) (trow_one W ⟨tn, A8, n8, c8, L8, K8⟩) (fun e => by cases e) (fun x hx => by
  obtain rfl := List.mem_singleton.1 hx
  have h := (Cln.ok (B := w.heap.size) (x := ⟨tn, A8, n8, c8, L8, K8⟩) (y := ⟨tn, A8, n8, c8, L8, K8⟩) ⟨rfl, ho⟩ h8)
  exact h.below ((Below.refl _ W).alloc (Nat.le_refl _) _)))
 have HN := Lib.hid hn
 have HA := Lib.hid hA
 have HI := Lib.hid hI
 have HSM := Lib.hid hsm
 clear hn hA hA' hn' hI hf hsm hS hA0' htn
 by_cases h1 : ck = 1
 ·subst h1
  go_enter Tryz.func32, Tryz.ntmps32
  go_wp2_with fail
  refine (HPL.out _ HB0.out).mono ?_
  rintro e w1 ⟨rfl, hb1⟩
  have HB1 := Lib.hid (HB0.out.trans (hb1.out.mono HB0.out.size))
  have HX1 := Lib.hid (HX0.out.below hb1.out HX0.out.lt)
  have x0 : w1.cell? ⟨w.heap.size, 0, none⟩ = some (.int .i64 1) := HX1.out.cell 0
  have x1 : w1.cell? ⟨w.heap.size, 1, none⟩ = some (.string tn) := HX1.out.cell 1
  have x2 : w1.cell? ⟨w.heap.size, 2, none⟩ = some (.slice A' n' c') := HX1.out.cell 2
  have x3 : w1.cell? ⟨w.heap.size, 3, none⟩ = some (.int .i64 K') := HX1.out.cell 3
  have x4 : w1.cell? ⟨w.heap.size, 4, none⟩ = some (.string cn) := HX1.out.cell 4
  have x5 : w1.cell? ⟨w.heap.size, 5, none⟩ = some (.int .i64 kd) := HX1.out.cell 5
  have x6 : w1.cell? ⟨w.heap.size, 6, none⟩ = some (.bool no) := HX1.out.cell 6
  clear hb1 HX0 HB0
  go_wp2_with fail
  refine (HCR.out _ HB1.out).mono ?_
  rintro e w2 ⟨v2, T2, rfl, ho2, hc2, hb2⟩
  have HB2 := Lib.hid (HB1.out.trans (hb2.out.mono HB1.out.size))
  obtain ⟨A7, n7, c7, rfl, _, _, _, _, _⟩ := ownT_open ho2.out
  go_wp2_with fail
  go_ret2
  exact ⟨_, T2, by rw [foE_c]; rfl, ⟨ownT_down ho2.out HB1.out.size, fun x hx => ownC_down (hc2.out.cols x hx) HB1.out.size⟩, by show _ = _; rw [hc2.out.td]; exact fcT_td, HB2⟩
 ·rcases hp : plF T tn with _ | _
  ·go_enter Tryz.func32, Tryz.ntmps32
   go_wp2_with fail
   refine (HPL.out _ HB0.out).mono ?_
   rintro e w1 ⟨rfl, hb1⟩
   have HB1 := Lib.hid (HB0.out.trans (hb1.out.mono HB0.out.size))
   have HX1 := Lib.hid (HX0.out.below hb1.out HX0.out.lt)
   have x0 : w1.cell? ⟨w.heap.size, 0, none⟩ = some (.int .i64 ck) := HX1.out.cell 0
   have x1 : w1.cell? ⟨w.heap.size, 1, none⟩ = some (.string tn) := HX1.out.cell 1
   have x2 : w1.cell? ⟨w.heap.size, 2, none⟩ = some (.slice A' n' c') := HX1.out.cell 2
   have x3 : w1.cell? ⟨w.heap.size, 3, none⟩ = some (.int .i64 K') := HX1.out.cell 3
   have x4 : w1.cell? ⟨w.heap.size, 4, none⟩ = some (.string cn) := HX1.out.cell 4
   have x5 : w1.cell? ⟨w.heap.size, 5, none⟩ = some (.int .i64 kd) := HX1.out.cell 5
   have x6 : w1.cell? ⟨w.heap.size, 6, none⟩ = some (.bool no) := HX1.out.cell 6
   clear hb1 HX0 HB0
   rw [hp]
   have HE := Lib.hid (foE_none (L' := L') (K' := K') (cn := cn) (kd := kd) (no := no) h1 hp)
   go_wp2_with fail
   go_ret2
   exact ⟨_, [], by rw [HE.out]; rfl, ownTs_nil _ _, by show _ = _; rw [foD_bad (by rw [HE.out]; omega)]; rfl, HB1⟩
  ·have hkl := plF_lt hp
   have hk1 : lbN T tn + 1 ≤ n := by rw [← HN.out]; omega
   by_cases h2 : ck = 2
   ·subst h2
    go_enter Tryz.func32, Tryz.ntmps32
    go_wp2_with fail
    refine (HPL.out _ HB0.out).mono ?_
    rintro e w1 ⟨rfl, hb1⟩
    have HB1 := Lib.hid (HB0.out.trans (hb1.out.mono HB0.out.size))
    have HX1 := Lib.hid (HX0.out.below hb1.out HX0.out.lt)
    have x0 : w1.cell? ⟨w.heap.size, 0, none⟩ = some (.int .i64 2) := HX1.out.cell 0
    have x1 : w1.cell? ⟨w.heap.size, 1, none⟩ = some (.string tn) := HX1.out.cell 1
    have x2 : w1.cell? ⟨w.heap.size, 2, none⟩ = some (.slice A' n' c') := HX1.out.cell 2
    have x3 : w1.cell? ⟨w.heap.size, 3, none⟩ = some (.int .i64 K') := HX1.out.cell 3
    have x4 : w1.cell? ⟨w.heap.size, 4, none⟩ = some (.string cn) := HX1.out.cell 4
    have x5 : w1.cell? ⟨w.heap.size, 5, none⟩ = some (.int .i64 kd) := HX1.out.cell 5
    have x6 : w1.cell? ⟨w.heap.size, 6, none⟩ = some (.bool no) := HX1.out.cell 6
    clear hb1 HX0 HB0
    rw [hp]
    have HPX := Lib.hid (HPD.out w1 HB1.out hk1)
    have HE := Lib.hid (foE_drop (L' := L') (K' := K') (cn := cn) (kd := kd) (no := no) hp)
    have HD := Lib.hid (foD_drop (L' := L') (K' := K') (cn := cn) (kd := kd) (no := no) hp)
    have hcast : ((lbN T tn + 1 : Nat) : Int) = ((lbN T tn : Nat) : Int) + 1 := by omega
    rw [hcast] at HPX
    clear HPD HPA HCR HPL hcast
    go_wp2_with fail
    refine HPX.out.mono ?_
    rintro e w2 ⟨v2, T2, rfl, ho2, hc2, hb2⟩
    have HB2 := Lib.hid (HB1.out.trans (hb2.out.mono HB1.out.size))
    obtain ⟨A7, n7, c7, rfl, _, _, _, _, _⟩ := ownT_open ho2.out
    go_wp2_with fail
    go_ret2
    exact ⟨_, T2, by rw [HE.out]; rfl, ⟨ownT_down ho2.out HB1.out.size, fun x hx => ownC_down (hc2.out.cols x hx) HB1.out.size⟩, by show _ = _; rw [hc2.out.td, HD.out, List.append_nil, tds_del], HB2⟩
   ·go_enter Tryz.func32, Tryz.ntmps32
    go_wp2_with fail
    refine (HPL.out _ HB0.out).mono ?_
    rintro e w1 ⟨rfl, hb1⟩
    have HB1 := Lib.hid (HB0.out.trans (hb1.out.mono HB0.out.size))
    have HX1 := Lib.hid (HX0.out.below hb1.out HX0.out.lt)
    have x0 : w1.cell? ⟨w.heap.size, 0, none⟩ = some (.int .i64 ck) := HX1.out.cell 0
    have x1 : w1.cell? ⟨w.heap.size, 1, none⟩ = some (.string tn) := HX1.out.cell 1
    have x2 : w1.cell? ⟨w.heap.size, 2, none⟩ = some (.slice A' n' c') := HX1.out.cell 2
    have x3 : w1.cell? ⟨w.heap.size, 3, none⟩ = some (.int .i64 K') := HX1.out.cell 3
    have x4 : w1.cell? ⟨w.heap.size, 4, none⟩ = some (.string cn) := HX1.out.cell 4
    have x5 : w1.cell? ⟨w.heap.size, 5, none⟩ = some (.int .i64 kd) := HX1.out.cell 5
    have x6 : w1.cell? ⟨w.heap.size, 6, none⟩ = some (.bool no) := HX1.out.cell 6
    clear hb1 HX0 HB0
    rw [hp]
    have HE := Lib.hid (foE_alter (L' := L') (K' := K') (cn := cn) (kd := kd) (no := no) h1 h2 hp hkl)
    have HD := Lib.hid (foD_alter (L' := L') (K' := K') (cn := cn) (kd := kd) (no := no) h1 h2 hp hkl)
    have HBD := Lib.hid (foD_bad (T := T) (ck := ck) (tn := tn) (L' := L') (K' := K') (cn := cn) (kd := kd) (no := no))
    have hx := HI.out T[lbN T tn] (List.getElem_mem hkl)
    have hxs := HSM.out T[lbN T tn] (List.getElem_mem hkl)
    obtain ⟨b, off, rfl, hc⟩ := (HA.out.below HB1.out) (by intro e; rw [e] at hkl; simp at hkl)
    obtain ⟨c0, c1, c2⟩ := hc _ hkl
    have hkz : ((lbN T tn : Nat) : Int) < (n : Int) := by omega
    have HPX := Lib.hid (fun (W : World) hb A8 n8 c8 L8 K8 ho h8 => HPA.out W hb hk1 A8 n8 c8 L8 K8 ho h8)
    have HTD := Lib.hid (tds_ins T)
    obtain ⟨k, hk⟩ : ∃ k, lbN T tn = k := ⟨_, rfl⟩
    have hcast : ((k + 1 : Nat) : Int) = ((k : Nat) : Int) + 1 := by omega
    clear hc HPD HPA HCR HPL c0
    simp only [hk] at HPX HE HD c1 c2 hkz hx hxs ⊢
    rw [hcast] at HPX
    clear hcast
    generalize T[k]'(by rw [← hk]; exact hkl) = x at *
    obtain ⟨xs, xA, xn, xc, xL, xK⟩ := x
    simp only at c1 c2 HE HD hxs
    have hlen : xL.length = xn := hx.len
    have HAP := Lib.hid (fun (W : World) (hb : Below w.heap.size w W) => apply_any xA xL xn xc xK ck tn A' n' c' K' cn kd no W hlen (by omega) hx.few hx.cap hx.max hcn (hx.row.below hb))
    have HLN := Lib.hid (apply_len (L := xL) (K := xK) (ck := ck) (cn := cn) (kd := kd) (no := no) hxs.2)
    have hb0 : Hid (Below w.heap.size w w1.drew) := HB1.out.drew
    have HXd := Lib.hid HX1.out.drew
    have d0 : w1.drew.cell? ⟨w.heap.size, 0, none⟩ = some (.int .i64 ck) := HXd.out.cell 0
    have d1 : w1.drew.cell? ⟨w.heap.size, 1, none⟩ = some (.string tn) := HXd.out.cell 1
    have d2 : w1.drew.cell? ⟨w.heap.size, 2, none⟩ = some (.slice A' n' c') := HXd.out.cell 2
    have d3 : w1.drew.cell? ⟨w.heap.size, 3, none⟩ = some (.int .i64 K') := HXd.out.cell 3
    have d4 : w1.drew.cell? ⟨w.heap.size, 4, none⟩ = some (.string cn) := HXd.out.cell 4
    have d5 : w1.drew.cell? ⟨w.heap.size, 5, none⟩ = some (.int .i64 kd) := HXd.out.cell 5
    have d6 : w1.drew.cell? ⟨w.heap.size, 6, none⟩ = some (.bool no) := HXd.out.cell 6
    have d7 : w1.drew.cell? ⟨b, off + k * 3 + 1, none⟩ = some (.slice xA xn xc) := c1
    have d8 : w1.drew.cell? ⟨b, off + k * 3 + 2, none⟩ = some (.int .i64 xK) := c2
    clear hx hxs HXd
    go_wp2_with fail
    have hal : Below w1.heap.size w1 (w1.alloc (.cells #[.slice none 0 0, .int .i64 0] 39)) := (Below.refl _ w1).alloc (Nat.le_refl _) _
    have hbA : Hid (Below w.heap.size w (w1.alloc (.cells #[.slice none 0 0, .int .i64 0] 39)).drew) := (HB1.out.trans (hal.mono HB1.out.size)).drew
    have f0 : (w1.alloc (.cells #[.slice none 0 0, .int .i64 0] 39)).drew.cell? ⟨w.heap.size, 0, none⟩ = some (.int .i64 ck) := keepC hal.drew x0
    have f1 : (w1.alloc (.cells #[.slice none 0 0, .int .i64 0] 39)).drew.cell? ⟨w.heap.size, 1, none⟩ = some (.string tn) := keepC hal.drew x1
    have f2 : (w1.alloc (.cells #[.slice none 0 0, .int .i64 0] 39)).drew.cell? ⟨w.heap.size, 2, none⟩ = some (.slice A' n' c') := keepC hal.drew x2
    have f3 : (w1.alloc (.cells #[.slice none 0 0, .int .i64 0] 39)).drew.cell? ⟨w.heap.size, 3, none⟩ = some (.int .i64 K') := keepC hal.drew x3
    have f4 : (w1.alloc (.cells #[.slice none 0 0, .int .i64 0] 39)).drew.cell? ⟨w.heap.size, 4, none⟩ = some (.string cn) := keepC hal.drew x4
    have f5 : (w1.alloc (.cells #[.slice none 0 0, .int .i64 0] 39)).drew.cell? ⟨w.heap.size, 5, none⟩ = some (.int .i64 kd) := keepC hal.drew x5
    have f6 : (w1.alloc (.cells #[.slice none 0 0, .int .i64 0] 39)).drew.cell? ⟨w.heap.size, 6, none⟩ = some (.bool no) := keepC hal.drew x6
    have f7 : (w1.alloc (.cells #[.slice none 0 0, .int .i64 0] 39)).drew.cell? ⟨b, off + k * 3 + 1, none⟩ = some (.slice xA xn xc) := keepC hal.drew c1
    have f8 : (w1.alloc (.cells #[.slice none 0 0, .int .i64 0] 39)).drew.cell? ⟨b, off + k * 3 + 2, none⟩ = some (.int .i64 xK) := keepC hal.drew c2
    have HBX := Lib.hid (Has.new w1 39 #[.slice none 0 0, .int .i64 0]).drew
    clear hal
    have hne0 : w1.heap.size ≠ w.heap.size := by have := HX1.out.lt; omega
    have hneb : w1.heap.size ≠ b := by have := World.block_lt_of_cell? _ _ c1; intro e; simp at this; omega
    go_region_held3 (fun X => Hid (Below w.heap.size w X) ∧ X.cell? ⟨w.heap.size, 0, none⟩ = some (.int .i64 ck) ∧ X.cell? ⟨w.heap.size, 1, none⟩ = some (.string tn) ∧ X.cell? ⟨w.heap.size, 2, none⟩ = some (.slice A' n' c') ∧ X.cell? ⟨w.heap.size, 3, none⟩ = some (.int .i64 K') ∧ X.cell? ⟨w.heap.size, 4, none⟩ = some (.string cn) ∧ X.cell? ⟨w.heap.size, 5, none⟩ = some (.int .i64 kd) ∧ X.cell? ⟨w.heap.size, 6, none⟩ = some (.bool no) ∧ X.cell? ⟨b, off + k * 3 + 1, none⟩ = some (.slice xA xn xc) ∧ X.cell? ⟨b, off + k * 3 + 2, none⟩ = some (.int .i64 xK)) (first | (refine ⟨by first | assumption | exact hid_d1 (by assumption) _ | exact hid_a1 (by assumption) _, ?_⟩; go_keep) | exact ⟨hid_c2 (by assumption) HB1.out.size _ _, cell_s2 hne0 (by assumption), cell_s2 hne0 (by assumption), cell_s2 hne0 (by assumption), cell_s2 hne0 (by assumption), cell_s2 hne0 (by assumption), cell_s2 hne0 (by assumption), cell_s2 hne0 (by assumption), cell_s2 hneb (by assumption), cell_s2 hneb (by assumption)⟩)
     (first | (go_at_call 56; (with_reducible refine (HAP.out w1.drew hb0.out).mono ?_); rintro e w2 ⟨v8, rfl, ho8, hb8⟩; obtain ⟨A8, n8, c8, rfl, _, _, _, _, _⟩ := ownC_open ho8.out; have i0 := keepC hb8.out d0; have i1 := keepC hb8.out d1; have i2 := keepC hb8.out d2; have i3 := keepC hb8.out d3; have i4 := keepC hb8.out d4; have i5 := keepC hb8.out d5; have i6 := keepC hb8.out d6; have i7 := keepC hb8.out d7; have i8 := keepC hb8.out d8; have HB2 : Hid (Below w.heap.size w w2) := hb0.out.trans (hb8.out.mono hb0.out.size); have HO8 := Lib.hid (ownC_down ho8.out hb0.out.size); clear ho8 hb8) | (go_at_call 56; (with_reducible refine (HAP.out (w1.alloc (.cells #[.slice none 0 0, .int .i64 0] 39)).drew hbA.out).mono ?_); rintro e w2 ⟨v8, rfl, ho8, hb8⟩; obtain ⟨A8, n8, c8, rfl, _, _, _, _, _⟩ := ownC_open ho8.out; have i0 := keepC hb8.out f0; have i1 := keepC hb8.out f1; have i2 := keepC hb8.out f2; have i3 := keepC hb8.out f3; have i4 := keepC hb8.out f4; have i5 := keepC hb8.out f5; have i6 := keepC hb8.out f6; have i7 := keepC hb8.out f7; have i8 := keepC hb8.out f8; have HB2 : Hid (Below w.heap.size w w2) := hbA.out.trans (hb8.out.mono hbA.out.size); have HO8 := Lib.hid (ownC_down ho8.out hbA.out.size); have HBX2 := Lib.hid (HBX.out.below hb8.out HBX.out.lt); have b0 : w2.cell? ⟨w1.heap.size, 0, none⟩ = some (.slice none 0 0) := HBX2.out.cell 0; have b1 : w2.cell? ⟨w1.heap.size, 1, none⟩ = some (.int .i64 0) := HBX2.out.cell 1; have g0 := HBX2.out.free 0; have g1 := HBX2.out.free 1; have HO9 : Hid (OwnC (w1.heap.size + 1) w2 (.slice A8 n8 c8) (applyL xL (doesF xL xK ck cn kd no) cn kd)) := ownC_down ho8.out (by simp); clear ho8 hb8))
    all_goals
     first
      | (have HBf : Hid (Below w.heap.size w (w2.alloc (.cells #[.slice A8 n8 c8, .int .i64 (applyK xK (doesF xL xK ck cn kd no))] 39))) := HB2.out.alloc HB2.out.size _; have HOf : Hid (OwnC w.heap.size (w2.alloc (.cells #[.slice A8 n8 c8, .int .i64 (applyK xK (doesF xL xK ck cn kd no))] 39)) (.slice A8 n8 c8) (applyL xL (doesF xL xK ck cn kd no) cn kd)) := HO8.out.below ((Below.refl _ w2).alloc (Nat.le_refl _) _); have y1 : (w2.alloc (.cells #[.slice A8 n8 c8, .int .i64 (applyK xK (doesF xL xK ck cn kd no))] 39)).cell? ⟨w.heap.size, 1, none⟩ = some (.string tn) := keepC ((Below.refl _ w2).alloc (Nat.le_refl _) _) i1; obtain ⟨gb, hgb, z0, z1⟩ : ∃ gb, gb = w2.heap.size ∧ (w2.alloc (.cells #[.slice A8 n8 c8, .int .i64 (applyK xK (doesF xL xK ck cn kd no))] 39)).cell? ⟨gb, 0, none⟩ = some (.slice A8 n8 c8) ∧ (w2.alloc (.cells #[.slice A8 n8 c8, .int .i64 (applyK xK (doesF xL xK ck cn kd no))] 39)).cell? ⟨gb, 1, none⟩ = some (.int .i64 (applyK xK (doesF xL xK ck cn kd no))) := ⟨_, rfl, (Has.new w2 39 #[.slice A8 n8 c8, .int .i64 (applyK xK (doesF xL xK ck cn kd no))]).cell 0, (Has.new w2 39 #[.slice A8 n8 c8, .int .i64 (applyK xK (doesF xL xK ck cn kd no))]).cell 1⟩; obtain ⟨wf, hwf⟩ : ∃ wf, (w2.alloc (.cells #[.slice A8 n8 c8, .int .i64 (applyK xK (doesF xL xK ck cn kd no))] 39)) = wf := ⟨_, rfl⟩; rw [hwf] at HBf HOf y1 z0 z1; rw [hwf]; rw [← hgb]; clear hwf hgb)
      | (have HBf : Hid (Below w.heap.size w ((w2.setCell ⟨w1.heap.size, 0, none⟩ (.slice A8 n8 c8)).setCell ⟨w1.heap.size, 1, none⟩ (.int .i64 (applyK xK (doesF xL xK ck cn kd no))))) := hid_c2 HB2 HB1.out.size _ _; have HOf : Hid (OwnC w.heap.size ((w2.setCell ⟨w1.heap.size, 0, none⟩ (.slice A8 n8 c8)).setCell ⟨w1.heap.size, 1, none⟩ (.int .i64 (applyK xK (doesF xL xK ck cn kd no)))) (.slice A8 n8 c8) (applyL xL (doesF xL xK ck cn kd no) cn kd)) := ownC_down ((HO9.out.far (p := ⟨w1.heap.size, 0, none⟩) (Nat.lt_succ_self _) _).far (p := ⟨w1.heap.size, 1, none⟩) (Nat.lt_succ_self _) _) (by have := HB1.out.size; omega); have y1 : ((w2.setCell ⟨w1.heap.size, 0, none⟩ (.slice A8 n8 c8)).setCell ⟨w1.heap.size, 1, none⟩ (.int .i64 (applyK xK (doesF xL xK ck cn kd no)))).cell? ⟨w.heap.size, 1, none⟩ = some (.string tn) := cell_s2 hne0 i1; obtain ⟨gb, hgb, z0, z1⟩ : ∃ gb, gb = w1.heap.size ∧ ((w2.setCell ⟨w1.heap.size, 0, none⟩ (.slice A8 n8 c8)).setCell ⟨w1.heap.size, 1, none⟩ (.int .i64 (applyK xK (doesF xL xK ck cn kd no)))).cell? ⟨gb, 0, none⟩ = some (.slice A8 n8 c8) ∧ ((w2.setCell ⟨w1.heap.size, 0, none⟩ (.slice A8 n8 c8)).setCell ⟨w1.heap.size, 1, none⟩ (.int .i64 (applyK xK (doesF xL xK ck cn kd no)))).cell? ⟨gb, 1, none⟩ = some (.int .i64 (applyK xK (doesF xL xK ck cn kd no))) := ⟨_, rfl, ((HBX2.out.put 0 (.slice A8 n8 c8)).put 1 (.int .i64 (applyK xK (doesF xL xK ck cn kd no)))).cell 0, ((HBX2.out.put 0 (.slice A8 n8 c8)).put 1 (.int .i64 (applyK xK (doesF xL xK ck cn kd no)))).cell 1⟩; obtain ⟨wf, hwf⟩ : ∃ wf, ((w2.setCell ⟨w1.heap.size, 0, none⟩ (.slice A8 n8 c8)).setCell ⟨w1.heap.size, 1, none⟩ (.int .i64 (applyK xK (doesF xL xK ck cn kd no)))) = wf := ⟨_, rfl⟩; rw [hwf] at HBf HOf y1 z0 z1; rw [hwf]; rw [← hgb]; clear hwf hgb)
     have HO8 := HOf
     have HB2 := HBf
     clear HOf HBf
     obtain ⟨KA, hKA⟩ : ∃ q, applyK xK (doesF xL xK ck cn kd no) = q := ⟨_, rfl⟩
     obtain ⟨LA, hLA⟩ : ∃ q, applyL xL (doesF xL xK ck cn kd no) cn kd = q := ⟨_, rfl⟩
     rw [hLA] at HLN HO8 HD
     rw [hKA] at HD z1 ⊢
     clear hKA hLA
     obtain ⟨ee, hee⟩ : ∃ q, (doesF xL xK ck cn kd no).e = q := ⟨_, rfl⟩
     rw [hee] at HE HD ⊢
     by_cases he : ee = 0
     ·subst he
      have HD2 := Lib.hid (HD.out rfl)
      have HP2 := Lib.hid (HPX.out wf HB2.out A8 n8 c8 LA KA HO8.out HLN.out)
      have hal : Below wf.heap.size wf (wf.alloc (.cells #[.string tn, .slice A8 n8 c8, .int .i64 KA] 41)) := (Below.refl _ wf).alloc (Nat.le_refl _) _
      have HBa := Lib.hid (HB2.out.trans (hal.mono HB2.out.size))
      clear HPX HBD hal HD
      go_wp2_with fail
      refine HP2.out.mono ?_
      rintro e w5 ⟨v5, T5, rfl, ho5, hc5, hb5⟩
      have HB5 := Lib.hid (HBa.out.trans (hb5.out.mono HBa.out.size))
      obtain ⟨A7, n7, c7, rfl, _, _, _, _, _⟩ := ownT_open ho5.out
      have HO5 := Lib.hid (ownT_down ho5.out HBa.out.size)
      have HC5 := Lib.hid (hc5.out.down HBa.out.size)
      clear ho5 hc5 hb5 HP2
      go_wp2_with fail
      go_ret2
      exact ⟨_, T5, by rw [HE.out]; rfl, ⟨HO5.out, HC5.out.cols⟩, by show _ = _; rw [HC5.out.td, HD2.out, HTD.out]; rfl, HB5⟩
     ·have HB0 := Lib.hid (HBD.out (by rw [HE.out]; exact he))
      go_wp2_with fail
      go_ret2
      exact ⟨_, [], by rw [HE.out]; rfl, ownTs_nil _ _, by show _ = _; rw [HB0.out]; rfl, HB2⟩
set_option maxHeartbeats 1000000 in
theorem kind_any (k : Int) (w : World) : Calls Tryz.prog 52 #[.int .i64 k] w fun e w' => e = .returned (.bool (kindF k)) ∧ w' = w := by
 by_cases h : 1 ≤ k
 ·have HK : Hid (kindF k = decide (k ≤ 4)) := by show _ = _; simp [kindF, h]
  go_enter Tryz.func52, Tryz.ntmps52
  go_wp2_with fail
  go_ret
  exact ⟨by rw [HK.out]; rfl, by trivial⟩
 ·have HK : Hid (kindF k = false) := by show _ = _; simp [kindF, h]
  have h2 : k < 1 := by omega
  go_enter Tryz.func52, Tryz.ntmps52
  go_wp2_with fail
  go_ret
  exact ⟨by rw [HK.out]; rfl, by trivial⟩
section
variable {L : List Cl} {K : Int} {cn : ByteArray} {kd : Int} {no : Bool} {fi : Int}
theorem dA_arg (h : (nameF cn && kindF kd && no) = false) : doesF L K 3 cn kd no = .bad 1 := by
 unfold doesF addF; rw [if_pos rfl, if_pos h]
theorem dA_exist (h : (nameF cn && kindF kd && no) = true) (hf : findI L cn = fi) (h2 : 0 ≤ fi) : doesF L K 3 cn kd no = .bad 8 := by
 unfold doesF addF; rw [if_pos rfl, if_neg (by rw [h]; simp), if_pos (by omega)]
theorem dA_full (h : (nameF cn && kindF kd && no) = true) (hf : findI L cn = fi) (h2 : fi < 0) (h3 : 16 ≤ L.length) : doesF L K 3 cn kd no = .bad 10 := by
 unfold doesF addF; rw [if_pos rfl, if_neg (by rw [h]; simp), if_neg (by omega), if_pos h3]
theorem dA_ok (h : (nameF cn && kindF kd && no) = true) (hf : findI L cn = fi) (h2 : fi < 0) (h3 : L.length < 16) : doesF L K 3 cn kd no = ⟨L.length, L.length, 1, 0⟩ := by
 unfold doesF addF; rw [if_pos rfl, if_neg (by rw [h]; simp), if_neg (by omega), if_neg (by omega)]
theorem dC_none (hf : findI L cn = fi) (h : fi < 0) : doesF L K 4 cn kd no = .bad 7 := by
 unfold doesF cutF; rw [if_neg (by decide), if_pos rfl, if_pos (by omega)]
theorem dC_key (hf : findI L cn = fi) (h : 0 ≤ fi) (h2 : fi < K) : doesF L K 4 cn kd no = .bad 10 := by
 unfold doesF cutF; rw [if_neg (by decide), if_pos rfl, if_neg (by omega), if_pos (by omega)]
theorem dC_ok {i : Nat} (hf : findI L cn = (i : Nat)) (h2 : K ≤ (i : Int)) : doesF L K 4 cn kd no = ⟨i, i + 1, 0, 0⟩ := by
 unfold doesF cutF; rw [if_neg (by decide), if_pos rfl, if_neg (by omega), if_neg (by omega), hf]; rfl
theorem dR_none (hf : findI L cn = fi) (h : fi < 0) : doesF L K 5 cn kd no = .bad 7 := by
 unfold doesF retF; rw [if_neg (by decide), if_neg (by decide), if_pos rfl, if_pos (by omega)]
theorem dR_key (hf : findI L cn = fi) (h : 0 ≤ fi) (h2 : fi < K) : doesF L K 5 cn kd no = .bad 10 := by
 unfold doesF retF; rw [if_neg (by decide), if_neg (by decide), if_pos rfl, if_neg (by omega), if_pos (.inl (by omega))]
theorem noneAt_at {i : Nat} (h : i < L.length) : noneAt L (i : Int) = L[i].no := by
 unfold noneAt; rw [Int.toNat_natCast, List.getElem?_eq_getElem h]
theorem dR_must {i : Nat} (hi : i < L.length) (hf : findI L cn = (i : Nat)) (h2 : L[i].no = false) : doesF L K 5 cn kd no = .bad 10 := by
 unfold doesF retF; rw [if_neg (by decide), if_neg (by decide), if_pos rfl, if_neg (by omega), if_pos (.inr (by rw [hf, noneAt_at hi, h2]))]
theorem dR_kind {i : Nat} (hi : i < L.length) (hf : findI L cn = (i : Nat)) (h2 : L[i].no = true) (h3 : K ≤ (i : Int)) (hk : kindF kd = false) : doesF L K 5 cn kd no = .bad 1 := by
 unfold doesF retF; rw [if_neg (by decide), if_neg (by decide), if_pos rfl, if_neg (by omega), if_neg (by rw [hf, noneAt_at hi, h2]; simp; omega), if_pos hk]
theorem dR_ok {i : Nat} (hi : i < L.length) (hf : findI L cn = (i : Nat)) (h2 : L[i].no = true) (h3 : K ≤ (i : Int)) (hk : kindF kd = true) : doesF L K 5 cn kd no = ⟨i, i + 1, 1, 0⟩ := by
 unfold doesF retF; rw [if_neg (by decide), if_neg (by decide), if_pos rfl, if_neg (by omega), if_neg (by rw [hf, noneAt_at hi, h2]; simp; omega), if_neg (by rw [hk]; simp), hf]; rfl
theorem d_kind {ck : Int} (h3 : ck ≠ 3) (h4 : ck ≠ 4) (h5 : ck ≠ 5) : doesF L K ck cn kd no = .bad 5 := by
 unfold doesF; rw [if_neg h3, if_neg h4, if_neg h5]
end
theorem bytes_inj {s t : ByteArray} (h : (s.toList == t.toList) = true) : s = t := by
 have h1 : s.toList = t.toList := by simpa using h
 rw [← bs_sb s, ← bs_sb t] at h1 ⊢
 rw [bs_toList, bs_toList] at h1
 unfold bs
 rw [h1]
theorem findI_nm {L : List Cl} {s : ByteArray} {i : Nat} (h : findI L s = (i : Nat)) (hi : i < L.length) : L[i].nm = s := by
 unfold findI at h
 split at h
 ·rename_i hl
  have e : findN L s = i := by omega
  unfold findN at e hl
  have := List.findIdx_getElem (w := hl)
  simp only [e] at this
  exact bytes_inj this
 ·omega
theorem set_mid (L : List Cl) (i : Nat) (x : Cl) (h : i < L.length) : L.set i x = L.take i ++ [x] ++ L.drop (i + 1) := by
 rw [List.set_eq_take_append_cons_drop, if_pos h]; simp
structure RSt (w : World) (A : Option Addr) (n c : Nat) (K ck : Int) (tn : ByteArray) (A' : Option Addr) (n' c' : Nat) (K' : Int) (cn : ByteArray) (kd : Int) (no : Bool) (L : List Cl) (W : World) (v : Value) (M : List Cl) : Prop where
 bel : Below w.heap.size w W
 sc : Has W w.heap.size 39 #[.slice A n c, .int .i64 K]
 ch : Has W (w.heap.size + 1) 48 #[.int .i64 ck, .string tn, .slice A' n' c', .int .i64 K', .string cn, .int .i64 kd, .bool no]
 res : Has W (w.heap.size + 2) 39 #[.slice none 0 0, .int .i64 0]
 non : Has W (w.heap.size + 3) 39 #[.slice none 0 0, .int .i64 0]
 big : w.heap.size + 4 ≤ W.heap.size
 own : OwnC (w.heap.size + 4) W v M
section
variable {w : World} {A : Option Addr} {n c : Nat} {K ck : Int} {tn : ByteArray} {A' : Option Addr} {n' c' : Nat} {K' : Int} {cn : ByteArray} {kd : Int} {no : Bool} {L : List Cl} {W W2 : World} {v : Value} {M : List Cl}
theorem RSt.below (h : RSt w A n c K ck tn A' n' c' K' cn kd no L W v M) (hb : Below W.heap.size W W2) : RSt w A n c K ck tn A' n' c' K' cn kd no L W2 v M :=
 ⟨h.bel.trans (hb.mono h.bel.size), h.sc.below hb h.sc.lt, h.ch.below hb h.ch.lt, h.res.below hb h.res.lt, h.non.below hb h.non.lt, Nat.le_trans h.big hb.size, h.own.below hb⟩
theorem RSt.made (h : RSt w A n c K ck tn A' n' c' K' cn kd no L W v M) {v2 : Value} {M2 : List Cl} (hb : Below (w.heap.size + 4) W W2) (ho : OwnC (w.heap.size + 4) W2 v2 M2) : RSt w A n c K ck tn A' n' c' K' cn kd no L W2 v2 M2 :=
 ⟨h.bel.trans (hb.mono (by omega)), h.sc.below hb (by omega), h.ch.below hb (by omega), h.res.below hb (by omega), h.non.below hb (by omega), Nat.le_trans h.big hb.size, ho⟩
end
theorem belowB {B : Nat} {W W' : World} (h : Below B W W') {b i : Nat} {v : Value} (hb : b < B) (hc : W.cell? ⟨b, i, none⟩ = some v) : W'.cell? ⟨b, i, none⟩ = some v := (h.cell (p := ⟨b, i, none⟩) hb).trans hc
set_option maxHeartbeats 8000000 in
set_option maxRecDepth 100000 in
theorem rapply_any (A : Option Addr) (L : List Cl) (n c : Nat) (K : Int) (ck : Int) (tn : ByteArray) (A' : Option Addr) (n' c' : Nat) (K' : Int) (cn : ByteArray) (kd : Int) (no : Bool) (w : World) (hn : L.length = n) (hp : 0 < n) (hl : n ≤ 900) (hA : CRow w A L) :
 Calls Tryz.prog 29 #[.agg #[.slice A n c, .int .i64 K], .agg #[.int .i64 ck, .string tn, .slice A' n' c', .int .i64 K', .string cn, .int .i64 kd, .bool no]] w fun e w' => ∃ v, e = .returned (.tuple #[.agg #[v, .int .i64 (applyK K (doesF L K ck cn kd no))], .int .i64 (doesF L K ck cn kd no).e]) ∧ Hid (OwnC w.heap.size w' v (applyL L (doesF L K ck cn kd no) cn kd)) ∧ Hid (Below w.heap.size w w') := by
 have HN := Lib.hid hn
 obtain ⟨b, off, rfl, hcc⟩ := hA (by intro e; rw [e] at hn; simp at hn; omega)
 have hA2 : CRow w (some ⟨b, off, none⟩) L := fun _ => ⟨b, off, rfl, hcc⟩
 have HA := Lib.hid hA2
 have hlt := findI_lt L cn
 rw [hn] at hlt
 clear hn hA hcc hA2
 have st0 : RSt w (some ⟨b, off, none⟩) n c K ck tn A' n' c' K' cn kd no L ((((w.alloc (.cells #[.slice (some ⟨b, off, none⟩) n c, .int .i64 K] 39)).alloc (.cells #[.int .i64 ck, .string tn, .slice A' n' c', .int .i64 K', .string cn, .int .i64 kd, .bool no] 48)).alloc (.cells #[.slice none 0 0, .int .i64 0] 39)).alloc (.cells #[.slice none 0 0, .int .i64 0] 39)) (.slice none 0 0) [] := by
  have e1 : (w.alloc (.cells #[.slice (some ⟨b, off, none⟩) n c, .int .i64 K] 39)).heap.size = w.heap.size + 1 := by simp
  have e2 : ((w.alloc (.cells #[.slice (some ⟨b, off, none⟩) n c, .int .i64 K] 39)).alloc (.cells #[.int .i64 ck, .string tn, .slice A' n' c', .int .i64 K', .string cn, .int .i64 kd, .bool no] 48)).heap.size = w.heap.size + 2 := by simp
  have e3 : (((w.alloc (.cells #[.slice (some ⟨b, off, none⟩) n c, .int .i64 K] 39)).alloc (.cells #[.int .i64 ck, .string tn, .slice A' n' c', .int .i64 K', .string cn, .int .i64 kd, .bool no] 48)).alloc (.cells #[.slice none 0 0, .int .i64 0] 39)).heap.size = w.heap.size + 3 := by simp
  have hb : Below w.heap.size w ((((w.alloc (.cells #[.slice (some ⟨b, off, none⟩) n c, .int .i64 K] 39)).alloc (.cells #[.int .i64 ck, .string tn, .slice A' n' c', .int .i64 K', .string cn, .int .i64 kd, .bool no] 48)).alloc (.cells #[.slice none 0 0, .int .i64 0] 39)).alloc (.cells #[.slice none 0 0, .int .i64 0] 39)) := (((((Below.refl w.heap.size w).alloc (Nat.le_refl _) _).alloc (by simp) _).alloc (by simp; omega) _).alloc (by simp; omega) _)
  refine ⟨hb, (((Has.new w _ _).alloc _).alloc _).alloc _, ?_, ?_, ?_, by simp, ownC_nil _ _⟩
  ·have h := ((Has.new (w.alloc (.cells #[.slice (some ⟨b, off, none⟩) n c, .int .i64 K] 39)) 48 #[.int .i64 ck, .string tn, .slice A' n' c', .int .i64 K', .string cn, .int .i64 kd, .bool no]).alloc (.cells #[.slice none 0 0, .int .i64 0] 39)).alloc (.cells #[.slice none 0 0, .int .i64 0] 39)
   rw [e1] at h; exact h
  ·have h := (Has.new ((w.alloc (.cells #[.slice (some ⟨b, off, none⟩) n c, .int .i64 K] 39)).alloc (.cells #[.int .i64 ck, .string tn, .slice A' n' c', .int .i64 K', .string cn, .int .i64 kd, .bool no] 48)) 39 #[.slice none 0 0, .int .i64 0]).alloc (.cells #[.slice none 0 0, .int .i64 0] 39)
   rw [e2] at h; exact h
  ·have h := Has.new (((w.alloc (.cells #[.slice (some ⟨b, off, none⟩) n c, .int .i64 K] 39)).alloc (.cells #[.int .i64 ck, .string tn, .slice A' n' c', .int .i64 K', .string cn, .int .i64 kd, .bool no] 48)).alloc (.cells #[.slice none 0 0, .int .i64 0] 39)) 39 #[.slice none 0 0, .int .i64 0]
   rw [e3] at h; exact h
 have S0 := Lib.hid st0
 have HF0 := Lib.hid (refFind_any (some ⟨b, off, none⟩) L n c K cn ((((w.alloc (.cells #[.slice (some ⟨b, off, none⟩) n c, .int .i64 K] 39)).alloc (.cells #[.int .i64 ck, .string tn, .slice A' n' c', .int .i64 K', .string cn, .int .i64 kd, .bool no] 48)).alloc (.cells #[.slice none 0 0, .int .i64 0] 39)).alloc (.cells #[.slice none 0 0, .int .i64 0] 39)) HN.out (by omega) (HA.out.below st0.bel))
 clear st0
 go_enter Tryz.func29, Tryz.ntmps29
 go_wp2_with fail
 refine HF0.out.mono ?_
 rintro e w1 ⟨rfl, hb⟩
 have S1 := Lib.hid (S0.out.below hb.out)
 obtain ⟨fi, hfi⟩ : ∃ fi, findI L cn = fi := ⟨_, rfl⟩
 rw [hfi] at hlt ⊢
 have HFI := Lib.hid hfi
 clear hb hfi S0 HF0
 have s0 : w1.cell? ⟨w.heap.size, 0, none⟩ = some (.slice (some ⟨b, off, none⟩) n c) := S1.out.sc.cell 0
 have HAP := Lib.hid (appCs w1 (w.heap.size + 4) (.slice none 0 0) [] (ownC_nil _ _) S1.out.big (some ⟨b, off, none⟩) L n c HN.out (HA.out.below S1.out.bel) (fun h => by cases h) (by simp; omega))
 go_wp2_with (at_builtin; refine wpList_app rfl _ _ 37 37 rfl (.slice none 0 0) (.slice (some ⟨b, off, none⟩) n c) rfl rfl ?_; go_loud (obtain ⟨R, W, hrun, hmade⟩ := HAP.out; refine ⟨R, W, hrun, ?_⟩; have S2 := Lib.hid (S1.out.made hmade.2 hmade.1); obtain ⟨A7, n7, c7, hR, HN7, hnc7, hcm7, HV7, HZ7⟩ := ownC_open hmade.1; subst hR; have hn7 := HN7.out.symm.trans HN.out; subst hn7; have hx4 : W.cell? ⟨w.heap.size + 1, 4, none⟩ = some (.string cn) := S2.out.ch.cell 4; have hx5 : W.cell? ⟨w.heap.size + 1, 5, none⟩ = some (.int .i64 kd) := S2.out.ch.cell 5; clear hrun hmade HAP s0 S1))
 refine (refName_any cn _).mono ?_
 rintro e w2 ⟨rfl, hw⟩
 obtain rfl : W = w2 := by first | exact hw | exact hw.symm
 go_wp2_with fail
 refine (kind_any kd _).mono ?_
 rintro e w2 ⟨rfl, hw⟩
 obtain rfl : W = w2 := by first | exact hw | exact hw.symm
 have s0 : W.cell? ⟨w.heap.size, 0, none⟩ = some (.slice (some ⟨b, off, none⟩) n7 c) := S2.out.sc.cell 0
 have s1 : W.cell? ⟨w.heap.size, 1, none⟩ = some (.int .i64 K) := S2.out.sc.cell 1
 have hx0 : W.cell? ⟨w.heap.size + 1, 0, none⟩ = some (.int .i64 ck) := S2.out.ch.cell 0
 have hx6 : W.cell? ⟨w.heap.size + 1, 6, none⟩ = some (.bool no) := S2.out.ch.cell 6
 have r0 : W.cell? ⟨w.heap.size + 1 + 1, 0, none⟩ = some (.slice none 0 0) := S2.out.res.cell 0
 have r1 : W.cell? ⟨w.heap.size + 1 + 1, 1, none⟩ = some (.int .i64 0) := S2.out.res.cell 1
 have f0 : W.frozen? ⟨w.heap.size + 1 + 1, 0, none⟩ = false := S2.out.res.free 0
 have f1 : W.frozen? ⟨w.heap.size + 1 + 1, 1, none⟩ = false := S2.out.res.free 1
 have m0 : W.cell? ⟨w.heap.size + 1 + 1 + 1, 0, none⟩ = some (.slice none 0 0) := S2.out.non.cell 0
 have m1 : W.cell? ⟨w.heap.size + 1 + 1 + 1, 1, none⟩ = some (.int .i64 0) := S2.out.non.cell 1
 obtain ⟨qn, hqn⟩ : ∃ q, nameF cn = q := ⟨_, rfl⟩
 obtain ⟨qk, hqk⟩ : ∃ q, kindF kd = q := ⟨_, rfl⟩
 rw [hqn, hqk]
 have HQN := Lib.hid hqn
 have HQK := Lib.hid hqk
 clear hqn hqk
 by_cases h3 : ck = 3
 ·subst h3
  by_cases hall : (qn && qk && no) = true
  ·have HALL : Hid ((nameF cn && kindF kd && no) = true) := by show _ = _; rw [HQN.out, HQK.out]; exact hall
   obtain ⟨rfl, rfl, rfl⟩ : qn = true ∧ qk = true ∧ no = true := by simp only [Bool.and_eq_true] at hall; exact ⟨hall.1.1, hall.1.2, hall.2⟩
   clear hall
   by_cases h0 : 0 ≤ fi
   ·have HE : Hid (doesF L K 3 cn kd true = .bad 8) := dA_exist HALL.out HFI.out h0
    go_wp2_with fail
    have HP := Lib.hid ((S2.out.res.put 0 (.slice none 0 0)).put 1 (.int .i64 0))
    exact bodyPost_ret (schEnd rfl _ (w.heap.size + 2) _ _ _ rfl HP.out) rfl ⟨_, by rw [HE.out]; rfl, by rw [HE.out]; exact ownC_nil _ _, (S2.out.bel.setCell (by show w.heap.size ≤ w.heap.size + 1 + 1; omega) _).setCell (by show w.heap.size ≤ w.heap.size + 1 + 1; omega) _⟩
   ·by_cases hfull : 16 ≤ n7
    ·have hfz : (16 : Int) ≤ (n7 : Int) := by omega
     have HE : Hid (doesF L K 3 cn kd true = .bad 10) := dA_full HALL.out HFI.out (by omega) (by rw [HN.out]; exact hfull)
     go_wp2_with fail
     have HP := Lib.hid ((S2.out.res.put 0 (.slice none 0 0)).put 1 (.int .i64 0))
     exact bodyPost_ret (schEnd rfl _ (w.heap.size + 2) _ _ _ rfl HP.out) rfl ⟨_, by rw [HE.out]; rfl, by rw [HE.out]; exact ownC_nil _ _, (S2.out.bel.setCell (by show w.heap.size ≤ w.heap.size + 1 + 1; omega) _).setCell (by show w.heap.size ≤ w.heap.size + 1 + 1; omega) _⟩
    ·have HE : Hid (doesF L K 3 cn kd true = ⟨L.length, L.length, 1, 0⟩) := dA_ok HALL.out HFI.out (by omega) (by rw [HN.out]; omega)
     have HLL : Hid (applyL L ⟨L.length, L.length, 1, 0⟩ cn kd = L ++ [⟨cn, kd, true⟩]) := by show _ = _; simp [applyL]
     have hfz : ¬ (16 : Int) ≤ (n7 : Int) := by omega
     have hfz2 : decide (16 ≤ n7) = false := by simp; omega
     go_wp2_with fail
     have HAP := Lib.hid (appC W.drew W.heap.size rfl (w.heap.size + 4) (.slice A7 n7 c7) L ⟨cn, kd, true⟩ S2.out.own.drew S2.out.big (by rw [HN.out]; omega))
     have HR := Lib.hid S2.out.res.drew
     have hzz := S2.out.big
     clear hx0 s0 r0 r1 f0 f1 m0 m1
     go_region_held3 (fun X => X.cell? ⟨w.heap.size + 1, 4, none⟩ = some (.string cn) ∧ X.cell? ⟨w.heap.size + 1, 5, none⟩ = some (.int .i64 kd) ∧ X.cell? ⟨w.heap.size + 1, 6, none⟩ = some (.bool true) ∧ X.cell? ⟨w.heap.size, 1, none⟩ = some (.int .i64 K)) (first | (go_keep; done) | exact ⟨cell_s2 (by show w.heap.size + 1 + 1 ≠ w.heap.size + 1; omega) (by assumption), cell_s2 (by show w.heap.size + 1 + 1 ≠ w.heap.size + 1; omega) (by assumption), cell_s2 (by show w.heap.size + 1 + 1 ≠ w.heap.size + 1; omega) (by assumption), cell_s2 (by show w.heap.size + 1 + 1 ≠ w.heap.size; omega) (by assumption)⟩) (first
      | (refine step_appA (by rfl) _ _ _ _ (by rfl) (.slice A7 n7 c7) (.slice (some ⟨W.heap.size, 0, none⟩) 1 1) (by rfl) (by rfl) ?_; obtain ⟨R, X, hrun, hmade⟩ := HAP.out; refine ⟨R, X, hrun, ?_⟩; obtain ⟨A8, n8, c8, hR8, _, _, _, _, _⟩ := ownC_open hmade.1; subst hR8; have z4 := belowB hmade.2 (by omega) hx4; have z5 := belowB hmade.2 (by omega) hx5; have z6 := belowB hmade.2 (by omega) hx6; have z1 := belowB hmade.2 (by omega) s1; have HR8 := Lib.hid (HR.out.below hmade.2 (by omega)); have g0 : X.cell? ⟨w.heap.size + 1 + 1, 0, none⟩ = some (.slice none 0 0) := HR8.out.cell 0; have g1 : X.cell? ⟨w.heap.size + 1 + 1, 1, none⟩ = some (.int .i64 0) := HR8.out.cell 1; have e0 : X.frozen? ⟨w.heap.size + 1 + 1, 0, none⟩ = false := HR8.out.free 0; have e1 : X.frozen? ⟨w.heap.size + 1 + 1, 1, none⟩ = false := HR8.out.free 1; have HM := Lib.hid hmade; clear hrun hmade HAP))
     have HB8 := Lib.hid (S2.out.bel.drew.trans (HM.out.2.mono (by omega)))
     have HP := Lib.hid ((HR8.out.put 0 (.slice A8 n8 c8)).put 1 (.int .i64 K))
     have HO8 := Lib.hid ((HM.out.1.far (p := ⟨w.heap.size + 1 + 1, 0, none⟩) (by show w.heap.size + 1 + 1 < _; omega) (.slice A8 n8 c8)).far (p := ⟨w.heap.size + 1 + 1, 1, none⟩) (by show w.heap.size + 1 + 1 < _; omega) (.int .i64 K))
     go_wp2_with fail
     exact bodyPost_ret (schEnd rfl _ (w.heap.size + 2) _ _ _ rfl HP.out) rfl ⟨_, by rw [HE.out]; rfl, by rw [HE.out, HLL.out]; exact ownC_down HO8.out (by omega), (HB8.out.setCell (by show w.heap.size ≤ w.heap.size + 1 + 1; omega) _).setCell (by show w.heap.size ≤ w.heap.size + 1 + 1; omega) _⟩
  ·have HALL : Hid ((nameF cn && kindF kd && no) = false) := by show _ = _; rw [HQN.out, HQK.out]; simpa using hall
   cases qn
   ·have HE : Hid (doesF L K 3 cn kd no = .bad 1) := dA_arg HALL.out
    go_wp2_with fail
    have HP := Lib.hid ((S2.out.res.put 0 (.slice none 0 0)).put 1 (.int .i64 0))
    exact bodyPost_ret (schEnd rfl _ (w.heap.size + 2) _ _ _ rfl HP.out) rfl ⟨_, by rw [HE.out]; rfl, by rw [HE.out]; exact ownC_nil _ _, (S2.out.bel.setCell (by show w.heap.size ≤ w.heap.size + 1 + 1; omega) _).setCell (by show w.heap.size ≤ w.heap.size + 1 + 1; omega) _⟩
   ·cases qk
    ·have HE : Hid (doesF L K 3 cn kd no = .bad 1) := dA_arg HALL.out
     go_wp2_with fail
     have HP := Lib.hid ((S2.out.res.put 0 (.slice none 0 0)).put 1 (.int .i64 0))
     exact bodyPost_ret (schEnd rfl _ (w.heap.size + 2) _ _ _ rfl HP.out) rfl ⟨_, by rw [HE.out]; rfl, by rw [HE.out]; exact ownC_nil _ _, (S2.out.bel.setCell (by show w.heap.size ≤ w.heap.size + 1 + 1; omega) _).setCell (by show w.heap.size ≤ w.heap.size + 1 + 1; omega) _⟩
    ·obtain rfl : no = false := by simpa using hall
     have HE : Hid (doesF L K 3 cn kd false = .bad 1) := dA_arg HALL.out
     go_wp2_with fail
     have HP := Lib.hid ((S2.out.res.put 0 (.slice none 0 0)).put 1 (.int .i64 0))
     exact bodyPost_ret (schEnd rfl _ (w.heap.size + 2) _ _ _ rfl HP.out) rfl ⟨_, by rw [HE.out]; rfl, by rw [HE.out]; exact ownC_nil _ _, (S2.out.bel.setCell (by show w.heap.size ≤ w.heap.size + 1 + 1; omega) _).setCell (by show w.heap.size ≤ w.heap.size + 1 + 1; omega) _⟩
 ·by_cases h4 : ck = 4
  ·subst h4
   by_cases h0 : fi < 0
   ·have HE : Hid (doesF L K 4 cn kd no = .bad 7) := dC_none HFI.out h0
    go_wp2_with fail
    have HP := Lib.hid ((S2.out.res.put 0 (.slice none 0 0)).put 1 (.int .i64 0))
    exact bodyPost_ret (schEnd rfl _ (w.heap.size + 2) _ _ _ rfl HP.out) rfl ⟨_, by rw [HE.out]; rfl, by rw [HE.out]; exact ownC_nil _ _, (S2.out.bel.setCell (by show w.heap.size ≤ w.heap.size + 1 + 1; omega) _).setCell (by show w.heap.size ≤ w.heap.size + 1 + 1; omega) _⟩
   ·by_cases hk : fi < K
    ·have HE : Hid (doesF L K 4 cn kd no = .bad 10) := dC_key HFI.out (by omega) hk
     go_wp2_with fail
     have HP := Lib.hid ((S2.out.res.put 0 (.slice none 0 0)).put 1 (.int .i64 0))
     exact bodyPost_ret (schEnd rfl _ (w.heap.size + 2) _ _ _ rfl HP.out) rfl ⟨_, by rw [HE.out]; rfl, by rw [HE.out]; exact ownC_nil _ _, (S2.out.bel.setCell (by show w.heap.size ≤ w.heap.size + 1 + 1; omega) _).setCell (by show w.heap.size ≤ w.heap.size + 1 + 1; omega) _⟩
    ·obtain ⟨i, rfl⟩ := Int.eq_ofNat_of_zero_le (show 0 ≤ fi by omega)
     have HE : Hid (doesF L K 4 cn kd no = ⟨i, i + 1, 0, 0⟩) := dC_ok HFI.out (by omega)
     have HLL : Hid (applyL L ⟨i, i + 1, 0, 0⟩ cn kd = L.take i ++ L.drop (i + 1)) := by show _ = _; simp [applyL]
     have hi0 : (0 : Int) ≤ (i : Int) := by omega
     have hi1 : (i : Int) ≤ (c7 : Int) := by omega
     have hi2 : (0 : Int) ≤ (i : Int) + 1 := by omega
     have hi3 : (i : Int) + 1 ≤ (n7 : Int) := by omega
     have hi4 : (n7 : Int) ≤ (c7 : Int) := by omega
     have hiL : i < L.length := by rw [HN.out]; omega
     obtain ⟨g, off2, rfl, hcc⟩ := HV7.out (by rw [List.nil_append]; intro h; rw [h] at hiL; simp at hiL)
     clear hcc
     have hown : Hid (OwnC (w.heap.size + 4) W (.slice (some ⟨g, off2, none⟩) n7 c7) L) := S2.out.own
     go_wp2_with fail
     clear hx0 hx4 hx5 hx6 s0 r0 r1 f0 f1 m0 m1
     obtain ⟨AD, hAD⟩ : ∃ AD, (if c7 = i + 1 then some (⟨g, off2, none⟩ : Addr) else some ⟨g, off2 + (i + 1) * 3, none⟩) = AD := ⟨_, rfl⟩
     have hlen : (L.drop (i + 1)).length = n7 - (i + 1) := by rw [List.length_drop, HN.out]
     have hlt2 : (L.take i).length = i := by rw [List.length_take]; omega
     have hAR : CRow W.drew AD (L.drop (i + 1)) := by
      have h1 := (OwnC.row hown.out.drew rfl).drop (i + 1)
      rw [← hAD]
      split
      ·intro hne
       exact absurd (List.eq_nil_of_length_eq_zero (by rw [hlen]; omega)) hne
      ·exact h1
     have hAN : AD = none → c7 - (i + 1) = 0 := by rw [← hAD]; intro h; split at h <;> cases h
     have HAP := Lib.hid (appCs W.drew (w.heap.size + 4) (.slice (some ⟨g, off2, none⟩) i c7) (L.take i) (OwnC.takeV hown.out.drew i (by omega)) S2.out.big AD (L.drop (i + 1)) (n7 - (i + 1)) (c7 - (i + 1)) hlen hAR hAN (by rw [hlt2]; omega))
     have HR := Lib.hid S2.out.res.drew
     have hzz := S2.out.big
     have hw1 : IntKind.i64.wrap ((i : Int) + 1) = (i : Int) + 1 := IntWalk.i64_in _ (by omega)
     have hw2 : ((i : Int) + 1).toNat = i + 1 := by omega
     clear hlen hlt2 hAR hAN
     go_region_held3 (fun X => X.cell? ⟨w.heap.size, 1, none⟩ = some (.int .i64 K)) (first | (go_keep; done) | exact cell_s2 (by show w.heap.size + 1 + 1 ≠ w.heap.size; omega) (by assumption)) (first
      | (refine step_appA (by rfl) _ _ _ _ (by rfl) (.slice (some ⟨g, off2, none⟩) i c7) (.slice AD (n7 - (i + 1)) (c7 - (i + 1))) (by rfl) (by rfl) ?_; obtain ⟨R, X, hrun, hmade⟩ := HAP.out; refine ⟨R, X, hrun, ?_⟩; obtain ⟨A8, n8, c8, hR8, _, _, _, _, _⟩ := ownC_open hmade.1; subst hR8; have z1 := belowB hmade.2 (by omega) s1; have HR8 := Lib.hid (HR.out.below hmade.2 (by omega)); have g0 : X.cell? ⟨w.heap.size + 1 + 1, 0, none⟩ = some (.slice none 0 0) := HR8.out.cell 0; have g1 : X.cell? ⟨w.heap.size + 1 + 1, 1, none⟩ = some (.int .i64 0) := HR8.out.cell 1; have e0 : X.frozen? ⟨w.heap.size + 1 + 1, 0, none⟩ = false := HR8.out.free 0; have e1 : X.frozen? ⟨w.heap.size + 1 + 1, 1, none⟩ = false := HR8.out.free 1; have HM := Lib.hid hmade; clear hrun hmade HAP))
     clear hw1 hw2
     have HB8 := Lib.hid (S2.out.bel.drew.trans (HM.out.2.mono (by omega)))
     have HP := Lib.hid ((HR8.out.put 0 (.slice A8 n8 c8)).put 1 (.int .i64 K))
     have HO8 := Lib.hid ((HM.out.1.far (p := ⟨w.heap.size + 1 + 1, 0, none⟩) (by show w.heap.size + 1 + 1 < _; omega) (.slice A8 n8 c8)).far (p := ⟨w.heap.size + 1 + 1, 1, none⟩) (by show w.heap.size + 1 + 1 < _; omega) (.int .i64 K))
     go_wp2_with fail
     exact bodyPost_ret (schEnd rfl _ (w.heap.size + 2) _ _ _ rfl HP.out) rfl ⟨_, by rw [HE.out]; rfl, by rw [HE.out, HLL.out]; exact ownC_down HO8.out (by omega), (HB8.out.setCell (by show w.heap.size ≤ w.heap.size + 1 + 1; omega) _).setCell (by show w.heap.size ≤ w.heap.size + 1 + 1; omega) _⟩
  ·by_cases h5 : ck = 5
   ·subst h5
    by_cases h0 : fi < 0
    ·have HE : Hid (doesF L K 5 cn kd no = .bad 7) := dR_none HFI.out h0
     go_wp2_with fail
     have HP := Lib.hid ((S2.out.res.put 0 (.slice none 0 0)).put 1 (.int .i64 0))
     exact bodyPost_ret (schEnd rfl _ (w.heap.size + 2) _ _ _ rfl HP.out) rfl ⟨_, by rw [HE.out]; rfl, by rw [HE.out]; exact ownC_nil _ _, (S2.out.bel.setCell (by show w.heap.size ≤ w.heap.size + 1 + 1; omega) _).setCell (by show w.heap.size ≤ w.heap.size + 1 + 1; omega) _⟩
    ·by_cases hk : fi < K
     ·have HE : Hid (doesF L K 5 cn kd no = .bad 10) := dR_key HFI.out (by omega) hk
      go_wp2_with fail
      have HP := Lib.hid ((S2.out.res.put 0 (.slice none 0 0)).put 1 (.int .i64 0))
      exact bodyPost_ret (schEnd rfl _ (w.heap.size + 2) _ _ _ rfl HP.out) rfl ⟨_, by rw [HE.out]; rfl, by rw [HE.out]; exact ownC_nil _ _, (S2.out.bel.setCell (by show w.heap.size ≤ w.heap.size + 1 + 1; omega) _).setCell (by show w.heap.size ≤ w.heap.size + 1 + 1; omega) _⟩
     ·obtain ⟨i, rfl⟩ := Int.eq_ofNat_of_zero_le (show 0 ≤ fi by omega)
      have hiL : i < L.length := by rw [HN.out]; omega
      have hnm := findI_nm HFI.out hiL
      obtain ⟨g, off2, rfl, hcc⟩ := HV7.out (by rw [List.nil_append]; intro h; rw [h] at hiL; simp at hiL)
      have hown : Hid (OwnC (w.heap.size + 4) W (.slice (some ⟨g, off2, none⟩) n7 c7) L) := S2.out.own
      obtain rfl := OwnC.off0 hown.out
      obtain ⟨l0, l1, l2⟩ := hcc i (by rw [List.nil_append]; exact hiL)
      simp only [List.nil_append, Nat.zero_add] at l0 l1 l2
      clear hcc
      have hkz : (i : Int) < (n7 : Int) := by omega
      have hk0 : (0 : Int) ≤ (i : Int) := by omega
      cases hno2 : L[i].no
      ·have HE : Hid (doesF L K 5 cn kd no = .bad 10) := dR_must hiL HFI.out hno2
       rw [hno2] at l2
       clear hno2
       go_wp2_with fail
       have HP := Lib.hid ((S2.out.res.put 0 (.slice none 0 0)).put 1 (.int .i64 0))
       exact bodyPost_ret (schEnd rfl _ (w.heap.size + 2) _ _ _ rfl HP.out) rfl ⟨_, by rw [HE.out]; rfl, by rw [HE.out]; exact ownC_nil _ _, (S2.out.bel.setCell (by show w.heap.size ≤ w.heap.size + 1 + 1; omega) _).setCell (by show w.heap.size ≤ w.heap.size + 1 + 1; omega) _⟩
      ·rw [hno2] at l2
       cases qk
       ·have HE : Hid (doesF L K 5 cn kd no = .bad 1) := dR_kind hiL HFI.out hno2 (by omega) HQK.out
        clear hno2
        go_wp2_with fail
        have HP := Lib.hid ((S2.out.res.put 0 (.slice none 0 0)).put 1 (.int .i64 0))
        exact bodyPost_ret (schEnd rfl _ (w.heap.size + 2) _ _ _ rfl HP.out) rfl ⟨_, by rw [HE.out]; rfl, by rw [HE.out]; exact ownC_nil _ _, (S2.out.bel.setCell (by show w.heap.size ≤ w.heap.size + 1 + 1; omega) _).setCell (by show w.heap.size ≤ w.heap.size + 1 + 1; omega) _⟩
       ·have HE : Hid (doesF L K 5 cn kd no = ⟨i, i + 1, 1, 0⟩) := dR_ok hiL HFI.out hno2 (by omega) HQK.out
        have HLL : Hid (applyL L ⟨i, i + 1, 1, 0⟩ cn kd = L.set i ⟨cn, kd, true⟩) := by show _ = _; rw [set_mid L i _ hiL]; simp [applyL]
        obtain ⟨hgb, hfr, HPO⟩ := ownC_put2 hown.out i hiL 1 (by omega) (.int .i64 kd) ⟨cn, kd, true⟩ (by simp only [Cl.cells]; rw [hnm, hno2]; rfl)
        clear hno2 hnm
        generalize L[i].k = lk at *
        generalize L[i].nm = ln at *
        have HPO2 := Lib.hid HPO
        have hz := S2.out.big
        have s1b : (W.setCell ⟨g, i * 3 + 1, none⟩ (.int .i64 kd)).cell? ⟨w.heap.size, 1, none⟩ = some (.int .i64 K) := (World.cell?_setCell_far _ _ _ _ (by show g ≠ w.heap.size; omega)).trans s1
        have HRG := Lib.hid (S2.out.res.far (p := ⟨g, i * 3 + 1, none⟩) (by show w.heap.size + 2 ≠ g; omega) (.int .i64 kd))
        have r0b : (W.setCell ⟨g, i * 3 + 1, none⟩ (.int .i64 kd)).cell? ⟨w.heap.size + 1 + 1, 0, none⟩ = some (.slice none 0 0) := HRG.out.cell 0
        have r1b : (W.setCell ⟨g, i * 3 + 1, none⟩ (.int .i64 kd)).cell? ⟨w.heap.size + 1 + 1, 1, none⟩ = some (.int .i64 0) := HRG.out.cell 1
        have f0b : (W.setCell ⟨g, i * 3 + 1, none⟩ (.int .i64 kd)).frozen? ⟨w.heap.size + 1 + 1, 0, none⟩ = false := HRG.out.free 0
        have f1b : (W.setCell ⟨g, i * 3 + 1, none⟩ (.int .i64 kd)).frozen? ⟨w.heap.size + 1 + 1, 1, none⟩ = false := HRG.out.free 1
        clear HPO m0 m1 hx4 hx6 s0
        go_wp2_with fail
        have HP := Lib.hid ((HRG.out.put 0 (.slice (some ⟨g, 0, none⟩) n7 c7)).put 1 (.int .i64 K))
        have HO8 := Lib.hid ((HPO2.out.far (p := ⟨w.heap.size + 1 + 1, 0, none⟩) (by show w.heap.size + 1 + 1 < _; omega) (.slice (some ⟨g, 0, none⟩) n7 c7)).far (p := ⟨w.heap.size + 1 + 1, 1, none⟩) (by show w.heap.size + 1 + 1 < _; omega) (.int .i64 K))
        have HB8 := Lib.hid (S2.out.bel.setCell (p := ⟨g, i * 3 + 1, none⟩) (by show w.heap.size ≤ g; omega) (.int .i64 kd))
        exact bodyPost_ret (schEnd rfl _ (w.heap.size + 2) _ _ _ rfl HP.out) rfl ⟨_, by rw [HE.out]; rfl, by rw [HE.out, HLL.out]; exact ownC_down HO8.out (by omega), (HB8.out.setCell (by show w.heap.size ≤ w.heap.size + 1 + 1; omega) _).setCell (by show w.heap.size ≤ w.heap.size + 1 + 1; omega) _⟩
   ·have q3 : (ck == 3) = false := by simp [h3]
    have q4 : (ck != 4) = true := by simp [h4]
    have q5 : (ck != 5) = true := by simp [h5]
    have HE : Hid (doesF L K ck cn kd no = .bad 5) := d_kind h3 h4 h5
    go_wp2_with fail
    have HP := Lib.hid ((S2.out.res.put 0 (.slice none 0 0)).put 1 (.int .i64 0))
    exact bodyPost_ret (schEnd rfl _ (w.heap.size + 2) _ _ _ rfl HP.out) rfl ⟨_, by rw [HE.out]; rfl, by rw [HE.out]; exact ownC_nil _ _, (S2.out.bel.setCell (by show w.heap.size ≤ w.heap.size + 1 + 1; omega) _).setCell (by show w.heap.size ≤ w.heap.size + 1 + 1; omega) _⟩
end Go.Proofs.YtlnbhlgkehenpaaGreatDoor
namespace Go.Proofs.YtlnbhlgkehenpaaGreatDoor
open Go.RowKit Dg
set_option maxRecDepth 100000
theorem appT_g (w : World) (g : Nat) (hg0 : g = w.heap.size) (B : Nat) (v : Value) (L : List Tb) (x : Tb) (h : OwnT B w v L) (hB : B ≤ w.heap.size) (hl : L.length ≤ 1000) :
 ∃ R W', (Builtin.append_ #[22, 22] 22 #[v, .slice (some ⟨g, 0, none⟩) 1 1]).run Tryz.prog (w.alloc (.cells #[.string x.nm, .slice x.A x.n x.c, .int .i64 x.K] 41)) = .ok R W' ∧ OwnT B W' R (L ++ [x]) ∧ Below B w W' ∧ (w.alloc (.cells #[.string x.nm, .slice x.A x.n x.c, .int .i64 x.K] 41)).grownBy W' v.ownBlock := by
 subst hg0
 obtain ⟨i0, hi, hz0, hz1, hz2⟩ := info_parts infoT
 obtain ⟨R, W', hrun, hown, hg, _⟩ := run_append_own (P := Tryz.prog) (w.alloc (.cells x.row.toArray 41)) B 22 22 41 i0 _ 3 48 Tryz.underlying22 hi hz0 hz1 hz2 rfl (by decide) v L.length (L.flatMap Tb.row) (h.alloc _)
  ⟨w.heap.size, 0, none⟩ 1 1 x.row rfl (fun j u hj => by
    have := (Has.new w 41 x.row.toArray).cell j
    rw [List.getElem?_toArray] at this
    rw [Addr.add_lit, Nat.zero_add]
    exact this.trans hj) (fun u hu => by simp [Tb.row] at hu; rcases hu with rfl | rfl | rfl <;> rfl) (by unfold maxLen; omega) (by omega) (by simp; omega)
 refine ⟨R, W', hrun, ?_, ?_, hg⟩
 ·unfold OwnT; rw [List.flatMap_append, List.length_append]; simpa using hown
 ·exact ((Below.refl B w).alloc hB _).grown hg (by simp; omega) fun k hk => (World.ownsRow.lt h k hk).1
theorem appTs_g (w : World) (B : Nat) (v : Value) (L : List Tb) (h : OwnT B w v L) (hB : B ≤ w.heap.size) (A : Option Addr) (M : List Tb) (n c : Nat) (hn : M.length = n) (hA : TRow w A M) (h0 : A = none → c = 0) (hl : L.length + n ≤ 1000) :
 ∃ R W', (Builtin.append_ #[22, 22] 22 #[v, .slice A n c]).run Tryz.prog w = .ok R W' ∧ OwnT B W' R (L ++ M) ∧ Below B w W' ∧ w.grownBy W' v.ownBlock := by
 subst hn
 obtain ⟨i0, hi, hz0, hz1, hz2⟩ := info_parts infoT
 by_cases hM : M = []
 ·subst hM
  rcases A with _ | a
  ·rw [h0 rfl, List.append_nil]
   exact ⟨v, w, run_append_owned_none w B 22 22 41 i0 3 Tryz.underlying22 hi v _ _ h, h, Below.refl _ _, ⟨rfl, rfl, rfl, Nat.le_refl _, fun _ _ _ => rfl⟩⟩
  ·obtain ⟨R, W', hrun, hown, hg, _⟩ := run_append_own (P := Tryz.prog) w B 22 22 41 i0 _ 3 48 Tryz.underlying22 hi hz0 hz1 hz2 rfl (by decide) v L.length (L.flatMap Tb.row) h
    a 0 c [] rfl (fun j u hj => by simp at hj) (fun u hu => by cases hu) (by unfold maxLen; omega) (by omega) hB
   refine ⟨R, W', hrun, ?_, (Below.refl B w).grown hg hB fun k hk => (World.ownsRow.lt h k hk).1, hg⟩
   unfold OwnT; simpa using hown
 ·obtain ⟨b, off, rfl, hc⟩ := hA hM
  obtain ⟨R, W', hrun, hown, hg, _⟩ := run_append_own (P := Tryz.prog) w B 22 22 41 i0 _ 3 48 Tryz.underlying22 hi hz0 hz1 hz2 rfl (by decide) v L.length (L.flatMap Tb.row) h
   ⟨b, off, none⟩ M.length c (M.flatMap Tb.row) (by rw [tflat_len]) (fun j u hj => by rw [Addr.add_lit]; exact trow_cell hc j u hj) (fun u hu => by
     obtain ⟨x, _, hx⟩ := List.mem_flatMap.1 hu
     simp [Tb.row] at hx; rcases hx with rfl | rfl | rfl <;> rfl) (by unfold maxLen; omega) (by omega) hB
  refine ⟨R, W', hrun, ?_, (Below.refl B w).grown hg hB fun k hk => (World.ownsRow.lt h k hk).1, hg⟩
  unfold OwnT; rw [List.flatMap_append, List.length_append]; exact hown
theorem OwnC.beside {D B : Nat} {w w' : World} {v u : Value} {L : List Cl} {T : List Tb} (h : OwnC D w v L) (ho : OwnT B w u T) (hg : w.grownBy w' u.ownBlock) : OwnC D w' v L := by
 rcases h.2 with ⟨hv, hn⟩ | ⟨g, cap, cur, hv, hgD, hh, hc, hcm, hsz, ht⟩
 ·exact ⟨h.1, .inl ⟨hv, hn⟩⟩
 ·refine ⟨h.1, .inr ⟨g, cap, cur, hv, hgD, ?_, hc, hcm, hsz, ht⟩⟩
  have hlt := Has.lt (t := 46) (cs := cur) hh
  refine (hg.block g hlt fun e => ?_).trans hh
  rcases ho.2 with ⟨rfl, _⟩ | ⟨k, _, cur2, rfl, _, hk, _⟩
  ·cases e
  ·have e2 : k = g := by simp [Value.ownBlock] at e; omega
   subst e2
   have := hk.symm.trans hh
   injection this with this
   injection this with _ h2 _
   exact absurd h2 (by decide)
theorem Has.beside {B : Nat} {w w' : World} {g : Nat} {t : TypeId} {cs : Array Value} {u : Value} {T : List Tb} (h : Has w g t cs) (ht : t ≠ 41) (ho : OwnT B w u T) (hg : w.grownBy w' u.ownBlock) : Has w' g t cs := by
 refine (hg.block g h.lt fun e => ?_).trans h
 rcases ho.2 with ⟨rfl, _⟩ | ⟨k, _, cur2, rfl, _, hk, _⟩
 ·cases e
 ·have e2 : k = g := by simp [Value.ownBlock] at e; omega
  subst e2
  have := hk.symm.trans h
  injection this with this
  injection this with _ h2 _
  exact ht h2.symm
theorem fcT_oks {w w' : World} {T : List Tb} {tn : ByteArray} {A' : Option Addr} {n' c' : Nat} {L' : List Cl} {K' : Int} (hI : TOks w T) (hb : Below w.heap.size w w') (hn' : L'.length = n') (hnc' : n' ≤ c') (hcm' : c' ≤ maxLen) (hA' : CRow w A' L') (hA0' : A' = none → c' = 0) : TOks w' (fcT T tn A' n' c' L' K') := by
 by_cases h : fcE T tn L' K' = 0
 ·rw [fcT_ok h]
  intro x hx
  rw [List.append_assoc, List.mem_append] at hx
  rcases hx with hx | hx
  ·exact (hI x (List.mem_of_mem_take hx)).below hb
  ·rw [List.singleton_append, List.mem_cons] at hx
   rcases hx with rfl | hx
   ·have hm : smayF L' K' = true := by
     cases hq : smayF L' K'
     ·exfalso
      unfold fcE at h
      rw [hq] at h
      split at h
      ·omega
      ·split at h
       ·omega
       ·simp at h
     ·rfl
    have := may_few hm
    exact ⟨hn', hnc', hcm', hA'.below hb, hA0', by show n' ≤ 900; omega⟩
   ·exact (hI x (List.mem_of_mem_drop hx)).below hb
 ·rw [fcT_bad h]; exact fun x hx => by cases hx
structure Ev where
 k : Int
 n : Int
 t : ByteArray
 B : List Vl
 A : List Vl
 ck : Int
 ct : ByteArray
 L : List Cl
 K : Int
 cl : Cl
def chF (x y : Ev) : Bool := x.ck == y.ck && x.ct.toList == y.ct.toList && x.cl.eqb y.cl && ssF x.L x.K y.L y.K
def evF (x y : Ev) : Bool := x.k == y.k && x.n == y.n && x.t.toList == y.t.toList && vsF x.B y.B && vsF x.A y.A && chF x y
theorem vsF_refl (L : List Vl) : vsF L L = true := (vsF_iff L L).2 rfl
theorem Cl.eqb_iff (x y : Cl) : x.eqb y = true ↔ x = y := by
 obtain ⟨a, b, c⟩ := x
 obtain ⟨a', b', c'⟩ := y
 simp only [Cl.eqb, Bool.and_eq_true, beq_iff_eq, Cl.mk.injEq]
 constructor
 ·rintro ⟨⟨h, rfl⟩, rfl⟩; exact ⟨toList_inj h, rfl, rfl⟩
 ·rintro ⟨rfl, rfl, rfl⟩; exact ⟨⟨rfl, rfl⟩, rfl⟩
set_option maxHeartbeats 4000000 in
set_option maxRecDepth 100000 in
theorem equalV_any (A : Option Addr) (L : List Vl) (n c : Nat) (A' : Option Addr) (M : List Vl) (n' c' : Nat) (w : World) (hn : L.length = n) (hn' : M.length = n') (hl : (n : Int) ≤ 9223372036854775807) (hA : VRow w A L) (hA' : VRow w A' M) :
 Calls Tryz.prog 118 #[.slice A n c, .slice A' n' c'] w fun e w' => e = .returned (.bool (vsF L M)) ∧ Hid (Below w.heap.size w w') := by
 have HN := Lib.hid hn
 have HN' := Lib.hid hn'
 have HA := Lib.hid hA
 have HA' := Lib.hid hA'
 have eq := eqV
 clear hn hA hA' hn'
 by_cases hnn : n = n'
 ·subst hnn
  have HC : Hid (vsF L M = vsTo L M n) := by show _ = _; unfold vsF; rw [HN.out, HN'.out]; simp
  go_enter Tryz.func118, Tryz.ntmps118
  go_wp2_with fail
  go_loopw [13] (fun i wr => ∃ k : Nat, k ≤ n ∧ i = .int .i64 k ∧ Hid (vsTo L M k = true) ∧ Hid (Below w.heap.size w wr)) (fun i _ => n - (intOf i).toNat)
  case atStart => exact ⟨0, by omega, rfl, rfl, Below.refl _ _⟩
  case round =>
   obtain ⟨k, hk, rfl, HT, HB⟩ := hrel
   by_cases hlt : k < n
   ·have hkl : k < L.length := by rw [HN.out]; exact hlt
    have hkm : k < M.length := by rw [HN'.out]; exact hlt
    obtain ⟨b, off, rfl, hc⟩ := (HA.out.below HB.out) (by intro e; rw [e] at hkl; simp at hkl)
    obtain ⟨b', off', rfl, hc'⟩ := (HA'.out.below HB.out) (by intro e; rw [e] at hkm; simp at hkm)
    obtain ⟨c0, c1, c2⟩ := hc k hkl
    obtain ⟨d0, d1, d2⟩ := hc' k hkm
    have HS := Lib.hid (vsTo_succ L M k hkl hkm)
    have HF := Lib.hid (vsTo_false L M k n hlt hkl hkm)
    clear hc hc'
    generalize L[k] = x at *
    generalize M[k] = y at *
    obtain ⟨xk, xn, xs⟩ := x
    obtain ⟨yk, yn, ys⟩ := y
    simp only at c0 c1 c2 d0 d1 d2
    have hkz : (k : Int) < (n : Int) := by omega
    have hk0 : (0 : Int) ≤ (k : Int) := by omega
    have HE : Hid (Vl.eqb ⟨xk, xn, xs⟩ ⟨yk, yn, ys⟩ = (xk == yk && xn == yn && xs.toList == ys.toList)) := rfl
    generalize hq : (xk == yk && xn == yn && xs.toList == ys.toList) = q at *
    have eq2 : ∀ W, (Op.equalIn 10000 115 (.agg #[.int .i64 xk, .int .i64 xn, .string xs]) (.agg #[.int .i64 yk, .int .i64 yn, .string ys])).run Tryz.prog W = .ok q W := fun W => by rw [eq, hq]
    clear eq hq
    cases q
    ·go_wp2_with fail
     go_region
     all_goals
      go_wp2_with fail
      go_ret
      exact ⟨by rw [HC.out, HF.out HE.out]; rfl, HB.out.drew⟩
    ·go_wp2_with fail
     go_region
     all_goals
      go_wp2_with fail
      go_roundw
      case rel => exact ⟨k + 1, by omega, by go_num, by show _ = _; rw [HS.out, HT.out, HE.out]; rfl, HB.out.drew⟩
      case measure => simp [intOf]; omega
   ·obtain rfl : k = n := by omega
    go_wp2_with fail
    go_ret
    exact ⟨by rw [HC.out, HT.out]; rfl, HB⟩
 ·have HC : Hid (vsF L M = false) := by show _ = _; unfold vsF; rw [HN.out, HN'.out]; simp [hnn]
  have hq : ((n : Int) != (n' : Int)) = true := by simp; omega
  go_enter Tryz.func118, Tryz.ntmps118
  go_wp2_with fail
  go_ret
  exact ⟨by rw [HC.out]; rfl, Below.refl _ _⟩
def chG (ck ck' : Int) (ct ct' : ByteArray) (q q' : Cl) (L L' : List Cl) (K K' : Int) : Bool := ck == ck' && ct.toList == ct'.toList && q.eqb q' && ssF L K L' K'
theorem chF_eq (x y : Ev) : chF x y = chG x.ck y.ck x.ct y.ct x.cl y.cl x.L y.L x.K y.K := rfl
structure EvAt (w : World) (v : Value) (x : Ev) : Prop where
 known : ∃ Ab nb zb Aa na za A n c, v = .agg #[.int .i64 x.k, .int .i64 x.n, .string x.t, .slice Ab nb zb, .slice Aa na za, .int .i64 x.ck, .string x.ct, .slice A n c, .int .i64 x.K, .string x.cl.nm, .int .i64 x.cl.k, .bool x.cl.no] ∧ (x.B.length = nb ∧ (nb : Int) ≤ 9223372036854775807 ∧ VRow w Ab x.B) ∧ (x.A.length = na ∧ (na : Int) ≤ 9223372036854775807 ∧ VRow w Aa x.A) ∧ x.L.length = n ∧ n ≤ 4398046511104 ∧ CRow w A x.L
theorem EvAt.below {w w' : World} {v : Value} {x : Ev} (h : EvAt w v x) (hb : Below w.heap.size w w') : EvAt w' v x := by
 obtain ⟨Ab, nb, zb, Aa, na, za, A, n, c, e, ⟨h1, h2, h3⟩, ⟨h4, h5, h6⟩, h7, h8, h9⟩ := h.known
 exact ⟨Ab, nb, zb, Aa, na, za, A, n, c, e, ⟨h1, h2, h3.below hb⟩, ⟨h4, h5, h6.below hb⟩, h7, h8, h9.below hb⟩
set_option maxHeartbeats 2000000 in
set_option maxRecDepth 100000 in
theorem schange_any (ck : Int) (ct : ByteArray) (A : Option Addr) (L : List Cl) (n c : Nat) (K : Int) (cn : ByteArray) (cq : Int) (cb : Bool) (ck' : Int) (ct' : ByteArray) (A' : Option Addr) (L' : List Cl) (n' c' : Nat) (K' : Int) (cn' : ByteArray) (cq' : Int) (cb' : Bool) (w : World) (hn : L.length = n) (hn' : L'.length = n') (hl : n ≤ 4398046511104) (hl' : n' ≤ 4398046511104) (hA : CRow w A L) (hA' : CRow w A' L') :
 Calls Tryz.prog 119 #[.agg #[.int .i64 ck, .string ct, .slice A n c, .int .i64 K, .string cn, .int .i64 cq, .bool cb], .agg #[.int .i64 ck', .string ct', .slice A' n' c', .int .i64 K', .string cn', .int .i64 cq', .bool cb']] w fun e w' => e = .returned (.bool (chG ck ck' ct ct' ⟨cn, cq, cb⟩ ⟨cn', cq', cb'⟩ L L' K K')) ∧ Hid (Below w.heap.size w w') := by
 have HB := Lib.hid (((Below.refl w.heap.size w).alloc (Nat.le_refl _) (.cells #[.int .i64 ck, .string ct, .slice A n c, .int .i64 K, .string cn, .int .i64 cq, .bool cb] 48)).alloc (by simp) (.cells #[.int .i64 ck', .string ct', .slice A' n' c', .int .i64 K', .string cn', .int .i64 cq', .bool cb'] 48))
 have HC := Lib.hid (same4_any A L n c K A' L' n' c' K' ((w.alloc (.cells #[.int .i64 ck, .string ct, .slice A n c, .int .i64 K, .string cn, .int .i64 cq, .bool cb] 48)).alloc (.cells #[.int .i64 ck', .string ct', .slice A' n' c', .int .i64 K', .string cn', .int .i64 cq', .bool cb'] 48)) hn hn' hl hl' (hA.below HB.out) (hA'.below HB.out))
 have eq := eqC
 clear hn hn' hA hA'
 cases h0 : (ck == ck')
 ·have HS : Hid (chG ck ck' ct ct' ⟨cn, cq, cb⟩ ⟨cn', cq', cb'⟩ L L' K K' = false) := by show _ = _; unfold chG; simp [h0]
  go_enter Tryz.func119, Tryz.ntmps119
  go_wp2_with fail
  go_ret
  exact ⟨by rw [HS.out]; rfl, HB⟩
 ·skip
  cases h1 : (ct.toList == ct'.toList)
  ·have HS : Hid (chG ck ck' ct ct' ⟨cn, cq, cb⟩ ⟨cn', cq', cb'⟩ L L' K K' = false) := by show _ = _; unfold chG; simp [h0, h1]
   go_enter Tryz.func119, Tryz.ntmps119
   go_wp2_with fail
   go_ret
   exact ⟨by rw [HS.out]; rfl, HB⟩
  ·skip
   cases h2 : Cl.eqb ⟨cn, cq, cb⟩ ⟨cn', cq', cb'⟩
   ·have HS : Hid (chG ck ck' ct ct' ⟨cn, cq, cb⟩ ⟨cn', cq', cb'⟩ L L' K K' = false) := by show _ = _; unfold chG; simp [h0, h1, h2]
    go_enter Tryz.func119, Tryz.ntmps119
    go_wp2_with fail
    go_ret
    exact ⟨by rw [HS.out]; rfl, HB⟩
   ·skip
    have HS : Hid (chG ck ck' ct ct' ⟨cn, cq, cb⟩ ⟨cn', cq', cb'⟩ L L' K K' = ssF L K L' K') := by show _ = _; unfold chG; simp [h0, h1, h2]
    go_enter Tryz.func119, Tryz.ntmps119
    go_wp2_with fail
    refine HC.out.mono ?_
    rintro e w1 ⟨rfl, hb1⟩
    have HB1 := Lib.hid (HB.out.trans (hb1.out.mono HB.out.size))
    clear hb1 HC
    go_wp2_with fail
    go_ret
    exact ⟨by rw [HS.out]; rfl, HB1⟩
set_option maxHeartbeats 2000000 in
set_option maxRecDepth 100000 in
theorem rchange_any (ck : Int) (ct : ByteArray) (A : Option Addr) (L : List Cl) (n c : Nat) (K : Int) (cn : ByteArray) (cq : Int) (cb : Bool) (ck' : Int) (ct' : ByteArray) (A' : Option Addr) (L' : List Cl) (n' c' : Nat) (K' : Int) (cn' : ByteArray) (cq' : Int) (cb' : Bool) (w : World) (hn : L.length = n) (hn' : L'.length = n') (hl : n ≤ 4398046511104) (hl' : n' ≤ 4398046511104) (hA : CRow w A L) (hA' : CRow w A' L') :
 Calls Tryz.prog 60 #[.agg #[.int .i64 ck, .string ct, .slice A n c, .int .i64 K, .string cn, .int .i64 cq, .bool cb], .agg #[.int .i64 ck', .string ct', .slice A' n' c', .int .i64 K', .string cn', .int .i64 cq', .bool cb']] w fun e w' => e = .returned (.bool (chG ck ck' ct ct' ⟨cn, cq, cb⟩ ⟨cn', cq', cb'⟩ L L' K K')) ∧ Hid (Below w.heap.size w w') := by
 have HB := Lib.hid (((Below.refl w.heap.size w).alloc (Nat.le_refl _) (.cells #[.int .i64 ck, .string ct, .slice A n c, .int .i64 K, .string cn, .int .i64 cq, .bool cb] 48)).alloc (by simp) (.cells #[.int .i64 ck', .string ct', .slice A' n' c', .int .i64 K', .string cn', .int .i64 cq', .bool cb'] 48))
 have HC := Lib.hid (rsame_any A L n c K A' L' n' c' K' ((w.alloc (.cells #[.int .i64 ck, .string ct, .slice A n c, .int .i64 K, .string cn, .int .i64 cq, .bool cb] 48)).alloc (.cells #[.int .i64 ck', .string ct', .slice A' n' c', .int .i64 K', .string cn', .int .i64 cq', .bool cb'] 48)) hn hn' hl hl' (hA.below HB.out) (hA'.below HB.out))
 have HX := Lib.hid ((Has.new w 48 #[.int .i64 ck, .string ct, .slice A n c, .int .i64 K, .string cn, .int .i64 cq, .bool cb]).alloc (.cells #[.int .i64 ck', .string ct', .slice A' n' c', .int .i64 K', .string cn', .int .i64 cq', .bool cb'] 48))
 have hy := Has.new (w.alloc (.cells #[.int .i64 ck, .string ct, .slice A n c, .int .i64 K, .string cn, .int .i64 cq, .bool cb] 48)) 48 #[.int .i64 ck', .string ct', .slice A' n' c', .int .i64 K', .string cn', .int .i64 cq', .bool cb']
 rw [show (w.alloc (.cells #[.int .i64 ck, .string ct, .slice A n c, .int .i64 K, .string cn, .int .i64 cq, .bool cb] 48)).heap.size = w.heap.size + 1 by simp] at hy
 have HY := Lib.hid hy
 clear hy
 have eq := eqC
 clear hn hn' hA hA'
 obtain ⟨q, hq⟩ : ∃ q, ssF L K L' K' = q := ⟨_, rfl⟩
 have HS : Hid (chG ck ck' ct ct' ⟨cn, cq, cb⟩ ⟨cn', cq', cb'⟩ L L' K K' = (q && ck == ck' && ct.toList == ct'.toList && Cl.eqb ⟨cn, cq, cb⟩ ⟨cn', cq', cb'⟩)) := by
  show _ = _; unfold chG; rw [hq]; cases q <;> simp
 rw [hq] at HC
 clear hq
 go_enter Tryz.func60, Tryz.ntmps60
 go_wp2_with fail
 refine HC.out.mono ?_
 rintro e w1 ⟨rfl, hb1⟩
 replace HX := Lib.hid (HX.out.below hb1.out (by have := HX.out.lt; exact this))
 replace HY := Lib.hid (HY.out.below hb1.out (by have := HY.out.lt; exact this))
 replace HB := Lib.hid (HB.out.trans (hb1.out.mono HB.out.size))
 clear hb1 HC
 have x0 : w1.cell? ⟨w.heap.size, 0, none⟩ = some (.int .i64 ck) := HX.out.cell 0
 have x1 : w1.cell? ⟨w.heap.size, 1, none⟩ = some (.string ct) := HX.out.cell 1
 have x4 : w1.cell? ⟨w.heap.size, 4, none⟩ = some (.string cn) := HX.out.cell 4
 have x5 : w1.cell? ⟨w.heap.size, 5, none⟩ = some (.int .i64 cq) := HX.out.cell 5
 have x6 : w1.cell? ⟨w.heap.size, 6, none⟩ = some (.bool cb) := HX.out.cell 6
 have y0 : w1.cell? ⟨w.heap.size + 1, 0, none⟩ = some (.int .i64 ck') := HY.out.cell 0
 have y1 : w1.cell? ⟨w.heap.size + 1, 1, none⟩ = some (.string ct') := HY.out.cell 1
 have y4 : w1.cell? ⟨w.heap.size + 1, 4, none⟩ = some (.string cn') := HY.out.cell 4
 have y5 : w1.cell? ⟨w.heap.size + 1, 5, none⟩ = some (.int .i64 cq') := HY.out.cell 5
 have y6 : w1.cell? ⟨w.heap.size + 1, 6, none⟩ = some (.bool cb') := HY.out.cell 6
 cases q
 ·go_wp2_with fail
  go_ret
  exact ⟨by rw [HS.out]; rfl, HB⟩
 ·skip
  cases h0 : (ck == ck')
  ·go_wp2_with fail
   go_ret
   exact ⟨by rw [HS.out, h0]; rfl, HB⟩
  ·skip
   cases h1 : (ct.toList == ct'.toList)
   ·go_wp2_with fail
    go_ret
    exact ⟨by rw [HS.out, h0, h1]; rfl, HB⟩
   ·skip
    cases h2 : Cl.eqb ⟨cn, cq, cb⟩ ⟨cn', cq', cb'⟩
    ·go_wp2_with fail
     go_ret
     exact ⟨by rw [HS.out, h0, h1, h2]; rfl, HB⟩
    ·go_wp2_with fail
     go_ret
     exact ⟨by rw [HS.out, h0, h1, h2]; rfl, HB⟩
set_option maxHeartbeats 4000000 in
set_option maxRecDepth 100000 in
theorem esame_any (v v' : Value) (x y : Ev) (w : World) (hx : EvAt w v x) (hy : EvAt w v' y) :
 Calls Tryz.prog 90 #[v, v'] w fun e w' => e = .returned (.bool (evF x y)) ∧ Hid (Below w.heap.size w w') := by
 obtain ⟨Ab, nb, zb, Aa, na, za, A, n, c, rfl, ⟨h1, h2, h3⟩, ⟨h4, h5, h6⟩, h7, h8, h9⟩ := hx.known
 obtain ⟨Ab', nb', zb', Aa', na', za', A', n', c', rfl, ⟨h1', h2', h3'⟩, ⟨h4', h5', h6'⟩, h7', h8', h9'⟩ := hy.known
 clear hx hy
 obtain ⟨k, m, t, Bl, Al, ck, ct, L, K, ⟨cn, cq, cb⟩⟩ := x
 obtain ⟨k', m', t', Bl', Al', ck', ct', L', K', ⟨cn', cq', cb'⟩⟩ := y
 simp only at h1 h3 h4 h6 h7 h9 h1' h3' h4' h6' h7' h9'
 obtain ⟨qc, hqc⟩ : ∃ q, chG ck ck' ct ct' ⟨cn, cq, cb⟩ ⟨cn', cq', cb'⟩ L L' K K' = q := ⟨_, rfl⟩
 obtain ⟨qb, hqb⟩ : ∃ q, vsF Bl Bl' = q := ⟨_, rfl⟩
 obtain ⟨qa, hqa⟩ : ∃ q, vsF Al Al' = q := ⟨_, rfl⟩
 have HS : Hid (evF ⟨k, m, t, Bl, Al, ck, ct, L, K, ⟨cn, cq, cb⟩⟩ ⟨k', m', t', Bl', Al', ck', ct', L', K', ⟨cn', cq', cb'⟩⟩ = (k == k' && m == m' && t.toList == t'.toList && qb && qa && qc)) := by
  show _ = _; unfold evF; rw [chF_eq]; simp only [hqb, hqa, hqc]
 have HB := Lib.hid (((Below.refl w.heap.size w).alloc (Nat.le_refl _) (.cells #[.int .i64 k, .int .i64 m, .string t, .slice Ab nb zb, .slice Aa na za, .int .i64 ck, .string ct, .slice A n c, .int .i64 K, .string cn, .int .i64 cq, .bool cb] 61)).alloc (by simp) (.cells #[.int .i64 k', .int .i64 m', .string t', .slice Ab' nb' zb', .slice Aa' na' za', .int .i64 ck', .string ct', .slice A' n' c', .int .i64 K', .string cn', .int .i64 cq', .bool cb'] 61))
 have HX := Lib.hid ((Has.new w 61 #[.int .i64 k, .int .i64 m, .string t, .slice Ab nb zb, .slice Aa na za, .int .i64 ck, .string ct, .slice A n c, .int .i64 K, .string cn, .int .i64 cq, .bool cb]).alloc (.cells #[.int .i64 k', .int .i64 m', .string t', .slice Ab' nb' zb', .slice Aa' na' za', .int .i64 ck', .string ct', .slice A' n' c', .int .i64 K', .string cn', .int .i64 cq', .bool cb'] 61))
 have hy := Has.new (w.alloc (.cells #[.int .i64 k, .int .i64 m, .string t, .slice Ab nb zb, .slice Aa na za, .int .i64 ck, .string ct, .slice A n c, .int .i64 K, .string cn, .int .i64 cq, .bool cb] 61)) 61 #[.int .i64 k', .int .i64 m', .string t', .slice Ab' nb' zb', .slice Aa' na' za', .int .i64 ck', .string ct', .slice A' n' c', .int .i64 K', .string cn', .int .i64 cq', .bool cb']
 rw [show (w.alloc (.cells #[.int .i64 k, .int .i64 m, .string t, .slice Ab nb zb, .slice Aa na za, .int .i64 ck, .string ct, .slice A n c, .int .i64 K, .string cn, .int .i64 cq, .bool cb] 61)).heap.size = w.heap.size + 1 by simp] at hy
 have HY := Lib.hid hy
 have CB := Lib.hid (fun (W : World) (hb : Below w.heap.size w W) => equalV_any Ab Bl nb zb Ab' Bl' nb' zb' W h1 h1' (by omega) (h3.below hb) (h3'.below hb))
 have CA := Lib.hid (fun (W : World) (hb : Below w.heap.size w W) => equalV_any Aa Al na za Aa' Al' na' za' W h4 h4' (by omega) (h6.below hb) (h6'.below hb))
 have CC := Lib.hid (fun (W : World) (hb : Below w.heap.size w W) => schange_any ck ct A L n c K cn cq cb ck' ct' A' L' n' c' K' cn' cq' cb' W h7 h7' h8 h8' (h9.below hb) (h9'.below hb))
 rw [hqb] at CB
 rw [hqa] at CA
 rw [hqc] at CC
 clear hy h1 h1' h3 h3' h4 h4' h6 h6' h7 h7' h9 h9' hqa hqb hqc
 cases g0 : (k == k')
 ·replace HS := Lib.hid (HS.out.trans (show _ = false by simp [g0]))
  go_enter Tryz.func90, Tryz.ntmps90
  go_wp2_with fail
  go_ret
  exact ⟨by rw [HS.out]; rfl, HB⟩
 ·skip
  cases g1 : (m == m')
  ·replace HS := Lib.hid (HS.out.trans (show _ = false by simp [g0, g1]))
   go_enter Tryz.func90, Tryz.ntmps90
   go_wp2_with fail
   go_ret
   exact ⟨by rw [HS.out]; rfl, HB⟩
  ·skip
   cases g2 : (t.toList == t'.toList)
   ·replace HS := Lib.hid (HS.out.trans (show _ = false by simp [g0, g1, g2]))
    go_enter Tryz.func90, Tryz.ntmps90
    go_wp2_with fail
    go_ret
    exact ⟨by rw [HS.out]; rfl, HB⟩
   ·skip
    replace HS := Lib.hid (HS.out.trans (show _ = (qb && qa && qc) by simp [g0, g1, g2]))
    go_enter Tryz.func90, Tryz.ntmps90
    go_wp2_with fail
    refine (CB.out _ HB.out).mono ?_
    rintro e w1 ⟨rfl, hb1⟩
    have HB0 := Lib.hid (HB.out.trans (hb1.out.mono HB.out.size))
    have HX0 := Lib.hid (HX.out.below hb1.out HX.out.lt)
    have HY0 := Lib.hid (HY.out.below hb1.out HY.out.lt)
    clear hb1 HB HX HY
    have HB := HB0
    have HX := HX0
    have HY := HY0
    clear HB0 HX0 HY0
    have ax4 : w1.cell? ⟨w.heap.size, 4, none⟩ = some (.slice Aa na za) := HX.out.cell 4
    have ax5 : w1.cell? ⟨w.heap.size, 5, none⟩ = some (.int .i64 ck) := HX.out.cell 5
    have ax6 : w1.cell? ⟨w.heap.size, 6, none⟩ = some (.string ct) := HX.out.cell 6
    have ax7 : w1.cell? ⟨w.heap.size, 7, none⟩ = some (.slice A n c) := HX.out.cell 7
    have ax8 : w1.cell? ⟨w.heap.size, 8, none⟩ = some (.int .i64 K) := HX.out.cell 8
    have ax9 : w1.cell? ⟨w.heap.size, 9, none⟩ = some (.string cn) := HX.out.cell 9
    have ax10 : w1.cell? ⟨w.heap.size, 10, none⟩ = some (.int .i64 cq) := HX.out.cell 10
    have ax11 : w1.cell? ⟨w.heap.size, 11, none⟩ = some (.bool cb) := HX.out.cell 11
    have ay4 : w1.cell? ⟨w.heap.size + 1, 4, none⟩ = some (.slice Aa' na' za') := HY.out.cell 4
    have ay5 : w1.cell? ⟨w.heap.size + 1, 5, none⟩ = some (.int .i64 ck') := HY.out.cell 5
    have ay6 : w1.cell? ⟨w.heap.size + 1, 6, none⟩ = some (.string ct') := HY.out.cell 6
    have ay7 : w1.cell? ⟨w.heap.size + 1, 7, none⟩ = some (.slice A' n' c') := HY.out.cell 7
    have ay8 : w1.cell? ⟨w.heap.size + 1, 8, none⟩ = some (.int .i64 K') := HY.out.cell 8
    have ay9 : w1.cell? ⟨w.heap.size + 1, 9, none⟩ = some (.string cn') := HY.out.cell 9
    have ay10 : w1.cell? ⟨w.heap.size + 1, 10, none⟩ = some (.int .i64 cq') := HY.out.cell 10
    have ay11 : w1.cell? ⟨w.heap.size + 1, 11, none⟩ = some (.bool cb') := HY.out.cell 11
    cases qb
    ·go_wp2_with fail
     go_ret
     exact ⟨by rw [HS.out]; rfl, HB⟩
    ·go_wp2_with fail
     refine (CA.out _ HB.out).mono ?_
     rintro e w2 ⟨rfl, hb1⟩
     clear ax4 ax5 ax6 ax7 ax8 ax9 ax10 ax11 ay4 ay5 ay6 ay7 ay8 ay9 ay10 ay11
     have HB0 := Lib.hid (HB.out.trans (hb1.out.mono HB.out.size))
     have HX0 := Lib.hid (HX.out.below hb1.out HX.out.lt)
     have HY0 := Lib.hid (HY.out.below hb1.out HY.out.lt)
     clear hb1 HB HX HY
     have HB := HB0
     have HX := HX0
     have HY := HY0
     clear HB0 HX0 HY0
     have bx5 : w2.cell? ⟨w.heap.size, 5, none⟩ = some (.int .i64 ck) := HX.out.cell 5
     have bx6 : w2.cell? ⟨w.heap.size, 6, none⟩ = some (.string ct) := HX.out.cell 6
     have bx7 : w2.cell? ⟨w.heap.size, 7, none⟩ = some (.slice A n c) := HX.out.cell 7
     have bx8 : w2.cell? ⟨w.heap.size, 8, none⟩ = some (.int .i64 K) := HX.out.cell 8
     have bx9 : w2.cell? ⟨w.heap.size, 9, none⟩ = some (.string cn) := HX.out.cell 9
     have bx10 : w2.cell? ⟨w.heap.size, 10, none⟩ = some (.int .i64 cq) := HX.out.cell 10
     have bx11 : w2.cell? ⟨w.heap.size, 11, none⟩ = some (.bool cb) := HX.out.cell 11
     have by5 : w2.cell? ⟨w.heap.size + 1, 5, none⟩ = some (.int .i64 ck') := HY.out.cell 5
     have by6 : w2.cell? ⟨w.heap.size + 1, 6, none⟩ = some (.string ct') := HY.out.cell 6
     have by7 : w2.cell? ⟨w.heap.size + 1, 7, none⟩ = some (.slice A' n' c') := HY.out.cell 7
     have by8 : w2.cell? ⟨w.heap.size + 1, 8, none⟩ = some (.int .i64 K') := HY.out.cell 8
     have by9 : w2.cell? ⟨w.heap.size + 1, 9, none⟩ = some (.string cn') := HY.out.cell 9
     have by10 : w2.cell? ⟨w.heap.size + 1, 10, none⟩ = some (.int .i64 cq') := HY.out.cell 10
     have by11 : w2.cell? ⟨w.heap.size + 1, 11, none⟩ = some (.bool cb') := HY.out.cell 11
     cases qa
     ·go_wp2_with fail
      go_ret
      exact ⟨by rw [HS.out]; rfl, HB⟩
     ·go_wp2_with fail
      refine (CC.out _ HB.out).mono ?_
      rintro e w3 ⟨rfl, hb1⟩
      clear bx5 bx6 bx7 bx8 bx9 bx10 bx11 by5 by6 by7 by8 by9 by10 by11
      have HB0 := Lib.hid (HB.out.trans (hb1.out.mono HB.out.size))
      have HX0 := Lib.hid (HX.out.below hb1.out HX.out.lt)
      have HY0 := Lib.hid (HY.out.below hb1.out HY.out.lt)
      clear hb1 HB HX HY
      have HB := HB0
      have HX := HX0
      have HY := HY0
      clear HB0 HX0 HY0
      go_wp2_with fail
      go_ret
      exact ⟨by rw [HS.out]; rfl, HB⟩
end Go.Proofs.YtlnbhlgkehenpaaGreatDoor
namespace Go.Proofs.YtlnbhlgkehenpaaGreatDoor
open Go.ChangeShapes Go.WideShapes Go.RowKit Go.Joins Go.Deep Go.Lib
set_option maxRecDepth 100000
theorem cellsI : Tryz.prog.cellsOf 3 = 1 := by kernel_rfl
theorem cellsS : Tryz.prog.cellsOf 9 = 1 := by kernel_rfl
theorem cellsB : Tryz.prog.cellsOf 4 = 1 := by kernel_rfl
theorem cellsL : Tryz.prog.cellsOf 37 = 1 := by kernel_rfl
theorem cellsV : Tryz.prog.cellsOf 115 = 3 := by kernel_rfl
theorem cellsC : Tryz.prog.cellsOf 46 = 3 := by kernel_rfl
theorem cellsH : Tryz.prog.cellsOf 39 = 2 := by kernel_rfl
section
variable {H : Type} {enc : TypeId × Value → H} {w : World} {base : Nat} {spare : Nat → Bool} {held : Bool}
def Lite (t : TypeId) (d : DataW H) : Prop := ∀ n ∈ d.weights Tryz.prog t, n ≤ reachBytes
theorem lite_of {ts : List TypeId} {ds : List (DataW H)} (h : (DataW.weightsEach Tryz.prog ts ds).all (· ≤ reachBytes) = true) {j : Nat} {t : TypeId} {d : DataW H} (ht : ts[j]? = some t) (hd : ds[j]? = some d) : Lite t d := fun n hn => by
 have := List.all_eq_true.1 h n (DataW.weights_mem_each ht hd n hn)
 simpa using this
theorem bounds_int {n : Int} (h : (Lit.int .i64 n).wf = true) : -9223372036854775808 ≤ n ∧ n ≤ 9223372036854775807 := by
 simpa [Lit.wf, IntKind.min, IntKind.max, IntKind.signed, IntKind.bits] using h
theorem bytes_size (s : ByteArray) : s.data.toList.length = s.size := rfl
theorem reach_le {n : Nat} (h : n ≤ reachBytes) : n ≤ 140737488355328 := Nat.le_trans h (Nat.le_of_lt reachBytes_lt)
set_option maxRecDepth 100000 in
theorem val_in {fuel : Nat} {cs : List Value} {x : DataW H × List MemPlace} (h : DataW.trod enc Tryz.prog w base spare held fuel 115 cs = some x) (hl : Lite 115 x.1) :
 ∃ v : Vl, cs = v.cells ∧ v.fits := by
 obtain ⟨xs, n, _, hx, hc, hxl, hf⟩ := DataW.trod_struct Tryz.underlying115 h
 rw [cellsV] at hc
 match cs, hc with
 | [c0, c1, c2], _ =>
   match xs, hxl with
   | [y0, y1, y2], _ =>
     have f0 := hf 0 _ rfl
     have f1 := hf 1 _ rfl
     have f2 := hf 2 _ rfl
     simp [cellsI, cellsS] at f0 f1 f2
     obtain ⟨k, e0, _, hk⟩ := DataW.trod_int Tryz.underlying3 f0
     obtain ⟨m, e1, _, hm⟩ := DataW.trod_int Tryz.underlying3 f1
     obtain ⟨s, e2, ey, _⟩ := DataW.trod_string Tryz.underlying9 f2
     simp at e0 e1 e2
     subst e0 e1 e2
     refine ⟨⟨k, m, s⟩, rfl, ⟨(bounds_int hm).1, (bounds_int hm).2, ?_⟩, (bounds_int hk).1, (bounds_int hk).2⟩
     have := hl s.data.toList.length (by rw [hx]; simp [DataW.weights, Tryz.underlying115, DataW.weightsEach, ey])
     rw [bytes_size] at this
     exact reach_le this
theorem weights_in {e : TypeId} : ∀ {l : List (DataW H)} {d : DataW H}, d ∈ l → ∀ n ∈ d.weights Tryz.prog e, n ∈ DataW.weightsAll Tryz.prog e l
 | d0 :: l, d, h, n, hn => by
   simp only [DataW.weightsAll, List.mem_append]
   rcases List.mem_cons.1 h with rfl | h
   ·exact .inl hn
   ·exact .inr (weights_in h n hn)
set_option maxRecDepth 100000 in
theorem col_in {fuel : Nat} {cs : List Value} {x : DataW H × List MemPlace} (h : DataW.trod enc Tryz.prog w base spare held fuel 46 cs = some x) (hl : Lite 46 x.1) :
 ∃ v : Cl, cs = v.cells ∧ v.fit := by
 obtain ⟨xs, n, _, hx, hc, hxl, hf⟩ := DataW.trod_struct Tryz.underlying46 h
 rw [cellsC] at hc
 match cs, hc with
 | [c0, c1, c2], _ =>
   match xs, hxl with
   | [y0, y1, y2], _ =>
     have f0 := hf 0 _ rfl
     have f1 := hf 1 _ rfl
     have f2 := hf 2 _ rfl
     simp [cellsI, cellsS, cellsB] at f0 f1 f2
     obtain ⟨s, e0, ey, _⟩ := DataW.trod_string Tryz.underlying9 f0
     obtain ⟨k, e1, _, hk⟩ := DataW.trod_int Tryz.underlying3 f1
     obtain ⟨b, e2, _⟩ := DataW.trod_bool Tryz.underlying4 f2
     simp at e0 e1 e2
     subst e0 e1 e2
     refine ⟨⟨s, k, b⟩, rfl, ?_, (bounds_int hk).1, (bounds_int hk).2⟩
     have := hl s.data.toList.length (by rw [hx]; simp [DataW.weights, Tryz.underlying46, DataW.weightsEach, ey])
     rw [bytes_size] at this
     exact reach_le this
theorem cols_in {fuel : Nat} {cs : List Value} {x : DataW H × List MemPlace} (h : DataW.trod enc Tryz.prog w base spare held fuel 37 cs = some x) (hl : Lite 37 x.1) :
 ∃ (A : Option Addr) (len cap : Nat) (L : List Cl), cs = [.slice A len cap] ∧ L.length = len ∧ len ≤ cap ∧ cap ≤ maxLen ∧ CRow w A L ∧ ∀ v ∈ L, v.fit := by
 rcases open_slice Tryz.underlying37 h with ⟨hcs, _⟩ | ⟨a, len, cap, m, n, D, Pl, hcs, _, hlc, hcm, hm, hx, hel⟩
 ·exact ⟨none, 0, 0, [], hcs, rfl, Nat.le_refl _, Nat.zero_le _, fun h => absurd rfl h, fun _ h => by cases h⟩
 ·have hlm : len ≤ m := by rw [hm]; split <;> omega
  have hv : ∀ i, i < len → ∃ v : Cl, v.fit ∧ ∀ j (hj : j < 3), w.cell? (a.add (i * 3 + j)) = v.cells[j]? := by
   intro i hi
   obtain ⟨cs', hc, ht⟩ := hel i (by omega)
   rw [cellsC] at hc
   obtain ⟨_, _, hat⟩ := World.cells?_some hc
   obtain ⟨v, e, hfit⟩ := col_in ht (fun n hn => hl n (by
    rw [hx]
    simp only [DataW.weights, Tryz.underlying37]
    refine List.mem_cons_of_mem _ (List.mem_append_left _ (weights_in (d := D i) ?_ n hn))
    exact List.mem_map.2 ⟨i, List.mem_range.2 hi, rfl⟩))
   refine ⟨v, hfit, fun j hj => ?_⟩
   rw [← Go.Deep.add_add, hat j hj, e]
  have hL : ∃ L : List Cl, L.length = len ∧ (∀ v ∈ L, v.fit) ∧ ∀ i (hi : i < L.length), ∀ j, j < 3 → w.cell? (a.add (i * 3 + j)) = L[i].cells[j]? := by
   clear hx hel hm hlc hlm hcs
   induction len with
   | zero => exact ⟨[], rfl, fun _ h => (by cases h), fun i hi => absurd hi (by simp)⟩
   | succ len ih =>
     obtain ⟨L, h1, h2, h3⟩ := ih (fun i hi => hv i (by omega))
     obtain ⟨v, h4, h5⟩ := hv len (by omega)
     refine ⟨L ++ [v], by simp [h1], fun u hu => ?_, fun i hi j hj => ?_⟩
     ·rcases List.mem_append.1 hu with h | h
      ·exact h2 u h
      ·rw [List.mem_singleton.1 h]; exact h4
     ·by_cases hil : i < L.length
      ·rw [List.getElem_append_left hil]; exact h3 i hil j hj
      ·have e : i = len := by simp at hi; omega
       subst e
       rw [List.getElem_append_right (by omega)]
       simp only [h1, Nat.sub_self, zC]
       exact h5 j hj
  obtain ⟨L, h1, h2, h3⟩ := hL
  refine ⟨some a, len, cap, L, hcs, h1, hlc, hcm, fun hne => ?_, h2⟩
  have h0 : 0 < L.length := List.length_pos_iff.2 hne
  obtain ⟨b, off, ha⟩ : ∃ b off, a = ⟨b, off, none⟩ := by
   have := h3 0 h0 0 (by omega)
   obtain ⟨b, off, spot⟩ := a
   have hspot : spot = none := by simpa [Addr.add] using World.cell?_spot this
   exact ⟨b, off, by rw [hspot]⟩
  subst ha
  refine ⟨b, off, rfl, fun i hi => ?_⟩
  have q0 := h3 i hi 0 (by omega)
  have q1 := h3 i hi 1 (by omega)
  have q2 := h3 i hi 2 (by omega)
  rw [Addr.add_lit] at q0 q1 q2
  exact ⟨q0, q1, q2⟩
set_option maxRecDepth 100000 in
theorem sch_in {fuel : Nat} {cs : List Value} {x : DataW H × List MemPlace} (h : DataW.trod enc Tryz.prog w base spare held fuel 39 cs = some x) (hl : Lite 39 x.1) :
 ∃ (A : Option Addr) (len cap : Nat) (L : List Cl) (K : Int), cs = [.slice A len cap, .int .i64 K] ∧ (L.length = len ∧ len ≤ cap ∧ cap ≤ maxLen ∧ CRow w A L ∧ ∀ v ∈ L, v.fit) ∧ -9223372036854775808 ≤ K ∧ K ≤ 9223372036854775807 := by
 obtain ⟨xs, n, _, hx, hc, hxl, hf⟩ := DataW.trod_struct Tryz.underlying39 h
 rw [cellsH] at hc
 match cs, hc with
 | [c0, c1], _ =>
   match xs, hxl with
   | [y0, y1], _ =>
     have f0 := hf 0 _ rfl
     have f1 := hf 1 _ rfl
     simp [cellsI, cellsL] at f0 f1
     obtain ⟨k, e1, _, hk⟩ := DataW.trod_int Tryz.underlying3 f1
     obtain ⟨A, len, cap, L, e0, hL⟩ := cols_in f0 (fun n hn => hl n (by rw [hx]; simp only [DataW.weights, Tryz.underlying39]; simp [DataW.weightsEach]; exact .inl hn))
     simp at e0 e1
     subst e0 e1
     exact ⟨A, len, cap, L, k, rfl, hL, (bounds_int hk).1, (bounds_int hk).2⟩
end
end Go.Proofs.YtlnbhlgkehenpaaGreatDoor
namespace Go.Proofs.YtlnbhlgkehenpaaGreatDoor
open Go.RowKit Dg
set_option maxHeartbeats 2000000 in
set_option maxRecDepth 100000 in
theorem rzero_any (cn : ByteArray) (cq : Int) (cb : Bool) (w : World) :
 Calls Tryz.prog 96 #[.agg #[.string cn, .int .i64 cq, .bool cb]] w fun e w' => e = .returned (.bool (Cl.eqb ⟨cn, cq, cb⟩ ⟨⟨#[]⟩, 0, false⟩)) ∧ Hid (Below w.heap.size w w') := by
 have HB := Lib.hid ((Below.refl w.heap.size w).alloc (Nat.le_refl _) (.cells #[.string cn, .int .i64 cq, .bool cb] 46))
 have eq := eqC
 go_enter Tryz.func96, Tryz.ntmps96
 go_wp2_with fail
 go_ret
 exact ⟨rfl, HB⟩
def altF (ck : Int) (ct : ByteArray) (L : List Cl) (K : Int) (q : Cl) : Int :=
 if ck = 1 then (if (nameF ct && smayF L K && q.eqb ⟨⟨#[]⟩, 0, false⟩) = true then 0 else 1)
 else if ck = 2 then (if (nameF ct && (K == 0 && L.length == 0) && q.eqb ⟨⟨#[]⟩, 0, false⟩) = true then 0 else 1)
 else if ck = 3 ∨ ck = 5 then (if (nameF ct && (K == 0 && L.length == 0) && nameF q.nm && kindF q.k) = true then 0 else 1)
 else if ck = 4 then (if (nameF ct && (K == 0 && L.length == 0) && nameF q.nm && q.k == 0 && !q.no) = true then 0 else 1)
 else 5
set_option maxHeartbeats 8000000 in
set_option maxRecDepth 100000 in
theorem raltered_any (ck : Int) (ct : ByteArray) (A : Option Addr) (n c : Nat) (L : List Cl) (K : Int) (cn : ByteArray) (cq : Int) (cb : Bool) (w : World) (hn : L.length = n) (hnI : (n : Int) ≤ 9223372036854775807) (hA : CRow w A L) :
 Calls Tryz.prog 63 #[.agg #[.int .i64 ck, .string ct, .slice A n c, .int .i64 K, .string cn, .int .i64 cq, .bool cb]] w fun e w' => e = .returned (.int .i64 (altF ck ct L K ⟨cn, cq, cb⟩)) ∧ Hid (Below w.heap.size w w') := by
 have hb0 := (Below.refl w.heap.size w).alloc (Nat.le_refl _) (.cells #[.int .i64 ck, .string ct, .slice A n c, .int .i64 K, .string cn, .int .i64 cq, .bool cb] 48)
 have HB := Lib.hid hb0
 have HX := Lib.hid (Has.new w 48 #[.int .i64 ck, .string ct, .slice A n c, .int .i64 K, .string cn, .int .i64 cq, .bool cb])
 have HA := Lib.hid hA
 have HN := Lib.hid hn
 clear hb0 hA hn
 obtain ⟨b1, HB1⟩ : ∃ b, Hid (nameF ct = b) := ⟨_, rfl⟩
 obtain ⟨b2, HB2⟩ : ∃ b, Hid (nameF cn = b) := ⟨_, rfl⟩
 obtain ⟨b3, HB3⟩ : ∃ b, Hid (kindF cq = b) := ⟨_, rfl⟩
 obtain ⟨b4, HB4⟩ : ∃ b, Hid ((K == 0 && L.length == 0) = b) := ⟨_, rfl⟩
 obtain ⟨b5, HB5⟩ : ∃ b, Hid (Cl.eqb ⟨cn, cq, cb⟩ ⟨⟨#[]⟩, 0, false⟩ = b) := ⟨_, rfl⟩
 obtain ⟨b6, HB6⟩ : ∃ b, Hid (smayF L K = b) := ⟨_, rfl⟩
 go_enter Tryz.func63, Tryz.ntmps63
 go_wp2_with fail
 refine (refName_any ct _).mono ?_
 rintro e w1 ⟨rfl, rfl⟩
 rw [HB1.out]
 go_wp2_with fail
 refine (refName_any cn _).mono ?_
 rintro e w1 ⟨rfl, rfl⟩
 rw [HB2.out]
 obtain ⟨w1, HW1⟩ : ∃ w1, Hid (w1 = w.alloc (.cells #[.int .i64 ck, .string ct, .slice A n c, .int .i64 K, .string cn, .int .i64 cq, .bool cb] 48)) := ⟨_, rfl⟩
 rw [← HW1.out] at HX HB ⊢
 have x0 : w1.cell? ⟨w.heap.size, 0, none⟩ = some (.int .i64 ck) := HX.out.cell 0
 have x2 : w1.cell? ⟨w.heap.size, 2, none⟩ = some (.slice A n c) := HX.out.cell 2
 have x3 : w1.cell? ⟨w.heap.size, 3, none⟩ = some (.int .i64 K) := HX.out.cell 3
 have x4 : w1.cell? ⟨w.heap.size, 4, none⟩ = some (.string cn) := HX.out.cell 4
 have x5 : w1.cell? ⟨w.heap.size, 5, none⟩ = some (.int .i64 cq) := HX.out.cell 5
 have x6 : w1.cell? ⟨w.heap.size, 6, none⟩ = some (.bool cb) := HX.out.cell 6
 go_upto_region 3 with (fail)
 go_cut [5] from 17 to 26 (fun s5 W => s5 = .bool b3 ∧ W = w1)
 case first =>
  by_cases h1 : 1 ≤ cq
  ·by_cases h4 : cq ≤ 4
   ·have hb : b3 = true := by rw [← HB3.out]; simp [kindF, h1, h4]
    subst hb
    go_wp2_with fail
    go_meet
    case rel => exact ⟨by first | rfl | simp [h4], rfl⟩
   ·have hb : b3 = false := by rw [← HB3.out]; simp [kindF, h1, h4]
    subst hb
    go_wp2_with fail
    go_meet
    case rel => exact ⟨by first | rfl | simp [h4], rfl⟩
  ·have hb : b3 = false := by rw [← HB3.out]; simp [kindF, h1]
   subst hb
   go_wp2_with fail
   go_meet
   case rel => exact ⟨by first | rfl | simp [h1], rfl⟩
 case rest =>
  obtain ⟨rfl, rfl⟩ := hcut
  go_upto_region 4 with (fail)
  go_cut [6] from 27 to 37 (fun s6 W => s6 = .bool b4 ∧ W = wc)
  case first =>
   by_cases hK : K = 0
   ·have hK2 : (K == 0) = true := by rw [hK]; rfl
    by_cases hn0 : n = 0
    ·have hb : b4 = true := by rw [← HB4.out, HN.out, hn0, hK]; rfl
     subst hb
     have hn1 : (n == 0) = true := by rw [hn0]; rfl
     have hn2 : ((n : Int) == 0) = true := by rw [hn0]; rfl
     clear hK hn0
     go_wp2_with fail
     go_meet
     case rel => exact ⟨by first | rfl | simp, rfl⟩
    ·have hb : b4 = false := by rw [← HB4.out, HN.out]; simp [hn0]
     subst hb
     have hn1 : (n == 0) = false := by simpa using hn0
     have hn2 : ((n : Int) == 0) = false := by simp; omega
     clear hK
     go_wp2_with fail
     go_meet
     case rel => exact ⟨by first | rfl | simp, rfl⟩
   ·have hb : b4 = false := by rw [← HB4.out]; simp [hK]
    subst hb
    have hK2 : (K == 0) = false := by simpa using hK
    go_wp2_with fail
    go_meet
    case rel => exact ⟨by first | rfl | simp, rfl⟩
  case rest =>
   obtain ⟨rfl, rfl⟩ := hcut
   go_wp2_with fail
   refine (rzero_any cn cq cb _).mono ?_
   rintro e w2 ⟨rfl, hb2⟩
   rw [HB5.out]
   have HX2 := Lib.hid (HX.out.below hb2.out HX.out.lt)
   have HB2w := Lib.hid (HB.out.trans (hb2.out.mono HB.out.size))
   have HM := Lib.hid (rmay_all A L n c K w2 HN.out (HA.out.below HB2w.out))
   have y0 : w2.cell? ⟨w.heap.size, 0, none⟩ = some (.int .i64 ck) := HX2.out.cell 0
   have y2 : w2.cell? ⟨w.heap.size, 2, none⟩ = some (.slice A n c) := HX2.out.cell 2
   have y3 : w2.cell? ⟨w.heap.size, 3, none⟩ = some (.int .i64 K) := HX2.out.cell 3
   clear hb2 x0 x2 x3 x4 x5 x6 HX HB
   go_wp2_with fail
   refine HM.out.mono ?_
   rintro e w3 ⟨rfl, hb3⟩
   rw [HB6.out]
   have HX3 := Lib.hid (HX2.out.below hb3.out HX2.out.lt)
   have HB3w : Hid (Below w.heap.size w w3) := HB2w.out.trans (hb3.out.mono HB2w.out.size)
   have z0 : w3.cell? ⟨w.heap.size, 0, none⟩ = some (.int .i64 ck) := HX3.out.cell 0
   have z5 : w3.cell? ⟨w.heap.size, 5, none⟩ = some (.int .i64 cq) := HX3.out.cell 5
   have z6 : w3.cell? ⟨w.heap.size, 6, none⟩ = some (.bool cb) := HX3.out.cell 6
   obtain ⟨b7, HB7⟩ : ∃ b, Hid ((cq == 0) = b) := ⟨_, rfl⟩
   have hF : altF ck ct L K ⟨cn, cq, cb⟩ = if ck = 1 then (if (b1 && b6 && b5) = true then 0 else 1) else if ck = 2 then (if (b1 && b4 && b5) = true then 0 else 1) else if ck = 3 ∨ ck = 5 then (if (b1 && b4 && b2 && b3) = true then 0 else 1) else if ck = 4 then (if (b1 && b4 && b2 && b7 && !cb) = true then 0 else 1) else 5 := by
    unfold altF
    rw [HB1.out, HB4.out, HB5.out, HB6.out]
    show (if ck = 1 then _ else if ck = 2 then _ else if ck = 3 ∨ ck = 5 then (if (b1 && b4 && nameF cn && kindF cq) = true then (0 : Int) else 1) else if ck = 4 then (if (b1 && b4 && nameF cn && cq == 0 && !cb) = true then 0 else 1) else 5) = _
    rw [HB2.out, HB3.out, HB7.out]
   clear hb3 HX2 HB2w HM y0 y2 y3 HX3
   by_cases c1 : ck = 1
   ·subst c1
    have HF := Lib.hid hF
    clear hF
    cases b1 <;> cases b6 <;> cases b5 <;> (go_wp2_with fail; go_ret; exact ⟨by rw [HF.out]; rfl, HB3w⟩)
   ·by_cases c2 : ck = 2
    ·subst c2
     have HF := Lib.hid hF
     clear hF c1
     cases b1 <;> cases b4 <;> cases b5 <;> (go_wp2_with fail; go_ret; exact ⟨by rw [HF.out]; rfl, HB3w⟩)
    ·by_cases c3 : ck = 3
     ·subst c3
      have HF := Lib.hid hF
      clear hF c1 c2
      cases b1 <;> cases b4 <;> cases b2 <;> cases b3 <;> (go_wp2_with fail; go_ret; exact ⟨by rw [HF.out]; rfl, HB3w⟩)
     ·by_cases c5 : ck = 5
      ·subst c5
       have HF := Lib.hid hF
       clear hF c1 c2 c3
       cases b1 <;> cases b4 <;> cases b2 <;> cases b3 <;> (go_wp2_with fail; go_ret; exact ⟨by rw [HF.out]; rfl, HB3w⟩)
      ·by_cases c4 : ck = 4
       ·subst c4
        have HF := Lib.hid hF
        clear hF c1 c2 c3 c5
        cases b7 with
        | true =>
          have hc0 : cq = 0 := by simpa using HB7.out
          subst hc0
          cases b1 <;> cases b4 <;> cases b2 <;> cases cb <;> (go_wp2_with fail; go_ret; exact ⟨by rw [HF.out]; rfl, HB3w⟩)
        | false =>
          have hc0 : (cq == 0) = false := HB7.out
          cases b1 <;> cases b4 <;> cases b2 <;> cases cb <;> (go_wp2_with fail; go_ret; exact ⟨by rw [HF.out]; rfl, HB3w⟩)
       ·rw [if_neg c1, if_neg c2, if_neg (by omega), if_neg c4] at hF
        have HF := Lib.hid hF
        have e1 : (ck == 1) = false := by simpa using c1
        have e2 : (ck == 2) = false := by simpa using c2
        have e3 : (ck == 3) = false := by simpa using c3
        have e4 : (ck == 4) = false := by simpa using c4
        have e5 : (ck == 5) = false := by simpa using c5
        clear hF
        go_wp2_with fail
        go_ret
        exact ⟨by rw [HF.out]; rfl, HB3w⟩
def pool6 (i : Nat) : ByteArray := if i = 0 then ⟨#[116]⟩ else if i = 1 then ⟨#[117]⟩ else ⟨#[118]⟩
theorem pool6_name (i : Nat) : nameF (pool6 i) = true := by
 unfold pool6
 split
 ·decide
 ·split <;> decide
def nm6 (s : ByteArray) (i : Nat) : ByteArray := if nameF s = true then s else pool6 i
theorem nm6_name (s : ByteArray) (i : Nat) : nameF (nm6 s i) = true := by
 unfold nm6; split
 ·assumption
 ·exact pool6_name i
def insD (D : List Td) (x : Td) : List Td := if plD D x.nm = true then D else D.take (lbD D x.nm) ++ [x] ++ D.drop (lbD D x.nm)
def g6To (T : List Tb) : Nat → List Td
 | 0 => []
 | k + 1 => match T[k]? with
   | some x => insD (g6To T k) ⟨nm6 x.nm k, gdC x.L x.K, gdK x.L x.K⟩
   | none => g6To T k
theorem g6To_succ (T : List Tb) (k : Nat) (h : k < T.length) : g6To T (k + 1) = insD (g6To T k) ⟨nm6 T[k].nm k, gdC T[k].L T[k].K, gdK T[k].L T[k].K⟩ := by
 show (match T[k]? with | some x => _ | none => _) = _
 rw [List.getElem?_eq_getElem h]
structure GoodD (D : List Td) : Prop where
 sort : SortD D
 ok : ∀ x ∈ D, nameF x.nm = true ∧ ∃ k : Nat, x.K = (k : Int) ∧ GoodS x.L k
theorem goodD_nil : GoodD [] := ⟨List.Pairwise.nil, fun _ h => by cases h⟩
theorem goodD_put {D : List Td} (h : GoodD D) {x : Td} (hp : plD D x.nm = false) (hx : nameF x.nm = true ∧ ∃ k : Nat, x.K = (k : Int) ∧ GoodS x.L k) : GoodD (D.take (lbD D x.nm) ++ [x] ++ D.drop (lbD D x.nm)) := by
 refine ⟨sortD_ins h.sort hp, fun y hy => ?_⟩
 rw [List.append_assoc, List.mem_append] at hy
 rcases hy with hy | hy
 ·exact h.ok y (List.mem_of_mem_take hy)
 ·rw [List.singleton_append, List.mem_cons] at hy
  rcases hy with rfl | hy
  ·exact hx
  ·exact h.ok y (List.mem_of_mem_drop hy)
theorem goodD_ins {D : List Td} (h : GoodD D) {x : Td} (hx : nameF x.nm = true ∧ ∃ k : Nat, x.K = (k : Int) ∧ GoodS x.L k) : GoodD (insD D x) := by
 unfold insD; split
 ·exact h
 ·next hp => exact goodD_put h (by simpa using hp) hx
theorem insD_len (D : List Td) (x : Td) : (insD D x).length ≤ D.length + 1 := by
 unfold insD; split
 ·omega
 ·simp; omega
theorem g6_good (T : List Tb) : ∀ k, GoodD (g6To T k) ∧ (g6To T k).length ≤ k
 | 0 => ⟨goodD_nil, by simp [g6To]⟩
 | k + 1 => by
   obtain ⟨h1, h2⟩ := g6_good T k
   by_cases hk : k < T.length
   ·rw [g6To_succ T k hk]
    refine ⟨goodD_ins h1 ⟨nm6_name _ _, _, rfl, goodS_is _ _⟩, ?_⟩
    have := insD_len (g6To T k) ⟨nm6 T[k].nm k, gdC T[k].L T[k].K, gdK T[k].L T[k].K⟩
    omega
   ·have e : g6To T (k + 1) = g6To T k := by
     show (match T[k]? with | some x => _ | none => _) = _
     rw [List.getElem?_eq_none (by omega)]
    rw [e]; exact ⟨h1, by omega⟩
theorem goodT_sort {T : List Tb} (h : GoodD (tds T)) : SortT T := (sort_d T).2 h.sort
end Go.Proofs.YtlnbhlgkehenpaaGreatDoor
namespace Go.Proofs.YtlnbhlgkehenpaaGreatDoor
open Go.ChangeShapes Go.WideShapes Go.RowKit Go.Joins Go.Deep Go.Lib
set_option maxRecDepth 100000
theorem cellsG : Tryz.prog.cellsOf 48 = 7 := by kernel_rfl
section
variable {H : Type} {enc : TypeId × Value → H} {w : World} {base : Nat} {spare : Nat → Bool} {held : Bool}
end
end Go.Proofs.YtlnbhlgkehenpaaGreatDoor
namespace Go.Proofs.YtlnbhlgkehenpaaGreatDoor
open Go.ChangeShapes Go.WideShapes Go.RowKit Go.Joins Go.Deep Go.Lib
set_option maxRecDepth 100000
theorem cellsE : Tryz.prog.cellsOf 61 = 12 := by kernel_rfl
theorem cellsR : Tryz.prog.cellsOf 50 = 1 := by kernel_rfl
section
variable {H : Type} {enc : TypeId × Value → H} {w : World} {base : Nat} {spare : Nat → Bool} {held : Bool}
theorem rvals_in {fuel : Nat} {cs : List Value} {x : DataW H × List MemPlace} (h : DataW.trod enc Tryz.prog w base spare held fuel 50 cs = some x) (hl : Lite 50 x.1) :
 ∃ (A : Option Addr) (len cap : Nat) (L : List Vl), cs = [.slice A len cap] ∧ L.length = len ∧ len ≤ cap ∧ cap ≤ maxLen ∧ VRow w A L ∧ ∀ v ∈ L, v.fits := by
 rcases open_slice Tryz.underlying50 h with ⟨hcs, _⟩ | ⟨a, len, cap, m, n, D, Pl, hcs, _, hlc, hcm, hm, hx, hel⟩
 ·exact ⟨none, 0, 0, [], hcs, rfl, Nat.le_refl _, Nat.zero_le _, fun h => absurd rfl h, fun _ h => by cases h⟩
 ·have hlm : len ≤ m := by rw [hm]; split <;> omega
  have hv : ∀ i, i < len → ∃ v : Vl, v.fits ∧ ∀ j (hj : j < 3), w.cell? (a.add (i * 3 + j)) = v.cells[j]? := by
   intro i hi
   obtain ⟨cs', hc, ht⟩ := hel i (by omega)
   rw [cellsV] at hc
   obtain ⟨_, _, hat⟩ := World.cells?_some hc
   obtain ⟨v, e, hfit⟩ := val_in ht (fun n hn => hl n (by
    rw [hx]
    simp only [DataW.weights, Tryz.underlying50]
    refine List.mem_cons_of_mem _ (List.mem_append_left _ (weights_in (d := D i) ?_ n hn))
    exact List.mem_map.2 ⟨i, List.mem_range.2 hi, rfl⟩))
   refine ⟨v, hfit, fun j hj => ?_⟩
   rw [← Go.Deep.add_add, hat j hj, e]
  have hL : ∃ L : List Vl, L.length = len ∧ (∀ v ∈ L, v.fits) ∧ ∀ i (hi : i < L.length), ∀ j, j < 3 → w.cell? (a.add (i * 3 + j)) = L[i].cells[j]? := by
   clear hx hel hm hlc hlm hcs
   induction len with
   | zero => exact ⟨[], rfl, fun _ h => (by cases h), fun i hi => absurd hi (by simp)⟩
   | succ len ih =>
     obtain ⟨L, h1, h2, h3⟩ := ih (fun i hi => hv i (by omega))
     obtain ⟨v, h4, h5⟩ := hv len (by omega)
     refine ⟨L ++ [v], by simp [h1], fun u hu => ?_, fun i hi j hj => ?_⟩
     ·rcases List.mem_append.1 hu with h | h
      ·exact h2 u h
      ·rw [List.mem_singleton.1 h]; exact h4
     ·by_cases hil : i < L.length
      ·rw [List.getElem_append_left hil]; exact h3 i hil j hj
      ·have e : i = len := by simp at hi; omega
       subst e
       rw [List.getElem_append_right (by omega)]
       simp only [h1, Nat.sub_self, zC]
       exact h5 j hj
  obtain ⟨L, h1, h2, h3⟩ := hL
  refine ⟨some a, len, cap, L, hcs, h1, hlc, hcm, fun hne => ?_, h2⟩
  have h0 : 0 < L.length := List.length_pos_iff.2 hne
  obtain ⟨b, off, ha⟩ : ∃ b off, a = ⟨b, off, none⟩ := by
   have := h3 0 h0 0 (by omega)
   obtain ⟨b, off, spot⟩ := a
   have hspot : spot = none := by simpa [Addr.add] using World.cell?_spot this
   exact ⟨b, off, by rw [hspot]⟩
  subst ha
  refine ⟨b, off, rfl, fun i hi => ?_⟩
  have q0 := h3 i hi 0 (by omega)
  have q1 := h3 i hi 1 (by omega)
  have q2 := h3 i hi 2 (by omega)
  rw [Addr.add_lit] at q0 q1 q2
  exact ⟨q0, q1, q2⟩

set_option maxRecDepth 100000 in
theorem chgS_in {fuel : Nat} {cs : List Value} {x : DataW H × List MemPlace} (h : DataW.trod enc Tryz.prog w base spare held fuel 48 cs = some x) (hl : Lite 48 x.1) :
 ∃ (ck : Int) (tn : ByteArray) (A : Option Addr) (len cap : Nat) (L : List Cl) (K : Int) (cl : Cl), cs = [.int .i64 ck, .string tn, .slice A len cap, .int .i64 K, .string cl.nm, .int .i64 cl.k, .bool cl.no] ∧ (L.length = len ∧ len ≤ cap ∧ cap ≤ maxLen ∧ CRow w A L ∧ ∀ v ∈ L, v.fit) ∧ cl.fit ∧ tn.size ≤ 140737488355328 := by
 obtain ⟨xs, n, _, hx, hc, hxl, hf⟩ := DataW.trod_struct Tryz.underlying48 h
 rw [cellsG] at hc
 match cs, hc with
 | [c0, c1, c2, c3, c4, c5, c6], _ =>
   match xs, hxl with
   | [y0, y1, y2, y3], _ =>
     have f0 := hf 0 _ rfl
     have f1 := hf 1 _ rfl
     have f2 := hf 2 _ rfl
     have f3 := hf 3 _ rfl
     simp [cellsI, cellsS, cellsH, cellsC] at f0 f1 f2 f3
     obtain ⟨ck, e0, _, _⟩ := DataW.trod_int Tryz.underlying3 f0
     obtain ⟨tn, e1, ey, _⟩ := DataW.trod_string Tryz.underlying9 f1
     have hsz := hl tn.data.toList.length (by rw [hx]; simp [DataW.weights, Tryz.underlying48, DataW.weightsEach, ey])
     rw [bytes_size] at hsz
     obtain ⟨A, len, cap, L, K, e2, hL, _, _⟩ := sch_in f2 (fun n hn => hl n (by rw [hx]; simp only [DataW.weights, Tryz.underlying48]; simp [DataW.weightsEach]; exact .inr (.inr (.inl hn))))
     obtain ⟨cl, e3, hcl⟩ := col_in f3 (fun n hn => hl n (by rw [hx]; simp only [DataW.weights, Tryz.underlying48]; simp [DataW.weightsEach]; exact .inr (.inr (.inr hn))))
     simp [Cl.cells] at e0 e1 e2 e3
     obtain ⟨e2, e22⟩ := e2
     obtain ⟨e3, e32, e33⟩ := e3
     subst e0 e1 e2 e22 e3 e32 e33
     exact ⟨ck, tn, A, len, cap, L, K, cl, rfl, hL, hcl, reach_le hsz⟩
def RowIn (w : World) (A : Option Addr) (n c : Nat) (L : List Vl) : Prop := L.length = n ∧ n ≤ c ∧ c ≤ maxLen ∧ VRow w A L ∧ ∀ v ∈ L, v.fits
set_option maxHeartbeats 1000000 in
theorem evt_in {fuel : Nat} {cs : List Value} {x : DataW H × List MemPlace} (h : DataW.trod enc Tryz.prog w base spare held fuel 61 cs = some x) (hl : Lite 61 x.1) :
 ∃ (ek en : Int) (et : ByteArray) (Ab : Option Addr) (nb cb : Nat) (Lb : List Vl) (Aa : Option Addr) (na ca : Nat) (La : List Vl) (ck : Int) (tn : ByteArray) (A : Option Addr) (len cap : Nat) (L : List Cl) (K : Int) (cl : Cl), cs = [.int .i64 ek, .int .i64 en, .string et, .slice Ab nb cb, .slice Aa na ca, .int .i64 ck, .string tn, .slice A len cap, .int .i64 K, .string cl.nm, .int .i64 cl.k, .bool cl.no] ∧ (-9223372036854775808 ≤ ek ∧ ek ≤ 9223372036854775807) ∧ (-9223372036854775808 ≤ en ∧ en ≤ 9223372036854775807) ∧ RowIn w Ab nb cb Lb ∧ RowIn w Aa na ca La ∧ (L.length = len ∧ len ≤ cap ∧ cap ≤ maxLen ∧ CRow w A L ∧ ∀ v ∈ L, v.fit) ∧ (cl.fit ∧ tn.size ≤ 140737488355328) ∧ et.size ≤ 140737488355328 := by
 obtain ⟨xs, n, _, hx, hc, hxl, hf⟩ := DataW.trod_struct Tryz.underlying61 h
 rw [cellsE] at hc
 match cs, hc with
 | [c0, c1, c2, c3, c4, c5, c6, c7, c8, c9, c10, c11], _ =>
   match xs, hxl with
   | [y0, y1, y2, y3, y4, y5], _ =>
     have f0 := hf 0 _ rfl
     have f1 := hf 1 _ rfl
     have f2 := hf 2 _ rfl
     have f3 := hf 3 _ rfl
     have f4 := hf 4 _ rfl
     have f5 := hf 5 _ rfl
     simp [cellsI, cellsS, cellsR, cellsG] at f0 f1 f2 f3 f4 f5
     obtain ⟨ek, e0, _, hek⟩ := DataW.trod_int Tryz.underlying3 f0
     obtain ⟨en, e1, _, hen⟩ := DataW.trod_int Tryz.underlying3 f1
     obtain ⟨et, e2, ey, _⟩ := DataW.trod_string Tryz.underlying9 f2
     have hsz := hl et.data.toList.length (by rw [hx]; simp [DataW.weights, Tryz.underlying61, DataW.weightsEach, ey])
     rw [bytes_size] at hsz
     obtain ⟨Ab, nb, cb, Lb, e3, hB⟩ := rvals_in f3 (fun n hn => hl n (by rw [hx]; simp only [DataW.weights, Tryz.underlying61]; simp [DataW.weightsEach]; exact .inr (.inr (.inr (.inl hn)))))
     obtain ⟨Aa, na, ca, La, e4, hA⟩ := rvals_in f4 (fun n hn => hl n (by rw [hx]; simp only [DataW.weights, Tryz.underlying61]; simp [DataW.weightsEach]; exact .inr (.inr (.inr (.inr (.inl hn))))))
     obtain ⟨ck, tn, A, len, cap, L, K, cl, e5, hL, hcl⟩ := chgS_in f5 (fun n hn => hl n (by rw [hx]; simp only [DataW.weights, Tryz.underlying61]; simp [DataW.weightsEach]; exact .inr (.inr (.inr (.inr (.inr hn))))))
     simp at e0 e1 e2 e3 e4 e5
     obtain ⟨e5, e6, e7, e8, e9, e10, e11⟩ := e5
     subst e0 e1 e2 e3 e4 e5 e6 e7 e8 e9 e10 e11
     exact ⟨ek, en, et, Ab, nb, cb, Lb, Aa, na, ca, La, ck, tn, A, len, cap, L, K, cl, rfl, bounds_int hek, bounds_int hen, hB, hA, hL, hcl, reach_le hsz⟩
end
end Go.Proofs.YtlnbhlgkehenpaaGreatDoor
namespace Go.Proofs.YtlnbhlgkehenpaaGreatDoor
open Go.ChangeShapes Go.WideShapes Go.RowKit Go.Joins Go.Deep Go.Lib
set_option maxRecDepth 100000
theorem cellsT : Tryz.prog.cellsOf 41 = 3 := by kernel_rfl
def Tb.cells (x : Tb) : List Value := [.string x.nm, .slice x.A x.n x.c, .int .i64 x.K]
section
variable {H : Type} {enc : TypeId × Value → H} {w : World} {base : Nat} {spare : Nat → Bool} {held : Bool}
def TbIn (w : World) (x : Tb) : Prop := (x.L.length = x.n ∧ x.n ≤ x.c ∧ x.c ≤ maxLen ∧ CRow w x.A x.L) ∧ (∀ y ∈ x.L, y.fit) ∧ x.nm.size ≤ 140737488355328 ∧ -9223372036854775808 ≤ x.K ∧ x.K ≤ 9223372036854775807
theorem tab_in {fuel : Nat} {cs : List Value} {x : DataW H × List MemPlace} (h : DataW.trod enc Tryz.prog w base spare held fuel 41 cs = some x) (hl : Lite 41 x.1) :
 ∃ v : Tb, cs = v.cells ∧ TbIn w v := by
 obtain ⟨xs, n, _, hx, hc, hxl, hf⟩ := DataW.trod_struct Tryz.underlying41 h
 rw [cellsT] at hc
 match cs, hc with
 | [c0, c1, c2], _ =>
   match xs, hxl with
   | [y0, y1], _ =>
     have f0 := hf 0 _ rfl
     have f1 := hf 1 _ rfl
     simp [cellsS, cellsH] at f0 f1
     obtain ⟨s, e0, ey, _⟩ := DataW.trod_string Tryz.underlying9 f0
     have hsz := hl s.data.toList.length (by rw [hx]; simp [DataW.weights, Tryz.underlying41, DataW.weightsEach, ey])
     rw [bytes_size] at hsz
     obtain ⟨A, len, cap, L, K, e1, hL, hk1, hk2⟩ := sch_in f1 (fun n hn => hl n (by rw [hx]; simp only [DataW.weights, Tryz.underlying41]; simp [DataW.weightsEach]; exact .inr hn))
     simp at e0 e1
     obtain ⟨e1, e2⟩ := e1
     subst e0 e1 e2
     exact ⟨⟨s, A, len, cap, L, K⟩, rfl, ⟨hL.1, hL.2.1, hL.2.2.1, hL.2.2.2.1⟩, hL.2.2.2.2, reach_le hsz, hk1, hk2⟩
theorem tabs_in {fuel : Nat} {cs : List Value} {x : DataW H × List MemPlace} (h : DataW.trod enc Tryz.prog w base spare held fuel 22 cs = some x) (hl : Lite 22 x.1) :
 ∃ (A : Option Addr) (len cap : Nat) (L : List Tb), cs = [.slice A len cap] ∧ L.length = len ∧ len ≤ cap ∧ cap ≤ maxLen ∧ TRow w A L ∧ ∀ v ∈ L, TbIn w v := by
 rcases open_slice Tryz.underlying22 h with ⟨hcs, _⟩ | ⟨a, len, cap, m, n, D, Pl, hcs, _, hlc, hcm, hm, hx, hel⟩
 ·exact ⟨none, 0, 0, [], hcs, rfl, Nat.le_refl _, Nat.zero_le _, fun h => absurd rfl h, fun _ h => by cases h⟩
 ·have hlm : len ≤ m := by rw [hm]; split <;> omega
  have hv : ∀ i, i < len → ∃ v : Tb, TbIn w v ∧ ∀ j (hj : j < 3), w.cell? (a.add (i * 3 + j)) = v.cells[j]? := by
   intro i hi
   obtain ⟨cs', hc, ht⟩ := hel i (by omega)
   rw [cellsT] at hc
   obtain ⟨_, _, hat⟩ := World.cells?_some hc
   obtain ⟨v, e, hfit⟩ := tab_in ht (fun n hn => hl n (by
    rw [hx]
    simp only [DataW.weights, Tryz.underlying22]
    refine List.mem_cons_of_mem _ (List.mem_append_left _ (weights_in (d := D i) ?_ n hn))
    exact List.mem_map.2 ⟨i, List.mem_range.2 hi, rfl⟩))
   refine ⟨v, hfit, fun j hj => ?_⟩
   rw [← Go.Deep.add_add, hat j hj, e]
  have hL : ∃ L : List Tb, L.length = len ∧ (∀ v ∈ L, TbIn w v) ∧ ∀ i (hi : i < L.length), ∀ j, j < 3 → w.cell? (a.add (i * 3 + j)) = L[i].cells[j]? := by
   clear hx hel hm hlc hlm hcs
   induction len with
   | zero => exact ⟨[], rfl, fun _ h => (by cases h), fun i hi => absurd hi (by simp)⟩
   | succ len ih =>
     obtain ⟨L, h1, h2, h3⟩ := ih (fun i hi => hv i (by omega))
     obtain ⟨v, h4, h5⟩ := hv len (by omega)
     refine ⟨L ++ [v], by simp [h1], fun u hu => ?_, fun i hi j hj => ?_⟩
     ·rcases List.mem_append.1 hu with h | h
      ·exact h2 u h
      ·rw [List.mem_singleton.1 h]; exact h4
     ·by_cases hil : i < L.length
      ·rw [List.getElem_append_left hil]; exact h3 i hil j hj
      ·have e : i = len := by simp at hi; omega
       subst e
       rw [List.getElem_append_right (by omega)]
       simp only [h1, Nat.sub_self, zC]
       exact h5 j hj
  obtain ⟨L, h1, h2, h3⟩ := hL
  refine ⟨some a, len, cap, L, hcs, h1, hlc, hcm, fun hne => ?_, h2⟩
  have h0 : 0 < L.length := List.length_pos_iff.2 hne
  obtain ⟨b, off, ha⟩ : ∃ b off, a = ⟨b, off, none⟩ := by
   have := h3 0 h0 0 (by omega)
   obtain ⟨b, off, spot⟩ := a
   have hspot : spot = none := by simpa [Addr.add] using World.cell?_spot this
   exact ⟨b, off, by rw [hspot]⟩
  subst ha
  refine ⟨b, off, rfl, fun i hi => ?_⟩
  have q0 := h3 i hi 0 (by omega)
  have q1 := h3 i hi 1 (by omega)
  have q2 := h3 i hi 2 (by omega)
  rw [Addr.add_lit] at q0 q1 q2
  exact ⟨q0, q1, q2⟩
theorem tables_in {r : Reach} {b0 : Nat} {v : Value} {d : DataW H} {p : List MemPlace} (hv : Value.okWide Tryz.prog w r b0 22 v) (h : DataW.Trod enc Tryz.prog w base spare held 22 v d p) (hl : Lite 22 d) :
 ∃ (A : Option Addr) (len cap : Nat) (L : List Tb), v = .slice A len cap ∧ L.length = len ∧ len ≤ cap ∧ cap ≤ maxLen ∧ TRow w A L ∧ ∀ v ∈ L, TbIn w v := by
 obtain ⟨a, l, c, rfl⟩ := okWide_slice Tryz.underlying22 hv
 obtain ⟨fuel, hf⟩ := h
 obtain ⟨A, len, cap, L, hcs, h⟩ := tabs_in hf hl
 simp [Value.cells] at hcs
 obtain ⟨rfl, rfl, rfl⟩ := hcs
 exact ⟨_, _, _, L, rfl, h⟩
end
end Go.Proofs.YtlnbhlgkehenpaaGreatDoor
namespace Go.Proofs.YtlnbhlgkehenpaaGreatDoor
open Go.RowKit Dg
set_option maxRecDepth 100000
theorem OwnV.far {B : Nat} {w : World} {v : Value} {L : List Vl} (h : OwnV B w v L) {p : Addr} (hp : p.block < B) (u : Value) : OwnV B (w.setCell p u) v L := by
 rcases h.2 with ⟨hv, hn⟩ | ⟨g, cap, cur, hv, hg, hh, hc, hcm, hsz, ht⟩
 ·exact ⟨h.1, .inl ⟨hv, hn⟩⟩
 ·exact ⟨h.1, .inr ⟨g, cap, cur, hv, hg, Has.far (t := 115) (cs := cur) hh (by omega) u, hc, hcm, hsz, ht⟩⟩
theorem VRow.drop {w : World} {b off : Nat} {L : List Vl} (h : VRow w (some ⟨b, off, none⟩) L) (k : Nat) : VRow w (some ⟨b, off + k * 3, none⟩) (L.drop k) := fun hl => by
 obtain ⟨b', off', e, hc⟩ := h (by rintro rfl; simp at hl)
 injection e with e
 injection e with e1 e2
 subst e1 e2
 refine ⟨b, off + k * 3, rfl, fun i hi => ?_⟩
 rw [List.length_drop] at hi
 obtain ⟨h0, h1, h2⟩ := hc (k + i) (by omega)
 rw [List.getElem_drop]
 have e : off + (k + i) * 3 = off + k * 3 + i * 3 := by omega
 rw [e] at h0 h1 h2
 exact ⟨h0, h1, h2⟩
theorem VRow.take {w : World} {A : Option Addr} {L : List Vl} (h : VRow w A L) (k : Nat) : VRow w A (L.take k) := fun hl => by
 obtain ⟨b, off, e, hc⟩ := h (by rintro rfl; simp at hl)
 refine ⟨b, off, e, fun i hi => ?_⟩
 rw [List.length_take] at hi
 rw [List.getElem_take]
 exact hc i (by omega)
theorem VRow.one (w : World) (x : Vl) : VRow (w.alloc (.cells #[.int .i64 x.k, .int .i64 x.n, .string x.s] 115)) (some ⟨w.heap.size, 0, none⟩) [x] := fun _ => ⟨w.heap.size, 0, rfl, fun i hi => by
 have hh := Has.new w 115 #[.int .i64 x.k, .int .i64 x.n, .string x.s]
 obtain rfl : i = 0 := by simpa using hi
 exact ⟨hh.cell 0, hh.cell 1, hh.cell 2⟩⟩
theorem OwnV.drew {B : Nat} {w : World} {v : Value} {L : List Vl} (h : OwnV B w v L) : OwnV B w.drew v L := h.below ((Below.refl _ w).drew)
set_option maxHeartbeats 8000000 in
set_option maxRecDepth 100000 in
theorem fits_any (A : Option Addr) (M : List Cl) (n c : Nat) (K : Int) (Ar : Option Addr) (R : List Vl) (nr cr : Nat) (w : World) (hn : M.length = n) (_hl : n ≤ 900) (hA : CRow w A M) (hnr : R.length = nr) (hR : VRow w Ar R) (hf : ∀ x ∈ R, x.fit) (hTb : Tabs w) :
 Calls Tryz.prog 92 #[.agg #[.slice A n c, .int .i64 K], .slice Ar nr cr] w fun e w' => e = .returned (.bool (fitsF M R)) ∧ Hid (Below w.heap.size w w') := by
 have HN := Lib.hid hn
 have HA := Lib.hid hA
 have HNR := Lib.hid hnr
 have HR := Lib.hid hR
 have HF := Lib.hid hf
 have HTB := Lib.hid hTb
 have HB0 := Lib.hid ((Below.refl w.heap.size w).alloc (Nat.le_refl _) (.cells #[.slice A n c, .int .i64 K] 39))
 clear hn hA hnr hR hf hTb
 by_cases hnn : nr = n
 ·subst hnn
  have HC : Hid (fitsF M R = fitsTo M R nr) := by show _ = _; unfold fitsF; rw [HN.out, HNR.out]; simp
  go_enter Tryz.func92, Tryz.ntmps92
  go_wp2_with fail
  go_loopw [17] (fun i wr => ∃ k : Nat, k ≤ nr ∧ i = .int .i64 k ∧ Hid (fitsTo M R k = true) ∧ Hid (Below w.heap.size w wr)) (fun i _ => nr - (intOf i).toNat)
  case atStart => exact ⟨0, by omega, rfl, rfl, HB0.out⟩
  case round =>
   obtain ⟨k, hk, rfl, HT, HB⟩ := hrel
   by_cases hlt : k < nr
   ·have hkl : k < M.length := by rw [HN.out]; exact hlt
    have hkr : k < R.length := by rw [HNR.out]; exact hlt
    obtain ⟨b, off, rfl, hc⟩ := (HA.out.below HB.out) (by intro e; rw [e] at hkl; simp at hkl)
    obtain ⟨b', off', rfl, hc'⟩ := (HR.out.below HB.out) (by intro e; rw [e] at hkr; simp at hkr)
    obtain ⟨c0, c1, c2⟩ := hc k hkl
    obtain ⟨d0, d1, d2⟩ := hc' k hkr
    have hfit := (HF.out R[k] (List.getElem_mem hkr)).2.2
    have HSU := Lib.hid (fitsTo_succ M R k hkl hkr)
    have HFA := Lib.hid (fitsTo_false M R k nr hlt hkl hkr)
    clear hc hc'
    generalize M[k] = x at *
    generalize R[k] = y at *
    obtain ⟨xa, xb, xc⟩ := x
    obtain ⟨yk, yn, ys⟩ := y
    simp only at c0 c1 c2 d0 d1 d2 hfit
    have hsz : ys.size ≤ 9223372036854775807 := by omega
    have HMY := Lib.hid (fun W h => may_any yk yn ys W hsz h)
    have HST : Hid (standsF ⟨xa, xb, xc⟩ ⟨yk, yn, ys⟩ = (mayF yk yn ys && (yk == xb || (yk == 0 && xc)))) := rfl
    have hkz : (k : Int) < (nr : Int) := by omega
    have hk0 : (0 : Int) ≤ (k : Int) := by omega
    have hBW : Hid (Below wr.heap.size wr (wr.alloc (.cells #[.string xa, .int .i64 xb, .bool xc] 46))) := (Below.refl _ wr).alloc (Nat.le_refl _) _
    have HBU := Lib.hid (HB.out.trans (hBW.out.mono HB.out.size))
    have hBD := Lib.hid (HBU.out.drew)
    have e0 := keepC hBW.out d0
    have e1 := keepC hBW.out d1
    have e2 := keepC hBW.out d2
    have g0 : (wr.alloc (.cells #[.string xa, .int .i64 xb, .bool xc] 46)).cell? ⟨wr.heap.size, 0, none⟩ = some (.string xa) := (Has.new wr 46 #[.string xa, .int .i64 xb, .bool xc]).cell 0
    have g1 : (wr.alloc (.cells #[.string xa, .int .i64 xb, .bool xc] 46)).cell? ⟨wr.heap.size, 1, none⟩ = some (.int .i64 xb) := (Has.new wr 46 #[.string xa, .int .i64 xb, .bool xc]).cell 1
    clear d0 d1 d2
    have hnone : (xc = true ∧ yk = 0) ∨ (xc = true ∧ yk ≠ 0 ∧ yk = xb) ∨ (xc = true ∧ yk ≠ 0 ∧ yk ≠ xb) ∨ (xc = false ∧ yk = xb) ∨ (xc = false ∧ yk ≠ xb) := by
     cases xc
     ·by_cases h1 : yk = xb
      ·exact .inr (.inr (.inr (.inl ⟨rfl, h1⟩)))
      ·exact .inr (.inr (.inr (.inr ⟨rfl, h1⟩)))
     ·by_cases h0 : yk = 0
      ·exact .inl ⟨rfl, h0⟩
      ·by_cases h1 : yk = xb
       ·exact .inr (.inl ⟨rfl, h0, h1⟩)
       ·exact .inr (.inr (.inl ⟨rfl, h0, h1⟩))
    rcases hnone with ⟨rfl, rfl⟩ | ⟨rfl, h0, rfl⟩ | ⟨rfl, h0, h1⟩ | ⟨rfl, rfl⟩ | ⟨rfl, h1⟩
    ·generalize hqq : mayF 0 yn ys = q at *
     clear hqq
     cases q
     ·go_wp2_with fail
      obtain ⟨W9, hW9⟩ : ∃ W9, W9 = (wr.alloc (.cells #[.string xa, .int .i64 xb, .bool true] 46)) := ⟨_, rfl⟩
      rw [← hW9] at HBU hBD e0 e1 e2 g1 ⊢
      clear hW9 g0
      have hS0 : (fun W => Hid (Below w.heap.size w W) ∧ W.cell? ⟨wr.heap.size, 1, none⟩ = some (.int .i64 xb) ∧ W.cell? ⟨b', off' + k * 3, none⟩ = some (.int .i64 0) ∧ W.cell? ⟨b', off' + k * 3 + 1, none⟩ = some (.int .i64 yn) ∧ W.cell? ⟨b', off' + k * 3 + 2, none⟩ = some (.string ys)) W9.drew := by
       refine ⟨hBD, ?_⟩
       go_keep
      refine wp_region_held_drew (S := (fun W => Hid (Below w.heap.size w W) ∧ W.cell? ⟨wr.heap.size, 1, none⟩ = some (.int .i64 xb) ∧ W.cell? ⟨b', off' + k * 3, none⟩ = some (.int .i64 0) ∧ W.cell? ⟨b', off' + k * 3 + 1, none⟩ = some (.int .i64 yn) ∧ W.cell? ⟨b', off' + k * 3 + 2, none⟩ = some (.string ys))) (by kernel_rfl) hS0 (fun _ => ?_)
      (refine wpAnyH_take (i := 0) (v := ?_) rfl (by kernel_rfl) (by kernel_rfl) (by kernel_rfl) (fun _ _ _ h => h) (Or.inl ⟨by rfl, ?_⟩) (by assumption) ?_; rotate_left; (intro w hSw; (try dsimp only at hSw); go_simp; try with_reducible rfl); ((try simp only [zA, zB, zC, Act.put, zD, zE, zF])))
      (refine wpAnyH_take (i := 1) (v := ?_) rfl (by kernel_rfl) (by kernel_rfl) (by kernel_rfl) (fun _ _ _ h => h) (Or.inl ⟨by rfl, ?_⟩) (by assumption) ?_; rotate_left; (intro w hSw; (try dsimp only at hSw); go_simp; try with_reducible rfl); ((try simp only [zA, zB, zC, Act.put, zD, zE, zF])))
      (refine wpAnyH_take (i := 2) (v := ?_) rfl (by kernel_rfl) (by kernel_rfl) (by kernel_rfl) (fun _ _ _ h => h) (Or.inl ⟨by rfl, ?_⟩) (by assumption) ?_; rotate_left; (intro w hSw; (try dsimp only at hSw); go_simp; try with_reducible rfl); ((try simp only [zA, zB, zC, Act.put, zD, zE, zF])))
      (refine wpAnyH_take (i := 3) (v := undef) rfl (by kernel_rfl) (by kernel_rfl) (by kernel_rfl) (fun _ _ _ h => h) (Or.inr ⟨by rfl, rfl⟩) (by assumption) ?_; ((try simp only [zA, zB, zC, Act.put, zD, zE, zF])))
      (refine wpAnyH_take (i := 4) (v := undef) rfl (by kernel_rfl) (by kernel_rfl) (by kernel_rfl) (fun _ _ _ h => h) (Or.inr ⟨by rfl, rfl⟩) (by assumption) ?_; ((try simp only [zA, zB, zC, Act.put, zD, zE, zF])))
      (refine wpAnyH_take (i := 5) (v := undef) rfl (by kernel_rfl) (by kernel_rfl) (by kernel_rfl) (fun _ _ _ h => h) (Or.inr ⟨by rfl, rfl⟩) (by assumption) ?_; ((try simp only [zA, zB, zC, Act.put, zD, zE, zF])))
      (refine wpAnyH_take (i := 6) (v := undef) rfl (by kernel_rfl) (by kernel_rfl) (by kernel_rfl) (fun _ _ _ h => h) (Or.inr ⟨by rfl, rfl⟩) (by assumption) ?_; ((try simp only [zA, zB, zC, Act.put, zD, zE, zF])))
      (refine wpAnyH_take (i := 7) (v := undef) rfl (by kernel_rfl) (by kernel_rfl) (by kernel_rfl) (fun _ _ _ h => h) (Or.inr ⟨by rfl, rfl⟩) (by assumption) ?_; ((try simp only [zA, zB, zC, Act.put, zD, zE, zF])))
      (refine wpAnyH_take (i := 8) (v := undef) rfl (by kernel_rfl) (by kernel_rfl) (by kernel_rfl) (fun _ _ _ h => h) (Or.inr ⟨by rfl, rfl⟩) (by assumption) ?_; ((try simp only [zA, zB, zC, Act.put, zD, zE, zF])))
      (refine wpAnyH_take (i := 9) (v := undef) rfl (by kernel_rfl) (by kernel_rfl) (by kernel_rfl) (fun _ _ _ h => h) (Or.inr ⟨by rfl, rfl⟩) (by assumption) ?_; ((try simp only [zA, zB, zC, Act.put, zD, zE, zF])))
      (refine wpAnyH_take (i := 10) (v := undef) rfl (by kernel_rfl) (by kernel_rfl) (by kernel_rfl) (fun _ _ _ h => h) (Or.inr ⟨by rfl, rfl⟩) (by assumption) ?_; ((try simp only [zA, zB, zC, Act.put, zD, zE, zF])))
      (refine wpAnyH_take (i := 11) (v := ?_) rfl (by kernel_rfl) (by kernel_rfl) (by kernel_rfl) (fun _ _ _ h => h) (Or.inl ⟨by rfl, ?_⟩) (by assumption) ?_; rotate_left; (intro w hSw; (try dsimp only at hSw); go_simp; try with_reducible rfl); ((try simp only [zA, zB, zC, Act.put, zD, zE, zF])))
      (refine wpAnyH_take (i := 12) (v := ?_) rfl (by kernel_rfl) (by kernel_rfl) (by kernel_rfl) (fun _ _ _ h => h) (Or.inl ⟨by rfl, ?_⟩) (by assumption) ?_; rotate_left; (intro w hSw; (try dsimp only at hSw); go_simp; try with_reducible rfl); ((try simp only [zA, zB, zC, Act.put, zD, zE, zF])))
      (refine wpAnyH_take (i := 13) (v := ?_) rfl (by kernel_rfl) (by kernel_rfl) (by kernel_rfl) (fun _ _ _ h => h) (Or.inl ⟨by rfl, ?_⟩) (by assumption) ?_; rotate_left; (intro w hSw; (try dsimp only at hSw); go_simp; try with_reducible rfl); ((try simp only [zA, zB, zC, Act.put, zD, zE, zF])))
      (refine wpAnyH_take (i := 14) (v := ?_) rfl (by kernel_rfl) (by kernel_rfl) (by kernel_rfl) (fun _ _ _ h => h) (Or.inl ⟨by rfl, ?_⟩) (by assumption) ?_; rotate_left; (intro w hSw; (try dsimp only at hSw); go_simp; try with_reducible rfl); ((try simp only [zA, zB, zC, Act.put, zD, zE, zF])))
      (refine wpAnyH_take (i := 15) (v := ?_) rfl (by kernel_rfl) (by kernel_rfl) (by kernel_rfl) (fun _ _ _ h => h) (Or.inl ⟨by rfl, ?_⟩) (by assumption) ?_; rotate_left; (intro w hSw; (try dsimp only at hSw); go_simp; try with_reducible rfl); ((try simp only [zA, zB, zC, Act.put, zD, zE, zF])))
      (refine wpAnyH_take (i := 16) (v := ?_) rfl (by kernel_rfl) (by kernel_rfl) (by kernel_rfl) (fun _ _ _ h => h) (Or.inl ⟨by rfl, ?_⟩) (by assumption) ?_; rotate_left; (intro w hSw; (try dsimp only at hSw); go_simp; try with_reducible rfl); ((try simp only [zA, zB, zC, Act.put, zD, zE, zF])))
      refine wpAnyH_ready (rs := [17]) (by kernel_rfl) (by simp) ?_
      refine AllReadyH.cons rfl (fun K2 hK2 => ?_) AllReadyH.nil
      go_simp
      refine (HMY.out _ (HTB.out.below hBD.out)).mono ?_
      rintro e x1 ⟨rfl, hb1⟩
      have hby := Lib.hid (hBD.out.trans (hb1.out.mono hBD.out.size))
      have hbx := Lib.hid ((Below.refl W9.heap.size W9).drew.trans hb1.out)
      have zg1 := keepC hbx.out g1
      have ze0 := keepC hbx.out e0
      have ze1 := keepC hbx.out e1
      have ze2 := keepC hbx.out e2
      clear hb1
      go_wp2_with fail
      refine hK2.out _ _ (by (try dsimp only); refine ⟨by assumption, ?_⟩; go_keep) (fun _ => ?_)
      clear hK2 K2
      (try simp only [zA, zB, zC, Act.put, zD, zE, zF])
      (refine wpAnyH_take (i := 18) (v := ?_) rfl (by kernel_rfl) (by kernel_rfl) (by kernel_rfl) (fun _ _ _ h => h) (Or.inl ⟨by rfl, ?_⟩) (by assumption) ?_; rotate_left; (intro w hSw; (try dsimp only at hSw); go_simp; try with_reducible rfl); ((try simp only [zA, zB, zC, Act.put, zD, zE, zF])))
      (refine wpAnyH_take (i := 19) (v := ?_) rfl (by kernel_rfl) (by kernel_rfl) (by kernel_rfl) (fun _ _ _ h => h) (Or.inl ⟨by rfl, ?_⟩) (by assumption) ?_; rotate_left; (intro w hSw; (try dsimp only at hSw); go_simp; try with_reducible rfl); ((try simp only [zA, zB, zC, Act.put, zD, zE, zF])))
      refine wpAnyH_done (by kernel_rfl) ?_ _
      all_goals
       go_wp2_with fail
       go_ret
       exact ⟨by rw [HC.out, HFA.out (by rw [HST.out]; rfl)]; rfl, hby⟩
     ·go_wp2_with fail
      obtain ⟨W9, hW9⟩ : ∃ W9, W9 = (wr.alloc (.cells #[.string xa, .int .i64 xb, .bool true] 46)) := ⟨_, rfl⟩
      rw [← hW9] at HBU hBD e0 e1 e2 g1 ⊢
      clear hW9 g0
      have hS0 : (fun W => Hid (Below w.heap.size w W) ∧ W.cell? ⟨wr.heap.size, 1, none⟩ = some (.int .i64 xb) ∧ W.cell? ⟨b', off' + k * 3, none⟩ = some (.int .i64 0) ∧ W.cell? ⟨b', off' + k * 3 + 1, none⟩ = some (.int .i64 yn) ∧ W.cell? ⟨b', off' + k * 3 + 2, none⟩ = some (.string ys)) W9.drew := by
       refine ⟨hBD, ?_⟩
       go_keep
      refine wp_region_held_drew (S := (fun W => Hid (Below w.heap.size w W) ∧ W.cell? ⟨wr.heap.size, 1, none⟩ = some (.int .i64 xb) ∧ W.cell? ⟨b', off' + k * 3, none⟩ = some (.int .i64 0) ∧ W.cell? ⟨b', off' + k * 3 + 1, none⟩ = some (.int .i64 yn) ∧ W.cell? ⟨b', off' + k * 3 + 2, none⟩ = some (.string ys))) (by kernel_rfl) hS0 (fun _ => ?_)
      (refine wpAnyH_take (i := 0) (v := ?_) rfl (by kernel_rfl) (by kernel_rfl) (by kernel_rfl) (fun _ _ _ h => h) (Or.inl ⟨by rfl, ?_⟩) (by assumption) ?_; rotate_left; (intro w hSw; (try dsimp only at hSw); go_simp; try with_reducible rfl); ((try simp only [zA, zB, zC, Act.put, zD, zE, zF])))
      (refine wpAnyH_take (i := 1) (v := ?_) rfl (by kernel_rfl) (by kernel_rfl) (by kernel_rfl) (fun _ _ _ h => h) (Or.inl ⟨by rfl, ?_⟩) (by assumption) ?_; rotate_left; (intro w hSw; (try dsimp only at hSw); go_simp; try with_reducible rfl); ((try simp only [zA, zB, zC, Act.put, zD, zE, zF])))
      (refine wpAnyH_take (i := 2) (v := ?_) rfl (by kernel_rfl) (by kernel_rfl) (by kernel_rfl) (fun _ _ _ h => h) (Or.inl ⟨by rfl, ?_⟩) (by assumption) ?_; rotate_left; (intro w hSw; (try dsimp only at hSw); go_simp; try with_reducible rfl); ((try simp only [zA, zB, zC, Act.put, zD, zE, zF])))
      (refine wpAnyH_take (i := 3) (v := undef) rfl (by kernel_rfl) (by kernel_rfl) (by kernel_rfl) (fun _ _ _ h => h) (Or.inr ⟨by rfl, rfl⟩) (by assumption) ?_; ((try simp only [zA, zB, zC, Act.put, zD, zE, zF])))
      (refine wpAnyH_take (i := 4) (v := undef) rfl (by kernel_rfl) (by kernel_rfl) (by kernel_rfl) (fun _ _ _ h => h) (Or.inr ⟨by rfl, rfl⟩) (by assumption) ?_; ((try simp only [zA, zB, zC, Act.put, zD, zE, zF])))
      (refine wpAnyH_take (i := 5) (v := undef) rfl (by kernel_rfl) (by kernel_rfl) (by kernel_rfl) (fun _ _ _ h => h) (Or.inr ⟨by rfl, rfl⟩) (by assumption) ?_; ((try simp only [zA, zB, zC, Act.put, zD, zE, zF])))
      (refine wpAnyH_take (i := 6) (v := undef) rfl (by kernel_rfl) (by kernel_rfl) (by kernel_rfl) (fun _ _ _ h => h) (Or.inr ⟨by rfl, rfl⟩) (by assumption) ?_; ((try simp only [zA, zB, zC, Act.put, zD, zE, zF])))
      (refine wpAnyH_take (i := 7) (v := undef) rfl (by kernel_rfl) (by kernel_rfl) (by kernel_rfl) (fun _ _ _ h => h) (Or.inr ⟨by rfl, rfl⟩) (by assumption) ?_; ((try simp only [zA, zB, zC, Act.put, zD, zE, zF])))
      (refine wpAnyH_take (i := 8) (v := undef) rfl (by kernel_rfl) (by kernel_rfl) (by kernel_rfl) (fun _ _ _ h => h) (Or.inr ⟨by rfl, rfl⟩) (by assumption) ?_; ((try simp only [zA, zB, zC, Act.put, zD, zE, zF])))
      (refine wpAnyH_take (i := 9) (v := undef) rfl (by kernel_rfl) (by kernel_rfl) (by kernel_rfl) (fun _ _ _ h => h) (Or.inr ⟨by rfl, rfl⟩) (by assumption) ?_; ((try simp only [zA, zB, zC, Act.put, zD, zE, zF])))
      (refine wpAnyH_take (i := 10) (v := undef) rfl (by kernel_rfl) (by kernel_rfl) (by kernel_rfl) (fun _ _ _ h => h) (Or.inr ⟨by rfl, rfl⟩) (by assumption) ?_; ((try simp only [zA, zB, zC, Act.put, zD, zE, zF])))
      (refine wpAnyH_take (i := 11) (v := ?_) rfl (by kernel_rfl) (by kernel_rfl) (by kernel_rfl) (fun _ _ _ h => h) (Or.inl ⟨by rfl, ?_⟩) (by assumption) ?_; rotate_left; (intro w hSw; (try dsimp only at hSw); go_simp; try with_reducible rfl); ((try simp only [zA, zB, zC, Act.put, zD, zE, zF])))
      (refine wpAnyH_take (i := 12) (v := ?_) rfl (by kernel_rfl) (by kernel_rfl) (by kernel_rfl) (fun _ _ _ h => h) (Or.inl ⟨by rfl, ?_⟩) (by assumption) ?_; rotate_left; (intro w hSw; (try dsimp only at hSw); go_simp; try with_reducible rfl); ((try simp only [zA, zB, zC, Act.put, zD, zE, zF])))
      (refine wpAnyH_take (i := 13) (v := ?_) rfl (by kernel_rfl) (by kernel_rfl) (by kernel_rfl) (fun _ _ _ h => h) (Or.inl ⟨by rfl, ?_⟩) (by assumption) ?_; rotate_left; (intro w hSw; (try dsimp only at hSw); go_simp; try with_reducible rfl); ((try simp only [zA, zB, zC, Act.put, zD, zE, zF])))
      (refine wpAnyH_take (i := 14) (v := ?_) rfl (by kernel_rfl) (by kernel_rfl) (by kernel_rfl) (fun _ _ _ h => h) (Or.inl ⟨by rfl, ?_⟩) (by assumption) ?_; rotate_left; (intro w hSw; (try dsimp only at hSw); go_simp; try with_reducible rfl); ((try simp only [zA, zB, zC, Act.put, zD, zE, zF])))
      (refine wpAnyH_take (i := 15) (v := ?_) rfl (by kernel_rfl) (by kernel_rfl) (by kernel_rfl) (fun _ _ _ h => h) (Or.inl ⟨by rfl, ?_⟩) (by assumption) ?_; rotate_left; (intro w hSw; (try dsimp only at hSw); go_simp; try with_reducible rfl); ((try simp only [zA, zB, zC, Act.put, zD, zE, zF])))
      (refine wpAnyH_take (i := 16) (v := ?_) rfl (by kernel_rfl) (by kernel_rfl) (by kernel_rfl) (fun _ _ _ h => h) (Or.inl ⟨by rfl, ?_⟩) (by assumption) ?_; rotate_left; (intro w hSw; (try dsimp only at hSw); go_simp; try with_reducible rfl); ((try simp only [zA, zB, zC, Act.put, zD, zE, zF])))
      refine wpAnyH_ready (rs := [17]) (by kernel_rfl) (by simp) ?_
      refine AllReadyH.cons rfl (fun K2 hK2 => ?_) AllReadyH.nil
      go_simp
      refine (HMY.out _ (HTB.out.below hBD.out)).mono ?_
      rintro e x1 ⟨rfl, hb1⟩
      have hby := Lib.hid (hBD.out.trans (hb1.out.mono hBD.out.size))
      have hbx := Lib.hid ((Below.refl W9.heap.size W9).drew.trans hb1.out)
      have zg1 := keepC hbx.out g1
      have ze0 := keepC hbx.out e0
      have ze1 := keepC hbx.out e1
      have ze2 := keepC hbx.out e2
      clear hb1
      go_wp2_with fail
      refine hK2.out _ _ (by (try dsimp only); refine ⟨by assumption, ?_⟩; go_keep) (fun _ => ?_)
      clear hK2 K2
      (try simp only [zA, zB, zC, Act.put, zD, zE, zF])
      (refine wpAnyH_take (i := 18) (v := ?_) rfl (by kernel_rfl) (by kernel_rfl) (by kernel_rfl) (fun _ _ _ h => h) (Or.inl ⟨by rfl, ?_⟩) (by assumption) ?_; rotate_left; (intro w hSw; (try dsimp only at hSw); go_simp; try with_reducible rfl); ((try simp only [zA, zB, zC, Act.put, zD, zE, zF])))
      (refine wpAnyH_take (i := 19) (v := ?_) rfl (by kernel_rfl) (by kernel_rfl) (by kernel_rfl) (fun _ _ _ h => h) (Or.inl ⟨by rfl, ?_⟩) (by assumption) ?_; rotate_left; (intro w hSw; (try dsimp only at hSw); go_simp; try with_reducible rfl); ((try simp only [zA, zB, zC, Act.put, zD, zE, zF])))
      refine wpAnyH_done (by kernel_rfl) ?_ _
      all_goals
       go_wp2_with fail
       go_roundw
       case rel => exact ⟨k + 1, by omega, by go_num, by show _ = _; rw [HSU.out, HT.out, HST.out]; simp, hby⟩
       case measure => simp [intOf]; omega
    ·have hq0 : (yk == 0) = false := by simp [h0]
     generalize hqq : mayF yk yn ys = q at *
     clear hqq
     cases q
     ·go_wp2_with fail
      obtain ⟨W9, hW9⟩ : ∃ W9, W9 = (wr.alloc (.cells #[.string xa, .int .i64 yk, .bool true] 46)) := ⟨_, rfl⟩
      rw [← hW9] at HBU hBD e0 e1 e2 g1 ⊢
      clear hW9 g0
      go_region_held3 (fun W => Hid (Below w.heap.size w W) ∧ W.cell? ⟨wr.heap.size, 1, none⟩ = some (.int .i64 yk) ∧ W.cell? ⟨b', off' + k * 3, none⟩ = some (.int .i64 yk) ∧ W.cell? ⟨b', off' + k * 3 + 1, none⟩ = some (.int .i64 yn) ∧ W.cell? ⟨b', off' + k * 3 + 2, none⟩ = some (.string ys)) ((refine ⟨by assumption, ?_⟩; go_keep))
       (first | (go_at_call 121; refine (HMY.out _ (HTB.out.below hBD.out)).mono ?_; rintro e x1 ⟨rfl, hb1⟩; have hby := Lib.hid (hBD.out.trans (hb1.out.mono hBD.out.size)); have hbx := Lib.hid ((Below.refl W9.heap.size W9).drew.trans hb1.out); have zg1 := keepC hbx.out g1; have ze0 := keepC hbx.out e0; have ze1 := keepC hbx.out e1; have ze2 := keepC hbx.out e2; clear hb1))
      all_goals
       go_wp2_with fail
       go_ret
       exact ⟨by rw [HC.out, HFA.out (by rw [HST.out]; rfl)]; rfl, hby⟩
     ·go_wp2_with fail
      obtain ⟨W9, hW9⟩ : ∃ W9, W9 = (wr.alloc (.cells #[.string xa, .int .i64 yk, .bool true] 46)) := ⟨_, rfl⟩
      rw [← hW9] at HBU hBD e0 e1 e2 g1 ⊢
      clear hW9 g0
      go_region_held3 (fun W => Hid (Below w.heap.size w W) ∧ W.cell? ⟨wr.heap.size, 1, none⟩ = some (.int .i64 yk) ∧ W.cell? ⟨b', off' + k * 3, none⟩ = some (.int .i64 yk) ∧ W.cell? ⟨b', off' + k * 3 + 1, none⟩ = some (.int .i64 yn) ∧ W.cell? ⟨b', off' + k * 3 + 2, none⟩ = some (.string ys)) ((refine ⟨by assumption, ?_⟩; go_keep))
       (first | (go_at_call 121; refine (HMY.out _ (HTB.out.below hBD.out)).mono ?_; rintro e x1 ⟨rfl, hb1⟩; have hby := Lib.hid (hBD.out.trans (hb1.out.mono hBD.out.size)); have hbx := Lib.hid ((Below.refl W9.heap.size W9).drew.trans hb1.out); have zg1 := keepC hbx.out g1; have ze0 := keepC hbx.out e0; have ze1 := keepC hbx.out e1; have ze2 := keepC hbx.out e2; clear hb1))
      all_goals
       go_wp2_with fail
       go_roundw
       case rel => exact ⟨k + 1, by omega, by go_num, by show _ = _; rw [HSU.out, HT.out, HST.out]; simp, hby⟩
       case measure => simp [intOf]; omega
    ·have hq0 : (yk == 0) = false := by simp [h0]
     have hq1 : (yk == xb) = false := by simp [h1]
     have hq2 : (yk != xb) = true := by simp [h1]
     have HO : Hid (standsF ⟨xa, xb, true⟩ ⟨yk, yn, ys⟩ = false) := by show _ = _; rw [HST.out, hq1]; rw [hq0]; simp
     go_wp2_with fail
     obtain ⟨W9, hW9⟩ : ∃ W9, W9 = (wr.alloc (.cells #[.string xa, .int .i64 xb, .bool true] 46)) := ⟨_, rfl⟩
     rw [← hW9] at HBU hBD e0 e1 e2 g1 ⊢
     clear hW9 g0
     go_region
     all_goals
      go_wp2_with fail
      go_ret
      exact ⟨by rw [HC.out, HFA.out HO.out]; rfl, hBD⟩
    ·generalize hqq : mayF yk yn ys = q at *
     clear hqq
     cases q
     ·go_wp2_with fail
      obtain ⟨W9, hW9⟩ : ∃ W9, W9 = (wr.alloc (.cells #[.string xa, .int .i64 yk, .bool false] 46)) := ⟨_, rfl⟩
      rw [← hW9] at HBU hBD e0 e1 e2 g1 ⊢
      clear hW9 g0
      go_region_held3 (fun W => Hid (Below w.heap.size w W) ∧ W.cell? ⟨wr.heap.size, 1, none⟩ = some (.int .i64 yk) ∧ W.cell? ⟨b', off' + k * 3, none⟩ = some (.int .i64 yk) ∧ W.cell? ⟨b', off' + k * 3 + 1, none⟩ = some (.int .i64 yn) ∧ W.cell? ⟨b', off' + k * 3 + 2, none⟩ = some (.string ys)) ((refine ⟨by assumption, ?_⟩; go_keep))
       (first | (go_at_call 121; refine (HMY.out _ (HTB.out.below hBD.out)).mono ?_; rintro e x1 ⟨rfl, hb1⟩; have hby := Lib.hid (hBD.out.trans (hb1.out.mono hBD.out.size)); have hbx := Lib.hid ((Below.refl W9.heap.size W9).drew.trans hb1.out); have zg1 := keepC hbx.out g1; have ze0 := keepC hbx.out e0; have ze1 := keepC hbx.out e1; have ze2 := keepC hbx.out e2; clear hb1))
      all_goals
       go_wp2_with fail
       go_ret
       exact ⟨by rw [HC.out, HFA.out (by rw [HST.out]; rfl)]; rfl, hby⟩
     ·go_wp2_with fail
      obtain ⟨W9, hW9⟩ : ∃ W9, W9 = (wr.alloc (.cells #[.string xa, .int .i64 yk, .bool false] 46)) := ⟨_, rfl⟩
      rw [← hW9] at HBU hBD e0 e1 e2 g1 ⊢
      clear hW9 g0
      go_region_held3 (fun W => Hid (Below w.heap.size w W) ∧ W.cell? ⟨wr.heap.size, 1, none⟩ = some (.int .i64 yk) ∧ W.cell? ⟨b', off' + k * 3, none⟩ = some (.int .i64 yk) ∧ W.cell? ⟨b', off' + k * 3 + 1, none⟩ = some (.int .i64 yn) ∧ W.cell? ⟨b', off' + k * 3 + 2, none⟩ = some (.string ys)) ((refine ⟨by assumption, ?_⟩; go_keep))
       (first | (go_at_call 121; refine (HMY.out _ (HTB.out.below hBD.out)).mono ?_; rintro e x1 ⟨rfl, hb1⟩; have hby := Lib.hid (hBD.out.trans (hb1.out.mono hBD.out.size)); have hbx := Lib.hid ((Below.refl W9.heap.size W9).drew.trans hb1.out); have zg1 := keepC hbx.out g1; have ze0 := keepC hbx.out e0; have ze1 := keepC hbx.out e1; have ze2 := keepC hbx.out e2; clear hb1))
      all_goals
       go_wp2_with fail
       go_roundw
       case rel => exact ⟨k + 1, by omega, by go_num, by show _ = _; rw [HSU.out, HT.out, HST.out]; simp, hby⟩
       case measure => simp [intOf]; omega
    ·have hq1 : (yk == xb) = false := by simp [h1]
     have hq2 : (yk != xb) = true := by simp [h1]
     have HO : Hid (standsF ⟨xa, xb, false⟩ ⟨yk, yn, ys⟩ = false) := by show _ = _; rw [HST.out, hq1]; simp
     go_wp2_with fail
     obtain ⟨W9, hW9⟩ : ∃ W9, W9 = (wr.alloc (.cells #[.string xa, .int .i64 xb, .bool false] 46)) := ⟨_, rfl⟩
     rw [← hW9] at HBU hBD e0 e1 e2 g1 ⊢
     clear hW9 g0
     go_region
     all_goals
      go_wp2_with fail
      go_ret
      exact ⟨by rw [HC.out, HFA.out HO.out]; rfl, hBD⟩
   ·obtain rfl : k = nr := by omega
    go_wp2_with fail
    go_ret
    exact ⟨by rw [HC.out, HT.out]; rfl, HB⟩
 ·have HC : Hid (fitsF M R = false) := by show _ = _; unfold fitsF; rw [HN.out, HNR.out]; simp [hnn]
  have hq : ((nr : Int) != (n : Int)) = true := by simp; omega
  go_enter Tryz.func92, Tryz.ntmps92
  go_wp2_with fail
  go_ret
  exact ⟨by rw [HC.out]; rfl, HB0⟩
def kindsTo (M : List Cl) (R : List Vl) (k : Nat) : Bool := (List.range k).all fun i => match M[i]?, R[i]? with | some c, some v => v.k == c.k | _, _ => true
theorem kindsTo_succ (M : List Cl) (R : List Vl) (k : Nat) (h : k < M.length) (h' : k < R.length) : kindsTo M R (k + 1) = (kindsTo M R k && (R[k].k == M[k].k)) := by
 unfold kindsTo; rw [List.range_succ, List.all_append]; simp [h, h']
theorem kindsTo_false (M : List Cl) (R : List Vl) (k n : Nat) (hk : k < n) (h : k < M.length) (h' : k < R.length) (hs : (R[k].k == M[k].k) = false) : kindsTo M R n = false := by
 unfold kindsTo; rw [List.all_eq_false]
 exact ⟨k, List.mem_range.2 hk, by simp [h, h', hs]⟩
def beginsF (M : List Cl) (R : List Vl) (k : Nat) : Bool := decide (k ≤ R.length) && kindsTo M R k
set_option maxHeartbeats 3000000 in
set_option maxRecDepth 100000 in
theorem begins_any (A : Option Addr) (M : List Cl) (n c : Nat) (kk : Nat) (Ar : Option Addr) (R : List Vl) (nr cr : Nat) (w : World) (hn : M.length = n) (hkn : kk ≤ n) (hk9 : kk ≤ 900) (hnc : n ≤ c) (hA : CRow w A M) (hnr : R.length = nr) (hR : VRow w Ar R) :
 Calls Tryz.prog 134 #[.agg #[.slice A n c, .int .i64 kk], .slice Ar nr cr] w fun e w' => e = .returned (.bool (beginsF M R kk)) ∧ Hid (Below w.heap.size w w') := by
 have HN := Lib.hid hn
 have HA := Lib.hid hA
 have HNR := Lib.hid hnr
 have HR := Lib.hid hR
 have HB0 := Lib.hid ((Below.refl w.heap.size w).alloc (Nat.le_refl _) (.cells #[.slice A n c, .int .i64 kk] 39))
 have z0 : (0 : Int) ≤ (kk : Int) := by omega
 have z1 : (kk : Int) ≤ (c : Int) := by omega
 have hz0 : ¬ (kk : Int) < 0 := by omega
 have hz1 : ¬ (n : Int) < (kk : Int) := by omega
 have hq1 : decide (n < kk) = false := by simp; omega
 clear hn hA hnr hR
 by_cases hnn : kk ≤ nr
 ·have HC : Hid (beginsF M R kk = kindsTo M R kk) := by show _ = _; unfold beginsF; rw [HNR.out]; simp [hnn]
  have hq2 : decide (nr < kk) = false := by simp; omega
  go_enter Tryz.func134, Tryz.ntmps134
  go_wp2_with fail
  go_loopw [31] (fun i wr => ∃ k : Nat, k ≤ kk ∧ i = .int .i64 k ∧ Hid (kindsTo M R k = true) ∧ Hid (Below w.heap.size w wr)) (fun i _ => kk - (intOf i).toNat)
  case atStart => exact ⟨0, by omega, rfl, rfl, HB0.out⟩
  case round =>
   obtain ⟨k, hk, rfl, HT, HB⟩ := hrel
   by_cases hlt : k < kk
   ·have hkl : k < M.length := by rw [HN.out]; omega
    have hkr : k < R.length := by rw [HNR.out]; omega
    obtain ⟨b, off, rfl, hc⟩ := (HA.out.below HB.out) (by intro e; rw [e] at hkl; simp at hkl)
    obtain ⟨b', off', rfl, hc'⟩ := (HR.out.below HB.out) (by intro e; rw [e] at hkr; simp at hkr)
    obtain ⟨c0, c1, c2⟩ := hc k hkl
    obtain ⟨d0, d1, d2⟩ := hc' k hkr
    have HSU := Lib.hid (kindsTo_succ M R k hkl hkr)
    have HFA := Lib.hid (kindsTo_false M R k kk hlt hkl hkr)
    clear hc hc'
    generalize M[k] = x at *
    generalize R[k] = y at *
    obtain ⟨xa, xb, xc⟩ := x
    obtain ⟨yk, yn, ys⟩ := y
    simp only at c0 c1 c2 d0 d1 d2
    have hkz : (k : Int) < (nr : Int) := by omega
    have hk0 : (0 : Int) ≤ (k : Int) := by omega
    have hBW : Hid (Below wr.heap.size wr (wr.alloc (.cells #[.string xa, .int .i64 xb, .bool xc] 46))) := (Below.refl _ wr).alloc (Nat.le_refl _) _
    have HBU := Lib.hid (HB.out.trans (hBW.out.mono HB.out.size))
    have e0 := keepC hBW.out d0
    have g1 : (wr.alloc (.cells #[.string xa, .int .i64 xb, .bool xc] 46)).cell? ⟨wr.heap.size, 1, none⟩ = some (.int .i64 xb) := (Has.new wr 46 #[.string xa, .int .i64 xb, .bool xc]).cell 1
    clear d0 d1 d2
    cases hq : (yk == xb)
    ·have hqn : (yk != xb) = true := by simp [bne, hq]
     go_wp2_with fail
     obtain ⟨W9, hW9⟩ : ∃ W9, W9 = wr.alloc (.cells #[.string xa, .int .i64 xb, .bool xc] 46) := ⟨_, rfl⟩
     rw [← hW9] at HBU e0 g1 ⊢
     clear hW9
     go_region
     all_goals
      go_wp2_with fail
      go_ret
      exact ⟨by rw [HC.out, HFA.out hq]; rfl, HBU.out.drew⟩
    ·have hqn : (yk != xb) = false := by simp [bne, hq]
     go_wp2_with fail
     obtain ⟨W9, hW9⟩ : ∃ W9, W9 = wr.alloc (.cells #[.string xa, .int .i64 xb, .bool xc] 46) := ⟨_, rfl⟩
     rw [← hW9] at HBU e0 g1 ⊢
     clear hW9
     go_region
     all_goals
      go_wp2_with fail
      go_roundw
      case rel => exact ⟨k + 1, by omega, by go_num, by show _ = _; rw [HSU.out, HT.out, hq]; rfl, HBU.out.drew⟩
      case measure => simp [intOf]; omega
   ·obtain rfl : k = kk := by omega
    go_wp2_with fail
    go_ret
    exact ⟨by rw [HC.out, HT.out]; rfl, HB⟩
 ·have HC : Hid (beginsF M R kk = false) := by show _ = _; unfold beginsF; rw [HNR.out]; simp [hnn]
  have hq : (nr : Int) < (kk : Int) := by omega
  go_enter Tryz.func134, Tryz.ntmps134
  go_wp2_with fail
  go_ret
  exact ⟨by rw [HC.out]; rfl, HB0⟩
theorem VRow.takeK {w : World} {A : Option Addr} {L : List Vl} (h : VRow w A L) (k : Nat) : VRow w A (L.take k) := fun hl => by
 obtain ⟨b, off, e, hc⟩ := h (by rintro rfl; simp at hl)
 refine ⟨b, off, e, fun i hi => ?_⟩
 rw [List.length_take] at hi
 rw [List.getElem_take]
 exact hc i (by omega)
theorem fitsTo_may {M : List Cl} {R : List Vl} {k : Nat} (h : fitsTo M R k = true) (hM : k ≤ M.length) (hR : k ≤ R.length) : ∀ x ∈ R.take k, x.may = true := fun x hx => by
 obtain ⟨i, hi, rfl⟩ := List.getElem_of_mem hx
 rw [List.length_take] at hi
 rw [List.getElem_take]
 unfold fitsTo at h
 rw [List.all_eq_true] at h
 have := h i (List.mem_range.2 (by omega))
 rw [List.getElem?_eq_getElem (by omega), List.getElem?_eq_getElem (by omega)] at this
 simp only [standsF, Bool.and_eq_true] at this
 exact this.1
def keyOk (M : List Cl) (R : List Vl) (k : Nat) : Bool := decide (k ≤ R.length) && fitsTo M R k
def keyT (M : List Cl) (R : List Vl) (k : Nat) : Value := if keyOk M R k = true then .tuple #[.string (bs (keys (R.take k))), .int .i64 0] else .tuple #[.string ⟨#[]⟩, .int .i64 9]
set_option maxHeartbeats 4000000 in
set_option maxRecDepth 100000 in
theorem rkey_any (A : Option Addr) (M : List Cl) (n c : Nat) (kk : Nat) (Ar : Option Addr) (R : List Vl) (nr cr : Nat) (w : World) (hn : M.length = n) (hl : n ≤ 900) (hkn : kk ≤ n) (hk4 : kk ≤ 4) (hnc : nr ≤ cr) (hA : CRow w A M) (hnr : R.length = nr) (hR : VRow w Ar R) (hf : ∀ x ∈ R, x.fit) :
 Calls Tryz.prog 62 #[.agg #[.slice A n c, .int .i64 kk], .slice Ar nr cr] w fun e w' => e = .returned (keyT M R kk) ∧ Hid (Below w.heap.size w w') := by
 have HN := Lib.hid hn
 have HA := Lib.hid hA
 have HNR := Lib.hid hnr
 have HR := Lib.hid hR
 have HF := Lib.hid hf
 have HB0 := Lib.hid ((Below.refl w.heap.size w).alloc (Nat.le_refl _) (.cells #[.slice A n c, .int .i64 kk] 39))
 have HS0 := Lib.hid (Has.new w 39 #[.slice A n c, .int .i64 kk])
 clear hn hA hnr hR hf
 by_cases hnn : kk ≤ nr
 ·have HC : Hid (keyOk M R kk = fitsTo M R kk) := by show _ = _; unfold keyOk; rw [HNR.out]; simp [hnn]
  have hqd : decide (nr < kk) = false := by simp; omega
  go_enter Tryz.func62, Tryz.ntmps62
  go_wp2_with fail
  go_loopw [6] (fun i wr => ∃ k : Nat, k ≤ kk ∧ i = .int .i64 k ∧ Hid (fitsTo M R k = true) ∧ Hid (Below w.heap.size w wr) ∧ Hid (Has wr w.heap.size 39 #[.slice A n c, .int .i64 kk])) (fun i _ => kk - (intOf i).toNat)
  case atStart => exact ⟨0, by omega, rfl, rfl, HB0.out, HS0.out⟩
  case round =>
   obtain ⟨k, hk, rfl, HT, HB, HS⟩ := hrel
   by_cases hlt : k < kk
   ·have hkl : k < M.length := by rw [HN.out]; omega
    have hkr : k < R.length := by rw [HNR.out]; omega
    obtain ⟨b, off, rfl, hc⟩ := (HA.out.below HB.out) (by intro e; rw [e] at hkl; simp at hkl)
    obtain ⟨b', off', rfl, hc'⟩ := (HR.out.below HB.out) (by intro e; rw [e] at hkr; simp at hkr)
    obtain ⟨c0, c1, c2⟩ := hc k hkl
    obtain ⟨d0, d1, d2⟩ := hc' k hkr
    have hfit := (HF.out R[k] (List.getElem_mem hkr)).2.2
    have HSU := Lib.hid (fitsTo_succ M R k hkl hkr)
    have HFA := Lib.hid (fitsTo_false M R k kk hlt hkl hkr)
    clear hc hc'
    generalize M[k] = x at *
    generalize R[k] = y at *
    obtain ⟨xa, xb, xc⟩ := x
    obtain ⟨yk, yn, ys⟩ := y
    simp only at c0 c1 c2 d0 d1 d2 hfit
    have a0 : wr.cell? ⟨w.heap.size, 0, none⟩ = some (.slice (some ⟨b, off, none⟩) n c) := HS.out.cell 0
    have HCS := Lib.hid (fun W => stands_any xa xb xc yk yn ys W hfit)
    have hkz : (k : Int) < (nr : Int) := by omega
    have hkz2 : (k : Int) < (n : Int) := by omega
    have s1 : wr.cell? ⟨w.heap.size, 1, none⟩ = some (.int .i64 kk) := HS.out.cell 1
    have hk0 : (0 : Int) ≤ (k : Int) := by omega
    have hBD : Hid (Below wr.heap.size wr wr.drew) := (Below.refl _ wr).drew
    have hbw : Hid (Below w.heap.size w wr.drew) := HB.out.drew
    cases hq : standsF ⟨xa, xb, xc⟩ ⟨yk, yn, ys⟩
    ·go_wp2_with fail
     go_region_held3 (fun W => Hid (Below w.heap.size w W) ∧ W.cell? ⟨w.heap.size, 0, none⟩ = some (.slice (some ⟨b, off, none⟩) n c) ∧ W.cell? ⟨b, off + k * 3, none⟩ = some (.string xa) ∧ W.cell? ⟨b, off + k * 3 + 1, none⟩ = some (.int .i64 xb) ∧ W.cell? ⟨b, off + k * 3 + 2, none⟩ = some (.bool xc) ∧ W.cell? ⟨b', off' + k * 3, none⟩ = some (.int .i64 yk) ∧ W.cell? ⟨b', off' + k * 3 + 1, none⟩ = some (.int .i64 yn) ∧ W.cell? ⟨b', off' + k * 3 + 2, none⟩ = some (.string ys)) ((refine ⟨by assumption, ?_⟩; go_keep))
      (first | (go_at_call 94; refine (HCS.out _).mono ?_; rintro e x1 ⟨rfl, hb1⟩; rw [hq]; have hbx := Lib.hid (hBD.out.trans (hb1.out.mono hBD.out.size)); have hby := Lib.hid (HB.out.trans (hbx.out.mono HB.out.size)); have za0 := keepC hbx.out a0; have zc0 := keepC hbx.out c0; have zc1 := keepC hbx.out c1; have zc2 := keepC hbx.out c2; have zd0 := keepC hbx.out d0; have zd1 := keepC hbx.out d1; have zd2 := keepC hbx.out d2; clear hb1))
     all_goals
      go_wp2_with fail
      go_ret2
      exact ⟨by unfold keyT; rw [HC.out, HFA.out hq]; rfl, hby⟩
    ·go_wp2_with fail
     go_region_held3 (fun W => Hid (Below w.heap.size w W) ∧ W.cell? ⟨w.heap.size, 0, none⟩ = some (.slice (some ⟨b, off, none⟩) n c) ∧ W.cell? ⟨b, off + k * 3, none⟩ = some (.string xa) ∧ W.cell? ⟨b, off + k * 3 + 1, none⟩ = some (.int .i64 xb) ∧ W.cell? ⟨b, off + k * 3 + 2, none⟩ = some (.bool xc) ∧ W.cell? ⟨b', off' + k * 3, none⟩ = some (.int .i64 yk) ∧ W.cell? ⟨b', off' + k * 3 + 1, none⟩ = some (.int .i64 yn) ∧ W.cell? ⟨b', off' + k * 3 + 2, none⟩ = some (.string ys)) ((refine ⟨by assumption, ?_⟩; go_keep))
      (first | (go_at_call 94; refine (HCS.out _).mono ?_; rintro e x1 ⟨rfl, hb1⟩; rw [hq]; have hbx := Lib.hid (hBD.out.trans (hb1.out.mono hBD.out.size)); have hby := Lib.hid (HB.out.trans (hbx.out.mono HB.out.size)); have za0 := keepC hbx.out a0; have zc0 := keepC hbx.out c0; have zc1 := keepC hbx.out c1; have zc2 := keepC hbx.out c2; have zd0 := keepC hbx.out d0; have zd1 := keepC hbx.out d1; have zd2 := keepC hbx.out d2; clear hb1))
     all_goals
      go_wp2_with fail
      go_roundw
      case rel => exact ⟨k + 1, by omega, by go_num, by show _ = _; rw [HSU.out, HT.out, hq]; rfl, hby, HS.out.below hbx.out HS.out.lt⟩
      case measure => simp [intOf]; omega
   ·obtain rfl : k = kk := by omega
    have s1 : wr.cell? ⟨w.heap.size, 1, none⟩ = some (.int .i64 k) := HS.out.cell 1
    have z1 : (0 : Int) ≤ (k : Int) := by omega
    have z2 : (k : Int) ≤ (cr : Int) := by omega
    go_wp2_with fail
    refine (refKey_any Ar (R.take k) k cr wr (by rw [List.length_take, HNR.out]; omega) (by omega) ((HR.out.below HB.out).takeK k) (fun x hx => HF.out x (List.mem_of_mem_take hx)) (fitsTo_may HT.out (by rw [HN.out]; omega) (by rw [HNR.out]; omega))).mono ?_
    rintro e w2 ⟨rfl, hb2⟩
    have HB2 := Lib.hid (HB.out.trans (hb2.out.mono HB.out.size))
    clear hb2
    go_wp2_with fail
    go_ret2
    exact ⟨by unfold keyT; rw [HC.out, HT.out]; rfl, HB2⟩
 ·have HC : Hid (keyOk M R kk = false) := by show _ = _; unfold keyOk; rw [HNR.out]; simp [hnn]
  have hq : (nr : Int) < (kk : Int) := by omega
  go_enter Tryz.func62, Tryz.ntmps62
  go_wp2_with fail
  go_ret2
  exact ⟨by unfold keyT; rw [HC.out]; rfl, HB0⟩
def skT (M : List Cl) (R : List Vl) (k : Nat) : Value := if (beginsF M R k && (R.take k).all Vl.may) = true then .tuple #[.string (bs (keys (R.take k))), .int .i64 0] else .tuple #[.string ⟨#[]⟩, .int .i64 9]
set_option maxHeartbeats 3000000 in
set_option maxRecDepth 100000 in
theorem skey_any (A : Option Addr) (M : List Cl) (n c : Nat) (kk : Nat) (Ar : Option Addr) (R : List Vl) (nr cr : Nat) (w : World) (hn : M.length = n) (hkn : kk ≤ n) (hk4 : kk ≤ 4) (hnc : n ≤ c) (hncr : nr ≤ cr) (hA : CRow w A M) (hnr : R.length = nr) (hR : VRow w Ar R) (hf : ∀ x ∈ R, x.fit) (hTb : Tabs w) :
 Calls Tryz.prog 120 #[.agg #[.slice A n c, .int .i64 kk], .slice Ar nr cr] w fun e w' => e = .returned (skT M R kk) ∧ Hid (Below w.heap.size w w') := by
 have HNR := Lib.hid hnr
 have HR := Lib.hid hR
 have HF := Lib.hid hf
 have HTB := Lib.hid hTb
 have HB0 := Lib.hid ((Below.refl w.heap.size w).alloc (Nat.le_refl _) (.cells #[.slice A n c, .int .i64 kk] 39))
 have HS0 := Lib.hid (Has.new w 39 #[.slice A n c, .int .i64 kk])
 have HC := Lib.hid (begins_any A M n c kk Ar R nr cr _ hn hkn (by omega) hnc (hA.below HB0.out) hnr (hR.below HB0.out))
 have HSK : Hid (skT M R kk = if (beginsF M R kk && (R.take kk).all Vl.may) = true then .tuple #[.string (bs (keys (R.take kk))), .int .i64 0] else .tuple #[.string ⟨#[]⟩, .int .i64 9]) := rfl
 have HBL : Hid (beginsF M R kk = true → kk ≤ nr) := fun h => by
  unfold beginsF at h
  rw [hnr] at h
  simp only [Bool.and_eq_true, decide_eq_true_eq] at h
  exact h.1
 clear hn hA hnr hR hf hTb
 go_enter Tryz.func120, Tryz.ntmps120
 go_wp2_with fail
 refine HC.out.mono ?_
 rintro e w1 ⟨rfl, hb1⟩
 have HB1 := Lib.hid (HB0.out.trans (hb1.out.mono HB0.out.size))
 have HS1 := Lib.hid (HS0.out.below hb1.out HS0.out.lt)
 have s1 : w1.cell? ⟨w.heap.size, 1, none⟩ = some (.int .i64 kk) := HS1.out.cell 1
 clear hb1 HC
 generalize beginsF M R kk = q at *
 cases q
 ·go_wp2_with fail
  go_ret2
  exact ⟨by rw [HSK.out]; rfl, HB1⟩
 ·have hkr := HBL.out rfl
  have z0 : (0 : Int) ≤ (kk : Int) := by omega
  have z1 : (kk : Int) ≤ (cr : Int) := by omega
  have HRT := Lib.hid ((HR.out.below HB1.out).takeK kk)
  have HLT : Hid ((R.take kk).length = kk) := by show _ = _; rw [List.length_take, HNR.out]; omega
  have HFT : Hid (∀ x ∈ R.take kk, x.fit) := fun x hx => HF.out x (List.mem_of_mem_take hx)
  clear HBL
  generalize R.take kk = RT at *
  cases ha : RT.all Vl.may
  ·have hE : (∀ x ∈ RT, x.may = true) ∧ (1 : Nat) = 0 ∧ ([] : List Nat) = keys RT ∨ (∃ x ∈ RT, x.may = false) ∧ (1 : Nat) = 1 ∧ ([] : List Nat) = [] := by
    right
    obtain ⟨x, h1, h2⟩ := List.all_eq_false.1 ha
    exact ⟨⟨x, h1, by simpa using h2⟩, rfl, rfl⟩
   have HK := Lib.hid (key_any Ar RT kk cr w1 HLT.out (by omega) HRT.out HFT.out (HTB.out.below HB1.out) 1 [] hE)
   clear hE
   go_wp2_with fail
   refine HK.out.mono ?_
   rintro e w2 ⟨rfl, hb2⟩
   have HB2 := Lib.hid (HB1.out.trans (hb2.out.mono HB1.out.size))
   clear hb2
   go_wp2_with fail
   go_ret2
   exact ⟨by rw [HSK.out, ha]; rfl, HB2⟩
  ·have HK := Lib.hid (key_any Ar RT kk cr w1 HLT.out (by omega) HRT.out HFT.out (HTB.out.below HB1.out) 0 (keys RT) (.inl ⟨fun x hx => List.all_eq_true.1 ha x hx, rfl, rfl⟩))
   go_wp2_with fail
   refine HK.out.mono ?_
   rintro e w2 ⟨rfl, hb2⟩
   have HB2 := Lib.hid (HB1.out.trans (hb2.out.mono HB1.out.size))
   clear hb2
   go_wp2_with fail
   go_ret2
   exact ⟨by rw [HSK.out, ha]; rfl, HB2⟩
def bareE (k n : Int) : Ev := ⟨k, n, ⟨#[]⟩, [], [], 0, ⟨#[]⟩, [], 0, ⟨⟨#[]⟩, 0, false⟩⟩
theorem bare_at (w : World) (k n : Int) : EvAt w (.agg #[.int .i64 k, .int .i64 n, .string ⟨#[]⟩, .slice none 0 0, .slice none 0 0, .int .i64 0, .string ⟨#[]⟩, .slice none 0 0, .int .i64 0, .string ⟨#[]⟩, .int .i64 0, .bool false]) (bareE k n) :=
 ⟨none, 0, 0, none, 0, 0, none, 0, 0, rfl, ⟨rfl, by simp, fun h => absurd rfl h⟩, ⟨rfl, by simp, fun h => absurd rfl h⟩, rfl, by omega, fun h => absurd rfl h⟩
def numF6 (x : Ev) : Int := if x.n < 0 then 1 else if evF x (bareE x.k x.n) = true then 0 else 1
set_option maxHeartbeats 4000000 in
set_option maxRecDepth 100000 in
theorem mayNumber_any (x : Ev) (Ab : Option Addr) (nb zb : Nat) (Aa : Option Addr) (na za : Nat) (A : Option Addr) (n c : Nat) (w : World) (h : EvAt w (.agg #[.int .i64 x.k, .int .i64 x.n, .string x.t, .slice Ab nb zb, .slice Aa na za, .int .i64 x.ck, .string x.ct, .slice A n c, .int .i64 x.K, .string x.cl.nm, .int .i64 x.cl.k, .bool x.cl.no]) x) :
 Calls Tryz.prog 57 #[.agg #[.int .i64 x.k, .int .i64 x.n, .string x.t, .slice Ab nb zb, .slice Aa na za, .int .i64 x.ck, .string x.ct, .slice A n c, .int .i64 x.K, .string x.cl.nm, .int .i64 x.cl.k, .bool x.cl.no]] w fun e w' => e = .returned (.int .i64 (numF6 x)) ∧ Hid (Below w.heap.size w w') := by
 have HB := Lib.hid ((Below.refl w.heap.size w).alloc (Nat.le_refl _) (.cells #[.int .i64 x.k, .int .i64 x.n, .string x.t, .slice Ab nb zb, .slice Aa na za, .int .i64 x.ck, .string x.ct, .slice A n c, .int .i64 x.K, .string x.cl.nm, .int .i64 x.cl.k, .bool x.cl.no] 61))
 have HS := Lib.hid (esame_any _ _ x (bareE x.k x.n) _ (h.below HB.out) (bare_at _ x.k x.n))
 clear h
 by_cases hlt : x.n < 0
 ·have HF : Hid (numF6 x = 1) := by show _ = _; unfold numF6; rw [if_pos hlt]
  obtain ⟨k, m, t, B, AA, ck, ct, L, K, ⟨cn, cq, cb⟩⟩ := x
  have hlt2 : m < 0 := hlt
  clear hlt HS
  go_enter Tryz.func57, Tryz.ntmps57
  go_wp2_with fail
  go_ret
  exact ⟨by rw [HF.out]; rfl, HB⟩
 ·have hF : numF6 x = if evF x (bareE x.k x.n) = true then 0 else 1 := by unfold numF6; rw [if_neg hlt]
  cases hs : evF x (bareE x.k x.n) with
  | true =>
    rw [hs] at HS hF
    have HF := Lib.hid hF
    obtain ⟨k, m, t, B, AA, ck, ct, L, K, ⟨cn, cq, cb⟩⟩ := x
    have hlt2 : ¬ m < 0 := hlt
    clear hlt hs hF
    go_enter Tryz.func57, Tryz.ntmps57
    go_wp2_with fail
    refine HS.out.mono ?_
    rintro e w1 ⟨rfl, hb1⟩
    have HB1 := Lib.hid (HB.out.trans (hb1.out.mono HB.out.size))
    clear hb1 HS
    go_wp2_with fail
    go_ret
    exact ⟨by rw [HF.out]; rfl, HB1⟩
  | false =>
    rw [hs] at HS hF
    have HF := Lib.hid hF
    obtain ⟨k, m, t, B, AA, ck, ct, L, K, ⟨cn, cq, cb⟩⟩ := x
    have hlt2 : ¬ m < 0 := hlt
    clear hlt hs hF
    go_enter Tryz.func57, Tryz.ntmps57
    go_wp2_with fail
    refine HS.out.mono ?_
    rintro e w1 ⟨rfl, hb1⟩
    have HB1 := Lib.hid (HB.out.trans (hb1.out.mono HB.out.size))
    clear hb1 HS
    go_wp2_with fail
    go_ret
    exact ⟨by rw [HF.out]; rfl, HB1⟩
theorem natInt_beq (a b : Nat) : ((a : Int) == (b : Int)) = (a == b) := by
 rw [Bool.eq_iff_iff, beq_iff_eq, beq_iff_eq]
 omega
def isKeyF (M : List Cl) (k : Nat) (R : List Vl) : Bool := (beginsF M R k && (R.take k).all Vl.may) && R.length == k
set_option maxHeartbeats 4000000 in
set_option maxRecDepth 100000 in
theorem isKey_any (A : Option Addr) (M : List Cl) (n c : Nat) (kk : Nat) (Ar : Option Addr) (R : List Vl) (nr cr : Nat) (w : World) (hn : M.length = n) (hkn : kk ≤ n) (hk4 : kk ≤ 4) (hnc : n ≤ c) (hncr : nr ≤ cr) (hcm : (nr : Int) ≤ 9223372036854775807) (hA : CRow w A M) (hnr : R.length = nr) (hR : VRow w Ar R) (hf : ∀ x ∈ R, x.fit) (hTb : Tabs w) :
 Calls Tryz.prog 91 #[.agg #[.slice A n c, .int .i64 kk], .slice Ar nr cr] w fun e w' => e = .returned (.bool (isKeyF M kk R)) ∧ Hid (Below w.heap.size w w') := by
 have HB := Lib.hid ((Below.refl w.heap.size w).alloc (Nat.le_refl _) (.cells #[.slice A n c, .int .i64 kk] 39))
 have HX := Lib.hid (Has.new w 39 #[.slice A n c, .int .i64 kk])
 have HK := Lib.hid (skey_any A M n c kk Ar R nr cr _ hn hkn hk4 hnc hncr (hA.below HB.out) hnr (hR.below HB.out) hf (hTb.below HB.out))
 have hF : isKeyF M kk R = ((beginsF M R kk && (R.take kk).all Vl.may) && nr == kk) := by unfold isKeyF; rw [hnr]
 unfold skT at HK
 clear hn hA hnr hR hf hTb
 cases hk : (beginsF M R kk && (R.take kk).all Vl.may) with
 | true =>
   rw [hk, Bool.true_and] at hF
   rw [hk, if_pos rfl] at HK
   have HF := Lib.hid hF
   clear hk hF
   go_enter Tryz.func91, Tryz.ntmps91
   go_wp2_with fail
   refine HK.out.mono ?_
   rintro e w1 ⟨rfl, hb1⟩
   have HB1 := Lib.hid (HB.out.trans (hb1.out.mono HB.out.size))
   have HX1 := Lib.hid (HX.out.below hb1.out HX.out.lt)
   have x1 : w1.cell? ⟨w.heap.size, 1, none⟩ = some (.int .i64 kk) := HX1.out.cell 1
   clear hb1 HK
   go_wp2_with fail
   go_ret
   exact ⟨by rw [HF.out, ← natInt_beq]; rfl, HB1⟩
 | false =>
   rw [hk, Bool.false_and] at hF
   rw [hk, if_neg (by simp)] at HK
   have HF := Lib.hid hF
   clear hk hF
   go_enter Tryz.func91, Tryz.ntmps91
   go_wp2_with fail
   refine HK.out.mono ?_
   rintro e w1 ⟨rfl, hb1⟩
   have HB1 := Lib.hid (HB.out.trans (hb1.out.mono HB.out.size))
   clear hb1 HK
   go_wp2_with fail
   go_ret
   exact ⟨by rw [HF.out]; rfl, HB1⟩
theorem tfV_at {T : List Tb} {s : ByteArray} {w : World} (hS : SortT T) (hI : TOks w T) (hG : ∀ y ∈ T, ∃ k : Nat, y.K = (k : Int) ∧ k ≤ y.L.length ∧ k ≤ 4) :
 ∃ (A : Option Addr) (n c kk : Nat), tfV T s = .tuple #[.agg #[.slice A n c, .int .i64 kk], .bool (plF T s)] ∧ (tfL T s).length = n ∧ n ≤ 900 ∧ n ≤ c ∧ CRow w A (tfL T s) ∧ tfK T s = (kk : Int) ∧ kk ≤ n ∧ kk ≤ 4 := by
 cases hp : plF T s with
 | true =>
   have hl : lbN T s < T.length := by
    apply Classical.byContradiction
    intro hn
    unfold plF at hp
    simp [List.getElem?_eq_none (by omega : T.length ≤ lbN T s)] at hp
   have hm := List.getElem_mem hl
   obtain ⟨k, e1, e2, e3⟩ := hG _ hm
   have ok := hI _ hm
   obtain ⟨f1, f2⟩ := tfL_yes hp hl
   rw [tfV_yes hp hl, f1, f2, e1]
   exact ⟨_, _, _, k, rfl, ok.len, ok.few, ok.cap, ok.row, rfl, by rw [← ok.len]; exact e2, e3⟩
 | false =>
   obtain ⟨f1, f2⟩ := tfL_no hS hp
   rw [tfV_no hS hp, f1, f2]
   exact ⟨none, 0, 0, 0, rfl, rfl, by omega, by omega, fun h => absurd rfl h, rfl, by omega, by omega⟩
def ownE (x : Ev) : Ev := if x.k = 5 then ⟨x.k, 0, x.t, x.B, [], 0, ⟨#[]⟩, [], 0, ⟨⟨#[]⟩, 0, false⟩⟩ else ⟨x.k, 0, x.t, [], x.A, 0, ⟨#[]⟩, [], 0, ⟨⟨#[]⟩, 0, false⟩⟩
def rowFits (x : Ev) (T : List Tb) : Bool := if x.k = 5 then isKeyF (tfL T x.t) (tfK T x.t).toNat x.B else fitsF (tfL T x.t) x.A
def rowG6 (x : Ev) (T : List Tb) : Int := if plF T x.t = false then 7 else if rowFits x T = false then 9 else if evF x (ownE x) = true then 0 else 1
set_option maxHeartbeats 8000000 in
set_option maxRecDepth 100000 in
theorem mayRow5_any (x : Ev) (Ab : Option Addr) (nb zb : Nat) (Aa : Option Addr) (na za : Nat) (A : Option Addr) (n c : Nat) (At : Option Addr) (nt ct : Nat) (T : List Tb) (w : World) (h : EvAt w (.agg #[.int .i64 x.k, .int .i64 x.n, .string x.t, .slice Ab nb zb, .slice Aa na za, .int .i64 x.ck, .string x.ct, .slice A n c, .int .i64 x.K, .string x.cl.nm, .int .i64 x.cl.k, .bool x.cl.no]) x) (hk : x.k = 5) (hB : x.B.length = nb ∧ nb ≤ zb ∧ VRow w Ab x.B ∧ ∀ y ∈ x.B, y.fit) (hT : T.length = nt) (hl : nt ≤ 1000) (hA : TRow w At T) (hI : TOks w T) (hS : SortT T) (hG : ∀ y ∈ T, ∃ k : Nat, y.K = (k : Int) ∧ k ≤ y.L.length ∧ k ≤ 4) (hTb : Tabs w) (hnb : (nb : Int) ≤ 9223372036854775807) :
 Calls Tryz.prog 58 #[.agg #[.int .i64 x.k, .int .i64 x.n, .string x.t, .slice Ab nb zb, .slice Aa na za, .int .i64 x.ck, .string x.ct, .slice A n c, .int .i64 x.K, .string x.cl.nm, .int .i64 x.cl.k, .bool x.cl.no], .slice At nt ct] w fun e w' => e = .returned (.int .i64 (rowG6 x T)) ∧ Hid (Below w.heap.size w w') := by
 have hb0 := (Below.refl w.heap.size w).alloc (Nat.le_refl _) (.cells #[.int .i64 x.k, .int .i64 x.n, .string x.t, .slice Ab nb zb, .slice Aa na za, .int .i64 x.ck, .string x.ct, .slice A n c, .int .i64 x.K, .string x.cl.nm, .int .i64 x.cl.k, .bool x.cl.no] 61)
 have HB := Lib.hid hb0
 have HE := Lib.hid (Has.new w 61 #[.int .i64 x.k, .int .i64 x.n, .string x.t, .slice Ab nb zb, .slice Aa na za, .int .i64 x.ck, .string x.ct, .slice A n c, .int .i64 x.K, .string x.cl.nm, .int .i64 x.cl.k, .bool x.cl.no])
 have HF := Lib.hid (pfind_any At T nt ct x.t _ hT hl (hA.below hb0) hS)
 obtain ⟨As, ns, cs, kk, etf, q1, q2, q3, q4, q5, q6, q7⟩ := tfV_at (s := x.t) hS (fun y hy => (hI y hy).below hb0) hG
 rw [etf] at HF
 have hfit : rowFits x T = isKeyF (tfL T x.t) kk x.B := by unfold rowFits; rw [if_pos hk, q5]; rfl
 have hown : ownE x = ⟨x.k, 0, x.t, x.B, [], 0, ⟨#[]⟩, [], 0, ⟨⟨#[]⟩, 0, false⟩⟩ := by unfold ownE; rw [if_pos hk]
 have hrg : rowG6 x T = if plF T x.t = false then 7 else if isKeyF (tfL T x.t) kk x.B = false then 9 else if evF x ⟨x.k, 0, x.t, x.B, [], 0, ⟨#[]⟩, [], 0, ⟨⟨#[]⟩, 0, false⟩⟩ = true then 0 else 1 := by unfold rowG6; rw [hfit, hown]
 have HRG := Lib.hid hrg
 have HQ := Lib.hid q4
 have HBR := Lib.hid hB
 have HTB := Lib.hid hTb
 have HEV := Lib.hid h
 have HQ1 := Lib.hid q1
 clear hfit hown hrg q4 hB hTb h q1 hA hI hS hG etf q5 hb0
 generalize plF T x.t = ok at *
 generalize tfL T x.t = M at *
 obtain ⟨k, m, t, B, AA, ck, tn, L, K, ⟨cn, cq, cb⟩⟩ := x
 have hk5 : k = 5 := hk
 subst hk5
 clear hk
 go_enter Tryz.func58, Tryz.ntmps58
 go_wp2_with fail
 refine HF.out.mono ?_
 rintro e w1 ⟨rfl, hb1⟩
 have HB1 := Lib.hid (HB.out.trans (hb1.out.mono HB.out.size))
 have HQ1b := Lib.hid (HQ.out.below hb1.out)
 have HE1 := Lib.hid (HE.out.below hb1.out HE.out.lt)
 clear hb1 HF
 have x0 : w1.cell? ⟨w.heap.size, 0, none⟩ = some (.int .i64 5) := HE1.out.cell 0
 have x2 : w1.cell? ⟨w.heap.size, 2, none⟩ = some (.string t) := HE1.out.cell 2
 have xa0 : (w1.alloc (.cells #[.slice As ns cs, .int .i64 kk] 39)).cell? ⟨w.heap.size, 0, none⟩ = some (.int .i64 5) := (HE1.out.alloc _).cell 0
 have xa2 : (w1.alloc (.cells #[.slice As ns cs, .int .i64 kk] 39)).cell? ⟨w.heap.size, 2, none⟩ = some (.string t) := (HE1.out.alloc _).cell 2
 obtain ⟨w2, HW2⟩ : ∃ w2, Hid (w2 = (w1.alloc (.cells #[.slice As ns cs, .int .i64 kk] 39)).alloc (.cells #[.int .i64 5, .int .i64 0, .string t, .slice none 0 0, .slice none 0 0, .int .i64 0, .string ⟨#[]⟩, .slice none 0 0, .int .i64 0, .string ⟨#[]⟩, .int .i64 0, .bool false] 61)) := ⟨_, rfl⟩
 have b2 : Below w1.heap.size w1 w2 := by rw [HW2.out]; exact ((Below.refl _ w1).alloc (Nat.le_refl _) _).alloc (by simp) _
 have s2 : Has w2 w1.heap.size 39 #[.slice As ns cs, .int .i64 kk] := by rw [HW2.out]; exact (Has.new w1 _ _).alloc _
 have o2 : Has w2 (w1.heap.size + 1) 61 #[.int .i64 5, .int .i64 0, .string t, .slice none 0 0, .slice none 0 0, .int .i64 0, .string ⟨#[]⟩, .slice none 0 0, .int .i64 0, .string ⟨#[]⟩, .int .i64 0, .bool false] := by
  rw [HW2.out]
  have := Has.new (w1.alloc (.cells #[.slice As ns cs, .int .i64 kk] 39)) 61 #[.int .i64 5, .int .i64 0, .string t, .slice none 0 0, .slice none 0 0, .int .i64 0, .string ⟨#[]⟩, .slice none 0 0, .int .i64 0, .string ⟨#[]⟩, .int .i64 0, .bool false]
  rw [World.size_alloc] at this
  exact this
 have HE2 := Lib.hid (HE1.out.below b2 HE1.out.lt)
 have HB2 := Lib.hid (HB1.out.trans (b2.mono HB1.out.size))
 have HQ2 := Lib.hid (HQ1b.out.below b2)
 have HS2 := Lib.hid s2
 have HO2 := Lib.hid o2
 have z0 : ((w1.alloc (.cells #[.slice As ns cs, .int .i64 kk] 39)).alloc (.cells #[.int .i64 5, .int .i64 0, .string t, .slice none 0 0, .slice none 0 0, .int .i64 0, .string ⟨#[]⟩, .slice none 0 0, .int .i64 0, .string ⟨#[]⟩, .int .i64 0, .bool false] 61)).cell? ⟨w.heap.size, 0, none⟩ = some (.int .i64 5) := ((HE1.out.alloc _).alloc _).cell 0
 clear b2 s2 o2
 go_wp2_with fail
 rw [← HW2.out]
 have lt1 : w.heap.size < w1.heap.size := HE1.out.lt
 clear z0 x0 x2 xa0 xa2 HE1 HB1
 have y3 : w2.cell? ⟨w.heap.size, 3, none⟩ = some (.slice Ab nb zb) := HE2.out.cell 3
 have y4 : w2.cell? ⟨w1.heap.size, 0, none⟩ = some (.slice As ns cs) := HS2.out.cell 0
 have y5 : w2.cell? ⟨w1.heap.size, 1, none⟩ = some (.int .i64 kk) := HS2.out.cell 1
 have HD2 := Lib.hid ((Below.refl w2.heap.size w2).drew)
 have HC := Lib.hid (isKey_any As M ns cs kk Ab B nb zb w2.drew HQ1.out q6 q7 q3 HBR.out.2.1 hnb (HQ2.out.below HD2.out) HBR.out.1 ((HBR.out.2.2.1.below HB2.out).below HD2.out) HBR.out.2.2.2 ((HTB.out.below HB2.out).below HD2.out))
 have hS0 : (fun X : World => X.cell? ⟨w.heap.size, 3, none⟩ = some (.slice Ab nb zb) ∧ X.cell? ⟨w1.heap.size, 0, none⟩ = some (.slice As ns cs) ∧ X.cell? ⟨w1.heap.size, 1, none⟩ = some (.int .i64 kk)) w2.drew := ⟨y3, y4, y5⟩
 refine wp_region_held_drew (S := (fun X : World => X.cell? ⟨w.heap.size, 3, none⟩ = some (.slice Ab nb zb) ∧ X.cell? ⟨w1.heap.size, 0, none⟩ = some (.slice As ns cs) ∧ X.cell? ⟨w1.heap.size, 1, none⟩ = some (.int .i64 kk))) (by kernel_rfl) hS0 (fun _ => ?_)
 (refine wpAnyH_take (i := 0) (v := ?_) rfl (by kernel_rfl) (by kernel_rfl) (by kernel_rfl) (fun _ _ _ h => h) (Or.inl ⟨by rfl, ?_⟩) (by assumption) ?_; rotate_left; (intro w hSw; (try dsimp only at hSw); go_simp; try with_reducible rfl); ((try simp only [zA, zB, zC, Act.put, zD, zE, zF])))
 (refine wpAnyH_take (i := 1) (v := ?_) rfl (by kernel_rfl) (by kernel_rfl) (by kernel_rfl) (fun _ _ _ h => h) (Or.inl ⟨by rfl, ?_⟩) (by assumption) ?_; rotate_left; (intro w hSw; (try dsimp only at hSw); go_simp; try with_reducible rfl); ((try simp only [zA, zB, zC, Act.put, zD, zE, zF])))
 (refine wpAnyH_take (i := 2) (v := ?_) rfl (by kernel_rfl) (by kernel_rfl) (by kernel_rfl) (fun _ _ _ h => h) (Or.inl ⟨by rfl, ?_⟩) (by assumption) ?_; rotate_left; (intro w hSw; (try dsimp only at hSw); go_simp; try with_reducible rfl); ((try simp only [zA, zB, zC, Act.put, zD, zE, zF])))
 (refine wpAnyH_take (i := 3) (v := ?_) rfl (by kernel_rfl) (by kernel_rfl) (by kernel_rfl) (fun _ _ _ h => h) (Or.inl ⟨by rfl, ?_⟩) (by assumption) ?_; rotate_left; (intro w hSw; (try dsimp only at hSw); go_simp; try with_reducible rfl); ((try simp only [zA, zB, zC, Act.put, zD, zE, zF])))
 (refine wpAnyH_take (i := 4) (v := ?_) rfl (by kernel_rfl) (by kernel_rfl) (by kernel_rfl) (fun _ _ _ h => h) (Or.inl ⟨by rfl, ?_⟩) (by assumption) ?_; rotate_left; (intro w hSw; (try dsimp only at hSw); go_simp; try with_reducible rfl); ((try simp only [zA, zB, zC, Act.put, zD, zE, zF])))
 (refine wpAnyH_take (i := 6) (v := ?_) rfl (by kernel_rfl) (by kernel_rfl) (by kernel_rfl) (fun _ _ _ h => h) (Or.inl ⟨by rfl, ?_⟩) (by assumption) ?_; rotate_left; (intro w hSw; (try dsimp only at hSw); go_simp; try with_reducible rfl); ((try simp only [zA, zB, zC, Act.put, zD, zE, zF])))
 refine wpAnyH_ready (rs := [5]) (by kernel_rfl) (by simp) ?_
 refine AllReadyH.cons rfl (fun K2 hK2 => ?_) AllReadyH.nil
 go_simp
 refine (HC.out).mono ?_
 rintro e w3 ⟨rfl, hb3⟩
 have HB3 := Lib.hid (HD2.out.trans hb3.out)
 have z3 := keepC HB3.out y3
 have z4 := keepC HB3.out y4
 have z5 := keepC HB3.out y5
 have HO3 := Lib.hid (HO2.out.below HB3.out HO2.out.lt)
 have o3 : w3.cell? ⟨w1.heap.size + 1, 3, none⟩ = some (.slice none 0 0) := HO3.out.cell 3
 go_wp2_with fail
 refine hK2.out _ _ (by (try dsimp only); exact ⟨z3, z4, z5⟩) (fun _ => ?_)
 clear hK2 K2 HC hb3 hS0 y3 y4 y5
 ((try simp only [zA, zB, zC, Act.put, zD, zE, zF]))
 have HB23 := Lib.hid (HB2.out.trans (HB3.out.mono HB2.out.size))
 have HE3 := Lib.hid (HE2.out.below HB3.out HE2.out.lt)
 have HS3 := Lib.hid (HS2.out.below HB3.out HS2.out.lt)
 have f3 : w3.frozen? ⟨w1.heap.size + 1, 3, none⟩ = false := HO3.out.free 3
 have HO4 : Hid (Has (w3.setCell ⟨w1.heap.size + 1, 3, none⟩ (.slice Ab nb zb)) (w1.heap.size + 1) 61 #[.int .i64 5, .int .i64 0, .string t, .slice Ab nb zb, .slice none 0 0, .int .i64 0, .string ⟨#[]⟩, .slice none 0 0, .int .i64 0, .string ⟨#[]⟩, .int .i64 0, .bool false]) := HO3.out.put 3 _
 have HE4 : Hid (Has (w3.setCell ⟨w1.heap.size + 1, 3, none⟩ (.slice Ab nb zb)) w.heap.size 61 _) := HE3.out.far (by show w.heap.size ≠ w1.heap.size + 1; omega) _
 have HS4 : Hid (Has (w3.setCell ⟨w1.heap.size + 1, 3, none⟩ (.slice Ab nb zb)) w1.heap.size 39 _) := HS3.out.far (by show w1.heap.size ≠ w1.heap.size + 1; omega) _
 have HB4 : Hid (Below w.heap.size w (w3.setCell ⟨w1.heap.size + 1, 3, none⟩ (.slice Ab nb zb))) := HB23.out.setCell (by show w.heap.size ≤ w1.heap.size + 1; omega) _
 generalize hw4 : w3.setCell ⟨w1.heap.size + 1, 3, none⟩ (.slice Ab nb zb) = w4 at HO4 HE4 HS4 HB4
 refine wpAnyH_ready (rs := [7]) (by kernel_rfl) (by simp) ?_
 refine AllReadyH.cons rfl (fun K2 hK2 => ?_) AllReadyH.nil
 go_simp
 refine hK2.out _ _ (by (try dsimp only); exact ⟨HE4.out.cell 3, HS4.out.cell 0, HS4.out.cell 1⟩) (fun _ => ?_)
 clear hK2 K2 z3 z4 z5 o3 f3 HB23 HE3 HS3 HO3 hw4 HB3 HE2 HS2 HO2 HB2 HW2 HD2 HQ2 HQ1b
 ((try simp only [zA, zB, zC, Act.put, zD, zE, zF]))
 (refine wpAnyH_take (i := 8) (v := ?_) rfl (by kernel_rfl) (by kernel_rfl) (by kernel_rfl) (fun _ _ _ h => h) (Or.inl ⟨by rfl, ?_⟩) (by assumption) ?_; rotate_left; (intro w hSw; (try dsimp only at hSw); go_simp; try with_reducible rfl); ((try simp only [zA, zB, zC, Act.put, zD, zE, zF])))
 refine wpAnyH_done (by kernel_rfl) ?_ _
 cases ok with
 | false =>
   go_wp2_with fail
   go_ret
   exact ⟨by rw [HRG.out]; rfl, HB4⟩
 | true =>
   cases hf : isKeyF M kk B with
   | false =>
     rw [hf] at HRG
     go_wp2_with fail
     go_ret
     exact ⟨by rw [HRG.out]; rfl, HB4⟩
   | true =>
     rw [hf] at HRG
     have HS := Lib.hid (esame_any _ _ _ (⟨5, 0, t, B, [], 0, ⟨#[]⟩, [], 0, ⟨⟨#[]⟩, 0, false⟩⟩ : Ev) _ (HEV.out.below HB4.out) (⟨Ab, nb, zb, none, 0, 0, none, 0, 0, rfl, ⟨HBR.out.1, hnb, HBR.out.2.2.1.below HB4.out⟩, ⟨rfl, by simp, fun h => absurd rfl h⟩, rfl, by omega, fun h => absurd rfl h⟩ : EvAt w4 (.agg #[.int .i64 5, .int .i64 0, .string t, .slice Ab nb zb, .slice none 0 0, .int .i64 0, .string ⟨#[]⟩, .slice none 0 0, .int .i64 0, .string ⟨#[]⟩, .int .i64 0, .bool false]) _))
     have e0 : w4.cell? ⟨w.heap.size, 0, none⟩ = some (.int .i64 5) := HE4.out.cell 0
     have e1 : w4.cell? ⟨w.heap.size, 1, none⟩ = some (.int .i64 m) := HE4.out.cell 1
     have e2 : w4.cell? ⟨w.heap.size, 2, none⟩ = some (.string t) := HE4.out.cell 2
     have e3 : w4.cell? ⟨w.heap.size, 3, none⟩ = some (.slice Ab nb zb) := HE4.out.cell 3
     have e4 : w4.cell? ⟨w.heap.size, 4, none⟩ = some (.slice Aa na za) := HE4.out.cell 4
     have e5 : w4.cell? ⟨w.heap.size, 5, none⟩ = some (.int .i64 ck) := HE4.out.cell 5
     have e6 : w4.cell? ⟨w.heap.size, 6, none⟩ = some (.string tn) := HE4.out.cell 6
     have e7 : w4.cell? ⟨w.heap.size, 7, none⟩ = some (.slice A n c) := HE4.out.cell 7
     have e8 : w4.cell? ⟨w.heap.size, 8, none⟩ = some (.int .i64 K) := HE4.out.cell 8
     have e9 : w4.cell? ⟨w.heap.size, 9, none⟩ = some (.string cn) := HE4.out.cell 9
     have e10 : w4.cell? ⟨w.heap.size, 10, none⟩ = some (.int .i64 cq) := HE4.out.cell 10
     have e11 : w4.cell? ⟨w.heap.size, 11, none⟩ = some (.bool cb) := HE4.out.cell 11
     have o0 : w4.cell? ⟨w1.heap.size + 1, 0, none⟩ = some (.int .i64 5) := HO4.out.cell 0
     have o1 : w4.cell? ⟨w1.heap.size + 1, 1, none⟩ = some (.int .i64 0) := HO4.out.cell 1
     have o2 : w4.cell? ⟨w1.heap.size + 1, 2, none⟩ = some (.string t) := HO4.out.cell 2
     have o3 : w4.cell? ⟨w1.heap.size + 1, 3, none⟩ = some (.slice Ab nb zb) := HO4.out.cell 3
     have o4 : w4.cell? ⟨w1.heap.size + 1, 4, none⟩ = some (.slice none 0 0) := HO4.out.cell 4
     have o5 : w4.cell? ⟨w1.heap.size + 1, 5, none⟩ = some (.int .i64 0) := HO4.out.cell 5
     have o6 : w4.cell? ⟨w1.heap.size + 1, 6, none⟩ = some (.string ⟨#[]⟩) := HO4.out.cell 6
     have o7 : w4.cell? ⟨w1.heap.size + 1, 7, none⟩ = some (.slice none 0 0) := HO4.out.cell 7
     have o8 : w4.cell? ⟨w1.heap.size + 1, 8, none⟩ = some (.int .i64 0) := HO4.out.cell 8
     have o9 : w4.cell? ⟨w1.heap.size + 1, 9, none⟩ = some (.string ⟨#[]⟩) := HO4.out.cell 9
     have o10 : w4.cell? ⟨w1.heap.size + 1, 10, none⟩ = some (.int .i64 0) := HO4.out.cell 10
     have o11 : w4.cell? ⟨w1.heap.size + 1, 11, none⟩ = some (.bool false) := HO4.out.cell 11
     clear hf HEV HBR HTB
     go_wp2_with fail
     refine HS.out.mono ?_
     rintro e w5 ⟨rfl, hb5⟩
     have HB5 := Lib.hid (HB4.out.trans (hb5.out.mono HB4.out.size))
     clear HS hb5 e0 e1 e2 e3 e4 e5 e6 e7 e8 e9 e10 e11 o0 o1 o2 o3 o4 o5 o6 o7 o8 o9 o10 o11
     generalize evF _ _ = q at *
     cases q <;> go_wp2_with fail
     ·go_ret
      exact ⟨by rw [HRG.out]; rfl, HB5⟩
     ·go_ret
      exact ⟨by rw [HRG.out]; rfl, HB5⟩
theorem does_cases {M : List Cl} {k : Nat} {ck : Int} {nm : ByteArray} {kd : Int} {no : Bool} (_hk : k ≤ M.length) (h : (doesF M k ck nm kd no).e = 0) :
 (ck = 3 ∧ findI M nm < 0 ∧ kindF kd = true ∧ nameF nm = true ∧ M.length < 16 ∧ doesF M k ck nm kd no = ⟨M.length, M.length, 1, 0⟩) ∨
 (∃ i : Nat, findI M nm = i ∧ k ≤ i ∧ i < M.length ∧ ((ck = 4 ∧ doesF M k ck nm kd no = ⟨i, i + 1, 0, 0⟩) ∨ (ck = 5 ∧ kindF kd = true ∧ doesF M k ck nm kd no = ⟨i, i + 1, 1, 0⟩))) := by
 by_cases h3 : ck = 3
 ·subst h3
  left
  by_cases hall : (nameF nm && kindF kd && no) = true
  ·by_cases h0 : 0 ≤ findI M nm
   ·rw [dA_exist hall rfl h0] at h; cases h
   ·by_cases h1 : 16 ≤ M.length
    ·rw [dA_full hall rfl (by omega) h1] at h; cases h
    ·have h2 := hall
     simp only [Bool.and_eq_true] at h2
     exact ⟨rfl, by omega, h2.1.2, h2.1.1, by omega, dA_ok hall rfl (by omega) (by omega)⟩
  ·rw [dA_arg (by simpa using hall)] at h; cases h
 ·right
  have hlt := findI_lt M nm
  by_cases h4 : ck = 4
  ·subst h4
   by_cases h0 : findI M nm < 0
   ·rw [dC_none rfl h0] at h; cases h
   ·by_cases h1 : findI M nm < k
    ·rw [dC_key rfl (by omega) h1] at h; cases h
    ·obtain ⟨i, hi⟩ := Int.eq_ofNat_of_zero_le (show 0 ≤ findI M nm by omega)
     exact ⟨i, hi, by omega, by omega, .inl ⟨rfl, dC_ok hi (by omega)⟩⟩
  ·by_cases h5 : ck = 5
   ·subst h5
    by_cases h0 : findI M nm < 0
    ·rw [dR_none rfl h0] at h; cases h
    ·by_cases h1 : findI M nm < k
     ·rw [dR_key rfl (by omega) h1] at h; cases h
     ·obtain ⟨i, hi⟩ := Int.eq_ofNat_of_zero_le (show 0 ≤ findI M nm by omega)
      have hil : i < M.length := by omega
      cases hno : M[i].no
      ·rw [dR_must hil hi hno] at h; cases h
      ·cases hkd : kindF kd
       ·rw [dR_kind hil hi hno (by omega) hkd] at h; cases h
       ·exact ⟨i, hi, by omega, hil, .inr ⟨rfl, rfl, dR_ok hil hi hno (by omega) hkd⟩⟩
   ·rw [d_kind h3 h4 h5] at h; cases h
def Apart (M : List Cl) : Prop := (M.map fun c => c.nm.toList).Pairwise (· ≠ ·)
def Each (M : List Cl) : Prop := ∀ c ∈ M, nameF c.nm = true ∧ kindF c.k = true
theorem cols_parts {M : List Cl} (h : Cols M) : Each M ∧ Apart M := by
 constructor
 ·intro c hc
  obtain ⟨i, hi, rfl⟩ := List.getElem_of_mem hc
  obtain ⟨h1, _, h3⟩ := h i hi
  exact ⟨h1, h3⟩
 ·unfold Apart
  rw [List.pairwise_iff_getElem]
  intro i j hi hj hij e
  rw [List.length_map] at hi hj
  rw [List.getElem_map, List.getElem_map] at e
  have := findI_first hj (h j hj).2.1 i hij
  rw [e] at this
  simp at this
theorem cols_of {M : List Cl} (h : Each M) (ha : Apart M) : Cols M := by
 intro i hi
 obtain ⟨h1, h3⟩ := h M[i] (List.getElem_mem hi)
 refine ⟨h1, findI_at hi (by simp) fun j hj => ?_, h3⟩
 unfold Apart at ha
 rw [List.pairwise_iff_getElem] at ha
 have := ha j i (by rw [List.length_map]; omega) (by rw [List.length_map]; omega) hj
 rw [List.getElem_map, List.getElem_map] at this
 simpa using this
theorem may_of {M : List Cl} {k : Nat} (hc : Cols M) (h0 : 1 ≤ M.length) (h1 : M.length ≤ 16) (h2 : 1 ≤ k) (h3 : k ≤ 4) (h4 : k ≤ M.length) (hn : ∀ i (h : i < M.length), i < k → M[i].no = false) : smayF M k = true := by
 rw [smayF_yes h0 h1 (by omega) (by omega) (by omega)]
 unfold colsTo
 rw [List.all_eq_true]
 intro i hi
 have hi' : i < M.length := List.mem_range.1 hi
 obtain ⟨q1, q2, q3⟩ := hc i hi'
 rw [colOk_at M k i hi', q1, q2, q3]
 by_cases hk : i < k
 ·rw [hn i hi' hk]; simp
 ·simp; omega
set_option maxHeartbeats 8000000 in
set_option maxRecDepth 100000 in
theorem mayRow3_any (x : Ev) (Ab : Option Addr) (nb zb : Nat) (Aa : Option Addr) (na za : Nat) (A : Option Addr) (n c : Nat) (At : Option Addr) (nt ct : Nat) (T : List Tb) (w : World) (h : EvAt w (.agg #[.int .i64 x.k, .int .i64 x.n, .string x.t, .slice Ab nb zb, .slice Aa na za, .int .i64 x.ck, .string x.ct, .slice A n c, .int .i64 x.K, .string x.cl.nm, .int .i64 x.cl.k, .bool x.cl.no]) x) (hk : x.k = 3) (hB : x.A.length = na ∧ na ≤ za ∧ VRow w Aa x.A ∧ ∀ y ∈ x.A, y.fit) (hT : T.length = nt) (hl : nt ≤ 1000) (hA : TRow w At T) (hI : TOks w T) (hS : SortT T) (hG : ∀ y ∈ T, ∃ k : Nat, y.K = (k : Int) ∧ k ≤ y.L.length ∧ k ≤ 4) (hTb : Tabs w) (hnb : (na : Int) ≤ 9223372036854775807) :
 Calls Tryz.prog 58 #[.agg #[.int .i64 x.k, .int .i64 x.n, .string x.t, .slice Ab nb zb, .slice Aa na za, .int .i64 x.ck, .string x.ct, .slice A n c, .int .i64 x.K, .string x.cl.nm, .int .i64 x.cl.k, .bool x.cl.no], .slice At nt ct] w fun e w' => e = .returned (.int .i64 (rowG6 x T)) ∧ Hid (Below w.heap.size w w') := by
 have hb0 := (Below.refl w.heap.size w).alloc (Nat.le_refl _) (.cells #[.int .i64 x.k, .int .i64 x.n, .string x.t, .slice Ab nb zb, .slice Aa na za, .int .i64 x.ck, .string x.ct, .slice A n c, .int .i64 x.K, .string x.cl.nm, .int .i64 x.cl.k, .bool x.cl.no] 61)
 have HB := Lib.hid hb0
 have HE := Lib.hid (Has.new w 61 #[.int .i64 x.k, .int .i64 x.n, .string x.t, .slice Ab nb zb, .slice Aa na za, .int .i64 x.ck, .string x.ct, .slice A n c, .int .i64 x.K, .string x.cl.nm, .int .i64 x.cl.k, .bool x.cl.no])
 have HF := Lib.hid (pfind_any At T nt ct x.t _ hT hl (hA.below hb0) hS)
 obtain ⟨As, ns, cs, kk, etf, q1, q2, q3, q4, q5, q6, q7⟩ := tfV_at (s := x.t) hS (fun y hy => (hI y hy).below hb0) hG
 rw [etf] at HF
 have hfit : rowFits x T = fitsF (tfL T x.t) x.A := by unfold rowFits; rw [if_neg (by rw [hk]; decide)]
 have hown : ownE x = ⟨x.k, 0, x.t, [], x.A, 0, ⟨#[]⟩, [], 0, ⟨⟨#[]⟩, 0, false⟩⟩ := by unfold ownE; rw [if_neg (by rw [hk]; decide)]
 have hrg : rowG6 x T = if plF T x.t = false then 7 else if fitsF (tfL T x.t) x.A = false then 9 else if evF x ⟨x.k, 0, x.t, [], x.A, 0, ⟨#[]⟩, [], 0, ⟨⟨#[]⟩, 0, false⟩⟩ = true then 0 else 1 := by unfold rowG6; rw [hfit, hown]
 have HRG := Lib.hid hrg
 have HQ := Lib.hid q4
 have HBR := Lib.hid hB
 have HTB := Lib.hid hTb
 have HEV := Lib.hid h
 have HQ1 := Lib.hid q1
 clear hfit hown hrg q4 hB hTb h q1 hA hI hS hG etf q5 hb0
 generalize plF T x.t = ok at *
 generalize tfL T x.t = M at *
 obtain ⟨k, m, t, B, AA, ck, tn, L, K, ⟨cn, cq, cb⟩⟩ := x
 have hk5 : k = 3 := hk
 subst hk5
 clear hk
 go_enter Tryz.func58, Tryz.ntmps58
 go_wp2_with fail
 refine HF.out.mono ?_
 rintro e w1 ⟨rfl, hb1⟩
 have HB1 := Lib.hid (HB.out.trans (hb1.out.mono HB.out.size))
 have HQ1b := Lib.hid (HQ.out.below hb1.out)
 have HE1 := Lib.hid (HE.out.below hb1.out HE.out.lt)
 clear hb1 HF
 have x0 : w1.cell? ⟨w.heap.size, 0, none⟩ = some (.int .i64 3) := HE1.out.cell 0
 have x2 : w1.cell? ⟨w.heap.size, 2, none⟩ = some (.string t) := HE1.out.cell 2
 have xa0 : (w1.alloc (.cells #[.slice As ns cs, .int .i64 kk] 39)).cell? ⟨w.heap.size, 0, none⟩ = some (.int .i64 3) := (HE1.out.alloc _).cell 0
 have xa2 : (w1.alloc (.cells #[.slice As ns cs, .int .i64 kk] 39)).cell? ⟨w.heap.size, 2, none⟩ = some (.string t) := (HE1.out.alloc _).cell 2
 obtain ⟨w2, HW2⟩ : ∃ w2, Hid (w2 = (w1.alloc (.cells #[.slice As ns cs, .int .i64 kk] 39)).alloc (.cells #[.int .i64 3, .int .i64 0, .string t, .slice none 0 0, .slice none 0 0, .int .i64 0, .string ⟨#[]⟩, .slice none 0 0, .int .i64 0, .string ⟨#[]⟩, .int .i64 0, .bool false] 61)) := ⟨_, rfl⟩
 have b2 : Below w1.heap.size w1 w2 := by rw [HW2.out]; exact ((Below.refl _ w1).alloc (Nat.le_refl _) _).alloc (by simp) _
 have s2 : Has w2 w1.heap.size 39 #[.slice As ns cs, .int .i64 kk] := by rw [HW2.out]; exact (Has.new w1 _ _).alloc _
 have o2 : Has w2 (w1.heap.size + 1) 61 #[.int .i64 3, .int .i64 0, .string t, .slice none 0 0, .slice none 0 0, .int .i64 0, .string ⟨#[]⟩, .slice none 0 0, .int .i64 0, .string ⟨#[]⟩, .int .i64 0, .bool false] := by
  rw [HW2.out]
  have := Has.new (w1.alloc (.cells #[.slice As ns cs, .int .i64 kk] 39)) 61 #[.int .i64 3, .int .i64 0, .string t, .slice none 0 0, .slice none 0 0, .int .i64 0, .string ⟨#[]⟩, .slice none 0 0, .int .i64 0, .string ⟨#[]⟩, .int .i64 0, .bool false]
  rw [World.size_alloc] at this
  exact this
 have HE2 := Lib.hid (HE1.out.below b2 HE1.out.lt)
 have HB2 := Lib.hid (HB1.out.trans (b2.mono HB1.out.size))
 have HQ2 := Lib.hid (HQ1b.out.below b2)
 have HS2 := Lib.hid s2
 have HO2 := Lib.hid o2
 have z0 : ((w1.alloc (.cells #[.slice As ns cs, .int .i64 kk] 39)).alloc (.cells #[.int .i64 3, .int .i64 0, .string t, .slice none 0 0, .slice none 0 0, .int .i64 0, .string ⟨#[]⟩, .slice none 0 0, .int .i64 0, .string ⟨#[]⟩, .int .i64 0, .bool false] 61)).cell? ⟨w.heap.size, 0, none⟩ = some (.int .i64 3) := ((HE1.out.alloc _).alloc _).cell 0
 clear b2 s2 o2
 go_wp2_with fail
 rw [← HW2.out]
 have lt1 : w.heap.size < w1.heap.size := HE1.out.lt
 clear z0 x0 x2 xa0 xa2 HE1 HB1
 have y3 : w2.cell? ⟨w.heap.size, 4, none⟩ = some (.slice Aa na za) := HE2.out.cell 4
 have y4 : w2.cell? ⟨w1.heap.size, 0, none⟩ = some (.slice As ns cs) := HS2.out.cell 0
 have y5 : w2.cell? ⟨w1.heap.size, 1, none⟩ = some (.int .i64 kk) := HS2.out.cell 1
 have HD2 := Lib.hid ((Below.refl w2.heap.size w2).drew)
 have HC := Lib.hid (fits_any As M ns cs kk Aa AA na za w2.drew HQ1.out q2 (HQ2.out.below HD2.out) HBR.out.1 ((HBR.out.2.2.1.below HB2.out).below HD2.out) HBR.out.2.2.2 ((HTB.out.below HB2.out).below HD2.out))
 have hS0 : (fun X : World => X.cell? ⟨w.heap.size, 4, none⟩ = some (.slice Aa na za) ∧ X.cell? ⟨w1.heap.size, 0, none⟩ = some (.slice As ns cs) ∧ X.cell? ⟨w1.heap.size, 1, none⟩ = some (.int .i64 kk)) w2.drew := ⟨y3, y4, y5⟩
 refine wp_region_held_drew (S := (fun X : World => X.cell? ⟨w.heap.size, 4, none⟩ = some (.slice Aa na za) ∧ X.cell? ⟨w1.heap.size, 0, none⟩ = some (.slice As ns cs) ∧ X.cell? ⟨w1.heap.size, 1, none⟩ = some (.int .i64 kk))) (by kernel_rfl) hS0 (fun _ => ?_)
 (refine wpAnyH_take (i := 0) (v := ?_) rfl (by kernel_rfl) (by kernel_rfl) (by kernel_rfl) (fun _ _ _ h => h) (Or.inl ⟨by rfl, ?_⟩) (by assumption) ?_; rotate_left; (intro w hSw; (try dsimp only at hSw); go_simp; try with_reducible rfl); ((try simp only [zA, zB, zC, Act.put, zD, zE, zF])))
 (refine wpAnyH_take (i := 1) (v := ?_) rfl (by kernel_rfl) (by kernel_rfl) (by kernel_rfl) (fun _ _ _ h => h) (Or.inl ⟨by rfl, ?_⟩) (by assumption) ?_; rotate_left; (intro w hSw; (try dsimp only at hSw); go_simp; try with_reducible rfl); ((try simp only [zA, zB, zC, Act.put, zD, zE, zF])))
 (refine wpAnyH_take (i := 2) (v := ?_) rfl (by kernel_rfl) (by kernel_rfl) (by kernel_rfl) (fun _ _ _ h => h) (Or.inl ⟨by rfl, ?_⟩) (by assumption) ?_; rotate_left; (intro w hSw; (try dsimp only at hSw); go_simp; try with_reducible rfl); ((try simp only [zA, zB, zC, Act.put, zD, zE, zF])))
 (refine wpAnyH_take (i := 3) (v := ?_) rfl (by kernel_rfl) (by kernel_rfl) (by kernel_rfl) (fun _ _ _ h => h) (Or.inl ⟨by rfl, ?_⟩) (by assumption) ?_; rotate_left; (intro w hSw; (try dsimp only at hSw); go_simp; try with_reducible rfl); ((try simp only [zA, zB, zC, Act.put, zD, zE, zF])))
 (refine wpAnyH_take (i := 4) (v := ?_) rfl (by kernel_rfl) (by kernel_rfl) (by kernel_rfl) (fun _ _ _ h => h) (Or.inl ⟨by rfl, ?_⟩) (by assumption) ?_; rotate_left; (intro w hSw; (try dsimp only at hSw); go_simp; try with_reducible rfl); ((try simp only [zA, zB, zC, Act.put, zD, zE, zF])))
 (refine wpAnyH_take (i := 6) (v := ?_) rfl (by kernel_rfl) (by kernel_rfl) (by kernel_rfl) (fun _ _ _ h => h) (Or.inl ⟨by rfl, ?_⟩) (by assumption) ?_; rotate_left; (intro w hSw; (try dsimp only at hSw); go_simp; try with_reducible rfl); ((try simp only [zA, zB, zC, Act.put, zD, zE, zF])))
 refine wpAnyH_ready (rs := [5]) (by kernel_rfl) (by simp) ?_
 refine AllReadyH.cons rfl (fun K2 hK2 => ?_) AllReadyH.nil
 go_simp
 refine (HC.out).mono ?_
 rintro e w3 ⟨rfl, hb3⟩
 have HB3 := Lib.hid (HD2.out.trans hb3.out)
 have z3 := keepC HB3.out y3
 have z4 := keepC HB3.out y4
 have z5 := keepC HB3.out y5
 have HO3 := Lib.hid (HO2.out.below HB3.out HO2.out.lt)
 have o3 : w3.cell? ⟨w1.heap.size + 1, 4, none⟩ = some (.slice none 0 0) := HO3.out.cell 4
 go_wp2_with fail
 refine hK2.out _ _ (by (try dsimp only); exact ⟨z3, z4, z5⟩) (fun _ => ?_)
 clear hK2 K2 HC hb3 hS0 y3 y4 y5
 ((try simp only [zA, zB, zC, Act.put, zD, zE, zF]))
 have HB23 := Lib.hid (HB2.out.trans (HB3.out.mono HB2.out.size))
 have HE3 := Lib.hid (HE2.out.below HB3.out HE2.out.lt)
 have HS3 := Lib.hid (HS2.out.below HB3.out HS2.out.lt)
 have f3 : w3.frozen? ⟨w1.heap.size + 1, 4, none⟩ = false := HO3.out.free 4
 have HO4 : Hid (Has (w3.setCell ⟨w1.heap.size + 1, 4, none⟩ (.slice Aa na za)) (w1.heap.size + 1) 61 #[.int .i64 3, .int .i64 0, .string t, .slice none 0 0, .slice Aa na za, .int .i64 0, .string ⟨#[]⟩, .slice none 0 0, .int .i64 0, .string ⟨#[]⟩, .int .i64 0, .bool false]) := HO3.out.put 4 _
 have HE4 : Hid (Has (w3.setCell ⟨w1.heap.size + 1, 4, none⟩ (.slice Aa na za)) w.heap.size 61 _) := HE3.out.far (by show w.heap.size ≠ w1.heap.size + 1; omega) _
 have HS4 : Hid (Has (w3.setCell ⟨w1.heap.size + 1, 4, none⟩ (.slice Aa na za)) w1.heap.size 39 _) := HS3.out.far (by show w1.heap.size ≠ w1.heap.size + 1; omega) _
 have HB4 : Hid (Below w.heap.size w (w3.setCell ⟨w1.heap.size + 1, 4, none⟩ (.slice Aa na za))) := HB23.out.setCell (by show w.heap.size ≤ w1.heap.size + 1; omega) _
 generalize hw4 : w3.setCell ⟨w1.heap.size + 1, 4, none⟩ (.slice Aa na za) = w4 at HO4 HE4 HS4 HB4
 refine wpAnyH_ready (rs := [7]) (by kernel_rfl) (by simp) ?_
 refine AllReadyH.cons rfl (fun K2 hK2 => ?_) AllReadyH.nil
 go_simp
 refine hK2.out _ _ (by (try dsimp only); exact ⟨HE4.out.cell 4, HS4.out.cell 0, HS4.out.cell 1⟩) (fun _ => ?_)
 clear hK2 K2 z3 z4 z5 o3 f3 HB23 HE3 HS3 HO3 hw4 HB3 HE2 HS2 HO2 HB2 HW2 HD2 HQ2 HQ1b
 ((try simp only [zA, zB, zC, Act.put, zD, zE, zF]))
 (refine wpAnyH_take (i := 8) (v := ?_) rfl (by kernel_rfl) (by kernel_rfl) (by kernel_rfl) (fun _ _ _ h => h) (Or.inl ⟨by rfl, ?_⟩) (by assumption) ?_; rotate_left; (intro w hSw; (try dsimp only at hSw); go_simp; try with_reducible rfl); ((try simp only [zA, zB, zC, Act.put, zD, zE, zF])))
 refine wpAnyH_done (by kernel_rfl) ?_ _
 cases ok with
 | false =>
   go_wp2_with fail
   go_ret
   exact ⟨by rw [HRG.out]; rfl, HB4⟩
 | true =>
   cases hf : fitsF M AA with
   | false =>
     rw [hf] at HRG
     go_wp2_with fail
     go_ret
     exact ⟨by rw [HRG.out]; rfl, HB4⟩
   | true =>
     rw [hf] at HRG
     have HS := Lib.hid (esame_any _ _ _ (⟨3, 0, t, [], AA, 0, ⟨#[]⟩, [], 0, ⟨⟨#[]⟩, 0, false⟩⟩ : Ev) _ (HEV.out.below HB4.out) (⟨none, 0, 0, Aa, na, za, none, 0, 0, rfl, ⟨rfl, by simp, fun h => absurd rfl h⟩, ⟨HBR.out.1, hnb, HBR.out.2.2.1.below HB4.out⟩, rfl, by omega, fun h => absurd rfl h⟩ : EvAt w4 (.agg #[.int .i64 3, .int .i64 0, .string t, .slice none 0 0, .slice Aa na za, .int .i64 0, .string ⟨#[]⟩, .slice none 0 0, .int .i64 0, .string ⟨#[]⟩, .int .i64 0, .bool false]) _))
     have e0 : w4.cell? ⟨w.heap.size, 0, none⟩ = some (.int .i64 3) := HE4.out.cell 0
     have e1 : w4.cell? ⟨w.heap.size, 1, none⟩ = some (.int .i64 m) := HE4.out.cell 1
     have e2 : w4.cell? ⟨w.heap.size, 2, none⟩ = some (.string t) := HE4.out.cell 2
     have e3 : w4.cell? ⟨w.heap.size, 3, none⟩ = some (.slice Ab nb zb) := HE4.out.cell 3
     have e4 : w4.cell? ⟨w.heap.size, 4, none⟩ = some (.slice Aa na za) := HE4.out.cell 4
     have e5 : w4.cell? ⟨w.heap.size, 5, none⟩ = some (.int .i64 ck) := HE4.out.cell 5
     have e6 : w4.cell? ⟨w.heap.size, 6, none⟩ = some (.string tn) := HE4.out.cell 6
     have e7 : w4.cell? ⟨w.heap.size, 7, none⟩ = some (.slice A n c) := HE4.out.cell 7
     have e8 : w4.cell? ⟨w.heap.size, 8, none⟩ = some (.int .i64 K) := HE4.out.cell 8
     have e9 : w4.cell? ⟨w.heap.size, 9, none⟩ = some (.string cn) := HE4.out.cell 9
     have e10 : w4.cell? ⟨w.heap.size, 10, none⟩ = some (.int .i64 cq) := HE4.out.cell 10
     have e11 : w4.cell? ⟨w.heap.size, 11, none⟩ = some (.bool cb) := HE4.out.cell 11
     have o0 : w4.cell? ⟨w1.heap.size + 1, 0, none⟩ = some (.int .i64 3) := HO4.out.cell 0
     have o1 : w4.cell? ⟨w1.heap.size + 1, 1, none⟩ = some (.int .i64 0) := HO4.out.cell 1
     have o2 : w4.cell? ⟨w1.heap.size + 1, 2, none⟩ = some (.string t) := HO4.out.cell 2
     have o3 : w4.cell? ⟨w1.heap.size + 1, 3, none⟩ = some (.slice none 0 0) := HO4.out.cell 3
     have o4 : w4.cell? ⟨w1.heap.size + 1, 4, none⟩ = some (.slice Aa na za) := HO4.out.cell 4
     have o5 : w4.cell? ⟨w1.heap.size + 1, 5, none⟩ = some (.int .i64 0) := HO4.out.cell 5
     have o6 : w4.cell? ⟨w1.heap.size + 1, 6, none⟩ = some (.string ⟨#[]⟩) := HO4.out.cell 6
     have o7 : w4.cell? ⟨w1.heap.size + 1, 7, none⟩ = some (.slice none 0 0) := HO4.out.cell 7
     have o8 : w4.cell? ⟨w1.heap.size + 1, 8, none⟩ = some (.int .i64 0) := HO4.out.cell 8
     have o9 : w4.cell? ⟨w1.heap.size + 1, 9, none⟩ = some (.string ⟨#[]⟩) := HO4.out.cell 9
     have o10 : w4.cell? ⟨w1.heap.size + 1, 10, none⟩ = some (.int .i64 0) := HO4.out.cell 10
     have o11 : w4.cell? ⟨w1.heap.size + 1, 11, none⟩ = some (.bool false) := HO4.out.cell 11
     clear hf HEV HBR HTB
     go_wp2_with fail
     refine HS.out.mono ?_
     rintro e w5 ⟨rfl, hb5⟩
     have HB5 := Lib.hid (HB4.out.trans (hb5.out.mono HB4.out.size))
     clear HS hb5 e0 e1 e2 e3 e4 e5 e6 e7 e8 e9 e10 e11 o0 o1 o2 o3 o4 o5 o6 o7 o8 o9 o10 o11
     generalize evF _ _ = q at *
     cases q <;> go_wp2_with fail
     ·go_ret
      exact ⟨by rw [HRG.out]; rfl, HB5⟩
     ·go_ret
      exact ⟨by rw [HRG.out]; rfl, HB5⟩
set_option maxHeartbeats 8000000 in
set_option maxRecDepth 100000 in
theorem mayRow4_any (x : Ev) (Ab : Option Addr) (nb zb : Nat) (Aa : Option Addr) (na za : Nat) (A : Option Addr) (n c : Nat) (At : Option Addr) (nt ct : Nat) (T : List Tb) (w : World) (h : EvAt w (.agg #[.int .i64 x.k, .int .i64 x.n, .string x.t, .slice Ab nb zb, .slice Aa na za, .int .i64 x.ck, .string x.ct, .slice A n c, .int .i64 x.K, .string x.cl.nm, .int .i64 x.cl.k, .bool x.cl.no]) x) (hk : x.k = 4) (hB : x.A.length = na ∧ na ≤ za ∧ VRow w Aa x.A ∧ ∀ y ∈ x.A, y.fit) (hT : T.length = nt) (hl : nt ≤ 1000) (hA : TRow w At T) (hI : TOks w T) (hS : SortT T) (hG : ∀ y ∈ T, ∃ k : Nat, y.K = (k : Int) ∧ k ≤ y.L.length ∧ k ≤ 4) (hTb : Tabs w) (hnb : (na : Int) ≤ 9223372036854775807) :
 Calls Tryz.prog 58 #[.agg #[.int .i64 x.k, .int .i64 x.n, .string x.t, .slice Ab nb zb, .slice Aa na za, .int .i64 x.ck, .string x.ct, .slice A n c, .int .i64 x.K, .string x.cl.nm, .int .i64 x.cl.k, .bool x.cl.no], .slice At nt ct] w fun e w' => e = .returned (.int .i64 (rowG6 x T)) ∧ Hid (Below w.heap.size w w') := by
 have hb0 := (Below.refl w.heap.size w).alloc (Nat.le_refl _) (.cells #[.int .i64 x.k, .int .i64 x.n, .string x.t, .slice Ab nb zb, .slice Aa na za, .int .i64 x.ck, .string x.ct, .slice A n c, .int .i64 x.K, .string x.cl.nm, .int .i64 x.cl.k, .bool x.cl.no] 61)
 have HB := Lib.hid hb0
 have HE := Lib.hid (Has.new w 61 #[.int .i64 x.k, .int .i64 x.n, .string x.t, .slice Ab nb zb, .slice Aa na za, .int .i64 x.ck, .string x.ct, .slice A n c, .int .i64 x.K, .string x.cl.nm, .int .i64 x.cl.k, .bool x.cl.no])
 have HF := Lib.hid (pfind_any At T nt ct x.t _ hT hl (hA.below hb0) hS)
 obtain ⟨As, ns, cs, kk, etf, q1, q2, q3, q4, q5, q6, q7⟩ := tfV_at (s := x.t) hS (fun y hy => (hI y hy).below hb0) hG
 rw [etf] at HF
 have hfit : rowFits x T = fitsF (tfL T x.t) x.A := by unfold rowFits; rw [if_neg (by rw [hk]; decide)]
 have hown : ownE x = ⟨x.k, 0, x.t, [], x.A, 0, ⟨#[]⟩, [], 0, ⟨⟨#[]⟩, 0, false⟩⟩ := by unfold ownE; rw [if_neg (by rw [hk]; decide)]
 have hrg : rowG6 x T = if plF T x.t = false then 7 else if fitsF (tfL T x.t) x.A = false then 9 else if evF x ⟨x.k, 0, x.t, [], x.A, 0, ⟨#[]⟩, [], 0, ⟨⟨#[]⟩, 0, false⟩⟩ = true then 0 else 1 := by unfold rowG6; rw [hfit, hown]
 have HRG := Lib.hid hrg
 have HQ := Lib.hid q4
 have HBR := Lib.hid hB
 have HTB := Lib.hid hTb
 have HEV := Lib.hid h
 have HQ1 := Lib.hid q1
 clear hfit hown hrg q4 hB hTb h q1 hA hI hS hG etf q5 hb0
 generalize plF T x.t = ok at *
 generalize tfL T x.t = M at *
 obtain ⟨k, m, t, B, AA, ck, tn, L, K, ⟨cn, cq, cb⟩⟩ := x
 have hk5 : k = 4 := hk
 subst hk5
 clear hk
 go_enter Tryz.func58, Tryz.ntmps58
 go_wp2_with fail
 refine HF.out.mono ?_
 rintro e w1 ⟨rfl, hb1⟩
 have HB1 := Lib.hid (HB.out.trans (hb1.out.mono HB.out.size))
 have HQ1b := Lib.hid (HQ.out.below hb1.out)
 have HE1 := Lib.hid (HE.out.below hb1.out HE.out.lt)
 clear hb1 HF
 have x0 : w1.cell? ⟨w.heap.size, 0, none⟩ = some (.int .i64 4) := HE1.out.cell 0
 have x2 : w1.cell? ⟨w.heap.size, 2, none⟩ = some (.string t) := HE1.out.cell 2
 have xa0 : (w1.alloc (.cells #[.slice As ns cs, .int .i64 kk] 39)).cell? ⟨w.heap.size, 0, none⟩ = some (.int .i64 4) := (HE1.out.alloc _).cell 0
 have xa2 : (w1.alloc (.cells #[.slice As ns cs, .int .i64 kk] 39)).cell? ⟨w.heap.size, 2, none⟩ = some (.string t) := (HE1.out.alloc _).cell 2
 obtain ⟨w2, HW2⟩ : ∃ w2, Hid (w2 = (w1.alloc (.cells #[.slice As ns cs, .int .i64 kk] 39)).alloc (.cells #[.int .i64 4, .int .i64 0, .string t, .slice none 0 0, .slice none 0 0, .int .i64 0, .string ⟨#[]⟩, .slice none 0 0, .int .i64 0, .string ⟨#[]⟩, .int .i64 0, .bool false] 61)) := ⟨_, rfl⟩
 have b2 : Below w1.heap.size w1 w2 := by rw [HW2.out]; exact ((Below.refl _ w1).alloc (Nat.le_refl _) _).alloc (by simp) _
 have s2 : Has w2 w1.heap.size 39 #[.slice As ns cs, .int .i64 kk] := by rw [HW2.out]; exact (Has.new w1 _ _).alloc _
 have o2 : Has w2 (w1.heap.size + 1) 61 #[.int .i64 4, .int .i64 0, .string t, .slice none 0 0, .slice none 0 0, .int .i64 0, .string ⟨#[]⟩, .slice none 0 0, .int .i64 0, .string ⟨#[]⟩, .int .i64 0, .bool false] := by
  rw [HW2.out]
  have := Has.new (w1.alloc (.cells #[.slice As ns cs, .int .i64 kk] 39)) 61 #[.int .i64 4, .int .i64 0, .string t, .slice none 0 0, .slice none 0 0, .int .i64 0, .string ⟨#[]⟩, .slice none 0 0, .int .i64 0, .string ⟨#[]⟩, .int .i64 0, .bool false]
  rw [World.size_alloc] at this
  exact this
 have HE2 := Lib.hid (HE1.out.below b2 HE1.out.lt)
 have HB2 := Lib.hid (HB1.out.trans (b2.mono HB1.out.size))
 have HQ2 := Lib.hid (HQ1b.out.below b2)
 have HS2 := Lib.hid s2
 have HO2 := Lib.hid o2
 have z0 : ((w1.alloc (.cells #[.slice As ns cs, .int .i64 kk] 39)).alloc (.cells #[.int .i64 4, .int .i64 0, .string t, .slice none 0 0, .slice none 0 0, .int .i64 0, .string ⟨#[]⟩, .slice none 0 0, .int .i64 0, .string ⟨#[]⟩, .int .i64 0, .bool false] 61)).cell? ⟨w.heap.size, 0, none⟩ = some (.int .i64 4) := ((HE1.out.alloc _).alloc _).cell 0
 clear b2 s2 o2
 go_wp2_with fail
 rw [← HW2.out]
 have lt1 : w.heap.size < w1.heap.size := HE1.out.lt
 clear z0 x0 x2 xa0 xa2 HE1 HB1
 have y3 : w2.cell? ⟨w.heap.size, 4, none⟩ = some (.slice Aa na za) := HE2.out.cell 4
 have y4 : w2.cell? ⟨w1.heap.size, 0, none⟩ = some (.slice As ns cs) := HS2.out.cell 0
 have y5 : w2.cell? ⟨w1.heap.size, 1, none⟩ = some (.int .i64 kk) := HS2.out.cell 1
 have HD2 := Lib.hid ((Below.refl w2.heap.size w2).drew)
 have HC := Lib.hid (fits_any As M ns cs kk Aa AA na za w2.drew HQ1.out q2 (HQ2.out.below HD2.out) HBR.out.1 ((HBR.out.2.2.1.below HB2.out).below HD2.out) HBR.out.2.2.2 ((HTB.out.below HB2.out).below HD2.out))
 have hS0 : (fun X : World => X.cell? ⟨w.heap.size, 4, none⟩ = some (.slice Aa na za) ∧ X.cell? ⟨w1.heap.size, 0, none⟩ = some (.slice As ns cs) ∧ X.cell? ⟨w1.heap.size, 1, none⟩ = some (.int .i64 kk)) w2.drew := ⟨y3, y4, y5⟩
 refine wp_region_held_drew (S := (fun X : World => X.cell? ⟨w.heap.size, 4, none⟩ = some (.slice Aa na za) ∧ X.cell? ⟨w1.heap.size, 0, none⟩ = some (.slice As ns cs) ∧ X.cell? ⟨w1.heap.size, 1, none⟩ = some (.int .i64 kk))) (by kernel_rfl) hS0 (fun _ => ?_)
 (refine wpAnyH_take (i := 0) (v := ?_) rfl (by kernel_rfl) (by kernel_rfl) (by kernel_rfl) (fun _ _ _ h => h) (Or.inl ⟨by rfl, ?_⟩) (by assumption) ?_; rotate_left; (intro w hSw; (try dsimp only at hSw); go_simp; try with_reducible rfl); ((try simp only [zA, zB, zC, Act.put, zD, zE, zF])))
 (refine wpAnyH_take (i := 1) (v := ?_) rfl (by kernel_rfl) (by kernel_rfl) (by kernel_rfl) (fun _ _ _ h => h) (Or.inl ⟨by rfl, ?_⟩) (by assumption) ?_; rotate_left; (intro w hSw; (try dsimp only at hSw); go_simp; try with_reducible rfl); ((try simp only [zA, zB, zC, Act.put, zD, zE, zF])))
 (refine wpAnyH_take (i := 2) (v := ?_) rfl (by kernel_rfl) (by kernel_rfl) (by kernel_rfl) (fun _ _ _ h => h) (Or.inl ⟨by rfl, ?_⟩) (by assumption) ?_; rotate_left; (intro w hSw; (try dsimp only at hSw); go_simp; try with_reducible rfl); ((try simp only [zA, zB, zC, Act.put, zD, zE, zF])))
 (refine wpAnyH_take (i := 3) (v := ?_) rfl (by kernel_rfl) (by kernel_rfl) (by kernel_rfl) (fun _ _ _ h => h) (Or.inl ⟨by rfl, ?_⟩) (by assumption) ?_; rotate_left; (intro w hSw; (try dsimp only at hSw); go_simp; try with_reducible rfl); ((try simp only [zA, zB, zC, Act.put, zD, zE, zF])))
 (refine wpAnyH_take (i := 4) (v := ?_) rfl (by kernel_rfl) (by kernel_rfl) (by kernel_rfl) (fun _ _ _ h => h) (Or.inl ⟨by rfl, ?_⟩) (by assumption) ?_; rotate_left; (intro w hSw; (try dsimp only at hSw); go_simp; try with_reducible rfl); ((try simp only [zA, zB, zC, Act.put, zD, zE, zF])))
 (refine wpAnyH_take (i := 6) (v := ?_) rfl (by kernel_rfl) (by kernel_rfl) (by kernel_rfl) (fun _ _ _ h => h) (Or.inl ⟨by rfl, ?_⟩) (by assumption) ?_; rotate_left; (intro w hSw; (try dsimp only at hSw); go_simp; try with_reducible rfl); ((try simp only [zA, zB, zC, Act.put, zD, zE, zF])))
 refine wpAnyH_ready (rs := [5]) (by kernel_rfl) (by simp) ?_
 refine AllReadyH.cons rfl (fun K2 hK2 => ?_) AllReadyH.nil
 go_simp
 refine (HC.out).mono ?_
 rintro e w3 ⟨rfl, hb3⟩
 have HB3 := Lib.hid (HD2.out.trans hb3.out)
 have z3 := keepC HB3.out y3
 have z4 := keepC HB3.out y4
 have z5 := keepC HB3.out y5
 have HO3 := Lib.hid (HO2.out.below HB3.out HO2.out.lt)
 have o3 : w3.cell? ⟨w1.heap.size + 1, 4, none⟩ = some (.slice none 0 0) := HO3.out.cell 4
 go_wp2_with fail
 refine hK2.out _ _ (by (try dsimp only); exact ⟨z3, z4, z5⟩) (fun _ => ?_)
 clear hK2 K2 HC hb3 hS0 y3 y4 y5
 ((try simp only [zA, zB, zC, Act.put, zD, zE, zF]))
 have HB23 := Lib.hid (HB2.out.trans (HB3.out.mono HB2.out.size))
 have HE3 := Lib.hid (HE2.out.below HB3.out HE2.out.lt)
 have HS3 := Lib.hid (HS2.out.below HB3.out HS2.out.lt)
 have f3 : w3.frozen? ⟨w1.heap.size + 1, 4, none⟩ = false := HO3.out.free 4
 have HO4 : Hid (Has (w3.setCell ⟨w1.heap.size + 1, 4, none⟩ (.slice Aa na za)) (w1.heap.size + 1) 61 #[.int .i64 4, .int .i64 0, .string t, .slice none 0 0, .slice Aa na za, .int .i64 0, .string ⟨#[]⟩, .slice none 0 0, .int .i64 0, .string ⟨#[]⟩, .int .i64 0, .bool false]) := HO3.out.put 4 _
 have HE4 : Hid (Has (w3.setCell ⟨w1.heap.size + 1, 4, none⟩ (.slice Aa na za)) w.heap.size 61 _) := HE3.out.far (by show w.heap.size ≠ w1.heap.size + 1; omega) _
 have HS4 : Hid (Has (w3.setCell ⟨w1.heap.size + 1, 4, none⟩ (.slice Aa na za)) w1.heap.size 39 _) := HS3.out.far (by show w1.heap.size ≠ w1.heap.size + 1; omega) _
 have HB4 : Hid (Below w.heap.size w (w3.setCell ⟨w1.heap.size + 1, 4, none⟩ (.slice Aa na za))) := HB23.out.setCell (by show w.heap.size ≤ w1.heap.size + 1; omega) _
 generalize hw4 : w3.setCell ⟨w1.heap.size + 1, 4, none⟩ (.slice Aa na za) = w4 at HO4 HE4 HS4 HB4
 refine wpAnyH_ready (rs := [7]) (by kernel_rfl) (by simp) ?_
 refine AllReadyH.cons rfl (fun K2 hK2 => ?_) AllReadyH.nil
 go_simp
 refine hK2.out _ _ (by (try dsimp only); exact ⟨HE4.out.cell 4, HS4.out.cell 0, HS4.out.cell 1⟩) (fun _ => ?_)
 clear hK2 K2 z3 z4 z5 o3 f3 HB23 HE3 HS3 HO3 hw4 HB3 HE2 HS2 HO2 HB2 HW2 HD2 HQ2 HQ1b
 ((try simp only [zA, zB, zC, Act.put, zD, zE, zF]))
 (refine wpAnyH_take (i := 8) (v := ?_) rfl (by kernel_rfl) (by kernel_rfl) (by kernel_rfl) (fun _ _ _ h => h) (Or.inl ⟨by rfl, ?_⟩) (by assumption) ?_; rotate_left; (intro w hSw; (try dsimp only at hSw); go_simp; try with_reducible rfl); ((try simp only [zA, zB, zC, Act.put, zD, zE, zF])))
 refine wpAnyH_done (by kernel_rfl) ?_ _
 cases ok with
 | false =>
   go_wp2_with fail
   go_ret
   exact ⟨by rw [HRG.out]; rfl, HB4⟩
 | true =>
   cases hf : fitsF M AA with
   | false =>
     rw [hf] at HRG
     go_wp2_with fail
     go_ret
     exact ⟨by rw [HRG.out]; rfl, HB4⟩
   | true =>
     rw [hf] at HRG
     have HS := Lib.hid (esame_any _ _ _ (⟨4, 0, t, [], AA, 0, ⟨#[]⟩, [], 0, ⟨⟨#[]⟩, 0, false⟩⟩ : Ev) _ (HEV.out.below HB4.out) (⟨none, 0, 0, Aa, na, za, none, 0, 0, rfl, ⟨rfl, by simp, fun h => absurd rfl h⟩, ⟨HBR.out.1, hnb, HBR.out.2.2.1.below HB4.out⟩, rfl, by omega, fun h => absurd rfl h⟩ : EvAt w4 (.agg #[.int .i64 4, .int .i64 0, .string t, .slice none 0 0, .slice Aa na za, .int .i64 0, .string ⟨#[]⟩, .slice none 0 0, .int .i64 0, .string ⟨#[]⟩, .int .i64 0, .bool false]) _))
     have e0 : w4.cell? ⟨w.heap.size, 0, none⟩ = some (.int .i64 4) := HE4.out.cell 0
     have e1 : w4.cell? ⟨w.heap.size, 1, none⟩ = some (.int .i64 m) := HE4.out.cell 1
     have e2 : w4.cell? ⟨w.heap.size, 2, none⟩ = some (.string t) := HE4.out.cell 2
     have e3 : w4.cell? ⟨w.heap.size, 3, none⟩ = some (.slice Ab nb zb) := HE4.out.cell 3
     have e4 : w4.cell? ⟨w.heap.size, 4, none⟩ = some (.slice Aa na za) := HE4.out.cell 4
     have e5 : w4.cell? ⟨w.heap.size, 5, none⟩ = some (.int .i64 ck) := HE4.out.cell 5
     have e6 : w4.cell? ⟨w.heap.size, 6, none⟩ = some (.string tn) := HE4.out.cell 6
     have e7 : w4.cell? ⟨w.heap.size, 7, none⟩ = some (.slice A n c) := HE4.out.cell 7
     have e8 : w4.cell? ⟨w.heap.size, 8, none⟩ = some (.int .i64 K) := HE4.out.cell 8
     have e9 : w4.cell? ⟨w.heap.size, 9, none⟩ = some (.string cn) := HE4.out.cell 9
     have e10 : w4.cell? ⟨w.heap.size, 10, none⟩ = some (.int .i64 cq) := HE4.out.cell 10
     have e11 : w4.cell? ⟨w.heap.size, 11, none⟩ = some (.bool cb) := HE4.out.cell 11
     have o0 : w4.cell? ⟨w1.heap.size + 1, 0, none⟩ = some (.int .i64 4) := HO4.out.cell 0
     have o1 : w4.cell? ⟨w1.heap.size + 1, 1, none⟩ = some (.int .i64 0) := HO4.out.cell 1
     have o2 : w4.cell? ⟨w1.heap.size + 1, 2, none⟩ = some (.string t) := HO4.out.cell 2
     have o3 : w4.cell? ⟨w1.heap.size + 1, 3, none⟩ = some (.slice none 0 0) := HO4.out.cell 3
     have o4 : w4.cell? ⟨w1.heap.size + 1, 4, none⟩ = some (.slice Aa na za) := HO4.out.cell 4
     have o5 : w4.cell? ⟨w1.heap.size + 1, 5, none⟩ = some (.int .i64 0) := HO4.out.cell 5
     have o6 : w4.cell? ⟨w1.heap.size + 1, 6, none⟩ = some (.string ⟨#[]⟩) := HO4.out.cell 6
     have o7 : w4.cell? ⟨w1.heap.size + 1, 7, none⟩ = some (.slice none 0 0) := HO4.out.cell 7
     have o8 : w4.cell? ⟨w1.heap.size + 1, 8, none⟩ = some (.int .i64 0) := HO4.out.cell 8
     have o9 : w4.cell? ⟨w1.heap.size + 1, 9, none⟩ = some (.string ⟨#[]⟩) := HO4.out.cell 9
     have o10 : w4.cell? ⟨w1.heap.size + 1, 10, none⟩ = some (.int .i64 0) := HO4.out.cell 10
     have o11 : w4.cell? ⟨w1.heap.size + 1, 11, none⟩ = some (.bool false) := HO4.out.cell 11
     clear hf HEV HBR HTB
     go_wp2_with fail
     refine HS.out.mono ?_
     rintro e w5 ⟨rfl, hb5⟩
     have HB5 := Lib.hid (HB4.out.trans (hb5.out.mono HB4.out.size))
     clear HS hb5 e0 e1 e2 e3 e4 e5 e6 e7 e8 e9 e10 e11 o0 o1 o2 o3 o4 o5 o6 o7 o8 o9 o10 o11
     generalize evF _ _ = q at *
     cases q <;> go_wp2_with fail
     ·go_ret
      exact ⟨by rw [HRG.out]; rfl, HB5⟩
     ·go_ret
      exact ⟨by rw [HRG.out]; rfl, HB5⟩
set_option maxHeartbeats 4000000 in
set_option maxRecDepth 100000 in
theorem isColumn_any (s : ByteArray) (k : Int) (b : Bool) (w : World) (hf : (⟨s, k, false⟩ : Cl).fit) :
 Calls Tryz.prog 93 #[.agg #[.string s, .int .i64 k, .bool b]] w fun e w' => e = .returned (.bool (smayF [⟨s, k, false⟩] 1)) ∧ Hid (Below w.heap.size w w') := by
 have HF := Lib.hid hf
 clear hf
 have HO := Lib.hid (Has.new (w.alloc (.cells #[.string s, .int .i64 k, .bool false] 46)) 46 #[.string s, .int .i64 k, .bool false])
 rw [World.size_alloc] at HO
 have HB := Lib.hid (((Below.refl w.heap.size w).alloc (Nat.le_refl _) (.cells #[.string s, .int .i64 k, .bool false] 46)).alloc (by simp) (.cells #[.string s, .int .i64 k, .bool false] 46))
 have hC : CRow ((w.alloc (.cells #[.string s, .int .i64 k, .bool false] 46)).alloc (.cells #[.string s, .int .i64 k, .bool false] 46)) (some ⟨w.heap.size + 1, 0, none⟩) [⟨s, k, false⟩] := by
  intro _
  refine ⟨w.heap.size + 1, 0, rfl, fun i hi => ?_⟩
  have : i = 0 := by simp at hi; omega
  subst this
  exact ⟨HO.out.cell 0, HO.out.cell 1, HO.out.cell 2⟩
 have HS := Lib.hid (smay_any (some ⟨w.heap.size + 1, 0, none⟩) [⟨s, k, false⟩] 1 1 1 _ rfl (by omega) hC (by intro x hx; simp at hx; subst hx; exact HF.out))
 clear hC HO
 go_enter Tryz.func93, Tryz.ntmps93
 go_wp2_with fail
 refine HS.out.mono ?_
 rintro e w1 ⟨rfl, hb1⟩
 have HB1 := Lib.hid (HB.out.trans (hb1.out.mono HB.out.size))
 go_wp2_with fail
 go_ret
 exact ⟨rfl, HB1⟩
end Go.Proofs.YtlnbhlgkehenpaaGreatDoor
