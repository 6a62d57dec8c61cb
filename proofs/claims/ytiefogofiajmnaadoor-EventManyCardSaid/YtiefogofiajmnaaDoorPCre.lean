/-
  A table that is made: the program's create.
-/
import Derived.Test.YtiefogofiajmnaaDoorPutW
import Derived.Test.YtiefogofiajmnaaDoorRFolC
namespace Go.Proofs.YtiefogofiajmnaaDoor
open Go.RowKit Dg
set_option maxRecDepth 100000
theorem clns_nil (B : Nat) (w : World) : Clns B w [] [] := ⟨rfl, fun i h => by simp at h⟩
theorem Clns.down {B B' : Nat} {w : World} {T T' : List Tb} (h : Clns B w T T') (hb : B' ≤ B) : Clns B' w T T' := ⟨h.1, fun i h1 h2 => ⟨(h.2 i h1 h2).td, ownC_down (h.2 i h1 h2).own hb⟩⟩
theorem clns_bad {B : Nat} {w : World} {T : List Tb} {tn : ByteArray} {A' : Option Addr} {n' c' : Nat} {L' : List Cl} {K' : Int} (h : fcE T tn L' K' ≠ 0) : Hid (Clns B w (fcT T tn A' n' c' L' K') []) := by
  show Clns _ _ _ _
  rw [fcT_bad h]; exact clns_nil _ _
theorem may_few {L : List Cl} {K : Int} (h : smayF L K = true) : L.length ≤ 16 := by
  apply Decidable.byContradiction
  intro hc
  rw [smayF_no (by omega)] at h; cases h
theorem trow_one (w : World) (x : Tb) : TRow (w.alloc (.cells #[.string x.nm, .slice x.A x.n x.c, .int .i64 x.K] 30)) (some ⟨w.heap.size, 0, none⟩) [x] := TRow.one w x
set_option maxHeartbeats 4000000 in
theorem pcreate_any (A : Option Addr) (T : List Tb) (n c : Nat) (ck : Int) (tn : ByteArray) (A' : Option Addr) (n' c' : Nat) (L' : List Cl) (K' : Int) (cn : ByteArray) (kd : Int) (no : Bool) (w : World) (hn : T.length = n) (hnc : n ≤ c) (hcm : c ≤ maxLen) (hl : n ≤ 900) (hA : TRow w A T) (hA0 : A = none → c = 0) (hI : TOks w T)
    (hn' : L'.length = n') (hnc' : n' ≤ c') (hcm' : c' ≤ maxLen) (hA' : CRow w A' L') (hA0' : A' = none → c' = 0) (htn : tn.size ≤ 140737488355328) (hf : ∀ y ∈ L', y.fit) :
    Calls Tryd.prog 34 #[.slice A n c, .agg #[.int .i64 ck, .string tn, .slice A' n' c', .int .i64 K', .string cn, .int .i64 kd, .bool no], .int .i64 (lbN T tn : Nat), .bool (plF T tn)] w fun e w' => ∃ v T', e = .returned (.tuple #[v, .int .i64 (fcE T tn L' K')]) ∧ Hid (OwnT w.heap.size w' v T') ∧ Hid (Clns w.heap.size w' (fcT T tn A' n' c' L' K') T') ∧ Hid (Below w.heap.size w w') := by
  have HB0 := Lib.hid ((Below.refl w.heap.size w).alloc (Nat.le_refl _) (.cells #[.int .i64 ck, .string tn, .slice A' n' c', .int .i64 K', .string cn, .int .i64 kd, .bool no] 40))
  have HX0 := Lib.hid (Has.new w 40 #[.int .i64 ck, .string tn, .slice A' n' c', .int .i64 K', .string cn, .int .i64 kd, .bool no])
  have HMY := Lib.hid (fun (W : World) (hb : Below w.heap.size w W) => smay_all A' L' n' c' K' W hn' (hA'.below hb) hf)
  have HNM := Lib.hid (fun (W : World) => name_any tn W htn)
  have HPT := Lib.hid (fun (W : World) (hb : Below w.heap.size w W) (hq : smayF L' K' = true) => putT_any A T n c (lbN T tn) (lbN T tn) (some ⟨W.heap.size, 0, none⟩) [⟨tn, A', n', c', L', K'⟩] 1 1 (W.alloc (.cells #[.string tn, .slice A' n' c', .int .i64 K'] 30)) hn hnc hcm (Nat.le_refl _) (by rw [← hn]; exact lb_le T tn) hl (hA.below (hb.alloc hb.size _)) hA0 (hI.below (hb.alloc hb.size _)) rfl (Nat.le_refl _) (trow_one W ⟨tn, A', n', c', L', K'⟩) (fun e => by cases e) (fun x hx => by
    obtain rfl := List.mem_singleton.1 hx
    have h16 := may_few hq
    exact ⟨hn', hnc', hcm', hA'.below (hb.alloc hb.size _), hA0', by show n' ≤ 900; omega⟩))
  have HN := Lib.hid hn
  have e1 := @fcE_name T tn L' K'
  have e2 := @fcE_there T tn L' K'
  have e3 := @fcE_may T tn L' K'
  have e4 := @fcE_many T tn L' K'
  have e5 := @fcE_ok T tn L' K'
  rw [hn] at e4 e5
  have HLE : Hid (lbN T tn ≤ n) := by show _ ≤ _; rw [← hn]; exact lb_le T tn
  clear hn hA hA' hn' hI hf htn hA0'
  obtain ⟨k, hk⟩ : ∃ k, lbN T tn = k := ⟨_, rfl⟩
  obtain ⟨qm, hqm⟩ : ∃ q, smayF L' K' = q := ⟨_, rfl⟩
  rw [hk] at HPT HLE ⊢
  rcases hqn : nameF tn with _ | _
  · have HE := Lib.hid (e1 hqn)
    clear e1 e2 e3 e4 e5
    go_enter Tryd.func34, Tryd.ntmps34
    go_wp2_with fail
    refine (HNM.out _).mono ?_
    rintro e w1 ⟨rfl, hb1⟩
    rw [hqn]
    have HB1 := Lib.hid (HB0.out.trans (hb1.out.mono HB0.out.size))
    have HX1 := Lib.hid (HX0.out.below hb1.out HX0.out.lt)
    have x1 : w1.cell? ⟨w.heap.size, 1, none⟩ = some (.string tn) := HX1.out.cell 1
    have x2 : w1.cell? ⟨w.heap.size, 2, none⟩ = some (.slice A' n' c') := HX1.out.cell 2
    have x3 : w1.cell? ⟨w.heap.size, 3, none⟩ = some (.int .i64 K') := HX1.out.cell 3
    clear hb1 HX0 HB0
    go_wp2_with fail
    go_ret2
    exact ⟨_, [], by rw [HE.out]; rfl, ownT_nil _ _, clns_bad (by rw [HE.out]; omega), HB1⟩
  · rcases hp : plF T tn with _ | _
    · cases qm
      · have HE := Lib.hid (e3 hqn hp hqm)
        clear e1 e2 e3 e4 e5
        go_enter Tryd.func34, Tryd.ntmps34
        go_wp2_with fail
        refine (HNM.out _).mono ?_
        rintro e w1 ⟨rfl, hb1⟩
        rw [hqn]
        have HB1 := Lib.hid (HB0.out.trans (hb1.out.mono HB0.out.size))
        have HX1 := Lib.hid (HX0.out.below hb1.out HX0.out.lt)
        have x1 : w1.cell? ⟨w.heap.size, 1, none⟩ = some (.string tn) := HX1.out.cell 1
        have x2 : w1.cell? ⟨w.heap.size, 2, none⟩ = some (.slice A' n' c') := HX1.out.cell 2
        have x3 : w1.cell? ⟨w.heap.size, 3, none⟩ = some (.int .i64 K') := HX1.out.cell 3
        clear hb1 HX0 HB0
        go_wp2_with fail
        refine (HMY.out _ HB1.out).mono ?_
        rintro e w3 ⟨rfl, hb3⟩
        rw [hqm]
        have HB3 := Lib.hid (HB1.out.trans (hb3.out.mono HB1.out.size))
        have HX3 := Lib.hid (HX1.out.below hb3.out HX1.out.lt)
        have y1 : w3.cell? ⟨w.heap.size, 1, none⟩ = some (.string tn) := HX3.out.cell 1
        have y2 : w3.cell? ⟨w.heap.size, 2, none⟩ = some (.slice A' n' c') := HX3.out.cell 2
        have y3 : w3.cell? ⟨w.heap.size, 3, none⟩ = some (.int .i64 K') := HX3.out.cell 3
        clear hb3 HX1 HB1 x1 x2 x3
        go_wp2_with fail
        go_ret2
        exact ⟨_, [], by rw [HE.out]; rfl, ownT_nil _ _, clns_bad (by rw [HE.out]; omega), HB3⟩
      · by_cases h64 : 64 ≤ n
        · have HE := Lib.hid (e4 hqn hp hqm h64)
          have h64z : (64 : Int) ≤ (n : Int) := by omega
          clear e1 e2 e3 e4 e5
          go_enter Tryd.func34, Tryd.ntmps34
          go_wp2_with fail
          refine (HNM.out _).mono ?_
          rintro e w1 ⟨rfl, hb1⟩
          rw [hqn]
          have HB1 := Lib.hid (HB0.out.trans (hb1.out.mono HB0.out.size))
          have HX1 := Lib.hid (HX0.out.below hb1.out HX0.out.lt)
          have x1 : w1.cell? ⟨w.heap.size, 1, none⟩ = some (.string tn) := HX1.out.cell 1
          have x2 : w1.cell? ⟨w.heap.size, 2, none⟩ = some (.slice A' n' c') := HX1.out.cell 2
          have x3 : w1.cell? ⟨w.heap.size, 3, none⟩ = some (.int .i64 K') := HX1.out.cell 3
          clear hb1 HX0 HB0
          go_wp2_with fail
          refine (HMY.out _ HB1.out).mono ?_
          rintro e w3 ⟨rfl, hb3⟩
          rw [hqm]
          have HB3 := Lib.hid (HB1.out.trans (hb3.out.mono HB1.out.size))
          have HX3 := Lib.hid (HX1.out.below hb3.out HX1.out.lt)
          have y1 : w3.cell? ⟨w.heap.size, 1, none⟩ = some (.string tn) := HX3.out.cell 1
          have y2 : w3.cell? ⟨w.heap.size, 2, none⟩ = some (.slice A' n' c') := HX3.out.cell 2
          have y3 : w3.cell? ⟨w.heap.size, 3, none⟩ = some (.int .i64 K') := HX3.out.cell 3
          clear hb3 HX1 HB1 x1 x2 x3
          go_wp2_with fail
          go_ret2
          exact ⟨_, [], by rw [HE.out]; rfl, ownT_nil _ _, clns_bad (by rw [HE.out]; omega), HB3⟩
        · have HE := Lib.hid (e5 hqn hp hqm (by omega))
          have h64z : ¬ (64 : Int) ≤ (n : Int) := by omega
          clear e1 e2 e3 e4 e5
          go_enter Tryd.func34, Tryd.ntmps34
          go_wp2_with fail
          refine (HNM.out _).mono ?_
          rintro e w1 ⟨rfl, hb1⟩
          rw [hqn]
          have HB1 := Lib.hid (HB0.out.trans (hb1.out.mono HB0.out.size))
          have HX1 := Lib.hid (HX0.out.below hb1.out HX0.out.lt)
          have x1 : w1.cell? ⟨w.heap.size, 1, none⟩ = some (.string tn) := HX1.out.cell 1
          have x2 : w1.cell? ⟨w.heap.size, 2, none⟩ = some (.slice A' n' c') := HX1.out.cell 2
          have x3 : w1.cell? ⟨w.heap.size, 3, none⟩ = some (.int .i64 K') := HX1.out.cell 3
          clear hb1 HX0 HB0
          go_wp2_with fail
          refine (HMY.out _ HB1.out).mono ?_
          rintro e w3 ⟨rfl, hb3⟩
          rw [hqm]
          have HB3 := Lib.hid (HB1.out.trans (hb3.out.mono HB1.out.size))
          have HX3 := Lib.hid (HX1.out.below hb3.out HX1.out.lt)
          have y1 : w3.cell? ⟨w.heap.size, 1, none⟩ = some (.string tn) := HX3.out.cell 1
          have y2 : w3.cell? ⟨w.heap.size, 2, none⟩ = some (.slice A' n' c') := HX3.out.cell 2
          have y3 : w3.cell? ⟨w.heap.size, 3, none⟩ = some (.int .i64 K') := HX3.out.cell 3
          clear hb3 HX1 HB1 x1 x2 x3
          have HPP := Lib.hid (HPT.out w3 HB3.out hqm)
          have HFT := Lib.hid (fcT_ok (T := T) (tn := tn) (A' := A') (n' := n') (c' := c') (L' := L') (K' := K') HE.out)
          rw [hk] at HFT
          have hal : Below w3.heap.size w3 (w3.alloc (.cells #[.string tn, .slice A' n' c', .int .i64 K'] 30)) := (Below.refl _ w3).alloc (Nat.le_refl _) _
          have HBa := Lib.hid (HB3.out.trans (hal.mono HB3.out.size))
          clear HPT HMY HNM hal
          go_wp2_with fail
          refine HPP.out.mono ?_
          rintro e w5 ⟨v5, T5, rfl, ho5, hc5, hb5⟩
          have HB5 := Lib.hid (HBa.out.trans (hb5.out.mono HBa.out.size))
          obtain ⟨A7, n7, c7, rfl, _, _, _, _, _⟩ := ownT_open ho5.out
          have HO5 := Lib.hid (ownT_down ho5.out HBa.out.size)
          have HC5 := Lib.hid (hc5.out.down HBa.out.size)
          clear ho5 hc5 hb5 HPP
          go_wp2_with fail
          go_ret2
          exact ⟨_, T5, by rw [HE.out]; rfl, HO5, by rw [HFT.out]; exact HC5, HB5⟩
    · have HE := Lib.hid (e2 hqn hp)
      clear e1 e2 e3 e4 e5
      go_enter Tryd.func34, Tryd.ntmps34
      go_wp2_with fail
      refine (HNM.out _).mono ?_
      rintro e w1 ⟨rfl, hb1⟩
      rw [hqn]
      have HB1 := Lib.hid (HB0.out.trans (hb1.out.mono HB0.out.size))
      have HX1 := Lib.hid (HX0.out.below hb1.out HX0.out.lt)
      have x1 : w1.cell? ⟨w.heap.size, 1, none⟩ = some (.string tn) := HX1.out.cell 1
      have x2 : w1.cell? ⟨w.heap.size, 2, none⟩ = some (.slice A' n' c') := HX1.out.cell 2
      have x3 : w1.cell? ⟨w.heap.size, 3, none⟩ = some (.int .i64 K') := HX1.out.cell 3
      clear hb1 HX0 HB0
      go_wp2_with fail
      go_ret2
      exact ⟨_, [], by rw [HE.out]; rfl, ownT_nil _ _, clns_bad (by rw [HE.out]; omega), HB1⟩
end Go.Proofs.YtiefogofiajmnaaDoor
