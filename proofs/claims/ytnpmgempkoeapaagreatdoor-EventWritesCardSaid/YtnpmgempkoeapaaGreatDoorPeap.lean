/-
  Put together, as far as it is used: Qn.
-/
import Derived.Test.YtnpmgempkoeapaaGreatDoorPeah
import Derived.Test.YtnpmgempkoeapaaGreatDoorPeab
set_option linter.unusedVariables false
set_option linter.unusedSimpArgs false
set_option linter.defProp false
namespace Go.Proofs.YtnpmgempkoeapaaGreatDoor
open Go.RowKit Dg
set_option maxHeartbeats 8000000 in
set_option maxRecDepth 100000 in
theorem fits_any (A : Option Addr) (M : List Cl) (n c : Nat) (K : Int) (Ar : Option Addr) (R : List Vl) (nr cr : Nat) (w : World) (hn : M.length = n) (_hl : n ≤ 900) (hA : CRow w A M) (hnr : R.length = nr) (hR : VRow w Ar R) (hf : ∀ x ∈ R, x.fit) (hTb : Tabs w) :
 Calls Tryz.prog 86 #[.agg #[.slice A n c, .int .i64 K], .slice Ar nr cr] w fun e w' => e = .returned (.bool (fitsF M R)) ∧ Hid (Below w.heap.size w w') := by
 have HN := Lib.hid hn
 have HA := Lib.hid hA
 have HNR := Lib.hid hnr
 have HR := Lib.hid hR
 have HF := Lib.hid hf
 have HTB := Lib.hid hTb
 have HB0 := Lib.hid ((Below.refl w.heap.size w).alloc (Nat.le_refl _) (.cells #[.slice A n c, .int .i64 K] 27))
 clear hn hA hnr hR hf hTb
 by_cases hnn : nr = n
 ·subst hnn
  have HC : Hid (fitsF M R = fitsTo M R nr) := by show _ = _; unfold fitsF; rw [HN.out, HNR.out]; simp
  go_enter Tryz.func86, Tryz.ntmps86
  go_wp2_with fail
  go_loopw [17] (fun i wr => ∃ k : Nat, k ≤ nr ∧ i = .int .i64 k ∧ Hid (fitsTo M R k = true) ∧ Hid (Below w.heap.size w wr)) (fun i _ => nr - (intOf i).toNat)
  case atStart => exact ⟨0, by omega, rfl, rfl, HB0.out⟩
  case round =>
   obtain ⟨k, hk, rfl, HT, HB⟩ := hrel
   by_cases hlt : k < nr
   ·have hkl : k < M.length := by rw [HN.out]; exact hlt
    have hkr : k < R.length := by rw [HNR.out]; exact hlt
    obtain ⟨b, off, rfl, hc⟩ := (HA.out.below HB.out) (by intro e; rw [e] at hkl; simp at hkl)
    obtain ⟨b', off', rfl, hc'⟩ := (HR.out.below HB.out) (by intro e; rw [e] at hkr; simp at hkr)
    obtain ⟨c0, c1, c2⟩ := hc k hkl
    obtain ⟨d0, d1, d2⟩ := hc' k hkr
    have hfit := (HF.out R[k] (List.getElem_mem hkr)).2.2
    have HSU := Lib.hid (fitsTo_succ M R k hkl hkr)
    have HFA := Lib.hid (fitsTo_false M R k nr hlt hkl hkr)
    clear hc hc'
    generalize M[k] = x at *
    generalize R[k] = y at *
    obtain ⟨xa, xb, xc⟩ := x
    obtain ⟨yk, yn, ys⟩ := y
    simp only at c0 c1 c2 d0 d1 d2 hfit
    have hsz : ys.size ≤ 9223372036854775807 := by omega
    have HMY := Lib.hid (fun W h => may_any yk yn ys W hsz h)
    have HST : Hid (standsF ⟨xa, xb, xc⟩ ⟨yk, yn, ys⟩ = (mayF yk yn ys && (yk == xb || (yk == 0 && xc)))) := rfl
    have hkz : (k : Int) < (nr : Int) := by omega
    have hk0 : (0 : Int) ≤ (k : Int) := by omega
    have hBW : Hid (Below wr.heap.size wr (wr.alloc (.cells #[.string xa, .int .i64 xb, .bool xc] 29))) := (Below.refl _ wr).alloc (Nat.le_refl _) _
    have HBU := Lib.hid (HB.out.trans (hBW.out.mono HB.out.size))
    have hBD := Lib.hid (HBU.out.drew)
    have e0 := keepC hBW.out d0
    have e1 := keepC hBW.out d1
    have e2 := keepC hBW.out d2
    have g0 : (wr.alloc (.cells #[.string xa, .int .i64 xb, .bool xc] 29)).cell? ⟨wr.heap.size, 0, none⟩ = some (.string xa) := (Has.new wr 29 #[.string xa, .int .i64 xb, .bool xc]).cell 0
    have g1 : (wr.alloc (.cells #[.string xa, .int .i64 xb, .bool xc] 29)).cell? ⟨wr.heap.size, 1, none⟩ = some (.int .i64 xb) := (Has.new wr 29 #[.string xa, .int .i64 xb, .bool xc]).cell 1
    clear d0 d1 d2
    have hnone : (xc = true ∧ yk = 0) ∨ (xc = true ∧ yk ≠ 0 ∧ yk = xb) ∨ (xc = true ∧ yk ≠ 0 ∧ yk ≠ xb) ∨ (xc = false ∧ yk = xb) ∨ (xc = false ∧ yk ≠ xb) := by
     cases xc
     ·by_cases h1 : yk = xb
      ·exact .inr (.inr (.inr (.inl ⟨rfl, h1⟩)))
      ·exact .inr (.inr (.inr (.inr ⟨rfl, h1⟩)))
     ·by_cases h0 : yk = 0
      ·exact .inl ⟨rfl, h0⟩
      ·by_cases h1 : yk = xb
       ·exact .inr (.inl ⟨rfl, h0, h1⟩)
       ·exact .inr (.inr (.inl ⟨rfl, h0, h1⟩))
    rcases hnone with ⟨rfl, rfl⟩ | ⟨rfl, h0, rfl⟩ | ⟨rfl, h0, h1⟩ | ⟨rfl, rfl⟩ | ⟨rfl, h1⟩
    ·generalize hqq : mayF 0 yn ys = q at *
     clear hqq
     cases q
     ·go_wp2_with fail
      obtain ⟨W9, hW9⟩ : ∃ W9, W9 = (wr.alloc (.cells #[.string xa, .int .i64 xb, .bool true] 29)) := ⟨_, rfl⟩
      rw [← hW9] at HBU hBD e0 e1 e2 g1 ⊢
      clear hW9 g0
      have hS0 : (fun W => Hid (Below w.heap.size w W) ∧ W.cell? ⟨wr.heap.size, 1, none⟩ = some (.int .i64 xb) ∧ W.cell? ⟨b', off' + k * 3, none⟩ = some (.int .i64 0) ∧ W.cell? ⟨b', off' + k * 3 + 1, none⟩ = some (.int .i64 yn) ∧ W.cell? ⟨b', off' + k * 3 + 2, none⟩ = some (.string ys)) W9.drew := by
       refine ⟨hBD, ?_⟩
       go_keep
      refine wp_region_held_drew (S := (fun W => Hid (Below w.heap.size w W) ∧ W.cell? ⟨wr.heap.size, 1, none⟩ = some (.int .i64 xb) ∧ W.cell? ⟨b', off' + k * 3, none⟩ = some (.int .i64 0) ∧ W.cell? ⟨b', off' + k * 3 + 1, none⟩ = some (.int .i64 yn) ∧ W.cell? ⟨b', off' + k * 3 + 2, none⟩ = some (.string ys))) (by kernel_rfl) hS0 (fun _ => ?_)
      (refine wpAnyH_take (i := 0) (v := ?_) rfl (by kernel_rfl) (by kernel_rfl) (by kernel_rfl) (fun _ _ _ h => h) (Or.inl ⟨by rfl, ?_⟩) (by assumption) ?_; rotate_left; (intro w hSw; (try dsimp only at hSw); go_simp; try with_reducible rfl); ((try simp only [zA, zB, zC, Act.put, zD, zE, zF])))
      (refine wpAnyH_take (i := 1) (v := ?_) rfl (by kernel_rfl) (by kernel_rfl) (by kernel_rfl) (fun _ _ _ h => h) (Or.inl ⟨by rfl, ?_⟩) (by assumption) ?_; rotate_left; (intro w hSw; (try dsimp only at hSw); go_simp; try with_reducible rfl); ((try simp only [zA, zB, zC, Act.put, zD, zE, zF])))
      (refine wpAnyH_take (i := 2) (v := ?_) rfl (by kernel_rfl) (by kernel_rfl) (by kernel_rfl) (fun _ _ _ h => h) (Or.inl ⟨by rfl, ?_⟩) (by assumption) ?_; rotate_left; (intro w hSw; (try dsimp only at hSw); go_simp; try with_reducible rfl); ((try simp only [zA, zB, zC, Act.put, zD, zE, zF])))
      (refine wpAnyH_take (i := 3) (v := undef) rfl (by kernel_rfl) (by kernel_rfl) (by kernel_rfl) (fun _ _ _ h => h) (Or.inr ⟨by rfl, rfl⟩) (by assumption) ?_; ((try simp only [zA, zB, zC, Act.put, zD, zE, zF])))
      (refine wpAnyH_take (i := 4) (v := undef) rfl (by kernel_rfl) (by kernel_rfl) (by kernel_rfl) (fun _ _ _ h => h) (Or.inr ⟨by rfl, rfl⟩) (by assumption) ?_; ((try simp only [zA, zB, zC, Act.put, zD, zE, zF])))
      (refine wpAnyH_take (i := 5) (v := undef) rfl (by kernel_rfl) (by kernel_rfl) (by kernel_rfl) (fun _ _ _ h => h) (Or.inr ⟨by rfl, rfl⟩) (by assumption) ?_; ((try simp only [zA, zB, zC, Act.put, zD, zE, zF])))
      (refine wpAnyH_take (i := 6) (v := undef) rfl (by kernel_rfl) (by kernel_rfl) (by kernel_rfl) (fun _ _ _ h => h) (Or.inr ⟨by rfl, rfl⟩) (by assumption) ?_; ((try simp only [zA, zB, zC, Act.put, zD, zE, zF])))
      (refine wpAnyH_take (i := 7) (v := undef) rfl (by kernel_rfl) (by kernel_rfl) (by kernel_rfl) (fun _ _ _ h => h) (Or.inr ⟨by rfl, rfl⟩) (by assumption) ?_; ((try simp only [zA, zB, zC, Act.put, zD, zE, zF])))
      (refine wpAnyH_take (i := 8) (v := undef) rfl (by kernel_rfl) (by kernel_rfl) (by kernel_rfl) (fun _ _ _ h => h) (Or.inr ⟨by rfl, rfl⟩) (by assumption) ?_; ((try simp only [zA, zB, zC, Act.put, zD, zE, zF])))
      (refine wpAnyH_take (i := 9) (v := undef) rfl (by kernel_rfl) (by kernel_rfl) (by kernel_rfl) (fun _ _ _ h => h) (Or.inr ⟨by rfl, rfl⟩) (by assumption) ?_; ((try simp only [zA, zB, zC, Act.put, zD, zE, zF])))
      (refine wpAnyH_take (i := 10) (v := undef) rfl (by kernel_rfl) (by kernel_rfl) (by kernel_rfl) (fun _ _ _ h => h) (Or.inr ⟨by rfl, rfl⟩) (by assumption) ?_; ((try simp only [zA, zB, zC, Act.put, zD, zE, zF])))
      (refine wpAnyH_take (i := 11) (v := ?_) rfl (by kernel_rfl) (by kernel_rfl) (by kernel_rfl) (fun _ _ _ h => h) (Or.inl ⟨by rfl, ?_⟩) (by assumption) ?_; rotate_left; (intro w hSw; (try dsimp only at hSw); go_simp; try with_reducible rfl); ((try simp only [zA, zB, zC, Act.put, zD, zE, zF])))
      (refine wpAnyH_take (i := 12) (v := ?_) rfl (by kernel_rfl) (by kernel_rfl) (by kernel_rfl) (fun _ _ _ h => h) (Or.inl ⟨by rfl, ?_⟩) (by assumption) ?_; rotate_left; (intro w hSw; (try dsimp only at hSw); go_simp; try with_reducible rfl); ((try simp only [zA, zB, zC, Act.put, zD, zE, zF])))
      (refine wpAnyH_take (i := 13) (v := ?_) rfl (by kernel_rfl) (by kernel_rfl) (by kernel_rfl) (fun _ _ _ h => h) (Or.inl ⟨by rfl, ?_⟩) (by assumption) ?_; rotate_left; (intro w hSw; (try dsimp only at hSw); go_simp; try with_reducible rfl); ((try simp only [zA, zB, zC, Act.put, zD, zE, zF])))
      (refine wpAnyH_take (i := 14) (v := ?_) rfl (by kernel_rfl) (by kernel_rfl) (by kernel_rfl) (fun _ _ _ h => h) (Or.inl ⟨by rfl, ?_⟩) (by assumption) ?_; rotate_left; (intro w hSw; (try dsimp only at hSw); go_simp; try with_reducible rfl); ((try simp only [zA, zB, zC, Act.put, zD, zE, zF])))
      (refine wpAnyH_take (i := 15) (v := ?_) rfl (by kernel_rfl) (by kernel_rfl) (by kernel_rfl) (fun _ _ _ h => h) (Or.inl ⟨by rfl, ?_⟩) (by assumption) ?_; rotate_left; (intro w hSw; (try dsimp only at hSw); go_simp; try with_reducible rfl); ((try simp only [zA, zB, zC, Act.put, zD, zE, zF])))
      (refine wpAnyH_take (i := 16) (v := ?_) rfl (by kernel_rfl) (by kernel_rfl) (by kernel_rfl) (fun _ _ _ h => h) (Or.inl ⟨by rfl, ?_⟩) (by assumption) ?_; rotate_left; (intro w hSw; (try dsimp only at hSw); go_simp; try with_reducible rfl); ((try simp only [zA, zB, zC, Act.put, zD, zE, zF])))
      refine wpAnyH_ready (rs := [17]) (by kernel_rfl) (by simp) ?_
      refine AllReadyH.cons rfl (fun K2 hK2 => ?_) AllReadyH.nil
      go_simp
      refine (HMY.out _ (HTB.out.below hBD.out)).mono ?_
      rintro e x1 ⟨rfl, hb1⟩
      have hby := Lib.hid (hBD.out.trans (hb1.out.mono hBD.out.size))
      have hbx := Lib.hid ((Below.refl W9.heap.size W9).drew.trans hb1.out)
      have zg1 := keepC hbx.out g1
      have ze0 := keepC hbx.out e0
      have ze1 := keepC hbx.out e1
      have ze2 := keepC hbx.out e2
      clear hb1
      go_wp2_with fail
      refine hK2.out _ _ (by (try dsimp only); refine ⟨by assumption, ?_⟩; go_keep) (fun _ => ?_)
      clear hK2 K2
      (try simp only [zA, zB, zC, Act.put, zD, zE, zF])
      (refine wpAnyH_take (i := 18) (v := ?_) rfl (by kernel_rfl) (by kernel_rfl) (by kernel_rfl) (fun _ _ _ h => h) (Or.inl ⟨by rfl, ?_⟩) (by assumption) ?_; rotate_left; (intro w hSw; (try dsimp only at hSw); go_simp; try with_reducible rfl); ((try simp only [zA, zB, zC, Act.put, zD, zE, zF])))
      (refine wpAnyH_take (i := 19) (v := ?_) rfl (by kernel_rfl) (by kernel_rfl) (by kernel_rfl) (fun _ _ _ h => h) (Or.inl ⟨by rfl, ?_⟩) (by assumption) ?_; rotate_left; (intro w hSw; (try dsimp only at hSw); go_simp; try with_reducible rfl); ((try simp only [zA, zB, zC, Act.put, zD, zE, zF])))
      refine wpAnyH_done (by kernel_rfl) ?_ _
      all_goals
       go_wp2_with fail
       go_ret
       exact ⟨by rw [HC.out, HFA.out (by rw [HST.out]; rfl)]; rfl, hby⟩
     ·go_wp2_with fail
      obtain ⟨W9, hW9⟩ : ∃ W9, W9 = (wr.alloc (.cells #[.string xa, .int .i64 xb, .bool true] 29)) := ⟨_, rfl⟩
      rw [← hW9] at HBU hBD e0 e1 e2 g1 ⊢
      clear hW9 g0
      have hS0 : (fun W => Hid (Below w.heap.size w W) ∧ W.cell? ⟨wr.heap.size, 1, none⟩ = some (.int .i64 xb) ∧ W.cell? ⟨b', off' + k * 3, none⟩ = some (.int .i64 0) ∧ W.cell? ⟨b', off' + k * 3 + 1, none⟩ = some (.int .i64 yn) ∧ W.cell? ⟨b', off' + k * 3 + 2, none⟩ = some (.string ys)) W9.drew := by
       refine ⟨hBD, ?_⟩
       go_keep
      refine wp_region_held_drew (S := (fun W => Hid (Below w.heap.size w W) ∧ W.cell? ⟨wr.heap.size, 1, none⟩ = some (.int .i64 xb) ∧ W.cell? ⟨b', off' + k * 3, none⟩ = some (.int .i64 0) ∧ W.cell? ⟨b', off' + k * 3 + 1, none⟩ = some (.int .i64 yn) ∧ W.cell? ⟨b', off' + k * 3 + 2, none⟩ = some (.string ys))) (by kernel_rfl) hS0 (fun _ => ?_)
      (refine wpAnyH_take (i := 0) (v := ?_) rfl (by kernel_rfl) (by kernel_rfl) (by kernel_rfl) (fun _ _ _ h => h) (Or.inl ⟨by rfl, ?_⟩) (by assumption) ?_; rotate_left; (intro w hSw; (try dsimp only at hSw); go_simp; try with_reducible rfl); ((try simp only [zA, zB, zC, Act.put, zD, zE, zF])))
      (refine wpAnyH_take (i := 1) (v := ?_) rfl (by kernel_rfl) (by kernel_rfl) (by kernel_rfl) (fun _ _ _ h => h) (Or.inl ⟨by rfl, ?_⟩) (by assumption) ?_; rotate_left; (intro w hSw; (try dsimp only at hSw); go_simp; try with_reducible rfl); ((try simp only [zA, zB, zC, Act.put, zD, zE, zF])))
      (refine wpAnyH_take (i := 2) (v := ?_) rfl (by kernel_rfl) (by kernel_rfl) (by kernel_rfl) (fun _ _ _ h => h) (Or.inl ⟨by rfl, ?_⟩) (by assumption) ?_; rotate_left; (intro w hSw; (try dsimp only at hSw); go_simp; try with_reducible rfl); ((try simp only [zA, zB, zC, Act.put, zD, zE, zF])))
      (refine wpAnyH_take (i := 3) (v := undef) rfl (by kernel_rfl) (by kernel_rfl) (by kernel_rfl) (fun _ _ _ h => h) (Or.inr ⟨by rfl, rfl⟩) (by assumption) ?_; ((try simp only [zA, zB, zC, Act.put, zD, zE, zF])))
      (refine wpAnyH_take (i := 4) (v := undef) rfl (by kernel_rfl) (by kernel_rfl) (by kernel_rfl) (fun _ _ _ h => h) (Or.inr ⟨by rfl, rfl⟩) (by assumption) ?_; ((try simp only [zA, zB, zC, Act.put, zD, zE, zF])))
      (refine wpAnyH_take (i := 5) (v := undef) rfl (by kernel_rfl) (by kernel_rfl) (by kernel_rfl) (fun _ _ _ h => h) (Or.inr ⟨by rfl, rfl⟩) (by assumption) ?_; ((try simp only [zA, zB, zC, Act.put, zD, zE, zF])))
      (refine wpAnyH_take (i := 6) (v := undef) rfl (by kernel_rfl) (by kernel_rfl) (by kernel_rfl) (fun _ _ _ h => h) (Or.inr ⟨by rfl, rfl⟩) (by assumption) ?_; ((try simp only [zA, zB, zC, Act.put, zD, zE, zF])))
      (refine wpAnyH_take (i := 7) (v := undef) rfl (by kernel_rfl) (by kernel_rfl) (by kernel_rfl) (fun _ _ _ h => h) (Or.inr ⟨by rfl, rfl⟩) (by assumption) ?_; ((try simp only [zA, zB, zC, Act.put, zD, zE, zF])))
      (refine wpAnyH_take (i := 8) (v := undef) rfl (by kernel_rfl) (by kernel_rfl) (by kernel_rfl) (fun _ _ _ h => h) (Or.inr ⟨by rfl, rfl⟩) (by assumption) ?_; ((try simp only [zA, zB, zC, Act.put, zD, zE, zF])))
      (refine wpAnyH_take (i := 9) (v := undef) rfl (by kernel_rfl) (by kernel_rfl) (by kernel_rfl) (fun _ _ _ h => h) (Or.inr ⟨by rfl, rfl⟩) (by assumption) ?_; ((try simp only [zA, zB, zC, Act.put, zD, zE, zF])))
      (refine wpAnyH_take (i := 10) (v := undef) rfl (by kernel_rfl) (by kernel_rfl) (by kernel_rfl) (fun _ _ _ h => h) (Or.inr ⟨by rfl, rfl⟩) (by assumption) ?_; ((try simp only [zA, zB, zC, Act.put, zD, zE, zF])))
      (refine wpAnyH_take (i := 11) (v := ?_) rfl (by kernel_rfl) (by kernel_rfl) (by kernel_rfl) (fun _ _ _ h => h) (Or.inl ⟨by rfl, ?_⟩) (by assumption) ?_; rotate_left; (intro w hSw; (try dsimp only at hSw); go_simp; try with_reducible rfl); ((try simp only [zA, zB, zC, Act.put, zD, zE, zF])))
      (refine wpAnyH_take (i := 12) (v := ?_) rfl (by kernel_rfl) (by kernel_rfl) (by kernel_rfl) (fun _ _ _ h => h) (Or.inl ⟨by rfl, ?_⟩) (by assumption) ?_; rotate_left; (intro w hSw; (try dsimp only at hSw); go_simp; try with_reducible rfl); ((try simp only [zA, zB, zC, Act.put, zD, zE, zF])))
      (refine wpAnyH_take (i := 13) (v := ?_) rfl (by kernel_rfl) (by kernel_rfl) (by kernel_rfl) (fun _ _ _ h => h) (Or.inl ⟨by rfl, ?_⟩) (by assumption) ?_; rotate_left; (intro w hSw; (try dsimp only at hSw); go_simp; try with_reducible rfl); ((try simp only [zA, zB, zC, Act.put, zD, zE, zF])))
      (refine wpAnyH_take (i := 14) (v := ?_) rfl (by kernel_rfl) (by kernel_rfl) (by kernel_rfl) (fun _ _ _ h => h) (Or.inl ⟨by rfl, ?_⟩) (by assumption) ?_; rotate_left; (intro w hSw; (try dsimp only at hSw); go_simp; try with_reducible rfl); ((try simp only [zA, zB, zC, Act.put, zD, zE, zF])))
      (refine wpAnyH_take (i := 15) (v := ?_) rfl (by kernel_rfl) (by kernel_rfl) (by kernel_rfl) (fun _ _ _ h => h) (Or.inl ⟨by rfl, ?_⟩) (by assumption) ?_; rotate_left; (intro w hSw; (try dsimp only at hSw); go_simp; try with_reducible rfl); ((try simp only [zA, zB, zC, Act.put, zD, zE, zF])))
      (refine wpAnyH_take (i := 16) (v := ?_) rfl (by kernel_rfl) (by kernel_rfl) (by kernel_rfl) (fun _ _ _ h => h) (Or.inl ⟨by rfl, ?_⟩) (by assumption) ?_; rotate_left; (intro w hSw; (try dsimp only at hSw); go_simp; try with_reducible rfl); ((try simp only [zA, zB, zC, Act.put, zD, zE, zF])))
      refine wpAnyH_ready (rs := [17]) (by kernel_rfl) (by simp) ?_
      refine AllReadyH.cons rfl (fun K2 hK2 => ?_) AllReadyH.nil
      go_simp
      refine (HMY.out _ (HTB.out.below hBD.out)).mono ?_
      rintro e x1 ⟨rfl, hb1⟩
      have hby := Lib.hid (hBD.out.trans (hb1.out.mono hBD.out.size))
      have hbx := Lib.hid ((Below.refl W9.heap.size W9).drew.trans hb1.out)
      have zg1 := keepC hbx.out g1
      have ze0 := keepC hbx.out e0
      have ze1 := keepC hbx.out e1
      have ze2 := keepC hbx.out e2
      clear hb1
      go_wp2_with fail
      refine hK2.out _ _ (by (try dsimp only); refine ⟨by assumption, ?_⟩; go_keep) (fun _ => ?_)
      clear hK2 K2
      (try simp only [zA, zB, zC, Act.put, zD, zE, zF])
      (refine wpAnyH_take (i := 18) (v := ?_) rfl (by kernel_rfl) (by kernel_rfl) (by kernel_rfl) (fun _ _ _ h => h) (Or.inl ⟨by rfl, ?_⟩) (by assumption) ?_; rotate_left; (intro w hSw; (try dsimp only at hSw); go_simp; try with_reducible rfl); ((try simp only [zA, zB, zC, Act.put, zD, zE, zF])))
      (refine wpAnyH_take (i := 19) (v := ?_) rfl (by kernel_rfl) (by kernel_rfl) (by kernel_rfl) (fun _ _ _ h => h) (Or.inl ⟨by rfl, ?_⟩) (by assumption) ?_; rotate_left; (intro w hSw; (try dsimp only at hSw); go_simp; try with_reducible rfl); ((try simp only [zA, zB, zC, Act.put, zD, zE, zF])))
      refine wpAnyH_done (by kernel_rfl) ?_ _
      all_goals
       go_wp2_with fail
       go_roundw
       case rel => exact ⟨k + 1, by omega, by go_num, by show _ = _; rw [HSU.out, HT.out, HST.out]; simp, hby⟩
       case measure => simp [intOf]; omega
    ·have hq0 : (yk == 0) = false := by simp [h0]
     generalize hqq : mayF yk yn ys = q at *
     clear hqq
     cases q
     ·go_wp2_with fail
      obtain ⟨W9, hW9⟩ : ∃ W9, W9 = (wr.alloc (.cells #[.string xa, .int .i64 yk, .bool true] 29)) := ⟨_, rfl⟩
      rw [← hW9] at HBU hBD e0 e1 e2 g1 ⊢
      clear hW9 g0
      go_region_held3 (fun W => Hid (Below w.heap.size w W) ∧ W.cell? ⟨wr.heap.size, 1, none⟩ = some (.int .i64 yk) ∧ W.cell? ⟨b', off' + k * 3, none⟩ = some (.int .i64 yk) ∧ W.cell? ⟨b', off' + k * 3 + 1, none⟩ = some (.int .i64 yn) ∧ W.cell? ⟨b', off' + k * 3 + 2, none⟩ = some (.string ys)) ((refine ⟨by assumption, ?_⟩; go_keep))
       (first | (go_at_call 109; refine (HMY.out _ (HTB.out.below hBD.out)).mono ?_; rintro e x1 ⟨rfl, hb1⟩; have hby := Lib.hid (hBD.out.trans (hb1.out.mono hBD.out.size)); have hbx := Lib.hid ((Below.refl W9.heap.size W9).drew.trans hb1.out); have zg1 := keepC hbx.out g1; have ze0 := keepC hbx.out e0; have ze1 := keepC hbx.out e1; have ze2 := keepC hbx.out e2; clear hb1))
      all_goals
       go_wp2_with fail
       go_ret
       exact ⟨by rw [HC.out, HFA.out (by rw [HST.out]; rfl)]; rfl, hby⟩
     ·go_wp2_with fail
      obtain ⟨W9, hW9⟩ : ∃ W9, W9 = (wr.alloc (.cells #[.string xa, .int .i64 yk, .bool true] 29)) := ⟨_, rfl⟩
      rw [← hW9] at HBU hBD e0 e1 e2 g1 ⊢
      clear hW9 g0
      go_region_held3 (fun W => Hid (Below w.heap.size w W) ∧ W.cell? ⟨wr.heap.size, 1, none⟩ = some (.int .i64 yk) ∧ W.cell? ⟨b', off' + k * 3, none⟩ = some (.int .i64 yk) ∧ W.cell? ⟨b', off' + k * 3 + 1, none⟩ = some (.int .i64 yn) ∧ W.cell? ⟨b', off' + k * 3 + 2, none⟩ = some (.string ys)) ((refine ⟨by assumption, ?_⟩; go_keep))
       (first | (go_at_call 109; refine (HMY.out _ (HTB.out.below hBD.out)).mono ?_; rintro e x1 ⟨rfl, hb1⟩; have hby := Lib.hid (hBD.out.trans (hb1.out.mono hBD.out.size)); have hbx := Lib.hid ((Below.refl W9.heap.size W9).drew.trans hb1.out); have zg1 := keepC hbx.out g1; have ze0 := keepC hbx.out e0; have ze1 := keepC hbx.out e1; have ze2 := keepC hbx.out e2; clear hb1))
      all_goals
       go_wp2_with fail
       go_roundw
       case rel => exact ⟨k + 1, by omega, by go_num, by show _ = _; rw [HSU.out, HT.out, HST.out]; simp, hby⟩
       case measure => simp [intOf]; omega
    ·have hq0 : (yk == 0) = false := by simp [h0]
     have hq1 : (yk == xb) = false := by simp [h1]
     have hq2 : (yk != xb) = true := by simp [h1]
     have HO : Hid (standsF ⟨xa, xb, true⟩ ⟨yk, yn, ys⟩ = false) := by show _ = _; rw [HST.out, hq1]; rw [hq0]; simp
     go_wp2_with fail
     obtain ⟨W9, hW9⟩ : ∃ W9, W9 = (wr.alloc (.cells #[.string xa, .int .i64 xb, .bool true] 29)) := ⟨_, rfl⟩
     rw [← hW9] at HBU hBD e0 e1 e2 g1 ⊢
     clear hW9 g0
     go_region
     all_goals
      go_wp2_with fail
      go_ret
      exact ⟨by rw [HC.out, HFA.out HO.out]; rfl, hBD⟩
    ·generalize hqq : mayF yk yn ys = q at *
     clear hqq
     cases q
     ·go_wp2_with fail
      obtain ⟨W9, hW9⟩ : ∃ W9, W9 = (wr.alloc (.cells #[.string xa, .int .i64 yk, .bool false] 29)) := ⟨_, rfl⟩
      rw [← hW9] at HBU hBD e0 e1 e2 g1 ⊢
      clear hW9 g0
      go_region_held3 (fun W => Hid (Below w.heap.size w W) ∧ W.cell? ⟨wr.heap.size, 1, none⟩ = some (.int .i64 yk) ∧ W.cell? ⟨b', off' + k * 3, none⟩ = some (.int .i64 yk) ∧ W.cell? ⟨b', off' + k * 3 + 1, none⟩ = some (.int .i64 yn) ∧ W.cell? ⟨b', off' + k * 3 + 2, none⟩ = some (.string ys)) ((refine ⟨by assumption, ?_⟩; go_keep))
       (first | (go_at_call 109; refine (HMY.out _ (HTB.out.below hBD.out)).mono ?_; rintro e x1 ⟨rfl, hb1⟩; have hby := Lib.hid (hBD.out.trans (hb1.out.mono hBD.out.size)); have hbx := Lib.hid ((Below.refl W9.heap.size W9).drew.trans hb1.out); have zg1 := keepC hbx.out g1; have ze0 := keepC hbx.out e0; have ze1 := keepC hbx.out e1; have ze2 := keepC hbx.out e2; clear hb1))
      all_goals
       go_wp2_with fail
       go_ret
       exact ⟨by rw [HC.out, HFA.out (by rw [HST.out]; rfl)]; rfl, hby⟩
     ·go_wp2_with fail
      obtain ⟨W9, hW9⟩ : ∃ W9, W9 = (wr.alloc (.cells #[.string xa, .int .i64 yk, .bool false] 29)) := ⟨_, rfl⟩
      rw [← hW9] at HBU hBD e0 e1 e2 g1 ⊢
      clear hW9 g0
      go_region_held3 (fun W => Hid (Below w.heap.size w W) ∧ W.cell? ⟨wr.heap.size, 1, none⟩ = some (.int .i64 yk) ∧ W.cell? ⟨b', off' + k * 3, none⟩ = some (.int .i64 yk) ∧ W.cell? ⟨b', off' + k * 3 + 1, none⟩ = some (.int .i64 yn) ∧ W.cell? ⟨b', off' + k * 3 + 2, none⟩ = some (.string ys)) ((refine ⟨by assumption, ?_⟩; go_keep))
       (first | (go_at_call 109; refine (HMY.out _ (HTB.out.below hBD.out)).mono ?_; rintro e x1 ⟨rfl, hb1⟩; have hby := Lib.hid (hBD.out.trans (hb1.out.mono hBD.out.size)); have hbx := Lib.hid ((Below.refl W9.heap.size W9).drew.trans hb1.out); have zg1 := keepC hbx.out g1; have ze0 := keepC hbx.out e0; have ze1 := keepC hbx.out e1; have ze2 := keepC hbx.out e2; clear hb1))
      all_goals
       go_wp2_with fail
       go_roundw
       case rel => exact ⟨k + 1, by omega, by go_num, by show _ = _; rw [HSU.out, HT.out, HST.out]; simp, hby⟩
       case measure => simp [intOf]; omega
    ·have hq1 : (yk == xb) = false := by simp [h1]
     have hq2 : (yk != xb) = true := by simp [h1]
     have HO : Hid (standsF ⟨xa, xb, false⟩ ⟨yk, yn, ys⟩ = false) := by show _ = _; rw [HST.out, hq1]; simp
     go_wp2_with fail
     obtain ⟨W9, hW9⟩ : ∃ W9, W9 = (wr.alloc (.cells #[.string xa, .int .i64 xb, .bool false] 29)) := ⟨_, rfl⟩
     rw [← hW9] at HBU hBD e0 e1 e2 g1 ⊢
     clear hW9 g0
     go_region
     all_goals
      go_wp2_with fail
      go_ret
      exact ⟨by rw [HC.out, HFA.out HO.out]; rfl, hBD⟩
   ·obtain rfl : k = nr := by omega
    go_wp2_with fail
    go_ret
    exact ⟨by rw [HC.out, HT.out]; rfl, HB⟩
 ·have HC : Hid (fitsF M R = false) := by show _ = _; unfold fitsF; rw [HN.out, HNR.out]; simp [hnn]
  have hq : ((nr : Int) != (n : Int)) = true := by simp; omega
  go_enter Tryz.func86, Tryz.ntmps86
  go_wp2_with fail
  go_ret
  exact ⟨by rw [HC.out]; rfl, HB0⟩
def kindsTo (M : List Cl) (R : List Vl) (k : Nat) : Bool := (List.range k).all fun i => match M[i]?, R[i]? with | some c, some v => v.k == c.k | _, _ => true
theorem kindsTo_succ (M : List Cl) (R : List Vl) (k : Nat) (h : k < M.length) (h' : k < R.length) : kindsTo M R (k + 1) = (kindsTo M R k && (R[k].k == M[k].k)) := by
 unfold kindsTo; rw [List.range_succ, List.all_append]; simp [h, h']
theorem kindsTo_false (M : List Cl) (R : List Vl) (k n : Nat) (hk : k < n) (h : k < M.length) (h' : k < R.length) (hs : (R[k].k == M[k].k) = false) : kindsTo M R n = false := by
 unfold kindsTo; rw [List.all_eq_false]
 exact ⟨k, List.mem_range.2 hk, by simp [h, h', hs]⟩
def beginsF (M : List Cl) (R : List Vl) (k : Nat) : Bool := decide (k ≤ R.length) && kindsTo M R k
set_option maxHeartbeats 3000000 in
set_option maxRecDepth 100000 in
theorem begins_any (A : Option Addr) (M : List Cl) (n c : Nat) (kk : Nat) (Ar : Option Addr) (R : List Vl) (nr cr : Nat) (w : World) (hn : M.length = n) (hkn : kk ≤ n) (hk9 : kk ≤ 900) (hnc : n ≤ c) (hA : CRow w A M) (hnr : R.length = nr) (hR : VRow w Ar R) :
 Calls Tryz.prog 118 #[.agg #[.slice A n c, .int .i64 kk], .slice Ar nr cr] w fun e w' => e = .returned (.bool (beginsF M R kk)) ∧ Hid (Below w.heap.size w w') := by
 have HN := Lib.hid hn
 have HA := Lib.hid hA
 have HNR := Lib.hid hnr
 have HR := Lib.hid hR
 have HB0 := Lib.hid ((Below.refl w.heap.size w).alloc (Nat.le_refl _) (.cells #[.slice A n c, .int .i64 kk] 27))
 have z0 : (0 : Int) ≤ (kk : Int) := by omega
 have z1 : (kk : Int) ≤ (c : Int) := by omega
 have hz0 : ¬ (kk : Int) < 0 := by omega
 have hz1 : ¬ (n : Int) < (kk : Int) := by omega
 have hq1 : decide (n < kk) = false := by simp; omega
 clear hn hA hnr hR
 by_cases hnn : kk ≤ nr
 ·have HC : Hid (beginsF M R kk = kindsTo M R kk) := by show _ = _; unfold beginsF; rw [HNR.out]; simp [hnn]
  have hq2 : decide (nr < kk) = false := by simp; omega
  go_enter Tryz.func118, Tryz.ntmps118
  go_wp2_with fail
  go_loopw [31] (fun i wr => ∃ k : Nat, k ≤ kk ∧ i = .int .i64 k ∧ Hid (kindsTo M R k = true) ∧ Hid (Below w.heap.size w wr)) (fun i _ => kk - (intOf i).toNat)
  case atStart => exact ⟨0, by omega, rfl, rfl, HB0.out⟩
  case round =>
   obtain ⟨k, hk, rfl, HT, HB⟩ := hrel
   by_cases hlt : k < kk
   ·have hkl : k < M.length := by rw [HN.out]; omega
    have hkr : k < R.length := by rw [HNR.out]; omega
    obtain ⟨b, off, rfl, hc⟩ := (HA.out.below HB.out) (by intro e; rw [e] at hkl; simp at hkl)
    obtain ⟨b', off', rfl, hc'⟩ := (HR.out.below HB.out) (by intro e; rw [e] at hkr; simp at hkr)
    obtain ⟨c0, c1, c2⟩ := hc k hkl
    obtain ⟨d0, d1, d2⟩ := hc' k hkr
    have HSU := Lib.hid (kindsTo_succ M R k hkl hkr)
    have HFA := Lib.hid (kindsTo_false M R k kk hlt hkl hkr)
    clear hc hc'
    generalize M[k] = x at *
    generalize R[k] = y at *
    obtain ⟨xa, xb, xc⟩ := x
    obtain ⟨yk, yn, ys⟩ := y
    simp only at c0 c1 c2 d0 d1 d2
    have hkz : (k : Int) < (nr : Int) := by omega
    have hk0 : (0 : Int) ≤ (k : Int) := by omega
    have hBW : Hid (Below wr.heap.size wr (wr.alloc (.cells #[.string xa, .int .i64 xb, .bool xc] 29))) := (Below.refl _ wr).alloc (Nat.le_refl _) _
    have HBU := Lib.hid (HB.out.trans (hBW.out.mono HB.out.size))
    have e0 := keepC hBW.out d0
    have g1 : (wr.alloc (.cells #[.string xa, .int .i64 xb, .bool xc] 29)).cell? ⟨wr.heap.size, 1, none⟩ = some (.int .i64 xb) := (Has.new wr 29 #[.string xa, .int .i64 xb, .bool xc]).cell 1
    clear d0 d1 d2
    cases hq : (yk == xb)
    ·have hqn : (yk != xb) = true := by simp [bne, hq]
     go_wp2_with fail
     obtain ⟨W9, hW9⟩ : ∃ W9, W9 = wr.alloc (.cells #[.string xa, .int .i64 xb, .bool xc] 29) := ⟨_, rfl⟩
     rw [← hW9] at HBU e0 g1 ⊢
     clear hW9
     go_region
     all_goals
      go_wp2_with fail
      go_ret
      exact ⟨by rw [HC.out, HFA.out hq]; rfl, HBU.out.drew⟩
    ·have hqn : (yk != xb) = false := by simp [bne, hq]
     go_wp2_with fail
     obtain ⟨W9, hW9⟩ : ∃ W9, W9 = wr.alloc (.cells #[.string xa, .int .i64 xb, .bool xc] 29) := ⟨_, rfl⟩
     rw [← hW9] at HBU e0 g1 ⊢
     clear hW9
     go_region
     all_goals
      go_wp2_with fail
      go_roundw
      case rel => exact ⟨k + 1, by omega, by go_num, by show _ = _; rw [HSU.out, HT.out, hq]; rfl, HBU.out.drew⟩
      case measure => simp [intOf]; omega
   ·obtain rfl : k = kk := by omega
    go_wp2_with fail
    go_ret
    exact ⟨by rw [HC.out, HT.out]; rfl, HB⟩
 ·have HC : Hid (beginsF M R kk = false) := by show _ = _; unfold beginsF; rw [HNR.out]; simp [hnn]
  have hq : (nr : Int) < (kk : Int) := by omega
  go_enter Tryz.func118, Tryz.ntmps118
  go_wp2_with fail
  go_ret
  exact ⟨by rw [HC.out]; rfl, HB0⟩
end Go.Proofs.YtnpmgempkoeapaaGreatDoor
