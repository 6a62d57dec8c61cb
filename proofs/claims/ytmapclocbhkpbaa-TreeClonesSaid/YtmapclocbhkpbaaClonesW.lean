/-
  TreeClones, walked.
-/
import Derived.Test.YtmapclocbhkpbaaClonesP
import Derived.Deep.CutBlock
import Derived.Deep.DeepCutAuto
namespace Go.Proofs.Ytmapclocbhkpbaa.treeClones
open Go.RowKit Go.Maps Dg
set_option linter.unusedVariables false
set_option maxHeartbeats 8000000 in
set_option maxRecDepth 100000 in
theorem walk (A0 : Option Addr) (n0 c0 : Nat) (L0 : List Dee) (A1 : Option Addr) (n1 c1 : Nat) (L1 : List Dee) (A2 : Option Addr) (n2 c2 : Nat) (L2 : List Dee) (w : World)
    (hl0 : L0.length = n0) (hnc0 : n0 ≤ c0) (hcm0 : c0 ≤ maxLen) (hr0 : Elems w A0 3 (L0.map Dee.cells) ∧ ∀ v ∈ L0, v.ok w)
    (hl1 : L1.length = n1) (hnc1 : n1 ≤ c1) (hcm1 : c1 ≤ maxLen) (hr1 : Elems w A1 3 (L1.map Dee.cells) ∧ ∀ v ∈ L1, v.ok w)
    (hl2 : L2.length = n2) (hnc2 : n2 ≤ c2) (hcm2 : c2 ≤ maxLen) (hr2 : Elems w A2 3 (L2.map Dee.cells) ∧ ∀ v ∈ L2, v.ok w) :
    Calls Try.prog 5 #[.slice A0 n0 c0, .slice A1 n1 c1, .slice A2 n2 c2] w fun e w' => e = .returned (.bool true) ∧ Below w.heap.size w w' := by
  have HL0 := Lib.hid hl0
  have HR0 := Lib.hid hr0
  have HL1 := Lib.hid hl1
  have HR1 := Lib.hid hr1
  have HL2 := Lib.hid hl2
  have HR2 := Lib.hid hr2
  have hcI0 : (c0 : Int) ≤ 9223372036854775807 := by unfold maxLen at hcm0; omega
  have hcI1 : (c1 : Int) ≤ 9223372036854775807 := by unfold maxLen at hcm1; omega
  have hcI2 : (c2 : Int) ≤ 9223372036854775807 := by unfold maxLen at hcm2; omega
  clear hl0 hr0 hl1 hr1 hl2 hr2 hcm0 hcm1 hcm2
  go_enter Try.func5, Try.ntmps5
  go_wp2_with fail
  refine (tnew_any w).mono ?_
  rintro e w1 ⟨rfl, h1, b1⟩
  obtain ⟨hd, hb⟩ := duo_new h1 b1
  have HD := Lib.hid hd
  have HB := Lib.hid hb
  have hrb : w.heap.size < w1.heap.size := h1.top.lt
  clear h1 b1 hd hb
  obtain ⟨rb, hrbe⟩ : ∃ rb, Hid (rb = w1.heap.size) := ⟨_, rfl⟩
  go_upto_block 0 with (fail)
  go_cut [9] (fun s9 wx => ∃ (T : Tr) (X : List Nat), Hid (Duo w.heap.size w.heap.size w1.heap.size X wx T) ∧ Hid (T.con.length ≤ 40) ∧ Hid (Below w.heap.size w wx))
  case first =>
    go_wp2_with fail
    go_loopw [9] (fun u wr => ∃ (i : Nat) (T : Tr) (X : List Nat), i ≤ 40 ∧ i ≤ n0 ∧ u = .int .i64 i ∧ Hid (Duo w.heap.size w.heap.size w1.heap.size X wr T) ∧ Hid (T.con.length ≤ i) ∧ Hid (Below w.heap.size w wr)) (fun u _ => 40 - (intOf u).toNat)
    case atStart => exact ⟨0, .nil, _, by omega, by omega, rfl, HD, Nat.le_refl 0, HB⟩
    case round =>
      obtain ⟨i, T, X, hi, hin, rfl, HT, HLen, HI⟩ := hrel
      by_cases hlt : i < n0
      · have hiI : (i : Int) < (n0 : Int) := by omega
        by_cases hl8 : i < 40
        · have hi8 : (i : Int) < 40 := by omega
          have hil : i < L0.length := by rw [HL0.out]; exact hlt
          have hok := HR0.out.2 _ (List.getElem_mem hil)
          obtain ⟨b, off, rfl, e0, e1, e2⟩ := deed_at HR0.out.1 HI.out hil
          generalize L0[i] = x at *
          obtain ⟨kd, dn, key⟩ := x
          replace e0 : wr.cell? ⟨b, off + i * 3, none⟩ = some (.int .i64 kd) := e0
          replace e1 : wr.cell? ⟨b, off + i * 3 + 1, none⟩ = some (.int .i64 dn) := e1
          replace e2 : wr.cell? ⟨b, off + i * 3 + 2, none⟩ = some (.string key) := e2
          have HDO := Lib.hid (does_any HT.out (by have := HLen.out; omega) kd dn key hok.n)
          clear hok
          go_wp2_with fail
          refine HDO.out.mono ?_
          rintro e w2 ⟨rfl, T2, X2, h2, t2, f2, l2⟩
          have HT2 := Lib.hid h2
          have HLen2 : Hid (T2.con.length ≤ i + 1) := by show T2.con.length ≤ i + 1; have := HLen.out; omega
          have HI2 := Lib.hid (HI.out.trans (Did.below (X' := X) HT.out HI.out.size t2))
          clear h2 t2 f2 l2 HDO HT
          go_wp2_with fail
          go_roundw
          case rel => exact ⟨i + 1, T2, X2, by omega, by omega, by go_num, HT2, HLen2, HI2⟩
          case measure => simp [intOf]; omega
        · have hi8 : ¬ (i : Int) < 40 := by omega
          have HLn : Hid (T.con.length ≤ 40) := by show T.con.length ≤ 40; have := HLen.out; omega
          go_wp2_with fail
          go_meet
          case rel => exact ⟨T, X, HT, HLn, HI⟩
      · have hiI : ¬ (i : Int) < (n0 : Int) := by omega
        have HLn : Hid (T.con.length ≤ 40) := by show T.con.length ≤ 40; have := HLen.out; omega
        go_wp2_with fail
        go_meet
        case rel => exact ⟨T, X, HT, HLn, HI⟩
  case rest =>
    obtain ⟨T, X, HT, HLn, HI⟩ := hcut
    go_wp2_with fail
    refine (clone_any HT.out.t).mono ?_
    rintro e w2 ⟨rfl, hw2⟩
    have al2 : Below wc.heap.size wc w2 := by rw [hw2]; exact (Below.refl _ wc).alloc (Nat.le_refl _) _
    have htc : TrAt wc.heap.size w2 T := by rw [hw2]; exact cloned HT.out.t
    have hsz2 : w2.heap.size = wc.heap.size + 1 := by rw [hw2]; simp
    have HT2 := Lib.hid (HT.out.below al2)
    have HI2 := Lib.hid (HI.out.trans (al2.mono HI.out.size))
    have HTC := Lib.hid htc
    have htcB : w.heap.size ≤ wc.heap.size := HI.out.size
    have hfarc : ∀ b ∈ w.heap.size :: X, b < wc.heap.size := fun b hb => (HT.out.far b hb).2.1
    have HFC := Lib.hid hfarc
    have HS2 := Lib.hid hsz2
    clear al2 htc hw2 hsz2 hfarc HT
    obtain ⟨tc, HTCE⟩ : ∃ tc, Hid (tc = wc.heap.size) := ⟨_, rfl⟩
    rw [← HTCE.out] at HTC htcB HFC HS2 ⊢
    obtain ⟨w3, HW3⟩ : ∃ w3, Hid (w3 = w2.alloc (.cells #[.slice none 0 0, .slice none 0 0] 29)) := ⟨_, rfl⟩
    have al3 : Below w2.heap.size w2 w3 := by rw [HW3.out]; exact (Below.refl _ w2).alloc (Nat.le_refl _) _
    have hs3 : Has w3 w2.heap.size 29 #[.slice none 0 0, .slice none 0 0] := by rw [HW3.out]; exact Has.new w2 _ _
    have HD3 := Lib.hid (HT2.out.below al3)
    have HTC3 := Lib.hid (HTC.out.below al3)
    have HI3 := Lib.hid (HI2.out.trans (al3.mono HI2.out.size))
    clear al3
    go_wp2_with fail
    rw [← HW3.out]
    obtain ⟨sc, HSC⟩ : ∃ sc, Hid (sc = w2.heap.size) := ⟨_, rfl⟩
    rw [← HSC.out] at hs3 HS2 ⊢
    have hscX : ∀ b ∈ w.heap.size :: X, b ≠ sc := fun b hb e => by
      have := HFC.out b hb
      have := HS2.out
      omega
    have hscB : w.heap.size ≤ sc := by have := HS2.out; omega
    obtain ⟨Ar, nr, cr, Ar2, cr2, g1, gn, gnc, gcm, gnc2, gcm2, gr, gr2, gz1, gz2, gk, gv, gX⟩ := HD3.out.r.rows
    have gg2 : ∀ a, Ar2 = some a → a.block ≠ sc := fun a ha => by
      obtain ⟨_, x1⟩ := gv.has (g := a.block) (by rw [ha]; rfl)
      exact x1.ne hs3 (by decide)
    obtain ⟨a5, m5, d5, w4, a6, m6, d6, w5, r5, r6, k1, k2, k3, k4, k5, k6, k7, k8, k9, k10, Y, hY, tY, fY⟩ := clone_chain HD3.out.r (by have := HLn.out; omega) hs3 hscB (fun hx => hscX sc (List.mem_cons_of_mem _ hx) rfl) g1 gn gr gr2 gz1 gz2 gnc gnc2 gg2
    have k0 : w3.drew.cell? ⟨w1.heap.size, 0, none⟩ = some (.slice Ar nr cr) := g1.cell 0
    have k0s : w3.drew.cell? ⟨sc, 0, none⟩ = some (.slice none 0 0) := hs3.cell 0
    have hlt3 : ∀ b ∈ w.heap.size :: X, b < w3.heap.size := fun b hb => (HD3.out.far b hb).2.1
    have hpair : Pair w.heap.size w.heap.size w1.heap.size X tc sc Y (w5.setCell ⟨sc, 1, none⟩ (.slice a6 m6 d6)) T T := by
      have hsh : ∀ b ∈ [sc], ∃ t cs, Has w3 b t cs ∧ t ≠ 57 := fun b hb => by
        have e : b = sc := by simpa using hb
        rw [e]
        exact ⟨_, _, hs3, by decide⟩
      refine ⟨HD3.out.tur tY (fun b hb => by simpa using hscX b hb) hsh, ⟨HTC3.out.turY tY fun b hb => ⟨fun e => ?_, hsh b hb⟩, hY, htcB⟩, fun b hb hx => ?_⟩
      · have e2 : b = sc := by simpa using hb
        have := HS2.out
        omega
      · have hb2 := HFC.out b hb
        rcases List.mem_cons.1 hx with e | hx
        · omega
        · rcases fY b hx with e | e
          · exact hscX b hb e
          · have := hlt3 b hb
            omega
    have HP := Lib.hid hpair
    have HI6 := Lib.hid (HI3.out.trans (tY.below (by simpa using hscB) HI3.out.size))
    have HR5 := Lib.hid r5
    have HR6 := Lib.hid r6
    clear hpair hlt3 hY tY fY gg2 g1 gn gnc gcm gnc2 gcm2 gr gr2 gz1 gz2 gk gv gX hs3 hscX r5 r6 HD3 HTC3 HI3 HTC HI2 HT2 HFC
    refine wp_region_held_drew (S := fun X => X.cell? ⟨w1.heap.size, 0, none⟩ = some (.slice Ar nr cr)) (by kernel_rfl) (by exact k0) (fun _ => ?_)
    (refine wpAnyH_take (i := 0) (v := ?_) rfl (by kernel_rfl) (by kernel_rfl) (by kernel_rfl) (fun _ _ _ h => h) (Or.inl ⟨by rfl, ?_⟩) (by assumption) ?_; rotate_left; (intro w hSw; (try dsimp only at hSw); go_simp; try with_reducible rfl); ((try simp only [List.getElem_toArray]); (try simp only [List.getElem_cons_succ]); (try simp only [List.getElem_cons_zero]); (try simp only [Act.put]); (try simp only [List.setIfInBounds_toArray]); (try simp only [List.set_cons_succ]); (try simp only [List.set_cons_zero])))
    (refine wpAnyH_take (i := 1) (v := ?_) rfl (by kernel_rfl) (by kernel_rfl) (by kernel_rfl) (fun _ _ _ h => h) (Or.inl ⟨by rfl, ?_⟩) (by assumption) ?_; rotate_left; (intro w hSw; (try dsimp only at hSw); go_simp; try with_reducible rfl); ((try simp only [List.getElem_toArray]); (try simp only [List.getElem_cons_succ]); (try simp only [List.getElem_cons_zero]); (try simp only [Act.put]); (try simp only [List.setIfInBounds_toArray]); (try simp only [List.set_cons_succ]); (try simp only [List.set_cons_zero])))
    (refine wpAnyH_take (i := 2) (v := ?_) rfl (by kernel_rfl) (by kernel_rfl) (by kernel_rfl) (fun _ _ _ h => h) (Or.inl ⟨by rfl, ?_⟩) (by assumption) ?_; rotate_left; (intro w hSw; (try dsimp only at hSw); go_simp; try with_reducible rfl); ((try simp only [List.getElem_toArray]); (try simp only [List.getElem_cons_succ]); (try simp only [List.getElem_cons_zero]); (try simp only [Act.put]); (try simp only [List.setIfInBounds_toArray]); (try simp only [List.set_cons_succ]); (try simp only [List.set_cons_zero])))
    (refine wpAnyH_take (i := 3) (v := ?_) rfl (by kernel_rfl) (by kernel_rfl) (by kernel_rfl) (fun _ _ _ h => h) (Or.inl ⟨by rfl, ?_⟩) (by assumption) ?_; rotate_left; (intro w hSw; (try dsimp only at hSw); go_simp; try with_reducible rfl); ((try simp only [List.getElem_toArray]); (try simp only [List.getElem_cons_succ]); (try simp only [List.getElem_cons_zero]); (try simp only [Act.put]); (try simp only [List.setIfInBounds_toArray]); (try simp only [List.set_cons_succ]); (try simp only [List.set_cons_zero])))
    (refine wpAnyH_take (i := 5) (v := ?_) rfl (by kernel_rfl) (by kernel_rfl) (by kernel_rfl) (fun _ _ _ h => h) (Or.inl ⟨by rfl, ?_⟩) (by assumption) ?_; rotate_left; (intro w hSw; (try dsimp only at hSw); go_simp; try with_reducible rfl); ((try simp only [List.getElem_toArray]); (try simp only [List.getElem_cons_succ]); (try simp only [List.getElem_cons_zero]); (try simp only [Act.put]); (try simp only [List.setIfInBounds_toArray]); (try simp only [List.set_cons_succ]); (try simp only [List.set_cons_zero])))
    (refine wpAnyH_take (i := 6) (v := ?_) rfl (by kernel_rfl) (by kernel_rfl) (by kernel_rfl) (fun _ _ _ h => h) (Or.inl ⟨by rfl, ?_⟩) (by assumption) ?_; rotate_left; (intro w hSw; (try dsimp only at hSw); go_simp; try with_reducible rfl); ((try simp only [List.getElem_toArray]); (try simp only [List.getElem_cons_succ]); (try simp only [List.getElem_cons_zero]); (try simp only [Act.put]); (try simp only [List.setIfInBounds_toArray]); (try simp only [List.set_cons_succ]); (try simp only [List.set_cons_zero])))
    (refine wpAnyH_take (i := 7) (v := ?_) rfl (by kernel_rfl) (by kernel_rfl) (by kernel_rfl) (fun _ _ _ h => h) (Or.inl ⟨by rfl, ?_⟩) (by assumption) ?_; rotate_left; (intro w hSw; (try dsimp only at hSw); go_simp; try with_reducible rfl); ((try simp only [List.getElem_toArray]); (try simp only [List.getElem_cons_succ]); (try simp only [List.getElem_cons_zero]); (try simp only [Act.put]); (try simp only [List.setIfInBounds_toArray]); (try simp only [List.set_cons_succ]); (try simp only [List.set_cons_zero])))
    (refine wpAnyH_take (i := 8) (v := ?_) rfl (by kernel_rfl) (by kernel_rfl) (by kernel_rfl) (fun _ _ _ h => h) (Or.inl ⟨by rfl, ?_⟩) (by assumption) ?_; rotate_left; (intro w hSw; (try dsimp only at hSw); go_simp; try with_reducible rfl); ((try simp only [List.getElem_toArray]); (try simp only [List.getElem_cons_succ]); (try simp only [List.getElem_cons_zero]); (try simp only [Act.put]); (try simp only [List.setIfInBounds_toArray]); (try simp only [List.set_cons_succ]); (try simp only [List.set_cons_zero])))
    refine wpAnyH_ready (rs := [4]) (by kernel_rfl) (by simp) ?_
    refine AllReadyH.cons rfl (fun K2 hK2 => ?_) AllReadyH.nil
    go_simp
    refine hK2.out _ _ (by exact k0) (fun hq => ?_)
    clear hK2 K2
    ((try simp only [List.getElem_toArray]); (try simp only [List.getElem_cons_succ]); (try simp only [List.getElem_cons_zero]); (try simp only [Act.put]); (try simp only [List.setIfInBounds_toArray]); (try simp only [List.set_cons_succ]); (try simp only [List.set_cons_zero]))
    refine wpAnyH_ready (rs := [9]) (by kernel_rfl) (by simp) ?_
    refine AllReadyH.cons rfl (fun K2 hK2 => ?_) AllReadyH.nil
    rw [if_pos (by rfl)]
    refine wpOp_appG _ _ _ _ rfl _ _ _ (by rfl) (by rfl) HR5.out ?_
    refine hK2.out _ _ (by exact k1) (fun hq => ?_)
    clear hK2 K2
    ((try simp only [List.getElem_toArray]); (try simp only [List.getElem_cons_succ]); (try simp only [List.getElem_cons_zero]); (try simp only [Act.put]); (try simp only [List.setIfInBounds_toArray]); (try simp only [List.set_cons_succ]); (try simp only [List.set_cons_zero]))
    (refine wpAnyH_take (i := 10) (v := ?_) rfl (by kernel_rfl) (by kernel_rfl) (by kernel_rfl) (fun _ _ _ h => h) (Or.inl ⟨by rfl, ?_⟩) (by assumption) ?_; rotate_left; (intro w hSw; (try dsimp only at hSw); go_simp; try with_reducible rfl); ((try simp only [List.getElem_toArray]); (try simp only [List.getElem_cons_succ]); (try simp only [List.getElem_cons_zero]); (try simp only [Act.put]); (try simp only [List.setIfInBounds_toArray]); (try simp only [List.set_cons_succ]); (try simp only [List.set_cons_zero])))
    (refine wpAnyH_take (i := 11) (v := ?_) rfl (by kernel_rfl) (by kernel_rfl) (by kernel_rfl) (fun _ _ _ h => h) (Or.inl ⟨by rfl, ?_⟩) (by assumption) ?_; rotate_left; (intro w hSw; (try dsimp only at hSw); go_simp; try with_reducible rfl); ((try simp only [List.getElem_toArray]); (try simp only [List.getElem_cons_succ]); (try simp only [List.getElem_cons_zero]); (try simp only [Act.put]); (try simp only [List.setIfInBounds_toArray]); (try simp only [List.set_cons_succ]); (try simp only [List.set_cons_zero])))
    refine wpAnyH_ready (rs := [12]) (by kernel_rfl) (by simp) ?_
    refine AllReadyH.cons rfl (fun K2 hK2 => ?_) AllReadyH.nil
    go_simp
    refine hK2.out _ _ (by exact k4) (fun hq => ?_)
    clear hK2 K2
    ((try simp only [List.getElem_toArray]); (try simp only [List.getElem_cons_succ]); (try simp only [List.getElem_cons_zero]); (try simp only [Act.put]); (try simp only [List.setIfInBounds_toArray]); (try simp only [List.set_cons_succ]); (try simp only [List.set_cons_zero]))
    refine wpAnyH_done (by kernel_rfl) ?_ _
    go_wp2_with fail
    refine wp_region_held_drew (S := fun X => X.cell? ⟨w1.heap.size, 1, none⟩ = some (.slice Ar2 nr cr2)) (by kernel_rfl) (by exact k5) (fun _ => ?_)
    (refine wpAnyH_take (i := 0) (v := ?_) rfl (by kernel_rfl) (by kernel_rfl) (by kernel_rfl) (fun _ _ _ h => h) (Or.inl ⟨by rfl, ?_⟩) (by assumption) ?_; rotate_left; (intro w hSw; (try dsimp only at hSw); go_simp; try with_reducible rfl); ((try simp only [List.getElem_toArray]); (try simp only [List.getElem_cons_succ]); (try simp only [List.getElem_cons_zero]); (try simp only [Act.put]); (try simp only [List.setIfInBounds_toArray]); (try simp only [List.set_cons_succ]); (try simp only [List.set_cons_zero])))
    (refine wpAnyH_take (i := 1) (v := ?_) rfl (by kernel_rfl) (by kernel_rfl) (by kernel_rfl) (fun _ _ _ h => h) (Or.inl ⟨by rfl, ?_⟩) (by assumption) ?_; rotate_left; (intro w hSw; (try dsimp only at hSw); go_simp; try with_reducible rfl); ((try simp only [List.getElem_toArray]); (try simp only [List.getElem_cons_succ]); (try simp only [List.getElem_cons_zero]); (try simp only [Act.put]); (try simp only [List.setIfInBounds_toArray]); (try simp only [List.set_cons_succ]); (try simp only [List.set_cons_zero])))
    (refine wpAnyH_take (i := 2) (v := ?_) rfl (by kernel_rfl) (by kernel_rfl) (by kernel_rfl) (fun _ _ _ h => h) (Or.inl ⟨by rfl, ?_⟩) (by assumption) ?_; rotate_left; (intro w hSw; (try dsimp only at hSw); go_simp; try with_reducible rfl); ((try simp only [List.getElem_toArray]); (try simp only [List.getElem_cons_succ]); (try simp only [List.getElem_cons_zero]); (try simp only [Act.put]); (try simp only [List.setIfInBounds_toArray]); (try simp only [List.set_cons_succ]); (try simp only [List.set_cons_zero])))
    (refine wpAnyH_take (i := 3) (v := ?_) rfl (by kernel_rfl) (by kernel_rfl) (by kernel_rfl) (fun _ _ _ h => h) (Or.inl ⟨by rfl, ?_⟩) (by assumption) ?_; rotate_left; (intro w hSw; (try dsimp only at hSw); go_simp; try with_reducible rfl); ((try simp only [List.getElem_toArray]); (try simp only [List.getElem_cons_succ]); (try simp only [List.getElem_cons_zero]); (try simp only [Act.put]); (try simp only [List.setIfInBounds_toArray]); (try simp only [List.set_cons_succ]); (try simp only [List.set_cons_zero])))
    (refine wpAnyH_take (i := 5) (v := ?_) rfl (by kernel_rfl) (by kernel_rfl) (by kernel_rfl) (fun _ _ _ h => h) (Or.inl ⟨by rfl, ?_⟩) (by assumption) ?_; rotate_left; (intro w hSw; (try dsimp only at hSw); go_simp; try with_reducible rfl); ((try simp only [List.getElem_toArray]); (try simp only [List.getElem_cons_succ]); (try simp only [List.getElem_cons_zero]); (try simp only [Act.put]); (try simp only [List.setIfInBounds_toArray]); (try simp only [List.set_cons_succ]); (try simp only [List.set_cons_zero])))
    (refine wpAnyH_take (i := 6) (v := ?_) rfl (by kernel_rfl) (by kernel_rfl) (by kernel_rfl) (fun _ _ _ h => h) (Or.inl ⟨by rfl, ?_⟩) (by assumption) ?_; rotate_left; (intro w hSw; (try dsimp only at hSw); go_simp; try with_reducible rfl); ((try simp only [List.getElem_toArray]); (try simp only [List.getElem_cons_succ]); (try simp only [List.getElem_cons_zero]); (try simp only [Act.put]); (try simp only [List.setIfInBounds_toArray]); (try simp only [List.set_cons_succ]); (try simp only [List.set_cons_zero])))
    (refine wpAnyH_take (i := 7) (v := ?_) rfl (by kernel_rfl) (by kernel_rfl) (by kernel_rfl) (fun _ _ _ h => h) (Or.inl ⟨by rfl, ?_⟩) (by assumption) ?_; rotate_left; (intro w hSw; (try dsimp only at hSw); go_simp; try with_reducible rfl); ((try simp only [List.getElem_toArray]); (try simp only [List.getElem_cons_succ]); (try simp only [List.getElem_cons_zero]); (try simp only [Act.put]); (try simp only [List.setIfInBounds_toArray]); (try simp only [List.set_cons_succ]); (try simp only [List.set_cons_zero])))
    (refine wpAnyH_take (i := 8) (v := ?_) rfl (by kernel_rfl) (by kernel_rfl) (by kernel_rfl) (fun _ _ _ h => h) (Or.inl ⟨by rfl, ?_⟩) (by assumption) ?_; rotate_left; (intro w hSw; (try dsimp only at hSw); go_simp; try with_reducible rfl); ((try simp only [List.getElem_toArray]); (try simp only [List.getElem_cons_succ]); (try simp only [List.getElem_cons_zero]); (try simp only [Act.put]); (try simp only [List.setIfInBounds_toArray]); (try simp only [List.set_cons_succ]); (try simp only [List.set_cons_zero])))
    refine wpAnyH_ready (rs := [4]) (by kernel_rfl) (by simp) ?_
    refine AllReadyH.cons rfl (fun K2 hK2 => ?_) AllReadyH.nil
    go_simp
    refine hK2.out _ _ (by exact k5) (fun hq => ?_)
    clear hK2 K2
    ((try simp only [List.getElem_toArray]); (try simp only [List.getElem_cons_succ]); (try simp only [List.getElem_cons_zero]); (try simp only [Act.put]); (try simp only [List.setIfInBounds_toArray]); (try simp only [List.set_cons_succ]); (try simp only [List.set_cons_zero]))
    refine wpAnyH_ready (rs := [9]) (by kernel_rfl) (by simp) ?_
    refine AllReadyH.cons rfl (fun K2 hK2 => ?_) AllReadyH.nil
    rw [if_pos (by rfl)]
    refine wpOp_appG _ _ _ _ rfl _ _ _ (by rfl) (by rfl) HR6.out ?_
    refine hK2.out _ _ (by exact k7) (fun hq => ?_)
    clear hK2 K2
    ((try simp only [List.getElem_toArray]); (try simp only [List.getElem_cons_succ]); (try simp only [List.getElem_cons_zero]); (try simp only [Act.put]); (try simp only [List.setIfInBounds_toArray]); (try simp only [List.set_cons_succ]); (try simp only [List.set_cons_zero]))
    (refine wpAnyH_take (i := 10) (v := ?_) rfl (by kernel_rfl) (by kernel_rfl) (by kernel_rfl) (fun _ _ _ h => h) (Or.inl ⟨by rfl, ?_⟩) (by assumption) ?_; rotate_left; (intro w hSw; (try dsimp only at hSw); go_simp; try with_reducible rfl); ((try simp only [List.getElem_toArray]); (try simp only [List.getElem_cons_succ]); (try simp only [List.getElem_cons_zero]); (try simp only [Act.put]); (try simp only [List.setIfInBounds_toArray]); (try simp only [List.set_cons_succ]); (try simp only [List.set_cons_zero])))
    (refine wpAnyH_take (i := 11) (v := ?_) rfl (by kernel_rfl) (by kernel_rfl) (by kernel_rfl) (fun _ _ _ h => h) (Or.inl ⟨by rfl, ?_⟩) (by assumption) ?_; rotate_left; (intro w hSw; (try dsimp only at hSw); go_simp; try with_reducible rfl); ((try simp only [List.getElem_toArray]); (try simp only [List.getElem_cons_succ]); (try simp only [List.getElem_cons_zero]); (try simp only [Act.put]); (try simp only [List.setIfInBounds_toArray]); (try simp only [List.set_cons_succ]); (try simp only [List.set_cons_zero])))
    refine wpAnyH_ready (rs := [12]) (by kernel_rfl) (by simp) ?_
    refine AllReadyH.cons rfl (fun K2 hK2 => ?_) AllReadyH.nil
    go_simp
    refine hK2.out _ _ (by exact k10) (fun hq => ?_)
    clear hK2 K2
    ((try simp only [List.getElem_toArray]); (try simp only [List.getElem_cons_succ]); (try simp only [List.getElem_cons_zero]); (try simp only [Act.put]); (try simp only [List.setIfInBounds_toArray]); (try simp only [List.set_cons_succ]); (try simp only [List.set_cons_zero]))
    refine wpAnyH_done (by kernel_rfl) ?_ _
    generalize w5.setCell ⟨sc, 1, none⟩ (.slice a6 m6 d6) = w6 at *
    clear HR5 HR6 k0 k0s k1 k2 k3 k4 k5 k6 k7 k8 k9 k10
    go_wp2_with fail
    have HLS : Hid (T.con.length ≤ 40 + 0) := HLn.out
    go_loopw [12] (fun u wr => ∃ (i : Nat) (T S : Tr) (X Y : List Nat), i ≤ 20 ∧ u = .int .i64 i ∧ Hid (Pair w.heap.size w.heap.size w1.heap.size X tc sc Y wr T S) ∧ Hid (T.con.length ≤ 40 + i) ∧ Hid (S.con.length ≤ 40 + i) ∧ Hid (Below w.heap.size w wr)) (fun u _ => 20 - (intOf u).toNat)
    case atStart => exact ⟨0, T, T, X, Y, by omega, rfl, HP, HLS, HLS, HI6⟩
    case round =>
      clear HP HI6 HLS HLn
      obtain ⟨i, T, S, X, Y, hi, rfl, HP, HLT, HLV, HI⟩ := hrel
      by_cases hl8 : i < 20
      · have hi8 : (i : Int) < 20 := by omega
        by_cases hlt1 : i < n1
        · have hiI1 : (i : Int) < (n1 : Int) := by omega
          have hil1 : i < L1.length := by rw [HL1.out]; exact hlt1
          have hok1 := HR1.out.2 _ (List.getElem_mem hil1)
          obtain ⟨b1, o1, rfl, e10, e11, e12⟩ := deed_at HR1.out.1 HI.out hil1
          obtain ⟨⟨kd1, dn1, key1⟩, hx1⟩ : ∃ x, x = L1[i] := ⟨_, rfl⟩
          rw [← hx1] at hok1 e10 e11 e12
          clear hx1
          have HOK1 := Lib.hid hok1.n
          replace e10 : wr.cell? ⟨b1, o1 + i * 3, none⟩ = some (.int .i64 kd1) := e10
          replace e11 : wr.cell? ⟨b1, o1 + i * 3 + 1, none⟩ = some (.int .i64 dn1) := e11
          replace e12 : wr.cell? ⟨b1, o1 + i * 3 + 2, none⟩ = some (.string key1) := e12
          clear hok1
          by_cases hlt2 : i < n2
          · have hiI2 : (i : Int) < (n2 : Int) := by omega
            have hil2 : i < L2.length := by rw [HL2.out]; exact hlt2
            have hok2 := HR2.out.2 _ (List.getElem_mem hil2)
            obtain ⟨b2, o2, rfl, e20, e21, e22⟩ := deed_at HR2.out.1 HI.out hil2
            obtain ⟨⟨kd2, dn2, key2⟩, hx2⟩ : ∃ x, x = L2[i] := ⟨_, rfl⟩
            rw [← hx2] at hok2 e20 e21 e22
            have HX2 := Lib.hid hx2
            clear hx2
            have HOK2 := Lib.hid hok2.n
            replace e20 : wr.cell? ⟨b2, o2 + i * 3, none⟩ = some (.int .i64 kd2) := e20
            replace e21 : wr.cell? ⟨b2, o2 + i * 3 + 1, none⟩ = some (.int .i64 dn2) := e21
            replace e22 : wr.cell? ⟨b2, o2 + i * 3 + 2, none⟩ = some (.string key2) := e22
            clear hok2
            go_wp2_with fail
            refine (does_any HP.out.l (by have := HLT.out; omega) kd1 dn1 key1 HOK1.out).mono ?_
            rintro e v1 ⟨rfl, hd1⟩
            obtain ⟨T', X', hp1, hl1, hb1⟩ := HP.out.left HI.out.size hd1
            have HLT2 : Hid (T'.con.length ≤ 40 + (i + 1)) := by show _ ≤ _; have := HLT.out; omega
            have HP1 := Lib.hid hp1
            have HI1 := Lib.hid (HI.out.trans hb1)
            obtain ⟨b2x, o2x, ex, f20, f21, f22⟩ := deed_at HR2.out.1 HI1.out hil2
            cases ex
            rw [← HX2.out] at f20 f21 f22
            clear e20 e21 e22
            clear hd1 hp1 hl1 hb1 HP
            go_wp2_with fail
            refine (does_any HP1.out.r (by have := HLV.out; omega) kd2 dn2 key2 HOK2.out).mono ?_
            rintro e v2 ⟨rfl, hd2⟩
            obtain ⟨S', Y', hp2, hl2, hb2⟩ := HP1.out.right HI1.out.size hd2
            have HLV2 : Hid (S'.con.length ≤ 40 + (i + 1)) := by show _ ≤ _; have := HLV.out; omega
            have HP2 := Lib.hid hp2
            have HI2 := Lib.hid (HI1.out.trans hb2)
            clear hd2 hp2 hl2 hb2 HP1
            go_wp2_with fail
            go_roundw
            case rel => exact ⟨i + 1, T', S', X', Y', by omega, by go_num, HP2, HLT2, HLV2, HI2⟩
            case measure => simp [intOf]; omega
          · have hiI2 : ¬ (i : Int) < (n2 : Int) := by omega
            go_wp2_with fail
            refine (does_any HP.out.l (by have := HLT.out; omega) kd1 dn1 key1 HOK1.out).mono ?_
            rintro e v1 ⟨rfl, hd1⟩
            obtain ⟨T', X', hp1, hl1, hb1⟩ := HP.out.left HI.out.size hd1
            have HLT2 : Hid (T'.con.length ≤ 40 + (i + 1)) := by show _ ≤ _; have := HLT.out; omega
            have HP1 := Lib.hid hp1
            have HI1 := Lib.hid (HI.out.trans hb1)
            clear hd1 hp1 hl1 hb1 HP
            go_wp2_with fail
            have HLV2 : Hid (S.con.length ≤ 40 + (i + 1)) := by show _ ≤ _; have := HLV.out; omega
            go_roundw
            case rel => exact ⟨i + 1, T', S, X', Y, by omega, by go_num, HP1, HLT2, HLV2, HI1⟩
            case measure => simp [intOf]; omega
        · have hiI1 : ¬ (i : Int) < (n1 : Int) := by omega
          have HLT2 : Hid (T.con.length ≤ 40 + (i + 1)) := by show _ ≤ _; have := HLT.out; omega
          by_cases hlt2 : i < n2
          · have hiI2 : (i : Int) < (n2 : Int) := by omega
            have hil2 : i < L2.length := by rw [HL2.out]; exact hlt2
            have hok2 := HR2.out.2 _ (List.getElem_mem hil2)
            obtain ⟨b2, o2, rfl, e20, e21, e22⟩ := deed_at HR2.out.1 HI.out hil2
            obtain ⟨⟨kd2, dn2, key2⟩, hx2⟩ : ∃ x, x = L2[i] := ⟨_, rfl⟩
            rw [← hx2] at hok2 e20 e21 e22
            have HX2 := Lib.hid hx2
            clear hx2
            have HOK2 := Lib.hid hok2.n
            replace e20 : wr.cell? ⟨b2, o2 + i * 3, none⟩ = some (.int .i64 kd2) := e20
            replace e21 : wr.cell? ⟨b2, o2 + i * 3 + 1, none⟩ = some (.int .i64 dn2) := e21
            replace e22 : wr.cell? ⟨b2, o2 + i * 3 + 2, none⟩ = some (.string key2) := e22
            clear hok2
            go_wp2_with fail
            refine (does_any HP.out.r (by have := HLV.out; omega) kd2 dn2 key2 HOK2.out).mono ?_
            rintro e v2 ⟨rfl, hd2⟩
            obtain ⟨S', Y', hp2, hl2, hb2⟩ := HP.out.right HI.out.size hd2
            have HLV2 : Hid (S'.con.length ≤ 40 + (i + 1)) := by show _ ≤ _; have := HLV.out; omega
            have HP2 := Lib.hid hp2
            have HI2 := Lib.hid (HI.out.trans hb2)
            clear hd2 hp2 hl2 hb2 HP
            go_wp2_with fail
            go_roundw
            case rel => exact ⟨i + 1, T, S', X, Y', by omega, by go_num, HP2, HLT2, HLV2, HI2⟩
            case measure => simp [intOf]; omega
          · have hiI2 : ¬ (i : Int) < (n2 : Int) := by omega
            have HLV2 : Hid (S.con.length ≤ 40 + (i + 1)) := by show _ ≤ _; have := HLV.out; omega
            go_wp2_with fail
            go_roundw
            case rel => exact ⟨i + 1, T, S, X, Y, by omega, by go_num, HP, HLT2, HLV2, HI⟩
            case measure => simp [intOf]; omega
      · have hi8 : ¬ (i : Int) < 20 := by omega
        go_wp2_with fail
        refine (like_any HP.out.l (by have := HLT.out; omega)).mono ?_
        rintro e w7 ⟨rfl, b7⟩
        have HP7 := Lib.hid (HP.out.below b7)
        have HI7 := Lib.hid (HI.out.trans (b7.mono HI.out.size))
        clear b7 HP HI
        go_wp2_with fail
        refine (like_any HP7.out.r (by have := HLV.out; omega)).mono ?_
        rintro e w8 ⟨rfl, b8⟩
        have HI8 := Lib.hid (HI7.out.trans (b8.mono HI7.out.size))
        clear b8 HP7 HI7
        go_wp2_with fail
        refine (lives_any w8).mono ?_
        rintro e w9 ⟨rfl, b9⟩
        have HI9 := Lib.hid (HI8.out.trans (b9.mono HI8.out.size))
        clear b9
        go_wp2_with fail
        go_ret
        exact ⟨rfl, HI9.out⟩
end Go.Proofs.Ytmapclocbhkpbaa.treeClones
