/-
  Put together: a row's key, put, cut, an event taken.
-/
import Derived.Test.YtcdjeibcnkpadaaDoorWnM
import Derived.Test.YtcdjeibcnkpadaaDoorWtY
namespace Go.Proofs.YtcdjeibcnkpadaaDoor
open Go.RowKit Go.Maps Dg
set_option maxRecDepth 100000
set_option linter.unusedVariables false
/-- A row as it lies: its slice, its values. -/
structure RwAt (w : World) (Ar : Option Addr) (nr cr : Nat) (R : List Vl) : Prop where
  len : R.length = nr
  cap : nr ≤ cr
  row : VRow w Ar R
  fit : ∀ x ∈ R, x.fit
  nil : Ar = none → cr = 0
theorem RwAt.below {w w' : World} {Ar : Option Addr} {nr cr : Nat} {R : List Vl} (h : RwAt w Ar nr cr R) (hb : Below w.heap.size w w') : RwAt w' Ar nr cr R := ⟨h.len, h.cap, h.row.below hb, h.fit, h.nil⟩
/-- Columns as they lie. -/
structure ClAt (w : World) (A : Option Addr) (n c : Nat) (M : List Cl) : Prop where
  len : M.length = n
  cap : n ≤ c
  row : CRow w A M
theorem ClAt.below {w w' : World} {A : Option Addr} {n c : Nat} {M : List Cl} (h : ClAt w A n c M) (hb : Below w.heap.size w w') : ClAt w' A n c M := ⟨h.len, h.cap, h.row.below hb⟩
theorem clAt_own {B : Nat} {w : World} {A : Option Addr} {n c : Nat} {M : List Cl} (h : OwnC B w (.slice A n c) M) : ClAt w A n c M := by
  obtain ⟨A', n', c', e, h1, h2, h3, h4, h5⟩ := ownC_open h
  injection e with e1 e2 e3
  subst e1 e2 e3
  exact ⟨h1.out, h2, h4.out⟩
def fitT (M : List Cl) (k : Nat) (R : List Vl) : Value := if fitsF M R = true then .tuple #[.string (keyS k R), .int .i64 0] else .tuple #[.string ⟨#[]⟩, .int .i64 9]
set_option maxHeartbeats 4000000 in
theorem fitting_any (A : Option Addr) (M : List Cl) (n c : Nat) (k : Nat) (Ar : Option Addr) (R : List Vl) (nr cr : Nat) (w : World) (hS : Sch M k) (hA : ClAt w A n c M) (hR : RwAt w Ar nr cr R) (hT : Tabs w) :
    Calls Tryd.prog 57 #[.agg #[.slice A n c, .int .i64 k], .slice Ar nr cr] w fun e w' => e = .returned (fitT M k R) ∧ Hid (Below w.heap.size w w') := by
  have hl := hA.len
  have h16 := hS.len
  have hk := hS.keys
  have HF := Lib.hid (fun (W : World) (hb : Below w.heap.size w W) => fits_any A M n c k Ar R nr cr W hl (by omega) (hA.row.below hb) hR.len (hR.row.below hb) hR.fit (hT.below hb))
  have HK := Lib.hid (fun (W : World) (hb : Below w.heap.size w W) => skey_any A M n c k Ar R nr cr W hl (by omega) hk.2.2 hA.cap hR.cap (hA.row.below hb) hR.len (hR.row.below hb) hR.fit (hT.below hb))
  have HB := Lib.hid ((Below.refl w.heap.size w).alloc (Nat.le_refl _) (.cells #[.slice A n c, .int .i64 k] 24))
  have HS := Lib.hid (Has.new w 24 #[.slice A n c, .int .i64 k])
  have hsk : fitsF M R = true → skT M R k = .tuple #[.string (keyS k R), .int .i64 0] := fun h => by rw [skT_one hS, if_pos (fits_keyOk hS h)]
  have HQ := Lib.hid hsk
  clear hsk hl h16 hk hA hR hT hS
  go_enter Tryd.func57, Tryd.ntmps57
  go_wp2_with fail
  refine (HF.out _ HB.out).mono ?_
  rintro e w1 ⟨rfl, hb1⟩
  have HB1 := Lib.hid (HB.out.trans (hb1.out.mono (by simp)))
  have HS1 := Lib.hid (HS.out.below hb1.out (by simp))
  have g0 : w1.cell? ⟨w.heap.size, 0, none⟩ = some (.slice A n c) := HS1.out.cell 0
  have g1 : w1.cell? ⟨w.heap.size, 1, none⟩ = some (.int .i64 k) := HS1.out.cell 1
  clear hb1 HB HS
  cases hq : fitsF M R with
  | false =>
    go_wp2_with fail
    go_ret2
    exact ⟨by simp [fitT, hq], HB1.out⟩
  | true =>
    have hv := HQ.out hq
    go_wp2_with fail
    refine (HK.out _ HB1.out).mono ?_
    rintro e w2 ⟨rfl, hb2⟩
    rw [hv]
    go_wp2_with fail
    go_ret2
    exact ⟨by simp [fitT, hq], HB1.out.trans (hb2.out.mono HB1.out.size)⟩
theorem kl_or (a b : ByteArray) : kl a b = (!(kl b a) && !(b.toList == a.toList)) := by
  by_cases h : a = b
  · subst h; simp [kl_irrefl]
  · have he : (b.toList == a.toList) = false := by
      cases e : (b.toList == a.toList) with
      | false => rfl
      | true => exact absurd (eq_iff.1 e).symm h
    rw [he]
    rcases kl_total h with h1 | h1
    · rw [h1, kl_asymm h1]; rfl
    · rw [h1, kl_asymm h1]; rfl
set_option maxHeartbeats 2000000 in
theorem win_any {lo b : Nat} {w : World} {x : Wn} (h : WinAt lo b w x) (key : ByteArray) :
    Calls Tryd.prog 64 #[.pointer (some ⟨b, 0, none⟩), .string key] w fun e w' => e = .returned (.bool (kl x.af key && (x.dn || !kl x.en key))) ∧ w' = w := by
  have HH := Lib.hid h.top
  clear h
  obtain ⟨sz, num, A, n, c, M, K, af, tbl, dn, en, tb, T, sp, R⟩ := x
  dsimp only [Wn.cells] at HH ⊢
  have m4 : w.cell? ⟨b, 4, none⟩ = some (.string af) := HH.out.cell 4
  have m6 : w.cell? ⟨b, 6, none⟩ = some (.bool dn) := HH.out.cell 6
  have m7 : w.cell? ⟨b, 7, none⟩ = some (.string en) := HH.out.cell 7
  have e1 : kl af key = (!Op.bytesLess key.toList af.toList && !(key.toList == af.toList)) := kl_or af key
  have e2 : kl en key = (!Op.bytesLess key.toList en.toList && !(key.toList == en.toList)) := kl_or en key
  have E := Lib.hid (And.intro e1 e2)
  clear e1 e2
  go_enter Tryd.func64, Tryd.ntmps64
  go_wp2_with fail
  all_goals
    go_ret
    refine ⟨?_, by trivial⟩
    rw [E.out.1, E.out.2]
    simp_all
    try (intro h1 h2; simp_all)
end Go.Proofs.YtcdjeibcnkpadaaDoor
namespace Go.Proofs.YtcdjeibcnkpadaaDoor
open Go.RowKit Go.Maps Dg
set_option maxRecDepth 100000
set_option linter.unusedVariables false
theorem win_put {lo b : Nat} {w1 w2 : World} {x : Wn} {s : Sl} {L : List Vl} {key : ByteArray} {T' : Tr} (h : WinAt lo b w1 x) (hs : OwnV lo w1 (.slice s.a s.n s.c) L) (ht : TrAt x.tb w2 T') (hc : T'.con = putL key s x.T.con) (hu : Tur [x.tb] w1 w2) :
    WinAt lo b w2 { x with T := T', R := putL key L x.R } := by
  have hX : ∀ z ∈ [x.tb], ∃ cs, Has w1 z 107 cs := fun z hz => by rw [List.mem_singleton.1 hz]; exact ⟨_, h.tr.top⟩
  have hs2 : OwnV lo w2 (.slice s.a s.n s.c) L := hs.turX hu fun z hz => by obtain ⟨cs, hc⟩ := hX z hz; exact ⟨_, cs, hc, by decide⟩
  refine ⟨h.top.tur hu fun hx => ?_, h.col.turX hu fun z hz => ?_, ht, ?_⟩
  · obtain ⟨cs, hc⟩ := hX b hx
    exact absurd (hc.two h.top).1 (by decide)
  · obtain ⟨cs, hc⟩ := hX z hz
    exact ⟨_, cs, hc, by decide⟩
  · dsimp only
    rw [hc]
    exact RowsAt.put hs2 (h.row.turX hu fun z hz => by obtain ⟨cs, hc⟩ := hX z hz; exact ⟨_, cs, hc, by decide⟩)
set_option maxHeartbeats 4000000 in
theorem wput_any {lo b tb : Nat} {w : World} {a : Wa} (h : WinA lo b tb w a) (k : Nat) (hS : SchA a k) (h0 : 1 ≤ a.sz) (h1 : a.sz ≤ 9223372036854775807) (hz : a.R.length ≤ 89000) (Ar : Option Addr) (nr cr : Nat) (L : List Vl) (hR : RwAt w Ar nr cr L) (hT : Tabs w) (hlo : lo ≤ w.heap.size) :
    Calls Tryd.prog 46 #[.pointer (some ⟨b, 0, none⟩), .slice Ar nr cr] w fun e w' => e = .returned (.int .i64 (putE a L)) ∧ ∃ tb', Hid (WinA lo b tb' w' (putA a k L)) ∧ Hid (Tur [b, tb] w w') ∧ Hid (tb' = tb ∨ w.heap.size ≤ tb') := by
  have HW0 := Lib.hid h
  obtain ⟨A, n, c, T, HW⟩ := h
  obtain ⟨sz, num, M, K, af, tbl, dn, en, sp, R⟩ := a
  obtain ⟨hK, hS⟩ := hS
  dsimp only at hK hS h0 h1 hz HW HW0 ⊢
  subst hK
  have HI := Lib.hid (fun (W : World) (hb : Below w.heap.size w W) => win_any (HW.below hb) (keyS k L))
  have HF := Lib.hid (fun (W : World) (hb : Below w.heap.size w W) => fitting_any A M n c k Ar L nr cr W hS ((clAt_own HW.col).below hb) (hR.below hb) (hT.below hb))
  have HH := Lib.hid HW.top
  dsimp only [Wn.cells] at HH HI
  have m2 : w.cell? ⟨b, 2, none⟩ = some (.slice A n c) := HH.out.cell 2
  have m3 : w.cell? ⟨b, 3, none⟩ = some (.int .i64 k) := HH.out.cell 3
  go_enter Tryd.func46, Tryd.ntmps46
  go_wp2_with fail
  refine (HF.out _ (Below.refl _ _)).mono ?_
  rintro e w1 ⟨rfl, hb1⟩
  have HB1 := Lib.hid hb1.out
  clear hb1
  clear m2 m3
  cases hq : fitsF M L with
  | false =>
    rw [show fitT M k L = .tuple #[.string ⟨#[]⟩, .int .i64 9] by simp [fitT, hq]]
    go_wp2_with fail
    all_goals
      go_ret
      exact ⟨by simp [putE, hq], tb, by rw [show putA ⟨sz, num, M, k, af, tbl, dn, en, sp, R⟩ k L = ⟨sz, num, M, k, af, tbl, dn, en, sp, R⟩ by simp [putA, hq]]; exact HW0.out.below HB1.out, Tur.of_below HB1.out, .inl rfl⟩
  | true =>
    rw [show fitT M k L = .tuple #[.string (keyS k L), .int .i64 0] by simp [fitT, hq]]
    go_wp2_with fail
    refine (HI.out _ HB1.out).mono ?_
    rintro e w2 ⟨rfl, rfl⟩
    cases hi : (kl af (keyS k L) && (dn || !kl en (keyS k L))) with
    | false =>
      go_wp2_with fail
      go_ret
      exact ⟨by simp [putE, hq], tb, by rw [show putA ⟨sz, num, M, k, af, tbl, dn, en, sp, R⟩ k L = ⟨sz, num, M, k, af, tbl, dn, en, sp, R⟩ by simp [putA, hq, inA, hi]]; exact HW0.out.below HB1.out, Tur.of_below HB1.out, .inl rfl⟩
    | true =>
      have HW2 := Lib.hid (HW.below HB1.out)
      have HH2 := Lib.hid HW2.out.top
      dsimp only [Wn.cells] at HH2
      have m0 : w2.cell? ⟨b, 0, none⟩ = some (.int .i64 sz) := HH2.out.cell 0
      have m8 : w2.cell? ⟨b, 8, none⟩ = some (.pointer (some ⟨tb, 0, none⟩)) := HH2.out.cell 8
      have HG := Lib.hid (get_any HW2.out.tr (keyS k L))
      have HLn := Lib.hid (wlen_any HW2.out)
      have HTl := Lib.hid (fun (W : World) (hb : Below w2.heap.size w2 W) => (len_any (HW2.out.tr.below hb)).mono (R' := fun e w' => e = .returned (.int .i64 (R.length : Int)) ∧ w' = W) (by rw [HW2.out.len]; exact fun _ _ h => h))
      dsimp only at HG
      have hhad : (getL (keyS k L) T.con).isSome = hadL (keyS k L) R := had_keys _ HW2.out.row.keys
      rw [hhad] at HG
      obtain ⟨gv, hgv⟩ : ∃ gv, slOf (getL (keyS k L) T.con) = gv := ⟨_, rfl⟩
      rw [hgv] at HG
      clear hgv hhad
      have HV := Lib.hid (fun (W : World) (hb : Below w2.heap.size w2 W) => cloneV_any Ar L nr cr W hR.len (by have := fits_len hq; have := hS.len; have := hR.len; omega) ((hR.row.below HB1.out).below hb) hR.nil)
      have hkz : (keyS k L).size ≤ 140737488355328 := Nat.le_trans (keyOk_size hS (fits_keyOk hS hq)) (by omega)
      have HP := Lib.hid (fun (W : World) (hb : Below w.heap.size w W) => wspoil_any (HW.below hb) h0 h1)
      cases hh : hadL (keyS k L) R with
      | false =>
        rw [hh] at HG
        go_wp2_with fail
        refine HG.out.mono ?_
        rintro e w3 ⟨rfl, rfl⟩
        by_cases hle : sz ≤ (R.length : Int)
        · go_wp2_with fail
          refine wp_region_held_drew (S := fun X => X.cell? ⟨b, 0, none⟩ = some (.int .i64 sz) ∧ X.cell? ⟨b, 8, none⟩ = some (.pointer (some ⟨tb, 0, none⟩))) (by kernel_rfl) (by exact ⟨m0, m8⟩) (fun _ => ?_)
          (refine wpAnyH_take (i := 0) (v := ?_) rfl (by kernel_rfl) (by kernel_rfl) (by kernel_rfl) (fun _ _ _ h => h) (Or.inl ⟨by rfl, ?_⟩) (by assumption) ?_; rotate_left; (intro w hSw; (try dsimp only at hSw); go_simp; try with_reducible rfl); ((try simp only [List.getElem_toArray]); (try simp only [List.getElem_cons_succ]); (try simp only [List.getElem_cons_zero]); (try simp only [Act.put]); (try simp only [List.setIfInBounds_toArray]); (try simp only [List.set_cons_succ]); (try simp only [List.set_cons_zero])))
          (refine wpAnyH_take (i := 1) (v := ?_) rfl (by kernel_rfl) (by kernel_rfl) (by kernel_rfl) (fun _ _ _ h => h) (Or.inl ⟨by rfl, ?_⟩) (by assumption) ?_; rotate_left; (intro w hSw; (try dsimp only at hSw); go_simp; try with_reducible rfl); ((try simp only [List.getElem_toArray]); (try simp only [List.getElem_cons_succ]); (try simp only [List.getElem_cons_zero]); (try simp only [Act.put]); (try simp only [List.setIfInBounds_toArray]); (try simp only [List.set_cons_succ]); (try simp only [List.set_cons_zero])))
          (refine wpAnyH_take (i := 2) (v := ?_) rfl (by kernel_rfl) (by kernel_rfl) (by kernel_rfl) (fun _ _ _ h => h) (Or.inl ⟨by rfl, ?_⟩) (by assumption) ?_; rotate_left; (intro w hSw; (try dsimp only at hSw); go_simp; try with_reducible rfl); ((try simp only [List.getElem_toArray]); (try simp only [List.getElem_cons_succ]); (try simp only [List.getElem_cons_zero]); (try simp only [Act.put]); (try simp only [List.setIfInBounds_toArray]); (try simp only [List.set_cons_succ]); (try simp only [List.set_cons_zero])))
          (refine wpAnyH_take (i := 3) (v := ?_) rfl (by kernel_rfl) (by kernel_rfl) (by kernel_rfl) (fun _ _ _ h => h) (Or.inl ⟨by rfl, ?_⟩) (by assumption) ?_; rotate_left; (intro w hSw; (try dsimp only at hSw); go_simp; try with_reducible rfl); ((try simp only [List.getElem_toArray]); (try simp only [List.getElem_cons_succ]); (try simp only [List.getElem_cons_zero]); (try simp only [Act.put]); (try simp only [List.setIfInBounds_toArray]); (try simp only [List.set_cons_succ]); (try simp only [List.set_cons_zero])))
          (refine wpAnyH_take (i := 4) (v := ?_) rfl (by kernel_rfl) (by kernel_rfl) (by kernel_rfl) (fun _ _ _ h => h) (Or.inl ⟨by rfl, ?_⟩) (by assumption) ?_; rotate_left; (intro w hSw; (try dsimp only at hSw); go_simp; try with_reducible rfl); ((try simp only [List.getElem_toArray]); (try simp only [List.getElem_cons_succ]); (try simp only [List.getElem_cons_zero]); (try simp only [Act.put]); (try simp only [List.setIfInBounds_toArray]); (try simp only [List.set_cons_succ]); (try simp only [List.set_cons_zero])))
          (refine wpAnyH_take (i := 5) (v := ?_) rfl (by kernel_rfl) (by kernel_rfl) (by kernel_rfl) (fun _ _ _ h => h) (Or.inl ⟨by rfl, ?_⟩) (by assumption) ?_; rotate_left; (intro w hSw; (try dsimp only at hSw); go_simp; try with_reducible rfl); ((try simp only [List.getElem_toArray]); (try simp only [List.getElem_cons_succ]); (try simp only [List.getElem_cons_zero]); (try simp only [Act.put]); (try simp only [List.setIfInBounds_toArray]); (try simp only [List.set_cons_succ]); (try simp only [List.set_cons_zero])))
          (refine wpAnyH_take (i := 6) (v := ?_) rfl (by kernel_rfl) (by kernel_rfl) (by kernel_rfl) (fun _ _ _ h => h) (Or.inl ⟨by rfl, ?_⟩) (by assumption) ?_; rotate_left; (intro w hSw; (try dsimp only at hSw); go_simp; try with_reducible rfl); ((try simp only [List.getElem_toArray]); (try simp only [List.getElem_cons_succ]); (try simp only [List.getElem_cons_zero]); (try simp only [Act.put]); (try simp only [List.setIfInBounds_toArray]); (try simp only [List.set_cons_succ]); (try simp only [List.set_cons_zero])))
          (refine wpAnyH_take (i := 8) (v := ?_) rfl (by kernel_rfl) (by kernel_rfl) (by kernel_rfl) (fun _ _ _ h => h) (Or.inl ⟨by rfl, ?_⟩) (by assumption) ?_; rotate_left; (intro w hSw; (try dsimp only at hSw); go_simp; try with_reducible rfl); ((try simp only [List.getElem_toArray]); (try simp only [List.getElem_cons_succ]); (try simp only [List.getElem_cons_zero]); (try simp only [Act.put]); (try simp only [List.setIfInBounds_toArray]); (try simp only [List.set_cons_succ]); (try simp only [List.set_cons_zero])))
          (refine wpAnyH_take (i := 9) (v := ?_) rfl (by kernel_rfl) (by kernel_rfl) (by kernel_rfl) (fun _ _ _ h => h) (Or.inl ⟨by rfl, ?_⟩) (by assumption) ?_; rotate_left; (intro w hSw; (try dsimp only at hSw); go_simp; try with_reducible rfl); ((try simp only [List.getElem_toArray]); (try simp only [List.getElem_cons_succ]); (try simp only [List.getElem_cons_zero]); (try simp only [Act.put]); (try simp only [List.setIfInBounds_toArray]); (try simp only [List.set_cons_succ]); (try simp only [List.set_cons_zero])))
          (refine wpAnyH_take (i := 10) (v := ?_) rfl (by kernel_rfl) (by kernel_rfl) (by kernel_rfl) (fun _ _ _ h => h) (Or.inl ⟨by rfl, ?_⟩) (by assumption) ?_; rotate_left; (intro w hSw; (try dsimp only at hSw); go_simp; try with_reducible rfl); ((try simp only [List.getElem_toArray]); (try simp only [List.getElem_cons_succ]); (try simp only [List.getElem_cons_zero]); (try simp only [Act.put]); (try simp only [List.setIfInBounds_toArray]); (try simp only [List.set_cons_succ]); (try simp only [List.set_cons_zero])))
          (refine wpAnyH_take (i := 11) (v := ?_) rfl (by kernel_rfl) (by kernel_rfl) (by kernel_rfl) (fun _ _ _ h => h) (Or.inl ⟨by rfl, ?_⟩) (by assumption) ?_; rotate_left; (intro w hSw; (try dsimp only at hSw); go_simp; try with_reducible rfl); ((try simp only [List.getElem_toArray]); (try simp only [List.getElem_cons_succ]); (try simp only [List.getElem_cons_zero]); (try simp only [Act.put]); (try simp only [List.setIfInBounds_toArray]); (try simp only [List.set_cons_succ]); (try simp only [List.set_cons_zero])))
          refine wpAnyH_ready (rs := [7]) (by kernel_rfl) (by simp) ?_
          refine AllReadyH.cons rfl (fun K2 hK2 => ?_) AllReadyH.nil
          go_simp
          refine (HTl.out _ ((Below.refl _ _).drew)).mono ?_
          rintro e w4 ⟨rfl, rfl⟩
          go_wp2_with fail
          refine hK2.out _ _ (by (try dsimp only); exact ⟨m0, m8⟩) (fun _ => ?_)
          clear hK2 K2
          (try simp only [List.getElem_toArray]); (try simp only [List.getElem_cons_succ]); (try simp only [List.getElem_cons_zero]); (try simp only [Act.put]); (try simp only [List.setIfInBounds_toArray]); (try simp only [List.set_cons_succ]); (try simp only [List.set_cons_zero])
          (refine wpAnyH_take (i := 12) (v := ?_) rfl (by kernel_rfl) (by kernel_rfl) (by kernel_rfl) (fun _ _ _ h => h) (Or.inl ⟨by rfl, ?_⟩) (by assumption) ?_; rotate_left; (intro w hSw; (try dsimp only at hSw); go_simp; try with_reducible rfl); ((try simp only [List.getElem_toArray]); (try simp only [List.getElem_cons_succ]); (try simp only [List.getElem_cons_zero]); (try simp only [Act.put]); (try simp only [List.setIfInBounds_toArray]); (try simp only [List.set_cons_succ]); (try simp only [List.set_cons_zero])))
          (refine wpAnyH_take (i := 13) (v := ?_) rfl (by kernel_rfl) (by kernel_rfl) (by kernel_rfl) (fun _ _ _ h => h) (Or.inl ⟨by rfl, ?_⟩) (by assumption) ?_; rotate_left; (intro w hSw; (try dsimp only at hSw); go_simp; try with_reducible rfl); ((try simp only [List.getElem_toArray]); (try simp only [List.getElem_cons_succ]); (try simp only [List.getElem_cons_zero]); (try simp only [Act.put]); (try simp only [List.setIfInBounds_toArray]); (try simp only [List.set_cons_succ]); (try simp only [List.set_cons_zero])))
          refine wpAnyH_done (by kernel_rfl) ?_ _
          have hd : decide (sz ≤ (R.length : Int)) = true := by simp [hle]
          go_wp2_with fail
          refine (HP.out _ HB1.out.drew).mono ?_
          rintro e w5 ⟨rfl, ⟨tb', hw5, htb5⟩, ht5⟩
          go_wp2_with fail
          go_ret
          exact ⟨by simp [putE, hq], tb', by rw [show putA ⟨sz, num, M, k, af, tbl, dn, en, sp, R⟩ k L = spoilA ⟨sz, num, M, k, af, tbl, dn, en, sp, R⟩ by simp [putA, hq, inA, hi, hh, hle]]; exact ⟨_, _, _, _, hw5.out lo⟩,
            ((Tur.of_below HB1.out.drew).trans ht5.out (Fre.refl _ _)).sub (by simp), .inr (Nat.le_trans HB1.out.size htb5.out)⟩
        · have hd : decide (sz ≤ (R.length : Int)) = false := by simp [hle]
          go_wp2_with fail
          refine wp_region_held_drew (S := fun X => X.cell? ⟨b, 0, none⟩ = some (.int .i64 sz) ∧ X.cell? ⟨b, 8, none⟩ = some (.pointer (some ⟨tb, 0, none⟩))) (by kernel_rfl) (by exact ⟨m0, m8⟩) (fun _ => ?_)
          (refine wpAnyH_take (i := 0) (v := ?_) rfl (by kernel_rfl) (by kernel_rfl) (by kernel_rfl) (fun _ _ _ h => h) (Or.inl ⟨by rfl, ?_⟩) (by assumption) ?_; rotate_left; (intro w hSw; (try dsimp only at hSw); go_simp; try with_reducible rfl); ((try simp only [List.getElem_toArray]); (try simp only [List.getElem_cons_succ]); (try simp only [List.getElem_cons_zero]); (try simp only [Act.put]); (try simp only [List.setIfInBounds_toArray]); (try simp only [List.set_cons_succ]); (try simp only [List.set_cons_zero])))
          (refine wpAnyH_take (i := 1) (v := ?_) rfl (by kernel_rfl) (by kernel_rfl) (by kernel_rfl) (fun _ _ _ h => h) (Or.inl ⟨by rfl, ?_⟩) (by assumption) ?_; rotate_left; (intro w hSw; (try dsimp only at hSw); go_simp; try with_reducible rfl); ((try simp only [List.getElem_toArray]); (try simp only [List.getElem_cons_succ]); (try simp only [List.getElem_cons_zero]); (try simp only [Act.put]); (try simp only [List.setIfInBounds_toArray]); (try simp only [List.set_cons_succ]); (try simp only [List.set_cons_zero])))
          (refine wpAnyH_take (i := 2) (v := ?_) rfl (by kernel_rfl) (by kernel_rfl) (by kernel_rfl) (fun _ _ _ h => h) (Or.inl ⟨by rfl, ?_⟩) (by assumption) ?_; rotate_left; (intro w hSw; (try dsimp only at hSw); go_simp; try with_reducible rfl); ((try simp only [List.getElem_toArray]); (try simp only [List.getElem_cons_succ]); (try simp only [List.getElem_cons_zero]); (try simp only [Act.put]); (try simp only [List.setIfInBounds_toArray]); (try simp only [List.set_cons_succ]); (try simp only [List.set_cons_zero])))
          (refine wpAnyH_take (i := 3) (v := ?_) rfl (by kernel_rfl) (by kernel_rfl) (by kernel_rfl) (fun _ _ _ h => h) (Or.inl ⟨by rfl, ?_⟩) (by assumption) ?_; rotate_left; (intro w hSw; (try dsimp only at hSw); go_simp; try with_reducible rfl); ((try simp only [List.getElem_toArray]); (try simp only [List.getElem_cons_succ]); (try simp only [List.getElem_cons_zero]); (try simp only [Act.put]); (try simp only [List.setIfInBounds_toArray]); (try simp only [List.set_cons_succ]); (try simp only [List.set_cons_zero])))
          (refine wpAnyH_take (i := 4) (v := ?_) rfl (by kernel_rfl) (by kernel_rfl) (by kernel_rfl) (fun _ _ _ h => h) (Or.inl ⟨by rfl, ?_⟩) (by assumption) ?_; rotate_left; (intro w hSw; (try dsimp only at hSw); go_simp; try with_reducible rfl); ((try simp only [List.getElem_toArray]); (try simp only [List.getElem_cons_succ]); (try simp only [List.getElem_cons_zero]); (try simp only [Act.put]); (try simp only [List.setIfInBounds_toArray]); (try simp only [List.set_cons_succ]); (try simp only [List.set_cons_zero])))
          (refine wpAnyH_take (i := 5) (v := ?_) rfl (by kernel_rfl) (by kernel_rfl) (by kernel_rfl) (fun _ _ _ h => h) (Or.inl ⟨by rfl, ?_⟩) (by assumption) ?_; rotate_left; (intro w hSw; (try dsimp only at hSw); go_simp; try with_reducible rfl); ((try simp only [List.getElem_toArray]); (try simp only [List.getElem_cons_succ]); (try simp only [List.getElem_cons_zero]); (try simp only [Act.put]); (try simp only [List.setIfInBounds_toArray]); (try simp only [List.set_cons_succ]); (try simp only [List.set_cons_zero])))
          (refine wpAnyH_take (i := 6) (v := ?_) rfl (by kernel_rfl) (by kernel_rfl) (by kernel_rfl) (fun _ _ _ h => h) (Or.inl ⟨by rfl, ?_⟩) (by assumption) ?_; rotate_left; (intro w hSw; (try dsimp only at hSw); go_simp; try with_reducible rfl); ((try simp only [List.getElem_toArray]); (try simp only [List.getElem_cons_succ]); (try simp only [List.getElem_cons_zero]); (try simp only [Act.put]); (try simp only [List.setIfInBounds_toArray]); (try simp only [List.set_cons_succ]); (try simp only [List.set_cons_zero])))
          (refine wpAnyH_take (i := 8) (v := ?_) rfl (by kernel_rfl) (by kernel_rfl) (by kernel_rfl) (fun _ _ _ h => h) (Or.inl ⟨by rfl, ?_⟩) (by assumption) ?_; rotate_left; (intro w hSw; (try dsimp only at hSw); go_simp; try with_reducible rfl); ((try simp only [List.getElem_toArray]); (try simp only [List.getElem_cons_succ]); (try simp only [List.getElem_cons_zero]); (try simp only [Act.put]); (try simp only [List.setIfInBounds_toArray]); (try simp only [List.set_cons_succ]); (try simp only [List.set_cons_zero])))
          (refine wpAnyH_take (i := 9) (v := ?_) rfl (by kernel_rfl) (by kernel_rfl) (by kernel_rfl) (fun _ _ _ h => h) (Or.inl ⟨by rfl, ?_⟩) (by assumption) ?_; rotate_left; (intro w hSw; (try dsimp only at hSw); go_simp; try with_reducible rfl); ((try simp only [List.getElem_toArray]); (try simp only [List.getElem_cons_succ]); (try simp only [List.getElem_cons_zero]); (try simp only [Act.put]); (try simp only [List.setIfInBounds_toArray]); (try simp only [List.set_cons_succ]); (try simp only [List.set_cons_zero])))
          (refine wpAnyH_take (i := 10) (v := ?_) rfl (by kernel_rfl) (by kernel_rfl) (by kernel_rfl) (fun _ _ _ h => h) (Or.inl ⟨by rfl, ?_⟩) (by assumption) ?_; rotate_left; (intro w hSw; (try dsimp only at hSw); go_simp; try with_reducible rfl); ((try simp only [List.getElem_toArray]); (try simp only [List.getElem_cons_succ]); (try simp only [List.getElem_cons_zero]); (try simp only [Act.put]); (try simp only [List.setIfInBounds_toArray]); (try simp only [List.set_cons_succ]); (try simp only [List.set_cons_zero])))
          (refine wpAnyH_take (i := 11) (v := ?_) rfl (by kernel_rfl) (by kernel_rfl) (by kernel_rfl) (fun _ _ _ h => h) (Or.inl ⟨by rfl, ?_⟩) (by assumption) ?_; rotate_left; (intro w hSw; (try dsimp only at hSw); go_simp; try with_reducible rfl); ((try simp only [List.getElem_toArray]); (try simp only [List.getElem_cons_succ]); (try simp only [List.getElem_cons_zero]); (try simp only [Act.put]); (try simp only [List.setIfInBounds_toArray]); (try simp only [List.set_cons_succ]); (try simp only [List.set_cons_zero])))
          refine wpAnyH_ready (rs := [7]) (by kernel_rfl) (by simp) ?_
          refine AllReadyH.cons rfl (fun K2 hK2 => ?_) AllReadyH.nil
          go_simp
          refine (HTl.out _ ((Below.refl _ _).drew)).mono ?_
          rintro e w4 ⟨rfl, rfl⟩
          go_wp2_with fail
          refine hK2.out _ _ (by (try dsimp only); exact ⟨m0, m8⟩) (fun _ => ?_)
          clear hK2 K2
          (try simp only [List.getElem_toArray]); (try simp only [List.getElem_cons_succ]); (try simp only [List.getElem_cons_zero]); (try simp only [Act.put]); (try simp only [List.setIfInBounds_toArray]); (try simp only [List.set_cons_succ]); (try simp only [List.set_cons_zero])
          (refine wpAnyH_take (i := 12) (v := ?_) rfl (by kernel_rfl) (by kernel_rfl) (by kernel_rfl) (fun _ _ _ h => h) (Or.inl ⟨by rfl, ?_⟩) (by assumption) ?_; rotate_left; (intro w hSw; (try dsimp only at hSw); go_simp; try with_reducible rfl); ((try simp only [List.getElem_toArray]); (try simp only [List.getElem_cons_succ]); (try simp only [List.getElem_cons_zero]); (try simp only [Act.put]); (try simp only [List.setIfInBounds_toArray]); (try simp only [List.set_cons_succ]); (try simp only [List.set_cons_zero])))
          (refine wpAnyH_take (i := 13) (v := ?_) rfl (by kernel_rfl) (by kernel_rfl) (by kernel_rfl) (fun _ _ _ h => h) (Or.inl ⟨by rfl, ?_⟩) (by assumption) ?_; rotate_left; (intro w hSw; (try dsimp only at hSw); go_simp; try with_reducible rfl); ((try simp only [List.getElem_toArray]); (try simp only [List.getElem_cons_succ]); (try simp only [List.getElem_cons_zero]); (try simp only [Act.put]); (try simp only [List.setIfInBounds_toArray]); (try simp only [List.set_cons_succ]); (try simp only [List.set_cons_zero])))
          refine wpAnyH_done (by kernel_rfl) ?_ _
          go_wp2_with fail
          clear m0
          refine wp_region_held_drew (S := fun X => X.cell? ⟨b, 8, none⟩ = some (.pointer (some ⟨tb, 0, none⟩))) (by kernel_rfl) (by exact m8) (fun _ => ?_)
          (refine wpAnyH_take (i := 0) (v := ?_) rfl (by kernel_rfl) (by kernel_rfl) (by kernel_rfl) (fun _ _ _ h => h) (Or.inl ⟨by rfl, ?_⟩) (by assumption) ?_; rotate_left; (intro w hSw; (try dsimp only at hSw); go_simp; try with_reducible rfl); ((try simp only [List.getElem_toArray]); (try simp only [List.getElem_cons_succ]); (try simp only [List.getElem_cons_zero]); (try simp only [Act.put]); (try simp only [List.setIfInBounds_toArray]); (try simp only [List.set_cons_succ]); (try simp only [List.set_cons_zero])))
          (refine wpAnyH_take (i := 1) (v := ?_) rfl (by kernel_rfl) (by kernel_rfl) (by kernel_rfl) (fun _ _ _ h => h) (Or.inl ⟨by rfl, ?_⟩) (by assumption) ?_; rotate_left; (intro w hSw; (try dsimp only at hSw); go_simp; try with_reducible rfl); ((try simp only [List.getElem_toArray]); (try simp only [List.getElem_cons_succ]); (try simp only [List.getElem_cons_zero]); (try simp only [Act.put]); (try simp only [List.setIfInBounds_toArray]); (try simp only [List.set_cons_succ]); (try simp only [List.set_cons_zero])))
          (refine wpAnyH_take (i := 2) (v := ?_) rfl (by kernel_rfl) (by kernel_rfl) (by kernel_rfl) (fun _ _ _ h => h) (Or.inl ⟨by rfl, ?_⟩) (by assumption) ?_; rotate_left; (intro w hSw; (try dsimp only at hSw); go_simp; try with_reducible rfl); ((try simp only [List.getElem_toArray]); (try simp only [List.getElem_cons_succ]); (try simp only [List.getElem_cons_zero]); (try simp only [Act.put]); (try simp only [List.setIfInBounds_toArray]); (try simp only [List.set_cons_succ]); (try simp only [List.set_cons_zero])))
          (refine wpAnyH_take (i := 3) (v := ?_) rfl (by kernel_rfl) (by kernel_rfl) (by kernel_rfl) (fun _ _ _ h => h) (Or.inl ⟨by rfl, ?_⟩) (by assumption) ?_; rotate_left; (intro w hSw; (try dsimp only at hSw); go_simp; try with_reducible rfl); ((try simp only [List.getElem_toArray]); (try simp only [List.getElem_cons_succ]); (try simp only [List.getElem_cons_zero]); (try simp only [Act.put]); (try simp only [List.setIfInBounds_toArray]); (try simp only [List.set_cons_succ]); (try simp only [List.set_cons_zero])))
          (refine wpAnyH_take (i := 4) (v := ?_) rfl (by kernel_rfl) (by kernel_rfl) (by kernel_rfl) (fun _ _ _ h => h) (Or.inl ⟨by rfl, ?_⟩) (by assumption) ?_; rotate_left; (intro w hSw; (try dsimp only at hSw); go_simp; try with_reducible rfl); ((try simp only [List.getElem_toArray]); (try simp only [List.getElem_cons_succ]); (try simp only [List.getElem_cons_zero]); (try simp only [Act.put]); (try simp only [List.setIfInBounds_toArray]); (try simp only [List.set_cons_succ]); (try simp only [List.set_cons_zero])))
          (refine wpAnyH_take (i := 5) (v := ?_) rfl (by kernel_rfl) (by kernel_rfl) (by kernel_rfl) (fun _ _ _ h => h) (Or.inl ⟨by rfl, ?_⟩) (by assumption) ?_; rotate_left; (intro w hSw; (try dsimp only at hSw); go_simp; try with_reducible rfl); ((try simp only [List.getElem_toArray]); (try simp only [List.getElem_cons_succ]); (try simp only [List.getElem_cons_zero]); (try simp only [Act.put]); (try simp only [List.setIfInBounds_toArray]); (try simp only [List.set_cons_succ]); (try simp only [List.set_cons_zero])))
          refine wpAnyH_ready (rs := [6]) (by kernel_rfl) (by simp) ?_
          refine AllReadyH.cons rfl (fun K2 hK2 => ?_) AllReadyH.nil
          go_simp
          refine (HV.out _ ((Below.refl _ _).drew.drew)).mono ?_
          rintro e w4 ⟨v, rfl, ho, hb⟩
          obtain ⟨A8, n8, c8, rfl, _, _, _, _, _⟩ := ownV_open ho.out
          have HO := Lib.hid (ownV_dn ho.out (Nat.le_trans hlo HB1.out.size))
          have HB4 : Hid (Below w3.heap.size w3 w4) := Lib.hid (((Below.refl _ w3).drew.drew).trans (hb.out.mono (Nat.le_refl _)))
          have HW4 := Lib.hid (HW2.out.below HB4.out)
          have m84 : w4.cell? ⟨b, 8, none⟩ = some (.pointer (some ⟨tb, 0, none⟩)) := HW4.out.top.cell 8
          have HPt := Lib.hid (tput_any HW4.out.tr (by rw [HW4.out.len]; exact Nat.le_trans hz (by omega)) (keyS k L) hkz ⟨A8, n8, c8⟩)
          dsimp only at HPt
          clear ho hb
          go_wp2_with fail
          refine hK2.out _ _ (by (try dsimp only); exact m84) (fun _ => ?_)
          clear hK2 K2
          (try simp only [List.getElem_toArray]); (try simp only [List.getElem_cons_succ]); (try simp only [List.getElem_cons_zero]); (try simp only [Act.put]); (try simp only [List.setIfInBounds_toArray]); (try simp only [List.set_cons_succ]); (try simp only [List.set_cons_zero])
          refine wpAnyH_ready (rs := [7]) (by kernel_rfl) (by simp) ?_
          refine AllReadyH.cons rfl (fun K2 hK2 => ?_) AllReadyH.nil
          go_simp
          refine (HPt.out).mono ?_
          rintro e w5 ⟨rfl, T', hT5, hc5, ht5⟩
          have HW5 := Lib.hid (win_put HW4.out HO.out hT5 hc5 ht5)
          have HT5 := Lib.hid ((Tur.of_below HB4.out).trans ht5 (Fre.refl _ _))
          have m85 : w5.cell? ⟨b, 8, none⟩ = some (.pointer (some ⟨tb, 0, none⟩)) := HW5.out.top.cell 8
          clear hT5 hc5 ht5
          go_wp2_with fail
          refine hK2.out _ _ (by (try dsimp only); exact m85) (fun _ => ?_)
          clear hK2 K2
          (try simp only [List.getElem_toArray]); (try simp only [List.getElem_cons_succ]); (try simp only [List.getElem_cons_zero]); (try simp only [Act.put]); (try simp only [List.setIfInBounds_toArray]); (try simp only [List.set_cons_succ]); (try simp only [List.set_cons_zero])
          refine wpAnyH_done (by kernel_rfl) ?_ _
          go_wp2_with fail
          go_ret
          exact ⟨by simp [putE, hq], tb, by rw [show putA ⟨sz, num, M, k, af, tbl, dn, en, sp, R⟩ k L = ⟨sz, num, M, k, af, tbl, dn, en, sp, putL (keyS k L) L R⟩ by simp [putA, hq, inA, hi, hh] <;> omega]; exact ⟨_, _, _, _, HW5.out⟩, ((Tur.of_below HB1.out).trans HT5.out (Fre.refl _ _)).sub (by simp), .inl rfl⟩
      | true =>
        rw [hh] at HG
        go_wp2_with fail
        refine HG.out.mono ?_
        rintro e w3 ⟨rfl, rfl⟩
        go_wp2_with fail
        refine wp_region_held_drew (S := fun X => X.cell? ⟨b, 0, none⟩ = some (.int .i64 sz) ∧ X.cell? ⟨b, 8, none⟩ = some (.pointer (some ⟨tb, 0, none⟩))) (by kernel_rfl) (by exact ⟨m0, m8⟩) (fun _ => ?_)
        (refine wpAnyH_take (i := 0) (v := ?_) rfl (by kernel_rfl) (by kernel_rfl) (by kernel_rfl) (fun _ _ _ h => h) (Or.inl ⟨by rfl, ?_⟩) (by assumption) ?_; rotate_left; (intro w hSw; (try dsimp only at hSw); go_simp; try with_reducible rfl); ((try simp only [List.getElem_toArray]); (try simp only [List.getElem_cons_succ]); (try simp only [List.getElem_cons_zero]); (try simp only [Act.put]); (try simp only [List.setIfInBounds_toArray]); (try simp only [List.set_cons_succ]); (try simp only [List.set_cons_zero])))
        (refine wpAnyH_take (i := 1) (v := ?_) rfl (by kernel_rfl) (by kernel_rfl) (by kernel_rfl) (fun _ _ _ h => h) (Or.inl ⟨by rfl, ?_⟩) (by assumption) ?_; rotate_left; (intro w hSw; (try dsimp only at hSw); go_simp; try with_reducible rfl); ((try simp only [List.getElem_toArray]); (try simp only [List.getElem_cons_succ]); (try simp only [List.getElem_cons_zero]); (try simp only [Act.put]); (try simp only [List.setIfInBounds_toArray]); (try simp only [List.set_cons_succ]); (try simp only [List.set_cons_zero])))
        (refine wpAnyH_take (i := 2) (v := ?_) rfl (by kernel_rfl) (by kernel_rfl) (by kernel_rfl) (fun _ _ _ h => h) (Or.inl ⟨by rfl, ?_⟩) (by assumption) ?_; rotate_left; (intro w hSw; (try dsimp only at hSw); go_simp; try with_reducible rfl); ((try simp only [List.getElem_toArray]); (try simp only [List.getElem_cons_succ]); (try simp only [List.getElem_cons_zero]); (try simp only [Act.put]); (try simp only [List.setIfInBounds_toArray]); (try simp only [List.set_cons_succ]); (try simp only [List.set_cons_zero])))
        (refine wpAnyH_take (i := 3) (v := undef) rfl (by kernel_rfl) (by kernel_rfl) (by kernel_rfl) (fun _ _ _ h => h) (Or.inr ⟨by rfl, rfl⟩) (by assumption) ?_; ((try simp only [List.getElem_toArray]); (try simp only [List.getElem_cons_succ]); (try simp only [List.getElem_cons_zero]); (try simp only [Act.put]); (try simp only [List.setIfInBounds_toArray]); (try simp only [List.set_cons_succ]); (try simp only [List.set_cons_zero])))
        (refine wpAnyH_take (i := 4) (v := undef) rfl (by kernel_rfl) (by kernel_rfl) (by kernel_rfl) (fun _ _ _ h => h) (Or.inr ⟨by rfl, rfl⟩) (by assumption) ?_; ((try simp only [List.getElem_toArray]); (try simp only [List.getElem_cons_succ]); (try simp only [List.getElem_cons_zero]); (try simp only [Act.put]); (try simp only [List.setIfInBounds_toArray]); (try simp only [List.set_cons_succ]); (try simp only [List.set_cons_zero])))
        (refine wpAnyH_take (i := 5) (v := undef) rfl (by kernel_rfl) (by kernel_rfl) (by kernel_rfl) (fun _ _ _ h => h) (Or.inr ⟨by rfl, rfl⟩) (by assumption) ?_; ((try simp only [List.getElem_toArray]); (try simp only [List.getElem_cons_succ]); (try simp only [List.getElem_cons_zero]); (try simp only [Act.put]); (try simp only [List.setIfInBounds_toArray]); (try simp only [List.set_cons_succ]); (try simp only [List.set_cons_zero])))
        (refine wpAnyH_take (i := 6) (v := undef) rfl (by kernel_rfl) (by kernel_rfl) (by kernel_rfl) (fun _ _ _ h => h) (Or.inr ⟨by rfl, rfl⟩) (by assumption) ?_; ((try simp only [List.getElem_toArray]); (try simp only [List.getElem_cons_succ]); (try simp only [List.getElem_cons_zero]); (try simp only [Act.put]); (try simp only [List.setIfInBounds_toArray]); (try simp only [List.set_cons_succ]); (try simp only [List.set_cons_zero])))
        (refine wpAnyH_take (i := 7) (v := undef) rfl (by kernel_rfl) (by kernel_rfl) (by kernel_rfl) (fun _ _ _ h => h) (Or.inr ⟨by rfl, rfl⟩) (by assumption) ?_; ((try simp only [List.getElem_toArray]); (try simp only [List.getElem_cons_succ]); (try simp only [List.getElem_cons_zero]); (try simp only [Act.put]); (try simp only [List.setIfInBounds_toArray]); (try simp only [List.set_cons_succ]); (try simp only [List.set_cons_zero])))
        (refine wpAnyH_take (i := 8) (v := undef) rfl (by kernel_rfl) (by kernel_rfl) (by kernel_rfl) (fun _ _ _ h => h) (Or.inr ⟨by rfl, rfl⟩) (by assumption) ?_; ((try simp only [List.getElem_toArray]); (try simp only [List.getElem_cons_succ]); (try simp only [List.getElem_cons_zero]); (try simp only [Act.put]); (try simp only [List.setIfInBounds_toArray]); (try simp only [List.set_cons_succ]); (try simp only [List.set_cons_zero])))
        (refine wpAnyH_take (i := 9) (v := undef) rfl (by kernel_rfl) (by kernel_rfl) (by kernel_rfl) (fun _ _ _ h => h) (Or.inr ⟨by rfl, rfl⟩) (by assumption) ?_; ((try simp only [List.getElem_toArray]); (try simp only [List.getElem_cons_succ]); (try simp only [List.getElem_cons_zero]); (try simp only [Act.put]); (try simp only [List.setIfInBounds_toArray]); (try simp only [List.set_cons_succ]); (try simp only [List.set_cons_zero])))
        (refine wpAnyH_take (i := 10) (v := undef) rfl (by kernel_rfl) (by kernel_rfl) (by kernel_rfl) (fun _ _ _ h => h) (Or.inr ⟨by rfl, rfl⟩) (by assumption) ?_; ((try simp only [List.getElem_toArray]); (try simp only [List.getElem_cons_succ]); (try simp only [List.getElem_cons_zero]); (try simp only [Act.put]); (try simp only [List.setIfInBounds_toArray]); (try simp only [List.set_cons_succ]); (try simp only [List.set_cons_zero])))
        (refine wpAnyH_take (i := 11) (v := undef) rfl (by kernel_rfl) (by kernel_rfl) (by kernel_rfl) (fun _ _ _ h => h) (Or.inr ⟨by rfl, rfl⟩) (by assumption) ?_; ((try simp only [List.getElem_toArray]); (try simp only [List.getElem_cons_succ]); (try simp only [List.getElem_cons_zero]); (try simp only [Act.put]); (try simp only [List.setIfInBounds_toArray]); (try simp only [List.set_cons_succ]); (try simp only [List.set_cons_zero])))
        (refine wpAnyH_take (i := 12) (v := undef) rfl (by kernel_rfl) (by kernel_rfl) (by kernel_rfl) (fun _ _ _ h => h) (Or.inr ⟨by rfl, rfl⟩) (by assumption) ?_; ((try simp only [List.getElem_toArray]); (try simp only [List.getElem_cons_succ]); (try simp only [List.getElem_cons_zero]); (try simp only [Act.put]); (try simp only [List.setIfInBounds_toArray]); (try simp only [List.set_cons_succ]); (try simp only [List.set_cons_zero])))
        (refine wpAnyH_take (i := 13) (v := ?_) rfl (by kernel_rfl) (by kernel_rfl) (by kernel_rfl) (fun _ _ _ h => h) (Or.inl ⟨by rfl, ?_⟩) (by assumption) ?_; rotate_left; (intro w hSw; (try dsimp only at hSw); go_simp; try with_reducible rfl); ((try simp only [List.getElem_toArray]); (try simp only [List.getElem_cons_succ]); (try simp only [List.getElem_cons_zero]); (try simp only [Act.put]); (try simp only [List.setIfInBounds_toArray]); (try simp only [List.set_cons_succ]); (try simp only [List.set_cons_zero])))
        refine wpAnyH_done (by kernel_rfl) ?_ _
        go_wp2_with fail
        clear m0
        refine wp_region_held_drew (S := fun X => X.cell? ⟨b, 8, none⟩ = some (.pointer (some ⟨tb, 0, none⟩))) (by kernel_rfl) (by exact m8) (fun _ => ?_)
        (refine wpAnyH_take (i := 0) (v := ?_) rfl (by kernel_rfl) (by kernel_rfl) (by kernel_rfl) (fun _ _ _ h => h) (Or.inl ⟨by rfl, ?_⟩) (by assumption) ?_; rotate_left; (intro w hSw; (try dsimp only at hSw); go_simp; try with_reducible rfl); ((try simp only [List.getElem_toArray]); (try simp only [List.getElem_cons_succ]); (try simp only [List.getElem_cons_zero]); (try simp only [Act.put]); (try simp only [List.setIfInBounds_toArray]); (try simp only [List.set_cons_succ]); (try simp only [List.set_cons_zero])))
        (refine wpAnyH_take (i := 1) (v := ?_) rfl (by kernel_rfl) (by kernel_rfl) (by kernel_rfl) (fun _ _ _ h => h) (Or.inl ⟨by rfl, ?_⟩) (by assumption) ?_; rotate_left; (intro w hSw; (try dsimp only at hSw); go_simp; try with_reducible rfl); ((try simp only [List.getElem_toArray]); (try simp only [List.getElem_cons_succ]); (try simp only [List.getElem_cons_zero]); (try simp only [Act.put]); (try simp only [List.setIfInBounds_toArray]); (try simp only [List.set_cons_succ]); (try simp only [List.set_cons_zero])))
        (refine wpAnyH_take (i := 2) (v := ?_) rfl (by kernel_rfl) (by kernel_rfl) (by kernel_rfl) (fun _ _ _ h => h) (Or.inl ⟨by rfl, ?_⟩) (by assumption) ?_; rotate_left; (intro w hSw; (try dsimp only at hSw); go_simp; try with_reducible rfl); ((try simp only [List.getElem_toArray]); (try simp only [List.getElem_cons_succ]); (try simp only [List.getElem_cons_zero]); (try simp only [Act.put]); (try simp only [List.setIfInBounds_toArray]); (try simp only [List.set_cons_succ]); (try simp only [List.set_cons_zero])))
        (refine wpAnyH_take (i := 3) (v := ?_) rfl (by kernel_rfl) (by kernel_rfl) (by kernel_rfl) (fun _ _ _ h => h) (Or.inl ⟨by rfl, ?_⟩) (by assumption) ?_; rotate_left; (intro w hSw; (try dsimp only at hSw); go_simp; try with_reducible rfl); ((try simp only [List.getElem_toArray]); (try simp only [List.getElem_cons_succ]); (try simp only [List.getElem_cons_zero]); (try simp only [Act.put]); (try simp only [List.setIfInBounds_toArray]); (try simp only [List.set_cons_succ]); (try simp only [List.set_cons_zero])))
        (refine wpAnyH_take (i := 4) (v := ?_) rfl (by kernel_rfl) (by kernel_rfl) (by kernel_rfl) (fun _ _ _ h => h) (Or.inl ⟨by rfl, ?_⟩) (by assumption) ?_; rotate_left; (intro w hSw; (try dsimp only at hSw); go_simp; try with_reducible rfl); ((try simp only [List.getElem_toArray]); (try simp only [List.getElem_cons_succ]); (try simp only [List.getElem_cons_zero]); (try simp only [Act.put]); (try simp only [List.setIfInBounds_toArray]); (try simp only [List.set_cons_succ]); (try simp only [List.set_cons_zero])))
        (refine wpAnyH_take (i := 5) (v := ?_) rfl (by kernel_rfl) (by kernel_rfl) (by kernel_rfl) (fun _ _ _ h => h) (Or.inl ⟨by rfl, ?_⟩) (by assumption) ?_; rotate_left; (intro w hSw; (try dsimp only at hSw); go_simp; try with_reducible rfl); ((try simp only [List.getElem_toArray]); (try simp only [List.getElem_cons_succ]); (try simp only [List.getElem_cons_zero]); (try simp only [Act.put]); (try simp only [List.setIfInBounds_toArray]); (try simp only [List.set_cons_succ]); (try simp only [List.set_cons_zero])))
        refine wpAnyH_ready (rs := [6]) (by kernel_rfl) (by simp) ?_
        refine AllReadyH.cons rfl (fun K2 hK2 => ?_) AllReadyH.nil
        go_simp
        refine (HV.out _ ((Below.refl _ _).drew.drew)).mono ?_
        rintro e w4 ⟨v, rfl, ho, hb⟩
        obtain ⟨A8, n8, c8, rfl, _, _, _, _, _⟩ := ownV_open ho.out
        have HO := Lib.hid (ownV_dn ho.out (Nat.le_trans hlo HB1.out.size))
        have HB4 : Hid (Below w3.heap.size w3 w4) := Lib.hid (((Below.refl _ w3).drew.drew).trans (hb.out.mono (Nat.le_refl _)))
        have HW4 := Lib.hid (HW2.out.below HB4.out)
        have m84 : w4.cell? ⟨b, 8, none⟩ = some (.pointer (some ⟨tb, 0, none⟩)) := HW4.out.top.cell 8
        have HPt := Lib.hid (tput_any HW4.out.tr (by rw [HW4.out.len]; exact Nat.le_trans hz (by omega)) (keyS k L) hkz ⟨A8, n8, c8⟩)
        dsimp only at HPt
        clear ho hb
        go_wp2_with fail
        refine hK2.out _ _ (by (try dsimp only); exact m84) (fun _ => ?_)
        clear hK2 K2
        (try simp only [List.getElem_toArray]); (try simp only [List.getElem_cons_succ]); (try simp only [List.getElem_cons_zero]); (try simp only [Act.put]); (try simp only [List.setIfInBounds_toArray]); (try simp only [List.set_cons_succ]); (try simp only [List.set_cons_zero])
        refine wpAnyH_ready (rs := [7]) (by kernel_rfl) (by simp) ?_
        refine AllReadyH.cons rfl (fun K2 hK2 => ?_) AllReadyH.nil
        go_simp
        refine (HPt.out).mono ?_
        rintro e w5 ⟨rfl, T', hT5, hc5, ht5⟩
        have HW5 := Lib.hid (win_put HW4.out HO.out hT5 hc5 ht5)
        have HT5 := Lib.hid ((Tur.of_below HB4.out).trans ht5 (Fre.refl _ _))
        have m85 : w5.cell? ⟨b, 8, none⟩ = some (.pointer (some ⟨tb, 0, none⟩)) := HW5.out.top.cell 8
        clear hT5 hc5 ht5
        go_wp2_with fail
        refine hK2.out _ _ (by (try dsimp only); exact m85) (fun _ => ?_)
        clear hK2 K2
        (try simp only [List.getElem_toArray]); (try simp only [List.getElem_cons_succ]); (try simp only [List.getElem_cons_zero]); (try simp only [Act.put]); (try simp only [List.setIfInBounds_toArray]); (try simp only [List.set_cons_succ]); (try simp only [List.set_cons_zero])
        refine wpAnyH_done (by kernel_rfl) ?_ _
        go_wp2_with fail
        go_ret
        exact ⟨by simp [putE, hq], tb, by rw [show putA ⟨sz, num, M, k, af, tbl, dn, en, sp, R⟩ k L = ⟨sz, num, M, k, af, tbl, dn, en, sp, putL (keyS k L) L R⟩ by simp [putA, hq, inA, hi, hh] <;> omega]; exact ⟨_, _, _, _, HW5.out⟩, ((Tur.of_below HB1.out).trans HT5.out (Fre.refl _ _)).sub (by simp), .inl rfl⟩
end Go.Proofs.YtcdjeibcnkpadaaDoor
namespace Go.Proofs.YtcdjeibcnkpadaaDoor
open Go.RowKit Go.Maps Dg
set_option maxRecDepth 100000
set_option linter.unusedVariables false
theorem win_cut {lo b : Nat} {w1 w2 : World} {x : Wn} {key : ByteArray} {T' : Tr} (h : WinAt lo b w1 x) (ht : TrAt x.tb w2 T') (hc : T'.con = cutL key x.T.con) (hu : Tur [x.tb] w1 w2) :
    WinAt lo b w2 { x with T := T', R := cutL key x.R } := by
  have hX : ∀ z ∈ [x.tb], ∃ cs, Has w1 z 107 cs := fun z hz => by rw [List.mem_singleton.1 hz]; exact ⟨_, h.tr.top⟩
  refine ⟨h.top.tur hu fun hx => ?_, h.col.turX hu fun z hz => ?_, ht, ?_⟩
  · obtain ⟨cs, hc⟩ := hX b hx
    exact absurd (hc.two h.top).1 (by decide)
  · obtain ⟨cs, hc⟩ := hX z hz
    exact ⟨_, cs, hc, by decide⟩
  · dsimp only
    rw [hc]
    exact RowsAt.cut (h.row.turX hu fun z hz => by obtain ⟨cs, hc⟩ := hX z hz; exact ⟨_, cs, hc, by decide⟩)
set_option maxHeartbeats 4000000 in
theorem wcut_any {lo b tb : Nat} {w : World} {a : Wa} (h : WinA lo b tb w a) (k : Nat) (hS : SchA a k) (hz : a.R.length ≤ 89000) (Ar : Option Addr) (nr cr : Nat) (L : List Vl) (hR : RwAt w Ar nr cr L) (hT : Tabs w) :
    Calls Tryd.prog 47 #[.pointer (some ⟨b, 0, none⟩), .slice Ar nr cr] w fun e w' => e = .returned (.int .i64 (cutE a k L)) ∧ Hid (WinA lo b tb w' (cutA a k L)) ∧ Hid (Tur [b, tb] w w') := by
  have HW0 := Lib.hid h
  obtain ⟨A, n, c, T, HW⟩ := h
  obtain ⟨sz, num, M, K, af, tbl, dn, en, sp, R⟩ := a
  obtain ⟨hK, hS⟩ := hS
  dsimp only at hK hS hz HW HW0 ⊢
  subst hK
  have hcl := clAt_own HW.col
  dsimp only at hcl
  have h16 := hS.len
  have hk4 := hS.keys
  have hM := hcl.len
  have HK := Lib.hid (fun (W : World) (hb : Below w.heap.size w W) => skey_any A M n c k Ar L nr cr W hM (by omega) hk4.2.2 hcl.cap hR.cap (hcl.row.below hb) hR.len (hR.row.below hb) hR.fit (hT.below hb))
  rw [skT_one hS] at HK
  have HH := Lib.hid HW.top
  have hnr := hR.len
  dsimp only [Wn.cells] at HH
  have m2 : w.cell? ⟨b, 2, none⟩ = some (.slice A n c) := HH.out.cell 2
  have m3 : w.cell? ⟨b, 3, none⟩ = some (.int .i64 k) := HH.out.cell 3
  by_cases hlk : nr = k
  · subst hlk
    have HL := Lib.hid hnr
    clear hnr
    have HP := Lib.hid (fun (W : World) (hb : Below w.heap.size w W) => tcut_any (HW.below hb).tr (by rw [(HW.below hb).len]; exact Nat.le_trans hz (by omega)) (keyS nr L))
    have hq : ((nr : Int) != (nr : Int)) = false := by simp
    have hq2 : ((nr : Int) == (nr : Int)) = true := by simp
    go_enter Tryd.func47, Tryd.ntmps47
    go_wp2_with fail
    refine (HK.out _ (Below.refl _ _)).mono ?_
    rintro e w1 ⟨rfl, hb1⟩
    have HB1 := Lib.hid hb1.out
    have HW1 := Lib.hid (HW.below hb1.out)
    have m8 : w1.cell? ⟨b, 8, none⟩ = some (.pointer (some ⟨tb, 0, none⟩)) := HW1.out.top.cell 8
    clear hb1 m2 m3
    cases hko : keyOk M L nr with
    | false =>
      rw [if_neg (by simp)]
      go_wp2_with fail
      all_goals
        go_ret
        exact ⟨by simp [cutE, hko], by rw [show cutA ⟨sz, num, M, nr, af, tbl, dn, en, sp, R⟩ nr L = ⟨sz, num, M, nr, af, tbl, dn, en, sp, R⟩ by simp [cutA, hko]]; exact HW0.out.below HB1.out, Tur.of_below HB1.out⟩
    | true =>
      rw [if_pos rfl]
      go_wp2_with fail
      refine (HP.out _ HB1.out).mono ?_
      rintro e w2 ⟨rfl, T', hT2, hc2, ht2⟩
      have HW2 := Lib.hid (win_cut HW1.out hT2 hc2 ht2)
      have HT2 := Lib.hid ((Tur.of_below (X := [b, tb]) HB1.out).trans (ht2.sub (by simp)) (Fre.refl _ _))
      clear hT2 hc2 ht2
      go_wp2_with fail
      all_goals
        go_ret
        exact ⟨by simp [cutE, hko, HL.out], by rw [show cutA ⟨sz, num, M, nr, af, tbl, dn, en, sp, R⟩ nr L = ⟨sz, num, M, nr, af, tbl, dn, en, sp, cutL (keyS nr L) R⟩ by simp [cutA, hko, HL.out]]; exact ⟨_, _, _, _, HW2.out⟩, HT2.out⟩
  · have hq : ((nr : Int) != (k : Int)) = true := by simp; omega
    have hq2 : ((nr : Int) == (k : Int)) = false := by simp; omega
    have HL := Lib.hid (show ¬ L.length = k by omega)
    clear hnr
    go_enter Tryd.func47, Tryd.ntmps47
    go_wp2_with fail
    all_goals
      go_ret
      exact ⟨by simp [cutE, HL.out], by rw [show cutA ⟨sz, num, M, k, af, tbl, dn, en, sp, R⟩ k L = ⟨sz, num, M, k, af, tbl, dn, en, sp, R⟩ by simp [cutA, HL.out]]; exact HW0.out, Tur.refl _ _⟩
end Go.Proofs.YtcdjeibcnkpadaaDoor
namespace Go.Proofs.YtcdjeibcnkpadaaDoor
open Go.RowKit Go.Maps Dg
set_option maxRecDepth 100000
set_option linter.unusedVariables false
/-- Two texts are the same. -/
def sameS (a b : ByteArray) : Bool := a.toList == b.toList
/-- A window behind an event: its kind, its table, its change's table, its rows. -/
def takeA (a : Wa) (k : Nat) (ek : Int) (t ct : ByteArray) (B Af : List Vl) : Wa :=
  if (a.num == -1 || a.sp) = true then a
  else if (ek == 6 && sameS ct a.tbl) = true then spoilA a
  else if sameS t a.tbl = false then a
  else if ek = 3 ∨ ek = 4 then putA a k Af else if ek = 5 then cutA a k B else a
def takeE (a : Wa) (k : Nat) (ek : Int) (t ct : ByteArray) (B Af : List Vl) : Int :=
  if (a.num == -1 || a.sp) = true then 0
  else if (ek == 6 && sameS ct a.tbl) = true then 0
  else if sameS t a.tbl = false then 0
  else if ek = 3 ∨ ek = 4 then putE a Af else if ek = 5 then cutE a k B else 0
set_option maxHeartbeats 4000000 in
theorem wtake_any {lo b tb : Nat} {w : World} {a : Wa} (h : WinA lo b tb w a) (k : Nat) (hS : a.num ≠ -1 → a.sp = false → SchA a k) (h0 : 1 ≤ a.sz) (h1 : a.sz ≤ 9223372036854775807) (hz : a.R.length ≤ 89000)
    (ek en : Int) (t : ByteArray) (Ab : Option Addr) (nb zb : Nat) (B : List Vl) (Aa : Option Addr) (na za : Nat) (Af : List Vl) (ck : Int) (ct : ByteArray) (Ac : Option Addr) (nc zc : Nat) (eK : Int) (cn : ByteArray) (cq : Int) (cb : Bool)
    (hB : RwAt w Ab nb zb B) (hA : RwAt w Aa na za Af) (hT : Tabs w) (hlo : lo ≤ w.heap.size) :
    Calls Tryd.prog 19 #[.pointer (some ⟨b, 0, none⟩), .agg #[.int .i64 ek, .int .i64 en, .string t, .slice Ab nb zb, .slice Aa na za, .int .i64 ck, .string ct, .slice Ac nc zc, .int .i64 eK, .string cn, .int .i64 cq, .bool cb]] w fun e w' => e = .returned (.int .i64 (takeE a k ek t ct B Af)) ∧ ∃ tb', Hid (WinA lo b tb' w' (takeA a k ek t ct B Af)) ∧ Hid (Tur [b, tb] w w') ∧ Hid (tb' = tb ∨ w.heap.size ≤ tb') := by
  obtain ⟨w0, hw0⟩ : ∃ W, w.alloc (.cells #[.int .i64 ek, .int .i64 en, .string t, .slice Ab nb zb, .slice Aa na za, .int .i64 ck, .string ct, .slice Ac nc zc, .int .i64 eK, .string cn, .int .i64 cq, .bool cb] 51) = W := ⟨_, rfl⟩
  have HB : Hid (Below w.heap.size w w0) := by rw [← hw0]; exact (Below.refl _ w).alloc (Nat.le_refl _) _
  have HE : Hid (Has w0 w.heap.size 51 #[.int .i64 ek, .int .i64 en, .string t, .slice Ab nb zb, .slice Aa na za, .int .i64 ck, .string ct, .slice Ac nc zc, .int .i64 eK, .string cn, .int .i64 cq, .bool cb]) := by rw [← hw0]; exact Has.new _ _ _
  have HW0 := Lib.hid (h.below HB.out)
  obtain ⟨A, n, c, T, HW⟩ := id HW0.out
  obtain ⟨sz, num, M, K, af, tbl, dn, enn, sp, R⟩ := a
  dsimp only at hS h0 h1 hz HW HW0 h ⊢
  have HO := Lib.hid (fun (W : World) (hb : Below w0.heap.size w0 W) => wopen_any (HW.below hb))
  have HSp := Lib.hid (fun (W : World) (hb : Below w0.heap.size w0 W) => wspoil_any (HW.below hb) h0 h1)
  have HH := Lib.hid HW.top
  dsimp only [Wn.cells] at HH HO
  have e0 : w0.cell? ⟨w.heap.size, 0, none⟩ = some (.int .i64 ek) := HE.out.cell 0
  have e2 : w0.cell? ⟨w.heap.size, 2, none⟩ = some (.string t) := HE.out.cell 2
  have e3 : w0.cell? ⟨w.heap.size, 3, none⟩ = some (.slice Ab nb zb) := HE.out.cell 3
  have e4 : w0.cell? ⟨w.heap.size, 4, none⟩ = some (.slice Aa na za) := HE.out.cell 4
  have e6 : w0.cell? ⟨w.heap.size, 6, none⟩ = some (.string ct) := HE.out.cell 6
  have m1 : w0.cell? ⟨b, 1, none⟩ = some (.int .i64 num) := HH.out.cell 1
  have m5 : w0.cell? ⟨b, 5, none⟩ = some (.string tbl) := HH.out.cell 5
  have m9 : w0.cell? ⟨b, 9, none⟩ = some (.bool sp) := HH.out.cell 9
  cases hq : (num == -1 || sp) with
  | true =>
    have hst : takeA (⟨sz, num, M, K, af, tbl, dn, enn, sp, R⟩ : Wa) k ek t ct B Af = (⟨sz, num, M, K, af, tbl, dn, enn, sp, R⟩ : Wa) := by simp only [takeA]; rw [if_pos hq]
    have hse : takeE (⟨sz, num, M, K, af, tbl, dn, enn, sp, R⟩ : Wa) k ek t ct B Af = 0 := by simp only [takeE]; rw [if_pos hq]
    rw [hst, hse]
    clear hst hse
    cases hn : (num == -1) with
    | true =>
      have hn1 : num = -1 := by simpa using hn
      subst hn1
      have hno : ((-1 : Int) != -1) = false := by rfl
      rw [hno] at HO
      go_enter Tryd.func19, Tryd.ntmps19
      go_wp2_with fail
      refine (HO.out _ (Below.refl _ _)).mono ?_
      rintro e w1 ⟨rfl, rfl⟩
      go_wp2_with fail
      go_ret
      exact ⟨rfl, tb, HW0.out, Tur.of_below HB.out, .inl rfl⟩
    | false =>
      rw [hn] at hq
      have hsp : sp = true := by simpa using hq
      subst hsp
      have hno : (num != -1) = true := by simpa using hn
      rw [hno] at HO
      go_enter Tryd.func19, Tryd.ntmps19
      go_wp2_with fail
      refine (HO.out _ (Below.refl _ _)).mono ?_
      rintro e w1 ⟨rfl, rfl⟩
      go_wp2_with fail
      go_ret
      exact ⟨rfl, tb, HW0.out, Tur.of_below HB.out, .inl rfl⟩
  | false =>
    obtain ⟨hn1, hn2⟩ := Bool.or_eq_false_iff.1 hq
    have hno : (num != -1) = true := by simpa using hn1
    subst hn2
    rw [hno] at HO
    have hSA : SchA (⟨sz, num, M, K, af, tbl, dn, enn, false, R⟩ : Wa) k := hS (by simpa using hn1) rfl
    have HPu := Lib.hid (fun (W : World) (hb : Below w0.heap.size w0 W) => wput_any (HW0.out.below hb) k hSA h0 h1 hz Aa na za Af ((hA.below HB.out).below hb) ((hT.below HB.out).below hb) (Nat.le_trans hlo (Nat.le_trans HB.out.size hb.size)))
    have HCu := Lib.hid (fun (W : World) (hb : Below w0.heap.size w0 W) => wcut_any (HW0.out.below hb) k hSA hz Ab nb zb B ((hB.below HB.out).below hb) ((hT.below HB.out).below hb))
    clear hS hSA hA hB hT
    by_cases h6 : ek = 6
    · subst h6
      cases hc : sameS ct tbl with
      | true =>
        have hc2 : (ct.toList == tbl.toList) = true := hc
        go_enter Tryd.func19, Tryd.ntmps19
        go_wp2_with fail
        refine (HO.out _ (Below.refl _ _)).mono ?_
        rintro e w1 ⟨rfl, rfl⟩
        go_wp2_with fail
        go_region
        all_goals
          go_wp2_with fail
          refine (HSp.out _ ((Below.refl _ _).drew)).mono ?_
          rintro e w5 ⟨rfl, ⟨tb', hw5, htb5⟩, ht5⟩
          go_wp2_with fail
          go_ret
          exact ⟨by simp [takeE, hq, hc], tb', by rw [show takeA (⟨sz, num, M, K, af, tbl, dn, enn, false, R⟩ : Wa) k 6 t ct B Af = spoilA (⟨sz, num, M, K, af, tbl, dn, enn, false, R⟩ : Wa) by simp [takeA, hq, hc]]; exact ⟨_, _, _, _, hw5.out lo⟩, ((Tur.of_below (X := [b]) (HB.out.drew)).trans ht5.out (Fre.refl _ _)).sub (by simp), .inr (Nat.le_trans HB.out.size htb5.out)⟩
      | false =>
        have hc2 : (ct.toList == tbl.toList) = false := hc
        cases ht : sameS t tbl with
        | false =>
          have ht2 : (t.toList == tbl.toList) = false := ht
          go_enter Tryd.func19, Tryd.ntmps19
          go_wp2_with fail
          refine (HO.out _ (Below.refl _ _)).mono ?_
          rintro e w1 ⟨rfl, rfl⟩
          go_wp2_with fail
          go_region
          all_goals
            go_wp2_with fail
            go_region
            all_goals
              go_wp2_with fail
              go_ret
              exact ⟨by simp [takeE, hq, hc, ht], tb, by rw [show takeA (⟨sz, num, M, K, af, tbl, dn, enn, false, R⟩ : Wa) k 6 t ct B Af = (⟨sz, num, M, K, af, tbl, dn, enn, false, R⟩ : Wa) by simp [takeA, hq, hc, ht]]; exact HW0.out.below ((Below.refl _ _).drew.drew), Tur.of_below (HB.out.drew.drew), .inl rfl⟩
        | true =>
          have ht2 : (t.toList == tbl.toList) = true := ht
          go_enter Tryd.func19, Tryd.ntmps19
          go_wp2_with fail
          refine (HO.out _ (Below.refl _ _)).mono ?_
          rintro e w1 ⟨rfl, rfl⟩
          go_wp2_with fail
          go_region
          all_goals
            go_wp2_with fail
            go_region
            all_goals
              go_wp2_with fail
              go_ret
              exact ⟨by simp [takeE, hq, hc, ht], tb, by rw [show takeA (⟨sz, num, M, K, af, tbl, dn, enn, false, R⟩ : Wa) k 6 t ct B Af = (⟨sz, num, M, K, af, tbl, dn, enn, false, R⟩ : Wa) by simp [takeA, hq, hc, ht]]; exact HW0.out.below ((Below.refl _ _).drew.drew), Tur.of_below (HB.out.drew.drew), .inl rfl⟩
    · have h62 : (ek == 6) = false := by simpa using h6
      cases ht : sameS t tbl with
      | false =>
        have ht2 : (t.toList == tbl.toList) = false := ht
        go_enter Tryd.func19, Tryd.ntmps19
        go_wp2_with fail
        refine (HO.out _ (Below.refl _ _)).mono ?_
        rintro e w1 ⟨rfl, rfl⟩
        go_wp2_with fail
        go_region
        all_goals
          go_wp2_with fail
          go_region
          all_goals
            go_wp2_with fail
            go_ret
            exact ⟨by simp [takeE, hq, h62, ht], tb, by rw [show takeA (⟨sz, num, M, K, af, tbl, dn, enn, false, R⟩ : Wa) k ek t ct B Af = (⟨sz, num, M, K, af, tbl, dn, enn, false, R⟩ : Wa) by simp [takeA, hq, h62, ht]]; exact HW0.out.below ((Below.refl _ _).drew.drew), Tur.of_below (HB.out.drew.drew), .inl rfl⟩
      | true =>
        have ht2 : (t.toList == tbl.toList) = true := ht
        by_cases h3 : ek = 3
        · subst h3
          go_enter Tryd.func19, Tryd.ntmps19
          go_wp2_with fail
          refine (HO.out _ (Below.refl _ _)).mono ?_
          rintro e w1 ⟨rfl, rfl⟩
          go_wp2_with fail
          go_region
          all_goals
            go_wp2_with fail
            go_region
            all_goals
              go_wp2_with fail
              refine (HPu.out _ ((Below.refl _ _).drew.drew)).mono ?_
              rintro e w5 ⟨rfl, tb', hw5, ht5, htb5⟩
              go_wp2_with fail
              go_ret
              exact ⟨by simp [takeE, hq, h62, ht], tb', by rw [show takeA (⟨sz, num, M, K, af, tbl, dn, enn, false, R⟩ : Wa) k 3 t ct B Af = putA (⟨sz, num, M, K, af, tbl, dn, enn, false, R⟩ : Wa) k Af by simp [takeA, hq, h62, ht]]; exact hw5, (Tur.of_below (HB.out.drew.drew)).trans ht5.out (Fre.refl _ _), htb5.out.imp id (fun h => Nat.le_trans HB.out.size h)⟩
        · by_cases h4 : ek = 4
          · subst h4
            go_enter Tryd.func19, Tryd.ntmps19
            go_wp2_with fail
            refine (HO.out _ (Below.refl _ _)).mono ?_
            rintro e w1 ⟨rfl, rfl⟩
            go_wp2_with fail
            go_region
            all_goals
              go_wp2_with fail
              go_region
              all_goals
                go_wp2_with fail
                refine (HPu.out _ ((Below.refl _ _).drew.drew)).mono ?_
                rintro e w5 ⟨rfl, tb', hw5, ht5, htb5⟩
                go_wp2_with fail
                go_ret
                exact ⟨by simp [takeE, hq, h62, ht], tb', by rw [show takeA (⟨sz, num, M, K, af, tbl, dn, enn, false, R⟩ : Wa) k 4 t ct B Af = putA (⟨sz, num, M, K, af, tbl, dn, enn, false, R⟩ : Wa) k Af by simp [takeA, hq, h62, ht]]; exact hw5, (Tur.of_below (HB.out.drew.drew)).trans ht5.out (Fre.refl _ _), htb5.out.imp id (fun h => Nat.le_trans HB.out.size h)⟩
          · by_cases h5 : ek = 5
            · subst h5
              go_enter Tryd.func19, Tryd.ntmps19
              go_wp2_with fail
              refine (HO.out _ (Below.refl _ _)).mono ?_
              rintro e w1 ⟨rfl, rfl⟩
              go_wp2_with fail
              go_region
              all_goals
                go_wp2_with fail
                go_region
                all_goals
                  go_wp2_with fail
                  refine (HCu.out _ ((Below.refl _ _).drew.drew)).mono ?_
                  rintro e w5 ⟨rfl, hw5, ht5⟩
                  go_wp2_with fail
                  go_ret
                  exact ⟨by simp [takeE, hq, h62, ht], tb, by rw [show takeA (⟨sz, num, M, K, af, tbl, dn, enn, false, R⟩ : Wa) k 5 t ct B Af = cutA (⟨sz, num, M, K, af, tbl, dn, enn, false, R⟩ : Wa) k B by simp [takeA, hq, h62, ht]]; exact hw5, (Tur.of_below (HB.out.drew.drew)).trans ht5.out (Fre.refl _ _), .inl rfl⟩
            · have h32 : (ek == 3) = false := by simpa using h3
              have h42 : (ek == 4) = false := by simpa using h4
              have h52 : (ek == 5) = false := by simpa using h5
              go_enter Tryd.func19, Tryd.ntmps19
              go_wp2_with fail
              refine (HO.out _ (Below.refl _ _)).mono ?_
              rintro e w1 ⟨rfl, rfl⟩
              go_wp2_with fail
              go_region
              all_goals
                go_wp2_with fail
                go_region
                all_goals
                  go_wp2_with fail
                  go_ret
                  exact ⟨by simp [takeE, hq, h62, ht, h3, h4, h5], tb, by rw [show takeA (⟨sz, num, M, K, af, tbl, dn, enn, false, R⟩ : Wa) k ek t ct B Af = (⟨sz, num, M, K, af, tbl, dn, enn, false, R⟩ : Wa) by simp [takeA, hq, h62, ht, h3, h4, h5]]; exact HW0.out.below ((Below.refl _ _).drew.drew), Tur.of_below (HB.out.drew.drew), .inl rfl⟩
end Go.Proofs.YtcdjeibcnkpadaaDoor
