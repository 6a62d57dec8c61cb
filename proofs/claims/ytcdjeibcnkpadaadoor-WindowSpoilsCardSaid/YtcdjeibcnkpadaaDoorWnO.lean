/-
  A window is opened.
-/
import Derived.Test.YtcdjeibcnkpadaaDoorWnS
namespace Go.Proofs.YtcdjeibcnkpadaaDoor
open Go.RowKit Go.Maps Dg
set_option maxRecDepth 100000
set_option linter.unusedVariables false
/-- May it be opened so? -/
def argF (a : Wa) (num : Int) (tn : ByteArray) (M : List Cl) (K : Int) (L : List (List Vl)) : Bool := !decide (num < 0) && nameF tn && smayF M K && !decide (a.sz < (L.length : Int))
def openE (a : Wa) (num : Int) (tn : ByteArray) (M : List Cl) (K : Int) (af : ByteArray) (L : List (List Vl)) : Int :=
  if (a.num != -1) = true then 14 else if argF a num tn M K L = false then 1 else if stdF M K.toNat af L = false then 1 else 0
/-- A window that is opened. -/
def opA (a : Wa) (num : Int) (tn : ByteArray) (M : List Cl) (K : Int) (af : ByteArray) (L : List (List Vl)) : Wa :=
  ⟨a.sz, num, M, K, af, tn, decide ((L.length : Int) < a.sz), if (L.length : Int) < a.sz then ⟨#[]⟩ else lastK K.toNat af L, a.sp, keyed K.toNat L⟩
def openA (a : Wa) (num : Int) (tn : ByteArray) (M : List Cl) (K : Int) (af : ByteArray) (L : List (List Vl)) : Wa :=
  if openE a num tn M K af L = 0 then opA a num tn M K af L else a
set_option maxHeartbeats 4000000 in
theorem wopn_any {lo b tb : Nat} {w : World} {a : Wa} (h : WinA lo b tb w a) (h0 : 1 ≤ a.sz) (h1 : a.sz ≤ 9223372036854775807) (num : Int) (tn : ByteArray) (A : Option Addr) (M : List Cl) (n c : Nat) (K : Int) (af : ByteArray) (Ar : Option Addr) (nr cr : Nat) (S : List Sl) (L : List (List Vl))
    (htn : tn.size ≤ 140737488355328) (hA : ClAt w A n c M) (hn9 : n ≤ 900) (hA0 : A = none → c = 0) (hMf : ∀ x ∈ M, x.fit) (hR : RsIn w Ar nr cr S L) (hT : Tabs w) (hz : nr ≤ 89000) (hlo : lo ≤ w.heap.size) :
    Calls Tryd.prog 11 #[.pointer (some ⟨b, 0, none⟩), .int .i64 num, .agg #[.string tn, .slice A n c, .int .i64 K], .string af, .slice Ar nr cr] w fun e w' => e = .returned (.int .i64 (openE a num tn M K af L)) ∧ ∃ tb', Hid (WinA lo b tb' w' (openA a num tn M K af L)) ∧ Hid (Tur [b] w w') ∧ Hid (tb' = tb ∨ w.heap.size ≤ tb') := by
  obtain ⟨w0, hw0⟩ : ∃ W, w.alloc (.cells #[.string tn, .slice A n c, .int .i64 K] 26) = W := ⟨_, rfl⟩
  have HB : Hid (Below w.heap.size w w0) := by rw [← hw0]; exact (Below.refl _ w).alloc (Nat.le_refl _) _
  have HE : Hid (Has w0 w.heap.size 26 #[.string tn, .slice A n c, .int .i64 K]) := by rw [← hw0]; exact Has.new _ _ _
  have HW0 := Lib.hid (h.below HB.out)
  obtain ⟨Aw, nw, cw, T, HW⟩ := id HW0.out
  obtain ⟨sz, wnum, wM, wK, waf, wtbl, wdn, wen, wsp, wR⟩ := a
  dsimp only at h0 h1 HW HW0 h ⊢
  have HO := Lib.hid (wopen_any HW)
  have HH := Lib.hid HW.top
  dsimp only [Wn.cells] at HH HO
  have e0 : w0.cell? ⟨w.heap.size, 0, none⟩ = some (.string tn) := HE.out.cell 0
  have e1 : w0.cell? ⟨w.heap.size, 1, none⟩ = some (.slice A n c) := HE.out.cell 1
  have e2 : w0.cell? ⟨w.heap.size, 2, none⟩ = some (.int .i64 K) := HE.out.cell 2
  have m0 : w0.cell? ⟨b, 0, none⟩ = some (.int .i64 sz) := HH.out.cell 0
  cases hq : (wnum != -1) with
  | true =>
    rw [hq] at HO
    have hoe : openE ⟨sz, wnum, wM, wK, waf, wtbl, wdn, wen, wsp, wR⟩ num tn M K af L = 14 := by simp only [openE]; rw [if_pos hq]
    have hoa : openA ⟨sz, wnum, wM, wK, waf, wtbl, wdn, wen, wsp, wR⟩ num tn M K af L = ⟨sz, wnum, wM, wK, waf, wtbl, wdn, wen, wsp, wR⟩ := by unfold openA; rw [hoe]; rfl
    rw [hoe, hoa]
    clear hoe hoa
    go_enter Tryd.func11, Tryd.ntmps11
    go_wp2_with fail
    refine HO.out.mono ?_
    rintro e w1 ⟨rfl, rfl⟩
    go_wp2_with fail
    go_ret
    exact ⟨rfl, tb, HW0.out, Tur.of_below HB.out, .inl rfl⟩
  | false =>
    rw [hq] at HO
    obtain ⟨aa, haa⟩ : ∃ aa : Wa, aa = ⟨sz, wnum, wM, wK, waf, wtbl, wdn, wen, wsp, wR⟩ := ⟨_, rfl⟩
    have HAA : Hid (aa.sz = sz ∧ aa.num = wnum ∧ aa.sp = wsp) := by rw [haa]; exact ⟨rfl, rfl, rfl⟩
    have HE1 : Hid (argF aa num tn M K L = false → openE aa num tn M K af L = 1 ∧ openA aa num tn M K af L = aa) := by
      intro hf
      have h1 : openE aa num tn M K af L = 1 := by unfold openE; rw [HAA.out.2.1, hq, hf]; rfl
      exact ⟨h1, by unfold openA; rw [h1]; rfl⟩
    have HE2 : Hid (argF aa num tn M K L = true → stdF M K.toNat af L = false → openE aa num tn M K af L = 1 ∧ openA aa num tn M K af L = aa) := by
      intro hf hs
      have h1 : openE aa num tn M K af L = 1 := by unfold openE; rw [HAA.out.2.1, hq, hf, hs]; rfl
      exact ⟨h1, by unfold openA; rw [h1]; rfl⟩
    have HE3 : Hid (argF aa num tn M K L = true → stdF M K.toNat af L = true → openE aa num tn M K af L = 0 ∧ openA aa num tn M K af L = opA aa num tn M K af L) := by
      intro hf hs
      have h1 : openE aa num tn M K af L = 0 := by unfold openE; rw [HAA.out.2.1, hq, hf, hs]; rfl
      exact ⟨h1, by unfold openA; rw [h1]; rfl⟩
    rw [← haa] at HW0 h ⊢
    have HN := Lib.hid (fun (W : World) => name_any tn W htn)
    have HM := Lib.hid (fun (W : World) (hb : Below w.heap.size w W) => smay_any A M n c K W hA.len (by omega) (hA.row.below hb) hMf)
    have HLn := Lib.hid hR.many
    by_cases hneg : num < 0
    · have hd : decide (num < 0) = true := by simp [hneg]
      have hf := HE1.out (by unfold argF; rw [hd]; rfl)
      rw [hf.1, hf.2]
      clear hf HE1 HE2 HE3
      go_enter Tryd.func11, Tryd.ntmps11
      go_wp2_with fail
      refine HO.out.mono ?_
      rintro e w1 ⟨rfl, rfl⟩
      go_wp2_with fail
      go_ret
      exact ⟨rfl, tb, HW0.out, Tur.of_below HB.out, .inl rfl⟩
    · have hd : decide (num < 0) = false := by simp [hneg]
      cases hnm : nameF tn with
      | false =>
        rw [hnm] at HN
        have hf := HE1.out (by unfold argF; rw [hnm]; simp)
        rw [hf.1, hf.2]
        clear hf HE1 HE2 HE3
        go_enter Tryd.func11, Tryd.ntmps11
        go_wp2_with fail
        refine HO.out.mono ?_
        rintro e w1 ⟨rfl, rfl⟩
        go_wp2_with fail
        refine (HN.out _).mono ?_
        rintro e w2 ⟨rfl, hb2⟩
        go_wp2_with fail
        go_ret
        exact ⟨rfl, tb, HW0.out.below hb2.out, (Tur.of_below HB.out).trans (Tur.of_below hb2.out) (Fre.refl _ _), .inl rfl⟩
      | true =>
        rw [hnm] at HN
        cases hmy : smayF M K with
        | false =>
          rw [hmy] at HM
          have hf := HE1.out (by unfold argF; rw [hmy]; simp)
          rw [hf.1, hf.2]
          clear hf HE1 HE2 HE3
          go_enter Tryd.func11, Tryd.ntmps11
          go_wp2_with fail
          refine HO.out.mono ?_
          rintro e w1 ⟨rfl, rfl⟩
          go_wp2_with fail
          refine (HN.out _).mono ?_
          rintro e w2 ⟨rfl, hb2⟩
          have HE2b := Lib.hid (HE.out.below hb2.out HE.out.lt)
          have e1 : w2.cell? ⟨w.heap.size, 1, none⟩ = some (.slice A n c) := HE2b.out.cell 1
          have e2 : w2.cell? ⟨w.heap.size, 2, none⟩ = some (.int .i64 K) := HE2b.out.cell 2
          have HB02 : Hid (Below w1.heap.size w1 w2) := hb2.out
          clear hb2
          go_wp2_with fail
          refine (HM.out _ (HB.out.trans (HB02.out.mono HB.out.size))).mono ?_
          rintro e w3 ⟨rfl, hb3⟩
          have HB03 : Hid (Below w1.heap.size w1 w3) := HB02.out.trans (hb3.out.mono HB02.out.size)
          have HH3 := Lib.hid (HH.out.below HB03.out HH.out.lt)
          have HE3b := Lib.hid (HE.out.below HB03.out HE.out.lt)
          clear hb3 e1 e2
          go_wp2_with fail
          go_ret
          exact ⟨rfl, tb, HW0.out.below HB03.out, (Tur.of_below HB.out).trans (Tur.of_below HB03.out) (Fre.refl _ _), .inl rfl⟩
        | true =>
          rw [hmy] at HM
          obtain ⟨k, hK, hS⟩ := sch_of_may hmy
          subst hK
          rw [Int.toNat_natCast] at HE2 HE3
          by_cases hsz : sz < (nr : Int)
          · have hds : decide (sz < (nr : Int)) = true := by simp [hsz]
            have hf := HE1.out (by unfold argF; rw [HAA.out.1, HLn.out, hds]; simp)
            rw [hf.1, hf.2]
            clear hf HE1 HE2 HE3
            go_enter Tryd.func11, Tryd.ntmps11
            go_wp2_with fail
            refine HO.out.mono ?_
            rintro e w1 ⟨rfl, rfl⟩
            go_wp2_with fail
            refine (HN.out _).mono ?_
            rintro e w2 ⟨rfl, hb2⟩
            have HE2b := Lib.hid (HE.out.below hb2.out HE.out.lt)
            have e1 : w2.cell? ⟨w.heap.size, 1, none⟩ = some (.slice A n c) := HE2b.out.cell 1
            have e2 : w2.cell? ⟨w.heap.size, 2, none⟩ = some (.int .i64 k) := HE2b.out.cell 2
            have HB02 : Hid (Below w1.heap.size w1 w2) := hb2.out
            clear hb2
            go_wp2_with fail
            refine (HM.out _ (HB.out.trans (HB02.out.mono HB.out.size))).mono ?_
            rintro e w3 ⟨rfl, hb3⟩
            have HB03 : Hid (Below w1.heap.size w1 w3) := HB02.out.trans (hb3.out.mono HB02.out.size)
            have HH3 := Lib.hid (HH.out.below HB03.out HH.out.lt)
            have HE3b := Lib.hid (HE.out.below HB03.out HE.out.lt)
            clear hb3 e1 e2
            have m0 : w3.cell? ⟨b, 0, none⟩ = some (.int .i64 sz) := HH3.out.cell 0
            go_wp2_with fail
            go_ret
            exact ⟨rfl, tb, HW0.out.below HB03.out, (Tur.of_below HB.out).trans (Tur.of_below HB03.out) (Fre.refl _ _), .inl rfl⟩
          · have hds : decide (sz < (nr : Int)) = false := by simp [hsz]
            have hok : argF aa num tn M k L = true := by unfold argF; rw [HAA.out.1, HLn.out, hds, hd, hnm, hmy]; rfl
            have HST := Lib.hid (fun (W : World) (hb : Below w.heap.size w W) => stand_any A M n c k af Ar nr cr S L W hS (hA.below hb) (hR.below hb) (hT.below hb) hz)
            cases hst : stdF M k af L with
            | false =>
              have hf := HE2.out hok hst
              rw [hf.1, hf.2]
              clear hf HE1 HE2 HE3
              go_enter Tryd.func11, Tryd.ntmps11
              go_wp2_with fail
              refine HO.out.mono ?_
              rintro e w1 ⟨rfl, rfl⟩
              go_wp2_with fail
              refine (HN.out _).mono ?_
              rintro e w2 ⟨rfl, hb2⟩
              have HE2b := Lib.hid (HE.out.below hb2.out HE.out.lt)
              have e1 : w2.cell? ⟨w.heap.size, 1, none⟩ = some (.slice A n c) := HE2b.out.cell 1
              have e2 : w2.cell? ⟨w.heap.size, 2, none⟩ = some (.int .i64 k) := HE2b.out.cell 2
              have HB02 : Hid (Below w1.heap.size w1 w2) := hb2.out
              clear hb2
              go_wp2_with fail
              refine (HM.out _ (HB.out.trans (HB02.out.mono HB.out.size))).mono ?_
              rintro e w3 ⟨rfl, hb3⟩
              have HB03 : Hid (Below w1.heap.size w1 w3) := HB02.out.trans (hb3.out.mono HB02.out.size)
              have HH3 := Lib.hid (HH.out.below HB03.out HH.out.lt)
              have HE3b := Lib.hid (HE.out.below HB03.out HE.out.lt)
              clear hb3 e1 e2
              have m0 : w3.cell? ⟨b, 0, none⟩ = some (.int .i64 sz) := HH3.out.cell 0
              have e1 : w3.cell? ⟨w.heap.size, 1, none⟩ = some (.slice A n c) := HE3b.out.cell 1
              have e2 : w3.cell? ⟨w.heap.size, 2, none⟩ = some (.int .i64 k) := HE3b.out.cell 2
              go_wp2_with fail
              refine (HST.out _ (HB.out.trans (HB03.out.mono HB.out.size))).mono ?_
              rintro e w4 ⟨hb4, ⟨hs, tb4, T4, rfl, hT4, hR4, htb4⟩ | ⟨hs, rfl⟩⟩
              · rw [hst] at hs; cases hs
              · go_wp2_with fail
                go_ret
                exact ⟨rfl, tb, (HW0.out.below HB03.out).below hb4, ((Tur.of_below HB.out).trans (Tur.of_below HB03.out) (Fre.refl _ _)).trans (Tur.of_below hb4) (Fre.refl _ _), .inl rfl⟩
            | true =>
              have hf := HE3.out hok hst
              rw [hf.1, hf.2]
              clear hf HE1 HE2 HE3
              go_enter Tryd.func11, Tryd.ntmps11
              go_wp2_with fail
              refine HO.out.mono ?_
              rintro e w1 ⟨rfl, rfl⟩
              go_wp2_with fail
              refine (HN.out _).mono ?_
              rintro e w2 ⟨rfl, hb2⟩
              have HE2b := Lib.hid (HE.out.below hb2.out HE.out.lt)
              have e1 : w2.cell? ⟨w.heap.size, 1, none⟩ = some (.slice A n c) := HE2b.out.cell 1
              have e2 : w2.cell? ⟨w.heap.size, 2, none⟩ = some (.int .i64 k) := HE2b.out.cell 2
              have HB02 : Hid (Below w1.heap.size w1 w2) := hb2.out
              clear hb2
              go_wp2_with fail
              refine (HM.out _ (HB.out.trans (HB02.out.mono HB.out.size))).mono ?_
              rintro e w3 ⟨rfl, hb3⟩
              have HB03 : Hid (Below w1.heap.size w1 w3) := HB02.out.trans (hb3.out.mono HB02.out.size)
              have HH3 := Lib.hid (HH.out.below HB03.out HH.out.lt)
              have HE3b := Lib.hid (HE.out.below HB03.out HE.out.lt)
              clear hb3 e1 e2
              have m0 : w3.cell? ⟨b, 0, none⟩ = some (.int .i64 sz) := HH3.out.cell 0
              have e1 : w3.cell? ⟨w.heap.size, 1, none⟩ = some (.slice A n c) := HE3b.out.cell 1
              have e2 : w3.cell? ⟨w.heap.size, 2, none⟩ = some (.int .i64 k) := HE3b.out.cell 2
              go_wp2_with fail
              refine (HST.out _ (HB.out.trans (HB03.out.mono HB.out.size))).mono ?_
              rintro e w4 ⟨hb4, ⟨hs, tb4, T4, rfl, hT4, hR4, htb4⟩ | ⟨hs, rfl⟩⟩
              rotate_left
              · rw [hst] at hs; cases hs
              · have HB4 : Hid (Below w3.heap.size w3 w4) := hb4
                have HT4 := Lib.hid hT4
                have HR4 := Lib.hid hR4
                clear hb4 hT4 hR4 e1 e2 m0
                have HH4 := Lib.hid (HH3.out.below HB4.out HH3.out.lt)
                have HE4 := Lib.hid (HE3b.out.below HB4.out HE3b.out.lt)
                have e0 : w4.cell? ⟨w.heap.size, 0, none⟩ = some (.string tn) := HE4.out.cell 0
                have e1 : w4.cell? ⟨w.heap.size, 1, none⟩ = some (.slice A n c) := HE4.out.cell 1
                have e2 : w4.cell? ⟨w.heap.size, 2, none⟩ = some (.int .i64 k) := HE4.out.cell 2
                have m0 : w4.cell? ⟨b, 0, none⟩ = some (.int .i64 sz) := HH4.out.cell 0
                have HC := Lib.hid (clone4_any A M n c k w4 hA.len hn9 (((hA.below HB.out).below HB03.out).below HB4.out).row hA0)
                go_wp2_with fail
                refine HC.out.mono ?_
                rintro e w5 ⟨v, rfl, ho, hb5⟩
                obtain ⟨A8, n8, c8, rfl, _, _, _, _, _⟩ := ownC_open ho.out
                have HO5 : Hid (OwnC w4.heap.size w5 (.slice A8 n8 c8) M) := ho
                have HB5 : Hid (Below w4.heap.size w4 w5) := hb5
                have HH5 := Lib.hid (HH4.out.below HB5.out HH4.out.lt)
                have HE5 := Lib.hid (HE4.out.below HB5.out HE4.out.lt)
                have HT5 := Lib.hid (HT4.out.below HB5.out)
                have HR5 := Lib.hid (HR4.out.below HB5.out)
                clear ho hb5 e0 e1 e2 m0
                have e0 : w5.cell? ⟨w.heap.size, 0, none⟩ = some (.string tn) := HE5.out.cell 0
                have m0 : w5.cell? ⟨b, 0, none⟩ = some (.int .i64 sz) := HH5.out.cell 0
                have m1 : w5.cell? ⟨b, 1, none⟩ = some (.int .i64 wnum) := HH5.out.cell 1
                have m2 : w5.cell? ⟨b, 2, none⟩ = some (.slice Aw nw cw) := HH5.out.cell 2
                have m3 : w5.cell? ⟨b, 3, none⟩ = some (.int .i64 wK) := HH5.out.cell 3
                have m4 : w5.cell? ⟨b, 4, none⟩ = some (.string waf) := HH5.out.cell 4
                have m5 : w5.cell? ⟨b, 5, none⟩ = some (.string wtbl) := HH5.out.cell 5
                have m6 : w5.cell? ⟨b, 6, none⟩ = some (.bool wdn) := HH5.out.cell 6
                have m7 : w5.cell? ⟨b, 7, none⟩ = some (.string wen) := HH5.out.cell 7
                have m8 : w5.cell? ⟨b, 8, none⟩ = some (.pointer (some ⟨tb, 0, none⟩)) := HH5.out.cell 8
                have f1 := HH5.out.free 1
                have f2 := HH5.out.free 2
                have f3 := HH5.out.free 3
                have f4 := HH5.out.free 4
                have f5 := HH5.out.free 5
                have f6 := HH5.out.free 6
                have f7 := HH5.out.free 7
                have f8 := HH5.out.free 8
                have hbne : b ≠ w.heap.size := fun e => by have := HH5.out; rw [e] at this; exact absurd (this.two HE5.out).1 (by decide)
                have hDone : ∀ q, decide ((nr : Int) < sz) = q → decide ((L.length : Int) < sz) = q := fun q h => by rw [HLn.out]; exact h
                by_cases hds2 : (nr : Int) < sz
                · have hdd : decide ((nr : Int) < sz) = true := by simp [hds2]
                  go_wp2_with fail
                  have p1 : Has (w5.setCell ⟨b, 1, none⟩ (.int .i64 num)) b 81 #[.int .i64 sz, .int .i64 num, .slice Aw nw cw, .int .i64 wK, .string waf, .string wtbl, .bool wdn, .string wen, .pointer (some ⟨tb, 0, none⟩), .bool wsp] := HH5.out.put 1 _
                  have p2 : Has ((w5.setCell ⟨b, 1, none⟩ (.int .i64 num)).setCell ⟨b, 2, none⟩ (.slice A8 n8 c8)) b 81 #[.int .i64 sz, .int .i64 num, .slice A8 n8 c8, .int .i64 wK, .string waf, .string wtbl, .bool wdn, .string wen, .pointer (some ⟨tb, 0, none⟩), .bool wsp] := p1.put 2 _
                  have p3 : Has (((w5.setCell ⟨b, 1, none⟩ (.int .i64 num)).setCell ⟨b, 2, none⟩ (.slice A8 n8 c8)).setCell ⟨b, 3, none⟩ (.int .i64 k)) b 81 #[.int .i64 sz, .int .i64 num, .slice A8 n8 c8, .int .i64 k, .string waf, .string wtbl, .bool wdn, .string wen, .pointer (some ⟨tb, 0, none⟩), .bool wsp] := p2.put 3 _
                  have p4 : Has ((((w5.setCell ⟨b, 1, none⟩ (.int .i64 num)).setCell ⟨b, 2, none⟩ (.slice A8 n8 c8)).setCell ⟨b, 3, none⟩ (.int .i64 k)).setCell ⟨b, 4, none⟩ (.string af)) b 81 #[.int .i64 sz, .int .i64 num, .slice A8 n8 c8, .int .i64 k, .string af, .string wtbl, .bool wdn, .string wen, .pointer (some ⟨tb, 0, none⟩), .bool wsp] := p3.put 4 _
                  have p5 : Has (((((w5.setCell ⟨b, 1, none⟩ (.int .i64 num)).setCell ⟨b, 2, none⟩ (.slice A8 n8 c8)).setCell ⟨b, 3, none⟩ (.int .i64 k)).setCell ⟨b, 4, none⟩ (.string af)).setCell ⟨b, 8, none⟩ (.pointer (some ⟨tb4, 0, none⟩))) b 81 #[.int .i64 sz, .int .i64 num, .slice A8 n8 c8, .int .i64 k, .string af, .string wtbl, .bool wdn, .string wen, .pointer (some ⟨tb4, 0, none⟩), .bool wsp] := p4.put 8 _
                  have hu5 : Tur [b] w5 (((((w5.setCell ⟨b, 1, none⟩ (.int .i64 num)).setCell ⟨b, 2, none⟩ (.slice A8 n8 c8)).setCell ⟨b, 3, none⟩ (.int .i64 k)).setCell ⟨b, 4, none⟩ (.string af)).setCell ⟨b, 8, none⟩ (.pointer (some ⟨tb4, 0, none⟩))) := (((((Tur.setCell w5 (p := ⟨b, 1, none⟩) (by simp) _).trans (Tur.setCell _ (p := ⟨b, 2, none⟩) (by simp) _) (Fre.refl _ _)).trans (Tur.setCell _ (p := ⟨b, 3, none⟩) (by simp) _) (Fre.refl _ _)).trans (Tur.setCell _ (p := ⟨b, 4, none⟩) (by simp) _) (Fre.refl _ _)).trans (Tur.setCell _ (p := ⟨b, 8, none⟩) (by simp) _) (Fre.refl _ _))
                  obtain ⟨W6, hW6⟩ : ∃ W6, W6 = (((((w5.setCell ⟨b, 1, none⟩ (.int .i64 num)).setCell ⟨b, 2, none⟩ (.slice A8 n8 c8)).setCell ⟨b, 3, none⟩ (.int .i64 k)).setCell ⟨b, 4, none⟩ (.string af)).setCell ⟨b, 8, none⟩ (.pointer (some ⟨tb4, 0, none⟩))) := ⟨_, rfl⟩
                  rw [← hW6] at p5 hu5 ⊢
                  clear hW6 p1 p2 p3 p4
                  have HH6 := Lib.hid p5
                  have HU6 := Lib.hid hu5
                  have HE6 := Lib.hid (HE5.out.tur hu5 (by simp; exact Ne.symm hbne))
                  clear p5 hu5 e0 m0 m1 m2 m3 m4 m5 m6 m7 m8 f1 f2 f3 f4 f5 f6 f7 f8
                  have e0 : W6.cell? ⟨w.heap.size, 0, none⟩ = some (.string tn) := HE6.out.cell 0
                  have m0 : W6.cell? ⟨b, 0, none⟩ = some (.int .i64 sz) := HH6.out.cell 0
                  have m5 : W6.cell? ⟨b, 5, none⟩ = some (.string wtbl) := HH6.out.cell 5
                  have m6 : W6.cell? ⟨b, 6, none⟩ = some (.bool wdn) := HH6.out.cell 6
                  have m7 : W6.cell? ⟨b, 7, none⟩ = some (.string wen) := HH6.out.cell 7
                  have f5 := HH6.out.free 5
                  have f6 := HH6.out.free 6
                  have f7 := HH6.out.free 7
                  have q1 : Has (W6.setCell ⟨b, 5, none⟩ (.string tn)) b 81 #[.int .i64 sz, .int .i64 num, .slice A8 n8 c8, .int .i64 k, .string af, .string tn, .bool wdn, .string wen, .pointer (some ⟨tb4, 0, none⟩), .bool wsp] := HH6.out.put 5 _
                  have q2 : Has ((W6.setCell ⟨b, 5, none⟩ (.string tn)).setCell ⟨b, 6, none⟩ (.bool true)) b 81 #[.int .i64 sz, .int .i64 num, .slice A8 n8 c8, .int .i64 k, .string af, .string tn, .bool true, .string wen, .pointer (some ⟨tb4, 0, none⟩), .bool wsp] := q1.put 6 _
                  have q3 : Has (((W6.setCell ⟨b, 5, none⟩ (.string tn)).setCell ⟨b, 6, none⟩ (.bool true)).setCell ⟨b, 7, none⟩ (.string ⟨#[]⟩)) b 81 #[.int .i64 sz, .int .i64 num, .slice A8 n8 c8, .int .i64 k, .string af, .string tn, .bool true, .string ⟨#[]⟩, .pointer (some ⟨tb4, 0, none⟩), .bool wsp] := q2.put 7 _
                  have hu7 : Tur [b] W6 (((W6.setCell ⟨b, 5, none⟩ (.string tn)).setCell ⟨b, 6, none⟩ (.bool true)).setCell ⟨b, 7, none⟩ (.string ⟨#[]⟩)) := (((Tur.setCell W6 (p := ⟨b, 5, none⟩) (by simp) _).trans (Tur.setCell _ (p := ⟨b, 6, none⟩) (by simp) _) (Fre.refl _ _)).trans (Tur.setCell _ (p := ⟨b, 7, none⟩) (by simp) _) (Fre.refl _ _))
                  have e7 : (((W6.setCell ⟨b, 5, none⟩ (.string tn)).setCell ⟨b, 6, none⟩ (.bool true)).setCell ⟨b, 7, none⟩ (.string ⟨#[]⟩)).cell? ⟨w.heap.size, 0, none⟩ = some (.string tn) := (HE6.out.tur hu7 (by simp; exact Ne.symm hbne)).cell 0
                  have m07 : (((W6.setCell ⟨b, 5, none⟩ (.string tn)).setCell ⟨b, 6, none⟩ (.bool true)).setCell ⟨b, 7, none⟩ (.string ⟨#[]⟩)).cell? ⟨b, 0, none⟩ = some (.int .i64 sz) := q3.cell 0
                  have HH7a := Lib.hid q3
                  have HU7a := Lib.hid hu7
                  clear q1 q2 q3 hu7
                  refine wp_region_held_drew (S := fun X => X.cell? ⟨w.heap.size, 0, none⟩ = some (.string tn) ∧ X.cell? ⟨b, 0, none⟩ = some (.int .i64 sz)) (by kernel_rfl) (by exact ⟨e0, m0⟩) (fun _ => ?_)
                  (refine wpAnyH_take (i := 0) (v := ?_) rfl (by kernel_rfl) (by kernel_rfl) (by kernel_rfl) (fun _ _ _ h => h) (Or.inl ⟨by rfl, ?_⟩) (by assumption) ?_; rotate_left; (intro w hSw; (try dsimp only at hSw); go_simp; try with_reducible rfl); ((try simp only [List.getElem_toArray]); (try simp only [List.getElem_cons_succ]); (try simp only [List.getElem_cons_zero]); (try simp only [Act.put]); (try simp only [List.setIfInBounds_toArray]); (try simp only [List.set_cons_succ]); (try simp only [List.set_cons_zero])))
                  (refine wpAnyH_take (i := 1) (v := ?_) rfl (by kernel_rfl) (by kernel_rfl) (by kernel_rfl) (fun _ _ _ h => h) (Or.inl ⟨by rfl, ?_⟩) (by assumption) ?_; rotate_left; (intro w hSw; (try dsimp only at hSw); go_simp; try with_reducible rfl); ((try simp only [List.getElem_toArray]); (try simp only [List.getElem_cons_succ]); (try simp only [List.getElem_cons_zero]); (try simp only [Act.put]); (try simp only [List.setIfInBounds_toArray]); (try simp only [List.set_cons_succ]); (try simp only [List.set_cons_zero])))
                  (refine wpAnyH_take (i := 2) (v := ?_) rfl (by kernel_rfl) (by kernel_rfl) (by kernel_rfl) (fun _ _ _ h => h) (Or.inl ⟨by rfl, ?_⟩) (by assumption) ?_; rotate_left; (intro w hSw; (try dsimp only at hSw); go_simp; try with_reducible rfl); ((try simp only [List.getElem_toArray]); (try simp only [List.getElem_cons_succ]); (try simp only [List.getElem_cons_zero]); (try simp only [Act.put]); (try simp only [List.setIfInBounds_toArray]); (try simp only [List.set_cons_succ]); (try simp only [List.set_cons_zero])))
                  (refine wpAnyH_take (i := 3) (v := ?_) rfl (by kernel_rfl) (by kernel_rfl) (by kernel_rfl) (fun _ _ _ h => h) (Or.inl ⟨by rfl, ?_⟩) (by assumption) ?_; rotate_left; (intro w hSw; (try dsimp only at hSw); go_simp; try with_reducible rfl); ((try simp only [List.getElem_toArray]); (try simp only [List.getElem_cons_succ]); (try simp only [List.getElem_cons_zero]); (try simp only [Act.put]); (try simp only [List.setIfInBounds_toArray]); (try simp only [List.set_cons_succ]); (try simp only [List.set_cons_zero])))
                  (refine wpAnyH_take (i := 4) (v := ?_) rfl (by kernel_rfl) (by kernel_rfl) (by kernel_rfl) (fun _ _ _ h => h) (Or.inl ⟨by rfl, ?_⟩) (by assumption) ?_; rotate_left; (intro w hSw; (try dsimp only at hSw); go_simp; try with_reducible rfl); ((try simp only [List.getElem_toArray]); (try simp only [List.getElem_cons_succ]); (try simp only [List.getElem_cons_zero]); (try simp only [Act.put]); (try simp only [List.setIfInBounds_toArray]); (try simp only [List.set_cons_succ]); (try simp only [List.set_cons_zero])))
                  (refine wpAnyH_take (i := 5) (v := ?_) rfl (by kernel_rfl) (by kernel_rfl) (by kernel_rfl) (fun _ _ _ h => h) (Or.inl ⟨by rfl, ?_⟩) (by assumption) ?_; rotate_left; (intro w hSw; (try dsimp only at hSw); go_simp; try with_reducible rfl); ((try simp only [List.getElem_toArray]); (try simp only [List.getElem_cons_succ]); (try simp only [List.getElem_cons_zero]); (try simp only [Act.put]); (try simp only [List.setIfInBounds_toArray]); (try simp only [List.set_cons_succ]); (try simp only [List.set_cons_zero])))
                  (refine wpAnyH_take (i := 6) (v := ?_) rfl (by kernel_rfl) (by kernel_rfl) (by kernel_rfl) (fun _ _ _ h => h) (Or.inl ⟨by rfl, ?_⟩) (by assumption) ?_; rotate_left; (intro w hSw; (try dsimp only at hSw); go_simp; try with_reducible rfl); ((try simp only [List.getElem_toArray]); (try simp only [List.getElem_cons_succ]); (try simp only [List.getElem_cons_zero]); (try simp only [Act.put]); (try simp only [List.setIfInBounds_toArray]); (try simp only [List.set_cons_succ]); (try simp only [List.set_cons_zero])))
                  (refine wpAnyH_take (i := 7) (v := ?_) rfl (by kernel_rfl) (by kernel_rfl) (by kernel_rfl) (fun _ _ _ h => h) (Or.inl ⟨by rfl, ?_⟩) (by assumption) ?_; rotate_left; (intro w hSw; (try dsimp only at hSw); go_simp; try with_reducible rfl); ((try simp only [List.getElem_toArray]); (try simp only [List.getElem_cons_succ]); (try simp only [List.getElem_cons_zero]); (try simp only [Act.put]); (try simp only [List.setIfInBounds_toArray]); (try simp only [List.set_cons_succ]); (try simp only [List.set_cons_zero])))
                  (refine wpAnyH_take (i := 8) (v := ?_) rfl (by kernel_rfl) (by kernel_rfl) (by kernel_rfl) (fun _ _ _ h => h) (Or.inl ⟨by rfl, ?_⟩) (by assumption) ?_; rotate_left; (intro w hSw; (try dsimp only at hSw); go_simp; try with_reducible rfl); ((try simp only [List.getElem_toArray]); (try simp only [List.getElem_cons_succ]); (try simp only [List.getElem_cons_zero]); (try simp only [Act.put]); (try simp only [List.setIfInBounds_toArray]); (try simp only [List.set_cons_succ]); (try simp only [List.set_cons_zero])))
                  (refine wpAnyH_take (i := 9) (v := ?_) rfl (by kernel_rfl) (by kernel_rfl) (by kernel_rfl) (fun _ _ _ h => h) (Or.inl ⟨by rfl, ?_⟩) (by assumption) ?_; rotate_left; (intro w hSw; (try dsimp only at hSw); go_simp; try with_reducible rfl); ((try simp only [List.getElem_toArray]); (try simp only [List.getElem_cons_succ]); (try simp only [List.getElem_cons_zero]); (try simp only [Act.put]); (try simp only [List.setIfInBounds_toArray]); (try simp only [List.set_cons_succ]); (try simp only [List.set_cons_zero])))
                  (refine wpAnyH_take (i := 10) (v := ?_) rfl (by kernel_rfl) (by kernel_rfl) (by kernel_rfl) (fun _ _ _ h => h) (Or.inl ⟨by rfl, ?_⟩) (by assumption) ?_; rotate_left; (intro w hSw; (try dsimp only at hSw); go_simp; try with_reducible rfl); ((try simp only [List.getElem_toArray]); (try simp only [List.getElem_cons_succ]); (try simp only [List.getElem_cons_zero]); (try simp only [Act.put]); (try simp only [List.setIfInBounds_toArray]); (try simp only [List.set_cons_succ]); (try simp only [List.set_cons_zero])))
                  (refine wpAnyH_take (i := 11) (v := ?_) rfl (by kernel_rfl) (by kernel_rfl) (by kernel_rfl) (fun _ _ _ h => h) (Or.inl ⟨by rfl, ?_⟩) (by assumption) ?_; rotate_left; (intro w hSw; (try dsimp only at hSw); go_simp; try with_reducible rfl); ((try simp only [List.getElem_toArray]); (try simp only [List.getElem_cons_succ]); (try simp only [List.getElem_cons_zero]); (try simp only [Act.put]); (try simp only [List.setIfInBounds_toArray]); (try simp only [List.set_cons_succ]); (try simp only [List.set_cons_zero])))
                  (refine wpAnyH_take (i := 12) (v := ?_) rfl (by kernel_rfl) (by kernel_rfl) (by kernel_rfl) (fun _ _ _ h => h) (Or.inl ⟨by rfl, ?_⟩) (by assumption) ?_; rotate_left; (intro w hSw; (try dsimp only at hSw); go_simp; try with_reducible rfl); ((try simp only [List.getElem_toArray]); (try simp only [List.getElem_cons_succ]); (try simp only [List.getElem_cons_zero]); (try simp only [Act.put]); (try simp only [List.setIfInBounds_toArray]); (try simp only [List.set_cons_succ]); (try simp only [List.set_cons_zero])))
                  refine wpAnyH_ready (rs := [13]) (by kernel_rfl) (by simp) ?_
                  refine AllReadyH.cons rfl (fun K2 hK2 => ?_) AllReadyH.nil
                  go_simp
                  refine hK2.out _ _ (by exact ⟨e7, m07⟩) (fun _ => ?_)
                  clear hK2 K2
                  (try simp only [List.getElem_toArray]); (try simp only [List.getElem_cons_succ]); (try simp only [List.getElem_cons_zero]); (try simp only [Act.put]); (try simp only [List.setIfInBounds_toArray]); (try simp only [List.set_cons_succ]); (try simp only [List.set_cons_zero])
                  refine wpAnyH_done (by kernel_rfl) ?_ _
                  obtain ⟨W7, hW7⟩ : ∃ W7, W7 = ((((W6.setCell ⟨b, 5, none⟩ (.string tn)).setCell ⟨b, 6, none⟩ (.bool true)).setCell ⟨b, 7, none⟩ (.string ⟨#[]⟩))).drew := ⟨_, rfl⟩
                  have HH7 : Hid (Has W7 b 81 (Wn.cells ⟨sz, num, A8, n8, c8, M, k, af, tn, true, ⟨#[]⟩, tb4, T4, wsp, keyed k L⟩)) := by rw [hW7]; exact HH7a.out
                  have HU7 : Hid (Tur [b] w5 W7) := by rw [hW7]; exact HU6.out.trans (⟨HU7a.out.os, HU7a.out.tape, HU7a.out.output, HU7a.out.size, HU7a.out.block⟩) (Fre.refl _ _)
                  rw [← hW7]
                  clear hW7 HH7a HU7a e7 m07 e0 m0 m5 m6 m7 f5 f6 f7
                  have hXc : ∀ z ∈ [b], ∃ t cs, Has w5 z t cs ∧ t ≠ 47 := fun z hz => by rw [List.mem_singleton.1 hz]; exact ⟨_, _, HH5.out, by decide⟩
                  have hXv : ∀ z ∈ [b], ∃ t cs, Has w5 z t cs ∧ t ≠ 68 := fun z hz => by rw [List.mem_singleton.1 hz]; exact ⟨_, _, HH5.out, by decide⟩
                  have hbt : b ≠ tb4 := fun e => by have := HH5.out; rw [e] at this; exact absurd (this.two HT5.out.top).1 (by decide)
                  have hXt : ∀ z ∈ [b], z ≠ tb4 ∧ ∃ t cs, Has w5 z t cs ∧ t ≠ 124 := fun z hz => by rw [List.mem_singleton.1 hz]; exact ⟨hbt, _, _, HH5.out, by decide⟩
                  have HUall : Hid (Tur [b] w W7) := ((((Tur.of_below HB.out).trans (Tur.of_below HB03.out) (Fre.refl _ _)).trans (Tur.of_below HB4.out) (Fre.refl _ _)).trans (Tur.of_below HB5.out) (Fre.refl _ _)).trans HU7.out (Fre.refl _ _)
                  have m76 : W7.cell? ⟨b, 6, none⟩ = some (.bool true) := HH7.out.cell 6
                  go_wp2_with fail
                  go_ret
                  refine ⟨rfl, tb4, ⟨A8, n8, c8, T4, ?_⟩, ?_, .inr (Nat.le_trans (Nat.le_trans HB.out.size HB03.out.size) htb4)⟩
                  · have hop : opA aa num tn M k af L = ⟨sz, num, M, k, af, tn, true, ⟨#[]⟩, wsp, keyed k L⟩ := by
                      unfold opA
                      rw [HAA.out.1, HAA.out.2.2, hDone true hdd, if_pos (by rw [HLn.out]; exact hds2), Int.toNat_natCast]
                    rw [hop]
                    exact ⟨HH7.out, ownC_down (HO5.out.turX HU7.out hXc) (Nat.le_trans hlo (Nat.le_trans HB.out.size (Nat.le_trans HB03.out.size HB4.out.size))), HT5.out.turY HU7.out hXt, (HR5.out.turX HU7.out hXv).lo (Nat.le_trans hlo (Nat.le_trans HB.out.size HB03.out.size))⟩
                  · exact HUall.out
                · have hdd : decide ((nr : Int) < sz) = false := by simp [hds2]
                  go_wp2_with fail
                  have p1 : Has (w5.setCell ⟨b, 1, none⟩ (.int .i64 num)) b 81 #[.int .i64 sz, .int .i64 num, .slice Aw nw cw, .int .i64 wK, .string waf, .string wtbl, .bool wdn, .string wen, .pointer (some ⟨tb, 0, none⟩), .bool wsp] := HH5.out.put 1 _
                  have p2 : Has ((w5.setCell ⟨b, 1, none⟩ (.int .i64 num)).setCell ⟨b, 2, none⟩ (.slice A8 n8 c8)) b 81 #[.int .i64 sz, .int .i64 num, .slice A8 n8 c8, .int .i64 wK, .string waf, .string wtbl, .bool wdn, .string wen, .pointer (some ⟨tb, 0, none⟩), .bool wsp] := p1.put 2 _
                  have p3 : Has (((w5.setCell ⟨b, 1, none⟩ (.int .i64 num)).setCell ⟨b, 2, none⟩ (.slice A8 n8 c8)).setCell ⟨b, 3, none⟩ (.int .i64 k)) b 81 #[.int .i64 sz, .int .i64 num, .slice A8 n8 c8, .int .i64 k, .string waf, .string wtbl, .bool wdn, .string wen, .pointer (some ⟨tb, 0, none⟩), .bool wsp] := p2.put 3 _
                  have p4 : Has ((((w5.setCell ⟨b, 1, none⟩ (.int .i64 num)).setCell ⟨b, 2, none⟩ (.slice A8 n8 c8)).setCell ⟨b, 3, none⟩ (.int .i64 k)).setCell ⟨b, 4, none⟩ (.string af)) b 81 #[.int .i64 sz, .int .i64 num, .slice A8 n8 c8, .int .i64 k, .string af, .string wtbl, .bool wdn, .string wen, .pointer (some ⟨tb, 0, none⟩), .bool wsp] := p3.put 4 _
                  have p5 : Has (((((w5.setCell ⟨b, 1, none⟩ (.int .i64 num)).setCell ⟨b, 2, none⟩ (.slice A8 n8 c8)).setCell ⟨b, 3, none⟩ (.int .i64 k)).setCell ⟨b, 4, none⟩ (.string af)).setCell ⟨b, 8, none⟩ (.pointer (some ⟨tb4, 0, none⟩))) b 81 #[.int .i64 sz, .int .i64 num, .slice A8 n8 c8, .int .i64 k, .string af, .string wtbl, .bool wdn, .string wen, .pointer (some ⟨tb4, 0, none⟩), .bool wsp] := p4.put 8 _
                  have hu5 : Tur [b] w5 (((((w5.setCell ⟨b, 1, none⟩ (.int .i64 num)).setCell ⟨b, 2, none⟩ (.slice A8 n8 c8)).setCell ⟨b, 3, none⟩ (.int .i64 k)).setCell ⟨b, 4, none⟩ (.string af)).setCell ⟨b, 8, none⟩ (.pointer (some ⟨tb4, 0, none⟩))) := (((((Tur.setCell w5 (p := ⟨b, 1, none⟩) (by simp) _).trans (Tur.setCell _ (p := ⟨b, 2, none⟩) (by simp) _) (Fre.refl _ _)).trans (Tur.setCell _ (p := ⟨b, 3, none⟩) (by simp) _) (Fre.refl _ _)).trans (Tur.setCell _ (p := ⟨b, 4, none⟩) (by simp) _) (Fre.refl _ _)).trans (Tur.setCell _ (p := ⟨b, 8, none⟩) (by simp) _) (Fre.refl _ _))
                  obtain ⟨W6, hW6⟩ : ∃ W6, W6 = (((((w5.setCell ⟨b, 1, none⟩ (.int .i64 num)).setCell ⟨b, 2, none⟩ (.slice A8 n8 c8)).setCell ⟨b, 3, none⟩ (.int .i64 k)).setCell ⟨b, 4, none⟩ (.string af)).setCell ⟨b, 8, none⟩ (.pointer (some ⟨tb4, 0, none⟩))) := ⟨_, rfl⟩
                  rw [← hW6] at p5 hu5 ⊢
                  clear hW6 p1 p2 p3 p4
                  have HH6 := Lib.hid p5
                  have HU6 := Lib.hid hu5
                  have HE6 := Lib.hid (HE5.out.tur hu5 (by simp; exact Ne.symm hbne))
                  clear p5 hu5 e0 m0 m1 m2 m3 m4 m5 m6 m7 m8 f1 f2 f3 f4 f5 f6 f7 f8
                  have e0 : W6.cell? ⟨w.heap.size, 0, none⟩ = some (.string tn) := HE6.out.cell 0
                  have m0 : W6.cell? ⟨b, 0, none⟩ = some (.int .i64 sz) := HH6.out.cell 0
                  have m5 : W6.cell? ⟨b, 5, none⟩ = some (.string wtbl) := HH6.out.cell 5
                  have m6 : W6.cell? ⟨b, 6, none⟩ = some (.bool wdn) := HH6.out.cell 6
                  have m7 : W6.cell? ⟨b, 7, none⟩ = some (.string wen) := HH6.out.cell 7
                  have f5 := HH6.out.free 5
                  have f6 := HH6.out.free 6
                  have f7 := HH6.out.free 7
                  have q1 : Has (W6.setCell ⟨b, 5, none⟩ (.string tn)) b 81 #[.int .i64 sz, .int .i64 num, .slice A8 n8 c8, .int .i64 k, .string af, .string tn, .bool wdn, .string wen, .pointer (some ⟨tb4, 0, none⟩), .bool wsp] := HH6.out.put 5 _
                  have q2 : Has ((W6.setCell ⟨b, 5, none⟩ (.string tn)).setCell ⟨b, 6, none⟩ (.bool false)) b 81 #[.int .i64 sz, .int .i64 num, .slice A8 n8 c8, .int .i64 k, .string af, .string tn, .bool false, .string wen, .pointer (some ⟨tb4, 0, none⟩), .bool wsp] := q1.put 6 _
                  have q3 : Has (((W6.setCell ⟨b, 5, none⟩ (.string tn)).setCell ⟨b, 6, none⟩ (.bool false)).setCell ⟨b, 7, none⟩ (.string ⟨#[]⟩)) b 81 #[.int .i64 sz, .int .i64 num, .slice A8 n8 c8, .int .i64 k, .string af, .string tn, .bool false, .string ⟨#[]⟩, .pointer (some ⟨tb4, 0, none⟩), .bool wsp] := q2.put 7 _
                  have hu7 : Tur [b] W6 (((W6.setCell ⟨b, 5, none⟩ (.string tn)).setCell ⟨b, 6, none⟩ (.bool false)).setCell ⟨b, 7, none⟩ (.string ⟨#[]⟩)) := (((Tur.setCell W6 (p := ⟨b, 5, none⟩) (by simp) _).trans (Tur.setCell _ (p := ⟨b, 6, none⟩) (by simp) _) (Fre.refl _ _)).trans (Tur.setCell _ (p := ⟨b, 7, none⟩) (by simp) _) (Fre.refl _ _))
                  have e7 : (((W6.setCell ⟨b, 5, none⟩ (.string tn)).setCell ⟨b, 6, none⟩ (.bool false)).setCell ⟨b, 7, none⟩ (.string ⟨#[]⟩)).cell? ⟨w.heap.size, 0, none⟩ = some (.string tn) := (HE6.out.tur hu7 (by simp; exact Ne.symm hbne)).cell 0
                  have m07 : (((W6.setCell ⟨b, 5, none⟩ (.string tn)).setCell ⟨b, 6, none⟩ (.bool false)).setCell ⟨b, 7, none⟩ (.string ⟨#[]⟩)).cell? ⟨b, 0, none⟩ = some (.int .i64 sz) := q3.cell 0
                  have HH7a := Lib.hid q3
                  have HU7a := Lib.hid hu7
                  clear q1 q2 q3 hu7
                  refine wp_region_held_drew (S := fun X => X.cell? ⟨w.heap.size, 0, none⟩ = some (.string tn) ∧ X.cell? ⟨b, 0, none⟩ = some (.int .i64 sz)) (by kernel_rfl) (by exact ⟨e0, m0⟩) (fun _ => ?_)
                  (refine wpAnyH_take (i := 0) (v := ?_) rfl (by kernel_rfl) (by kernel_rfl) (by kernel_rfl) (fun _ _ _ h => h) (Or.inl ⟨by rfl, ?_⟩) (by assumption) ?_; rotate_left; (intro w hSw; (try dsimp only at hSw); go_simp; try with_reducible rfl); ((try simp only [List.getElem_toArray]); (try simp only [List.getElem_cons_succ]); (try simp only [List.getElem_cons_zero]); (try simp only [Act.put]); (try simp only [List.setIfInBounds_toArray]); (try simp only [List.set_cons_succ]); (try simp only [List.set_cons_zero])))
                  (refine wpAnyH_take (i := 1) (v := ?_) rfl (by kernel_rfl) (by kernel_rfl) (by kernel_rfl) (fun _ _ _ h => h) (Or.inl ⟨by rfl, ?_⟩) (by assumption) ?_; rotate_left; (intro w hSw; (try dsimp only at hSw); go_simp; try with_reducible rfl); ((try simp only [List.getElem_toArray]); (try simp only [List.getElem_cons_succ]); (try simp only [List.getElem_cons_zero]); (try simp only [Act.put]); (try simp only [List.setIfInBounds_toArray]); (try simp only [List.set_cons_succ]); (try simp only [List.set_cons_zero])))
                  (refine wpAnyH_take (i := 2) (v := ?_) rfl (by kernel_rfl) (by kernel_rfl) (by kernel_rfl) (fun _ _ _ h => h) (Or.inl ⟨by rfl, ?_⟩) (by assumption) ?_; rotate_left; (intro w hSw; (try dsimp only at hSw); go_simp; try with_reducible rfl); ((try simp only [List.getElem_toArray]); (try simp only [List.getElem_cons_succ]); (try simp only [List.getElem_cons_zero]); (try simp only [Act.put]); (try simp only [List.setIfInBounds_toArray]); (try simp only [List.set_cons_succ]); (try simp only [List.set_cons_zero])))
                  (refine wpAnyH_take (i := 3) (v := ?_) rfl (by kernel_rfl) (by kernel_rfl) (by kernel_rfl) (fun _ _ _ h => h) (Or.inl ⟨by rfl, ?_⟩) (by assumption) ?_; rotate_left; (intro w hSw; (try dsimp only at hSw); go_simp; try with_reducible rfl); ((try simp only [List.getElem_toArray]); (try simp only [List.getElem_cons_succ]); (try simp only [List.getElem_cons_zero]); (try simp only [Act.put]); (try simp only [List.setIfInBounds_toArray]); (try simp only [List.set_cons_succ]); (try simp only [List.set_cons_zero])))
                  (refine wpAnyH_take (i := 4) (v := ?_) rfl (by kernel_rfl) (by kernel_rfl) (by kernel_rfl) (fun _ _ _ h => h) (Or.inl ⟨by rfl, ?_⟩) (by assumption) ?_; rotate_left; (intro w hSw; (try dsimp only at hSw); go_simp; try with_reducible rfl); ((try simp only [List.getElem_toArray]); (try simp only [List.getElem_cons_succ]); (try simp only [List.getElem_cons_zero]); (try simp only [Act.put]); (try simp only [List.setIfInBounds_toArray]); (try simp only [List.set_cons_succ]); (try simp only [List.set_cons_zero])))
                  (refine wpAnyH_take (i := 5) (v := ?_) rfl (by kernel_rfl) (by kernel_rfl) (by kernel_rfl) (fun _ _ _ h => h) (Or.inl ⟨by rfl, ?_⟩) (by assumption) ?_; rotate_left; (intro w hSw; (try dsimp only at hSw); go_simp; try with_reducible rfl); ((try simp only [List.getElem_toArray]); (try simp only [List.getElem_cons_succ]); (try simp only [List.getElem_cons_zero]); (try simp only [Act.put]); (try simp only [List.setIfInBounds_toArray]); (try simp only [List.set_cons_succ]); (try simp only [List.set_cons_zero])))
                  (refine wpAnyH_take (i := 6) (v := ?_) rfl (by kernel_rfl) (by kernel_rfl) (by kernel_rfl) (fun _ _ _ h => h) (Or.inl ⟨by rfl, ?_⟩) (by assumption) ?_; rotate_left; (intro w hSw; (try dsimp only at hSw); go_simp; try with_reducible rfl); ((try simp only [List.getElem_toArray]); (try simp only [List.getElem_cons_succ]); (try simp only [List.getElem_cons_zero]); (try simp only [Act.put]); (try simp only [List.setIfInBounds_toArray]); (try simp only [List.set_cons_succ]); (try simp only [List.set_cons_zero])))
                  (refine wpAnyH_take (i := 7) (v := ?_) rfl (by kernel_rfl) (by kernel_rfl) (by kernel_rfl) (fun _ _ _ h => h) (Or.inl ⟨by rfl, ?_⟩) (by assumption) ?_; rotate_left; (intro w hSw; (try dsimp only at hSw); go_simp; try with_reducible rfl); ((try simp only [List.getElem_toArray]); (try simp only [List.getElem_cons_succ]); (try simp only [List.getElem_cons_zero]); (try simp only [Act.put]); (try simp only [List.setIfInBounds_toArray]); (try simp only [List.set_cons_succ]); (try simp only [List.set_cons_zero])))
                  (refine wpAnyH_take (i := 8) (v := ?_) rfl (by kernel_rfl) (by kernel_rfl) (by kernel_rfl) (fun _ _ _ h => h) (Or.inl ⟨by rfl, ?_⟩) (by assumption) ?_; rotate_left; (intro w hSw; (try dsimp only at hSw); go_simp; try with_reducible rfl); ((try simp only [List.getElem_toArray]); (try simp only [List.getElem_cons_succ]); (try simp only [List.getElem_cons_zero]); (try simp only [Act.put]); (try simp only [List.setIfInBounds_toArray]); (try simp only [List.set_cons_succ]); (try simp only [List.set_cons_zero])))
                  (refine wpAnyH_take (i := 9) (v := ?_) rfl (by kernel_rfl) (by kernel_rfl) (by kernel_rfl) (fun _ _ _ h => h) (Or.inl ⟨by rfl, ?_⟩) (by assumption) ?_; rotate_left; (intro w hSw; (try dsimp only at hSw); go_simp; try with_reducible rfl); ((try simp only [List.getElem_toArray]); (try simp only [List.getElem_cons_succ]); (try simp only [List.getElem_cons_zero]); (try simp only [Act.put]); (try simp only [List.setIfInBounds_toArray]); (try simp only [List.set_cons_succ]); (try simp only [List.set_cons_zero])))
                  (refine wpAnyH_take (i := 10) (v := ?_) rfl (by kernel_rfl) (by kernel_rfl) (by kernel_rfl) (fun _ _ _ h => h) (Or.inl ⟨by rfl, ?_⟩) (by assumption) ?_; rotate_left; (intro w hSw; (try dsimp only at hSw); go_simp; try with_reducible rfl); ((try simp only [List.getElem_toArray]); (try simp only [List.getElem_cons_succ]); (try simp only [List.getElem_cons_zero]); (try simp only [Act.put]); (try simp only [List.setIfInBounds_toArray]); (try simp only [List.set_cons_succ]); (try simp only [List.set_cons_zero])))
                  (refine wpAnyH_take (i := 11) (v := ?_) rfl (by kernel_rfl) (by kernel_rfl) (by kernel_rfl) (fun _ _ _ h => h) (Or.inl ⟨by rfl, ?_⟩) (by assumption) ?_; rotate_left; (intro w hSw; (try dsimp only at hSw); go_simp; try with_reducible rfl); ((try simp only [List.getElem_toArray]); (try simp only [List.getElem_cons_succ]); (try simp only [List.getElem_cons_zero]); (try simp only [Act.put]); (try simp only [List.setIfInBounds_toArray]); (try simp only [List.set_cons_succ]); (try simp only [List.set_cons_zero])))
                  (refine wpAnyH_take (i := 12) (v := ?_) rfl (by kernel_rfl) (by kernel_rfl) (by kernel_rfl) (fun _ _ _ h => h) (Or.inl ⟨by rfl, ?_⟩) (by assumption) ?_; rotate_left; (intro w hSw; (try dsimp only at hSw); go_simp; try with_reducible rfl); ((try simp only [List.getElem_toArray]); (try simp only [List.getElem_cons_succ]); (try simp only [List.getElem_cons_zero]); (try simp only [Act.put]); (try simp only [List.setIfInBounds_toArray]); (try simp only [List.set_cons_succ]); (try simp only [List.set_cons_zero])))
                  refine wpAnyH_ready (rs := [13]) (by kernel_rfl) (by simp) ?_
                  refine AllReadyH.cons rfl (fun K2 hK2 => ?_) AllReadyH.nil
                  go_simp
                  refine hK2.out _ _ (by exact ⟨e7, m07⟩) (fun _ => ?_)
                  clear hK2 K2
                  (try simp only [List.getElem_toArray]); (try simp only [List.getElem_cons_succ]); (try simp only [List.getElem_cons_zero]); (try simp only [Act.put]); (try simp only [List.setIfInBounds_toArray]); (try simp only [List.set_cons_succ]); (try simp only [List.set_cons_zero])
                  refine wpAnyH_done (by kernel_rfl) ?_ _
                  obtain ⟨W7, hW7⟩ : ∃ W7, W7 = ((((W6.setCell ⟨b, 5, none⟩ (.string tn)).setCell ⟨b, 6, none⟩ (.bool false)).setCell ⟨b, 7, none⟩ (.string ⟨#[]⟩))).drew := ⟨_, rfl⟩
                  have HH7 : Hid (Has W7 b 81 (Wn.cells ⟨sz, num, A8, n8, c8, M, k, af, tn, false, ⟨#[]⟩, tb4, T4, wsp, keyed k L⟩)) := by rw [hW7]; exact HH7a.out
                  have HU7 : Hid (Tur [b] w5 W7) := by rw [hW7]; exact HU6.out.trans (⟨HU7a.out.os, HU7a.out.tape, HU7a.out.output, HU7a.out.size, HU7a.out.block⟩) (Fre.refl _ _)
                  rw [← hW7]
                  clear hW7 HH7a HU7a e7 m07 e0 m0 m5 m6 m7 f5 f6 f7
                  have hXc : ∀ z ∈ [b], ∃ t cs, Has w5 z t cs ∧ t ≠ 47 := fun z hz => by rw [List.mem_singleton.1 hz]; exact ⟨_, _, HH5.out, by decide⟩
                  have hXv : ∀ z ∈ [b], ∃ t cs, Has w5 z t cs ∧ t ≠ 68 := fun z hz => by rw [List.mem_singleton.1 hz]; exact ⟨_, _, HH5.out, by decide⟩
                  have hbt : b ≠ tb4 := fun e => by have := HH5.out; rw [e] at this; exact absurd (this.two HT5.out.top).1 (by decide)
                  have hXt : ∀ z ∈ [b], z ≠ tb4 ∧ ∃ t cs, Has w5 z t cs ∧ t ≠ 124 := fun z hz => by rw [List.mem_singleton.1 hz]; exact ⟨hbt, _, _, HH5.out, by decide⟩
                  have HUall : Hid (Tur [b] w W7) := ((((Tur.of_below HB.out).trans (Tur.of_below HB03.out) (Fre.refl _ _)).trans (Tur.of_below HB4.out) (Fre.refl _ _)).trans (Tur.of_below HB5.out) (Fre.refl _ _)).trans HU7.out (Fre.refl _ _)
                  have f77 := HH7.out.free 7
                  have m77 : W7.cell? ⟨b, 7, none⟩ = some (.string ⟨#[]⟩) := HH7.out.cell 7
                  have m76 : W7.cell? ⟨b, 6, none⟩ = some (.bool false) := HH7.out.cell 6
                  go_wp2_with fail
                  have HH8 : Has (W7.setCell ⟨b, 7, none⟩ (.string (lastK k af L))) b 81 (Wn.cells ⟨sz, num, A8, n8, c8, M, k, af, tn, false, lastK k af L, tb4, T4, wsp, keyed k L⟩) := HH7.out.put 7 _
                  have HU8 : Tur [b] w5 (W7.setCell ⟨b, 7, none⟩ (.string (lastK k af L))) := HU7.out.trans (Tur.setCell W7 (p := ⟨b, 7, none⟩) (by simp) _) (Fre.refl _ _)
                  go_ret
                  refine ⟨rfl, tb4, ⟨A8, n8, c8, T4, ?_⟩, ?_, .inr (Nat.le_trans (Nat.le_trans HB.out.size HB03.out.size) htb4)⟩
                  · have hop : opA aa num tn M k af L = ⟨sz, num, M, k, af, tn, false, lastK k af L, wsp, keyed k L⟩ := by
                      unfold opA
                      rw [HAA.out.1, HAA.out.2.2, hDone false hdd, if_neg (by rw [HLn.out]; omega), Int.toNat_natCast]
                    rw [hop]
                    exact ⟨HH8, ownC_down (HO5.out.turX HU8 hXc) (Nat.le_trans hlo (Nat.le_trans HB.out.size (Nat.le_trans HB03.out.size HB4.out.size))), HT5.out.turY HU8 hXt, (HR5.out.turX HU8 hXv).lo (Nat.le_trans hlo (Nat.le_trans HB.out.size HB03.out.size))⟩
                  · exact HUall.out.trans (Tur.setCell W7 (p := ⟨b, 7, none⟩) (by simp) _) (Fre.refl _ _)
end Go.Proofs.YtcdjeibcnkpadaaDoor
