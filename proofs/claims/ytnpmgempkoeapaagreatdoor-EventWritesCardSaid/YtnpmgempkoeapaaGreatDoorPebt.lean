/-
  Put together, as far as it is used: RMay.
-/
import Derived.Test.YtnpmgempkoeapaaGreatDoorPebb
set_option linter.unusedVariables false
set_option linter.unusedSimpArgs false
set_option linter.defProp false
namespace Go.Proofs.YtnpmgempkoeapaaGreatDoor
open Go.RowKit Dg
set_option maxRecDepth 100000
set_option maxHeartbeats 16000000 in
theorem rmay6_any (x : Ev) (Ab : Option Addr) (nb zb : Nat) (Aa : Option Addr) (na za : Nat) (A : Option Addr) (n c : Nat) (At : Option Addr) (nt ctt : Nat) (T : List Tb) (w : World) (h : EvW w x Ab nb zb Aa na za A n c) (hT : TbW w At nt ctt T) :
 Calls Tryz.prog 9 #[.agg #[.int .i64 x.k, .int .i64 x.n, .string x.t, .slice Ab nb zb, .slice Aa na za, .int .i64 x.ck, .string x.ct, .slice A n c, .int .i64 x.K, .string x.cl.nm, .int .i64 x.cl.k, .bool x.cl.no], .slice At nt ctt] w fun e w' => e = .returned (.int .i64 (mayR x T)) ∧ Hid (Below w.heap.size w w') := by
 have hb0 : Below w.heap.size w (w.alloc (.cells #[.int .i64 x.k, .int .i64 x.n, .string x.t, .slice Ab nb zb, .slice Aa na za, .int .i64 x.ck, .string x.ct, .slice A n c, .int .i64 x.K, .string x.cl.nm, .int .i64 x.cl.k, .bool x.cl.no] 33)) := (Below.refl w.heap.size w).alloc (Nat.le_refl _) _
 have HB := Lib.hid hb0
 have HW1 := Lib.hid (h.below hb0)
 have HT1 := Lib.hid (hT.below hb0)
 have HE0 := Lib.hid (Has.new w 33 #[.int .i64 x.k, .int .i64 x.n, .string x.t, .slice Ab nb zb, .slice Aa na za, .int .i64 x.ck, .string x.ct, .slice A n c, .int .i64 x.K, .string x.cl.nm, .int .i64 x.cl.k, .bool x.cl.no])
 have HPL := Lib.hid (rchange_any x.ck x.ct A x.L n c x.K x.cl.nm x.cl.k x.cl.no 0 ⟨#[]⟩ none [] 0 0 0 ⟨#[]⟩ 0 false (w.alloc (.cells #[.int .i64 x.k, .int .i64 x.n, .string x.t, .slice Ab nb zb, .slice Aa na za, .int .i64 x.ck, .string x.ct, .slice A n c, .int .i64 x.K, .string x.cl.nm, .int .i64 x.cl.k, .bool x.cl.no] 33)) h.l.1 rfl h.l.2.1 (by omega) (h.l.2.2.1.below hb0) (fun h => absurd rfl h))
 obtain ⟨pl, hpl⟩ : ∃ q, plainF x = q := ⟨_, rfl⟩
 rw [show chG x.ck 0 x.ct ⟨#[]⟩ ⟨x.cl.nm, x.cl.k, x.cl.no⟩ ⟨⟨#[]⟩, 0, false⟩ x.L [] x.K 0 = pl from hpl] at HPL
 have HPV := Lib.hid hpl
 have HNB := Lib.hid h.b.1
 have HNA := Lib.hid h.a.1
 clear hb0 h hT hpl
 obtain ⟨k, m, t, B, AA, ck, ct, L, K, ⟨cn, cq, cb⟩⟩ := x
 by_cases hc : k = 1 ∨ k = 2 ∨ k = 3 ∨ k = 4 ∨ k = 5 ∨ k = 6 ∨ k = 7 ∨ k = 8 ∨ k = 9 ∨ k = 10
 ·rcases hc with rfl | rfl | rfl | rfl | rfl | rfl | rfl | rfl | rfl | rfl
  ·have e : mayR ⟨1, m, t, B, AA, ck, ct, L, K, ⟨cn, cq, cb⟩⟩ T = if (decide (0 ≤ m) && t.toList.isEmpty && B.length == 0 && AA.length == 0 && pl) = true then 0 else 1 := by unfold mayR; rw [HPV.out]; simp
   obtain ⟨res, hres⟩ : ∃ q, mayR ⟨1, m, t, B, AA, ck, ct, L, K, ⟨cn, cq, cb⟩⟩ T = q := ⟨_, rfl⟩
   rw [hres, HNB.out, HNA.out] at e
   rw [hres]
   have HS := Lib.hid e
   clear e hres HPV HNB HNA
   go_enter Tryz.func9, Tryz.ntmps9
   go_wp2_with fail
   refine HPL.out.mono ?_
   rintro e w1 ⟨rfl, hb1⟩
   have HB1 := Lib.hid (HB.out.trans (hb1.out.mono HB.out.size))
   have HE1 := Lib.hid (HE0.out.below hb1.out HE0.out.lt)
   have u0 := HE1.out.cell 0
   have u1 := HE1.out.cell 1
   have u2 := HE1.out.cell 2
   have u3 := HE1.out.cell 3
   have u4 := HE1.out.cell 4
   simp only [zG, zH, zI] at u0 u1 u2 u3 u4
   clear hb1 HPL HE0 HE1 HW1 HT1 HB
   by_cases hm : m < 0
   ·have hd : decide (0 ≤ m) = false := by simp; omega
    rw [hd] at HS
    go_wp2_with fail
    go_ret
    exact ⟨by rw [HS.out]; rfl, HB1⟩
   ·have hd : decide (0 ≤ m) = true := by simp; omega
    rw [hd] at HS
    cases ht : t.toList.isEmpty
    ·rw [ht] at HS
     go_wp2_with fail
     go_ret
     exact ⟨by rw [HS.out]; rfl, HB1⟩
    ·rw [ht] at HS
     by_cases hnb : nb = 0
     ·subst hnb
      by_cases hna : na = 0
      ·subst hna
       cases pl
       ·skip
        go_wp2_with fail
        go_ret
        exact ⟨by rw [HS.out]; rfl, HB1⟩
       ·skip
        go_wp2_with fail
        go_ret
        exact ⟨by rw [HS.out]; rfl, HB1⟩
      ·have h1 : (na == 0) = false := by simp; omega
       have h2 : (0 : Int) < (na : Int) := by omega
       rw [h1] at HS
       go_wp2_with fail
       go_ret
       exact ⟨by rw [HS.out]; rfl, HB1⟩
     ·have h1 : (nb == 0) = false := by simp; omega
      have h2 : (0 : Int) < (nb : Int) := by omega
      rw [h1] at HS
      go_wp2_with fail
      go_ret
      exact ⟨by rw [HS.out]; rfl, HB1⟩
  ·have e : mayR ⟨2, m, t, B, AA, ck, ct, L, K, ⟨cn, cq, cb⟩⟩ T = if (decide (0 ≤ m) && t.toList.isEmpty && B.length == 0 && AA.length == 0 && pl) = true then 0 else 1 := by unfold mayR; rw [HPV.out]; simp
   obtain ⟨res, hres⟩ : ∃ q, mayR ⟨2, m, t, B, AA, ck, ct, L, K, ⟨cn, cq, cb⟩⟩ T = q := ⟨_, rfl⟩
   rw [hres, HNB.out, HNA.out] at e
   rw [hres]
   have HS := Lib.hid e
   clear e hres HPV HNB HNA
   go_enter Tryz.func9, Tryz.ntmps9
   go_wp2_with fail
   refine HPL.out.mono ?_
   rintro e w1 ⟨rfl, hb1⟩
   have HB1 := Lib.hid (HB.out.trans (hb1.out.mono HB.out.size))
   have HE1 := Lib.hid (HE0.out.below hb1.out HE0.out.lt)
   have u0 := HE1.out.cell 0
   have u1 := HE1.out.cell 1
   have u2 := HE1.out.cell 2
   have u3 := HE1.out.cell 3
   have u4 := HE1.out.cell 4
   simp only [zG, zH, zI] at u0 u1 u2 u3 u4
   clear hb1 HPL HE0 HE1 HW1 HT1 HB
   by_cases hm : m < 0
   ·have hd : decide (0 ≤ m) = false := by simp; omega
    rw [hd] at HS
    go_wp2_with fail
    go_ret
    exact ⟨by rw [HS.out]; rfl, HB1⟩
   ·have hd : decide (0 ≤ m) = true := by simp; omega
    rw [hd] at HS
    cases ht : t.toList.isEmpty
    ·rw [ht] at HS
     go_wp2_with fail
     go_ret
     exact ⟨by rw [HS.out]; rfl, HB1⟩
    ·rw [ht] at HS
     by_cases hnb : nb = 0
     ·subst hnb
      by_cases hna : na = 0
      ·subst hna
       cases pl
       ·skip
        go_wp2_with fail
        go_ret
        exact ⟨by rw [HS.out]; rfl, HB1⟩
       ·skip
        go_wp2_with fail
        go_ret
        exact ⟨by rw [HS.out]; rfl, HB1⟩
      ·have h1 : (na == 0) = false := by simp; omega
       have h2 : (0 : Int) < (na : Int) := by omega
       rw [h1] at HS
       go_wp2_with fail
       go_ret
       exact ⟨by rw [HS.out]; rfl, HB1⟩
     ·have h1 : (nb == 0) = false := by simp; omega
      have h2 : (0 : Int) < (nb : Int) := by omega
      rw [h1] at HS
      go_wp2_with fail
      go_ret
      exact ⟨by rw [HS.out]; rfl, HB1⟩
  ·obtain ⟨As, ns, cs, kk, etf, q1, q2, q3, q4, q5, q6, q7⟩ := tfV_at (s := t) HT1.out.sort HT1.out.ok HT1.out.good
   obtain ⟨M, hM⟩ : ∃ q, tfL T t = q := ⟨_, rfl⟩
   obtain ⟨po, hpo⟩ : ∃ q, plF T t = q := ⟨_, rfl⟩
   have e : mayR ⟨3, m, t, B, AA, ck, ct, L, K, ⟨cn, cq, cb⟩⟩ T = if po = false then 7 else if fitsF M AA = false then 9 else if (pl && B.length == 0 && m == 0) = true then 0 else 1 := by unfold mayR fitsR; rw [HPV.out]; simp [hM, hpo, q5]
   obtain ⟨res, hres⟩ : ∃ q, mayR ⟨3, m, t, B, AA, ck, ct, L, K, ⟨cn, cq, cb⟩⟩ T = q := ⟨_, rfl⟩
   rw [hres, HNB.out] at e
   rw [hres]
   have HS := Lib.hid e
   clear e hres
   rw [hM] at q1 q4
   rw [hpo] at etf
   have HQ4 := Lib.hid q4
   have HQ1 := Lib.hid q1
   clear HPV hM hpo q5 q4 q1
   go_enter Tryz.func9, Tryz.ntmps9
   go_wp2_with fail
   refine HPL.out.mono ?_
   rintro e w1 ⟨rfl, hb1⟩
   have HB1 := Lib.hid (HB.out.trans (hb1.out.mono HB.out.size))
   have HE1 := Lib.hid (HE0.out.below hb1.out HE0.out.lt)
   have HFD := Lib.hid (find6_any At T nt ctt t w1 HT1.out.len HT1.out.few (HT1.out.row.below hb1.out))
   rw [etf] at HFD
   clear etf
   have u0 := HE1.out.cell 0
   have u1 := HE1.out.cell 1
   have u2 := HE1.out.cell 2
   have u3 := HE1.out.cell 3
   have u4 := HE1.out.cell 4
   simp only [zG, zH, zI] at u0 u1 u2 u3 u4
   go_wp2_with fail
   refine HFD.out.mono ?_
   rintro e w2 ⟨rfl, hb2⟩
   obtain ⟨W3, hW3⟩ : ∃ W, W = w2.alloc (.cells #[.slice As ns cs, .int .i64 kk] 27) := ⟨_, rfl⟩
   have hb3 : Below w2.heap.size w2 W3 := by rw [hW3]; exact (Below.refl _ _).alloc (Nat.le_refl _) _
   have HS3 : Hid (Has W3 w2.heap.size 27 #[.slice As ns cs, .int .i64 kk]) := by rw [hW3]; exact Has.new _ _ _
   have HB3 := Lib.hid ((HB1.out.trans (hb2.out.mono HB1.out.size)).trans (hb3.mono (HB1.out.trans (hb2.out.mono HB1.out.size)).size))
   have HE3 := Lib.hid ((HE1.out.below hb2.out HE1.out.lt).below hb3 (HE1.out.below hb2.out HE1.out.lt).lt)
   have HW3 := Lib.hid ((HW1.out.below (hb1.out.mono (Nat.le_refl _))).below hb2.out |>.below hb3)
   have HQ3 := Lib.hid (((HQ4.out.below hb1.out).below hb2.out).below hb3)
   have hW3' : w2.alloc (.cells #[.slice As ns cs, .int .i64 kk] 27) = W3 := hW3.symm
   obtain ⟨g, hg⟩ : ∃ g, w2.heap.size = g := ⟨_, rfl⟩
   rw [hg] at HS3
   clear hb1 hb2 hb3 hW3 HFD HPL HE0 HE1 HW1 HT1 HB HB1 HQ4 u0 u1 u2 u3 u4
   cases po
   ·go_wp2_with fail
    go_ret
    exact ⟨by rw [HS.out]; rfl, HB3⟩
   ·have s0 := HS3.out.cell 0
    have s1 := HS3.out.cell 1
    have u0 := HE3.out.cell 0
    have u1 := HE3.out.cell 1
    have u2 := HE3.out.cell 2
    have u3 := HE3.out.cell 3
    have u4 := HE3.out.cell 4
    simp only [zG, zH, zI] at u0 u1 u2 u3 u4
    simp only [zG, zH, zI] at s0 s1
    have HFT := Lib.hid (refFits_any As M ns cs (kk : Int) Aa AA na za W3 HQ1.out q2 HQ3.out HW3.out.a.1 HW3.out.a.2.2.1 HW3.out.a.2.2.2)
    obtain ⟨ft, hft⟩ : ∃ q, fitsF M AA = q := ⟨_, rfl⟩
    rw [hft] at HFT HS
    clear hft
    go_wp2_with fail
    refine HFT.out.mono ?_
    rintro e w4 ⟨rfl, hb4⟩
    have HB4 := Lib.hid (HB3.out.trans (hb4.out.mono HB3.out.size))
    have HE4 := Lib.hid (HE3.out.below hb4.out HE3.out.lt)
    have HS4 := Lib.hid (HS3.out.below hb4.out HS3.out.lt)
    have HW4 := Lib.hid (HW3.out.below hb4.out)
    have HQ4 := Lib.hid (HQ3.out.below hb4.out)
    clear hb4 HFT HB3 HE3 HS3 HW3 HQ3 hW3' s0 s1 u0 u1 u2 u3 u4
    have u0 := HE4.out.cell 0
    have u1 := HE4.out.cell 1
    have u2 := HE4.out.cell 2
    have u3 := HE4.out.cell 3
    have u4 := HE4.out.cell 4
    simp only [zG, zH, zI] at u0 u1 u2 u3 u4
    have s0 := HS4.out.cell 0
    have s1 := HS4.out.cell 1
    simp only [zG, zH, zI] at s0 s1
    cases ft
    ·go_wp2_with fail
     go_ret
     exact ⟨by rw [HS.out]; rfl, HB4⟩
    ·skip
     cases pl
     ·skip
      go_wp2_with fail
      go_ret
      exact ⟨by rw [HS.out]; rfl, HB4⟩
     ·by_cases ho : nb = 0
      ·have h1 : (nb == 0) = true := by simp; exact ho
       have h2 : ¬ (0 : Int) < (nb : Int) := by omega
       rw [h1] at HS
       cases hm : (m == 0)
       ·rw [hm] at HS
        have hm2 : (m != 0) = true := by rw [bne, hm]; rfl
        go_wp2_with fail
        go_ret
        exact ⟨by rw [HS.out]; rfl, HB4⟩
       ·rw [hm] at HS
        have hm2 : (m != 0) = false := by rw [bne, hm]; rfl
        go_wp2_with fail
        go_ret
        exact ⟨by rw [HS.out]; rfl, HB4⟩
      ·have h1 : (nb == 0) = false := by simp; exact ho
       have h2 : (0 : Int) < (nb : Int) := by omega
       rw [h1] at HS
       go_wp2_with fail
       go_ret
       exact ⟨by rw [HS.out]; rfl, HB4⟩
  ·obtain ⟨As, ns, cs, kk, etf, q1, q2, q3, q4, q5, q6, q7⟩ := tfV_at (s := t) HT1.out.sort HT1.out.ok HT1.out.good
   obtain ⟨M, hM⟩ : ∃ q, tfL T t = q := ⟨_, rfl⟩
   obtain ⟨po, hpo⟩ : ∃ q, plF T t = q := ⟨_, rfl⟩
   have e : mayR ⟨4, m, t, B, AA, ck, ct, L, K, ⟨cn, cq, cb⟩⟩ T = if po = false then 7 else if fitsF M AA = false then 9 else if (pl && B.length == 0 && m == 0) = true then 0 else 1 := by unfold mayR fitsR; rw [HPV.out]; simp [hM, hpo, q5]
   obtain ⟨res, hres⟩ : ∃ q, mayR ⟨4, m, t, B, AA, ck, ct, L, K, ⟨cn, cq, cb⟩⟩ T = q := ⟨_, rfl⟩
   rw [hres, HNB.out] at e
   rw [hres]
   have HS := Lib.hid e
   clear e hres
   rw [hM] at q1 q4
   rw [hpo] at etf
   have HQ4 := Lib.hid q4
   have HQ1 := Lib.hid q1
   clear HPV hM hpo q5 q4 q1
   go_enter Tryz.func9, Tryz.ntmps9
   go_wp2_with fail
   refine HPL.out.mono ?_
   rintro e w1 ⟨rfl, hb1⟩
   have HB1 := Lib.hid (HB.out.trans (hb1.out.mono HB.out.size))
   have HE1 := Lib.hid (HE0.out.below hb1.out HE0.out.lt)
   have HFD := Lib.hid (find6_any At T nt ctt t w1 HT1.out.len HT1.out.few (HT1.out.row.below hb1.out))
   rw [etf] at HFD
   clear etf
   have u0 := HE1.out.cell 0
   have u1 := HE1.out.cell 1
   have u2 := HE1.out.cell 2
   have u3 := HE1.out.cell 3
   have u4 := HE1.out.cell 4
   simp only [zG, zH, zI] at u0 u1 u2 u3 u4
   go_wp2_with fail
   refine HFD.out.mono ?_
   rintro e w2 ⟨rfl, hb2⟩
   obtain ⟨W3, hW3⟩ : ∃ W, W = w2.alloc (.cells #[.slice As ns cs, .int .i64 kk] 27) := ⟨_, rfl⟩
   have hb3 : Below w2.heap.size w2 W3 := by rw [hW3]; exact (Below.refl _ _).alloc (Nat.le_refl _) _
   have HS3 : Hid (Has W3 w2.heap.size 27 #[.slice As ns cs, .int .i64 kk]) := by rw [hW3]; exact Has.new _ _ _
   have HB3 := Lib.hid ((HB1.out.trans (hb2.out.mono HB1.out.size)).trans (hb3.mono (HB1.out.trans (hb2.out.mono HB1.out.size)).size))
   have HE3 := Lib.hid ((HE1.out.below hb2.out HE1.out.lt).below hb3 (HE1.out.below hb2.out HE1.out.lt).lt)
   have HW3 := Lib.hid ((HW1.out.below (hb1.out.mono (Nat.le_refl _))).below hb2.out |>.below hb3)
   have HQ3 := Lib.hid (((HQ4.out.below hb1.out).below hb2.out).below hb3)
   have hW3' : w2.alloc (.cells #[.slice As ns cs, .int .i64 kk] 27) = W3 := hW3.symm
   obtain ⟨g, hg⟩ : ∃ g, w2.heap.size = g := ⟨_, rfl⟩
   rw [hg] at HS3
   clear hb1 hb2 hb3 hW3 HFD HPL HE0 HE1 HW1 HT1 HB HB1 HQ4 u0 u1 u2 u3 u4
   cases po
   ·go_wp2_with fail
    go_ret
    exact ⟨by rw [HS.out]; rfl, HB3⟩
   ·have s0 := HS3.out.cell 0
    have s1 := HS3.out.cell 1
    have u0 := HE3.out.cell 0
    have u1 := HE3.out.cell 1
    have u2 := HE3.out.cell 2
    have u3 := HE3.out.cell 3
    have u4 := HE3.out.cell 4
    simp only [zG, zH, zI] at u0 u1 u2 u3 u4
    simp only [zG, zH, zI] at s0 s1
    have HFT := Lib.hid (refFits_any As M ns cs (kk : Int) Aa AA na za W3 HQ1.out q2 HQ3.out HW3.out.a.1 HW3.out.a.2.2.1 HW3.out.a.2.2.2)
    obtain ⟨ft, hft⟩ : ∃ q, fitsF M AA = q := ⟨_, rfl⟩
    rw [hft] at HFT HS
    clear hft
    go_wp2_with fail
    refine HFT.out.mono ?_
    rintro e w4 ⟨rfl, hb4⟩
    have HB4 := Lib.hid (HB3.out.trans (hb4.out.mono HB3.out.size))
    have HE4 := Lib.hid (HE3.out.below hb4.out HE3.out.lt)
    have HS4 := Lib.hid (HS3.out.below hb4.out HS3.out.lt)
    have HW4 := Lib.hid (HW3.out.below hb4.out)
    have HQ4 := Lib.hid (HQ3.out.below hb4.out)
    clear hb4 HFT HB3 HE3 HS3 HW3 HQ3 hW3' s0 s1 u0 u1 u2 u3 u4
    have u0 := HE4.out.cell 0
    have u1 := HE4.out.cell 1
    have u2 := HE4.out.cell 2
    have u3 := HE4.out.cell 3
    have u4 := HE4.out.cell 4
    simp only [zG, zH, zI] at u0 u1 u2 u3 u4
    have s0 := HS4.out.cell 0
    have s1 := HS4.out.cell 1
    simp only [zG, zH, zI] at s0 s1
    cases ft
    ·go_wp2_with fail
     go_ret
     exact ⟨by rw [HS.out]; rfl, HB4⟩
    ·skip
     cases pl
     ·skip
      go_wp2_with fail
      go_ret
      exact ⟨by rw [HS.out]; rfl, HB4⟩
     ·by_cases ho : nb = 0
      ·have h1 : (nb == 0) = true := by simp; exact ho
       have h2 : ¬ (0 : Int) < (nb : Int) := by omega
       rw [h1] at HS
       cases hm : (m == 0)
       ·rw [hm] at HS
        have hm2 : (m != 0) = true := by rw [bne, hm]; rfl
        go_wp2_with fail
        go_ret
        exact ⟨by rw [HS.out]; rfl, HB4⟩
       ·rw [hm] at HS
        have hm2 : (m != 0) = false := by rw [bne, hm]; rfl
        go_wp2_with fail
        go_ret
        exact ⟨by rw [HS.out]; rfl, HB4⟩
      ·have h1 : (nb == 0) = false := by simp; exact ho
       have h2 : (0 : Int) < (nb : Int) := by omega
       rw [h1] at HS
       go_wp2_with fail
       go_ret
       exact ⟨by rw [HS.out]; rfl, HB4⟩
  ·obtain ⟨As, ns, cs, kk, etf, q1, q2, q3, q4, q5, q6, q7⟩ := tfV_at (s := t) HT1.out.sort HT1.out.ok HT1.out.good
   obtain ⟨M, hM⟩ : ∃ q, tfL T t = q := ⟨_, rfl⟩
   obtain ⟨po, hpo⟩ : ∃ q, plF T t = q := ⟨_, rfl⟩
   have e : mayR ⟨5, m, t, B, AA, ck, ct, L, K, ⟨cn, cq, cb⟩⟩ T = if po = false then 7 else if (keyOk M B kk && B.length == kk) = false then 9 else if (pl && AA.length == 0 && m == 0) = true then 0 else 1 := by unfold mayR fitsR; rw [HPV.out]; simp [hM, hpo, q5]
   obtain ⟨res, hres⟩ : ∃ q, mayR ⟨5, m, t, B, AA, ck, ct, L, K, ⟨cn, cq, cb⟩⟩ T = q := ⟨_, rfl⟩
   rw [hres, HNA.out] at e
   rw [hres]
   have HS := Lib.hid e
   clear e hres
   rw [hM] at q1 q4
   rw [hpo] at etf
   have HQ4 := Lib.hid q4
   have HQ1 := Lib.hid q1
   clear HPV hM hpo q5 q4 q1
   go_enter Tryz.func9, Tryz.ntmps9
   go_wp2_with fail
   refine HPL.out.mono ?_
   rintro e w1 ⟨rfl, hb1⟩
   have HB1 := Lib.hid (HB.out.trans (hb1.out.mono HB.out.size))
   have HE1 := Lib.hid (HE0.out.below hb1.out HE0.out.lt)
   have HFD := Lib.hid (find6_any At T nt ctt t w1 HT1.out.len HT1.out.few (HT1.out.row.below hb1.out))
   rw [etf] at HFD
   clear etf
   have u0 := HE1.out.cell 0
   have u1 := HE1.out.cell 1
   have u2 := HE1.out.cell 2
   have u3 := HE1.out.cell 3
   have u4 := HE1.out.cell 4
   simp only [zG, zH, zI] at u0 u1 u2 u3 u4
   go_wp2_with fail
   refine HFD.out.mono ?_
   rintro e w2 ⟨rfl, hb2⟩
   obtain ⟨W3, hW3⟩ : ∃ W, W = w2.alloc (.cells #[.slice As ns cs, .int .i64 kk] 27) := ⟨_, rfl⟩
   have hb3 : Below w2.heap.size w2 W3 := by rw [hW3]; exact (Below.refl _ _).alloc (Nat.le_refl _) _
   have HS3 : Hid (Has W3 w2.heap.size 27 #[.slice As ns cs, .int .i64 kk]) := by rw [hW3]; exact Has.new _ _ _
   have HB3 := Lib.hid ((HB1.out.trans (hb2.out.mono HB1.out.size)).trans (hb3.mono (HB1.out.trans (hb2.out.mono HB1.out.size)).size))
   have HE3 := Lib.hid ((HE1.out.below hb2.out HE1.out.lt).below hb3 (HE1.out.below hb2.out HE1.out.lt).lt)
   have HW3 := Lib.hid ((HW1.out.below (hb1.out.mono (Nat.le_refl _))).below hb2.out |>.below hb3)
   have HQ3 := Lib.hid (((HQ4.out.below hb1.out).below hb2.out).below hb3)
   have hW3' : w2.alloc (.cells #[.slice As ns cs, .int .i64 kk] 27) = W3 := hW3.symm
   obtain ⟨g, hg⟩ : ∃ g, w2.heap.size = g := ⟨_, rfl⟩
   rw [hg] at HS3
   clear hb1 hb2 hb3 hW3 HFD HPL HE0 HE1 HW1 HT1 HB HB1 HQ4 u0 u1 u2 u3 u4
   cases po
   ·go_wp2_with fail
    go_ret
    exact ⟨by rw [HS.out]; rfl, HB3⟩
   ·have s0 := HS3.out.cell 0
    have s1 := HS3.out.cell 1
    have u0 := HE3.out.cell 0
    have u1 := HE3.out.cell 1
    have u2 := HE3.out.cell 2
    have u3 := HE3.out.cell 3
    have u4 := HE3.out.cell 4
    simp only [zG, zH, zI] at u0 u1 u2 u3 u4
    simp only [zG, zH, zI] at s0 s1
    have HFT := Lib.hid (refFits_any As M ns cs (kk : Int) Aa AA na za W3 HQ1.out q2 HQ3.out HW3.out.a.1 HW3.out.a.2.2.1 HW3.out.a.2.2.2)
    obtain ⟨ft, hft⟩ : ∃ q, fitsF M AA = q := ⟨_, rfl⟩
    rw [hft] at HFT
    clear hft
    go_wp2_with fail
    refine HFT.out.mono ?_
    rintro e w4 ⟨rfl, hb4⟩
    have HB4 := Lib.hid (HB3.out.trans (hb4.out.mono HB3.out.size))
    have HE4 := Lib.hid (HE3.out.below hb4.out HE3.out.lt)
    have HS4 := Lib.hid (HS3.out.below hb4.out HS3.out.lt)
    have HW4 := Lib.hid (HW3.out.below hb4.out)
    have HQ4 := Lib.hid (HQ3.out.below hb4.out)
    clear hb4 HFT HB3 HE3 HS3 HW3 HQ3 hW3' s0 s1 u0 u1 u2 u3 u4
    have u0 := HE4.out.cell 0
    have u1 := HE4.out.cell 1
    have u2 := HE4.out.cell 2
    have u3 := HE4.out.cell 3
    have u4 := HE4.out.cell 4
    simp only [zG, zH, zI] at u0 u1 u2 u3 u4
    have s0 := HS4.out.cell 0
    have s1 := HS4.out.cell 1
    simp only [zG, zH, zI] at s0 s1
    have HKY := Lib.hid (rkey_any As M ns cs kk Ab B nb zb w4 HQ1.out q2 q6 q7 HW4.out.b.2.1 HQ4.out HW4.out.b.1 HW4.out.b.2.2.1 HW4.out.b.2.2.2)
    obtain ⟨ko, hko⟩ : ∃ q, keyOk M B kk = q := ⟨_, rfl⟩
    obtain ⟨ks, ke, hkt, hke⟩ : ∃ (ks : ByteArray) (ke : Int), keyT M B kk = .tuple #[.string ks, .int .i64 ke] ∧ (ke == 0) = ko := by unfold keyT; rw [hko]; cases ko <;> exact ⟨_, _, rfl, rfl⟩
    rw [hkt] at HKY
    rw [hko, HNB.out] at HS
    clear hkt hko
    go_wp2_with fail
    refine HKY.out.mono ?_
    rintro e w5 ⟨rfl, hb5⟩
    have HB5 := Lib.hid (HB4.out.trans (hb5.out.mono HB4.out.size))
    have HE5 := Lib.hid (HE4.out.below hb5.out HE4.out.lt)
    have HS5 := Lib.hid (HS4.out.below hb5.out HS4.out.lt)
    clear hb5 HKY HB4 HE4 HS4 HW4 HQ4 s0 s1 u0 u1 u2 u3 u4
    have u0 := HE5.out.cell 0
    have u1 := HE5.out.cell 1
    have u2 := HE5.out.cell 2
    have u3 := HE5.out.cell 3
    have u4 := HE5.out.cell 4
    simp only [zG, zH, zI] at u0 u1 u2 u3 u4
    have s0 := HS5.out.cell 0
    have s1 := HS5.out.cell 1
    simp only [zG, zH, zI] at s0 s1
    have hne : ((nb : Int) == (kk : Int)) = (nb == kk) := natInt_beq nb kk
    cases ko
    ·go_wp2_with fail
     go_ret
     exact ⟨by rw [HS.out]; rfl, HB5⟩
    ·cases hnk : (nb == kk)
     ·rw [hnk] at hne HS
      go_wp2_with fail
      go_ret
      exact ⟨by rw [HS.out]; rfl, HB5⟩
     ·rw [hnk] at hne HS
      cases pl
      ·skip
       go_wp2_with fail
       go_ret
       exact ⟨by rw [HS.out]; rfl, HB5⟩
      ·by_cases ho : na = 0
       ·have h1 : (na == 0) = true := by simp; exact ho
        have h2 : ¬ (0 : Int) < (na : Int) := by omega
        rw [h1] at HS
        cases hm : (m == 0)
        ·rw [hm] at HS
         have hm2 : (m != 0) = true := by rw [bne, hm]; rfl
         go_wp2_with fail
         go_ret
         exact ⟨by rw [HS.out]; rfl, HB5⟩
        ·rw [hm] at HS
         have hm2 : (m != 0) = false := by rw [bne, hm]; rfl
         go_wp2_with fail
         go_ret
         exact ⟨by rw [HS.out]; rfl, HB5⟩
       ·have h1 : (na == 0) = false := by simp; exact ho
        have h2 : (0 : Int) < (na : Int) := by omega
        rw [h1] at HS
        go_wp2_with fail
        go_ret
        exact ⟨by rw [HS.out]; rfl, HB5⟩
  ·have e : mayR ⟨6, m, t, B, AA, ck, ct, L, K, ⟨cn, cq, cb⟩⟩ T = if altF ck ct L K ⟨cn, cq, cb⟩ = 0 then (if (m == 0 && t.toList.isEmpty && B.length == 0 && AA.length == 0) = true then 0 else 1) else altF ck ct L K ⟨cn, cq, cb⟩ := by unfold mayR; simp
   obtain ⟨res, hres⟩ : ∃ q, mayR ⟨6, m, t, B, AA, ck, ct, L, K, ⟨cn, cq, cb⟩⟩ T = q := ⟨_, rfl⟩
   rw [hres, HNB.out, HNA.out] at e
   rw [hres]
   have HS := Lib.hid e
   clear e hres HPV HNB HNA
   go_enter Tryz.func9, Tryz.ntmps9
   go_wp2_with fail
   refine HPL.out.mono ?_
   rintro e w1 ⟨rfl, hb1⟩
   have HB1 := Lib.hid (HB.out.trans (hb1.out.mono HB.out.size))
   have HE1 := Lib.hid (HE0.out.below hb1.out HE0.out.lt)
   have HAL := Lib.hid (raltered_any ck ct A n c L K cn cq cb w1 HW1.out.l.1 (by have := HW1.out.l.2.1; omega) (HW1.out.l.2.2.1.below hb1.out))
   obtain ⟨af, haf⟩ : ∃ q, altF ck ct L K ⟨cn, cq, cb⟩ = q := ⟨_, rfl⟩
   rw [haf] at HAL HS
   clear haf
   obtain ⟨u0, u1, u2, u3, u4, u5, u6, u7, u8, u9, u10, u11, _⟩ := all12 HE1.out
   go_wp2_with fail
   refine HAL.out.mono ?_
   rintro e w2 ⟨rfl, hb2⟩
   have HB2 := Lib.hid (HB1.out.trans (hb2.out.mono HB1.out.size))
   have HE2 := Lib.hid (HE1.out.below hb2.out HE1.out.lt)
   have v0 := HE2.out.cell 0
   have v1 := HE2.out.cell 1
   have v2 := HE2.out.cell 2
   have v3 := HE2.out.cell 3
   have v4 := HE2.out.cell 4
   simp only [zG, zH, zI] at v0 v1 v2 v3 v4
   clear hb1 hb2 HPL HAL HE0 HE1 HE2 HW1 HT1 HB HB1 u0 u1 u2 u3 u4 u5 u6 u7 u8 u9 u10 u11
   by_cases ha : af = 0
   ·subst ha
    rw [if_pos rfl] at HS
    cases hm : (m == 0)
    ·rw [hm] at HS
     have hm2 : (m != 0) = true := by rw [bne, hm]; rfl
     go_wp2_with fail
     go_ret
     exact ⟨by rw [HS.out]; rfl, HB2⟩
    ·rw [hm] at HS
     have hm2 : (m != 0) = false := by rw [bne, hm]; rfl
     cases ht : t.toList.isEmpty
     ·rw [ht] at HS
      go_wp2_with fail
      go_ret
      exact ⟨by rw [HS.out]; rfl, HB2⟩
     ·rw [ht] at HS
      by_cases hnb : nb = 0
      ·subst hnb
       by_cases hna : na = 0
       ·subst hna
        go_wp2_with fail
        go_ret
        exact ⟨by rw [HS.out]; rfl, HB2⟩
       ·have h1 : (na == 0) = false := by simp; omega
        have h2 : (0 : Int) < (na : Int) := by omega
        rw [h1] at HS
        go_wp2_with fail
        go_ret
        exact ⟨by rw [HS.out]; rfl, HB2⟩
      ·have h1 : (nb == 0) = false := by simp; omega
       have h2 : (0 : Int) < (nb : Int) := by omega
       rw [h1] at HS
       go_wp2_with fail
       go_ret
       exact ⟨by rw [HS.out]; rfl, HB2⟩
   ·rw [if_neg ha] at HS
    have ha2 : (af != 0) = true := by simp; exact ha
    go_wp2_with fail
    go_ret
    exact ⟨by rw [HS.out]; rfl, HB2⟩
  ·have e : mayR ⟨7, m, t, B, AA, ck, ct, L, K, ⟨cn, cq, cb⟩⟩ T = if (decide (0 ≤ m) && t.toList.isEmpty && B.length == 0 && AA.length == 0 && pl) = true then 0 else 1 := by unfold mayR; rw [HPV.out]; simp
   obtain ⟨res, hres⟩ : ∃ q, mayR ⟨7, m, t, B, AA, ck, ct, L, K, ⟨cn, cq, cb⟩⟩ T = q := ⟨_, rfl⟩
   rw [hres, HNB.out, HNA.out] at e
   rw [hres]
   have HS := Lib.hid e
   clear e hres HPV HNB HNA
   go_enter Tryz.func9, Tryz.ntmps9
   go_wp2_with fail
   refine HPL.out.mono ?_
   rintro e w1 ⟨rfl, hb1⟩
   have HB1 := Lib.hid (HB.out.trans (hb1.out.mono HB.out.size))
   have HE1 := Lib.hid (HE0.out.below hb1.out HE0.out.lt)
   have u0 := HE1.out.cell 0
   have u1 := HE1.out.cell 1
   have u2 := HE1.out.cell 2
   have u3 := HE1.out.cell 3
   have u4 := HE1.out.cell 4
   simp only [zG, zH, zI] at u0 u1 u2 u3 u4
   clear hb1 HPL HE0 HE1 HW1 HT1 HB
   by_cases hm : m < 0
   ·have hd : decide (0 ≤ m) = false := by simp; omega
    rw [hd] at HS
    go_wp2_with fail
    go_ret
    exact ⟨by rw [HS.out]; rfl, HB1⟩
   ·have hd : decide (0 ≤ m) = true := by simp; omega
    rw [hd] at HS
    cases ht : t.toList.isEmpty
    ·rw [ht] at HS
     go_wp2_with fail
     go_ret
     exact ⟨by rw [HS.out]; rfl, HB1⟩
    ·rw [ht] at HS
     by_cases hnb : nb = 0
     ·subst hnb
      by_cases hna : na = 0
      ·subst hna
       cases pl
       ·skip
        go_wp2_with fail
        go_ret
        exact ⟨by rw [HS.out]; rfl, HB1⟩
       ·skip
        go_wp2_with fail
        go_ret
        exact ⟨by rw [HS.out]; rfl, HB1⟩
      ·have h1 : (na == 0) = false := by simp; omega
       have h2 : (0 : Int) < (na : Int) := by omega
       rw [h1] at HS
       go_wp2_with fail
       go_ret
       exact ⟨by rw [HS.out]; rfl, HB1⟩
     ·have h1 : (nb == 0) = false := by simp; omega
      have h2 : (0 : Int) < (nb : Int) := by omega
      rw [h1] at HS
      go_wp2_with fail
      go_ret
      exact ⟨by rw [HS.out]; rfl, HB1⟩
  ·have e : mayR ⟨8, m, t, B, AA, ck, ct, L, K, ⟨cn, cq, cb⟩⟩ T = if (decide (0 ≤ m) && t.toList.isEmpty && B.length == 0 && AA.length == 0 && pl) = true then 0 else 1 := by unfold mayR; rw [HPV.out]; simp
   obtain ⟨res, hres⟩ : ∃ q, mayR ⟨8, m, t, B, AA, ck, ct, L, K, ⟨cn, cq, cb⟩⟩ T = q := ⟨_, rfl⟩
   rw [hres, HNB.out, HNA.out] at e
   rw [hres]
   have HS := Lib.hid e
   clear e hres HPV HNB HNA
   go_enter Tryz.func9, Tryz.ntmps9
   go_wp2_with fail
   refine HPL.out.mono ?_
   rintro e w1 ⟨rfl, hb1⟩
   have HB1 := Lib.hid (HB.out.trans (hb1.out.mono HB.out.size))
   have HE1 := Lib.hid (HE0.out.below hb1.out HE0.out.lt)
   have u0 := HE1.out.cell 0
   have u1 := HE1.out.cell 1
   have u2 := HE1.out.cell 2
   have u3 := HE1.out.cell 3
   have u4 := HE1.out.cell 4
   simp only [zG, zH, zI] at u0 u1 u2 u3 u4
   clear hb1 HPL HE0 HE1 HW1 HT1 HB
   by_cases hm : m < 0
   ·have hd : decide (0 ≤ m) = false := by simp; omega
    rw [hd] at HS
    go_wp2_with fail
    go_ret
    exact ⟨by rw [HS.out]; rfl, HB1⟩
   ·have hd : decide (0 ≤ m) = true := by simp; omega
    rw [hd] at HS
    cases ht : t.toList.isEmpty
    ·rw [ht] at HS
     go_wp2_with fail
     go_ret
     exact ⟨by rw [HS.out]; rfl, HB1⟩
    ·rw [ht] at HS
     by_cases hnb : nb = 0
     ·subst hnb
      by_cases hna : na = 0
      ·subst hna
       cases pl
       ·skip
        go_wp2_with fail
        go_ret
        exact ⟨by rw [HS.out]; rfl, HB1⟩
       ·skip
        go_wp2_with fail
        go_ret
        exact ⟨by rw [HS.out]; rfl, HB1⟩
      ·have h1 : (na == 0) = false := by simp; omega
       have h2 : (0 : Int) < (na : Int) := by omega
       rw [h1] at HS
       go_wp2_with fail
       go_ret
       exact ⟨by rw [HS.out]; rfl, HB1⟩
     ·have h1 : (nb == 0) = false := by simp; omega
      have h2 : (0 : Int) < (nb : Int) := by omega
      rw [h1] at HS
      go_wp2_with fail
      go_ret
      exact ⟨by rw [HS.out]; rfl, HB1⟩
  ·have e : mayR ⟨9, m, t, B, AA, ck, ct, L, K, ⟨cn, cq, cb⟩⟩ T = if (decide (0 ≤ m) && t.toList.isEmpty && B.length == 0 && AA.length == 0 && pl) = true then 0 else 1 := by unfold mayR; rw [HPV.out]; simp
   obtain ⟨res, hres⟩ : ∃ q, mayR ⟨9, m, t, B, AA, ck, ct, L, K, ⟨cn, cq, cb⟩⟩ T = q := ⟨_, rfl⟩
   rw [hres, HNB.out, HNA.out] at e
   rw [hres]
   have HS := Lib.hid e
   clear e hres HPV HNB HNA
   go_enter Tryz.func9, Tryz.ntmps9
   go_wp2_with fail
   refine HPL.out.mono ?_
   rintro e w1 ⟨rfl, hb1⟩
   have HB1 := Lib.hid (HB.out.trans (hb1.out.mono HB.out.size))
   have HE1 := Lib.hid (HE0.out.below hb1.out HE0.out.lt)
   have u0 := HE1.out.cell 0
   have u1 := HE1.out.cell 1
   have u2 := HE1.out.cell 2
   have u3 := HE1.out.cell 3
   have u4 := HE1.out.cell 4
   simp only [zG, zH, zI] at u0 u1 u2 u3 u4
   clear hb1 HPL HE0 HE1 HW1 HT1 HB
   by_cases hm : m < 0
   ·have hd : decide (0 ≤ m) = false := by simp; omega
    rw [hd] at HS
    go_wp2_with fail
    go_ret
    exact ⟨by rw [HS.out]; rfl, HB1⟩
   ·have hd : decide (0 ≤ m) = true := by simp; omega
    rw [hd] at HS
    cases ht : t.toList.isEmpty
    ·rw [ht] at HS
     go_wp2_with fail
     go_ret
     exact ⟨by rw [HS.out]; rfl, HB1⟩
    ·rw [ht] at HS
     by_cases hnb : nb = 0
     ·subst hnb
      by_cases hna : na = 0
      ·subst hna
       cases pl
       ·skip
        go_wp2_with fail
        go_ret
        exact ⟨by rw [HS.out]; rfl, HB1⟩
       ·skip
        go_wp2_with fail
        go_ret
        exact ⟨by rw [HS.out]; rfl, HB1⟩
      ·have h1 : (na == 0) = false := by simp; omega
       have h2 : (0 : Int) < (na : Int) := by omega
       rw [h1] at HS
       go_wp2_with fail
       go_ret
       exact ⟨by rw [HS.out]; rfl, HB1⟩
     ·have h1 : (nb == 0) = false := by simp; omega
      have h2 : (0 : Int) < (nb : Int) := by omega
      rw [h1] at HS
      go_wp2_with fail
      go_ret
      exact ⟨by rw [HS.out]; rfl, HB1⟩
  ·have e : mayR ⟨10, m, t, B, AA, ck, ct, L, K, ⟨cn, cq, cb⟩⟩ T = if (decide (0 ≤ m) && t.toList.isEmpty && B.length == 0 && AA.length == 0 && pl) = true then 0 else 1 := by unfold mayR; rw [HPV.out]; simp
   obtain ⟨res, hres⟩ : ∃ q, mayR ⟨10, m, t, B, AA, ck, ct, L, K, ⟨cn, cq, cb⟩⟩ T = q := ⟨_, rfl⟩
   rw [hres, HNB.out, HNA.out] at e
   rw [hres]
   have HS := Lib.hid e
   clear e hres HPV HNB HNA
   go_enter Tryz.func9, Tryz.ntmps9
   go_wp2_with fail
   refine HPL.out.mono ?_
   rintro e w1 ⟨rfl, hb1⟩
   have HB1 := Lib.hid (HB.out.trans (hb1.out.mono HB.out.size))
   have HE1 := Lib.hid (HE0.out.below hb1.out HE0.out.lt)
   have u0 := HE1.out.cell 0
   have u1 := HE1.out.cell 1
   have u2 := HE1.out.cell 2
   have u3 := HE1.out.cell 3
   have u4 := HE1.out.cell 4
   simp only [zG, zH, zI] at u0 u1 u2 u3 u4
   clear hb1 HPL HE0 HE1 HW1 HT1 HB
   by_cases hm : m < 0
   ·have hd : decide (0 ≤ m) = false := by simp; omega
    rw [hd] at HS
    go_wp2_with fail
    go_ret
    exact ⟨by rw [HS.out]; rfl, HB1⟩
   ·have hd : decide (0 ≤ m) = true := by simp; omega
    rw [hd] at HS
    cases ht : t.toList.isEmpty
    ·rw [ht] at HS
     go_wp2_with fail
     go_ret
     exact ⟨by rw [HS.out]; rfl, HB1⟩
    ·rw [ht] at HS
     by_cases hnb : nb = 0
     ·subst hnb
      by_cases hna : na = 0
      ·subst hna
       cases pl
       ·skip
        go_wp2_with fail
        go_ret
        exact ⟨by rw [HS.out]; rfl, HB1⟩
       ·skip
        go_wp2_with fail
        go_ret
        exact ⟨by rw [HS.out]; rfl, HB1⟩
      ·have h1 : (na == 0) = false := by simp; omega
       have h2 : (0 : Int) < (na : Int) := by omega
       rw [h1] at HS
       go_wp2_with fail
       go_ret
       exact ⟨by rw [HS.out]; rfl, HB1⟩
     ·have h1 : (nb == 0) = false := by simp; omega
      have h2 : (0 : Int) < (nb : Int) := by omega
      rw [h1] at HS
      go_wp2_with fail
      go_ret
      exact ⟨by rw [HS.out]; rfl, HB1⟩
 ·have e : mayR ⟨k, m, t, B, AA, ck, ct, L, K, ⟨cn, cq, cb⟩⟩ T = 5 := by
   unfold mayR
   rw [if_neg (by dsimp only; omega), if_neg (by dsimp only; omega), if_neg (by dsimp only; omega)]
  rw [e]
  have q1 : (k == 1) = false := by simp; omega
  have q2 : (k == 2) = false := by simp; omega
  have q3 : (k == 3) = false := by simp; omega
  have q4 : (k == 4) = false := by simp; omega
  have q5 : (k == 5) = false := by simp; omega
  have q6 : (k == 6) = false := by simp; omega
  have q7 : (k == 7) = false := by simp; omega
  have q8 : (k == 8) = false := by simp; omega
  have q9 : (k == 9) = false := by simp; omega
  have q10 : (k == 10) = false := by simp; omega
  clear e hc
  go_enter Tryz.func9, Tryz.ntmps9
  go_wp2_with fail
  refine HPL.out.mono ?_
  rintro e w1 ⟨rfl, hb1⟩
  have HB1 := Lib.hid (HB.out.trans (hb1.out.mono HB.out.size))
  have u0 := (HE0.out.below hb1.out HE0.out.lt).cell 0
  simp only [zG, zH] at u0
  go_wp2_with fail
  go_ret
  exact ⟨rfl, HB1⟩
end Go.Proofs.YtnpmgempkoeapaaGreatDoor
