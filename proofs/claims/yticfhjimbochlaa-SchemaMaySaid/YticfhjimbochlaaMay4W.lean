/-
  The law SchemaMay walked: names, schemas that may be, where a column stands, and which are the same.
-/
import Derived.Test.YticfhjimbochlaaGood4
import Derived.Test.YticfhjimbochlaaLives4
import Derived.Test.YticfhjimbochlaaSsame
import Derived.Test.YticfhjimbochlaaSrmay
import Derived.Test.YticfhjimbochlaaCut
import Derived.Test.YticfhjimbochlaaStepA
namespace Go.Proofs.Yticfhjimbochlaa.schemaMay
open Go.RowKit Dg
theorem put2 {W : World} {g : Nat} {t : TypeId} {a b a' b' : Value} (h : Has W g t #[a, b]) : Has ((W.setCell ⟨g, 0, none⟩ a').setCell ⟨g, 1, none⟩ b') g t #[a', b'] := (h.put 0 a').put 1 b'
theorem far2 {W : World} {g p : Nat} {t : TypeId} {cs : Array Value} {u u' : Value} (h : Has W g t cs) (hne : g ≠ p) : Has ((W.setCell ⟨p, 0, none⟩ u).setCell ⟨p, 1, none⟩ u') g t cs := (h.far (p := ⟨p, 0, none⟩) hne u).far (p := ⟨p, 1, none⟩) hne u'
theorem own2 {B : Nat} {W : World} {p : Nat} {v u u' : Value} {L : List Cl} (h : OwnC B W v L) (hp : p < B) : OwnC B ((W.setCell ⟨p, 0, none⟩ u).setCell ⟨p, 1, none⟩ u') v L := (h.far (p := ⟨p, 0, none⟩) hp u).far (p := ⟨p, 1, none⟩) hp u'
theorem bel2 {B : Nat} {a W : World} {p : Nat} {u u' : Value} (h : Below B a W) (hp : B ≤ p) : Below B a ((W.setCell ⟨p, 0, none⟩ u).setCell ⟨p, 1, none⟩ u') := (h.setCell (p := ⟨p, 0, none⟩) hp u).setCell (p := ⟨p, 1, none⟩) hp u'
set_option maxHeartbeats 16000000 in
set_option maxRecDepth 100000 in
theorem walk (A : Option Addr) (n c : Nat) (L : List Cl) (K : Int) (A' : Option Addr) (n' c' : Nat) (L' : List Cl) (K' : Int) (s : ByteArray) (w : World) (hn : L.length = n) (hnc : n ≤ c) (hcm : c ≤ maxLen) (hA : CRow w A L) (hf : ∀ x ∈ L, x.fit) (hk0 : -9223372036854775808 ≤ K) (hk1 : K ≤ 9223372036854775807) (hn' : L'.length = n') (hnc' : n' ≤ c') (hcm' : c' ≤ maxLen) (hA' : CRow w A' L') (_hs : s.size ≤ 140737488355328) :
    Calls Try.prog 3 #[.agg #[.slice A n c, .int .i64 K], .agg #[.slice A' n' c', .int .i64 K'], .string s] w fun e w' => e = .returned (.bool true) ∧ Below w.heap.size w w' := by
  have HB := Lib.hid (((Below.refl w.heap.size w).alloc (Nat.le_refl _) (.cells #[.slice A n c, .int .i64 K] 24)).alloc (by simp) (.cells #[.slice A' n' c', .int .i64 K'] 24))
  have hq := Has.new (w.alloc (.cells #[.slice A n c, .int .i64 K] 24)) 24 #[.slice A' n' c', .int .i64 K']
  rw [show (w.alloc (.cells #[.slice A n c, .int .i64 K] 24)).heap.size = w.heap.size + 1 by simp] at hq
  have HQ := Lib.hid hq
  have HP := Lib.hid ((Has.new w 24 #[.slice A n c, .int .i64 K]).alloc (.cells #[.slice A' n' c', .int .i64 K'] 24))
  have HC1 := Lib.hid (fewC_any A L n c K ((w.alloc (.cells #[.slice A n c, .int .i64 K] 24)).alloc (.cells #[.slice A' n' c', .int .i64 K'] 24)) hn hnc hcm (hA.below HB.out))
  have HC2 := Lib.hid (fun (X : World) (hb : Below w.heap.size w X) => fewC_any A' L' n' c' K' X hn' hnc' hcm' (hA'.below hb))
  have HF1 := Lib.hid (cutL_fit L hf)
  have hs0 : ((w.alloc (.cells #[.slice A n c, .int .i64 K] 24)).alloc (.cells #[.slice A' n' c', .int .i64 K'] 24)).heap.size = w.heap.size + 2 := by simp
  rw [hs0] at HC1
  have HL1 : Hid ((cutL L).length ≤ 20) := cutTo_len L 20
  have HL2 : Hid ((cutL L').length ≤ 20) := cutTo_len L' 20
  have HFM := Lib.hid (forty_size s)
  clear hs0 hq hn hnc hcm hA hf hn' hnc' hcm' hA'
  go_enter Try.func3, Try.ntmps3
  go_wp2_with fail
  refine HC1.out.mono ?_
  rintro e w1 ⟨v1, rfl, ho1, hb⟩
  generalize cutL L = M at *
  generalize cutL L' = M' at *
  obtain ⟨Aa, na, ca, rfl, HNA, hnca, hcam, HVA, HZA⟩ := ownC_open ho1.out
  have hna : na ≤ 20 := by rw [← HNA.out]; exact HL1.out
  have HOA := Lib.hid ho1.out
  replace HB := Lib.hid (HB.out.trans (hb.out.mono (by simp)))
  replace HQ := Lib.hid (HQ.out.below hb.out (by simp))
  replace HP := Lib.hid (HP.out.below hb.out (by simp))
  have hsz : w.heap.size + 2 ≤ w1.heap.size := by have := hb.out.size; simpa using this
  clear hb ho1 HC1 HVA
  have zHP_0 : w1.cell? ⟨w.heap.size, 0, none⟩ = some (.slice A n c) := HP.out.cell 0
  have zHP_1 : w1.cell? ⟨w.heap.size, 1, none⟩ = some (.int .i64 K) := HP.out.cell 1
  have y0 : w1.frozen? ⟨w.heap.size, 0, none⟩ = false := HP.out.free 0
  have y1 : w1.frozen? ⟨w.heap.size, 1, none⟩ = false := HP.out.free 1
  replace HB := Lib.hid (bel2 (p := w.heap.size) (u := .slice Aa na ca) (u' := .int .i64 K) HB.out (Nat.le_refl _))
  replace HQ := Lib.hid (far2 (p := w.heap.size) (u := .slice Aa na ca) (u' := .int .i64 K) HQ.out (by omega))
  have HPA := Lib.hid (put2 (a' := .slice Aa na ca) (b' := .int .i64 K) HP.out)
  replace HOA := Lib.hid (own2 (p := w.heap.size) (u := .slice Aa na ca) (u' := .int .i64 K) HOA.out (by omega))
  have zHQ_0 : ((w1.setCell ⟨w.heap.size, 0, none⟩ (.slice Aa na ca)).setCell ⟨w.heap.size, 1, none⟩ (.int .i64 K)).cell? ⟨w.heap.size + 1, 0, none⟩ = some (.slice A' n' c') := HQ.out.cell 0
  have zHQ_1 : ((w1.setCell ⟨w.heap.size, 0, none⟩ (.slice Aa na ca)).setCell ⟨w.heap.size, 1, none⟩ (.int .i64 K)).cell? ⟨w.heap.size + 1, 1, none⟩ = some (.int .i64 K') := HQ.out.cell 1
  go_wp2_with fail
  clear HP y0 y1 zHP_0 zHP_1 zHQ_0 zHQ_1
  obtain ⟨W2, hW1⟩ : ∃ W, W = ((w1.setCell ⟨w.heap.size, 0, none⟩ (.slice Aa na ca)).setCell ⟨w.heap.size, 1, none⟩ (.int .i64 K)) := ⟨_, rfl⟩
  rw [← hW1] at HB HQ HPA HOA ⊢
  clear hW1
  have hsz2 : w.heap.size + 2 ≤ W2.heap.size := by have := HQ.out.lt; omega
  refine (HC2.out W2 HB.out).mono ?_
  rintro e w3 ⟨v3, rfl, ho3, hb⟩
  obtain ⟨Ab, nb, cb, rfl, HNB, hncb, hcbm, HVB, HZB⟩ := ownC_open ho3.out
  have hnb : nb ≤ 20 := by rw [← HNB.out]; exact HL2.out
  have HOB := Lib.hid ho3.out
  replace HB := Lib.hid (HB.out.trans (hb.out.mono HB.out.size))
  replace HQ := Lib.hid (HQ.out.below hb.out HQ.out.lt)
  replace HPA := Lib.hid (HPA.out.below hb.out HPA.out.lt)
  replace HOA := Lib.hid (HOA.out.below hb.out)
  clear hb ho3 HVB
  have zHQ_0 : w3.cell? ⟨w.heap.size + 1, 0, none⟩ = some (.slice A' n' c') := HQ.out.cell 0
  have zHQ_1 : w3.cell? ⟨w.heap.size + 1, 1, none⟩ = some (.int .i64 K') := HQ.out.cell 1
  have y0 : w3.frozen? ⟨w.heap.size + 1, 0, none⟩ = false := HQ.out.free 0
  have y1 : w3.frozen? ⟨w.heap.size + 1, 1, none⟩ = false := HQ.out.free 1
  replace HB := Lib.hid (bel2 (p := w.heap.size + 1) (u := .slice Ab nb cb) (u' := .int .i64 K') HB.out (by omega))
  have HPB := Lib.hid (put2 (a' := .slice Ab nb cb) (b' := .int .i64 K') HQ.out)
  replace HPA := Lib.hid (far2 (p := w.heap.size + 1) (u := .slice Ab nb cb) (u' := .int .i64 K') HPA.out (by omega))
  have HVA := Lib.hid (OwnC.row (own2 (p := w.heap.size + 1) (u := .slice Ab nb cb) (u' := .int .i64 K') HOA.out (by omega)) rfl)
  have HVB := Lib.hid (OwnC.row (own2 (p := w.heap.size + 1) (u := .slice Ab nb cb) (u' := .int .i64 K') HOB.out (by omega)) rfl)
  by_cases hz : 40 < s.size
  · have hfm : s.extract 0 40 = forty s := by unfold forty; rw [if_pos hz]
    generalize forty s = fm at *
    go_wp2_with fail
    clear HQ HOA HOB y0 y1 zHQ_0 zHQ_1
    clear hfm
    obtain ⟨W4, hW1⟩ : ∃ W, W = ((w3.setCell ⟨w.heap.size + 1, 0, none⟩ (.slice Ab nb cb)).setCell ⟨w.heap.size + 1, 1, none⟩ (.int .i64 K')) := ⟨_, rfl⟩
    rw [← hW1] at HB HPA HPB HVA HVB ⊢
    clear hW1
    have zHPA_0 : W4.cell? ⟨w.heap.size, 0, none⟩ = some (.slice Aa na ca) := HPA.out.cell 0
    have zHPA_1 : W4.cell? ⟨w.heap.size, 1, none⟩ = some (.int .i64 K) := HPA.out.cell 1
    have zHPB_0 : W4.cell? ⟨w.heap.size + 1, 0, none⟩ = some (.slice Ab nb cb) := HPB.out.cell 0
    have zHPB_1 : W4.cell? ⟨w.heap.size + 1, 1, none⟩ = some (.int .i64 K') := HPB.out.cell 1
    obtain ⟨qn, hqn⟩ : ∃ q, nameF fm = q := ⟨_, rfl⟩
    obtain ⟨qm, hqm⟩ : ∃ q, smayF M K = q := ⟨_, rfl⟩
    obtain ⟨qf, hqf⟩ : ∃ q, findI M fm = q := ⟨_, rfl⟩
    have HQN := Lib.hid hqn
    have HQM := Lib.hid hqm
    have HQF := Lib.hid hqf
    clear hqn hqm hqf
    have hd0 : Hid (Below W4.heap.size W4 W4.drew) := (Below.refl _ W4).drew
    have HCN := Lib.hid (fun (X : World) (hb : Hid (Below W4.heap.size W4 X)) => (name_any fm X (by have := HFM.out; omega)).mono (R' := fun e w' => e = .returned (.bool (nameF fm)) ∧ Hid (Below W4.heap.size W4 w')) fun e w' h => ⟨h.1, hb.out.trans (h.2.out.mono hb.out.size)⟩)
    have HCM := Lib.hid (fun (X : World) (hb : Hid (Below W4.heap.size W4 X)) => (smay_any Aa M na ca K X HNA.out (by omega) (HVA.out.below hb.out) HF1.out).mono (R' := fun e w' => e = .returned (.bool (smayF M K)) ∧ Hid (Below W4.heap.size W4 w')) fun e w' h => ⟨h.1, hb.out.trans (h.2.out.mono hb.out.size)⟩)
    have HCR := Lib.hid (fun (X : World) (hb : Hid (Below W4.heap.size W4 X)) => (rmay_any Aa M na ca K X HNA.out (by omega) (HVA.out.below hb.out)).mono (R' := fun e w' => e = .returned (.bool (smayF M K)) ∧ Hid (Below W4.heap.size W4 w')) fun e w' h => ⟨h.1, hb.out.trans (h.2.out.mono hb.out.size)⟩)
    have HCF := Lib.hid (fun (X : World) (hb : Hid (Below W4.heap.size W4 X)) => (find_any Aa M na ca K fm X HNA.out (by omega) (HVA.out.below hb.out)).mono (R' := fun e w' => e = .returned (.int .i64 (findI M fm)) ∧ Hid (Below W4.heap.size W4 w')) fun e w' h => ⟨h.1, hb.out.trans (h.2.out.mono hb.out.size)⟩)
    have HCG := Lib.hid (fun (X : World) (hb : Hid (Below W4.heap.size W4 X)) => (refFind_any Aa M na ca K fm X HNA.out (by omega) (HVA.out.below hb.out)).mono (R' := fun e w' => e = .returned (.int .i64 (findI M fm)) ∧ Hid (Below W4.heap.size W4 w')) fun e w' h => ⟨h.1, hb.out.trans (h.2.out.mono hb.out.size)⟩)
    clear zHPB_0 zHPB_1
    go_region_held3 (fun X => Hid (Below W4.heap.size W4 X) ∧ X.cell? ⟨w.heap.size, 0, none⟩ = some (.slice Aa na ca) ∧ X.cell? ⟨w.heap.size, 1, none⟩ = some (.int .i64 K)) ((first | assumption | (refine ⟨by assumption, ?_⟩; go_keep))) (first
      | (go_at_call 11; (with_reducible refine (HCN.out _ (by first | assumption | exact And.left (by assumption))).mono ?_); rintro e x ⟨rfl, hd⟩; rw [HQN.out]; have kzHPA_0 := keepC hd.out zHPA_0; have kzHPA_1 := keepC hd.out zHPA_1)
      | (go_at_call 12; (with_reducible refine (refName_any fm _).mono ?_); rintro e x ⟨rfl, hw⟩; rw [HQN.out]; subst hw)
      | (go_at_call 13; (with_reducible refine (HCM.out _ (by first | assumption | exact And.left (by assumption))).mono ?_); rintro e x ⟨rfl, hd⟩; rw [HQM.out]; have kzHPA_0 := keepC hd.out zHPA_0; have kzHPA_1 := keepC hd.out zHPA_1)
      | (go_at_call 14; (with_reducible refine (HCR.out _ (by first | assumption | exact And.left (by assumption))).mono ?_); rintro e x ⟨rfl, hd⟩; rw [HQM.out]; have kzHPA_0 := keepC hd.out zHPA_0; have kzHPA_1 := keepC hd.out zHPA_1)
      | (go_at_call 15; (with_reducible refine (HCF.out _ (by first | assumption | exact And.left (by assumption))).mono ?_); rintro e x ⟨rfl, hd⟩; rw [HQF.out]; have kzHPA_0 := keepC hd.out zHPA_0; have kzHPA_1 := keepC hd.out zHPA_1)
      | (go_at_call 16; (with_reducible refine (HCG.out _ (by first | assumption | exact And.left (by assumption))).mono ?_); rintro e x ⟨rfl, hd⟩; rw [HQF.out]; have kzHPA_0 := keepC hd.out zHPA_0; have kzHPA_1 := keepC hd.out zHPA_1))
    clear hd0 HCN HCM HCR HCF HCG kzHPA_0 kzHPA_1
    skip
    replace HB := Lib.hid (HB.out.trans (hd.out.mono HB.out.size))
    replace HPA := Lib.hid (HPA.out.below hd.out HPA.out.lt)
    replace HPB := Lib.hid (HPB.out.below hd.out HPB.out.lt)
    replace HVA := Lib.hid (HVA.out.below hd.out)
    replace HVB := Lib.hid (HVB.out.below hd.out)
    clear zHPA_0 zHPA_1
    have zHPA_0 : x.cell? ⟨w.heap.size, 0, none⟩ = some (.slice Aa na ca) := HPA.out.cell 0
    have zHPA_1 : x.cell? ⟨w.heap.size, 1, none⟩ = some (.int .i64 K) := HPA.out.cell 1
    go_wp2_with fail
    refine (clone4_any Aa M na ca K x HNA.out (by omega) HVA.out HZA.out).mono ?_
    rintro e w5 ⟨v5, rfl, ho5, hb⟩
    clear zHPA_0 zHPA_1
    replace HB := Lib.hid (HB.out.trans (hb.out.mono HB.out.size))
    replace HPA := Lib.hid (HPA.out.below hb.out HPA.out.lt)
    replace HPB := Lib.hid (HPB.out.below hb.out HPB.out.lt)
    replace HVA := Lib.hid (HVA.out.below hb.out)
    replace HVB := Lib.hid (HVB.out.below hb.out)
    obtain ⟨A5, n5, c5, rfl, HN5, _, _, HV5, _⟩ := ownC_open ho5.out
    obtain rfl : na = n5 := HNA.out.symm.trans HN5.out
    clear ho5
    clear hb
    have hb : Below w5.heap.size w5 (w5.alloc (.cells #[.slice A5 na c5, .int .i64 K] 24)) := (Below.refl _ _).alloc (Nat.le_refl _) _
    replace HB := Lib.hid (HB.out.trans (hb.mono HB.out.size))
    replace HPA := Lib.hid (HPA.out.below hb HPA.out.lt)
    replace HPB := Lib.hid (HPB.out.below hb HPB.out.lt)
    replace HVA := Lib.hid (HVA.out.below hb)
    replace HVB := Lib.hid (HVB.out.below hb)
    replace HV5 := Lib.hid (HV5.out.below hb)
    clear hb
    have HC := Lib.hid (Has.new w5 24 #[.slice A5 na c5, .int .i64 K])
    have zHPA_0 : (w5.alloc (.cells #[.slice A5 na c5, .int .i64 K] 24)).cell? ⟨w.heap.size, 0, none⟩ = some (.slice Aa na ca) := HPA.out.cell 0
    have zHPA_1 : (w5.alloc (.cells #[.slice A5 na c5, .int .i64 K] 24)).cell? ⟨w.heap.size, 1, none⟩ = some (.int .i64 K) := HPA.out.cell 1
    go_wp2_with fail
    clear zHPA_0 zHPA_1
    obtain ⟨W6, hW2⟩ : ∃ W, W = (w5.alloc (.cells #[.slice A5 na c5, .int .i64 K] 24)) := ⟨_, rfl⟩
    rw [← hW2] at HB HPA HPB HVA HVB HV5 HC ⊢
    clear hW2
    refine (rgood_any Aa M na ca K W6 HNA.out hnca hcam HVA.out HF1.out hk0 hk1).mono ?_
    rintro e w7 ⟨v7, rfl, ho7, hb⟩
    replace HB := Lib.hid (HB.out.trans (hb.out.mono HB.out.size))
    replace HPA := Lib.hid (HPA.out.below hb.out HPA.out.lt)
    replace HPB := Lib.hid (HPB.out.below hb.out HPB.out.lt)
    replace HVA := Lib.hid (HVA.out.below hb.out)
    replace HVB := Lib.hid (HVB.out.below hb.out)
    replace HV5 := Lib.hid (HV5.out.below hb.out)
    replace HC := Lib.hid (HC.out.below hb.out HC.out.lt)
    have HGS := Lib.hid (goodS_is M K)
    generalize gdC M K = G at *
    generalize gdK M K = gk at *
    obtain ⟨Ag, ng, cg, rfl, HNG, hngc, hcgm, HVG, _⟩ := ownC_open ho7.out
    have HSM := Lib.hid (goodS_may G gk HGS.out)
    have HFG := Lib.hid (fun x hx => (goodS_fit G gk HGS.out x hx).2.2.2)
    have hng := HGS.out.len.2
    rw [HNG.out] at hng
    clear ho7
    clear hb
    have hb : Below w7.heap.size w7 (w7.alloc (.cells #[.slice Ag ng cg, .int .i64 gk] 24)) := (Below.refl _ _).alloc (Nat.le_refl _) _
    replace HB := Lib.hid (HB.out.trans (hb.mono HB.out.size))
    replace HPA := Lib.hid (HPA.out.below hb HPA.out.lt)
    replace HPB := Lib.hid (HPB.out.below hb HPB.out.lt)
    replace HVA := Lib.hid (HVA.out.below hb)
    replace HVB := Lib.hid (HVB.out.below hb)
    replace HV5 := Lib.hid (HV5.out.below hb)
    replace HC := Lib.hid (HC.out.below hb HC.out.lt)
    replace HVG := Lib.hid (HVG.out.below hb)
    clear hb
    have HG := Lib.hid (Has.new w7 24 #[.slice Ag ng cg, .int .i64 gk])
    go_wp2_with fail
    obtain ⟨W8, hW3⟩ : ∃ W, W = (w7.alloc (.cells #[.slice Ag ng cg, .int .i64 gk] 24)) := ⟨_, rfl⟩
    rw [← hW3] at HB HPA HPB HVA HVB HV5 HC HVG HG ⊢
    clear hW3
    have zHPA_0 : W8.cell? ⟨w.heap.size, 0, none⟩ = some (.slice Aa na ca) := HPA.out.cell 0
    have zHPA_1 : W8.cell? ⟨w.heap.size, 1, none⟩ = some (.int .i64 K) := HPA.out.cell 1
    have zHPB_0 : W8.cell? ⟨w.heap.size + 1, 0, none⟩ = some (.slice Ab nb cb) := HPB.out.cell 0
    have zHPB_1 : W8.cell? ⟨w.heap.size + 1, 1, none⟩ = some (.int .i64 K') := HPB.out.cell 1
    have zHC_0 : W8.cell? ⟨w5.heap.size, 0, none⟩ = some (.slice A5 na c5) := HC.out.cell 0
    have zHC_1 : W8.cell? ⟨w5.heap.size, 1, none⟩ = some (.int .i64 K) := HC.out.cell 1
    have zHG_0 : W8.cell? ⟨w7.heap.size, 0, none⟩ = some (.slice Ag ng cg) := HG.out.cell 0
    have zHG_1 : W8.cell? ⟨w7.heap.size, 1, none⟩ = some (.int .i64 gk) := HG.out.cell 1
    obtain ⟨qs, hqs⟩ : ∃ q, ssF M K M' K' = q := ⟨_, rfl⟩
    have HQS := Lib.hid hqs
    clear hqs
    have hd0 : Hid (Below W8.heap.size W8 W8.drew) := (Below.refl _ W8).drew
    have HC1 := Lib.hid (fun (X : World) (hb : Hid (Below W8.heap.size W8 X)) => (smay_any Ag G ng cg gk X HNG.out (by omega) (HVG.out.below hb.out) HFG.out).mono (R' := fun e w' => e = .returned (.bool (smayF G gk)) ∧ Hid (Below W8.heap.size W8 w')) fun e w' h => ⟨h.1, hb.out.trans (h.2.out.mono hb.out.size)⟩)
    have HC2 := Lib.hid (fun (X : World) (hb : Hid (Below W8.heap.size W8 X)) => (same4_any Aa M na ca K Ab M' nb cb K' X HNA.out HNB.out (by omega) (by omega) (HVA.out.below hb.out) (HVB.out.below hb.out)).mono (R' := fun e w' => e = .returned (.bool (ssF M K M' K')) ∧ Hid (Below W8.heap.size W8 w')) fun e w' h => ⟨h.1, hb.out.trans (h.2.out.mono hb.out.size)⟩)
    have HC3 := Lib.hid (fun (X : World) (hb : Hid (Below W8.heap.size W8 X)) => (rsame_any Aa M na ca K Ab M' nb cb K' X HNA.out HNB.out (by omega) (by omega) (HVA.out.below hb.out) (HVB.out.below hb.out)).mono (R' := fun e w' => e = .returned (.bool (ssF M K M' K')) ∧ Hid (Below W8.heap.size W8 w')) fun e w' h => ⟨h.1, hb.out.trans (h.2.out.mono hb.out.size)⟩)
    have HC4 := Lib.hid (fun (X : World) (hb : Hid (Below W8.heap.size W8 X)) => (rsame_any A5 M na c5 K Aa M na ca K X HNA.out HNA.out (by omega) (by omega) (HV5.out.below hb.out) (HVA.out.below hb.out)).mono (R' := fun e w' => e = .returned (.bool (ssF M K M K)) ∧ Hid (Below W8.heap.size W8 w')) fun e w' h => ⟨h.1, hb.out.trans (h.2.out.mono hb.out.size)⟩)
    have HC5 := Lib.hid (fun (X : World) (hb : Hid (Below W8.heap.size W8 X)) => (same4_any A5 M na c5 K Aa M na ca K X HNA.out HNA.out (by omega) (by omega) (HV5.out.below hb.out) (HVA.out.below hb.out)).mono (R' := fun e w' => e = .returned (.bool (ssF M K M K)) ∧ Hid (Below W8.heap.size W8 w')) fun e w' h => ⟨h.1, hb.out.trans (h.2.out.mono hb.out.size)⟩)
    have HC6 := Lib.hid (fun (X : World) (hb : Hid (Below W8.heap.size W8 X)) => (lives4_any X).mono (R' := fun e w' => e = .returned (.bool (true)) ∧ Hid (Below W8.heap.size W8 w')) fun e w' h => ⟨h.1, hb.out.trans (h.2.out.mono hb.out.size)⟩)
    go_region_held3 (fun X => Hid (Below W8.heap.size W8 X) ∧ X.cell? ⟨w.heap.size, 0, none⟩ = some (.slice Aa na ca) ∧ X.cell? ⟨w.heap.size, 1, none⟩ = some (.int .i64 K) ∧ X.cell? ⟨w.heap.size + 1, 0, none⟩ = some (.slice Ab nb cb) ∧ X.cell? ⟨w.heap.size + 1, 1, none⟩ = some (.int .i64 K') ∧ X.cell? ⟨w5.heap.size, 0, none⟩ = some (.slice A5 na c5) ∧ X.cell? ⟨w5.heap.size, 1, none⟩ = some (.int .i64 K) ∧ X.cell? ⟨w7.heap.size, 0, none⟩ = some (.slice Ag ng cg) ∧ X.cell? ⟨w7.heap.size, 1, none⟩ = some (.int .i64 gk)) ((first | assumption | (refine ⟨by assumption, ?_⟩; go_keep))) (first
      | (go_at_call 13; (with_reducible refine (HC1.out _ (by first | assumption | exact And.left (by assumption))).mono ?_); rintro e x ⟨rfl, hd⟩; rw [HSM.out]; have kzHPA_0 := keepC hd.out zHPA_0; have kzHPA_1 := keepC hd.out zHPA_1; have kzHPB_0 := keepC hd.out zHPB_0; have kzHPB_1 := keepC hd.out zHPB_1; have kzHC_0 := keepC hd.out zHC_0; have kzHC_1 := keepC hd.out zHC_1; have kzHG_0 := keepC hd.out zHG_0; have kzHG_1 := keepC hd.out zHG_1)
      | (go_at_call 19; (with_reducible refine (HC2.out _ (by first | assumption | exact And.left (by assumption))).mono ?_); rintro e x ⟨rfl, hd⟩; rw [HQS.out]; have kzHPA_0 := keepC hd.out zHPA_0; have kzHPA_1 := keepC hd.out zHPA_1; have kzHPB_0 := keepC hd.out zHPB_0; have kzHPB_1 := keepC hd.out zHPB_1; have kzHC_0 := keepC hd.out zHC_0; have kzHC_1 := keepC hd.out zHC_1; have kzHG_0 := keepC hd.out zHG_0; have kzHG_1 := keepC hd.out zHG_1)
      | (go_at_call 20; (with_reducible refine (HC3.out _ (by first | assumption | exact And.left (by assumption))).mono ?_); rintro e x ⟨rfl, hd⟩; rw [HQS.out]; have kzHPA_0 := keepC hd.out zHPA_0; have kzHPA_1 := keepC hd.out zHPA_1; have kzHPB_0 := keepC hd.out zHPB_0; have kzHPB_1 := keepC hd.out zHPB_1; have kzHC_0 := keepC hd.out zHC_0; have kzHC_1 := keepC hd.out zHC_1; have kzHG_0 := keepC hd.out zHG_0; have kzHG_1 := keepC hd.out zHG_1)
      | (go_at_call 20; (with_reducible refine (HC4.out _ (by first | assumption | exact And.left (by assumption))).mono ?_); rintro e x ⟨rfl, hd⟩; rw [ssF_refl]; have kzHPA_0 := keepC hd.out zHPA_0; have kzHPA_1 := keepC hd.out zHPA_1; have kzHPB_0 := keepC hd.out zHPB_0; have kzHPB_1 := keepC hd.out zHPB_1; have kzHC_0 := keepC hd.out zHC_0; have kzHC_1 := keepC hd.out zHC_1; have kzHG_0 := keepC hd.out zHG_0; have kzHG_1 := keepC hd.out zHG_1)
      | (go_at_call 19; (with_reducible refine (HC5.out _ (by first | assumption | exact And.left (by assumption))).mono ?_); rintro e x ⟨rfl, hd⟩; rw [ssF_refl]; have kzHPA_0 := keepC hd.out zHPA_0; have kzHPA_1 := keepC hd.out zHPA_1; have kzHPB_0 := keepC hd.out zHPB_0; have kzHPB_1 := keepC hd.out zHPB_1; have kzHC_0 := keepC hd.out zHC_0; have kzHC_1 := keepC hd.out zHC_1; have kzHG_0 := keepC hd.out zHG_0; have kzHG_1 := keepC hd.out zHG_1)
      | (go_at_call 21; (with_reducible refine (HC6.out _ (by first | assumption | exact And.left (by assumption))).mono ?_); rintro e x ⟨rfl, hd⟩; have kzHPA_0 := keepC hd.out zHPA_0; have kzHPA_1 := keepC hd.out zHPA_1; have kzHPB_0 := keepC hd.out zHPB_0; have kzHPB_1 := keepC hd.out zHPB_1; have kzHC_0 := keepC hd.out zHC_0; have kzHC_1 := keepC hd.out zHC_1; have kzHG_0 := keepC hd.out zHG_0; have kzHG_1 := keepC hd.out zHG_1))
    all_goals
      go_wp2_with fail
      go_ret
      exact ⟨rfl, HB.out.trans (hd.out.mono HB.out.size)⟩
  · have hfm : forty s = s := by unfold forty; rw [if_neg hz]
    rw [hfm] at HFM
    clear hfm
    go_wp2_with fail
    clear HQ HOA HOB y0 y1 zHQ_0 zHQ_1
    obtain ⟨fm, hfm2⟩ : ∃ fm, fm = s := ⟨_, rfl⟩
    subst hfm2
    obtain ⟨W4, hW1⟩ : ∃ W, W = ((w3.setCell ⟨w.heap.size + 1, 0, none⟩ (.slice Ab nb cb)).setCell ⟨w.heap.size + 1, 1, none⟩ (.int .i64 K')) := ⟨_, rfl⟩
    rw [← hW1] at HB HPA HPB HVA HVB ⊢
    clear hW1
    have zHPA_0 : W4.cell? ⟨w.heap.size, 0, none⟩ = some (.slice Aa na ca) := HPA.out.cell 0
    have zHPA_1 : W4.cell? ⟨w.heap.size, 1, none⟩ = some (.int .i64 K) := HPA.out.cell 1
    have zHPB_0 : W4.cell? ⟨w.heap.size + 1, 0, none⟩ = some (.slice Ab nb cb) := HPB.out.cell 0
    have zHPB_1 : W4.cell? ⟨w.heap.size + 1, 1, none⟩ = some (.int .i64 K') := HPB.out.cell 1
    obtain ⟨qn, hqn⟩ : ∃ q, nameF fm = q := ⟨_, rfl⟩
    obtain ⟨qm, hqm⟩ : ∃ q, smayF M K = q := ⟨_, rfl⟩
    obtain ⟨qf, hqf⟩ : ∃ q, findI M fm = q := ⟨_, rfl⟩
    have HQN := Lib.hid hqn
    have HQM := Lib.hid hqm
    have HQF := Lib.hid hqf
    clear hqn hqm hqf
    have hd0 : Hid (Below W4.heap.size W4 W4.drew) := (Below.refl _ W4).drew
    have HCN := Lib.hid (fun (X : World) (hb : Hid (Below W4.heap.size W4 X)) => (name_any fm X (by have := HFM.out; omega)).mono (R' := fun e w' => e = .returned (.bool (nameF fm)) ∧ Hid (Below W4.heap.size W4 w')) fun e w' h => ⟨h.1, hb.out.trans (h.2.out.mono hb.out.size)⟩)
    have HCM := Lib.hid (fun (X : World) (hb : Hid (Below W4.heap.size W4 X)) => (smay_any Aa M na ca K X HNA.out (by omega) (HVA.out.below hb.out) HF1.out).mono (R' := fun e w' => e = .returned (.bool (smayF M K)) ∧ Hid (Below W4.heap.size W4 w')) fun e w' h => ⟨h.1, hb.out.trans (h.2.out.mono hb.out.size)⟩)
    have HCR := Lib.hid (fun (X : World) (hb : Hid (Below W4.heap.size W4 X)) => (rmay_any Aa M na ca K X HNA.out (by omega) (HVA.out.below hb.out)).mono (R' := fun e w' => e = .returned (.bool (smayF M K)) ∧ Hid (Below W4.heap.size W4 w')) fun e w' h => ⟨h.1, hb.out.trans (h.2.out.mono hb.out.size)⟩)
    have HCF := Lib.hid (fun (X : World) (hb : Hid (Below W4.heap.size W4 X)) => (find_any Aa M na ca K fm X HNA.out (by omega) (HVA.out.below hb.out)).mono (R' := fun e w' => e = .returned (.int .i64 (findI M fm)) ∧ Hid (Below W4.heap.size W4 w')) fun e w' h => ⟨h.1, hb.out.trans (h.2.out.mono hb.out.size)⟩)
    have HCG := Lib.hid (fun (X : World) (hb : Hid (Below W4.heap.size W4 X)) => (refFind_any Aa M na ca K fm X HNA.out (by omega) (HVA.out.below hb.out)).mono (R' := fun e w' => e = .returned (.int .i64 (findI M fm)) ∧ Hid (Below W4.heap.size W4 w')) fun e w' h => ⟨h.1, hb.out.trans (h.2.out.mono hb.out.size)⟩)
    clear zHPB_0 zHPB_1
    go_region_held3 (fun X => Hid (Below W4.heap.size W4 X) ∧ X.cell? ⟨w.heap.size, 0, none⟩ = some (.slice Aa na ca) ∧ X.cell? ⟨w.heap.size, 1, none⟩ = some (.int .i64 K)) ((first | assumption | (refine ⟨by assumption, ?_⟩; go_keep))) (first
      | (go_at_call 11; (with_reducible refine (HCN.out _ (by first | assumption | exact And.left (by assumption))).mono ?_); rintro e x ⟨rfl, hd⟩; rw [HQN.out]; have kzHPA_0 := keepC hd.out zHPA_0; have kzHPA_1 := keepC hd.out zHPA_1)
      | (go_at_call 12; (with_reducible refine (refName_any fm _).mono ?_); rintro e x ⟨rfl, hw⟩; rw [HQN.out]; subst hw)
      | (go_at_call 13; (with_reducible refine (HCM.out _ (by first | assumption | exact And.left (by assumption))).mono ?_); rintro e x ⟨rfl, hd⟩; rw [HQM.out]; have kzHPA_0 := keepC hd.out zHPA_0; have kzHPA_1 := keepC hd.out zHPA_1)
      | (go_at_call 14; (with_reducible refine (HCR.out _ (by first | assumption | exact And.left (by assumption))).mono ?_); rintro e x ⟨rfl, hd⟩; rw [HQM.out]; have kzHPA_0 := keepC hd.out zHPA_0; have kzHPA_1 := keepC hd.out zHPA_1)
      | (go_at_call 15; (with_reducible refine (HCF.out _ (by first | assumption | exact And.left (by assumption))).mono ?_); rintro e x ⟨rfl, hd⟩; rw [HQF.out]; have kzHPA_0 := keepC hd.out zHPA_0; have kzHPA_1 := keepC hd.out zHPA_1)
      | (go_at_call 16; (with_reducible refine (HCG.out _ (by first | assumption | exact And.left (by assumption))).mono ?_); rintro e x ⟨rfl, hd⟩; rw [HQF.out]; have kzHPA_0 := keepC hd.out zHPA_0; have kzHPA_1 := keepC hd.out zHPA_1))
    clear hd0 HCN HCM HCR HCF HCG kzHPA_0 kzHPA_1
    skip
    replace HB := Lib.hid (HB.out.trans (hd.out.mono HB.out.size))
    replace HPA := Lib.hid (HPA.out.below hd.out HPA.out.lt)
    replace HPB := Lib.hid (HPB.out.below hd.out HPB.out.lt)
    replace HVA := Lib.hid (HVA.out.below hd.out)
    replace HVB := Lib.hid (HVB.out.below hd.out)
    clear zHPA_0 zHPA_1
    have zHPA_0 : x.cell? ⟨w.heap.size, 0, none⟩ = some (.slice Aa na ca) := HPA.out.cell 0
    have zHPA_1 : x.cell? ⟨w.heap.size, 1, none⟩ = some (.int .i64 K) := HPA.out.cell 1
    go_wp2_with fail
    refine (clone4_any Aa M na ca K x HNA.out (by omega) HVA.out HZA.out).mono ?_
    rintro e w5 ⟨v5, rfl, ho5, hb⟩
    clear zHPA_0 zHPA_1
    replace HB := Lib.hid (HB.out.trans (hb.out.mono HB.out.size))
    replace HPA := Lib.hid (HPA.out.below hb.out HPA.out.lt)
    replace HPB := Lib.hid (HPB.out.below hb.out HPB.out.lt)
    replace HVA := Lib.hid (HVA.out.below hb.out)
    replace HVB := Lib.hid (HVB.out.below hb.out)
    obtain ⟨A5, n5, c5, rfl, HN5, _, _, HV5, _⟩ := ownC_open ho5.out
    obtain rfl : na = n5 := HNA.out.symm.trans HN5.out
    clear ho5
    clear hb
    have hb : Below w5.heap.size w5 (w5.alloc (.cells #[.slice A5 na c5, .int .i64 K] 24)) := (Below.refl _ _).alloc (Nat.le_refl _) _
    replace HB := Lib.hid (HB.out.trans (hb.mono HB.out.size))
    replace HPA := Lib.hid (HPA.out.below hb HPA.out.lt)
    replace HPB := Lib.hid (HPB.out.below hb HPB.out.lt)
    replace HVA := Lib.hid (HVA.out.below hb)
    replace HVB := Lib.hid (HVB.out.below hb)
    replace HV5 := Lib.hid (HV5.out.below hb)
    clear hb
    have HC := Lib.hid (Has.new w5 24 #[.slice A5 na c5, .int .i64 K])
    have zHPA_0 : (w5.alloc (.cells #[.slice A5 na c5, .int .i64 K] 24)).cell? ⟨w.heap.size, 0, none⟩ = some (.slice Aa na ca) := HPA.out.cell 0
    have zHPA_1 : (w5.alloc (.cells #[.slice A5 na c5, .int .i64 K] 24)).cell? ⟨w.heap.size, 1, none⟩ = some (.int .i64 K) := HPA.out.cell 1
    go_wp2_with fail
    clear zHPA_0 zHPA_1
    obtain ⟨W6, hW2⟩ : ∃ W, W = (w5.alloc (.cells #[.slice A5 na c5, .int .i64 K] 24)) := ⟨_, rfl⟩
    rw [← hW2] at HB HPA HPB HVA HVB HV5 HC ⊢
    clear hW2
    refine (rgood_any Aa M na ca K W6 HNA.out hnca hcam HVA.out HF1.out hk0 hk1).mono ?_
    rintro e w7 ⟨v7, rfl, ho7, hb⟩
    replace HB := Lib.hid (HB.out.trans (hb.out.mono HB.out.size))
    replace HPA := Lib.hid (HPA.out.below hb.out HPA.out.lt)
    replace HPB := Lib.hid (HPB.out.below hb.out HPB.out.lt)
    replace HVA := Lib.hid (HVA.out.below hb.out)
    replace HVB := Lib.hid (HVB.out.below hb.out)
    replace HV5 := Lib.hid (HV5.out.below hb.out)
    replace HC := Lib.hid (HC.out.below hb.out HC.out.lt)
    have HGS := Lib.hid (goodS_is M K)
    generalize gdC M K = G at *
    generalize gdK M K = gk at *
    obtain ⟨Ag, ng, cg, rfl, HNG, hngc, hcgm, HVG, _⟩ := ownC_open ho7.out
    have HSM := Lib.hid (goodS_may G gk HGS.out)
    have HFG := Lib.hid (fun x hx => (goodS_fit G gk HGS.out x hx).2.2.2)
    have hng := HGS.out.len.2
    rw [HNG.out] at hng
    clear ho7
    clear hb
    have hb : Below w7.heap.size w7 (w7.alloc (.cells #[.slice Ag ng cg, .int .i64 gk] 24)) := (Below.refl _ _).alloc (Nat.le_refl _) _
    replace HB := Lib.hid (HB.out.trans (hb.mono HB.out.size))
    replace HPA := Lib.hid (HPA.out.below hb HPA.out.lt)
    replace HPB := Lib.hid (HPB.out.below hb HPB.out.lt)
    replace HVA := Lib.hid (HVA.out.below hb)
    replace HVB := Lib.hid (HVB.out.below hb)
    replace HV5 := Lib.hid (HV5.out.below hb)
    replace HC := Lib.hid (HC.out.below hb HC.out.lt)
    replace HVG := Lib.hid (HVG.out.below hb)
    clear hb
    have HG := Lib.hid (Has.new w7 24 #[.slice Ag ng cg, .int .i64 gk])
    go_wp2_with fail
    obtain ⟨W8, hW3⟩ : ∃ W, W = (w7.alloc (.cells #[.slice Ag ng cg, .int .i64 gk] 24)) := ⟨_, rfl⟩
    rw [← hW3] at HB HPA HPB HVA HVB HV5 HC HVG HG ⊢
    clear hW3
    have zHPA_0 : W8.cell? ⟨w.heap.size, 0, none⟩ = some (.slice Aa na ca) := HPA.out.cell 0
    have zHPA_1 : W8.cell? ⟨w.heap.size, 1, none⟩ = some (.int .i64 K) := HPA.out.cell 1
    have zHPB_0 : W8.cell? ⟨w.heap.size + 1, 0, none⟩ = some (.slice Ab nb cb) := HPB.out.cell 0
    have zHPB_1 : W8.cell? ⟨w.heap.size + 1, 1, none⟩ = some (.int .i64 K') := HPB.out.cell 1
    have zHC_0 : W8.cell? ⟨w5.heap.size, 0, none⟩ = some (.slice A5 na c5) := HC.out.cell 0
    have zHC_1 : W8.cell? ⟨w5.heap.size, 1, none⟩ = some (.int .i64 K) := HC.out.cell 1
    have zHG_0 : W8.cell? ⟨w7.heap.size, 0, none⟩ = some (.slice Ag ng cg) := HG.out.cell 0
    have zHG_1 : W8.cell? ⟨w7.heap.size, 1, none⟩ = some (.int .i64 gk) := HG.out.cell 1
    obtain ⟨qs, hqs⟩ : ∃ q, ssF M K M' K' = q := ⟨_, rfl⟩
    have HQS := Lib.hid hqs
    clear hqs
    have hd0 : Hid (Below W8.heap.size W8 W8.drew) := (Below.refl _ W8).drew
    have HC1 := Lib.hid (fun (X : World) (hb : Hid (Below W8.heap.size W8 X)) => (smay_any Ag G ng cg gk X HNG.out (by omega) (HVG.out.below hb.out) HFG.out).mono (R' := fun e w' => e = .returned (.bool (smayF G gk)) ∧ Hid (Below W8.heap.size W8 w')) fun e w' h => ⟨h.1, hb.out.trans (h.2.out.mono hb.out.size)⟩)
    have HC2 := Lib.hid (fun (X : World) (hb : Hid (Below W8.heap.size W8 X)) => (same4_any Aa M na ca K Ab M' nb cb K' X HNA.out HNB.out (by omega) (by omega) (HVA.out.below hb.out) (HVB.out.below hb.out)).mono (R' := fun e w' => e = .returned (.bool (ssF M K M' K')) ∧ Hid (Below W8.heap.size W8 w')) fun e w' h => ⟨h.1, hb.out.trans (h.2.out.mono hb.out.size)⟩)
    have HC3 := Lib.hid (fun (X : World) (hb : Hid (Below W8.heap.size W8 X)) => (rsame_any Aa M na ca K Ab M' nb cb K' X HNA.out HNB.out (by omega) (by omega) (HVA.out.below hb.out) (HVB.out.below hb.out)).mono (R' := fun e w' => e = .returned (.bool (ssF M K M' K')) ∧ Hid (Below W8.heap.size W8 w')) fun e w' h => ⟨h.1, hb.out.trans (h.2.out.mono hb.out.size)⟩)
    have HC4 := Lib.hid (fun (X : World) (hb : Hid (Below W8.heap.size W8 X)) => (rsame_any A5 M na c5 K Aa M na ca K X HNA.out HNA.out (by omega) (by omega) (HV5.out.below hb.out) (HVA.out.below hb.out)).mono (R' := fun e w' => e = .returned (.bool (ssF M K M K)) ∧ Hid (Below W8.heap.size W8 w')) fun e w' h => ⟨h.1, hb.out.trans (h.2.out.mono hb.out.size)⟩)
    have HC5 := Lib.hid (fun (X : World) (hb : Hid (Below W8.heap.size W8 X)) => (same4_any A5 M na c5 K Aa M na ca K X HNA.out HNA.out (by omega) (by omega) (HV5.out.below hb.out) (HVA.out.below hb.out)).mono (R' := fun e w' => e = .returned (.bool (ssF M K M K)) ∧ Hid (Below W8.heap.size W8 w')) fun e w' h => ⟨h.1, hb.out.trans (h.2.out.mono hb.out.size)⟩)
    have HC6 := Lib.hid (fun (X : World) (hb : Hid (Below W8.heap.size W8 X)) => (lives4_any X).mono (R' := fun e w' => e = .returned (.bool (true)) ∧ Hid (Below W8.heap.size W8 w')) fun e w' h => ⟨h.1, hb.out.trans (h.2.out.mono hb.out.size)⟩)
    go_region_held3 (fun X => Hid (Below W8.heap.size W8 X) ∧ X.cell? ⟨w.heap.size, 0, none⟩ = some (.slice Aa na ca) ∧ X.cell? ⟨w.heap.size, 1, none⟩ = some (.int .i64 K) ∧ X.cell? ⟨w.heap.size + 1, 0, none⟩ = some (.slice Ab nb cb) ∧ X.cell? ⟨w.heap.size + 1, 1, none⟩ = some (.int .i64 K') ∧ X.cell? ⟨w5.heap.size, 0, none⟩ = some (.slice A5 na c5) ∧ X.cell? ⟨w5.heap.size, 1, none⟩ = some (.int .i64 K) ∧ X.cell? ⟨w7.heap.size, 0, none⟩ = some (.slice Ag ng cg) ∧ X.cell? ⟨w7.heap.size, 1, none⟩ = some (.int .i64 gk)) ((first | assumption | (refine ⟨by assumption, ?_⟩; go_keep))) (first
      | (go_at_call 13; (with_reducible refine (HC1.out _ (by first | assumption | exact And.left (by assumption))).mono ?_); rintro e x ⟨rfl, hd⟩; rw [HSM.out]; have kzHPA_0 := keepC hd.out zHPA_0; have kzHPA_1 := keepC hd.out zHPA_1; have kzHPB_0 := keepC hd.out zHPB_0; have kzHPB_1 := keepC hd.out zHPB_1; have kzHC_0 := keepC hd.out zHC_0; have kzHC_1 := keepC hd.out zHC_1; have kzHG_0 := keepC hd.out zHG_0; have kzHG_1 := keepC hd.out zHG_1)
      | (go_at_call 19; (with_reducible refine (HC2.out _ (by first | assumption | exact And.left (by assumption))).mono ?_); rintro e x ⟨rfl, hd⟩; rw [HQS.out]; have kzHPA_0 := keepC hd.out zHPA_0; have kzHPA_1 := keepC hd.out zHPA_1; have kzHPB_0 := keepC hd.out zHPB_0; have kzHPB_1 := keepC hd.out zHPB_1; have kzHC_0 := keepC hd.out zHC_0; have kzHC_1 := keepC hd.out zHC_1; have kzHG_0 := keepC hd.out zHG_0; have kzHG_1 := keepC hd.out zHG_1)
      | (go_at_call 20; (with_reducible refine (HC3.out _ (by first | assumption | exact And.left (by assumption))).mono ?_); rintro e x ⟨rfl, hd⟩; rw [HQS.out]; have kzHPA_0 := keepC hd.out zHPA_0; have kzHPA_1 := keepC hd.out zHPA_1; have kzHPB_0 := keepC hd.out zHPB_0; have kzHPB_1 := keepC hd.out zHPB_1; have kzHC_0 := keepC hd.out zHC_0; have kzHC_1 := keepC hd.out zHC_1; have kzHG_0 := keepC hd.out zHG_0; have kzHG_1 := keepC hd.out zHG_1)
      | (go_at_call 20; (with_reducible refine (HC4.out _ (by first | assumption | exact And.left (by assumption))).mono ?_); rintro e x ⟨rfl, hd⟩; rw [ssF_refl]; have kzHPA_0 := keepC hd.out zHPA_0; have kzHPA_1 := keepC hd.out zHPA_1; have kzHPB_0 := keepC hd.out zHPB_0; have kzHPB_1 := keepC hd.out zHPB_1; have kzHC_0 := keepC hd.out zHC_0; have kzHC_1 := keepC hd.out zHC_1; have kzHG_0 := keepC hd.out zHG_0; have kzHG_1 := keepC hd.out zHG_1)
      | (go_at_call 19; (with_reducible refine (HC5.out _ (by first | assumption | exact And.left (by assumption))).mono ?_); rintro e x ⟨rfl, hd⟩; rw [ssF_refl]; have kzHPA_0 := keepC hd.out zHPA_0; have kzHPA_1 := keepC hd.out zHPA_1; have kzHPB_0 := keepC hd.out zHPB_0; have kzHPB_1 := keepC hd.out zHPB_1; have kzHC_0 := keepC hd.out zHC_0; have kzHC_1 := keepC hd.out zHC_1; have kzHG_0 := keepC hd.out zHG_0; have kzHG_1 := keepC hd.out zHG_1)
      | (go_at_call 21; (with_reducible refine (HC6.out _ (by first | assumption | exact And.left (by assumption))).mono ?_); rintro e x ⟨rfl, hd⟩; have kzHPA_0 := keepC hd.out zHPA_0; have kzHPA_1 := keepC hd.out zHPA_1; have kzHPB_0 := keepC hd.out zHPB_0; have kzHPB_1 := keepC hd.out zHPB_1; have kzHC_0 := keepC hd.out zHC_0; have kzHC_1 := keepC hd.out zHC_1; have kzHG_0 := keepC hd.out zHG_0; have kzHG_1 := keepC hd.out zHG_1))
    all_goals
      go_wp2_with fail
      go_ret
      exact ⟨rfl, HB.out.trans (hd.out.mono HB.out.size)⟩
end Go.Proofs.Yticfhjimbochlaa.schemaMay
