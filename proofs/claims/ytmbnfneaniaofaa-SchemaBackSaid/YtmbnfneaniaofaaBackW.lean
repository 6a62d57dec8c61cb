/-
  The law SchemaBack walked: a column that is added, and cut again.
-/
import Derived.Test.YtmbnfneaniaofaaGood4
import Derived.Test.YtmbnfneaniaofaaRow4
import Derived.Test.YtmbnfneaniaofaaTurn
import Derived.Test.YtmbnfneaniaofaaLives4
import Derived.Test.YtmbnfneaniaofaaSsame
import Derived.Test.YtmbnfneaniaofaaSame
namespace Go.Proofs.Ytmbnfneaniaofaa.schemaBack
open Go.RowKit Dg
theorem add_ok {M : List Cl} {k : Int} {nm : ByteArray} {kd : Int} {no : Bool} (h : (doesF M k 3 nm kd no).e = 0) :
    doesF M k 3 nm kd no = ⟨M.length, M.length, 1, 0⟩ ∧ findI M nm < 0 ∧ nameF nm = true ∧ kindF kd = true ∧ no = true ∧ M.length < 16 := by
  unfold doesF at *
  rw [if_pos rfl] at *
  unfold addF at *
  split at h
  · cases h
  · rename_i h1
    split at h
    · cases h
    · rename_i h2
      split at h
      · cases h
      · rename_i h3
        rw [if_neg h1, if_neg h2, if_neg h3]
        have h4 : (nameF nm && kindF kd && no) = true := by
          cases hh : (nameF nm && kindF kd && no)
          · exact absurd hh h1
          · rfl
        simp only [Bool.and_eq_true] at h4
        exact ⟨rfl, by omega, h4.1.1, h4.1.2, h4.2, by omega⟩
theorem add_L (M : List Cl) (nm : ByteArray) (kd : Int) : applyL M ⟨M.length, M.length, 1, 0⟩ nm kd = M ++ [⟨nm, kd, true⟩] := by
  simp [applyL]
theorem cut_F {M : List Cl} {k : Nat} {nm : ByteArray} {kd : Int} {no : Bool} (x : Cl) (hx : x.nm = nm) (h : findI M nm < 0) (hk : k ≤ M.length) : doesF (M ++ [x]) (k : Int) 4 nm kd no = ⟨M.length, M.length + 1, 0, 0⟩ := by
  have hf : findI (M ++ [x]) nm = (M.length : Nat) := findI_at (by simp) (by rw [List.getElem_append_right (by omega)]; simp [hx]) fun j hj => by
    rw [List.getElem_append_left hj]; exact findI_neg h j hj
  unfold doesF cutF
  rw [if_neg (by omega), if_pos rfl, hf, if_neg (by omega), if_neg (by omega)]
  simp
theorem cut_L (M : List Cl) (x : Cl) (nm : ByteArray) (kd : Int) : applyL (M ++ [x]) ⟨M.length, M.length + 1, 0, 0⟩ nm kd = M := by
  simp [applyL]
theorem turn_add (R : List Vl) (n : Nat) (hn : R.length = n) : turnL R ⟨n, n, 1, 0⟩ = R ++ [⟨0, 0, ⟨#[]⟩⟩] := by
  subst hn; simp [turnL]
theorem turn_cut (R : List Vl) (x : Vl) (n : Nat) (hn : R.length = n) : turnL (R ++ [x]) ⟨n, n + 1, 0, 0⟩ = R := by
  subst hn; simp [turnL]
theorem forty_le (s : ByteArray) : (forty s).size ≤ 40 := forty_size s
theorem turn1 (Ag : Option Addr) (G : List Cl) (n cg gk : Nat) (fm : ByteArray) (kd : Int) (no : Bool) (A4 : Option Addr) (RF : List Vl) (c4 : Nat) (W : World) (hG : G.length = n) (hR : RF.length = n) (hp : 0 < n) (hl : n ≤ 800) (hnc : n ≤ c4) (hcm : c4 ≤ maxLen) (hcn : fm.size ≤ 140737488355328) (hA : CRow W Ag G) (hV : VRow W A4 RF) (hd : doesF G gk 3 fm kd no = ⟨G.length, G.length, 1, 0⟩) :
    Calls Try.prog 22 #[.agg #[.slice Ag n cg, .int .i64 gk], .agg #[.int .i64 3, .string ⟨#[]⟩, .slice none 0 0, .int .i64 0, .string fm, .int .i64 kd, .bool no], .slice A4 n c4] W fun e w' => ∃ v, e = .returned v ∧ Hid (OwnV W.heap.size w' v (RF ++ [⟨0, 0, ⟨#[]⟩⟩])) ∧ Hid (Below W.heap.size W w') := by
  subst hG
  have h := turn_any Ag G G.length cg gk 3 ⟨#[]⟩ none 0 0 0 fm kd no A4 RF c4 W rfl hR hp (by omega) hnc hcm hcn hA hV _ hd rfl ⟨Nat.le_refl _, Nat.le_refl _, Nat.le_refl _⟩
  rw [turn_add RF G.length hR] at h
  exact h
theorem turn2 (A2 : Option Addr) (G : List Cl) (n c2 gk : Nat) (fm : ByteArray) (kd : Int) (no : Bool) (A5 : Option Addr) (RF : List Vl) (c5 : Nat) (W : World) (hG : G.length = n) (hR : RF.length = n) (hl : n ≤ 800) (hgn : gk ≤ n) (hnc : n + 1 ≤ c5) (hcm : c5 ≤ maxLen) (hcn : fm.size ≤ 140737488355328) (hA : CRow W A2 (G ++ [⟨fm, kd, true⟩])) (hV : VRow W A5 (RF ++ [⟨0, 0, ⟨#[]⟩⟩])) (hf : findI G fm < 0) :
    Calls Try.prog 22 #[.agg #[.slice A2 (n + 1) c2, .int .i64 gk], .agg #[.int .i64 4, .string ⟨#[]⟩, .slice none 0 0, .int .i64 0, .string fm, .int .i64 kd, .bool no], .slice A5 (n + 1) c5] W fun e w' => ∃ v, e = .returned v ∧ Hid (OwnV W.heap.size w' v RF) ∧ Hid (Below W.heap.size W w') := by
  subst hG
  have hd : doesF (G ++ [⟨fm, kd, true⟩]) (gk : Int) 4 fm kd no = ⟨G.length, G.length + 1, 0, 0⟩ := cut_F ⟨fm, kd, true⟩ rfl hf hgn
  have h := turn_any A2 (G ++ [⟨fm, kd, true⟩]) (G.length + 1) c2 gk 4 ⟨#[]⟩ none 0 0 0 fm kd no A5 (RF ++ [⟨0, 0, ⟨#[]⟩⟩]) c5 W (by simp) (by simp [hR]) (Nat.succ_pos _) (by omega) hnc hcm hcn hA hV ⟨G.length, G.length + 1, 0, 0⟩ (by rw [hd]) rfl ⟨Nat.le_succ G.length, Nat.le_refl (G.length + 1), Nat.zero_le 1⟩
  rw [turn_cut RF _ G.length hR] at h
  exact h
/-- From the two changes on. -/
structure BSt (w W : World) (g : Nat) (Ag : Option Addr) (ng cg gk : Nat) (G : List Cl) (fm : ByteArray) (kd : Int) (no : Bool) (Ar : Option Addr) (R : List Vl) : Prop where
  bel : Below w.heap.size w W
  gs : Has W g 24 #[.slice Ag ng cg, .int .i64 gk]
  ad : Has W (g + 1) 35 #[.int .i64 3, .string ⟨#[]⟩, .slice none 0 0, .int .i64 0, .string fm, .int .i64 kd, .bool no]
  cu : Has W (g + 2) 35 #[.int .i64 4, .string ⟨#[]⟩, .slice none 0 0, .int .i64 0, .string fm, .int .i64 kd, .bool no]
  row : CRow W Ag G
  val : VRow W Ar R
theorem BSt.below {w W W' : World} {g : Nat} {Ag : Option Addr} {ng cg gk : Nat} {G : List Cl} {fm : ByteArray} {kd : Int} {no : Bool} {Ar : Option Addr} {R : List Vl} (h : BSt w W g Ag ng cg gk G fm kd no Ar R) (hb : Below W.heap.size W W') : BSt w W' g Ag ng cg gk G fm kd no Ar R :=
  ⟨h.bel.trans (hb.mono h.bel.size), h.gs.below hb h.gs.lt, h.ad.below hb h.ad.lt, h.cu.below hb h.cu.lt, h.row.below hb, h.val.below hb⟩
set_option maxHeartbeats 16000000 in
set_option maxRecDepth 100000 in
theorem walk (A : Option Addr) (n c : Nat) (L : List Cl) (K : Int) (nm : ByteArray) (kd : Int) (no : Bool) (Ar : Option Addr) (nr cr : Nat) (R : List Vl) (w : World) (hn : L.length = n) (hnc : n ≤ c) (hcm : c ≤ maxLen) (hA : CRow w A L) (hf : ∀ x ∈ L, x.fit) (hk0 : -9223372036854775808 ≤ K) (hk1 : K ≤ 9223372036854775807) (_hx : Cl.fit ⟨nm, kd, no⟩) (hnr : R.length = nr) (hncr : nr ≤ cr) (hcmr : cr ≤ maxLen) (hR : VRow w Ar R) (hfr : ∀ x ∈ R, x.fits) :
    Calls Try.prog 6 #[.agg #[.slice A n c, .int .i64 K], .agg #[.string nm, .int .i64 kd, .bool no], .slice Ar nr cr] w fun e w' => e = .returned (.bool true) ∧ Below w.heap.size w w' := by
  have HB0 := Lib.hid (((Below.refl w.heap.size w).alloc (Nat.le_refl _) (.cells #[.slice A n c, .int .i64 K] 24)).alloc (by simp) (.cells #[.string nm, .int .i64 kd, .bool no] 33))
  have hq := Has.new (w.alloc (.cells #[.slice A n c, .int .i64 K] 24)) 33 #[.string nm, .int .i64 kd, .bool no]
  rw [show (w.alloc (.cells #[.slice A n c, .int .i64 K] 24)).heap.size = w.heap.size + 1 by simp] at hq
  have HQ0 := Lib.hid hq
  have HC1 := Lib.hid (rgood_any A L n c K ((w.alloc (.cells #[.slice A n c, .int .i64 K] 24)).alloc (.cells #[.string nm, .int .i64 kd, .bool no] 33)) hn hnc hcm (hA.below HB0.out) hf hk0 hk1)
  have HGS := Lib.hid (goodS_is L K)
  have hs0 : ((w.alloc (.cells #[.slice A n c, .int .i64 K] 24)).alloc (.cells #[.string nm, .int .i64 kd, .bool no] 33)).heap.size = w.heap.size + 2 := by simp
  rw [hs0] at HC1
  have HNR := Lib.hid hnr
  have HRR := Lib.hid hR
  have HFR := Lib.hid hfr
  have HFM := Lib.hid (forty_le nm)
  clear hs0 hq hn hnc hcm hA hf hnr hR hfr
  go_enter Try.func6, Try.ntmps6
  go_wp2_with fail
  refine HC1.out.mono ?_
  rintro e w1 ⟨v1, rfl, ho1, hb1⟩
  generalize gdC L K = G at *
  generalize gdK L K = gk at *
  obtain ⟨Ag, ng, cg, rfl, HNG, hngc, hcgm, HVG, HZG⟩ := ownC_open ho1.out
  have HFIT := Lib.hid (goodS_fit G gk HGS.out)
  have hlen := HGS.out.len
  have hkeys := HGS.out.keys
  rw [HNG.out] at hlen hkeys
  obtain ⟨hl1, hl6⟩ := hlen
  obtain ⟨hg1, hgn, hg3⟩ := hkeys
  have HB1 := Lib.hid (HB0.out.trans (hb1.out.mono (by simp)))
  have HQ1 := Lib.hid (HQ0.out.below hb1.out (by simp))
  have HO1 := ho1
  have HV1 := Lib.hid (HRR.out.below HB1.out)
  have hsz : w.heap.size + 2 ≤ w1.heap.size := by have := hb1.out.size; simpa using this
  clear hb1 ho1 HB0 HQ0 HC1 HVG HZG
  have HB2 := Lib.hid (HB1.out.alloc HB1.out.size (.cells #[.slice Ag ng cg, .int .i64 gk] 24))
  have HQ2 := Lib.hid (HQ1.out.alloc (.cells #[.slice Ag ng cg, .int .i64 gk] 24))
  have HG2 := Lib.hid (Has.new w1 24 #[.slice Ag ng cg, .int .i64 gk])
  have HO2 := Lib.hid (World.ownsRow.alloc HO1.out (.cells #[.slice Ag ng cg, .int .i64 gk] 24))
  have HV2 := Lib.hid (HV1.out.below ((Below.refl _ w1).alloc (Nat.le_refl _) (.cells #[.slice Ag ng cg, .int .i64 gk] 24)))
  have q0 : (w1.alloc (.cells #[.slice Ag ng cg, .int .i64 gk] 24)).cell? ⟨w.heap.size + 1, 0, none⟩ = some (.string nm) := HQ2.out.cell 0
  have q1 : (w1.alloc (.cells #[.slice Ag ng cg, .int .i64 gk] 24)).cell? ⟨w.heap.size + 1, 1, none⟩ = some (.int .i64 kd) := HQ2.out.cell 1
  have q2 : (w1.alloc (.cells #[.slice Ag ng cg, .int .i64 gk] 24)).cell? ⟨w.heap.size + 1, 2, none⟩ = some (.bool no) := HQ2.out.cell 2
  have y0 : (w1.alloc (.cells #[.slice Ag ng cg, .int .i64 gk] 24)).frozen? ⟨w.heap.size + 1, 0, none⟩ = false := HQ2.out.free 0
  by_cases hz : 40 < nm.size
  · have hfm : nm.extract 0 40 = forty nm := by unfold forty; rw [if_pos hz]
    generalize forty nm = fm at *
    have HB3 := Lib.hid (HB2.out.setCell (p := ⟨w.heap.size + 1, 0, none⟩) (Nat.le_succ _) (.string fm))
    have HQ3 := Lib.hid (HQ2.out.put 0 (.string fm))
    have HG3 := Lib.hid (HG2.out.far (p := ⟨w.heap.size + 1, 0, none⟩) (by show w1.heap.size ≠ w.heap.size + 1; omega) (.string fm))
    have hor := ownC_row (OwnC.far HO2.out (p := ⟨w.heap.size + 1, 0, none⟩) (by show w.heap.size + 1 < w.heap.size + 2; omega) (.string fm))
    have HV3 : Hid (VRow ((w1.alloc (.cells #[.slice Ag ng cg, .int .i64 gk] 24)).setCell ⟨w.heap.size + 1, 0, none⟩ (.string fm)) Ar R) := HRR.out.below HB3.out
    have r0 : ((w1.alloc (.cells #[.slice Ag ng cg, .int .i64 gk] 24)).setCell ⟨w.heap.size + 1, 0, none⟩ (.string fm)).cell? ⟨w.heap.size + 1, 0, none⟩ = some (.string fm) := HQ3.out.cell 0
    have r1 : ((w1.alloc (.cells #[.slice Ag ng cg, .int .i64 gk] 24)).setCell ⟨w.heap.size + 1, 0, none⟩ (.string fm)).cell? ⟨w.heap.size + 1, 1, none⟩ = some (.int .i64 kd) := HQ3.out.cell 1
    have r2 : ((w1.alloc (.cells #[.slice Ag ng cg, .int .i64 gk] 24)).setCell ⟨w.heap.size + 1, 0, none⟩ (.string fm)).cell? ⟨w.heap.size + 1, 2, none⟩ = some (.bool no) := HQ3.out.cell 2
    obtain ⟨Ag2, cg2, hv2, _, _, hrow2, _⟩ := hor
    rw [HNG.out] at hv2
    injection hv2 with hv2 _ hv3
    subst hv2 hv3
    have S4 : Hid (BSt w ((((w1.alloc (.cells #[.slice Ag ng cg, .int .i64 gk] 24)).setCell ⟨w.heap.size + 1, 0, none⟩ (.string fm)).alloc (.cells #[.int .i64 3, .string ⟨#[]⟩, .slice none 0 0, .int .i64 0, .string fm, .int .i64 kd, .bool no] 35)).alloc (.cells #[.int .i64 4, .string ⟨#[]⟩, .slice none 0 0, .int .i64 0, .string fm, .int .i64 kd, .bool no] 35)) w1.heap.size Ag ng cg gk G fm kd no Ar R) := by
      have e1 : ((w1.alloc (.cells #[.slice Ag ng cg, .int .i64 gk] 24)).setCell ⟨w.heap.size + 1, 0, none⟩ (.string fm)).heap.size = w1.heap.size + 1 := by first | (rw [size_set]; simp) | simp
      have e2 : (((w1.alloc (.cells #[.slice Ag ng cg, .int .i64 gk] 24)).setCell ⟨w.heap.size + 1, 0, none⟩ (.string fm)).alloc (.cells #[.int .i64 3, .string ⟨#[]⟩, .slice none 0 0, .int .i64 0, .string fm, .int .i64 kd, .bool no] 35)).heap.size = w1.heap.size + 2 := by rw [World.size_alloc, e1]
      have hb : Below ((w1.alloc (.cells #[.slice Ag ng cg, .int .i64 gk] 24)).setCell ⟨w.heap.size + 1, 0, none⟩ (.string fm)).heap.size ((w1.alloc (.cells #[.slice Ag ng cg, .int .i64 gk] 24)).setCell ⟨w.heap.size + 1, 0, none⟩ (.string fm)) ((((w1.alloc (.cells #[.slice Ag ng cg, .int .i64 gk] 24)).setCell ⟨w.heap.size + 1, 0, none⟩ (.string fm)).alloc (.cells #[.int .i64 3, .string ⟨#[]⟩, .slice none 0 0, .int .i64 0, .string fm, .int .i64 kd, .bool no] 35)).alloc (.cells #[.int .i64 4, .string ⟨#[]⟩, .slice none 0 0, .int .i64 0, .string fm, .int .i64 kd, .bool no] 35)) := ((Below.refl _ _).alloc (Nat.le_refl _) _).alloc (by rw [World.size_alloc]; omega) _
      have ha := (Has.new ((w1.alloc (.cells #[.slice Ag ng cg, .int .i64 gk] 24)).setCell ⟨w.heap.size + 1, 0, none⟩ (.string fm)) 35 #[.int .i64 3, .string ⟨#[]⟩, .slice none 0 0, .int .i64 0, .string fm, .int .i64 kd, .bool no]).alloc (.cells #[.int .i64 4, .string ⟨#[]⟩, .slice none 0 0, .int .i64 0, .string fm, .int .i64 kd, .bool no] 35)
      have hc := Has.new (((w1.alloc (.cells #[.slice Ag ng cg, .int .i64 gk] 24)).setCell ⟨w.heap.size + 1, 0, none⟩ (.string fm)).alloc (.cells #[.int .i64 3, .string ⟨#[]⟩, .slice none 0 0, .int .i64 0, .string fm, .int .i64 kd, .bool no] 35)) 35 #[.int .i64 4, .string ⟨#[]⟩, .slice none 0 0, .int .i64 0, .string fm, .int .i64 kd, .bool no]
      rw [e1] at ha
      rw [e2] at hc
      exact ⟨HB3.out.trans (hb.mono (by rw [e1]; omega)), HG3.out.below hb (by rw [e1]; omega), ha, hc, hrow2.below hb, HV3.out.below hb⟩
    have k0 : (((w1.alloc (.cells #[.slice Ag ng cg, .int .i64 gk] 24)).setCell ⟨w.heap.size + 1, 0, none⟩ (.string fm)).alloc (.cells #[.int .i64 3, .string ⟨#[]⟩, .slice none 0 0, .int .i64 0, .string fm, .int .i64 kd, .bool no] 35)).cell? ⟨w.heap.size + 1, 0, none⟩ = some (.string fm) := (HQ3.out.alloc (.cells #[.int .i64 3, .string ⟨#[]⟩, .slice none 0 0, .int .i64 0, .string fm, .int .i64 kd, .bool no] 35)).cell 0
    have k1 : (((w1.alloc (.cells #[.slice Ag ng cg, .int .i64 gk] 24)).setCell ⟨w.heap.size + 1, 0, none⟩ (.string fm)).alloc (.cells #[.int .i64 3, .string ⟨#[]⟩, .slice none 0 0, .int .i64 0, .string fm, .int .i64 kd, .bool no] 35)).cell? ⟨w.heap.size + 1, 1, none⟩ = some (.int .i64 kd) := (HQ3.out.alloc (.cells #[.int .i64 3, .string ⟨#[]⟩, .slice none 0 0, .int .i64 0, .string fm, .int .i64 kd, .bool no] 35)).cell 1
    have k2 : (((w1.alloc (.cells #[.slice Ag ng cg, .int .i64 gk] 24)).setCell ⟨w.heap.size + 1, 0, none⟩ (.string fm)).alloc (.cells #[.int .i64 3, .string ⟨#[]⟩, .slice none 0 0, .int .i64 0, .string fm, .int .i64 kd, .bool no] 35)).cell? ⟨w.heap.size + 1, 2, none⟩ = some (.bool no) := (HQ3.out.alloc (.cells #[.int .i64 3, .string ⟨#[]⟩, .slice none 0 0, .int .i64 0, .string fm, .int .i64 kd, .bool no] 35)).cell 2
    have g0 : ((((w1.alloc (.cells #[.slice Ag ng cg, .int .i64 gk] 24)).setCell ⟨w.heap.size + 1, 0, none⟩ (.string fm)).alloc (.cells #[.int .i64 3, .string ⟨#[]⟩, .slice none 0 0, .int .i64 0, .string fm, .int .i64 kd, .bool no] 35)).alloc (.cells #[.int .i64 4, .string ⟨#[]⟩, .slice none 0 0, .int .i64 0, .string fm, .int .i64 kd, .bool no] 35)).cell? ⟨w1.heap.size, 0, none⟩ = some (.slice Ag ng cg) := S4.out.gs.cell 0
    have g1 : ((((w1.alloc (.cells #[.slice Ag ng cg, .int .i64 gk] 24)).setCell ⟨w.heap.size + 1, 0, none⟩ (.string fm)).alloc (.cells #[.int .i64 3, .string ⟨#[]⟩, .slice none 0 0, .int .i64 0, .string fm, .int .i64 kd, .bool no] 35)).alloc (.cells #[.int .i64 4, .string ⟨#[]⟩, .slice none 0 0, .int .i64 0, .string fm, .int .i64 kd, .bool no] 35)).cell? ⟨w1.heap.size, 1, none⟩ = some (.int .i64 gk) := S4.out.gs.cell 1
    have d0 : ((((w1.alloc (.cells #[.slice Ag ng cg, .int .i64 gk] 24)).setCell ⟨w.heap.size + 1, 0, none⟩ (.string fm)).alloc (.cells #[.int .i64 3, .string ⟨#[]⟩, .slice none 0 0, .int .i64 0, .string fm, .int .i64 kd, .bool no] 35)).alloc (.cells #[.int .i64 4, .string ⟨#[]⟩, .slice none 0 0, .int .i64 0, .string fm, .int .i64 kd, .bool no] 35)).cell? ⟨w1.heap.size + 1, 0, none⟩ = some (.int .i64 3) := S4.out.ad.cell 0
    have d1 : ((((w1.alloc (.cells #[.slice Ag ng cg, .int .i64 gk] 24)).setCell ⟨w.heap.size + 1, 0, none⟩ (.string fm)).alloc (.cells #[.int .i64 3, .string ⟨#[]⟩, .slice none 0 0, .int .i64 0, .string fm, .int .i64 kd, .bool no] 35)).alloc (.cells #[.int .i64 4, .string ⟨#[]⟩, .slice none 0 0, .int .i64 0, .string fm, .int .i64 kd, .bool no] 35)).cell? ⟨w1.heap.size + 1, 1, none⟩ = some (.string ⟨#[]⟩) := S4.out.ad.cell 1
    have d2 : ((((w1.alloc (.cells #[.slice Ag ng cg, .int .i64 gk] 24)).setCell ⟨w.heap.size + 1, 0, none⟩ (.string fm)).alloc (.cells #[.int .i64 3, .string ⟨#[]⟩, .slice none 0 0, .int .i64 0, .string fm, .int .i64 kd, .bool no] 35)).alloc (.cells #[.int .i64 4, .string ⟨#[]⟩, .slice none 0 0, .int .i64 0, .string fm, .int .i64 kd, .bool no] 35)).cell? ⟨w1.heap.size + 1, 2, none⟩ = some (.slice none 0 0) := S4.out.ad.cell 2
    have d3 : ((((w1.alloc (.cells #[.slice Ag ng cg, .int .i64 gk] 24)).setCell ⟨w.heap.size + 1, 0, none⟩ (.string fm)).alloc (.cells #[.int .i64 3, .string ⟨#[]⟩, .slice none 0 0, .int .i64 0, .string fm, .int .i64 kd, .bool no] 35)).alloc (.cells #[.int .i64 4, .string ⟨#[]⟩, .slice none 0 0, .int .i64 0, .string fm, .int .i64 kd, .bool no] 35)).cell? ⟨w1.heap.size + 1, 3, none⟩ = some (.int .i64 0) := S4.out.ad.cell 3
    have d4 : ((((w1.alloc (.cells #[.slice Ag ng cg, .int .i64 gk] 24)).setCell ⟨w.heap.size + 1, 0, none⟩ (.string fm)).alloc (.cells #[.int .i64 3, .string ⟨#[]⟩, .slice none 0 0, .int .i64 0, .string fm, .int .i64 kd, .bool no] 35)).alloc (.cells #[.int .i64 4, .string ⟨#[]⟩, .slice none 0 0, .int .i64 0, .string fm, .int .i64 kd, .bool no] 35)).cell? ⟨w1.heap.size + 1, 4, none⟩ = some (.string fm) := S4.out.ad.cell 4
    have d5 : ((((w1.alloc (.cells #[.slice Ag ng cg, .int .i64 gk] 24)).setCell ⟨w.heap.size + 1, 0, none⟩ (.string fm)).alloc (.cells #[.int .i64 3, .string ⟨#[]⟩, .slice none 0 0, .int .i64 0, .string fm, .int .i64 kd, .bool no] 35)).alloc (.cells #[.int .i64 4, .string ⟨#[]⟩, .slice none 0 0, .int .i64 0, .string fm, .int .i64 kd, .bool no] 35)).cell? ⟨w1.heap.size + 1, 5, none⟩ = some (.int .i64 kd) := S4.out.ad.cell 5
    have d6 : ((((w1.alloc (.cells #[.slice Ag ng cg, .int .i64 gk] 24)).setCell ⟨w.heap.size + 1, 0, none⟩ (.string fm)).alloc (.cells #[.int .i64 3, .string ⟨#[]⟩, .slice none 0 0, .int .i64 0, .string fm, .int .i64 kd, .bool no] 35)).alloc (.cells #[.int .i64 4, .string ⟨#[]⟩, .slice none 0 0, .int .i64 0, .string fm, .int .i64 kd, .bool no] 35)).cell? ⟨w1.heap.size + 1, 6, none⟩ = some (.bool no) := S4.out.ad.cell 6
    go_wp2_with fail
    obtain ⟨W, hW⟩ : ∃ W, W = ((((w1.alloc (.cells #[.slice Ag ng cg, .int .i64 gk] 24)).setCell ⟨w.heap.size + 1, 0, none⟩ (.string fm)).alloc (.cells #[.int .i64 3, .string ⟨#[]⟩, .slice none 0 0, .int .i64 0, .string fm, .int .i64 kd, .bool no] 35)).alloc (.cells #[.int .i64 4, .string ⟨#[]⟩, .slice none 0 0, .int .i64 0, .string fm, .int .i64 kd, .bool no] 35)) := ⟨_, rfl⟩
    rw [← hW] at S4 ⊢
    have hcnm : fm.size ≤ 140737488355328 := by have := HFM.out; omega
    clear hW g0 g1 d0 d1 d2 d3 d4 d5 d6 k0 k1 k2 q0 q1 q2 y0 HB3 HQ3 HG3 HV3 hrow2
    refine (apply_any Ag G ng cg gk 3 ⟨#[]⟩ none 0 0 0 fm kd no W HNG.out (by omega) (by omega) hngc hcgm hcnm S4.out.row).mono ?_
    rintro e w2 ⟨v2, rfl, ho2, hb2⟩
    obtain ⟨dn, hdn⟩ : ∃ dn, doesF G gk 3 fm kd no = dn := ⟨_, rfl⟩
    rw [hdn] at ho2 ⊢
    obtain ⟨A2, n2, c2, rfl, HN2, hnc2, hcm2, HV2, HZ2⟩ := ownC_open ho2.out
    have S5 := Lib.hid (S4.out.below hb2.out)
    clear hb2 ho2 S4 HZ2
    by_cases he : dn.e = 0
    · obtain ⟨hd1, hd2, hd3, hd4, hd5, hd6⟩ := add_ok (M := G) (k := (gk : Int)) (nm := fm) (kd := kd) (no := no) (by rw [hdn]; exact he)
      rw [hdn] at hd1
      subst hd1
      rw [add_L] at HN2 HV2
      have hk1' : applyK (gk : Int) ⟨G.length, G.length, 1, 0⟩ = gk := rfl
      rw [hk1']
      have hn2 : n2 = ng + 1 := by have h := HN2.out; rw [List.length_append, HNG.out] at h; simpa using h.symm
      subst hn2
      have HD2 := Lib.hid hd2
      have HDN := Lib.hid hdn
      clear he hdn hd2 hd3 hd4 hd5 hd6 hk1'
      have S6 := Lib.hid (S5.out.below ((Below.refl _ w2).alloc (Nat.le_refl _) (.cells #[.slice A2 (ng + 1 : Nat) c2, .int .i64 gk] 24)))
      have HN6 := Lib.hid (Has.new w2 24 #[.slice A2 (ng + 1 : Nat) c2, .int .i64 gk])
      have HR6 := Lib.hid (HV2.out.below ((Below.refl _ w2).alloc (Nat.le_refl _) (.cells #[.slice A2 (ng + 1 : Nat) c2, .int .i64 gk] 24)))
      have u0 : (w2.alloc (.cells #[.slice A2 (ng + 1 : Nat) c2, .int .i64 gk] 24)).cell? ⟨w1.heap.size + 2, 0, none⟩ = some (.int .i64 4) := S6.out.cu.cell 0
      have u1 : (w2.alloc (.cells #[.slice A2 (ng + 1 : Nat) c2, .int .i64 gk] 24)).cell? ⟨w1.heap.size + 2, 1, none⟩ = some (.string ⟨#[]⟩) := S6.out.cu.cell 1
      have u2 : (w2.alloc (.cells #[.slice A2 (ng + 1 : Nat) c2, .int .i64 gk] 24)).cell? ⟨w1.heap.size + 2, 2, none⟩ = some (.slice none 0 0) := S6.out.cu.cell 2
      have u3 : (w2.alloc (.cells #[.slice A2 (ng + 1 : Nat) c2, .int .i64 gk] 24)).cell? ⟨w1.heap.size + 2, 3, none⟩ = some (.int .i64 0) := S6.out.cu.cell 3
      have u4 : (w2.alloc (.cells #[.slice A2 (ng + 1 : Nat) c2, .int .i64 gk] 24)).cell? ⟨w1.heap.size + 2, 4, none⟩ = some (.string fm) := S6.out.cu.cell 4
      have u5 : (w2.alloc (.cells #[.slice A2 (ng + 1 : Nat) c2, .int .i64 gk] 24)).cell? ⟨w1.heap.size + 2, 5, none⟩ = some (.int .i64 kd) := S6.out.cu.cell 5
      have u6 : (w2.alloc (.cells #[.slice A2 (ng + 1 : Nat) c2, .int .i64 gk] 24)).cell? ⟨w1.heap.size + 2, 6, none⟩ = some (.bool no) := S6.out.cu.cell 6
      have a0 : (w2.alloc (.cells #[.slice A2 (ng + 1 : Nat) c2, .int .i64 gk] 24)).cell? ⟨w2.heap.size, 0, none⟩ = some (.slice A2 (ng + 1 : Nat) c2) := HN6.out.cell 0
      have a1 : (w2.alloc (.cells #[.slice A2 (ng + 1 : Nat) c2, .int .i64 gk] 24)).cell? ⟨w2.heap.size, 1, none⟩ = some (.int .i64 gk) := HN6.out.cell 1
      go_wp2_with fail
      refine (apply_any A2 (G ++ [⟨fm, kd, true⟩]) (ng + 1) c2 gk 4 ⟨#[]⟩ none 0 0 0 fm kd no _ HN2.out (by omega) (by omega) hnc2 hcm2 hcnm HR6.out).mono ?_
      rintro e w3 ⟨v3, rfl, ho3, hb3⟩
      rw [cut_F ⟨fm, kd, true⟩ rfl HD2.out (by rw [HNG.out]; exact hgn)] at ho3 ⊢
      rw [cut_L] at ho3
      have hk2' : applyK (gk : Int) ⟨G.length, G.length + 1, 0, 0⟩ = gk := rfl
      rw [hk2']
      obtain ⟨A3, n3, c3, rfl, HN3, hnc3, hcm3, HV3', HZ3⟩ := ownC_open ho3.out
      have S7 := Lib.hid (S6.out.below hb3.out)
      have HN7 := Lib.hid (HN6.out.below hb3.out HN6.out.lt)
      have HR7 := Lib.hid (HR6.out.below hb3.out)
      clear hb3 ho3 S6 HN6 HR6 HV2 u0 u1 u2 u3 u4 u5 u6 hk2' HZ3
      have hbm : Below w3.heap.size w3 (w3.alloc (.cells #[.slice A3 n3 c3, .int .i64 gk] 24)) := (Below.refl _ w3).alloc (Nat.le_refl _) _
      have S8 := Lib.hid (S7.out.below hbm)
      have HN8 := Lib.hid (HN7.out.below hbm HN7.out.lt)
      have HM8 := Lib.hid (Has.new w3 24 #[.slice A3 n3 c3, .int .i64 gk])
      have HR8 := Lib.hid (HR7.out.below hbm)
      have HT8 := Lib.hid (HV3'.out.below hbm)
      have g0 : (w3.alloc (.cells #[.slice A3 n3 c3, .int .i64 gk] 24)).cell? ⟨w1.heap.size, 0, none⟩ = some (.slice Ag ng cg) := S8.out.gs.cell 0
      have g1 : (w3.alloc (.cells #[.slice A3 n3 c3, .int .i64 gk] 24)).cell? ⟨w1.heap.size, 1, none⟩ = some (.int .i64 gk) := S8.out.gs.cell 1
      clear hbm
      go_wp2_with fail
      refine (row_any Ag G ng cg gk Ar R nr cr _ HNG.out (by omega) S8.out.row (fun x hx => (HFIT.out x hx).2.2.2) HNR.out hncr hcmr S8.out.val HFR.out).mono ?_
      rintro e w4 ⟨v4, rfl, ho4, hb4⟩
      obtain ⟨A4, n4, c4, rfl, HN4, hnc4, hcm4, HV4, HZ4⟩ := ownV_open ho4.out
      have hn4 : n4 = ng := by have h := HN4.out; unfold rowF at h; rw [rowTo_len, HNG.out] at h; exact h.symm
      subst hn4
      obtain ⟨RF, hRF⟩ : ∃ RF, rowF G R = RF := ⟨_, rfl⟩
      rw [hRF] at HN4 HV4
      have S9 := Lib.hid (S8.out.below hb4.out)
      have HN9 := Lib.hid (HN8.out.below hb4.out HN8.out.lt)
      have HM9 := Lib.hid (HM8.out.below hb4.out HM8.out.lt)
      have HR9 := Lib.hid (HR8.out.below hb4.out)
      have HT9 := Lib.hid (HT8.out.below hb4.out)
      clear hb4 ho4 S8 HN8 HM8 HR8 HT8 hRF HZ4 g0 g1
      have hB4 : Hid (Below w4.heap.size w4 w4.drew) := (Below.refl _ w4).drew
      have HT1 := Lib.hid (fun (W : World) (hb : Below w4.heap.size w4 W) => turn1 Ag G n4 cg gk fm kd no A4 RF c4 W HNG.out HN4.out (by omega) (by omega) hnc4 hcm4 hcnm (S9.out.row.below hb) (HV4.out.below hb) HDN.out)
      have HT2 := Lib.hid (fun (A5 : Option Addr) (c5 : Nat) (W : World) (hb : Below w4.heap.size w4 W) (h1 : n4 + 1 ≤ c5) (h2 : c5 ≤ maxLen) (hv : VRow W A5 (RF ++ [⟨0, 0, ⟨#[]⟩⟩])) => turn2 A2 G n4 c2 gk fm kd no A5 RF c5 W HNG.out HN4.out (by omega) hgn h1 h2 hcnm (HR9.out.below hb) hv HD2.out)
      have hlq : (RF ++ [(⟨0, 0, ⟨#[]⟩⟩ : Vl)]).length = n4 + 1 := by rw [List.length_append, HN4.out]; rfl
      have HLQ := Lib.hid hlq
      have HLR := Lib.hid HN4.out
      clear hlq
      have z00 : w4.cell? ⟨w2.heap.size, 0, none⟩ = some (.slice A2 (n4 + 1) c2) := HN9.out.cell 0
      have z01 : w4.cell? ⟨w2.heap.size, 1, none⟩ = some (.int .i64 gk) := HN9.out.cell 1
      have z10 : w4.cell? ⟨w1.heap.size + 2, 0, none⟩ = some (.int .i64 4) := S9.out.cu.cell 0
      have z11 : w4.cell? ⟨w1.heap.size + 2, 1, none⟩ = some (.string ⟨#[]⟩) := S9.out.cu.cell 1
      have z12 : w4.cell? ⟨w1.heap.size + 2, 2, none⟩ = some (.slice none 0 0) := S9.out.cu.cell 2
      have z13 : w4.cell? ⟨w1.heap.size + 2, 3, none⟩ = some (.int .i64 0) := S9.out.cu.cell 3
      have z14 : w4.cell? ⟨w1.heap.size + 2, 4, none⟩ = some (.string fm) := S9.out.cu.cell 4
      have z15 : w4.cell? ⟨w1.heap.size + 2, 5, none⟩ = some (.int .i64 kd) := S9.out.cu.cell 5
      have z16 : w4.cell? ⟨w1.heap.size + 2, 6, none⟩ = some (.bool no) := S9.out.cu.cell 6
      have z20 : w4.cell? ⟨w1.heap.size, 0, none⟩ = some (.slice Ag n4 cg) := S9.out.gs.cell 0
      have z21 : w4.cell? ⟨w1.heap.size, 1, none⟩ = some (.int .i64 gk) := S9.out.gs.cell 1
      have z30 : w4.cell? ⟨w1.heap.size + 1, 0, none⟩ = some (.int .i64 3) := S9.out.ad.cell 0
      have z31 : w4.cell? ⟨w1.heap.size + 1, 1, none⟩ = some (.string ⟨#[]⟩) := S9.out.ad.cell 1
      have z32 : w4.cell? ⟨w1.heap.size + 1, 2, none⟩ = some (.slice none 0 0) := S9.out.ad.cell 2
      have z33 : w4.cell? ⟨w1.heap.size + 1, 3, none⟩ = some (.int .i64 0) := S9.out.ad.cell 3
      have z34 : w4.cell? ⟨w1.heap.size + 1, 4, none⟩ = some (.string fm) := S9.out.ad.cell 4
      have z35 : w4.cell? ⟨w1.heap.size + 1, 5, none⟩ = some (.int .i64 kd) := S9.out.ad.cell 5
      have z36 : w4.cell? ⟨w1.heap.size + 1, 6, none⟩ = some (.bool no) := S9.out.ad.cell 6
      go_wp2_with fail
      go_region_held3 (fun W => Hid (Below w4.heap.size w4 W) ∧ W.cell? ⟨w2.heap.size, 0, none⟩ = some (.slice A2 (n4 + 1) c2) ∧ W.cell? ⟨w2.heap.size, 1, none⟩ = some (.int .i64 gk) ∧ W.cell? ⟨w1.heap.size + 2, 0, none⟩ = some (.int .i64 4) ∧ W.cell? ⟨w1.heap.size + 2, 1, none⟩ = some (.string ⟨#[]⟩) ∧ W.cell? ⟨w1.heap.size + 2, 2, none⟩ = some (.slice none 0 0) ∧ W.cell? ⟨w1.heap.size + 2, 3, none⟩ = some (.int .i64 0) ∧ W.cell? ⟨w1.heap.size + 2, 4, none⟩ = some (.string fm) ∧ W.cell? ⟨w1.heap.size + 2, 5, none⟩ = some (.int .i64 kd) ∧ W.cell? ⟨w1.heap.size + 2, 6, none⟩ = some (.bool no) ∧ W.cell? ⟨w1.heap.size, 0, none⟩ = some (.slice Ag n4 cg) ∧ W.cell? ⟨w1.heap.size, 1, none⟩ = some (.int .i64 gk) ∧ W.cell? ⟨w1.heap.size + 1, 0, none⟩ = some (.int .i64 3) ∧ W.cell? ⟨w1.heap.size + 1, 1, none⟩ = some (.string ⟨#[]⟩) ∧ W.cell? ⟨w1.heap.size + 1, 2, none⟩ = some (.slice none 0 0) ∧ W.cell? ⟨w1.heap.size + 1, 3, none⟩ = some (.int .i64 0) ∧ W.cell? ⟨w1.heap.size + 1, 4, none⟩ = some (.string fm) ∧ W.cell? ⟨w1.heap.size + 1, 5, none⟩ = some (.int .i64 kd) ∧ W.cell? ⟨w1.heap.size + 1, 6, none⟩ = some (.bool no)) ((refine ⟨by assumption, ?_⟩; go_keep))
        (first
          | (go_at_call 22; with_reducible refine (HT1.out _ hB4.out).mono ?_; rintro e x1 ⟨v5, rfl, ho5, hb5⟩; obtain ⟨A5, n5, c5, rfl, HN5, hnc5, hcm5, HV5, HZ5⟩ := ownV_open ho5.out; have hn5 : n5 = n4 + 1 := HN5.out.symm.trans HLQ.out; subst hn5; have hbx5 := Lib.hid (hB4.out.trans (hb5.out.mono hB4.out.size)); have pz00 := keepC hbx5.out z00; have pz01 := keepC hbx5.out z01; have pz10 := keepC hbx5.out z10; have pz11 := keepC hbx5.out z11; have pz12 := keepC hbx5.out z12; have pz13 := keepC hbx5.out z13; have pz14 := keepC hbx5.out z14; have pz15 := keepC hbx5.out z15; have pz16 := keepC hbx5.out z16; have pz20 := keepC hbx5.out z20; have pz21 := keepC hbx5.out z21; have pz30 := keepC hbx5.out z30; have pz31 := keepC hbx5.out z31; have pz32 := keepC hbx5.out z32; have pz33 := keepC hbx5.out z33; have pz34 := keepC hbx5.out z34; have pz35 := keepC hbx5.out z35; have pz36 := keepC hbx5.out z36;  clear ho5 HN5 HZ5)
          | (go_at_call 22; with_reducible refine (HT2.out _ _ _ hbx5.out hnc5 hcm5 HV5.out).mono ?_; rintro e x2 ⟨v6, rfl, ho6, hb6⟩; obtain ⟨A6, n6, c6, rfl, HN6, hnc6, hcm6, HV6, HZ6⟩ := ownV_open ho6.out; have hn6 : n6 = n4 := HN6.out.symm.trans HLR.out; subst hn6; have hbx6 := Lib.hid (hbx5.out.trans (hb6.out.mono hbx5.out.size)); have rz00 := keepC hbx6.out z00; have rz01 := keepC hbx6.out z01; have rz10 := keepC hbx6.out z10; have rz11 := keepC hbx6.out z11; have rz12 := keepC hbx6.out z12; have rz13 := keepC hbx6.out z13; have rz14 := keepC hbx6.out z14; have rz15 := keepC hbx6.out z15; have rz16 := keepC hbx6.out z16; have rz20 := keepC hbx6.out z20; have rz21 := keepC hbx6.out z21; have rz30 := keepC hbx6.out z30; have rz31 := keepC hbx6.out z31; have rz32 := keepC hbx6.out z32; have rz33 := keepC hbx6.out z33; have rz34 := keepC hbx6.out z34; have rz35 := keepC hbx6.out z35; have rz36 := keepC hbx6.out z36;  clear ho6 HN6 HZ6))
      all_goals
        have SA := Lib.hid (S9.out.below hbx6.out)
        have HMA := Lib.hid (HM9.out.below hbx6.out HM9.out.lt)
        have HTA := Lib.hid (HT9.out.below hbx6.out)
        have HVA := Lib.hid (HV4.out.below hbx6.out)
        have s0 : x2.cell? ⟨w3.heap.size, 0, none⟩ = some (.slice A3 n3 c3) := HMA.out.cell 0
        have s1 : x2.cell? ⟨w3.heap.size, 1, none⟩ = some (.int .i64 gk) := HMA.out.cell 1
        go_wp2_with fail
        refine (rsame_any A3 G n3 c3 gk Ag G _ cg gk x2 HN3.out HNG.out (by have h1 := HN3.out; have h2 := HNG.out; omega) (by omega) HTA.out SA.out.row).mono ?_
        rintro e w7 ⟨rfl, hb7⟩
        rw [ssF_refl]
        have SB := Lib.hid (SA.out.below hb7.out)
        have HVB := Lib.hid (HVA.out.below hb7.out)
        have HVC := Lib.hid (HV6.out.below hb7.out)
        clear hb7 SA HVA HV6
        go_wp2_with fail
        refine (same_any A6 _ c6 A4 c4 RF w7 HLR.out (by omega) HVC.out HVB.out).mono ?_
        rintro e w8 ⟨rfl, hb8⟩
        have SC8 := Lib.hid (SB.out.below hb8.out)
        clear hb8 SB HVB HVC
        go_wp2_with fail
        refine (lives4_any _).mono ?_
        rintro e w9 ⟨rfl, hb9⟩
        have SD := Lib.hid (SC8.out.below hb9.out)
        clear hb9 SC8
        go_wp2_with fail
        go_ret
        exact ⟨rfl, SD.out.bel⟩
    · obtain ⟨df, dt, dm, de⟩ := dn
      simp only at he
      have hq : (de != 0) = true := by simp [he]
      have HB9 := Lib.hid (S5.out.bel.alloc S5.out.bel.size (.cells #[.slice A2 n2 c2, .int .i64 (applyK (gk : Int) ⟨df, dt, dm, de⟩)] 24))
      generalize applyK (gk : Int) ⟨df, dt, dm, de⟩ = ak at *
      go_wp2_with fail
      refine (lives4_any _).mono ?_
      rintro e w9 ⟨rfl, hb9⟩
      have HBA := Lib.hid (HB9.out.trans (hb9.out.mono HB9.out.size))
      clear hb9
      go_wp2_with fail
      go_ret
      exact ⟨rfl, HBA.out⟩
  · have hfm : forty nm = nm := by unfold forty; rw [if_neg hz]
    rw [hfm] at HFM
    obtain ⟨fm, hfm2⟩ : ∃ fm, fm = nm := ⟨_, rfl⟩
    subst hfm2
    have HB3 := HB2
    have HQ3 := HQ2
    have HG3 := HG2
    have hor := ownC_row HO2.out
    have HV3 := HV2
    obtain ⟨Ag2, cg2, hv2, _, _, hrow2, _⟩ := hor
    rw [HNG.out] at hv2
    injection hv2 with hv2 _ hv3
    subst hv2 hv3
    have S4 : Hid (BSt w (((w1.alloc (.cells #[.slice Ag ng cg, .int .i64 gk] 24)).alloc (.cells #[.int .i64 3, .string ⟨#[]⟩, .slice none 0 0, .int .i64 0, .string fm, .int .i64 kd, .bool no] 35)).alloc (.cells #[.int .i64 4, .string ⟨#[]⟩, .slice none 0 0, .int .i64 0, .string fm, .int .i64 kd, .bool no] 35)) w1.heap.size Ag ng cg gk G fm kd no Ar R) := by
      have e1 : (w1.alloc (.cells #[.slice Ag ng cg, .int .i64 gk] 24)).heap.size = w1.heap.size + 1 := by first | (rw [size_set]; simp) | simp
      have e2 : ((w1.alloc (.cells #[.slice Ag ng cg, .int .i64 gk] 24)).alloc (.cells #[.int .i64 3, .string ⟨#[]⟩, .slice none 0 0, .int .i64 0, .string fm, .int .i64 kd, .bool no] 35)).heap.size = w1.heap.size + 2 := by rw [World.size_alloc, e1]
      have hb : Below (w1.alloc (.cells #[.slice Ag ng cg, .int .i64 gk] 24)).heap.size (w1.alloc (.cells #[.slice Ag ng cg, .int .i64 gk] 24)) (((w1.alloc (.cells #[.slice Ag ng cg, .int .i64 gk] 24)).alloc (.cells #[.int .i64 3, .string ⟨#[]⟩, .slice none 0 0, .int .i64 0, .string fm, .int .i64 kd, .bool no] 35)).alloc (.cells #[.int .i64 4, .string ⟨#[]⟩, .slice none 0 0, .int .i64 0, .string fm, .int .i64 kd, .bool no] 35)) := ((Below.refl _ _).alloc (Nat.le_refl _) _).alloc (by rw [World.size_alloc]; omega) _
      have ha := (Has.new (w1.alloc (.cells #[.slice Ag ng cg, .int .i64 gk] 24)) 35 #[.int .i64 3, .string ⟨#[]⟩, .slice none 0 0, .int .i64 0, .string fm, .int .i64 kd, .bool no]).alloc (.cells #[.int .i64 4, .string ⟨#[]⟩, .slice none 0 0, .int .i64 0, .string fm, .int .i64 kd, .bool no] 35)
      have hc := Has.new ((w1.alloc (.cells #[.slice Ag ng cg, .int .i64 gk] 24)).alloc (.cells #[.int .i64 3, .string ⟨#[]⟩, .slice none 0 0, .int .i64 0, .string fm, .int .i64 kd, .bool no] 35)) 35 #[.int .i64 4, .string ⟨#[]⟩, .slice none 0 0, .int .i64 0, .string fm, .int .i64 kd, .bool no]
      rw [e1] at ha
      rw [e2] at hc
      exact ⟨HB3.out.trans (hb.mono (by rw [e1]; omega)), HG3.out.below hb (by rw [e1]; omega), ha, hc, hrow2.below hb, HV3.out.below hb⟩
    have k0 : ((w1.alloc (.cells #[.slice Ag ng cg, .int .i64 gk] 24)).alloc (.cells #[.int .i64 3, .string ⟨#[]⟩, .slice none 0 0, .int .i64 0, .string fm, .int .i64 kd, .bool no] 35)).cell? ⟨w.heap.size + 1, 0, none⟩ = some (.string fm) := (HQ3.out.alloc (.cells #[.int .i64 3, .string ⟨#[]⟩, .slice none 0 0, .int .i64 0, .string fm, .int .i64 kd, .bool no] 35)).cell 0
    have k1 : ((w1.alloc (.cells #[.slice Ag ng cg, .int .i64 gk] 24)).alloc (.cells #[.int .i64 3, .string ⟨#[]⟩, .slice none 0 0, .int .i64 0, .string fm, .int .i64 kd, .bool no] 35)).cell? ⟨w.heap.size + 1, 1, none⟩ = some (.int .i64 kd) := (HQ3.out.alloc (.cells #[.int .i64 3, .string ⟨#[]⟩, .slice none 0 0, .int .i64 0, .string fm, .int .i64 kd, .bool no] 35)).cell 1
    have k2 : ((w1.alloc (.cells #[.slice Ag ng cg, .int .i64 gk] 24)).alloc (.cells #[.int .i64 3, .string ⟨#[]⟩, .slice none 0 0, .int .i64 0, .string fm, .int .i64 kd, .bool no] 35)).cell? ⟨w.heap.size + 1, 2, none⟩ = some (.bool no) := (HQ3.out.alloc (.cells #[.int .i64 3, .string ⟨#[]⟩, .slice none 0 0, .int .i64 0, .string fm, .int .i64 kd, .bool no] 35)).cell 2
    have g0 : (((w1.alloc (.cells #[.slice Ag ng cg, .int .i64 gk] 24)).alloc (.cells #[.int .i64 3, .string ⟨#[]⟩, .slice none 0 0, .int .i64 0, .string fm, .int .i64 kd, .bool no] 35)).alloc (.cells #[.int .i64 4, .string ⟨#[]⟩, .slice none 0 0, .int .i64 0, .string fm, .int .i64 kd, .bool no] 35)).cell? ⟨w1.heap.size, 0, none⟩ = some (.slice Ag ng cg) := S4.out.gs.cell 0
    have g1 : (((w1.alloc (.cells #[.slice Ag ng cg, .int .i64 gk] 24)).alloc (.cells #[.int .i64 3, .string ⟨#[]⟩, .slice none 0 0, .int .i64 0, .string fm, .int .i64 kd, .bool no] 35)).alloc (.cells #[.int .i64 4, .string ⟨#[]⟩, .slice none 0 0, .int .i64 0, .string fm, .int .i64 kd, .bool no] 35)).cell? ⟨w1.heap.size, 1, none⟩ = some (.int .i64 gk) := S4.out.gs.cell 1
    have d0 : (((w1.alloc (.cells #[.slice Ag ng cg, .int .i64 gk] 24)).alloc (.cells #[.int .i64 3, .string ⟨#[]⟩, .slice none 0 0, .int .i64 0, .string fm, .int .i64 kd, .bool no] 35)).alloc (.cells #[.int .i64 4, .string ⟨#[]⟩, .slice none 0 0, .int .i64 0, .string fm, .int .i64 kd, .bool no] 35)).cell? ⟨w1.heap.size + 1, 0, none⟩ = some (.int .i64 3) := S4.out.ad.cell 0
    have d1 : (((w1.alloc (.cells #[.slice Ag ng cg, .int .i64 gk] 24)).alloc (.cells #[.int .i64 3, .string ⟨#[]⟩, .slice none 0 0, .int .i64 0, .string fm, .int .i64 kd, .bool no] 35)).alloc (.cells #[.int .i64 4, .string ⟨#[]⟩, .slice none 0 0, .int .i64 0, .string fm, .int .i64 kd, .bool no] 35)).cell? ⟨w1.heap.size + 1, 1, none⟩ = some (.string ⟨#[]⟩) := S4.out.ad.cell 1
    have d2 : (((w1.alloc (.cells #[.slice Ag ng cg, .int .i64 gk] 24)).alloc (.cells #[.int .i64 3, .string ⟨#[]⟩, .slice none 0 0, .int .i64 0, .string fm, .int .i64 kd, .bool no] 35)).alloc (.cells #[.int .i64 4, .string ⟨#[]⟩, .slice none 0 0, .int .i64 0, .string fm, .int .i64 kd, .bool no] 35)).cell? ⟨w1.heap.size + 1, 2, none⟩ = some (.slice none 0 0) := S4.out.ad.cell 2
    have d3 : (((w1.alloc (.cells #[.slice Ag ng cg, .int .i64 gk] 24)).alloc (.cells #[.int .i64 3, .string ⟨#[]⟩, .slice none 0 0, .int .i64 0, .string fm, .int .i64 kd, .bool no] 35)).alloc (.cells #[.int .i64 4, .string ⟨#[]⟩, .slice none 0 0, .int .i64 0, .string fm, .int .i64 kd, .bool no] 35)).cell? ⟨w1.heap.size + 1, 3, none⟩ = some (.int .i64 0) := S4.out.ad.cell 3
    have d4 : (((w1.alloc (.cells #[.slice Ag ng cg, .int .i64 gk] 24)).alloc (.cells #[.int .i64 3, .string ⟨#[]⟩, .slice none 0 0, .int .i64 0, .string fm, .int .i64 kd, .bool no] 35)).alloc (.cells #[.int .i64 4, .string ⟨#[]⟩, .slice none 0 0, .int .i64 0, .string fm, .int .i64 kd, .bool no] 35)).cell? ⟨w1.heap.size + 1, 4, none⟩ = some (.string fm) := S4.out.ad.cell 4
    have d5 : (((w1.alloc (.cells #[.slice Ag ng cg, .int .i64 gk] 24)).alloc (.cells #[.int .i64 3, .string ⟨#[]⟩, .slice none 0 0, .int .i64 0, .string fm, .int .i64 kd, .bool no] 35)).alloc (.cells #[.int .i64 4, .string ⟨#[]⟩, .slice none 0 0, .int .i64 0, .string fm, .int .i64 kd, .bool no] 35)).cell? ⟨w1.heap.size + 1, 5, none⟩ = some (.int .i64 kd) := S4.out.ad.cell 5
    have d6 : (((w1.alloc (.cells #[.slice Ag ng cg, .int .i64 gk] 24)).alloc (.cells #[.int .i64 3, .string ⟨#[]⟩, .slice none 0 0, .int .i64 0, .string fm, .int .i64 kd, .bool no] 35)).alloc (.cells #[.int .i64 4, .string ⟨#[]⟩, .slice none 0 0, .int .i64 0, .string fm, .int .i64 kd, .bool no] 35)).cell? ⟨w1.heap.size + 1, 6, none⟩ = some (.bool no) := S4.out.ad.cell 6
    go_wp2_with fail
    obtain ⟨W, hW⟩ : ∃ W, W = (((w1.alloc (.cells #[.slice Ag ng cg, .int .i64 gk] 24)).alloc (.cells #[.int .i64 3, .string ⟨#[]⟩, .slice none 0 0, .int .i64 0, .string fm, .int .i64 kd, .bool no] 35)).alloc (.cells #[.int .i64 4, .string ⟨#[]⟩, .slice none 0 0, .int .i64 0, .string fm, .int .i64 kd, .bool no] 35)) := ⟨_, rfl⟩
    rw [← hW] at S4 ⊢
    have hcnm : fm.size ≤ 140737488355328 := by have := HFM.out; omega
    clear hW g0 g1 d0 d1 d2 d3 d4 d5 d6 k0 k1 k2 q0 q1 q2 y0 HB3 HQ3 HG3 HV3 hrow2
    refine (apply_any Ag G ng cg gk 3 ⟨#[]⟩ none 0 0 0 fm kd no W HNG.out (by omega) (by omega) hngc hcgm hcnm S4.out.row).mono ?_
    rintro e w2 ⟨v2, rfl, ho2, hb2⟩
    obtain ⟨dn, hdn⟩ : ∃ dn, doesF G gk 3 fm kd no = dn := ⟨_, rfl⟩
    rw [hdn] at ho2 ⊢
    obtain ⟨A2, n2, c2, rfl, HN2, hnc2, hcm2, HV2, HZ2⟩ := ownC_open ho2.out
    have S5 := Lib.hid (S4.out.below hb2.out)
    clear hb2 ho2 S4 HZ2
    by_cases he : dn.e = 0
    · obtain ⟨hd1, hd2, hd3, hd4, hd5, hd6⟩ := add_ok (M := G) (k := (gk : Int)) (nm := fm) (kd := kd) (no := no) (by rw [hdn]; exact he)
      rw [hdn] at hd1
      subst hd1
      rw [add_L] at HN2 HV2
      have hk1' : applyK (gk : Int) ⟨G.length, G.length, 1, 0⟩ = gk := rfl
      rw [hk1']
      have hn2 : n2 = ng + 1 := by have h := HN2.out; rw [List.length_append, HNG.out] at h; simpa using h.symm
      subst hn2
      have HD2 := Lib.hid hd2
      have HDN := Lib.hid hdn
      clear he hdn hd2 hd3 hd4 hd5 hd6 hk1'
      have S6 := Lib.hid (S5.out.below ((Below.refl _ w2).alloc (Nat.le_refl _) (.cells #[.slice A2 (ng + 1 : Nat) c2, .int .i64 gk] 24)))
      have HN6 := Lib.hid (Has.new w2 24 #[.slice A2 (ng + 1 : Nat) c2, .int .i64 gk])
      have HR6 := Lib.hid (HV2.out.below ((Below.refl _ w2).alloc (Nat.le_refl _) (.cells #[.slice A2 (ng + 1 : Nat) c2, .int .i64 gk] 24)))
      have u0 : (w2.alloc (.cells #[.slice A2 (ng + 1 : Nat) c2, .int .i64 gk] 24)).cell? ⟨w1.heap.size + 2, 0, none⟩ = some (.int .i64 4) := S6.out.cu.cell 0
      have u1 : (w2.alloc (.cells #[.slice A2 (ng + 1 : Nat) c2, .int .i64 gk] 24)).cell? ⟨w1.heap.size + 2, 1, none⟩ = some (.string ⟨#[]⟩) := S6.out.cu.cell 1
      have u2 : (w2.alloc (.cells #[.slice A2 (ng + 1 : Nat) c2, .int .i64 gk] 24)).cell? ⟨w1.heap.size + 2, 2, none⟩ = some (.slice none 0 0) := S6.out.cu.cell 2
      have u3 : (w2.alloc (.cells #[.slice A2 (ng + 1 : Nat) c2, .int .i64 gk] 24)).cell? ⟨w1.heap.size + 2, 3, none⟩ = some (.int .i64 0) := S6.out.cu.cell 3
      have u4 : (w2.alloc (.cells #[.slice A2 (ng + 1 : Nat) c2, .int .i64 gk] 24)).cell? ⟨w1.heap.size + 2, 4, none⟩ = some (.string fm) := S6.out.cu.cell 4
      have u5 : (w2.alloc (.cells #[.slice A2 (ng + 1 : Nat) c2, .int .i64 gk] 24)).cell? ⟨w1.heap.size + 2, 5, none⟩ = some (.int .i64 kd) := S6.out.cu.cell 5
      have u6 : (w2.alloc (.cells #[.slice A2 (ng + 1 : Nat) c2, .int .i64 gk] 24)).cell? ⟨w1.heap.size + 2, 6, none⟩ = some (.bool no) := S6.out.cu.cell 6
      have a0 : (w2.alloc (.cells #[.slice A2 (ng + 1 : Nat) c2, .int .i64 gk] 24)).cell? ⟨w2.heap.size, 0, none⟩ = some (.slice A2 (ng + 1 : Nat) c2) := HN6.out.cell 0
      have a1 : (w2.alloc (.cells #[.slice A2 (ng + 1 : Nat) c2, .int .i64 gk] 24)).cell? ⟨w2.heap.size, 1, none⟩ = some (.int .i64 gk) := HN6.out.cell 1
      go_wp2_with fail
      refine (apply_any A2 (G ++ [⟨fm, kd, true⟩]) (ng + 1) c2 gk 4 ⟨#[]⟩ none 0 0 0 fm kd no _ HN2.out (by omega) (by omega) hnc2 hcm2 hcnm HR6.out).mono ?_
      rintro e w3 ⟨v3, rfl, ho3, hb3⟩
      rw [cut_F ⟨fm, kd, true⟩ rfl HD2.out (by rw [HNG.out]; exact hgn)] at ho3 ⊢
      rw [cut_L] at ho3
      have hk2' : applyK (gk : Int) ⟨G.length, G.length + 1, 0, 0⟩ = gk := rfl
      rw [hk2']
      obtain ⟨A3, n3, c3, rfl, HN3, hnc3, hcm3, HV3', HZ3⟩ := ownC_open ho3.out
      have S7 := Lib.hid (S6.out.below hb3.out)
      have HN7 := Lib.hid (HN6.out.below hb3.out HN6.out.lt)
      have HR7 := Lib.hid (HR6.out.below hb3.out)
      clear hb3 ho3 S6 HN6 HR6 HV2 u0 u1 u2 u3 u4 u5 u6 hk2' HZ3
      have hbm : Below w3.heap.size w3 (w3.alloc (.cells #[.slice A3 n3 c3, .int .i64 gk] 24)) := (Below.refl _ w3).alloc (Nat.le_refl _) _
      have S8 := Lib.hid (S7.out.below hbm)
      have HN8 := Lib.hid (HN7.out.below hbm HN7.out.lt)
      have HM8 := Lib.hid (Has.new w3 24 #[.slice A3 n3 c3, .int .i64 gk])
      have HR8 := Lib.hid (HR7.out.below hbm)
      have HT8 := Lib.hid (HV3'.out.below hbm)
      have g0 : (w3.alloc (.cells #[.slice A3 n3 c3, .int .i64 gk] 24)).cell? ⟨w1.heap.size, 0, none⟩ = some (.slice Ag ng cg) := S8.out.gs.cell 0
      have g1 : (w3.alloc (.cells #[.slice A3 n3 c3, .int .i64 gk] 24)).cell? ⟨w1.heap.size, 1, none⟩ = some (.int .i64 gk) := S8.out.gs.cell 1
      clear hbm
      go_wp2_with fail
      refine (row_any Ag G ng cg gk Ar R nr cr _ HNG.out (by omega) S8.out.row (fun x hx => (HFIT.out x hx).2.2.2) HNR.out hncr hcmr S8.out.val HFR.out).mono ?_
      rintro e w4 ⟨v4, rfl, ho4, hb4⟩
      obtain ⟨A4, n4, c4, rfl, HN4, hnc4, hcm4, HV4, HZ4⟩ := ownV_open ho4.out
      have hn4 : n4 = ng := by have h := HN4.out; unfold rowF at h; rw [rowTo_len, HNG.out] at h; exact h.symm
      subst hn4
      obtain ⟨RF, hRF⟩ : ∃ RF, rowF G R = RF := ⟨_, rfl⟩
      rw [hRF] at HN4 HV4
      have S9 := Lib.hid (S8.out.below hb4.out)
      have HN9 := Lib.hid (HN8.out.below hb4.out HN8.out.lt)
      have HM9 := Lib.hid (HM8.out.below hb4.out HM8.out.lt)
      have HR9 := Lib.hid (HR8.out.below hb4.out)
      have HT9 := Lib.hid (HT8.out.below hb4.out)
      clear hb4 ho4 S8 HN8 HM8 HR8 HT8 hRF HZ4 g0 g1
      have hB4 : Hid (Below w4.heap.size w4 w4.drew) := (Below.refl _ w4).drew
      have HT1 := Lib.hid (fun (W : World) (hb : Below w4.heap.size w4 W) => turn1 Ag G n4 cg gk fm kd no A4 RF c4 W HNG.out HN4.out (by omega) (by omega) hnc4 hcm4 hcnm (S9.out.row.below hb) (HV4.out.below hb) HDN.out)
      have HT2 := Lib.hid (fun (A5 : Option Addr) (c5 : Nat) (W : World) (hb : Below w4.heap.size w4 W) (h1 : n4 + 1 ≤ c5) (h2 : c5 ≤ maxLen) (hv : VRow W A5 (RF ++ [⟨0, 0, ⟨#[]⟩⟩])) => turn2 A2 G n4 c2 gk fm kd no A5 RF c5 W HNG.out HN4.out (by omega) hgn h1 h2 hcnm (HR9.out.below hb) hv HD2.out)
      have hlq : (RF ++ [(⟨0, 0, ⟨#[]⟩⟩ : Vl)]).length = n4 + 1 := by rw [List.length_append, HN4.out]; rfl
      have HLQ := Lib.hid hlq
      have HLR := Lib.hid HN4.out
      clear hlq
      have z00 : w4.cell? ⟨w2.heap.size, 0, none⟩ = some (.slice A2 (n4 + 1) c2) := HN9.out.cell 0
      have z01 : w4.cell? ⟨w2.heap.size, 1, none⟩ = some (.int .i64 gk) := HN9.out.cell 1
      have z10 : w4.cell? ⟨w1.heap.size + 2, 0, none⟩ = some (.int .i64 4) := S9.out.cu.cell 0
      have z11 : w4.cell? ⟨w1.heap.size + 2, 1, none⟩ = some (.string ⟨#[]⟩) := S9.out.cu.cell 1
      have z12 : w4.cell? ⟨w1.heap.size + 2, 2, none⟩ = some (.slice none 0 0) := S9.out.cu.cell 2
      have z13 : w4.cell? ⟨w1.heap.size + 2, 3, none⟩ = some (.int .i64 0) := S9.out.cu.cell 3
      have z14 : w4.cell? ⟨w1.heap.size + 2, 4, none⟩ = some (.string fm) := S9.out.cu.cell 4
      have z15 : w4.cell? ⟨w1.heap.size + 2, 5, none⟩ = some (.int .i64 kd) := S9.out.cu.cell 5
      have z16 : w4.cell? ⟨w1.heap.size + 2, 6, none⟩ = some (.bool no) := S9.out.cu.cell 6
      have z20 : w4.cell? ⟨w1.heap.size, 0, none⟩ = some (.slice Ag n4 cg) := S9.out.gs.cell 0
      have z21 : w4.cell? ⟨w1.heap.size, 1, none⟩ = some (.int .i64 gk) := S9.out.gs.cell 1
      have z30 : w4.cell? ⟨w1.heap.size + 1, 0, none⟩ = some (.int .i64 3) := S9.out.ad.cell 0
      have z31 : w4.cell? ⟨w1.heap.size + 1, 1, none⟩ = some (.string ⟨#[]⟩) := S9.out.ad.cell 1
      have z32 : w4.cell? ⟨w1.heap.size + 1, 2, none⟩ = some (.slice none 0 0) := S9.out.ad.cell 2
      have z33 : w4.cell? ⟨w1.heap.size + 1, 3, none⟩ = some (.int .i64 0) := S9.out.ad.cell 3
      have z34 : w4.cell? ⟨w1.heap.size + 1, 4, none⟩ = some (.string fm) := S9.out.ad.cell 4
      have z35 : w4.cell? ⟨w1.heap.size + 1, 5, none⟩ = some (.int .i64 kd) := S9.out.ad.cell 5
      have z36 : w4.cell? ⟨w1.heap.size + 1, 6, none⟩ = some (.bool no) := S9.out.ad.cell 6
      go_wp2_with fail
      go_region_held3 (fun W => Hid (Below w4.heap.size w4 W) ∧ W.cell? ⟨w2.heap.size, 0, none⟩ = some (.slice A2 (n4 + 1) c2) ∧ W.cell? ⟨w2.heap.size, 1, none⟩ = some (.int .i64 gk) ∧ W.cell? ⟨w1.heap.size + 2, 0, none⟩ = some (.int .i64 4) ∧ W.cell? ⟨w1.heap.size + 2, 1, none⟩ = some (.string ⟨#[]⟩) ∧ W.cell? ⟨w1.heap.size + 2, 2, none⟩ = some (.slice none 0 0) ∧ W.cell? ⟨w1.heap.size + 2, 3, none⟩ = some (.int .i64 0) ∧ W.cell? ⟨w1.heap.size + 2, 4, none⟩ = some (.string fm) ∧ W.cell? ⟨w1.heap.size + 2, 5, none⟩ = some (.int .i64 kd) ∧ W.cell? ⟨w1.heap.size + 2, 6, none⟩ = some (.bool no) ∧ W.cell? ⟨w1.heap.size, 0, none⟩ = some (.slice Ag n4 cg) ∧ W.cell? ⟨w1.heap.size, 1, none⟩ = some (.int .i64 gk) ∧ W.cell? ⟨w1.heap.size + 1, 0, none⟩ = some (.int .i64 3) ∧ W.cell? ⟨w1.heap.size + 1, 1, none⟩ = some (.string ⟨#[]⟩) ∧ W.cell? ⟨w1.heap.size + 1, 2, none⟩ = some (.slice none 0 0) ∧ W.cell? ⟨w1.heap.size + 1, 3, none⟩ = some (.int .i64 0) ∧ W.cell? ⟨w1.heap.size + 1, 4, none⟩ = some (.string fm) ∧ W.cell? ⟨w1.heap.size + 1, 5, none⟩ = some (.int .i64 kd) ∧ W.cell? ⟨w1.heap.size + 1, 6, none⟩ = some (.bool no)) ((refine ⟨by assumption, ?_⟩; go_keep))
        (first
          | (go_at_call 22; with_reducible refine (HT1.out _ hB4.out).mono ?_; rintro e x1 ⟨v5, rfl, ho5, hb5⟩; obtain ⟨A5, n5, c5, rfl, HN5, hnc5, hcm5, HV5, HZ5⟩ := ownV_open ho5.out; have hn5 : n5 = n4 + 1 := HN5.out.symm.trans HLQ.out; subst hn5; have hbx5 := Lib.hid (hB4.out.trans (hb5.out.mono hB4.out.size)); have pz00 := keepC hbx5.out z00; have pz01 := keepC hbx5.out z01; have pz10 := keepC hbx5.out z10; have pz11 := keepC hbx5.out z11; have pz12 := keepC hbx5.out z12; have pz13 := keepC hbx5.out z13; have pz14 := keepC hbx5.out z14; have pz15 := keepC hbx5.out z15; have pz16 := keepC hbx5.out z16; have pz20 := keepC hbx5.out z20; have pz21 := keepC hbx5.out z21; have pz30 := keepC hbx5.out z30; have pz31 := keepC hbx5.out z31; have pz32 := keepC hbx5.out z32; have pz33 := keepC hbx5.out z33; have pz34 := keepC hbx5.out z34; have pz35 := keepC hbx5.out z35; have pz36 := keepC hbx5.out z36;  clear ho5 HN5 HZ5)
          | (go_at_call 22; with_reducible refine (HT2.out _ _ _ hbx5.out hnc5 hcm5 HV5.out).mono ?_; rintro e x2 ⟨v6, rfl, ho6, hb6⟩; obtain ⟨A6, n6, c6, rfl, HN6, hnc6, hcm6, HV6, HZ6⟩ := ownV_open ho6.out; have hn6 : n6 = n4 := HN6.out.symm.trans HLR.out; subst hn6; have hbx6 := Lib.hid (hbx5.out.trans (hb6.out.mono hbx5.out.size)); have rz00 := keepC hbx6.out z00; have rz01 := keepC hbx6.out z01; have rz10 := keepC hbx6.out z10; have rz11 := keepC hbx6.out z11; have rz12 := keepC hbx6.out z12; have rz13 := keepC hbx6.out z13; have rz14 := keepC hbx6.out z14; have rz15 := keepC hbx6.out z15; have rz16 := keepC hbx6.out z16; have rz20 := keepC hbx6.out z20; have rz21 := keepC hbx6.out z21; have rz30 := keepC hbx6.out z30; have rz31 := keepC hbx6.out z31; have rz32 := keepC hbx6.out z32; have rz33 := keepC hbx6.out z33; have rz34 := keepC hbx6.out z34; have rz35 := keepC hbx6.out z35; have rz36 := keepC hbx6.out z36;  clear ho6 HN6 HZ6))
      all_goals
        have SA := Lib.hid (S9.out.below hbx6.out)
        have HMA := Lib.hid (HM9.out.below hbx6.out HM9.out.lt)
        have HTA := Lib.hid (HT9.out.below hbx6.out)
        have HVA := Lib.hid (HV4.out.below hbx6.out)
        have s0 : x2.cell? ⟨w3.heap.size, 0, none⟩ = some (.slice A3 n3 c3) := HMA.out.cell 0
        have s1 : x2.cell? ⟨w3.heap.size, 1, none⟩ = some (.int .i64 gk) := HMA.out.cell 1
        go_wp2_with fail
        refine (rsame_any A3 G n3 c3 gk Ag G _ cg gk x2 HN3.out HNG.out (by have h1 := HN3.out; have h2 := HNG.out; omega) (by omega) HTA.out SA.out.row).mono ?_
        rintro e w7 ⟨rfl, hb7⟩
        rw [ssF_refl]
        have SB := Lib.hid (SA.out.below hb7.out)
        have HVB := Lib.hid (HVA.out.below hb7.out)
        have HVC := Lib.hid (HV6.out.below hb7.out)
        clear hb7 SA HVA HV6
        go_wp2_with fail
        refine (same_any A6 _ c6 A4 c4 RF w7 HLR.out (by omega) HVC.out HVB.out).mono ?_
        rintro e w8 ⟨rfl, hb8⟩
        have SC8 := Lib.hid (SB.out.below hb8.out)
        clear hb8 SB HVB HVC
        go_wp2_with fail
        refine (lives4_any _).mono ?_
        rintro e w9 ⟨rfl, hb9⟩
        have SD := Lib.hid (SC8.out.below hb9.out)
        clear hb9 SC8
        go_wp2_with fail
        go_ret
        exact ⟨rfl, SD.out.bel⟩
    · obtain ⟨df, dt, dm, de⟩ := dn
      simp only at he
      have hq : (de != 0) = true := by simp [he]
      have HB9 := Lib.hid (S5.out.bel.alloc S5.out.bel.size (.cells #[.slice A2 n2 c2, .int .i64 (applyK (gk : Int) ⟨df, dt, dm, de⟩)] 24))
      generalize applyK (gk : Int) ⟨df, dt, dm, de⟩ = ak at *
      go_wp2_with fail
      refine (lives4_any _).mono ?_
      rintro e w9 ⟨rfl, hb9⟩
      have HBA := Lib.hid (HB9.out.trans (hb9.out.mono HB9.out.size))
      clear hb9
      go_wp2_with fail
      go_ret
      exact ⟨rfl, HBA.out⟩
end Go.Proofs.Ytmbnfneaniaofaa.schemaBack
