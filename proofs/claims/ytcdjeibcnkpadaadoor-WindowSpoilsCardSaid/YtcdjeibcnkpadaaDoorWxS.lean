/-
  Rows of the same values are told the same.
-/
import Derived.Test.YtcdjeibcnkpadaaDoorWxD
namespace Go.Proofs.YtcdjeibcnkpadaaDoor
open Go.RowKit Go.Maps Dg
set_option maxRecDepth 100000
set_option linter.unusedVariables false
theorem rsIn_own {B : Nat} {w : World} {v : Value} {S : List Sl} {L : List (List Vl)} (h : OwnRs B w v S) (hr : RsAt B w S L) (hf : ∀ l ∈ L, ∀ x ∈ l, x.fit) : ∃ A n c, v = .slice A n c ∧ RsIn w A n c S L := by
  obtain ⟨A, n, c, e, h1, h2, h3, h4⟩ := ownRs_open h
  refine ⟨A, n, c, e, h1, h2, fun hne => ?_, by rw [← hr.len, h1], fun i hi hj => ?_⟩
  · have h0 : 0 < S.length := List.length_pos_iff.2 hne
    obtain ⟨b, off, ea, _⟩ := h4 0 h0
    refine ⟨b, off, ea, fun i hi => ?_⟩
    obtain ⟨b', off', ea', hc⟩ := h4 i hi
    rw [ea] at ea'
    injection ea' with ea'
    injection ea' with q1 q2
    subst q1 q2
    exact hc
  · have key : ∀ {S : List Sl} {L : List (List Vl)}, RsAt B w S L → (∀ l ∈ L, ∀ x ∈ l, x.fit) → ∀ i (hi : i < S.length) (hj : i < L.length), RwAt w S[i].a S[i].n S[i].c L[i] := by
      intro S
      induction S with
      | nil => intro L _ _ i hi; cases hi
      | cons s S ih =>
        intro L hr hf i hi hj
        cases L with
        | nil => exact hr.elim
        | cons l L =>
          cases i with
          | zero => exact rwAt_own hr.1 (hf l List.mem_cons_self)
          | succ i => exact ih hr.2 (fun l hl => hf l (List.mem_cons_of_mem _ hl)) i (by simpa using hi) (by simpa using hj)
    exact key hr hf i hi hj
set_option maxHeartbeats 4000000 in
theorem rsame_any (Aa : Option Addr) (na ca : Nat) (Sa : List Sl) (Ab : Option Addr) (nb cb : Nat) (Sb : List Sl) (L : List (List Vl)) (w : World) (ha : RsIn w Aa na ca Sa L) (hb : RsIn w Ab nb cb Sb L) (hz : na ≤ 1000000000) (hzl : ∀ l ∈ L, l.length ≤ 1000000000) :
    Calls Tryd.prog 23 #[.slice Aa na ca, .slice Ab nb cb] w fun e w' => e = .returned (.bool true) ∧ Hid (Below w.heap.size w w') := by
  obtain rfl : na = nb := by rw [← ha.many, hb.many]
  have eq := eqV
  have hq : ((na : Int) != (na : Int)) = false := by simp
  go_enter Tryd.func23, Tryd.ntmps23
  go_wp2_with fail
  go_loopw [5] (fun i wr => ∃ j : Nat, j ≤ na ∧ i = .int .i64 j ∧ Hid (Below w.heap.size w wr)) (fun i _ => na - (intOf i).toNat)
  case atStart => exact ⟨0, by omega, rfl, Below.refl _ _⟩
  case round =>
    obtain ⟨j, hj, rfl, HBr⟩ := hrel
    by_cases hlt : j < na
    · have hja : j < Sa.length := by rw [ha.len]; exact hlt
      have hjb : j < Sb.length := by rw [hb.len]; exact hlt
      have hjL : j < L.length := by rw [ha.many]; exact hlt
      obtain ⟨b1, o1, rfl, hc1⟩ := (ha.below HBr.out).cells (by intro e; rw [e] at hja; simp at hja)
      obtain ⟨b2, o2, rfl, hc2⟩ := (hb.below HBr.out).cells (by intro e; rw [e] at hjb; simp at hjb)
      have c1 := hc1 j hja
      have c2 := hc2 j hjb
      have HR1 := Lib.hid ((ha.rows j hja hjL).below HBr.out)
      have HR2 := Lib.hid ((hb.rows j hjb hjL).below HBr.out)
      have hzr := hzl L[j] (List.getElem_mem hjL)
      obtain ⟨r, hr⟩ : ∃ r, L[j] = r := ⟨_, rfl⟩
      rw [hr] at HR1 HR2 hzr
      obtain ⟨s1, hs1⟩ : ∃ s, Sa[j] = s := ⟨_, rfl⟩
      obtain ⟨s2, hs2⟩ : ∃ s, Sb[j] = s := ⟨_, rfl⟩
      rw [hs1] at c1 HR1
      rw [hs2] at c2 HR2
      obtain ⟨A1, n1, k1⟩ := s1
      obtain ⟨A2, n2, k2⟩ := s2
      dsimp only at c1 c2 HR1 HR2
      obtain rfl : n1 = n2 := by rw [← HR1.out.len, HR2.out.len]
      clear hc1 hc2 hr hs1 hs2
      have hkz : (j : Int) < (na : Int) := by omega
      have hk0 : (0 : Int) ≤ (j : Int) := by omega
      have hq2 : ((n1 : Int) != (n1 : Int)) = false := by simp
      obtain ⟨wo, hwo⟩ : ∃ wo : World, wo = wr := ⟨_, rfl⟩
      rw [← hwo] at c1 c2 HR1 HR2 HBr ⊢
      clear hwo
      go_wp2_with fail
      go_region
      all_goals
        go_wp2_with fail
        go_loopw [6] (fun i wr => ∃ m : Nat, m ≤ n1 ∧ i = .int .i64 m ∧ Hid (Below wo.heap.size wo wr)) (fun i _ => n1 - (intOf i).toNat)
        case atStart => exact ⟨0, by omega, rfl, (Below.refl _ _).drew⟩
        case round =>
          obtain ⟨m, hm, rfl, HBq⟩ := hrel
          by_cases hml : m < n1
          · have hmr : m < r.length := by rw [HR1.out.len]; exact hml
            obtain ⟨b3, o3, rfl, hd1⟩ := (HR1.out.row.below HBq.out) (by intro e; rw [e] at hmr; simp at hmr)
            obtain ⟨b4, o4, rfl, hd2⟩ := (HR2.out.row.below HBq.out) (by intro e; rw [e] at hmr; simp at hmr)
            obtain ⟨d0, d1, d2⟩ := hd1 m hmr
            obtain ⟨g0, g1, g2⟩ := hd2 m hmr
            have c1q : wr.cell? ⟨b1, o1 + j, none⟩ = some (.slice (some ⟨b3, o3, none⟩) n1 k1) := (HBq.out.cell (World.block_lt_of_cell? wo _ c1)).trans c1
            have c2q : wr.cell? ⟨b2, o2 + j, none⟩ = some (.slice (some ⟨b4, o4, none⟩) n1 k2) := (HBq.out.cell (World.block_lt_of_cell? wo _ c2)).trans c2
            obtain ⟨x, hx⟩ : ∃ x, r[m] = x := ⟨_, rfl⟩
            rw [hx] at d0 d1 d2 g0 g1 g2
            obtain ⟨xk, xn, xs⟩ := x
            dsimp only at d0 d1 d2 g0 g1 g2
            clear hd1 hd2 hx
            have hkm : (m : Int) < (n1 : Int) := by omega
            have hkm0 : (0 : Int) ≤ (m : Int) := by omega
            go_wp2_with fail
            go_region
            all_goals
              go_wp2_with fail
              go_roundw
              case rel => exact ⟨m + 1, by omega, by go_num, HBq.out.drew⟩
              case measure => simp [intOf]; omega
          · obtain rfl : m = n1 := by omega
            have c1q : wr.cell? ⟨b1, o1 + j, none⟩ = some (.slice A1 m k1) := (HBq.out.cell (World.block_lt_of_cell? wo _ c1)).trans c1
            go_wp2_with fail
            go_roundw
            case rel => exact ⟨j + 1, by omega, by go_num, HBr.out.trans (HBq.out.mono HBr.out.size)⟩
            case measure => simp [intOf]; omega
    · obtain rfl : j = na := by omega
      go_wp2_with fail
      go_ret
      exact ⟨rfl, HBr.out⟩
end Go.Proofs.YtcdjeibcnkpadaaDoor
