/-
  The law ChunkTurns walked.
-/
import Derived.Test.YtjmfcbfjeoooeaaDoorCovM
import Derived.Test.YtjmfcbfjeoooeaaDoorDropW
import Derived.Test.YtjmfcbfjeoooeaaDoorRRight
import Derived.Test.YtjmfcbfjeoooeaaDoorRGood
import Derived.Test.YtjmfcbfjeoooeaaDoorLives11
import Derived.Test.YtjmfcbfjeoooeaaDoorArgsW
namespace Go.Proofs.YtjmfcbfjeoooeaaDoor.chunkTurns
open Go.RowKit Dg
set_option maxRecDepth 100000
/-- The names, and the keys, that the law asks of. -/
def nmAt (t : ByteArray) (i : Nat) : ByteArray := if i = 0 then nm40 t else if i = 1 then ⟨#[116]⟩ else ⟨#[117]⟩
def kyAt (x : ByteArray) (n : Int) (i : Nat) : ByteArray := if i = 0 then nm40 x else kI n
theorem nm_cell {w : World} {q : Nat} {t : ByteArray} (h : Has w q 9 #[.string (nm40 t), .string ⟨#[116]⟩, .string ⟨#[117]⟩]) (i : Nat) (hi : i < 3) : w.cell? ⟨q, i, none⟩ = some (.string (nmAt t i)) := by
  rw [h.cell]
  have : i = 0 ∨ i = 1 ∨ i = 2 := by omega
  rcases this with rfl | rfl | rfl <;> rfl
theorem ky_cell {w : World} {q : Nat} {x : ByteArray} {n : Int} (h : Has w q 9 #[.string (nm40 x), .string (kI n)]) (i : Nat) (hi : i < 2) : w.cell? ⟨q, i, none⟩ = some (.string (kyAt x n i)) := by
  rw [h.cell]
  have : i = 0 ∨ i = 1 := by omega
  rcases this with rfl | rfl <;> rfl
theorem gkk {x : ByteArray} {a : Int} (i : Nat) : (kyAt x a i).size ≤ 64 := by
  unfold kyAt
  split
  · have := nm40_size x; omega
  · rw [kI_size]; omega
theorem gnn {t : ByteArray} (i : Nat) : (nmAt t i).size ≤ 40 := by
  unfold nmAt
  split
  · exact nm40_size t
  · split <;> simp [ByteArray.size]
/-- Works behind Add may be. -/
theorem add_may {T : List Wk} {s : ByteArray} (hS : SortW T) (hm : ∀ x ∈ T, mayW x = true) : wrightF (addL T s) = true := by
  refine wright_of (addL_sort hS) fun x hx => ?_
  rcases add_cases T s with h | ⟨hp, h⟩
  · rw [h] at hx; cases hx
  · have hn : nameF s = true := by
      unfold addL at h
      split at h
      · exact absurd (congrArg List.length h) (by rw [gput_len]; simp)
      · rename_i hq
        cases hnn : nameF s
        · exact absurd (.inl hnn) hq
        · rfl
    rw [h] at hx
    rcases gput_mem.1 hx with rfl | hx
    · simp [mayW, hn, ByteArray.size]
    · exact hm x hx
/-- Works behind Go may be. -/
theorem go_may {T : List Wk} {q k : ByteArray} {d : Bool} (hS : SortW T) (hm : ∀ x ∈ T, mayW x = true) : wrightF (goW T q k d) = true := by
  refine wright_of (goW_sort hS) fun x hx => ?_
  by_cases h : goE T q k d = 0
  · obtain ⟨hp, hd, hc⟩ := go_zero h
    have hl := plW_lt hp
    rw [goW_zero h, setW_is hp] at hx
    have hn : nameF q = true := by
      have h1 := hm _ (List.getElem_mem hl)
      rw [wel hp hl] at h1
      unfold mayW at h1
      rw [Bool.and_eq_true] at h1
      exact h1.1
    rcases List.mem_append.1 hx with hx | hx
    · rcases List.mem_append.1 hx with hx | hx
      · exact hm x (List.mem_of_mem_take hx)
      · rw [List.mem_singleton.1 hx]
        rcases hc with rfl | ⟨rfl, hk, _⟩
        · simp [mayW, hn, ByteArray.size]
        · simp [mayW, hn, hk]
    · exact hm x (List.mem_of_mem_drop hx)
  · unfold goW at hx
    rw [if_neg h] at hx
    cases hx
set_option maxHeartbeats 16000000 in
theorem walk (A : Option Addr) (n c : Nat) (L : List Wk) (t x : ByteArray) (a : Int) (dn : Bool) (w : World) (hn : L.length = n) (hnc : n ≤ c) (hcm : c ≤ maxLen) (hr : WRow w A L) (hf : ∀ x ∈ L, Wk.fit x) (ht : t.size ≤ 140737488355328) (hx : x.size ≤ 140737488355328) (ha0 : -9223372036854775808 ≤ a) (ha1 : a ≤ 9223372036854775807) (hT : Tabs w) :
    Calls Tryd.prog 4 #[.slice A n c, .string t, .string x, .int .i64 a, .bool dn] w fun e w' => e = .returned (.bool true) ∧ Below w.heap.size w w' := by
  have HFEW := Lib.hid (few_any A L n c w hn hnc hcm hr hf)
  have HFEW2 := Lib.hid (fun W (hb : Below w.heap.size w W) => few_any A L n c W hn hnc hcm (hr.below hb) hf)
  have HT := Lib.hid hT
  have HNA := Lib.hid (fun W => name11_any t W ht)
  have HNX := Lib.hid (fun W => name11_any x W hx)
  have HKA := Lib.hid (fun W => lawKey_any a W ha0 ha1)
  clear hn hnc hcm hr hf hT ht hx ha0 ha1
  go_enter Tryd.func4, Tryd.ntmps4
  go_wp2_with fail
  refine HFEW.out.mono ?_
  rintro e w1 ⟨u1, rfl, ho1, hb1⟩
  go_wp2_with fail
  refine (rgood11_any w1 ho1.out (fewL_short L)).mono ?_
  rintro e w2 ⟨u2, rfl, ho2, hb2⟩
  have HB2 := Lib.hid (hb1.out.trans (hb2.out.mono hb1.out.size))
  have hS0 := goodW_sort (fewL L)
  have hl0 := goodW_len (fewL L)
  have HGD := Lib.hid (goodW_good (fewL L))
  obtain ⟨T, hTT⟩ : ∃ T, T = goodW (fewL L) := ⟨_, rfl⟩
  have HTT := Lib.hid hTT
  rw [← hTT] at ho2 hS0 hl0 HGD
  clear hTT
  have HSO := Lib.hid hS0
  have HO2 := Lib.hid (ownW_down ho2.out hb1.out.size)
  clear hb1 hb2 ho1 ho2 HFEW hS0
  obtain ⟨A2, n2, z2, rfl, HN, hnz, hzm, HR, _⟩ := ownW_open HO2.out
  go_wp2_with fail
  refine (HNA.out _).mono ?_
  rintro e w3 ⟨rfl, rfl⟩
  have HQ3 := Lib.hid (Has.new w3 9 #[.string (nm40 t), .string ⟨#[116]⟩, .string ⟨#[117]⟩])
  have hw3 : Below w3.heap.size w3 (w3.alloc (.cells #[.string (nm40 t), .string ⟨#[116]⟩, .string ⟨#[117]⟩] 9)) := (Below.refl _ w3).alloc (Nat.le_refl _) _
  have HB3 := Lib.hid (HB2.out.trans (hw3.mono HB2.out.size))
  have HO3 := Lib.hid (HO2.out.below hw3)
  clear hw3 HNA HR
  go_wp2_with fail
  obtain ⟨W3, hW3⟩ : ∃ W, W = w3.alloc (.cells #[.string (nm40 t), .string ⟨#[116]⟩, .string ⟨#[117]⟩] 9) := ⟨_, rfl⟩
  rw [← hW3] at HQ3 HB3 HO3 ⊢
  clear hW3 HB2 HO2
  generalize w3.heap.size = qn at *
  refine (HNX.out _).mono ?_
  rintro e w4 ⟨rfl, rfl⟩
  go_wp2_with fail
  refine (HKA.out _).mono ?_
  rintro e w5 ⟨rfl, hb5⟩
  have HB5 := Lib.hid (HB3.out.trans (hb5.out.mono HB3.out.size))
  have HO5 := Lib.hid (HO3.out.below hb5.out)
  have HQ5 := Lib.hid (HQ3.out.below hb5.out HQ3.out.lt)
  clear hb5 HB3 HO3 HQ3 HNX
  have HK6 := Lib.hid (Has.new w5 9 #[.string (nm40 x), .string (kI a)])
  have hw6 : Below w5.heap.size w5 (w5.alloc (.cells #[.string (nm40 x), .string (kI a)] 9)) := (Below.refl _ w5).alloc (Nat.le_refl _) _
  have HB6 := Lib.hid (HB5.out.trans (hw6.mono HB5.out.size))
  have HO6 := Lib.hid (HO5.out.below hw6)
  have HQ6 := Lib.hid (HQ5.out.below hw6 HQ5.out.lt)
  clear hw6 HB5 HO5 HQ5 HKA
  go_wp2_with fail
  obtain ⟨W0, hW0⟩ : ∃ W, W = w5.alloc (.cells #[.string (nm40 x), .string (kI a)] 9) := ⟨_, rfl⟩
  rw [← hW0] at HK6 HB6 HO6 HQ6 ⊢
  clear hW0
  generalize w5.heap.size = qk at *
  have HMAY : Hid (∀ x ∈ T, mayW x = true) := fun x hx => (HGD.out x hx).may
  have HSZ : Hid (∀ x ∈ T, x.t.size ≤ 32 ∧ x.k.size ≤ 9) := fun x hx => (HGD.out x hx).sizes
  clear HGD
  go_loopw [14] (fun i wr => ∃ j : Nat, j ≤ 3 ∧ i = .int .i64 j ∧ Hid (Below W0.heap.size W0 wr)) (fun i _ => 3 - (intOf i).toNat)
  case atStart => exact ⟨0, by omega, rfl, Below.refl _ _⟩
  case round =>
    obtain ⟨i, hi, rfl, HBW⟩ := hrel
    have HB := Lib.hid (HB6.out.trans (HBW.out.mono HB6.out.size))
    have HO := Lib.hid (HO6.out.below HBW.out)
    obtain ⟨wo, rfl⟩ : ∃ wo : World, wo = wr := ⟨_, rfl⟩
    by_cases hi3 : i < 3
    · have hiz : (i : Int) < 3 := by omega
      have HNC : Hid (∀ W, Below wo.heap.size wo W → W.cell? ⟨qn, i, none⟩ = some (.string (nmAt t i))) := fun W hW => nm_cell ((HQ6.out.below HBW.out HQ6.out.lt).below hW (Nat.lt_of_lt_of_le HQ6.out.lt HBW.out.size)) i hi3
      have HKC : Hid (∀ W, Below wo.heap.size wo W → ∀ j, j < 2 → W.cell? ⟨qk, j, none⟩ = some (.string (kyAt x a j))) := fun W hW j hj => ky_cell ((HK6.out.below HBW.out HK6.out.lt).below hW (Nat.lt_of_lt_of_le HK6.out.lt HBW.out.size)) j hj
      have hns := @gnn t i
      generalize nmAt t i = ni at *
      have HAM := Lib.hid (add_may (s := ni) HSO.out HMAY.out)
      have hal := addL_len T ni
      have HAZ : Hid (∀ x ∈ addL T ni, x.t.size ≤ 140737488355328 ∧ x.k.size ≤ 900) := fun x hx => by
        rcases add_cases T ni with h | ⟨_, h⟩
        · rw [h] at hx; cases hx
        · rw [h] at hx
          rcases gput_mem.1 hx with rfl | hx
          · exact ⟨by simp only; omega, by simp [ByteArray.size]⟩
          · have := HSZ.out x hx; omega
      have HA1 := Lib.hid (fun W (h : OwnW w.heap.size W (.slice A2 n2 z2) T) => wadd_any ni W h (by omega) HSO.out (by omega))
      have HA2 := Lib.hid (fun W (h : OwnW w.heap.size W (.slice A2 n2 z2) T) => radd_any ni W h (by omega) HSO.out)
      have HSD := Lib.hid (fun (W : World) (B B' : Nat) (v v' : Value) (h : OwnW B W v (addL T ni)) (h' : OwnW B' W v' (addL T ni)) => sameW_any W h h' (by omega))
      have hdl : (dropW T ni).length ≤ 1000 := by
        have := remTo_len T ni T.length
        rw [remTo_all HSO.out] at this
        omega
      have HSE := Lib.hid (fun (W : World) (B B' : Nat) (v v' : Value) (h : OwnW B W v (dropW T ni)) (h' : OwnW B' W v' (dropW T ni)) => sameW_any W h h' hdl)
      have HSS := Lib.hid (sameW_self (addL T ni))
      have HST := Lib.hid (sameW_self (dropW T ni))
      rw [HSS.out] at HSD
      rw [HST.out] at HSE
      have HWR := Lib.hid (fun (W : World) (B : Nat) (v : Value) (h : OwnW B W v (addL T ni)) hW => pwright_any W h (by omega) HAZ.out hW)
      rw [HAM.out] at HWR
      generalize addL T ni = M at *
      generalize addE T ni = me at *
      have c6 := HNC.out wo (Below.refl _ _)
      go_wp2_with fail
      refine (HA1.out _ HO.out).mono ?_
      rintro e w7 ⟨um, rfl, hom, hb7⟩
      have HM7 := Lib.hid (ownW_down hom.out HB.out.size)
      have HO7 := Lib.hid (HO.out.below hb7.out)
      have HW7 : Hid (Below wo.heap.size wo w7) := hb7
      have c7 := HNC.out w7 HW7.out
      clear hom hb7 c6
      go_wp2_with fail
      refine (HA2.out _ HO7.out).mono ?_
      rintro e w8 ⟨ur, rfl, hor, hb8⟩
      have HR8 := Lib.hid (ownW_down hor.out (Nat.le_trans HB.out.size HW7.out.size))
      have HM8 := Lib.hid (HM7.out.below hb8.out)
      have HO8 := Lib.hid (HO7.out.below hb8.out)
      have HW8 := Lib.hid (HW7.out.trans (hb8.out.mono HW7.out.size))
      have c8 := HNC.out w8 HW8.out
      clear hor hb8 c7 HA1 HA2
      go_wp2_with fail
      have hS8 : (fun X : World => X.cell? ⟨qn, i, none⟩ = some (.string ni)) w8.drew := c8
      have HO80 := Lib.hid (HO8.out.below (Below.refl _ w8).drew)
      have HM80 := Lib.hid (HM8.out.below (Below.refl _ w8).drew)
      have HR80 := Lib.hid (HR8.out.below (Below.refl _ w8).drew)
      have HW80 := Lib.hid (HW8.out.drew)
      refine wp_region_held_drew (S := (fun X : World => X.cell? ⟨qn, i, none⟩ = some (.string ni))) (by kernel_rfl) hS8 (fun _ => ?_)
      (refine wpAnyH_take (i := 0) (v := ?_) rfl (by kernel_rfl) (by kernel_rfl) (by kernel_rfl) (fun _ _ _ h => h) (Or.inl ⟨by rfl, ?_⟩) (by assumption) ?_; rotate_left; (intro w hSw; (try dsimp only at hSw); go_simp; try with_reducible rfl); ((try simp only [List.getElem_toArray]); (try simp only [List.getElem_cons_succ]); (try simp only [List.getElem_cons_zero]); (try simp only [Act.put]); (try simp only [List.setIfInBounds_toArray]); (try simp only [List.set_cons_succ]); (try simp only [List.set_cons_zero])))
      (refine wpAnyH_take (i := 1) (v := ?_) rfl (by kernel_rfl) (by kernel_rfl) (by kernel_rfl) (fun _ _ _ h => h) (Or.inl ⟨by rfl, ?_⟩) (by assumption) ?_; rotate_left; (intro w hSw; (try dsimp only at hSw); go_simp; try with_reducible rfl); ((try simp only [List.getElem_toArray]); (try simp only [List.getElem_cons_succ]); (try simp only [List.getElem_cons_zero]); (try simp only [Act.put]); (try simp only [List.setIfInBounds_toArray]); (try simp only [List.set_cons_succ]); (try simp only [List.set_cons_zero])))
      refine wpAnyH_ready (rs := [2]) (by kernel_rfl) (by simp) ?_
      refine AllReadyH.cons rfl (fun K2 hK2 => ?_) AllReadyH.nil
      go_simp
      refine (HSD.out _ _ _ _ _ HM80.out HR80.out).mono ?_
      rintro e w82 ⟨rfl, hb82⟩
      have HO82 := Lib.hid (HO80.out.below hb82.out)
      have HM82 := Lib.hid (HM80.out.below hb82.out)
      have HW82 := Lib.hid (HW80.out.trans (hb82.out.mono HW80.out.size))
      have c82 : (fun X : World => X.cell? ⟨qn, i, none⟩ = some (.string ni)) w82 := HNC.out w82 HW82.out
      go_wp2_with fail
      refine hK2.out _ _ (by (try dsimp only); exact c82) (fun _ => ?_)
      clear hK2 K2
      (try simp only [List.getElem_toArray]); (try simp only [List.getElem_cons_succ]); (try simp only [List.getElem_cons_zero]); (try simp only [Act.put]); (try simp only [List.setIfInBounds_toArray]); (try simp only [List.set_cons_succ]); (try simp only [List.set_cons_zero])
      (refine wpAnyH_take (i := 3) (v := ?_) rfl (by kernel_rfl) (by kernel_rfl) (by kernel_rfl) (fun _ _ _ h => h) (Or.inl ⟨by rfl, ?_⟩) (by assumption) ?_; rotate_left; (intro w hSw; (try dsimp only at hSw); go_simp; try with_reducible rfl); ((try simp only [List.getElem_toArray]); (try simp only [List.getElem_cons_succ]); (try simp only [List.getElem_cons_zero]); (try simp only [Act.put]); (try simp only [List.setIfInBounds_toArray]); (try simp only [List.set_cons_succ]); (try simp only [List.set_cons_zero])))
      (refine wpAnyH_take (i := 4) (v := ?_) rfl (by kernel_rfl) (by kernel_rfl) (by kernel_rfl) (fun _ _ _ h => h) (Or.inl ⟨by rfl, ?_⟩) (by assumption) ?_; rotate_left; (intro w hSw; (try dsimp only at hSw); go_simp; try with_reducible rfl); ((try simp only [List.getElem_toArray]); (try simp only [List.getElem_cons_succ]); (try simp only [List.getElem_cons_zero]); (try simp only [Act.put]); (try simp only [List.setIfInBounds_toArray]); (try simp only [List.set_cons_succ]); (try simp only [List.set_cons_zero])))
      (refine wpAnyH_take (i := 5) (v := ?_) rfl (by kernel_rfl) (by kernel_rfl) (by kernel_rfl) (fun _ _ _ h => h) (Or.inl ⟨by rfl, ?_⟩) (by assumption) ?_; rotate_left; (intro w hSw; (try dsimp only at hSw); go_simp; try with_reducible rfl); ((try simp only [List.getElem_toArray]); (try simp only [List.getElem_cons_succ]); (try simp only [List.getElem_cons_zero]); (try simp only [Act.put]); (try simp only [List.setIfInBounds_toArray]); (try simp only [List.set_cons_succ]); (try simp only [List.set_cons_zero])))
      (refine wpAnyH_take (i := 6) (v := ?_) rfl (by kernel_rfl) (by kernel_rfl) (by kernel_rfl) (fun _ _ _ h => h) (Or.inl ⟨by rfl, ?_⟩) (by assumption) ?_; rotate_left; (intro w hSw; (try dsimp only at hSw); go_simp; try with_reducible rfl); ((try simp only [List.getElem_toArray]); (try simp only [List.getElem_cons_succ]); (try simp only [List.getElem_cons_zero]); (try simp only [Act.put]); (try simp only [List.setIfInBounds_toArray]); (try simp only [List.set_cons_succ]); (try simp only [List.set_cons_zero])))
      (refine wpAnyH_take (i := 7) (v := ?_) rfl (by kernel_rfl) (by kernel_rfl) (by kernel_rfl) (fun _ _ _ h => h) (Or.inl ⟨by rfl, ?_⟩) (by assumption) ?_; rotate_left; (intro w hSw; (try dsimp only at hSw); go_simp; try with_reducible rfl); ((try simp only [List.getElem_toArray]); (try simp only [List.getElem_cons_succ]); (try simp only [List.getElem_cons_zero]); (try simp only [Act.put]); (try simp only [List.setIfInBounds_toArray]); (try simp only [List.set_cons_succ]); (try simp only [List.set_cons_zero])))
      (refine wpAnyH_take (i := 8) (v := ?_) rfl (by kernel_rfl) (by kernel_rfl) (by kernel_rfl) (fun _ _ _ h => h) (Or.inl ⟨by rfl, ?_⟩) (by assumption) ?_; rotate_left; (intro w hSw; (try dsimp only at hSw); go_simp; try with_reducible rfl); ((try simp only [List.getElem_toArray]); (try simp only [List.getElem_cons_succ]); (try simp only [List.getElem_cons_zero]); (try simp only [Act.put]); (try simp only [List.setIfInBounds_toArray]); (try simp only [List.set_cons_succ]); (try simp only [List.set_cons_zero])))
      (refine wpAnyH_take (i := 9) (v := ?_) rfl (by kernel_rfl) (by kernel_rfl) (by kernel_rfl) (fun _ _ _ h => h) (Or.inl ⟨by rfl, ?_⟩) (by assumption) ?_; rotate_left; (intro w hSw; (try dsimp only at hSw); go_simp; try with_reducible rfl); ((try simp only [List.getElem_toArray]); (try simp only [List.getElem_cons_succ]); (try simp only [List.getElem_cons_zero]); (try simp only [Act.put]); (try simp only [List.setIfInBounds_toArray]); (try simp only [List.set_cons_succ]); (try simp only [List.set_cons_zero])))
      (refine wpAnyH_take (i := 10) (v := ?_) rfl (by kernel_rfl) (by kernel_rfl) (by kernel_rfl) (fun _ _ _ h => h) (Or.inl ⟨by rfl, ?_⟩) (by assumption) ?_; rotate_left; (intro w hSw; (try dsimp only at hSw); go_simp; try with_reducible rfl); ((try simp only [List.getElem_toArray]); (try simp only [List.getElem_cons_succ]); (try simp only [List.getElem_cons_zero]); (try simp only [Act.put]); (try simp only [List.setIfInBounds_toArray]); (try simp only [List.set_cons_succ]); (try simp only [List.set_cons_zero])))
      refine wpAnyH_ready (rs := [11]) (by kernel_rfl) (by simp) ?_
      refine AllReadyH.cons rfl (fun K2 hK2 => ?_) AllReadyH.nil
      go_simp
      refine (HWR.out _ _ _ HM82.out (HT.out.below (HB.out.trans (HW82.out.mono HB.out.size)))).mono ?_
      rintro e w83 ⟨rfl, hb83⟩
      have HO83 := Lib.hid (HO82.out.below hb83.out)
      have HW83 := Lib.hid (HW82.out.trans (hb83.out.mono HW82.out.size))
      have c83 : (fun X : World => X.cell? ⟨qn, i, none⟩ = some (.string ni)) w83 := HNC.out w83 HW83.out
      go_wp2_with fail
      refine hK2.out _ _ (by (try dsimp only); exact c83) (fun _ => ?_)
      clear hK2 K2
      (try simp only [List.getElem_toArray]); (try simp only [List.getElem_cons_succ]); (try simp only [List.getElem_cons_zero]); (try simp only [Act.put]); (try simp only [List.setIfInBounds_toArray]); (try simp only [List.set_cons_succ]); (try simp only [List.set_cons_zero])
      (refine wpAnyH_take (i := 12) (v := ?_) rfl (by kernel_rfl) (by kernel_rfl) (by kernel_rfl) (fun _ _ _ h => h) (Or.inl ⟨by rfl, ?_⟩) (by assumption) ?_; rotate_left; (intro w hSw; (try dsimp only at hSw); go_simp; try with_reducible rfl); ((try simp only [List.getElem_toArray]); (try simp only [List.getElem_cons_succ]); (try simp only [List.getElem_cons_zero]); (try simp only [Act.put]); (try simp only [List.setIfInBounds_toArray]); (try simp only [List.set_cons_succ]); (try simp only [List.set_cons_zero])))
      (refine wpAnyH_take (i := 13) (v := ?_) rfl (by kernel_rfl) (by kernel_rfl) (by kernel_rfl) (fun _ _ _ h => h) (Or.inl ⟨by rfl, ?_⟩) (by assumption) ?_; rotate_left; (intro w hSw; (try dsimp only at hSw); go_simp; try with_reducible rfl); ((try simp only [List.getElem_toArray]); (try simp only [List.getElem_cons_succ]); (try simp only [List.getElem_cons_zero]); (try simp only [Act.put]); (try simp only [List.setIfInBounds_toArray]); (try simp only [List.set_cons_succ]); (try simp only [List.set_cons_zero])))
      (refine wpAnyH_take (i := 14) (v := ?_) rfl (by kernel_rfl) (by kernel_rfl) (by kernel_rfl) (fun _ _ _ h => h) (Or.inl ⟨by rfl, ?_⟩) (by assumption) ?_; rotate_left; (intro w hSw; (try dsimp only at hSw); go_simp; try with_reducible rfl); ((try simp only [List.getElem_toArray]); (try simp only [List.getElem_cons_succ]); (try simp only [List.getElem_cons_zero]); (try simp only [Act.put]); (try simp only [List.setIfInBounds_toArray]); (try simp only [List.set_cons_succ]); (try simp only [List.set_cons_zero])))
      (refine wpAnyH_take (i := 15) (v := ?_) rfl (by kernel_rfl) (by kernel_rfl) (by kernel_rfl) (fun _ _ _ h => h) (Or.inl ⟨by rfl, ?_⟩) (by assumption) ?_; rotate_left; (intro w hSw; (try dsimp only at hSw); go_simp; try with_reducible rfl); ((try simp only [List.getElem_toArray]); (try simp only [List.getElem_cons_succ]); (try simp only [List.getElem_cons_zero]); (try simp only [Act.put]); (try simp only [List.setIfInBounds_toArray]); (try simp only [List.set_cons_succ]); (try simp only [List.set_cons_zero])))
      (refine wpAnyH_take (i := 16) (v := ?_) rfl (by kernel_rfl) (by kernel_rfl) (by kernel_rfl) (fun _ _ _ h => h) (Or.inl ⟨by rfl, ?_⟩) (by assumption) ?_; rotate_left; (intro w hSw; (try dsimp only at hSw); go_simp; try with_reducible rfl); ((try simp only [List.getElem_toArray]); (try simp only [List.getElem_cons_succ]); (try simp only [List.getElem_cons_zero]); (try simp only [Act.put]); (try simp only [List.setIfInBounds_toArray]); (try simp only [List.set_cons_succ]); (try simp only [List.set_cons_zero])))
      (refine wpAnyH_take (i := 17) (v := ?_) rfl (by kernel_rfl) (by kernel_rfl) (by kernel_rfl) (fun _ _ _ h => h) (Or.inl ⟨by rfl, ?_⟩) (by assumption) ?_; rotate_left; (intro w hSw; (try dsimp only at hSw); go_simp; try with_reducible rfl); ((try simp only [List.getElem_toArray]); (try simp only [List.getElem_cons_succ]); (try simp only [List.getElem_cons_zero]); (try simp only [Act.put]); (try simp only [List.setIfInBounds_toArray]); (try simp only [List.set_cons_succ]); (try simp only [List.set_cons_zero])))
      (refine wpAnyH_take (i := 18) (v := ?_) rfl (by kernel_rfl) (by kernel_rfl) (by kernel_rfl) (fun _ _ _ h => h) (Or.inl ⟨by rfl, ?_⟩) (by assumption) ?_; rotate_left; (intro w hSw; (try dsimp only at hSw); go_simp; try with_reducible rfl); ((try simp only [List.getElem_toArray]); (try simp only [List.getElem_cons_succ]); (try simp only [List.getElem_cons_zero]); (try simp only [Act.put]); (try simp only [List.setIfInBounds_toArray]); (try simp only [List.set_cons_succ]); (try simp only [List.set_cons_zero])))
      (refine wpAnyH_take (i := 19) (v := ?_) rfl (by kernel_rfl) (by kernel_rfl) (by kernel_rfl) (fun _ _ _ h => h) (Or.inl ⟨by rfl, ?_⟩) (by assumption) ?_; rotate_left; (intro w hSw; (try dsimp only at hSw); go_simp; try with_reducible rfl); ((try simp only [List.getElem_toArray]); (try simp only [List.getElem_cons_succ]); (try simp only [List.getElem_cons_zero]); (try simp only [Act.put]); (try simp only [List.setIfInBounds_toArray]); (try simp only [List.set_cons_succ]); (try simp only [List.set_cons_zero])))
      (refine wpAnyH_take (i := 21) (v := ?_) rfl (by kernel_rfl) (by kernel_rfl) (by kernel_rfl) (fun _ _ _ h => h) (Or.inl ⟨by rfl, ?_⟩) (by assumption) ?_; rotate_left; (intro w hSw; (try dsimp only at hSw); go_simp; try with_reducible rfl); ((try simp only [List.getElem_toArray]); (try simp only [List.getElem_cons_succ]); (try simp only [List.getElem_cons_zero]); (try simp only [Act.put]); (try simp only [List.setIfInBounds_toArray]); (try simp only [List.set_cons_succ]); (try simp only [List.set_cons_zero])))
      (refine wpAnyH_take (i := 22) (v := ?_) rfl (by kernel_rfl) (by kernel_rfl) (by kernel_rfl) (fun _ _ _ h => h) (Or.inl ⟨by rfl, ?_⟩) (by assumption) ?_; rotate_left; (intro w hSw; (try dsimp only at hSw); go_simp; try with_reducible rfl); ((try simp only [List.getElem_toArray]); (try simp only [List.getElem_cons_succ]); (try simp only [List.getElem_cons_zero]); (try simp only [Act.put]); (try simp only [List.setIfInBounds_toArray]); (try simp only [List.set_cons_succ]); (try simp only [List.set_cons_zero])))
      (refine wpAnyH_take (i := 23) (v := ?_) rfl (by kernel_rfl) (by kernel_rfl) (by kernel_rfl) (fun _ _ _ h => h) (Or.inl ⟨by rfl, ?_⟩) (by assumption) ?_; rotate_left; (intro w hSw; (try dsimp only at hSw); go_simp; try with_reducible rfl); ((try simp only [List.getElem_toArray]); (try simp only [List.getElem_cons_succ]); (try simp only [List.getElem_cons_zero]); (try simp only [Act.put]); (try simp only [List.setIfInBounds_toArray]); (try simp only [List.set_cons_succ]); (try simp only [List.set_cons_zero])))
      (refine wpAnyH_take (i := 24) (v := ?_) rfl (by kernel_rfl) (by kernel_rfl) (by kernel_rfl) (fun _ _ _ h => h) (Or.inl ⟨by rfl, ?_⟩) (by assumption) ?_; rotate_left; (intro w hSw; (try dsimp only at hSw); go_simp; try with_reducible rfl); ((try simp only [List.getElem_toArray]); (try simp only [List.getElem_cons_succ]); (try simp only [List.getElem_cons_zero]); (try simp only [Act.put]); (try simp only [List.setIfInBounds_toArray]); (try simp only [List.set_cons_succ]); (try simp only [List.set_cons_zero])))
      (refine wpAnyH_take (i := 25) (v := ?_) rfl (by kernel_rfl) (by kernel_rfl) (by kernel_rfl) (fun _ _ _ h => h) (Or.inl ⟨by rfl, ?_⟩) (by assumption) ?_; rotate_left; (intro w hSw; (try dsimp only at hSw); go_simp; try with_reducible rfl); ((try simp only [List.getElem_toArray]); (try simp only [List.getElem_cons_succ]); (try simp only [List.getElem_cons_zero]); (try simp only [Act.put]); (try simp only [List.setIfInBounds_toArray]); (try simp only [List.set_cons_succ]); (try simp only [List.set_cons_zero])))
      refine wpAnyH_ready (rs := [20]) (by kernel_rfl) (by simp) ?_
      refine AllReadyH.cons rfl (fun K2 hK2 => ?_) AllReadyH.nil
      go_simp
      refine (pdrop_any ni w83 HO83.out (by omega) HSO.out).mono ?_
      rintro e w84 ⟨ud, rfl, HD84, hb84⟩
      have HO84 := Lib.hid (HO83.out.below hb84.out)
      have HW84 := Lib.hid (HW83.out.trans (hb84.out.mono HW83.out.size))
      have c84 : (fun X : World => X.cell? ⟨qn, i, none⟩ = some (.string ni)) w84 := HNC.out w84 HW84.out
      go_wp2_with fail
      refine hK2.out _ _ (by (try dsimp only); exact c84) (fun _ => ?_)
      clear hK2 K2
      (try simp only [List.getElem_toArray]); (try simp only [List.getElem_cons_succ]); (try simp only [List.getElem_cons_zero]); (try simp only [Act.put]); (try simp only [List.setIfInBounds_toArray]); (try simp only [List.set_cons_succ]); (try simp only [List.set_cons_zero])
      refine wpAnyH_ready (rs := [26]) (by kernel_rfl) (by simp) ?_
      refine AllReadyH.cons rfl (fun K2 hK2 => ?_) AllReadyH.nil
      go_simp
      refine (rdrop_any ni w84 HO84.out (by omega) HSO.out).mono ?_
      rintro e w85 ⟨ue, rfl, HE85, hb85⟩
      have HO85 := Lib.hid (HO84.out.below hb85.out)
      have HD85 := Lib.hid (HD84.out.below hb85.out)
      have HW85 := Lib.hid (HW84.out.trans (hb85.out.mono HW84.out.size))
      have c85 : (fun X : World => X.cell? ⟨qn, i, none⟩ = some (.string ni)) w85 := HNC.out w85 HW85.out
      go_wp2_with fail
      refine hK2.out _ _ (by (try dsimp only); exact c85) (fun _ => ?_)
      clear hK2 K2
      (try simp only [List.getElem_toArray]); (try simp only [List.getElem_cons_succ]); (try simp only [List.getElem_cons_zero]); (try simp only [Act.put]); (try simp only [List.setIfInBounds_toArray]); (try simp only [List.set_cons_succ]); (try simp only [List.set_cons_zero])
      refine wpAnyH_ready (rs := [27]) (by kernel_rfl) (by simp) ?_
      refine AllReadyH.cons rfl (fun K2 hK2 => ?_) AllReadyH.nil
      go_simp
      refine (HSE.out _ _ _ _ _ HD85.out HE85.out).mono ?_
      rintro e w86 ⟨rfl, hb86⟩
      have HO86 := Lib.hid (HO85.out.below hb86.out)
      have HW86 := Lib.hid (HW85.out.trans (hb86.out.mono HW85.out.size))
      have c86 : (fun X : World => X.cell? ⟨qn, i, none⟩ = some (.string ni)) w86 := HNC.out w86 HW86.out
      go_wp2_with fail
      refine hK2.out _ _ (by (try dsimp only); exact c86) (fun _ => ?_)
      clear hK2 K2
      (try simp only [List.getElem_toArray]); (try simp only [List.getElem_cons_succ]); (try simp only [List.getElem_cons_zero]); (try simp only [Act.put]); (try simp only [List.setIfInBounds_toArray]); (try simp only [List.set_cons_succ]); (try simp only [List.set_cons_zero])
      (refine wpAnyH_take (i := 28) (v := ?_) rfl (by kernel_rfl) (by kernel_rfl) (by kernel_rfl) (fun _ _ _ h => h) (Or.inl ⟨by rfl, ?_⟩) (by assumption) ?_; rotate_left; (intro w hSw; (try dsimp only at hSw); go_simp; try with_reducible rfl); ((try simp only [List.getElem_toArray]); (try simp only [List.getElem_cons_succ]); (try simp only [List.getElem_cons_zero]); (try simp only [Act.put]); (try simp only [List.setIfInBounds_toArray]); (try simp only [List.set_cons_succ]); (try simp only [List.set_cons_zero])))
      (refine wpAnyH_take (i := 29) (v := ?_) rfl (by kernel_rfl) (by kernel_rfl) (by kernel_rfl) (fun _ _ _ h => h) (Or.inl ⟨by rfl, ?_⟩) (by assumption) ?_; rotate_left; (intro w hSw; (try dsimp only at hSw); go_simp; try with_reducible rfl); ((try simp only [List.getElem_toArray]); (try simp only [List.getElem_cons_succ]); (try simp only [List.getElem_cons_zero]); (try simp only [Act.put]); (try simp only [List.setIfInBounds_toArray]); (try simp only [List.set_cons_succ]); (try simp only [List.set_cons_zero])))
      refine wpAnyH_done (by kernel_rfl) ?_ _
      go_wp2_with fail
      obtain ⟨wp, rfl⟩ : ∃ wp : World, wp = w86 := ⟨_, rfl⟩
      go_loopw [19] (fun j wx => ∃ k : Nat, k ≤ 2 ∧ j = .int .i64 k ∧ Hid (Below wp.heap.size wp wx)) (fun j _ => 2 - (intOf j).toNat)
      case atStart => exact ⟨0, by omega, rfl, Below.refl _ _⟩
      case round =>
        obtain ⟨k, hk, rfl, HBX⟩ := hrel
        have HW11 := Lib.hid (HW86.out.trans (HBX.out.mono HW86.out.size))
        have HO11 := Lib.hid (HO86.out.below HBX.out)
        by_cases hk2 : k < 2
        · have hkz : (k : Int) < 2 := by omega
          have HNC2 : Hid (∀ W, Below wr.heap.size wr W → W.cell? ⟨qn, i, none⟩ = some (.string ni) ∧ W.cell? ⟨qk, k, none⟩ = some (.string (kyAt x a k))) := fun W hW => ⟨HNC.out W (HW11.out.trans (hW.mono HW11.out.size)), HKC.out W (HW11.out.trans (hW.mono HW11.out.size)) k hk2⟩
          have hkks := @gkk x a k
          generalize kyAt x a k = kk at *
          have HGM := Lib.hid (go_may (q := ni) (k := kk) (d := dn) HSO.out HMAY.out)
          have hgl := goW_len T ni kk dn
          have HG1 := Lib.hid (fun W (h : OwnW w.heap.size W (.slice A2 n2 z2) T) hW => pgo_any ni kk dn W h (by omega) HSO.out (by omega) hW)
          have HG2 := Lib.hid (fun W (h : OwnW w.heap.size W (.slice A2 n2 z2) T) => rgo_any ni kk dn W h (by omega) HSO.out hkks)
          have HGZ : Hid (∀ x ∈ goW T ni kk dn, x.k.size ≤ 64) := fun x hx => by
            by_cases h : goE T ni kk dn = 0
            · have hp := (go_zero h).1
              rw [goW_zero h, setW_is hp] at hx
              rcases List.mem_append.1 hx with hx | hx
              · rcases List.mem_append.1 hx with hx | hx
                · have := HSZ.out x (List.mem_of_mem_take hx); omega
                · rw [List.mem_singleton.1 hx]
                  cases dn
                  · exact hkks
                  · simp [ByteArray.size]
              · have := HSZ.out x (List.mem_of_mem_drop hx); omega
            · unfold goW at hx
              rw [if_neg h] at hx
              cases hx
          have HSG := Lib.hid (fun (W : World) (B B' : Nat) (v v' : Value) (h : OwnW B W v (goW T ni kk dn)) (h' : OwnW B' W v' (goW T ni kk dn)) => sameW_any W h h' (by omega))
          have HSU := Lib.hid (sameW_self (goW T ni kk dn))
          rw [HSU.out] at HSG
          have HWG := Lib.hid (fun (W : World) (B : Nat) (v : Value) (h : OwnW B W v (goW T ni kk dn)) => rwright_any W h (by omega) HGZ.out)
          rw [HGM.out] at HWG
          generalize goW T ni kk dn = G at *
          generalize goE T ni kk dn = ge at *
          have c11 := HNC2.out wr (Below.refl _ _)
          go_wp2_with fail
          have hS11 : (fun X : World => X.cell? ⟨qn, i, none⟩ = some (.string ni) ∧ X.cell? ⟨qk, k, none⟩ = some (.string kk)) wr.drew := c11
          have HO12 := Lib.hid (HO11.out.below (Below.refl _ wr).drew)
          have HX12 : Hid (Below wr.heap.size wr wr.drew) := (Below.refl _ wr).drew
          refine wp_region_held_drew (S := (fun X : World => X.cell? ⟨qn, i, none⟩ = some (.string ni) ∧ X.cell? ⟨qk, k, none⟩ = some (.string kk))) (by kernel_rfl) hS11 (fun _ => ?_)
          (refine wpAnyH_take (i := 0) (v := ?_) rfl (by kernel_rfl) (by kernel_rfl) (by kernel_rfl) (fun _ _ _ h => h) (Or.inl ⟨by rfl, ?_⟩) (by assumption) ?_; rotate_left; (intro w hSw; (try dsimp only at hSw); go_simp; try with_reducible rfl); ((try simp only [List.getElem_toArray]); (try simp only [List.getElem_cons_succ]); (try simp only [List.getElem_cons_zero]); (try simp only [Act.put]); (try simp only [List.setIfInBounds_toArray]); (try simp only [List.set_cons_succ]); (try simp only [List.set_cons_zero])))
          (refine wpAnyH_take (i := 1) (v := ?_) rfl (by kernel_rfl) (by kernel_rfl) (by kernel_rfl) (fun _ _ _ h => h) (Or.inl ⟨by rfl, ?_⟩) (by assumption) ?_; rotate_left; (intro w hSw; (try dsimp only at hSw); go_simp; try with_reducible rfl); ((try simp only [List.getElem_toArray]); (try simp only [List.getElem_cons_succ]); (try simp only [List.getElem_cons_zero]); (try simp only [Act.put]); (try simp only [List.setIfInBounds_toArray]); (try simp only [List.set_cons_succ]); (try simp only [List.set_cons_zero])))
          (refine wpAnyH_take (i := 2) (v := ?_) rfl (by kernel_rfl) (by kernel_rfl) (by kernel_rfl) (fun _ _ _ h => h) (Or.inl ⟨by rfl, ?_⟩) (by assumption) ?_; rotate_left; (intro w hSw; (try dsimp only at hSw); go_simp; try with_reducible rfl); ((try simp only [List.getElem_toArray]); (try simp only [List.getElem_cons_succ]); (try simp only [List.getElem_cons_zero]); (try simp only [Act.put]); (try simp only [List.setIfInBounds_toArray]); (try simp only [List.set_cons_succ]); (try simp only [List.set_cons_zero])))
          (refine wpAnyH_take (i := 3) (v := ?_) rfl (by kernel_rfl) (by kernel_rfl) (by kernel_rfl) (fun _ _ _ h => h) (Or.inl ⟨by rfl, ?_⟩) (by assumption) ?_; rotate_left; (intro w hSw; (try dsimp only at hSw); go_simp; try with_reducible rfl); ((try simp only [List.getElem_toArray]); (try simp only [List.getElem_cons_succ]); (try simp only [List.getElem_cons_zero]); (try simp only [Act.put]); (try simp only [List.setIfInBounds_toArray]); (try simp only [List.set_cons_succ]); (try simp only [List.set_cons_zero])))
          (refine wpAnyH_take (i := 4) (v := ?_) rfl (by kernel_rfl) (by kernel_rfl) (by kernel_rfl) (fun _ _ _ h => h) (Or.inl ⟨by rfl, ?_⟩) (by assumption) ?_; rotate_left; (intro w hSw; (try dsimp only at hSw); go_simp; try with_reducible rfl); ((try simp only [List.getElem_toArray]); (try simp only [List.getElem_cons_succ]); (try simp only [List.getElem_cons_zero]); (try simp only [Act.put]); (try simp only [List.setIfInBounds_toArray]); (try simp only [List.set_cons_succ]); (try simp only [List.set_cons_zero])))
          (refine wpAnyH_take (i := 5) (v := ?_) rfl (by kernel_rfl) (by kernel_rfl) (by kernel_rfl) (fun _ _ _ h => h) (Or.inl ⟨by rfl, ?_⟩) (by assumption) ?_; rotate_left; (intro w hSw; (try dsimp only at hSw); go_simp; try with_reducible rfl); ((try simp only [List.getElem_toArray]); (try simp only [List.getElem_cons_succ]); (try simp only [List.getElem_cons_zero]); (try simp only [Act.put]); (try simp only [List.setIfInBounds_toArray]); (try simp only [List.set_cons_succ]); (try simp only [List.set_cons_zero])))
          (refine wpAnyH_take (i := 6) (v := ?_) rfl (by kernel_rfl) (by kernel_rfl) (by kernel_rfl) (fun _ _ _ h => h) (Or.inl ⟨by rfl, ?_⟩) (by assumption) ?_; rotate_left; (intro w hSw; (try dsimp only at hSw); go_simp; try with_reducible rfl); ((try simp only [List.getElem_toArray]); (try simp only [List.getElem_cons_succ]); (try simp only [List.getElem_cons_zero]); (try simp only [Act.put]); (try simp only [List.setIfInBounds_toArray]); (try simp only [List.set_cons_succ]); (try simp only [List.set_cons_zero])))
          (refine wpAnyH_take (i := 7) (v := ?_) rfl (by kernel_rfl) (by kernel_rfl) (by kernel_rfl) (fun _ _ _ h => h) (Or.inl ⟨by rfl, ?_⟩) (by assumption) ?_; rotate_left; (intro w hSw; (try dsimp only at hSw); go_simp; try with_reducible rfl); ((try simp only [List.getElem_toArray]); (try simp only [List.getElem_cons_succ]); (try simp only [List.getElem_cons_zero]); (try simp only [Act.put]); (try simp only [List.setIfInBounds_toArray]); (try simp only [List.set_cons_succ]); (try simp only [List.set_cons_zero])))
          (refine wpAnyH_take (i := 8) (v := ?_) rfl (by kernel_rfl) (by kernel_rfl) (by kernel_rfl) (fun _ _ _ h => h) (Or.inl ⟨by rfl, ?_⟩) (by assumption) ?_; rotate_left; (intro w hSw; (try dsimp only at hSw); go_simp; try with_reducible rfl); ((try simp only [List.getElem_toArray]); (try simp only [List.getElem_cons_succ]); (try simp only [List.getElem_cons_zero]); (try simp only [Act.put]); (try simp only [List.setIfInBounds_toArray]); (try simp only [List.set_cons_succ]); (try simp only [List.set_cons_zero])))
          (refine wpAnyH_take (i := 9) (v := ?_) rfl (by kernel_rfl) (by kernel_rfl) (by kernel_rfl) (fun _ _ _ h => h) (Or.inl ⟨by rfl, ?_⟩) (by assumption) ?_; rotate_left; (intro w hSw; (try dsimp only at hSw); go_simp; try with_reducible rfl); ((try simp only [List.getElem_toArray]); (try simp only [List.getElem_cons_succ]); (try simp only [List.getElem_cons_zero]); (try simp only [Act.put]); (try simp only [List.setIfInBounds_toArray]); (try simp only [List.set_cons_succ]); (try simp only [List.set_cons_zero])))
          refine wpAnyH_ready (rs := [10]) (by kernel_rfl) (by simp) ?_
          refine AllReadyH.cons rfl (fun K2 hK2 => ?_) AllReadyH.nil
          go_simp
          refine (HG1.out _ HO12.out (HT.out.below (HB.out.trans ((HW11.out.drew).mono HB.out.size)))).mono ?_
          rintro e w14 ⟨ug, rfl, HG14, hb14⟩
          have HO14 := Lib.hid (HO12.out.below hb14.out)
          have HX14 : Hid (Below wr.heap.size wr w14) := HX12.out.trans (hb14.out.mono HX12.out.size)
          have c14 : (fun X : World => X.cell? ⟨qn, i, none⟩ = some (.string ni) ∧ X.cell? ⟨qk, k, none⟩ = some (.string kk)) w14 := HNC2.out w14 HX14.out
          go_wp2_with fail
          refine hK2.out _ _ (by (try dsimp only); exact c14) (fun _ => ?_)
          clear hK2 K2
          (try simp only [List.getElem_toArray]); (try simp only [List.getElem_cons_succ]); (try simp only [List.getElem_cons_zero]); (try simp only [Act.put]); (try simp only [List.setIfInBounds_toArray]); (try simp only [List.set_cons_succ]); (try simp only [List.set_cons_zero])
          (refine wpAnyH_take (i := 11) (v := ?_) rfl (by kernel_rfl) (by kernel_rfl) (by kernel_rfl) (fun _ _ _ h => h) (Or.inl ⟨by rfl, ?_⟩) (by assumption) ?_; rotate_left; (intro w hSw; (try dsimp only at hSw); go_simp; try with_reducible rfl); ((try simp only [List.getElem_toArray]); (try simp only [List.getElem_cons_succ]); (try simp only [List.getElem_cons_zero]); (try simp only [Act.put]); (try simp only [List.setIfInBounds_toArray]); (try simp only [List.set_cons_succ]); (try simp only [List.set_cons_zero])))
          (refine wpAnyH_take (i := 12) (v := ?_) rfl (by kernel_rfl) (by kernel_rfl) (by kernel_rfl) (fun _ _ _ h => h) (Or.inl ⟨by rfl, ?_⟩) (by assumption) ?_; rotate_left; (intro w hSw; (try dsimp only at hSw); go_simp; try with_reducible rfl); ((try simp only [List.getElem_toArray]); (try simp only [List.getElem_cons_succ]); (try simp only [List.getElem_cons_zero]); (try simp only [Act.put]); (try simp only [List.setIfInBounds_toArray]); (try simp only [List.set_cons_succ]); (try simp only [List.set_cons_zero])))
          (refine wpAnyH_take (i := 13) (v := ?_) rfl (by kernel_rfl) (by kernel_rfl) (by kernel_rfl) (fun _ _ _ h => h) (Or.inl ⟨by rfl, ?_⟩) (by assumption) ?_; rotate_left; (intro w hSw; (try dsimp only at hSw); go_simp; try with_reducible rfl); ((try simp only [List.getElem_toArray]); (try simp only [List.getElem_cons_succ]); (try simp only [List.getElem_cons_zero]); (try simp only [Act.put]); (try simp only [List.setIfInBounds_toArray]); (try simp only [List.set_cons_succ]); (try simp only [List.set_cons_zero])))
          (refine wpAnyH_take (i := 14) (v := ?_) rfl (by kernel_rfl) (by kernel_rfl) (by kernel_rfl) (fun _ _ _ h => h) (Or.inl ⟨by rfl, ?_⟩) (by assumption) ?_; rotate_left; (intro w hSw; (try dsimp only at hSw); go_simp; try with_reducible rfl); ((try simp only [List.getElem_toArray]); (try simp only [List.getElem_cons_succ]); (try simp only [List.getElem_cons_zero]); (try simp only [Act.put]); (try simp only [List.setIfInBounds_toArray]); (try simp only [List.set_cons_succ]); (try simp only [List.set_cons_zero])))
          (refine wpAnyH_take (i := 15) (v := ?_) rfl (by kernel_rfl) (by kernel_rfl) (by kernel_rfl) (fun _ _ _ h => h) (Or.inl ⟨by rfl, ?_⟩) (by assumption) ?_; rotate_left; (intro w hSw; (try dsimp only at hSw); go_simp; try with_reducible rfl); ((try simp only [List.getElem_toArray]); (try simp only [List.getElem_cons_succ]); (try simp only [List.getElem_cons_zero]); (try simp only [Act.put]); (try simp only [List.setIfInBounds_toArray]); (try simp only [List.set_cons_succ]); (try simp only [List.set_cons_zero])))
          refine wpAnyH_done (by kernel_rfl) ?_ _
          go_wp2_with fail
          have hS14 : (fun X : World => X.cell? ⟨qn, i, none⟩ = some (.string ni) ∧ X.cell? ⟨qk, k, none⟩ = some (.string kk)) w14.drew := c14
          have HO14d := Lib.hid (HO14.out.below (Below.refl _ w14).drew)
          have HG14d := Lib.hid (HG14.out.below (Below.refl _ w14).drew)
          have HX14d : Hid (Below wr.heap.size wr w14.drew) := HX14.out.drew
          refine wp_region_held_drew (S := (fun X : World => X.cell? ⟨qn, i, none⟩ = some (.string ni) ∧ X.cell? ⟨qk, k, none⟩ = some (.string kk))) (by kernel_rfl) hS14 (fun _ => ?_)
          (refine wpAnyH_take (i := 0) (v := ?_) rfl (by kernel_rfl) (by kernel_rfl) (by kernel_rfl) (fun _ _ _ h => h) (Or.inl ⟨by rfl, ?_⟩) (by assumption) ?_; rotate_left; (intro w hSw; (try dsimp only at hSw); go_simp; try with_reducible rfl); ((try simp only [List.getElem_toArray]); (try simp only [List.getElem_cons_succ]); (try simp only [List.getElem_cons_zero]); (try simp only [Act.put]); (try simp only [List.setIfInBounds_toArray]); (try simp only [List.set_cons_succ]); (try simp only [List.set_cons_zero])))
          (refine wpAnyH_take (i := 1) (v := ?_) rfl (by kernel_rfl) (by kernel_rfl) (by kernel_rfl) (fun _ _ _ h => h) (Or.inl ⟨by rfl, ?_⟩) (by assumption) ?_; rotate_left; (intro w hSw; (try dsimp only at hSw); go_simp; try with_reducible rfl); ((try simp only [List.getElem_toArray]); (try simp only [List.getElem_cons_succ]); (try simp only [List.getElem_cons_zero]); (try simp only [Act.put]); (try simp only [List.setIfInBounds_toArray]); (try simp only [List.set_cons_succ]); (try simp only [List.set_cons_zero])))
          (refine wpAnyH_take (i := 2) (v := ?_) rfl (by kernel_rfl) (by kernel_rfl) (by kernel_rfl) (fun _ _ _ h => h) (Or.inl ⟨by rfl, ?_⟩) (by assumption) ?_; rotate_left; (intro w hSw; (try dsimp only at hSw); go_simp; try with_reducible rfl); ((try simp only [List.getElem_toArray]); (try simp only [List.getElem_cons_succ]); (try simp only [List.getElem_cons_zero]); (try simp only [Act.put]); (try simp only [List.setIfInBounds_toArray]); (try simp only [List.set_cons_succ]); (try simp only [List.set_cons_zero])))
          (refine wpAnyH_take (i := 3) (v := ?_) rfl (by kernel_rfl) (by kernel_rfl) (by kernel_rfl) (fun _ _ _ h => h) (Or.inl ⟨by rfl, ?_⟩) (by assumption) ?_; rotate_left; (intro w hSw; (try dsimp only at hSw); go_simp; try with_reducible rfl); ((try simp only [List.getElem_toArray]); (try simp only [List.getElem_cons_succ]); (try simp only [List.getElem_cons_zero]); (try simp only [Act.put]); (try simp only [List.setIfInBounds_toArray]); (try simp only [List.set_cons_succ]); (try simp only [List.set_cons_zero])))
          (refine wpAnyH_take (i := 4) (v := ?_) rfl (by kernel_rfl) (by kernel_rfl) (by kernel_rfl) (fun _ _ _ h => h) (Or.inl ⟨by rfl, ?_⟩) (by assumption) ?_; rotate_left; (intro w hSw; (try dsimp only at hSw); go_simp; try with_reducible rfl); ((try simp only [List.getElem_toArray]); (try simp only [List.getElem_cons_succ]); (try simp only [List.getElem_cons_zero]); (try simp only [Act.put]); (try simp only [List.setIfInBounds_toArray]); (try simp only [List.set_cons_succ]); (try simp only [List.set_cons_zero])))
          (refine wpAnyH_take (i := 5) (v := ?_) rfl (by kernel_rfl) (by kernel_rfl) (by kernel_rfl) (fun _ _ _ h => h) (Or.inl ⟨by rfl, ?_⟩) (by assumption) ?_; rotate_left; (intro w hSw; (try dsimp only at hSw); go_simp; try with_reducible rfl); ((try simp only [List.getElem_toArray]); (try simp only [List.getElem_cons_succ]); (try simp only [List.getElem_cons_zero]); (try simp only [Act.put]); (try simp only [List.setIfInBounds_toArray]); (try simp only [List.set_cons_succ]); (try simp only [List.set_cons_zero])))
          (refine wpAnyH_take (i := 6) (v := ?_) rfl (by kernel_rfl) (by kernel_rfl) (by kernel_rfl) (fun _ _ _ h => h) (Or.inl ⟨by rfl, ?_⟩) (by assumption) ?_; rotate_left; (intro w hSw; (try dsimp only at hSw); go_simp; try with_reducible rfl); ((try simp only [List.getElem_toArray]); (try simp only [List.getElem_cons_succ]); (try simp only [List.getElem_cons_zero]); (try simp only [Act.put]); (try simp only [List.setIfInBounds_toArray]); (try simp only [List.set_cons_succ]); (try simp only [List.set_cons_zero])))
          (refine wpAnyH_take (i := 7) (v := ?_) rfl (by kernel_rfl) (by kernel_rfl) (by kernel_rfl) (fun _ _ _ h => h) (Or.inl ⟨by rfl, ?_⟩) (by assumption) ?_; rotate_left; (intro w hSw; (try dsimp only at hSw); go_simp; try with_reducible rfl); ((try simp only [List.getElem_toArray]); (try simp only [List.getElem_cons_succ]); (try simp only [List.getElem_cons_zero]); (try simp only [Act.put]); (try simp only [List.setIfInBounds_toArray]); (try simp only [List.set_cons_succ]); (try simp only [List.set_cons_zero])))
          (refine wpAnyH_take (i := 8) (v := ?_) rfl (by kernel_rfl) (by kernel_rfl) (by kernel_rfl) (fun _ _ _ h => h) (Or.inl ⟨by rfl, ?_⟩) (by assumption) ?_; rotate_left; (intro w hSw; (try dsimp only at hSw); go_simp; try with_reducible rfl); ((try simp only [List.getElem_toArray]); (try simp only [List.getElem_cons_succ]); (try simp only [List.getElem_cons_zero]); (try simp only [Act.put]); (try simp only [List.setIfInBounds_toArray]); (try simp only [List.set_cons_succ]); (try simp only [List.set_cons_zero])))
          (refine wpAnyH_take (i := 9) (v := ?_) rfl (by kernel_rfl) (by kernel_rfl) (by kernel_rfl) (fun _ _ _ h => h) (Or.inl ⟨by rfl, ?_⟩) (by assumption) ?_; rotate_left; (intro w hSw; (try dsimp only at hSw); go_simp; try with_reducible rfl); ((try simp only [List.getElem_toArray]); (try simp only [List.getElem_cons_succ]); (try simp only [List.getElem_cons_zero]); (try simp only [Act.put]); (try simp only [List.setIfInBounds_toArray]); (try simp only [List.set_cons_succ]); (try simp only [List.set_cons_zero])))
          refine wpAnyH_ready (rs := [10]) (by kernel_rfl) (by simp) ?_
          refine AllReadyH.cons rfl (fun K2 hK2 => ?_) AllReadyH.nil
          go_simp
          refine (HG2.out _ HO14d.out).mono ?_
          rintro e w15 ⟨uh, rfl, HH15, hb15⟩
          have HO15 := Lib.hid (HO14d.out.below hb15.out)
          have HG15 := Lib.hid (HG14d.out.below hb15.out)
          have HX15 : Hid (Below wr.heap.size wr w15) := HX14d.out.trans (hb15.out.mono HX14d.out.size)
          have c15 : (fun X : World => X.cell? ⟨qn, i, none⟩ = some (.string ni) ∧ X.cell? ⟨qk, k, none⟩ = some (.string kk)) w15 := HNC2.out w15 HX15.out
          go_wp2_with fail
          refine hK2.out _ _ (by (try dsimp only); exact c15) (fun _ => ?_)
          clear hK2 K2
          (try simp only [List.getElem_toArray]); (try simp only [List.getElem_cons_succ]); (try simp only [List.getElem_cons_zero]); (try simp only [Act.put]); (try simp only [List.setIfInBounds_toArray]); (try simp only [List.set_cons_succ]); (try simp only [List.set_cons_zero])
          (refine wpAnyH_take (i := 11) (v := ?_) rfl (by kernel_rfl) (by kernel_rfl) (by kernel_rfl) (fun _ _ _ h => h) (Or.inl ⟨by rfl, ?_⟩) (by assumption) ?_; rotate_left; (intro w hSw; (try dsimp only at hSw); go_simp; try with_reducible rfl); ((try simp only [List.getElem_toArray]); (try simp only [List.getElem_cons_succ]); (try simp only [List.getElem_cons_zero]); (try simp only [Act.put]); (try simp only [List.setIfInBounds_toArray]); (try simp only [List.set_cons_succ]); (try simp only [List.set_cons_zero])))
          (refine wpAnyH_take (i := 12) (v := ?_) rfl (by kernel_rfl) (by kernel_rfl) (by kernel_rfl) (fun _ _ _ h => h) (Or.inl ⟨by rfl, ?_⟩) (by assumption) ?_; rotate_left; (intro w hSw; (try dsimp only at hSw); go_simp; try with_reducible rfl); ((try simp only [List.getElem_toArray]); (try simp only [List.getElem_cons_succ]); (try simp only [List.getElem_cons_zero]); (try simp only [Act.put]); (try simp only [List.setIfInBounds_toArray]); (try simp only [List.set_cons_succ]); (try simp only [List.set_cons_zero])))
          (refine wpAnyH_take (i := 13) (v := ?_) rfl (by kernel_rfl) (by kernel_rfl) (by kernel_rfl) (fun _ _ _ h => h) (Or.inl ⟨by rfl, ?_⟩) (by assumption) ?_; rotate_left; (intro w hSw; (try dsimp only at hSw); go_simp; try with_reducible rfl); ((try simp only [List.getElem_toArray]); (try simp only [List.getElem_cons_succ]); (try simp only [List.getElem_cons_zero]); (try simp only [Act.put]); (try simp only [List.setIfInBounds_toArray]); (try simp only [List.set_cons_succ]); (try simp only [List.set_cons_zero])))
          (refine wpAnyH_take (i := 14) (v := ?_) rfl (by kernel_rfl) (by kernel_rfl) (by kernel_rfl) (fun _ _ _ h => h) (Or.inl ⟨by rfl, ?_⟩) (by assumption) ?_; rotate_left; (intro w hSw; (try dsimp only at hSw); go_simp; try with_reducible rfl); ((try simp only [List.getElem_toArray]); (try simp only [List.getElem_cons_succ]); (try simp only [List.getElem_cons_zero]); (try simp only [Act.put]); (try simp only [List.setIfInBounds_toArray]); (try simp only [List.set_cons_succ]); (try simp only [List.set_cons_zero])))
          (refine wpAnyH_take (i := 15) (v := ?_) rfl (by kernel_rfl) (by kernel_rfl) (by kernel_rfl) (fun _ _ _ h => h) (Or.inl ⟨by rfl, ?_⟩) (by assumption) ?_; rotate_left; (intro w hSw; (try dsimp only at hSw); go_simp; try with_reducible rfl); ((try simp only [List.getElem_toArray]); (try simp only [List.getElem_cons_succ]); (try simp only [List.getElem_cons_zero]); (try simp only [Act.put]); (try simp only [List.setIfInBounds_toArray]); (try simp only [List.set_cons_succ]); (try simp only [List.set_cons_zero])))
          refine wpAnyH_done (by kernel_rfl) ?_ _
          go_wp2_with fail
          refine (HSG.out _ _ _ _ _ HG15.out HH15.out).mono ?_
          rintro e w16 ⟨rfl, hb16⟩
          have HG16 := Lib.hid (HG15.out.below hb16.out)
          have HX16 : Hid (Below wr.heap.size wr w16) := HX15.out.trans (hb16.out.mono HX15.out.size)
          clear hb16 HH15 HG15
          go_wp2_with fail
          refine (HWG.out _ _ _ HG16.out).mono ?_
          rintro e w17 ⟨rfl, hb17⟩
          have HX17 : Hid (Below wr.heap.size wr w17) := HX16.out.trans (hb17.out.mono HX16.out.size)
          clear hb17
          go_wp2_with fail
          go_roundw
          case rel => exact ⟨k + 1, by omega, by go_num, HBX.out.trans (HX17.out.mono HBX.out.size)⟩
          case measure => simp [intOf]; omega
        · obtain rfl : k = 2 := by omega
          go_wp2_with fail
          go_roundw
          case rel => exact ⟨i + 1, by omega, by go_num, HBW.out.trans (HW11.out.mono HBW.out.size)⟩
          case measure => simp [intOf]; omega
    · obtain rfl : i = 3 := by omega
      go_wp2_with fail
      refine (HFEW2.out _ HB.out).mono ?_
      rintro e w7 ⟨u7, rfl, ho7, hb7⟩
      have HB7 := Lib.hid (HB.out.trans (hb7.out.mono HB.out.size))
      have HO7 := Lib.hid (HO.out.below hb7.out)
      go_wp2_with fail
      refine (rgood11_any _ ho7.out (fewL_short L)).mono ?_
      rintro e w8 ⟨u8, rfl, ho8, hb8⟩
      rw [← HTT.out] at ho8
      have HB8 := Lib.hid (HB7.out.trans (hb8.out.mono HB7.out.size))
      have HO8 := Lib.hid (HO7.out.below hb8.out)
      clear ho7 hb7 hb8
      go_wp2_with fail
      refine (sameW_any _ HO8.out ho8.out (by omega)).mono ?_
      rintro e w9 ⟨rfl, hb9⟩
      rw [sameW_self]
      have HB9 := Lib.hid (HB8.out.trans (hb9.out.mono HB8.out.size))
      clear hb9
      go_wp2_with fail
      refine (lives11_any _ (HT.out.below HB9.out)).mono ?_
      rintro e w10 ⟨rfl, hb10⟩
      have HB10 := Lib.hid (HB9.out.trans (hb10.mono HB9.out.size))
      clear hb10
      go_wp2_with fail
      go_ret
      exact ⟨rfl, HB10.out⟩
end Go.Proofs.YtjmfcbfjeoooeaaDoor.chunkTurns
