/-
  TreeRows, walked.
-/
import Derived.Test.YtoooainecoappaaTrX
import Derived.Test.YtoooainecoappaaCutsW
namespace Go.Proofs.Ytoooainecoappaa.treeRows
open Go.RowKit Go.Maps Dg
open Go.Proofs.Ytoooainecoappaa.treeCuts (str_at Strs.take)
set_option linter.unusedVariables false
theorem just_nil : Just (fun _ => False) [] := ⟨fun x hx => (by cases hx), fun q => ⟨fun ⟨x, hx, _⟩ => (by cases hx), fun h => h.elim⟩⟩
/-- The first k of a row, and the last ones. -/
def First (L : List ByteArray) (k : Nat) (q : ByteArray) : Prop := ∃ j, j < k ∧ ∃ s, L[j]? = some s ∧ q = fewS s
def Last (L : List ByteArray) (k : Nat) (q : ByteArray) : Prop := ∃ j, j < k ∧ ∃ s, L[L.length - 1 - j]? = some s ∧ q = fewS s
theorem Just.imp {P Q : ByteArray → Prop} {C : List (ByteArray × Int)} (h : Just P C) (hpq : ∀ q, P q ↔ Q q) : Just Q C := ⟨h.1, fun q => (h.2 q).trans (hpq q)⟩
theorem first_zero (L : List ByteArray) (q : ByteArray) : False ↔ First L 0 q := ⟨fun h => h.elim, fun ⟨j, hj, _⟩ => by omega⟩
theorem last_zero (L : List ByteArray) (q : ByteArray) : False ↔ Last L 0 q := ⟨fun h => h.elim, fun ⟨j, hj, _⟩ => by omega⟩
theorem first_succ {L : List ByteArray} {k : Nat} {s : ByteArray} (hs : L[k]? = some s) (q : ByteArray) : (q = fewS s ∨ First L k q) ↔ First L (k + 1) q := by
  constructor
  · rintro (e | ⟨j, hj, r⟩)
    · exact ⟨k, by omega, s, hs, e⟩
    · exact ⟨j, by omega, r⟩
  · rintro ⟨j, hj, s2, h2, e⟩
    by_cases hk : j = k
    · subst hk
      rw [hs] at h2
      injection h2 with h2
      exact .inl (by rw [e, h2])
    · exact .inr ⟨j, by omega, s2, h2, e⟩
theorem last_succ {L : List ByteArray} {k : Nat} {s : ByteArray} (hs : L[L.length - 1 - k]? = some s) (q : ByteArray) : (q = fewS s ∨ Last L k q) ↔ Last L (k + 1) q := by
  constructor
  · rintro (e | ⟨j, hj, r⟩)
    · exact ⟨k, by omega, s, hs, e⟩
    · exact ⟨j, by omega, r⟩
  · rintro ⟨j, hj, s2, h2, e⟩
    by_cases hk : j = k
    · subst hk
      rw [hs] at h2
      injection h2 with h2
      exact .inl (by rw [e, h2])
    · exact .inr ⟨j, by omega, s2, h2, e⟩
theorem first_last (L : List ByteArray) (q : ByteArray) : First L L.length q ↔ Last L L.length q := by
  constructor
  · rintro ⟨j, hj, s, hs, e⟩
    exact ⟨L.length - 1 - j, by omega, s, by rw [show L.length - 1 - (L.length - 1 - j) = j by omega]; exact hs, e⟩
  · rintro ⟨j, hj, s, hs, e⟩
    exact ⟨L.length - 1 - j, by omega, s, hs, e⟩
set_option maxHeartbeats 8000000 in
set_option maxRecDepth 100000 in
theorem walk (A : Option Addr) (n c : Nat) (L0 : List ByteArray) (w : World) (hl0 : L0.length = n) (hnc : n ≤ c) (hcm : c ≤ maxLen) (hr0 : Strs w A L0) :
    Calls Try.prog 7 #[.slice A n c] w fun e w' => e = .returned (.bool true) ∧ Below w.heap.size w w' := by
  have hcI : (c : Int) ≤ 9223372036854775807 := by unfold maxLen at hcm; omega
  by_cases hn40 : 40 < n
  · have hl : (L0.take 40).length = 40 := by rw [List.length_take]; omega
    have hr : Strs w A (L0.take 40) := Strs.take hr0 40
    have hnI : (40 : Int) < (n : Int) := by omega
    have hcc : (40 : Int) ≤ (c : Int) := by omega
    generalize L0.take 40 = L at *
    have HL := Lib.hid hl
    have HR := Lib.hid hr
    clear hl hr hl0 hr0
    go_enter Try.func7, Try.ntmps7
    go_wp2_with fail
    refine (tnew_any w).mono ?_
    rintro e w1 ⟨rfl, h1, b1⟩
    have H1 := Lib.hid h1
    have HB1 := Lib.hid b1
    clear h1 b1
    go_wp2_with fail
    refine (tnew_any w1).mono ?_
    rintro e w2 ⟨rfl, h2, b2⟩
    have H2 := Lib.hid h2
    have HA2 := Lib.hid (H1.out.below b2)
    have HB2 := Lib.hid (HB1.out.trans (b2.mono HB1.out.size))
    have hne : w1.heap.size ≠ w.heap.size := by have := H1.out.top.lt; omega
    have hge : w.heap.size ≤ w1.heap.size := HB1.out.size
    obtain ⟨tb, htb⟩ : ∃ tb, tb = w1.heap.size := ⟨_, rfl⟩
    rw [← htb] at H2 hne hge ⊢
    clear h2 b2 H1 HB1 htb
    go_wp2_with fail
    go_loopw [5] (fun u wr => ∃ (i : Nat) (T S : Tr), i ≤ 40 ∧ u = .int .i64 i ∧ Hid (TrAt w.heap.size wr T) ∧ Hid (TrAt tb wr S) ∧ Hid (T.con.length ≤ i) ∧ Hid (S.con.length ≤ i) ∧ Hid (Just (First L i) T.con) ∧ Hid (Just (Last L i) S.con) ∧ Hid (Below w.heap.size w wr)) (fun u _ => 40 - (intOf u).toNat)
    case atStart => exact ⟨0, .nil, .nil, by omega, rfl, HA2, H2, Nat.le_refl 0, Nat.le_refl 0, Just.imp just_nil (first_zero L), Just.imp just_nil (last_zero L), HB2⟩
    case round =>
      obtain ⟨i, T, S, hi, rfl, HT, HS, HLt, HLs, HJ, HK, HI⟩ := hrel
      by_cases hlt : i < 40
      · have hil : i < L.length := by rw [HL.out]; exact hlt
        have hjl : L.length - 1 - i < L.length := by omega
        obtain ⟨b, off, rfl, c0⟩ := str_at HR.out HI.out hil
        obtain ⟨b2, off2, e2, c1⟩ := str_at HR.out HI.out hjl
        cases e2
        have hs : L[i]? = some L[i] := List.getElem?_eq_getElem hil
        have hs2 : L[L.length - 1 - i]? = some L[L.length - 1 - i] := List.getElem?_eq_getElem hjl
        have hiI : (i : Int) < 40 := by omega
        generalize L[i] = s at *
        generalize L[L.length - 1 - i] = s2 at *
        have hll : L.length = 40 := HL.out
        rw [hll] at c1
        obtain ⟨q, HQ⟩ : ∃ q : Nat, Hid (q = 40 - 1 - i) := ⟨_, rfl⟩
        rw [← HQ.out] at c1
        have hqI : (39 : Int) - (i : Int) = (q : Int) := by have := HQ.out; omega
        have hqM : (q : Int) < 40 := by have := HQ.out; omega
        clear hll
        have hsz1 : ((fewS s).size : Int) ≤ 8 := by have := fewS_size s; omega
        go_wp2_with fail
        refine wp_region_held_drew (S := fun X => X.cell? ⟨b, off + i, none⟩ = some (.string s)) (by kernel_rfl) (by exact c0) (fun _ => ?_)
        (refine wpAnyH_take (i := 0) (v := ?_) rfl (by kernel_rfl) (by kernel_rfl) (by kernel_rfl) (fun _ _ _ h => h) (Or.inl ⟨by rfl, ?_⟩) (by assumption) ?_; rotate_left; (intro w hSw; (try dsimp only at hSw); go_simp; try with_reducible rfl); ((try simp only [List.getElem_toArray]); (try simp only [List.getElem_cons_succ]); (try simp only [List.getElem_cons_zero]); (try simp only [Act.put]); (try simp only [List.setIfInBounds_toArray]); (try simp only [List.set_cons_succ]); (try simp only [List.set_cons_zero])))
        (refine wpAnyH_take (i := 1) (v := ?_) rfl (by kernel_rfl) (by kernel_rfl) (by kernel_rfl) (fun _ _ _ h => h) (Or.inl ⟨by rfl, ?_⟩) (by assumption) ?_; rotate_left; (intro w hSw; (try dsimp only at hSw); go_simp; try with_reducible rfl); ((try simp only [List.getElem_toArray]); (try simp only [List.getElem_cons_succ]); (try simp only [List.getElem_cons_zero]); (try simp only [Act.put]); (try simp only [List.setIfInBounds_toArray]); (try simp only [List.set_cons_succ]); (try simp only [List.set_cons_zero])))
        (refine wpAnyH_take (i := 2) (v := ?_) rfl (by kernel_rfl) (by kernel_rfl) (by kernel_rfl) (fun _ _ _ h => h) (Or.inl ⟨by rfl, ?_⟩) (by assumption) ?_; rotate_left; (intro w hSw; (try dsimp only at hSw); go_simp; try with_reducible rfl); ((try simp only [List.getElem_toArray]); (try simp only [List.getElem_cons_succ]); (try simp only [List.getElem_cons_zero]); (try simp only [Act.put]); (try simp only [List.setIfInBounds_toArray]); (try simp only [List.set_cons_succ]); (try simp only [List.set_cons_zero])))
        (refine wpAnyH_take (i := 3) (v := ?_) rfl (by kernel_rfl) (by kernel_rfl) (by kernel_rfl) (fun _ _ _ h => h) (Or.inl ⟨by rfl, ?_⟩) (by assumption) ?_; rotate_left; (intro w hSw; (try dsimp only at hSw); go_simp; try with_reducible rfl); ((try simp only [List.getElem_toArray]); (try simp only [List.getElem_cons_succ]); (try simp only [List.getElem_cons_zero]); (try simp only [Act.put]); (try simp only [List.setIfInBounds_toArray]); (try simp only [List.set_cons_succ]); (try simp only [List.set_cons_zero])))
        (refine wpAnyH_take (i := 4) (v := ?_) rfl (by kernel_rfl) (by kernel_rfl) (by kernel_rfl) (fun _ _ _ h => h) (Or.inl ⟨by rfl, ?_⟩) (by assumption) ?_; rotate_left; (intro w hSw; (try dsimp only at hSw); go_simp; try with_reducible rfl); ((try simp only [List.getElem_toArray]); (try simp only [List.getElem_cons_succ]); (try simp only [List.getElem_cons_zero]); (try simp only [Act.put]); (try simp only [List.setIfInBounds_toArray]); (try simp only [List.set_cons_succ]); (try simp only [List.set_cons_zero])))
        (refine wpAnyH_take (i := 6) (v := ?_) rfl (by kernel_rfl) (by kernel_rfl) (by kernel_rfl) (fun _ _ _ h => h) (Or.inl ⟨by rfl, ?_⟩) (by assumption) ?_; rotate_left; (intro w hSw; (try dsimp only at hSw); go_simp; try with_reducible rfl); ((try simp only [List.getElem_toArray]); (try simp only [List.getElem_cons_succ]); (try simp only [List.getElem_cons_zero]); (try simp only [Act.put]); (try simp only [List.setIfInBounds_toArray]); (try simp only [List.set_cons_succ]); (try simp only [List.set_cons_zero])))
        (refine wpAnyH_take (i := 7) (v := ?_) rfl (by kernel_rfl) (by kernel_rfl) (by kernel_rfl) (fun _ _ _ h => h) (Or.inl ⟨by rfl, ?_⟩) (by assumption) ?_; rotate_left; (intro w hSw; (try dsimp only at hSw); go_simp; try with_reducible rfl); ((try simp only [List.getElem_toArray]); (try simp only [List.getElem_cons_succ]); (try simp only [List.getElem_cons_zero]); (try simp only [Act.put]); (try simp only [List.setIfInBounds_toArray]); (try simp only [List.set_cons_succ]); (try simp only [List.set_cons_zero])))
        (refine wpAnyH_take (i := 8) (v := ?_) rfl (by kernel_rfl) (by kernel_rfl) (by kernel_rfl) (fun _ _ _ h => h) (Or.inl ⟨by rfl, ?_⟩) (by assumption) ?_; rotate_left; (intro w hSw; (try dsimp only at hSw); go_simp; try with_reducible rfl); ((try simp only [List.getElem_toArray]); (try simp only [List.getElem_cons_succ]); (try simp only [List.getElem_cons_zero]); (try simp only [Act.put]); (try simp only [List.setIfInBounds_toArray]); (try simp only [List.set_cons_succ]); (try simp only [List.set_cons_zero])))
        (refine wpAnyH_take (i := 9) (v := ?_) rfl (by kernel_rfl) (by kernel_rfl) (by kernel_rfl) (fun _ _ _ h => h) (Or.inl ⟨by rfl, ?_⟩) (by assumption) ?_; rotate_left; (intro w hSw; (try dsimp only at hSw); go_simp; try with_reducible rfl); ((try simp only [List.getElem_toArray]); (try simp only [List.getElem_cons_succ]); (try simp only [List.getElem_cons_zero]); (try simp only [Act.put]); (try simp only [List.setIfInBounds_toArray]); (try simp only [List.set_cons_succ]); (try simp only [List.set_cons_zero])))
        refine wpAnyH_ready (rs := [5]) (by kernel_rfl) (by simp) ?_
        refine AllReadyH.cons rfl (fun K2 hK2 => ?_) AllReadyH.nil
        go_simp
        refine (few_any _ s).mono ?_
        rintro e w3 ⟨rfl, rfl⟩
        go_wp2_with fail
        refine hK2.out _ _ (by exact c0) (fun hq => ?_)
        clear hK2 K2
        ((try simp only [List.getElem_toArray]); (try simp only [List.getElem_cons_succ]); (try simp only [List.getElem_cons_zero]); (try simp only [Act.put]); (try simp only [List.setIfInBounds_toArray]); (try simp only [List.set_cons_succ]); (try simp only [List.set_cons_zero]))
        refine wpAnyH_ready (rs := [10]) (by kernel_rfl) (by simp) ?_
        refine AllReadyH.cons rfl (fun K2 hK2 => ?_) AllReadyH.nil
        go_simp
        refine (few_any _ s).mono ?_
        rintro e w3 ⟨rfl, rfl⟩
        go_wp2_with fail
        refine hK2.out _ _ (by exact c0) (fun hq => ?_)
        clear hK2 K2
        ((try simp only [List.getElem_toArray]); (try simp only [List.getElem_cons_succ]); (try simp only [List.getElem_cons_zero]); (try simp only [Act.put]); (try simp only [List.setIfInBounds_toArray]); (try simp only [List.set_cons_succ]); (try simp only [List.set_cons_zero]))
        (refine wpAnyH_take (i := 11) (v := ?_) rfl (by kernel_rfl) (by kernel_rfl) (by kernel_rfl) (fun _ _ _ h => h) (Or.inl ⟨by rfl, ?_⟩) (by assumption) ?_; rotate_left; (intro w hSw; (try dsimp only at hSw); go_simp; try with_reducible rfl); ((try simp only [List.getElem_toArray]); (try simp only [List.getElem_cons_succ]); (try simp only [List.getElem_cons_zero]); (try simp only [Act.put]); (try simp only [List.setIfInBounds_toArray]); (try simp only [List.set_cons_succ]); (try simp only [List.set_cons_zero])))
        refine wpAnyH_ready (rs := [12]) (by kernel_rfl) (by simp) ?_
        refine AllReadyH.cons rfl (fun K2 hK2 => ?_) AllReadyH.nil
        go_simp
        refine (tput_any (tb := w.heap.size) (w := wr.drew) (T := T) (HT.out.below (Below.refl _ wr).drew) (by have := HLt.out; omega) (fewS s) (by have := fewS_size s; omega) ((fewS s).size : Int)).mono ?_
        rintro e w4 ⟨rfl, T', h4, c4, t4⟩
        have H4 := Lib.hid h4
        have HS4 := Lib.hid ((HS.out.below (Below.refl _ wr).drew).tur (HT.out.below (Below.refl _ wr).drew) t4 hne)
        have HB4 := Lib.hid (HI.out.drew.trans (t4.below (by simp) HI.out.size))
        have HLt4 : Hid (T'.con.length ≤ i + 1) := by
          show T'.con.length ≤ i + 1
          rw [c4]
          have := putL_len (k := fewS s) (v := ((fewS s).size : Int)) T.con
          have := HLt.out
          omega
        have HJ4 : Hid (Just (First L (i + 1)) T'.con) := by
          show Just (First L (i + 1)) T'.con
          rw [c4]
          exact Just.imp (HJ.out.put (fewS s)) (first_succ hs)
        have c5 : w4.cell? ⟨b, off + q, none⟩ = some (.string s2) := by
          have hx := str_at HR.out HB4.out hjl
          obtain ⟨b', off', e', c5⟩ := hx
          cases e'
          have hh : L[L.length - 1 - i]? = some L[L.length - 1 - i] := List.getElem?_eq_getElem hjl
          rw [hs2] at hh
          injection hh with hh
          rw [hh, HQ.out]
          have hll : L.length = 40 := HL.out
          rw [← hll]
          exact c5
        have c6 : w4.cell? ⟨b, off + i, none⟩ = some (.string s) := by
          obtain ⟨b', off', e', c6⟩ := str_at HR.out HB4.out hil
          cases e'
          have hh : L[i]? = some L[i] := List.getElem?_eq_getElem hil
          rw [hs] at hh
          injection hh with hh
          rw [hh]
          exact c6
        clear h4 t4 c4 HT HS HLt HJ HI c0 c1
        go_wp2_with fail
        refine hK2.out _ _ (by exact c6) (fun hq => ?_)
        clear hK2 K2
        ((try simp only [List.getElem_toArray]); (try simp only [List.getElem_cons_succ]); (try simp only [List.getElem_cons_zero]); (try simp only [Act.put]); (try simp only [List.setIfInBounds_toArray]); (try simp only [List.set_cons_succ]); (try simp only [List.set_cons_zero]))
        refine wpAnyH_done (by kernel_rfl) ?_ _
        go_wp2_with fail
        refine (few_any _ s2).mono ?_
        rintro e w5 ⟨rfl, rfl⟩
        have hsz2 : ((fewS s2).size : Int) ≤ 8 := by have := fewS_size s2; omega
        go_wp2_with fail
        refine (tput_any HS4.out (by have := HLs.out; omega) (fewS s2) (by have := fewS_size s2; omega) ((fewS s2).size : Int)).mono ?_
        rintro e w6 ⟨rfl, S', h6, c6, t6⟩
        have H6 := Lib.hid h6
        have HT6 := Lib.hid (H4.out.tur HS4.out t6 (Ne.symm hne))
        have HB6 := Lib.hid (HB4.out.trans (t6.below (by simpa using hge) HB4.out.size))
        have HLs6 : Hid (S'.con.length ≤ i + 1) := by
          show S'.con.length ≤ i + 1
          rw [c6]
          have := putL_len (k := fewS s2) (v := ((fewS s2).size : Int)) S.con
          have := HLs.out
          omega
        have HK6 : Hid (Just (Last L (i + 1)) S'.con) := by
          show Just (Last L (i + 1)) S'.con
          rw [c6]
          exact Just.imp (HK.out.put (fewS s2)) (last_succ hs2)
        clear h6 t6 c6 H4 HS4 HB4 HLs HK c5
        go_wp2_with fail
        go_roundw
        case rel => exact ⟨i + 1, T', S', by omega, by go_num, HT6, H6, HLt4, HLs6, HJ4, HK6, HB6⟩
        case measure => simp [intOf]; omega
      · have hm40 : 40 ≤ 40 := by omega
        have hltI : ¬ (i : Int) < 40 := by omega
        have him : i = L.length := by rw [HL.out]; omega
        have hcon : S.con = T.con := by
          have hj := HJ.out
          have hk := HK.out
          rw [him] at hj hk
          exact (Just.same HT.out.ris HS.out.ris hj hk (first_last L)).symm
        have HC := Lib.hid hcon
        have hlen : T.con.length ≤ 40 := by have := HLt.out; omega
        have HKY := Lib.hid (keys_any wr w.heap.size T HT.out.tr HT.out.top (by rw [← con_len]; omega) ⟨#[]⟩ 50)
        rw [keysF_con HT.out.ris, keysL_all (by decide) (by omega)] at HKY
        clear him hcon HJ HK HLt HLs
        go_wp2_with fail
        refine HKY.out.mono ?_
        rintro e w3 ⟨v, rfl, ho, b3⟩
        obtain ⟨A3, n3, c3, rfl, hn3, hnc3, hcm3, hcs, -⟩ := ownS_row ho
        rw [List.length_map] at hn3
        have HN3 := Lib.hid hn3
        have HCS : Hid (∀ j (hj : j < T.con.length), ∃ b off, A3 = some ⟨b, off, none⟩ ∧ w3.cell? ⟨b, off + j, none⟩ = some (.string T.con[j].1)) := fun j hj => by
          obtain ⟨b, off, e, h⟩ := hcs j (by rw [List.length_map]; exact hj)
          rw [List.getElem_map] at h
          exact ⟨b, off, e, h⟩
        have HRS : Hid (RdS w3 A3 (T.con.map (fun x : ByteArray × Int => x.1))) := hcs
        have HT3 := Lib.hid (HT.out.below b3)
        have HS3 := Lib.hid (HS.out.below b3)
        have HI3 := Lib.hid (HI.out.trans (b3.mono HI.out.size))
        have hn3b : n3 ≤ 40 := by omega
        clear ho hcs b3 HKY HT HS HI hn3
        go_wp2_with fail
        go_loopw [8] (fun u wr => ∃ (i j : Nat), i ≤ n3 ∧ u = .int .i64 i ∧ wr = w3.drewN j) (fun u _ => n3 - (intOf u).toNat)
        case atStart => exact ⟨0, 0, by omega, rfl, rfl⟩
        case round =>
          obtain ⟨i, j, hi3, rfl, rfl⟩ := hrel
          have HTj : Hid (TrAt w.heap.size (w3.drewN j) T) := HT3.out.below (Below.drewN (Below.refl _ w3) j)
          have HSj : Hid (TrAt tb (w3.drewN j) S) := HS3.out.below (Below.drewN (Below.refl _ w3) j)
          by_cases hlt3 : i < n3
          · have hil : i < T.con.length := by rw [HN3.out]; exact hlt3
            have hi3I : (i : Int) < (n3 : Int) := by omega
            have HG1 := Lib.hid (get_any HTj.out (T.con[i].1))
            have HG2 := Lib.hid (get_any HSj.out (T.con[i].1))
            rw [HC.out] at HG2
            rw [getL_at HT3.out.ris (List.getElem_mem hil)] at HG1 HG2
            obtain ⟨b, off, rfl, c0⟩ := HCS.out i hil
            have c0' : (w3.drewN j).cell? ⟨b, off + i, none⟩ = some (.string T.con[i].1) := c0
            rcases i with _ | k
            · generalize T.con[0] = x at *
              have c0'' : (w3.drewN j).cell? ⟨b, off, none⟩ = some (.string x.1) := c0'
              go_wp2_with fail
              refine HG1.out.mono ?_
              rintro e w4 ⟨rfl, rfl⟩
              go_wp2_with fail
              refine HG2.out.mono ?_
              rintro e w4 ⟨rfl, rfl⟩
              go_wp2_with fail
              refine wp_region_held_drew (S := fun X => True) (by kernel_rfl) trivial (fun _ => ?_)
              (refine wpAnyH_take (i := 0) (v := ?_) rfl (by kernel_rfl) (by kernel_rfl) (by kernel_rfl) (fun _ _ _ h => h) (Or.inl ⟨by rfl, ?_⟩) (by assumption) ?_; rotate_left; (intro w hSw; (try dsimp only at hSw); go_simp; try with_reducible rfl); ((try simp only [List.getElem_toArray]); (try simp only [List.getElem_cons_succ]); (try simp only [List.getElem_cons_zero]); (try simp only [Act.put]); (try simp only [List.setIfInBounds_toArray]); (try simp only [List.set_cons_succ]); (try simp only [List.set_cons_zero])))
              (refine wpAnyH_take (i := 1) (v := ?_) rfl (by kernel_rfl) (by kernel_rfl) (by kernel_rfl) (fun _ _ _ h => h) (Or.inl ⟨by rfl, ?_⟩) (by assumption) ?_; rotate_left; (intro w hSw; (try dsimp only at hSw); go_simp; try with_reducible rfl); ((try simp only [List.getElem_toArray]); (try simp only [List.getElem_cons_succ]); (try simp only [List.getElem_cons_zero]); (try simp only [Act.put]); (try simp only [List.setIfInBounds_toArray]); (try simp only [List.set_cons_succ]); (try simp only [List.set_cons_zero])))
              (refine wpAnyH_take (i := 2) (v := ?_) rfl (by kernel_rfl) (by kernel_rfl) (by kernel_rfl) (fun _ _ _ h => h) (Or.inl ⟨by rfl, ?_⟩) (by assumption) ?_; rotate_left; (intro w hSw; (try dsimp only at hSw); go_simp; try with_reducible rfl); ((try simp only [List.getElem_toArray]); (try simp only [List.getElem_cons_succ]); (try simp only [List.getElem_cons_zero]); (try simp only [Act.put]); (try simp only [List.setIfInBounds_toArray]); (try simp only [List.set_cons_succ]); (try simp only [List.set_cons_zero])))
              (refine wpAnyH_take (i := 3) (v := ?_) rfl (by kernel_rfl) (by kernel_rfl) (by kernel_rfl) (fun _ _ _ h => h) (Or.inl ⟨by rfl, ?_⟩) (by assumption) ?_; rotate_left; (intro w hSw; (try dsimp only at hSw); go_simp; try with_reducible rfl); ((try simp only [List.getElem_toArray]); (try simp only [List.getElem_cons_succ]); (try simp only [List.getElem_cons_zero]); (try simp only [Act.put]); (try simp only [List.setIfInBounds_toArray]); (try simp only [List.set_cons_succ]); (try simp only [List.set_cons_zero])))
              (refine wpAnyH_take (i := 4) (v := ?_) rfl (by kernel_rfl) (by kernel_rfl) (by kernel_rfl) (fun _ _ _ h => h) (Or.inl ⟨by rfl, ?_⟩) (by assumption) ?_; rotate_left; (intro w hSw; (try dsimp only at hSw); go_simp; try with_reducible rfl); ((try simp only [List.getElem_toArray]); (try simp only [List.getElem_cons_succ]); (try simp only [List.getElem_cons_zero]); (try simp only [Act.put]); (try simp only [List.setIfInBounds_toArray]); (try simp only [List.set_cons_succ]); (try simp only [List.set_cons_zero])))
              (refine wpAnyH_take (i := 5) (v := ?_) rfl (by kernel_rfl) (by kernel_rfl) (by kernel_rfl) (fun _ _ _ h => h) (Or.inl ⟨by rfl, ?_⟩) (by assumption) ?_; rotate_left; (intro w hSw; (try dsimp only at hSw); go_simp; try with_reducible rfl); ((try simp only [List.getElem_toArray]); (try simp only [List.getElem_cons_succ]); (try simp only [List.getElem_cons_zero]); (try simp only [Act.put]); (try simp only [List.setIfInBounds_toArray]); (try simp only [List.set_cons_succ]); (try simp only [List.set_cons_zero])))
              (refine wpAnyH_take (i := 6) (v := ?_) rfl (by kernel_rfl) (by kernel_rfl) (by kernel_rfl) (fun _ _ _ h => h) (Or.inl ⟨by rfl, ?_⟩) (by assumption) ?_; rotate_left; (intro w hSw; (try dsimp only at hSw); go_simp; try with_reducible rfl); ((try simp only [List.getElem_toArray]); (try simp only [List.getElem_cons_succ]); (try simp only [List.getElem_cons_zero]); (try simp only [Act.put]); (try simp only [List.setIfInBounds_toArray]); (try simp only [List.set_cons_succ]); (try simp only [List.set_cons_zero])))
              (refine wpAnyH_take (i := 7) (v := ?_) rfl (by kernel_rfl) (by kernel_rfl) (by kernel_rfl) (fun _ _ _ h => h) (Or.inl ⟨by rfl, ?_⟩) (by assumption) ?_; rotate_left; (intro w hSw; (try dsimp only at hSw); go_simp; try with_reducible rfl); ((try simp only [List.getElem_toArray]); (try simp only [List.getElem_cons_succ]); (try simp only [List.getElem_cons_zero]); (try simp only [Act.put]); (try simp only [List.setIfInBounds_toArray]); (try simp only [List.set_cons_succ]); (try simp only [List.set_cons_zero])))
              (refine wpAnyH_take (i := 8) (v := ?_) rfl (by kernel_rfl) (by kernel_rfl) (by kernel_rfl) (fun _ _ _ h => h) (Or.inl ⟨by rfl, ?_⟩) (by assumption) ?_; rotate_left; (intro w hSw; (try dsimp only at hSw); go_simp; try with_reducible rfl); ((try simp only [List.getElem_toArray]); (try simp only [List.getElem_cons_succ]); (try simp only [List.getElem_cons_zero]); (try simp only [Act.put]); (try simp only [List.setIfInBounds_toArray]); (try simp only [List.set_cons_succ]); (try simp only [List.set_cons_zero])))
              (refine wpAnyH_take (i := 9) (v := ?_) rfl (by kernel_rfl) (by kernel_rfl) (by kernel_rfl) (fun _ _ _ h => h) (Or.inl ⟨by rfl, ?_⟩) (by assumption) ?_; rotate_left; (intro w hSw; (try dsimp only at hSw); go_simp; try with_reducible rfl); ((try simp only [List.getElem_toArray]); (try simp only [List.getElem_cons_succ]); (try simp only [List.getElem_cons_zero]); (try simp only [Act.put]); (try simp only [List.setIfInBounds_toArray]); (try simp only [List.set_cons_succ]); (try simp only [List.set_cons_zero])))
              (refine wpAnyH_take (i := 10) (v := ?_) rfl (by kernel_rfl) (by kernel_rfl) (by kernel_rfl) (fun _ _ _ h => h) (Or.inl ⟨by rfl, ?_⟩) (by assumption) ?_; rotate_left; (intro w hSw; (try dsimp only at hSw); go_simp; try with_reducible rfl); ((try simp only [List.getElem_toArray]); (try simp only [List.getElem_cons_succ]); (try simp only [List.getElem_cons_zero]); (try simp only [Act.put]); (try simp only [List.setIfInBounds_toArray]); (try simp only [List.set_cons_succ]); (try simp only [List.set_cons_zero])))
              (refine wpAnyH_take (i := 11) (v := ?_) rfl (by kernel_rfl) (by kernel_rfl) (by kernel_rfl) (fun _ _ _ h => h) (Or.inl ⟨by rfl, ?_⟩) (by assumption) ?_; rotate_left; (intro w hSw; (try dsimp only at hSw); go_simp; try with_reducible rfl); ((try simp only [List.getElem_toArray]); (try simp only [List.getElem_cons_succ]); (try simp only [List.getElem_cons_zero]); (try simp only [Act.put]); (try simp only [List.setIfInBounds_toArray]); (try simp only [List.set_cons_succ]); (try simp only [List.set_cons_zero])))
              (refine wpAnyH_take (i := 12) (v := ?_) rfl (by kernel_rfl) (by kernel_rfl) (by kernel_rfl) (fun _ _ _ h => h) (Or.inl ⟨by rfl, ?_⟩) (by assumption) ?_; rotate_left; (intro w hSw; (try dsimp only at hSw); go_simp; try with_reducible rfl); ((try simp only [List.getElem_toArray]); (try simp only [List.getElem_cons_succ]); (try simp only [List.getElem_cons_zero]); (try simp only [Act.put]); (try simp only [List.setIfInBounds_toArray]); (try simp only [List.set_cons_succ]); (try simp only [List.set_cons_zero])))
              (refine wpAnyH_take (i := 13) (v := ?_) rfl (by kernel_rfl) (by kernel_rfl) (by kernel_rfl) (fun _ _ _ h => h) (Or.inl ⟨by rfl, ?_⟩) (by assumption) ?_; rotate_left; (intro w hSw; (try dsimp only at hSw); go_simp; try with_reducible rfl); ((try simp only [List.getElem_toArray]); (try simp only [List.getElem_cons_succ]); (try simp only [List.getElem_cons_zero]); (try simp only [Act.put]); (try simp only [List.setIfInBounds_toArray]); (try simp only [List.set_cons_succ]); (try simp only [List.set_cons_zero])))
              (refine wpAnyH_take (i := 14) (v := ?_) rfl (by kernel_rfl) (by kernel_rfl) (by kernel_rfl) (fun _ _ _ h => h) (Or.inl ⟨by rfl, ?_⟩) (by assumption) ?_; rotate_left; (intro w hSw; (try dsimp only at hSw); go_simp; try with_reducible rfl); ((try simp only [List.getElem_toArray]); (try simp only [List.getElem_cons_succ]); (try simp only [List.getElem_cons_zero]); (try simp only [Act.put]); (try simp only [List.setIfInBounds_toArray]); (try simp only [List.set_cons_succ]); (try simp only [List.set_cons_zero])))
              (refine wpAnyH_take (i := 15) (v := undef) rfl (by kernel_rfl) (by kernel_rfl) (by kernel_rfl) (fun _ _ _ h => h) (Or.inr ⟨by rfl, rfl⟩) (by assumption) ?_; ((try simp only [List.getElem_toArray]); (try simp only [List.getElem_cons_succ]); (try simp only [List.getElem_cons_zero]); (try simp only [Act.put]); (try simp only [List.setIfInBounds_toArray]); (try simp only [List.set_cons_succ]); (try simp only [List.set_cons_zero])))
              (refine wpAnyH_take (i := 16) (v := undef) rfl (by kernel_rfl) (by kernel_rfl) (by kernel_rfl) (fun _ _ _ h => h) (Or.inr ⟨by rfl, rfl⟩) (by assumption) ?_; ((try simp only [List.getElem_toArray]); (try simp only [List.getElem_cons_succ]); (try simp only [List.getElem_cons_zero]); (try simp only [Act.put]); (try simp only [List.setIfInBounds_toArray]); (try simp only [List.set_cons_succ]); (try simp only [List.set_cons_zero])))
              (refine wpAnyH_take (i := 17) (v := undef) rfl (by kernel_rfl) (by kernel_rfl) (by kernel_rfl) (fun _ _ _ h => h) (Or.inr ⟨by rfl, rfl⟩) (by assumption) ?_; ((try simp only [List.getElem_toArray]); (try simp only [List.getElem_cons_succ]); (try simp only [List.getElem_cons_zero]); (try simp only [Act.put]); (try simp only [List.setIfInBounds_toArray]); (try simp only [List.set_cons_succ]); (try simp only [List.set_cons_zero])))
              (refine wpAnyH_take (i := 18) (v := undef) rfl (by kernel_rfl) (by kernel_rfl) (by kernel_rfl) (fun _ _ _ h => h) (Or.inr ⟨by rfl, rfl⟩) (by assumption) ?_; ((try simp only [List.getElem_toArray]); (try simp only [List.getElem_cons_succ]); (try simp only [List.getElem_cons_zero]); (try simp only [Act.put]); (try simp only [List.setIfInBounds_toArray]); (try simp only [List.set_cons_succ]); (try simp only [List.set_cons_zero])))
              (refine wpAnyH_take (i := 19) (v := undef) rfl (by kernel_rfl) (by kernel_rfl) (by kernel_rfl) (fun _ _ _ h => h) (Or.inr ⟨by rfl, rfl⟩) (by assumption) ?_; ((try simp only [List.getElem_toArray]); (try simp only [List.getElem_cons_succ]); (try simp only [List.getElem_cons_zero]); (try simp only [Act.put]); (try simp only [List.setIfInBounds_toArray]); (try simp only [List.set_cons_succ]); (try simp only [List.set_cons_zero])))
              (refine wpAnyH_take (i := 20) (v := undef) rfl (by kernel_rfl) (by kernel_rfl) (by kernel_rfl) (fun _ _ _ h => h) (Or.inr ⟨by rfl, rfl⟩) (by assumption) ?_; ((try simp only [List.getElem_toArray]); (try simp only [List.getElem_cons_succ]); (try simp only [List.getElem_cons_zero]); (try simp only [Act.put]); (try simp only [List.setIfInBounds_toArray]); (try simp only [List.set_cons_succ]); (try simp only [List.set_cons_zero])))
              (refine wpAnyH_take (i := 21) (v := undef) rfl (by kernel_rfl) (by kernel_rfl) (by kernel_rfl) (fun _ _ _ h => h) (Or.inr ⟨by rfl, rfl⟩) (by assumption) ?_; ((try simp only [List.getElem_toArray]); (try simp only [List.getElem_cons_succ]); (try simp only [List.getElem_cons_zero]); (try simp only [Act.put]); (try simp only [List.setIfInBounds_toArray]); (try simp only [List.set_cons_succ]); (try simp only [List.set_cons_zero])))
              (refine wpAnyH_take (i := 22) (v := undef) rfl (by kernel_rfl) (by kernel_rfl) (by kernel_rfl) (fun _ _ _ h => h) (Or.inr ⟨by rfl, rfl⟩) (by assumption) ?_; ((try simp only [List.getElem_toArray]); (try simp only [List.getElem_cons_succ]); (try simp only [List.getElem_cons_zero]); (try simp only [Act.put]); (try simp only [List.setIfInBounds_toArray]); (try simp only [List.set_cons_succ]); (try simp only [List.set_cons_zero])))
              (refine wpAnyH_take (i := 23) (v := undef) rfl (by kernel_rfl) (by kernel_rfl) (by kernel_rfl) (fun _ _ _ h => h) (Or.inr ⟨by rfl, rfl⟩) (by assumption) ?_; ((try simp only [List.getElem_toArray]); (try simp only [List.getElem_cons_succ]); (try simp only [List.getElem_cons_zero]); (try simp only [Act.put]); (try simp only [List.setIfInBounds_toArray]); (try simp only [List.set_cons_succ]); (try simp only [List.set_cons_zero])))
              (refine wpAnyH_take (i := 24) (v := undef) rfl (by kernel_rfl) (by kernel_rfl) (by kernel_rfl) (fun _ _ _ h => h) (Or.inr ⟨by rfl, rfl⟩) (by assumption) ?_; ((try simp only [List.getElem_toArray]); (try simp only [List.getElem_cons_succ]); (try simp only [List.getElem_cons_zero]); (try simp only [Act.put]); (try simp only [List.setIfInBounds_toArray]); (try simp only [List.set_cons_succ]); (try simp only [List.set_cons_zero])))
              (refine wpAnyH_take (i := 25) (v := ?_) rfl (by kernel_rfl) (by kernel_rfl) (by kernel_rfl) (fun _ _ _ h => h) (Or.inl ⟨by rfl, ?_⟩) (by assumption) ?_; rotate_left; (intro w hSw; (try dsimp only at hSw); go_simp; try with_reducible rfl); ((try simp only [List.getElem_toArray]); (try simp only [List.getElem_cons_succ]); (try simp only [List.getElem_cons_zero]); (try simp only [Act.put]); (try simp only [List.setIfInBounds_toArray]); (try simp only [List.set_cons_succ]); (try simp only [List.set_cons_zero])))
              (refine wpAnyH_take (i := 26) (v := ?_) rfl (by kernel_rfl) (by kernel_rfl) (by kernel_rfl) (fun _ _ _ h => h) (Or.inl ⟨by rfl, ?_⟩) (by assumption) ?_; rotate_left; (intro w hSw; (try dsimp only at hSw); go_simp; try with_reducible rfl); ((try simp only [List.getElem_toArray]); (try simp only [List.getElem_cons_succ]); (try simp only [List.getElem_cons_zero]); (try simp only [Act.put]); (try simp only [List.setIfInBounds_toArray]); (try simp only [List.set_cons_succ]); (try simp only [List.set_cons_zero])))
              refine wpAnyH_done (by kernel_rfl) ?_ _
              go_wp2_with fail
              go_roundw
              case rel => exact ⟨1, j + 1, by omega, by go_num, rfl⟩
              case measure => simp [intOf] <;> omega
            · have hkl : k < T.con.length := by omega
              have hkI : ((k + 1 : Nat) : Int) - 1 = (k : Int) := by omega
              have hkn : (k : Int) < (n3 : Int) := by omega
              have hpos : (0 : Int) < ((k + 1 : Nat) : Int) := by omega
              obtain ⟨b', off', e', c1⟩ := HCS.out k hkl
              cases e'
              have c1' : (w3.drewN j).cell? ⟨b, off + k, none⟩ = some (.string T.con[k].1) := c1
              have hri : Op.bytesLess T.con[k].1.toList T.con[k + 1].1.toList = true := rises_at HT3.out.ris k hil
              generalize T.con[k + 1] = x at *
              generalize T.con[k] = y at *
              go_wp2_with fail
              refine HG1.out.mono ?_
              rintro e w4 ⟨rfl, rfl⟩
              go_wp2_with fail
              refine HG2.out.mono ?_
              rintro e w4 ⟨rfl, rfl⟩
              go_wp2_with fail
              have hkb : (k : Int) ≤ 40 := by omega
              have hp0 : (0 : Int) < (k : Int) + 1 := by omega
              have hd0 : decide ((0 : Int) < (k : Int) + 1) = true := decide_eq_true hp0
              have hwk : IntKind.i64.wrap (k : Int) = (k : Int) := by rw [IntKind.wrap_i64]; omega
              have hk00 : (0 : Int) ≤ (k : Int) := by omega
              have hk01 : (0 : Int) ≤ (k : Int) + 1 := by omega
              have hk1n : (k : Int) + 1 < (n3 : Int) := by omega
              have hk1t : ((k : Int) + 1).toNat = k + 1 := by omega
              have hd1 : decide ((0 : Int) < ((k + 1 : Nat) : Int)) = true := decide_eq_true hpos
              refine wp_region_held_drew (S := fun X => X.cell? ⟨b, off + k, none⟩ = some (.string y.1) ∧ X.cell? ⟨b, off + (k + 1), none⟩ = some (.string x.1)) (by kernel_rfl) (by exact ⟨c1', c0'⟩) (fun _ => ?_)
              (refine wpAnyH_take (i := 0) (v := ?_) rfl (by kernel_rfl) (by kernel_rfl) (by kernel_rfl) (fun _ _ _ h => h) (Or.inl ⟨by rfl, ?_⟩) (by assumption) ?_; rotate_left; (intro w hSw; (try dsimp only at hSw); go_simp; (try simp only [hwk]); (try simp only [hk00, hkn, and_self, if_true]); (try simp only [hk01, hk1n, and_self, if_true]); (try simp only [Int.toNat_natCast]); (try simp only [hk1t]); try with_reducible rfl); ((try simp only [List.getElem_toArray]); (try simp only [List.getElem_cons_succ]); (try simp only [List.getElem_cons_zero]); (try simp only [Act.put]); (try simp only [List.setIfInBounds_toArray]); (try simp only [List.set_cons_succ]); (try simp only [List.set_cons_zero])))
              (refine wpAnyH_take (i := 1) (v := ?_) rfl (by kernel_rfl) (by kernel_rfl) (by kernel_rfl) (fun _ _ _ h => h) (Or.inl ⟨by rfl, ?_⟩) (by assumption) ?_; rotate_left; (intro w hSw; (try dsimp only at hSw); go_simp; (try simp only [hwk]); (try simp only [hk00, hkn, and_self, if_true]); (try simp only [hk01, hk1n, and_self, if_true]); (try simp only [Int.toNat_natCast]); (try simp only [hk1t]); try with_reducible rfl); ((try simp only [List.getElem_toArray]); (try simp only [List.getElem_cons_succ]); (try simp only [List.getElem_cons_zero]); (try simp only [Act.put]); (try simp only [List.setIfInBounds_toArray]); (try simp only [List.set_cons_succ]); (try simp only [List.set_cons_zero])))
              (refine wpAnyH_take (i := 2) (v := ?_) rfl (by kernel_rfl) (by kernel_rfl) (by kernel_rfl) (fun _ _ _ h => h) (Or.inl ⟨by rfl, ?_⟩) (by assumption) ?_; rotate_left; (intro w hSw; (try dsimp only at hSw); go_simp; (try simp only [hwk]); (try simp only [hk00, hkn, and_self, if_true]); (try simp only [hk01, hk1n, and_self, if_true]); (try simp only [Int.toNat_natCast]); (try simp only [hk1t]); try with_reducible rfl); ((try simp only [List.getElem_toArray]); (try simp only [List.getElem_cons_succ]); (try simp only [List.getElem_cons_zero]); (try simp only [Act.put]); (try simp only [List.setIfInBounds_toArray]); (try simp only [List.set_cons_succ]); (try simp only [List.set_cons_zero])))
              (refine wpAnyH_take (i := 3) (v := ?_) rfl (by kernel_rfl) (by kernel_rfl) (by kernel_rfl) (fun _ _ _ h => h) (Or.inl ⟨by rfl, ?_⟩) (by assumption) ?_; rotate_left; (intro w hSw; (try dsimp only at hSw); go_simp; (try simp only [hwk]); (try simp only [hk00, hkn, and_self, if_true]); (try simp only [hk01, hk1n, and_self, if_true]); (try simp only [Int.toNat_natCast]); (try simp only [hk1t]); try with_reducible rfl); ((try simp only [List.getElem_toArray]); (try simp only [List.getElem_cons_succ]); (try simp only [List.getElem_cons_zero]); (try simp only [Act.put]); (try simp only [List.setIfInBounds_toArray]); (try simp only [List.set_cons_succ]); (try simp only [List.set_cons_zero])))
              (refine wpAnyH_take (i := 4) (v := ?_) rfl (by kernel_rfl) (by kernel_rfl) (by kernel_rfl) (fun _ _ _ h => h) (Or.inl ⟨by rfl, ?_⟩) (by assumption) ?_; rotate_left; (intro w hSw; (try dsimp only at hSw); go_simp; (try simp only [hwk]); (try simp only [hk00, hkn, and_self, if_true]); (try simp only [hk01, hk1n, and_self, if_true]); (try simp only [Int.toNat_natCast]); (try simp only [hk1t]); try with_reducible rfl); ((try simp only [List.getElem_toArray]); (try simp only [List.getElem_cons_succ]); (try simp only [List.getElem_cons_zero]); (try simp only [Act.put]); (try simp only [List.setIfInBounds_toArray]); (try simp only [List.set_cons_succ]); (try simp only [List.set_cons_zero])))
              (refine wpAnyH_take (i := 5) (v := ?_) rfl (by kernel_rfl) (by kernel_rfl) (by kernel_rfl) (fun _ _ _ h => h) (Or.inl ⟨by rfl, ?_⟩) (by assumption) ?_; rotate_left; (intro w hSw; (try dsimp only at hSw); go_simp; (try simp only [hwk]); (try simp only [hk00, hkn, and_self, if_true]); (try simp only [hk01, hk1n, and_self, if_true]); (try simp only [Int.toNat_natCast]); (try simp only [hk1t]); try with_reducible rfl); ((try simp only [List.getElem_toArray]); (try simp only [List.getElem_cons_succ]); (try simp only [List.getElem_cons_zero]); (try simp only [Act.put]); (try simp only [List.setIfInBounds_toArray]); (try simp only [List.set_cons_succ]); (try simp only [List.set_cons_zero])))
              (refine wpAnyH_take (i := 6) (v := ?_) rfl (by kernel_rfl) (by kernel_rfl) (by kernel_rfl) (fun _ _ _ h => h) (Or.inl ⟨by rfl, ?_⟩) (by assumption) ?_; rotate_left; (intro w hSw; (try dsimp only at hSw); go_simp; (try simp only [hwk]); (try simp only [hk00, hkn, and_self, if_true]); (try simp only [hk01, hk1n, and_self, if_true]); (try simp only [Int.toNat_natCast]); (try simp only [hk1t]); try with_reducible rfl); ((try simp only [List.getElem_toArray]); (try simp only [List.getElem_cons_succ]); (try simp only [List.getElem_cons_zero]); (try simp only [Act.put]); (try simp only [List.setIfInBounds_toArray]); (try simp only [List.set_cons_succ]); (try simp only [List.set_cons_zero])))
              (refine wpAnyH_take (i := 7) (v := ?_) rfl (by kernel_rfl) (by kernel_rfl) (by kernel_rfl) (fun _ _ _ h => h) (Or.inl ⟨by rfl, ?_⟩) (by assumption) ?_; rotate_left; (intro w hSw; (try dsimp only at hSw); go_simp; (try simp only [hwk]); (try simp only [hk00, hkn, and_self, if_true]); (try simp only [hk01, hk1n, and_self, if_true]); (try simp only [Int.toNat_natCast]); (try simp only [hk1t]); try with_reducible rfl); ((try simp only [List.getElem_toArray]); (try simp only [List.getElem_cons_succ]); (try simp only [List.getElem_cons_zero]); (try simp only [Act.put]); (try simp only [List.setIfInBounds_toArray]); (try simp only [List.set_cons_succ]); (try simp only [List.set_cons_zero])))
              (refine wpAnyH_take (i := 8) (v := ?_) rfl (by kernel_rfl) (by kernel_rfl) (by kernel_rfl) (fun _ _ _ h => h) (Or.inl ⟨by rfl, ?_⟩) (by assumption) ?_; rotate_left; (intro w hSw; (try dsimp only at hSw); go_simp; (try simp only [hwk]); (try simp only [hk00, hkn, and_self, if_true]); (try simp only [hk01, hk1n, and_self, if_true]); (try simp only [Int.toNat_natCast]); (try simp only [hk1t]); try with_reducible rfl); ((try simp only [List.getElem_toArray]); (try simp only [List.getElem_cons_succ]); (try simp only [List.getElem_cons_zero]); (try simp only [Act.put]); (try simp only [List.setIfInBounds_toArray]); (try simp only [List.set_cons_succ]); (try simp only [List.set_cons_zero])))
              (refine wpAnyH_take (i := 9) (v := ?_) rfl (by kernel_rfl) (by kernel_rfl) (by kernel_rfl) (fun _ _ _ h => h) (Or.inl ⟨by rfl, ?_⟩) (by assumption) ?_; rotate_left; (intro w hSw; (try dsimp only at hSw); go_simp; (try simp only [hwk]); (try simp only [hk00, hkn, and_self, if_true]); (try simp only [hk01, hk1n, and_self, if_true]); (try simp only [Int.toNat_natCast]); (try simp only [hk1t]); try with_reducible rfl); ((try simp only [List.getElem_toArray]); (try simp only [List.getElem_cons_succ]); (try simp only [List.getElem_cons_zero]); (try simp only [Act.put]); (try simp only [List.setIfInBounds_toArray]); (try simp only [List.set_cons_succ]); (try simp only [List.set_cons_zero])))
              (refine wpAnyH_take (i := 10) (v := ?_) rfl (by kernel_rfl) (by kernel_rfl) (by kernel_rfl) (fun _ _ _ h => h) (Or.inl ⟨by rfl, ?_⟩) (by assumption) ?_; rotate_left; (intro w hSw; (try dsimp only at hSw); go_simp; (try simp only [hwk]); (try simp only [hk00, hkn, and_self, if_true]); (try simp only [hk01, hk1n, and_self, if_true]); (try simp only [Int.toNat_natCast]); (try simp only [hk1t]); try with_reducible rfl); ((try simp only [List.getElem_toArray]); (try simp only [List.getElem_cons_succ]); (try simp only [List.getElem_cons_zero]); (try simp only [Act.put]); (try simp only [List.setIfInBounds_toArray]); (try simp only [List.set_cons_succ]); (try simp only [List.set_cons_zero])))
              (refine wpAnyH_take (i := 11) (v := ?_) rfl (by kernel_rfl) (by kernel_rfl) (by kernel_rfl) (fun _ _ _ h => h) (Or.inl ⟨by rfl, ?_⟩) (by assumption) ?_; rotate_left; (intro w hSw; (try dsimp only at hSw); go_simp; (try simp only [hwk]); (try simp only [hk00, hkn, and_self, if_true]); (try simp only [hk01, hk1n, and_self, if_true]); (try simp only [Int.toNat_natCast]); (try simp only [hk1t]); try with_reducible rfl); ((try simp only [List.getElem_toArray]); (try simp only [List.getElem_cons_succ]); (try simp only [List.getElem_cons_zero]); (try simp only [Act.put]); (try simp only [List.setIfInBounds_toArray]); (try simp only [List.set_cons_succ]); (try simp only [List.set_cons_zero])))
              (refine wpAnyH_take (i := 12) (v := ?_) rfl (by kernel_rfl) (by kernel_rfl) (by kernel_rfl) (fun _ _ _ h => h) (Or.inl ⟨by rfl, ?_⟩) (by assumption) ?_; rotate_left; (intro w hSw; (try dsimp only at hSw); go_simp; (try simp only [hwk]); (try simp only [hk00, hkn, and_self, if_true]); (try simp only [hk01, hk1n, and_self, if_true]); (try simp only [Int.toNat_natCast]); (try simp only [hk1t]); try with_reducible rfl); ((try simp only [List.getElem_toArray]); (try simp only [List.getElem_cons_succ]); (try simp only [List.getElem_cons_zero]); (try simp only [Act.put]); (try simp only [List.setIfInBounds_toArray]); (try simp only [List.set_cons_succ]); (try simp only [List.set_cons_zero])))
              (refine wpAnyH_take (i := 13) (v := ?_) rfl (by kernel_rfl) (by kernel_rfl) (by kernel_rfl) (fun _ _ _ h => h) (Or.inl ⟨by rfl, ?_⟩) (by assumption) ?_; rotate_left; (intro w hSw; (try dsimp only at hSw); go_simp; (try simp only [hwk]); (try simp only [hk00, hkn, and_self, if_true]); (try simp only [hk01, hk1n, and_self, if_true]); (try simp only [Int.toNat_natCast]); (try simp only [hk1t]); try with_reducible rfl); ((try simp only [List.getElem_toArray]); (try simp only [List.getElem_cons_succ]); (try simp only [List.getElem_cons_zero]); (try simp only [Act.put]); (try simp only [List.setIfInBounds_toArray]); (try simp only [List.set_cons_succ]); (try simp only [List.set_cons_zero])))
              (refine wpAnyH_take (i := 14) (v := ?_) rfl (by kernel_rfl) (by kernel_rfl) (by kernel_rfl) (fun _ _ _ h => h) (Or.inl ⟨by rfl, ?_⟩) (by assumption) ?_; rotate_left; (intro w hSw; (try dsimp only at hSw); go_simp; (try simp only [hwk]); (try simp only [hk00, hkn, and_self, if_true]); (try simp only [hk01, hk1n, and_self, if_true]); (try simp only [Int.toNat_natCast]); (try simp only [hk1t]); try with_reducible rfl); ((try simp only [List.getElem_toArray]); (try simp only [List.getElem_cons_succ]); (try simp only [List.getElem_cons_zero]); (try simp only [Act.put]); (try simp only [List.setIfInBounds_toArray]); (try simp only [List.set_cons_succ]); (try simp only [List.set_cons_zero])))
              (refine wpAnyH_take (i := 15) (v := ?_) rfl (by kernel_rfl) (by kernel_rfl) (by kernel_rfl) (fun _ _ _ h => h) (Or.inl ⟨by rfl, ?_⟩) (by assumption) ?_; rotate_left; (intro w hSw; (try dsimp only at hSw); go_simp; (try simp only [hwk]); (try simp only [hk00, hkn, and_self, if_true]); (try simp only [hk01, hk1n, and_self, if_true]); (try simp only [Int.toNat_natCast]); (try simp only [hk1t]); try with_reducible rfl); ((try simp only [List.getElem_toArray]); (try simp only [List.getElem_cons_succ]); (try simp only [List.getElem_cons_zero]); (try simp only [Act.put]); (try simp only [List.setIfInBounds_toArray]); (try simp only [List.set_cons_succ]); (try simp only [List.set_cons_zero])))
              (refine wpAnyH_take (i := 16) (v := ?_) rfl (by kernel_rfl) (by kernel_rfl) (by kernel_rfl) (fun _ _ _ h => h) (Or.inl ⟨by rfl, ?_⟩) (by assumption) ?_; rotate_left; (intro w hSw; (try dsimp only at hSw); go_simp; (try simp only [hwk]); (try simp only [hk00, hkn, and_self, if_true]); (try simp only [hk01, hk1n, and_self, if_true]); (try simp only [Int.toNat_natCast]); (try simp only [hk1t]); try with_reducible rfl); ((try simp only [List.getElem_toArray]); (try simp only [List.getElem_cons_succ]); (try simp only [List.getElem_cons_zero]); (try simp only [Act.put]); (try simp only [List.setIfInBounds_toArray]); (try simp only [List.set_cons_succ]); (try simp only [List.set_cons_zero])))
              (refine wpAnyH_take (i := 17) (v := ?_) rfl (by kernel_rfl) (by kernel_rfl) (by kernel_rfl) (fun _ _ _ h => h) (Or.inl ⟨by rfl, ?_⟩) (by assumption) ?_; rotate_left; (intro w hSw; (try dsimp only at hSw); go_simp; (try simp only [hwk]); (try simp only [hk00, hkn, and_self, if_true]); (try simp only [hk01, hk1n, and_self, if_true]); (try simp only [Int.toNat_natCast]); (try simp only [hk1t]); try with_reducible rfl); ((try simp only [List.getElem_toArray]); (try simp only [List.getElem_cons_succ]); (try simp only [List.getElem_cons_zero]); (try simp only [Act.put]); (try simp only [List.setIfInBounds_toArray]); (try simp only [List.set_cons_succ]); (try simp only [List.set_cons_zero])))
              (refine wpAnyH_take (i := 18) (v := ?_) rfl (by kernel_rfl) (by kernel_rfl) (by kernel_rfl) (fun _ _ _ h => h) (Or.inl ⟨by rfl, ?_⟩) (by assumption) ?_; rotate_left; (intro w hSw; (try dsimp only at hSw); go_simp; (try simp only [hwk]); (try simp only [hk00, hkn, and_self, if_true]); (try simp only [hk01, hk1n, and_self, if_true]); (try simp only [Int.toNat_natCast]); (try simp only [hk1t]); try with_reducible rfl); ((try simp only [List.getElem_toArray]); (try simp only [List.getElem_cons_succ]); (try simp only [List.getElem_cons_zero]); (try simp only [Act.put]); (try simp only [List.setIfInBounds_toArray]); (try simp only [List.set_cons_succ]); (try simp only [List.set_cons_zero])))
              (refine wpAnyH_take (i := 19) (v := ?_) rfl (by kernel_rfl) (by kernel_rfl) (by kernel_rfl) (fun _ _ _ h => h) (Or.inl ⟨by rfl, ?_⟩) (by assumption) ?_; rotate_left; (intro w hSw; (try dsimp only at hSw); go_simp; (try simp only [hwk]); (try simp only [hk00, hkn, and_self, if_true]); (try simp only [hk01, hk1n, and_self, if_true]); (try simp only [Int.toNat_natCast]); (try simp only [hk1t]); try with_reducible rfl); ((try simp only [List.getElem_toArray]); (try simp only [List.getElem_cons_succ]); (try simp only [List.getElem_cons_zero]); (try simp only [Act.put]); (try simp only [List.setIfInBounds_toArray]); (try simp only [List.set_cons_succ]); (try simp only [List.set_cons_zero])))
              (refine wpAnyH_take (i := 20) (v := ?_) rfl (by kernel_rfl) (by kernel_rfl) (by kernel_rfl) (fun _ _ _ h => h) (Or.inl ⟨by rfl, ?_⟩) (by assumption) ?_; rotate_left; (intro w hSw; (try dsimp only at hSw); go_simp; (try simp only [hwk]); (try simp only [hk00, hkn, and_self, if_true]); (try simp only [hk01, hk1n, and_self, if_true]); (try simp only [Int.toNat_natCast]); (try simp only [hk1t]); try with_reducible rfl); ((try simp only [List.getElem_toArray]); (try simp only [List.getElem_cons_succ]); (try simp only [List.getElem_cons_zero]); (try simp only [Act.put]); (try simp only [List.setIfInBounds_toArray]); (try simp only [List.set_cons_succ]); (try simp only [List.set_cons_zero])))
              (refine wpAnyH_take (i := 21) (v := ?_) rfl (by kernel_rfl) (by kernel_rfl) (by kernel_rfl) (fun _ _ _ h => h) (Or.inl ⟨by rfl, ?_⟩) (by assumption) ?_; rotate_left; (intro w hSw; (try dsimp only at hSw); go_simp; (try simp only [hwk]); (try simp only [hk00, hkn, and_self, if_true]); (try simp only [hk01, hk1n, and_self, if_true]); (try simp only [Int.toNat_natCast]); (try simp only [hk1t]); try with_reducible rfl); ((try simp only [List.getElem_toArray]); (try simp only [List.getElem_cons_succ]); (try simp only [List.getElem_cons_zero]); (try simp only [Act.put]); (try simp only [List.setIfInBounds_toArray]); (try simp only [List.set_cons_succ]); (try simp only [List.set_cons_zero])))
              (refine wpAnyH_take (i := 22) (v := ?_) rfl (by kernel_rfl) (by kernel_rfl) (by kernel_rfl) (fun _ _ _ h => h) (Or.inl ⟨by rfl, ?_⟩) (by assumption) ?_; rotate_left; (intro w hSw; (try dsimp only at hSw); go_simp; (try simp only [hwk]); (try simp only [hk00, hkn, and_self, if_true]); (try simp only [hk01, hk1n, and_self, if_true]); (try simp only [Int.toNat_natCast]); (try simp only [hk1t]); try with_reducible rfl); ((try simp only [List.getElem_toArray]); (try simp only [List.getElem_cons_succ]); (try simp only [List.getElem_cons_zero]); (try simp only [Act.put]); (try simp only [List.setIfInBounds_toArray]); (try simp only [List.set_cons_succ]); (try simp only [List.set_cons_zero])))
              (refine wpAnyH_take (i := 23) (v := ?_) rfl (by kernel_rfl) (by kernel_rfl) (by kernel_rfl) (fun _ _ _ h => h) (Or.inl ⟨by rfl, ?_⟩) (by assumption) ?_; rotate_left; (intro w hSw; (try dsimp only at hSw); go_simp; (try simp only [hwk]); (try simp only [hk00, hkn, and_self, if_true]); (try simp only [hk01, hk1n, and_self, if_true]); (try simp only [Int.toNat_natCast]); (try simp only [hk1t]); try with_reducible rfl); ((try simp only [List.getElem_toArray]); (try simp only [List.getElem_cons_succ]); (try simp only [List.getElem_cons_zero]); (try simp only [Act.put]); (try simp only [List.setIfInBounds_toArray]); (try simp only [List.set_cons_succ]); (try simp only [List.set_cons_zero])))
              (refine wpAnyH_take (i := 24) (v := ?_) rfl (by kernel_rfl) (by kernel_rfl) (by kernel_rfl) (fun _ _ _ h => h) (Or.inl ⟨by rfl, ?_⟩) (by assumption) ?_; rotate_left; (intro w hSw; (try dsimp only at hSw); go_simp; (try simp only [hwk]); (try simp only [hk00, hkn, and_self, if_true]); (try simp only [hk01, hk1n, and_self, if_true]); (try simp only [Int.toNat_natCast]); (try simp only [hk1t]); try with_reducible rfl); ((try simp only [List.getElem_toArray]); (try simp only [List.getElem_cons_succ]); (try simp only [List.getElem_cons_zero]); (try simp only [Act.put]); (try simp only [List.setIfInBounds_toArray]); (try simp only [List.set_cons_succ]); (try simp only [List.set_cons_zero])))
              (refine wpAnyH_take (i := 25) (v := ?_) rfl (by kernel_rfl) (by kernel_rfl) (by kernel_rfl) (fun _ _ _ h => h) (Or.inl ⟨by rfl, ?_⟩) (by assumption) ?_; rotate_left; (intro w hSw; (try dsimp only at hSw); go_simp; (try simp only [hwk]); (try simp only [hk00, hkn, and_self, if_true]); (try simp only [hk01, hk1n, and_self, if_true]); (try simp only [Int.toNat_natCast]); (try simp only [hk1t]); try with_reducible rfl); ((try simp only [List.getElem_toArray]); (try simp only [List.getElem_cons_succ]); (try simp only [List.getElem_cons_zero]); (try simp only [Act.put]); (try simp only [List.setIfInBounds_toArray]); (try simp only [List.set_cons_succ]); (try simp only [List.set_cons_zero])))
              (refine wpAnyH_take (i := 26) (v := ?_) rfl (by kernel_rfl) (by kernel_rfl) (by kernel_rfl) (fun _ _ _ h => h) (Or.inl ⟨by rfl, ?_⟩) (by assumption) ?_; rotate_left; (intro w hSw; (try dsimp only at hSw); go_simp; (try simp only [hwk]); (try simp only [hk00, hkn, and_self, if_true]); (try simp only [hk01, hk1n, and_self, if_true]); (try simp only [Int.toNat_natCast]); (try simp only [hk1t]); try with_reducible rfl); ((try simp only [List.getElem_toArray]); (try simp only [List.getElem_cons_succ]); (try simp only [List.getElem_cons_zero]); (try simp only [Act.put]); (try simp only [List.setIfInBounds_toArray]); (try simp only [List.set_cons_succ]); (try simp only [List.set_cons_zero])))
              refine wpAnyH_done (by kernel_rfl) ?_ _
              go_wp2_with fail
              go_roundw
              case rel => exact ⟨k + 1 + 1, j + 1, by omega, by go_num, rfl⟩
              case measure => simp [intOf] <;> omega
          · have hi3I : ¬ (i : Int) < (n3 : Int) := by omega
            have HKY2 := Lib.hid (keys_any (w3.drewN j) tb S HSj.out.tr HSj.out.top (by rw [← con_len, HC.out]; omega) ⟨#[]⟩ 50)
            rw [keysF_con HSj.out.ris, HC.out, keysL_all (by decide) (by omega)] at HKY2
            go_wp2_with fail
            refine HKY2.out.mono ?_
            rintro e w4 ⟨v4, rfl, ho4, b4⟩
            obtain ⟨A4, n4, c4, rfl, hn4, -, -, hcs4, -⟩ := ownS_row ho4
            rw [List.length_map, HN3.out] at hn4
            subst hn4
            have HSM := Lib.hid (same_any (T.con.map (fun x : ByteArray × Int => x.1)) w4 A3 A4 n3 c3 c4 (by rw [List.length_map]; exact HN3.out) (HRS.out.hp fun p u h => (b4.cell (World.block_lt_of_cell? (w3.drewN j) p (show (w3.drewN j).cell? p = some u from h))).trans h) (show RdS w4 A4 (T.con.map (fun x : ByteArray × Int => x.1)) from hcs4) (by omega))
            have HT4 := Lib.hid (HTj.out.below b4)
            have HS4 := Lib.hid (HSj.out.below b4)
            have HI4 : Hid (Below w.heap.size w w4) := (Below.drewN HI3.out j).trans (b4.mono (Below.drewN HI3.out j).size)
            clear ho4 b4 hcs4 HKY2 HTj HSj
            go_wp2_with fail
            refine HSM.out.mono ?_
            rintro e w5 ⟨rfl, k5, rfl⟩
            have hb5 : Below w4.heap.size w4 (w4.drewN k5) := Below.drewN (Below.refl _ w4) k5
            have HNa := Lib.hid (len_any (HT4.out.below hb5))
            have HNb := Lib.hid (len_any (HS4.out.below hb5))
            rw [HC.out, HN3.out] at HNb
            rw [HN3.out] at HNa
            have HI5 : Hid (Below w.heap.size w (w4.drewN k5)) := Below.drewN HI4.out k5
            clear hb5 HSM HT4 HS4
            generalize w4.drewN k5 = w5 at *
            go_wp2_with fail
            refine HNa.out.mono ?_
            rintro e w6 ⟨rfl, rfl⟩
            go_wp2_with fail
            refine HNb.out.mono ?_
            rintro e w6 ⟨rfl, rfl⟩
            go_wp2_with fail
            refine HNa.out.mono ?_
            rintro e w6 ⟨rfl, rfl⟩
            go_wp2_with fail
            refine (lives_any w6).mono ?_
            rintro e w7 ⟨rfl, b7⟩
            have HI7 := Lib.hid (HI5.out.trans (b7.mono HI5.out.size))
            clear b7
            go_wp2_with fail
            go_ret
            exact ⟨rfl, HI7.out⟩
  · have hl := hl0
    have hr := hr0
    generalize L0 = L at *
    have HL := Lib.hid hl
    have HR := Lib.hid hr
    clear hl hr hl0 hr0
    go_enter Try.func7, Try.ntmps7
    go_wp2_with fail
    refine (tnew_any w).mono ?_
    rintro e w1 ⟨rfl, h1, b1⟩
    have H1 := Lib.hid h1
    have HB1 := Lib.hid b1
    clear h1 b1
    go_wp2_with fail
    refine (tnew_any w1).mono ?_
    rintro e w2 ⟨rfl, h2, b2⟩
    have H2 := Lib.hid h2
    have HA2 := Lib.hid (H1.out.below b2)
    have HB2 := Lib.hid (HB1.out.trans (b2.mono HB1.out.size))
    have hne : w1.heap.size ≠ w.heap.size := by have := H1.out.top.lt; omega
    have hge : w.heap.size ≤ w1.heap.size := HB1.out.size
    obtain ⟨tb, htb⟩ : ∃ tb, tb = w1.heap.size := ⟨_, rfl⟩
    rw [← htb] at H2 hne hge ⊢
    clear h2 b2 H1 HB1 htb
    go_wp2_with fail
    go_loopw [5] (fun u wr => ∃ (i : Nat) (T S : Tr), i ≤ n ∧ u = .int .i64 i ∧ Hid (TrAt w.heap.size wr T) ∧ Hid (TrAt tb wr S) ∧ Hid (T.con.length ≤ i) ∧ Hid (S.con.length ≤ i) ∧ Hid (Just (First L i) T.con) ∧ Hid (Just (Last L i) S.con) ∧ Hid (Below w.heap.size w wr)) (fun u _ => n - (intOf u).toNat)
    case atStart => exact ⟨0, .nil, .nil, by omega, rfl, HA2, H2, Nat.le_refl 0, Nat.le_refl 0, Just.imp just_nil (first_zero L), Just.imp just_nil (last_zero L), HB2⟩
    case round =>
      obtain ⟨i, T, S, hi, rfl, HT, HS, HLt, HLs, HJ, HK, HI⟩ := hrel
      by_cases hlt : i < n
      · have hil : i < L.length := by rw [HL.out]; exact hlt
        have hjl : L.length - 1 - i < L.length := by omega
        obtain ⟨b, off, rfl, c0⟩ := str_at HR.out HI.out hil
        obtain ⟨b2, off2, e2, c1⟩ := str_at HR.out HI.out hjl
        cases e2
        have hs : L[i]? = some L[i] := List.getElem?_eq_getElem hil
        have hs2 : L[L.length - 1 - i]? = some L[L.length - 1 - i] := List.getElem?_eq_getElem hjl
        have hiI : (i : Int) < (n : Int) := by omega
        generalize L[i] = s at *
        generalize L[L.length - 1 - i] = s2 at *
        have hll : L.length = n := HL.out
        rw [hll] at c1
        obtain ⟨q, HQ⟩ : ∃ q : Nat, Hid (q = n - 1 - i) := ⟨_, rfl⟩
        rw [← HQ.out] at c1
        have hqI : (n : Int) - 1 - (i : Int) = (q : Int) := by have := HQ.out; omega
        have hqM : (q : Int) < (n : Int) := by have := HQ.out; omega
        clear hll
        have hsz1 : ((fewS s).size : Int) ≤ 8 := by have := fewS_size s; omega
        go_wp2_with fail
        refine wp_region_held_drew (S := fun X => X.cell? ⟨b, off + i, none⟩ = some (.string s)) (by kernel_rfl) (by exact c0) (fun _ => ?_)
        (refine wpAnyH_take (i := 0) (v := ?_) rfl (by kernel_rfl) (by kernel_rfl) (by kernel_rfl) (fun _ _ _ h => h) (Or.inl ⟨by rfl, ?_⟩) (by assumption) ?_; rotate_left; (intro w hSw; (try dsimp only at hSw); go_simp; try with_reducible rfl); ((try simp only [List.getElem_toArray]); (try simp only [List.getElem_cons_succ]); (try simp only [List.getElem_cons_zero]); (try simp only [Act.put]); (try simp only [List.setIfInBounds_toArray]); (try simp only [List.set_cons_succ]); (try simp only [List.set_cons_zero])))
        (refine wpAnyH_take (i := 1) (v := ?_) rfl (by kernel_rfl) (by kernel_rfl) (by kernel_rfl) (fun _ _ _ h => h) (Or.inl ⟨by rfl, ?_⟩) (by assumption) ?_; rotate_left; (intro w hSw; (try dsimp only at hSw); go_simp; try with_reducible rfl); ((try simp only [List.getElem_toArray]); (try simp only [List.getElem_cons_succ]); (try simp only [List.getElem_cons_zero]); (try simp only [Act.put]); (try simp only [List.setIfInBounds_toArray]); (try simp only [List.set_cons_succ]); (try simp only [List.set_cons_zero])))
        (refine wpAnyH_take (i := 2) (v := ?_) rfl (by kernel_rfl) (by kernel_rfl) (by kernel_rfl) (fun _ _ _ h => h) (Or.inl ⟨by rfl, ?_⟩) (by assumption) ?_; rotate_left; (intro w hSw; (try dsimp only at hSw); go_simp; try with_reducible rfl); ((try simp only [List.getElem_toArray]); (try simp only [List.getElem_cons_succ]); (try simp only [List.getElem_cons_zero]); (try simp only [Act.put]); (try simp only [List.setIfInBounds_toArray]); (try simp only [List.set_cons_succ]); (try simp only [List.set_cons_zero])))
        (refine wpAnyH_take (i := 3) (v := ?_) rfl (by kernel_rfl) (by kernel_rfl) (by kernel_rfl) (fun _ _ _ h => h) (Or.inl ⟨by rfl, ?_⟩) (by assumption) ?_; rotate_left; (intro w hSw; (try dsimp only at hSw); go_simp; try with_reducible rfl); ((try simp only [List.getElem_toArray]); (try simp only [List.getElem_cons_succ]); (try simp only [List.getElem_cons_zero]); (try simp only [Act.put]); (try simp only [List.setIfInBounds_toArray]); (try simp only [List.set_cons_succ]); (try simp only [List.set_cons_zero])))
        (refine wpAnyH_take (i := 4) (v := ?_) rfl (by kernel_rfl) (by kernel_rfl) (by kernel_rfl) (fun _ _ _ h => h) (Or.inl ⟨by rfl, ?_⟩) (by assumption) ?_; rotate_left; (intro w hSw; (try dsimp only at hSw); go_simp; try with_reducible rfl); ((try simp only [List.getElem_toArray]); (try simp only [List.getElem_cons_succ]); (try simp only [List.getElem_cons_zero]); (try simp only [Act.put]); (try simp only [List.setIfInBounds_toArray]); (try simp only [List.set_cons_succ]); (try simp only [List.set_cons_zero])))
        (refine wpAnyH_take (i := 6) (v := ?_) rfl (by kernel_rfl) (by kernel_rfl) (by kernel_rfl) (fun _ _ _ h => h) (Or.inl ⟨by rfl, ?_⟩) (by assumption) ?_; rotate_left; (intro w hSw; (try dsimp only at hSw); go_simp; try with_reducible rfl); ((try simp only [List.getElem_toArray]); (try simp only [List.getElem_cons_succ]); (try simp only [List.getElem_cons_zero]); (try simp only [Act.put]); (try simp only [List.setIfInBounds_toArray]); (try simp only [List.set_cons_succ]); (try simp only [List.set_cons_zero])))
        (refine wpAnyH_take (i := 7) (v := ?_) rfl (by kernel_rfl) (by kernel_rfl) (by kernel_rfl) (fun _ _ _ h => h) (Or.inl ⟨by rfl, ?_⟩) (by assumption) ?_; rotate_left; (intro w hSw; (try dsimp only at hSw); go_simp; try with_reducible rfl); ((try simp only [List.getElem_toArray]); (try simp only [List.getElem_cons_succ]); (try simp only [List.getElem_cons_zero]); (try simp only [Act.put]); (try simp only [List.setIfInBounds_toArray]); (try simp only [List.set_cons_succ]); (try simp only [List.set_cons_zero])))
        (refine wpAnyH_take (i := 8) (v := ?_) rfl (by kernel_rfl) (by kernel_rfl) (by kernel_rfl) (fun _ _ _ h => h) (Or.inl ⟨by rfl, ?_⟩) (by assumption) ?_; rotate_left; (intro w hSw; (try dsimp only at hSw); go_simp; try with_reducible rfl); ((try simp only [List.getElem_toArray]); (try simp only [List.getElem_cons_succ]); (try simp only [List.getElem_cons_zero]); (try simp only [Act.put]); (try simp only [List.setIfInBounds_toArray]); (try simp only [List.set_cons_succ]); (try simp only [List.set_cons_zero])))
        (refine wpAnyH_take (i := 9) (v := ?_) rfl (by kernel_rfl) (by kernel_rfl) (by kernel_rfl) (fun _ _ _ h => h) (Or.inl ⟨by rfl, ?_⟩) (by assumption) ?_; rotate_left; (intro w hSw; (try dsimp only at hSw); go_simp; try with_reducible rfl); ((try simp only [List.getElem_toArray]); (try simp only [List.getElem_cons_succ]); (try simp only [List.getElem_cons_zero]); (try simp only [Act.put]); (try simp only [List.setIfInBounds_toArray]); (try simp only [List.set_cons_succ]); (try simp only [List.set_cons_zero])))
        refine wpAnyH_ready (rs := [5]) (by kernel_rfl) (by simp) ?_
        refine AllReadyH.cons rfl (fun K2 hK2 => ?_) AllReadyH.nil
        go_simp
        refine (few_any _ s).mono ?_
        rintro e w3 ⟨rfl, rfl⟩
        go_wp2_with fail
        refine hK2.out _ _ (by exact c0) (fun hq => ?_)
        clear hK2 K2
        ((try simp only [List.getElem_toArray]); (try simp only [List.getElem_cons_succ]); (try simp only [List.getElem_cons_zero]); (try simp only [Act.put]); (try simp only [List.setIfInBounds_toArray]); (try simp only [List.set_cons_succ]); (try simp only [List.set_cons_zero]))
        refine wpAnyH_ready (rs := [10]) (by kernel_rfl) (by simp) ?_
        refine AllReadyH.cons rfl (fun K2 hK2 => ?_) AllReadyH.nil
        go_simp
        refine (few_any _ s).mono ?_
        rintro e w3 ⟨rfl, rfl⟩
        go_wp2_with fail
        refine hK2.out _ _ (by exact c0) (fun hq => ?_)
        clear hK2 K2
        ((try simp only [List.getElem_toArray]); (try simp only [List.getElem_cons_succ]); (try simp only [List.getElem_cons_zero]); (try simp only [Act.put]); (try simp only [List.setIfInBounds_toArray]); (try simp only [List.set_cons_succ]); (try simp only [List.set_cons_zero]))
        (refine wpAnyH_take (i := 11) (v := ?_) rfl (by kernel_rfl) (by kernel_rfl) (by kernel_rfl) (fun _ _ _ h => h) (Or.inl ⟨by rfl, ?_⟩) (by assumption) ?_; rotate_left; (intro w hSw; (try dsimp only at hSw); go_simp; try with_reducible rfl); ((try simp only [List.getElem_toArray]); (try simp only [List.getElem_cons_succ]); (try simp only [List.getElem_cons_zero]); (try simp only [Act.put]); (try simp only [List.setIfInBounds_toArray]); (try simp only [List.set_cons_succ]); (try simp only [List.set_cons_zero])))
        refine wpAnyH_ready (rs := [12]) (by kernel_rfl) (by simp) ?_
        refine AllReadyH.cons rfl (fun K2 hK2 => ?_) AllReadyH.nil
        go_simp
        refine (tput_any (tb := w.heap.size) (w := wr.drew) (T := T) (HT.out.below (Below.refl _ wr).drew) (by have := HLt.out; omega) (fewS s) (by have := fewS_size s; omega) ((fewS s).size : Int)).mono ?_
        rintro e w4 ⟨rfl, T', h4, c4, t4⟩
        have H4 := Lib.hid h4
        have HS4 := Lib.hid ((HS.out.below (Below.refl _ wr).drew).tur (HT.out.below (Below.refl _ wr).drew) t4 hne)
        have HB4 := Lib.hid (HI.out.drew.trans (t4.below (by simp) HI.out.size))
        have HLt4 : Hid (T'.con.length ≤ i + 1) := by
          show T'.con.length ≤ i + 1
          rw [c4]
          have := putL_len (k := fewS s) (v := ((fewS s).size : Int)) T.con
          have := HLt.out
          omega
        have HJ4 : Hid (Just (First L (i + 1)) T'.con) := by
          show Just (First L (i + 1)) T'.con
          rw [c4]
          exact Just.imp (HJ.out.put (fewS s)) (first_succ hs)
        have c5 : w4.cell? ⟨b, off + q, none⟩ = some (.string s2) := by
          have hx := str_at HR.out HB4.out hjl
          obtain ⟨b', off', e', c5⟩ := hx
          cases e'
          have hh : L[L.length - 1 - i]? = some L[L.length - 1 - i] := List.getElem?_eq_getElem hjl
          rw [hs2] at hh
          injection hh with hh
          rw [hh, HQ.out]
          have hll : L.length = n := HL.out
          rw [← hll]
          exact c5
        have c6 : w4.cell? ⟨b, off + i, none⟩ = some (.string s) := by
          obtain ⟨b', off', e', c6⟩ := str_at HR.out HB4.out hil
          cases e'
          have hh : L[i]? = some L[i] := List.getElem?_eq_getElem hil
          rw [hs] at hh
          injection hh with hh
          rw [hh]
          exact c6
        clear h4 t4 c4 HT HS HLt HJ HI c0 c1
        go_wp2_with fail
        refine hK2.out _ _ (by exact c6) (fun hq => ?_)
        clear hK2 K2
        ((try simp only [List.getElem_toArray]); (try simp only [List.getElem_cons_succ]); (try simp only [List.getElem_cons_zero]); (try simp only [Act.put]); (try simp only [List.setIfInBounds_toArray]); (try simp only [List.set_cons_succ]); (try simp only [List.set_cons_zero]))
        refine wpAnyH_done (by kernel_rfl) ?_ _
        go_wp2_with fail
        refine (few_any _ s2).mono ?_
        rintro e w5 ⟨rfl, rfl⟩
        have hsz2 : ((fewS s2).size : Int) ≤ 8 := by have := fewS_size s2; omega
        go_wp2_with fail
        refine (tput_any HS4.out (by have := HLs.out; omega) (fewS s2) (by have := fewS_size s2; omega) ((fewS s2).size : Int)).mono ?_
        rintro e w6 ⟨rfl, S', h6, c6, t6⟩
        have H6 := Lib.hid h6
        have HT6 := Lib.hid (H4.out.tur HS4.out t6 (Ne.symm hne))
        have HB6 := Lib.hid (HB4.out.trans (t6.below (by simpa using hge) HB4.out.size))
        have HLs6 : Hid (S'.con.length ≤ i + 1) := by
          show S'.con.length ≤ i + 1
          rw [c6]
          have := putL_len (k := fewS s2) (v := ((fewS s2).size : Int)) S.con
          have := HLs.out
          omega
        have HK6 : Hid (Just (Last L (i + 1)) S'.con) := by
          show Just (Last L (i + 1)) S'.con
          rw [c6]
          exact Just.imp (HK.out.put (fewS s2)) (last_succ hs2)
        clear h6 t6 c6 H4 HS4 HB4 HLs HK c5
        go_wp2_with fail
        go_roundw
        case rel => exact ⟨i + 1, T', S', by omega, by go_num, HT6, H6, HLt4, HLs6, HJ4, HK6, HB6⟩
        case measure => simp [intOf]; omega
      · have hm40 : n ≤ 40 := by omega
        have hltI : ¬ (i : Int) < (n : Int) := by omega
        have him : i = L.length := by rw [HL.out]; omega
        have hcon : S.con = T.con := by
          have hj := HJ.out
          have hk := HK.out
          rw [him] at hj hk
          exact (Just.same HT.out.ris HS.out.ris hj hk (first_last L)).symm
        have HC := Lib.hid hcon
        have hlen : T.con.length ≤ 40 := by have := HLt.out; omega
        have HKY := Lib.hid (keys_any wr w.heap.size T HT.out.tr HT.out.top (by rw [← con_len]; omega) ⟨#[]⟩ 50)
        rw [keysF_con HT.out.ris, keysL_all (by decide) (by omega)] at HKY
        clear him hcon HJ HK HLt HLs
        go_wp2_with fail
        refine HKY.out.mono ?_
        rintro e w3 ⟨v, rfl, ho, b3⟩
        obtain ⟨A3, n3, c3, rfl, hn3, hnc3, hcm3, hcs, -⟩ := ownS_row ho
        rw [List.length_map] at hn3
        have HN3 := Lib.hid hn3
        have HCS : Hid (∀ j (hj : j < T.con.length), ∃ b off, A3 = some ⟨b, off, none⟩ ∧ w3.cell? ⟨b, off + j, none⟩ = some (.string T.con[j].1)) := fun j hj => by
          obtain ⟨b, off, e, h⟩ := hcs j (by rw [List.length_map]; exact hj)
          rw [List.getElem_map] at h
          exact ⟨b, off, e, h⟩
        have HRS : Hid (RdS w3 A3 (T.con.map (fun x : ByteArray × Int => x.1))) := hcs
        have HT3 := Lib.hid (HT.out.below b3)
        have HS3 := Lib.hid (HS.out.below b3)
        have HI3 := Lib.hid (HI.out.trans (b3.mono HI.out.size))
        have hn3b : n3 ≤ 40 := by omega
        clear ho hcs b3 HKY HT HS HI hn3
        go_wp2_with fail
        go_loopw [8] (fun u wr => ∃ (i j : Nat), i ≤ n3 ∧ u = .int .i64 i ∧ wr = w3.drewN j) (fun u _ => n3 - (intOf u).toNat)
        case atStart => exact ⟨0, 0, by omega, rfl, rfl⟩
        case round =>
          obtain ⟨i, j, hi3, rfl, rfl⟩ := hrel
          have HTj : Hid (TrAt w.heap.size (w3.drewN j) T) := HT3.out.below (Below.drewN (Below.refl _ w3) j)
          have HSj : Hid (TrAt tb (w3.drewN j) S) := HS3.out.below (Below.drewN (Below.refl _ w3) j)
          by_cases hlt3 : i < n3
          · have hil : i < T.con.length := by rw [HN3.out]; exact hlt3
            have hi3I : (i : Int) < (n3 : Int) := by omega
            have HG1 := Lib.hid (get_any HTj.out (T.con[i].1))
            have HG2 := Lib.hid (get_any HSj.out (T.con[i].1))
            rw [HC.out] at HG2
            rw [getL_at HT3.out.ris (List.getElem_mem hil)] at HG1 HG2
            obtain ⟨b, off, rfl, c0⟩ := HCS.out i hil
            have c0' : (w3.drewN j).cell? ⟨b, off + i, none⟩ = some (.string T.con[i].1) := c0
            rcases i with _ | k
            · generalize T.con[0] = x at *
              have c0'' : (w3.drewN j).cell? ⟨b, off, none⟩ = some (.string x.1) := c0'
              go_wp2_with fail
              refine HG1.out.mono ?_
              rintro e w4 ⟨rfl, rfl⟩
              go_wp2_with fail
              refine HG2.out.mono ?_
              rintro e w4 ⟨rfl, rfl⟩
              go_wp2_with fail
              refine wp_region_held_drew (S := fun X => True) (by kernel_rfl) trivial (fun _ => ?_)
              (refine wpAnyH_take (i := 0) (v := ?_) rfl (by kernel_rfl) (by kernel_rfl) (by kernel_rfl) (fun _ _ _ h => h) (Or.inl ⟨by rfl, ?_⟩) (by assumption) ?_; rotate_left; (intro w hSw; (try dsimp only at hSw); go_simp; try with_reducible rfl); ((try simp only [List.getElem_toArray]); (try simp only [List.getElem_cons_succ]); (try simp only [List.getElem_cons_zero]); (try simp only [Act.put]); (try simp only [List.setIfInBounds_toArray]); (try simp only [List.set_cons_succ]); (try simp only [List.set_cons_zero])))
              (refine wpAnyH_take (i := 1) (v := ?_) rfl (by kernel_rfl) (by kernel_rfl) (by kernel_rfl) (fun _ _ _ h => h) (Or.inl ⟨by rfl, ?_⟩) (by assumption) ?_; rotate_left; (intro w hSw; (try dsimp only at hSw); go_simp; try with_reducible rfl); ((try simp only [List.getElem_toArray]); (try simp only [List.getElem_cons_succ]); (try simp only [List.getElem_cons_zero]); (try simp only [Act.put]); (try simp only [List.setIfInBounds_toArray]); (try simp only [List.set_cons_succ]); (try simp only [List.set_cons_zero])))
              (refine wpAnyH_take (i := 2) (v := ?_) rfl (by kernel_rfl) (by kernel_rfl) (by kernel_rfl) (fun _ _ _ h => h) (Or.inl ⟨by rfl, ?_⟩) (by assumption) ?_; rotate_left; (intro w hSw; (try dsimp only at hSw); go_simp; try with_reducible rfl); ((try simp only [List.getElem_toArray]); (try simp only [List.getElem_cons_succ]); (try simp only [List.getElem_cons_zero]); (try simp only [Act.put]); (try simp only [List.setIfInBounds_toArray]); (try simp only [List.set_cons_succ]); (try simp only [List.set_cons_zero])))
              (refine wpAnyH_take (i := 3) (v := ?_) rfl (by kernel_rfl) (by kernel_rfl) (by kernel_rfl) (fun _ _ _ h => h) (Or.inl ⟨by rfl, ?_⟩) (by assumption) ?_; rotate_left; (intro w hSw; (try dsimp only at hSw); go_simp; try with_reducible rfl); ((try simp only [List.getElem_toArray]); (try simp only [List.getElem_cons_succ]); (try simp only [List.getElem_cons_zero]); (try simp only [Act.put]); (try simp only [List.setIfInBounds_toArray]); (try simp only [List.set_cons_succ]); (try simp only [List.set_cons_zero])))
              (refine wpAnyH_take (i := 4) (v := ?_) rfl (by kernel_rfl) (by kernel_rfl) (by kernel_rfl) (fun _ _ _ h => h) (Or.inl ⟨by rfl, ?_⟩) (by assumption) ?_; rotate_left; (intro w hSw; (try dsimp only at hSw); go_simp; try with_reducible rfl); ((try simp only [List.getElem_toArray]); (try simp only [List.getElem_cons_succ]); (try simp only [List.getElem_cons_zero]); (try simp only [Act.put]); (try simp only [List.setIfInBounds_toArray]); (try simp only [List.set_cons_succ]); (try simp only [List.set_cons_zero])))
              (refine wpAnyH_take (i := 5) (v := ?_) rfl (by kernel_rfl) (by kernel_rfl) (by kernel_rfl) (fun _ _ _ h => h) (Or.inl ⟨by rfl, ?_⟩) (by assumption) ?_; rotate_left; (intro w hSw; (try dsimp only at hSw); go_simp; try with_reducible rfl); ((try simp only [List.getElem_toArray]); (try simp only [List.getElem_cons_succ]); (try simp only [List.getElem_cons_zero]); (try simp only [Act.put]); (try simp only [List.setIfInBounds_toArray]); (try simp only [List.set_cons_succ]); (try simp only [List.set_cons_zero])))
              (refine wpAnyH_take (i := 6) (v := ?_) rfl (by kernel_rfl) (by kernel_rfl) (by kernel_rfl) (fun _ _ _ h => h) (Or.inl ⟨by rfl, ?_⟩) (by assumption) ?_; rotate_left; (intro w hSw; (try dsimp only at hSw); go_simp; try with_reducible rfl); ((try simp only [List.getElem_toArray]); (try simp only [List.getElem_cons_succ]); (try simp only [List.getElem_cons_zero]); (try simp only [Act.put]); (try simp only [List.setIfInBounds_toArray]); (try simp only [List.set_cons_succ]); (try simp only [List.set_cons_zero])))
              (refine wpAnyH_take (i := 7) (v := ?_) rfl (by kernel_rfl) (by kernel_rfl) (by kernel_rfl) (fun _ _ _ h => h) (Or.inl ⟨by rfl, ?_⟩) (by assumption) ?_; rotate_left; (intro w hSw; (try dsimp only at hSw); go_simp; try with_reducible rfl); ((try simp only [List.getElem_toArray]); (try simp only [List.getElem_cons_succ]); (try simp only [List.getElem_cons_zero]); (try simp only [Act.put]); (try simp only [List.setIfInBounds_toArray]); (try simp only [List.set_cons_succ]); (try simp only [List.set_cons_zero])))
              (refine wpAnyH_take (i := 8) (v := ?_) rfl (by kernel_rfl) (by kernel_rfl) (by kernel_rfl) (fun _ _ _ h => h) (Or.inl ⟨by rfl, ?_⟩) (by assumption) ?_; rotate_left; (intro w hSw; (try dsimp only at hSw); go_simp; try with_reducible rfl); ((try simp only [List.getElem_toArray]); (try simp only [List.getElem_cons_succ]); (try simp only [List.getElem_cons_zero]); (try simp only [Act.put]); (try simp only [List.setIfInBounds_toArray]); (try simp only [List.set_cons_succ]); (try simp only [List.set_cons_zero])))
              (refine wpAnyH_take (i := 9) (v := ?_) rfl (by kernel_rfl) (by kernel_rfl) (by kernel_rfl) (fun _ _ _ h => h) (Or.inl ⟨by rfl, ?_⟩) (by assumption) ?_; rotate_left; (intro w hSw; (try dsimp only at hSw); go_simp; try with_reducible rfl); ((try simp only [List.getElem_toArray]); (try simp only [List.getElem_cons_succ]); (try simp only [List.getElem_cons_zero]); (try simp only [Act.put]); (try simp only [List.setIfInBounds_toArray]); (try simp only [List.set_cons_succ]); (try simp only [List.set_cons_zero])))
              (refine wpAnyH_take (i := 10) (v := ?_) rfl (by kernel_rfl) (by kernel_rfl) (by kernel_rfl) (fun _ _ _ h => h) (Or.inl ⟨by rfl, ?_⟩) (by assumption) ?_; rotate_left; (intro w hSw; (try dsimp only at hSw); go_simp; try with_reducible rfl); ((try simp only [List.getElem_toArray]); (try simp only [List.getElem_cons_succ]); (try simp only [List.getElem_cons_zero]); (try simp only [Act.put]); (try simp only [List.setIfInBounds_toArray]); (try simp only [List.set_cons_succ]); (try simp only [List.set_cons_zero])))
              (refine wpAnyH_take (i := 11) (v := ?_) rfl (by kernel_rfl) (by kernel_rfl) (by kernel_rfl) (fun _ _ _ h => h) (Or.inl ⟨by rfl, ?_⟩) (by assumption) ?_; rotate_left; (intro w hSw; (try dsimp only at hSw); go_simp; try with_reducible rfl); ((try simp only [List.getElem_toArray]); (try simp only [List.getElem_cons_succ]); (try simp only [List.getElem_cons_zero]); (try simp only [Act.put]); (try simp only [List.setIfInBounds_toArray]); (try simp only [List.set_cons_succ]); (try simp only [List.set_cons_zero])))
              (refine wpAnyH_take (i := 12) (v := ?_) rfl (by kernel_rfl) (by kernel_rfl) (by kernel_rfl) (fun _ _ _ h => h) (Or.inl ⟨by rfl, ?_⟩) (by assumption) ?_; rotate_left; (intro w hSw; (try dsimp only at hSw); go_simp; try with_reducible rfl); ((try simp only [List.getElem_toArray]); (try simp only [List.getElem_cons_succ]); (try simp only [List.getElem_cons_zero]); (try simp only [Act.put]); (try simp only [List.setIfInBounds_toArray]); (try simp only [List.set_cons_succ]); (try simp only [List.set_cons_zero])))
              (refine wpAnyH_take (i := 13) (v := ?_) rfl (by kernel_rfl) (by kernel_rfl) (by kernel_rfl) (fun _ _ _ h => h) (Or.inl ⟨by rfl, ?_⟩) (by assumption) ?_; rotate_left; (intro w hSw; (try dsimp only at hSw); go_simp; try with_reducible rfl); ((try simp only [List.getElem_toArray]); (try simp only [List.getElem_cons_succ]); (try simp only [List.getElem_cons_zero]); (try simp only [Act.put]); (try simp only [List.setIfInBounds_toArray]); (try simp only [List.set_cons_succ]); (try simp only [List.set_cons_zero])))
              (refine wpAnyH_take (i := 14) (v := ?_) rfl (by kernel_rfl) (by kernel_rfl) (by kernel_rfl) (fun _ _ _ h => h) (Or.inl ⟨by rfl, ?_⟩) (by assumption) ?_; rotate_left; (intro w hSw; (try dsimp only at hSw); go_simp; try with_reducible rfl); ((try simp only [List.getElem_toArray]); (try simp only [List.getElem_cons_succ]); (try simp only [List.getElem_cons_zero]); (try simp only [Act.put]); (try simp only [List.setIfInBounds_toArray]); (try simp only [List.set_cons_succ]); (try simp only [List.set_cons_zero])))
              (refine wpAnyH_take (i := 15) (v := undef) rfl (by kernel_rfl) (by kernel_rfl) (by kernel_rfl) (fun _ _ _ h => h) (Or.inr ⟨by rfl, rfl⟩) (by assumption) ?_; ((try simp only [List.getElem_toArray]); (try simp only [List.getElem_cons_succ]); (try simp only [List.getElem_cons_zero]); (try simp only [Act.put]); (try simp only [List.setIfInBounds_toArray]); (try simp only [List.set_cons_succ]); (try simp only [List.set_cons_zero])))
              (refine wpAnyH_take (i := 16) (v := undef) rfl (by kernel_rfl) (by kernel_rfl) (by kernel_rfl) (fun _ _ _ h => h) (Or.inr ⟨by rfl, rfl⟩) (by assumption) ?_; ((try simp only [List.getElem_toArray]); (try simp only [List.getElem_cons_succ]); (try simp only [List.getElem_cons_zero]); (try simp only [Act.put]); (try simp only [List.setIfInBounds_toArray]); (try simp only [List.set_cons_succ]); (try simp only [List.set_cons_zero])))
              (refine wpAnyH_take (i := 17) (v := undef) rfl (by kernel_rfl) (by kernel_rfl) (by kernel_rfl) (fun _ _ _ h => h) (Or.inr ⟨by rfl, rfl⟩) (by assumption) ?_; ((try simp only [List.getElem_toArray]); (try simp only [List.getElem_cons_succ]); (try simp only [List.getElem_cons_zero]); (try simp only [Act.put]); (try simp only [List.setIfInBounds_toArray]); (try simp only [List.set_cons_succ]); (try simp only [List.set_cons_zero])))
              (refine wpAnyH_take (i := 18) (v := undef) rfl (by kernel_rfl) (by kernel_rfl) (by kernel_rfl) (fun _ _ _ h => h) (Or.inr ⟨by rfl, rfl⟩) (by assumption) ?_; ((try simp only [List.getElem_toArray]); (try simp only [List.getElem_cons_succ]); (try simp only [List.getElem_cons_zero]); (try simp only [Act.put]); (try simp only [List.setIfInBounds_toArray]); (try simp only [List.set_cons_succ]); (try simp only [List.set_cons_zero])))
              (refine wpAnyH_take (i := 19) (v := undef) rfl (by kernel_rfl) (by kernel_rfl) (by kernel_rfl) (fun _ _ _ h => h) (Or.inr ⟨by rfl, rfl⟩) (by assumption) ?_; ((try simp only [List.getElem_toArray]); (try simp only [List.getElem_cons_succ]); (try simp only [List.getElem_cons_zero]); (try simp only [Act.put]); (try simp only [List.setIfInBounds_toArray]); (try simp only [List.set_cons_succ]); (try simp only [List.set_cons_zero])))
              (refine wpAnyH_take (i := 20) (v := undef) rfl (by kernel_rfl) (by kernel_rfl) (by kernel_rfl) (fun _ _ _ h => h) (Or.inr ⟨by rfl, rfl⟩) (by assumption) ?_; ((try simp only [List.getElem_toArray]); (try simp only [List.getElem_cons_succ]); (try simp only [List.getElem_cons_zero]); (try simp only [Act.put]); (try simp only [List.setIfInBounds_toArray]); (try simp only [List.set_cons_succ]); (try simp only [List.set_cons_zero])))
              (refine wpAnyH_take (i := 21) (v := undef) rfl (by kernel_rfl) (by kernel_rfl) (by kernel_rfl) (fun _ _ _ h => h) (Or.inr ⟨by rfl, rfl⟩) (by assumption) ?_; ((try simp only [List.getElem_toArray]); (try simp only [List.getElem_cons_succ]); (try simp only [List.getElem_cons_zero]); (try simp only [Act.put]); (try simp only [List.setIfInBounds_toArray]); (try simp only [List.set_cons_succ]); (try simp only [List.set_cons_zero])))
              (refine wpAnyH_take (i := 22) (v := undef) rfl (by kernel_rfl) (by kernel_rfl) (by kernel_rfl) (fun _ _ _ h => h) (Or.inr ⟨by rfl, rfl⟩) (by assumption) ?_; ((try simp only [List.getElem_toArray]); (try simp only [List.getElem_cons_succ]); (try simp only [List.getElem_cons_zero]); (try simp only [Act.put]); (try simp only [List.setIfInBounds_toArray]); (try simp only [List.set_cons_succ]); (try simp only [List.set_cons_zero])))
              (refine wpAnyH_take (i := 23) (v := undef) rfl (by kernel_rfl) (by kernel_rfl) (by kernel_rfl) (fun _ _ _ h => h) (Or.inr ⟨by rfl, rfl⟩) (by assumption) ?_; ((try simp only [List.getElem_toArray]); (try simp only [List.getElem_cons_succ]); (try simp only [List.getElem_cons_zero]); (try simp only [Act.put]); (try simp only [List.setIfInBounds_toArray]); (try simp only [List.set_cons_succ]); (try simp only [List.set_cons_zero])))
              (refine wpAnyH_take (i := 24) (v := undef) rfl (by kernel_rfl) (by kernel_rfl) (by kernel_rfl) (fun _ _ _ h => h) (Or.inr ⟨by rfl, rfl⟩) (by assumption) ?_; ((try simp only [List.getElem_toArray]); (try simp only [List.getElem_cons_succ]); (try simp only [List.getElem_cons_zero]); (try simp only [Act.put]); (try simp only [List.setIfInBounds_toArray]); (try simp only [List.set_cons_succ]); (try simp only [List.set_cons_zero])))
              (refine wpAnyH_take (i := 25) (v := ?_) rfl (by kernel_rfl) (by kernel_rfl) (by kernel_rfl) (fun _ _ _ h => h) (Or.inl ⟨by rfl, ?_⟩) (by assumption) ?_; rotate_left; (intro w hSw; (try dsimp only at hSw); go_simp; try with_reducible rfl); ((try simp only [List.getElem_toArray]); (try simp only [List.getElem_cons_succ]); (try simp only [List.getElem_cons_zero]); (try simp only [Act.put]); (try simp only [List.setIfInBounds_toArray]); (try simp only [List.set_cons_succ]); (try simp only [List.set_cons_zero])))
              (refine wpAnyH_take (i := 26) (v := ?_) rfl (by kernel_rfl) (by kernel_rfl) (by kernel_rfl) (fun _ _ _ h => h) (Or.inl ⟨by rfl, ?_⟩) (by assumption) ?_; rotate_left; (intro w hSw; (try dsimp only at hSw); go_simp; try with_reducible rfl); ((try simp only [List.getElem_toArray]); (try simp only [List.getElem_cons_succ]); (try simp only [List.getElem_cons_zero]); (try simp only [Act.put]); (try simp only [List.setIfInBounds_toArray]); (try simp only [List.set_cons_succ]); (try simp only [List.set_cons_zero])))
              refine wpAnyH_done (by kernel_rfl) ?_ _
              go_wp2_with fail
              go_roundw
              case rel => exact ⟨1, j + 1, by omega, by go_num, rfl⟩
              case measure => simp [intOf] <;> omega
            · have hkl : k < T.con.length := by omega
              have hkI : ((k + 1 : Nat) : Int) - 1 = (k : Int) := by omega
              have hkn : (k : Int) < (n3 : Int) := by omega
              have hpos : (0 : Int) < ((k + 1 : Nat) : Int) := by omega
              obtain ⟨b', off', e', c1⟩ := HCS.out k hkl
              cases e'
              have c1' : (w3.drewN j).cell? ⟨b, off + k, none⟩ = some (.string T.con[k].1) := c1
              have hri : Op.bytesLess T.con[k].1.toList T.con[k + 1].1.toList = true := rises_at HT3.out.ris k hil
              generalize T.con[k + 1] = x at *
              generalize T.con[k] = y at *
              go_wp2_with fail
              refine HG1.out.mono ?_
              rintro e w4 ⟨rfl, rfl⟩
              go_wp2_with fail
              refine HG2.out.mono ?_
              rintro e w4 ⟨rfl, rfl⟩
              go_wp2_with fail
              have hkb : (k : Int) ≤ 40 := by omega
              have hp0 : (0 : Int) < (k : Int) + 1 := by omega
              have hd0 : decide ((0 : Int) < (k : Int) + 1) = true := decide_eq_true hp0
              have hwk : IntKind.i64.wrap (k : Int) = (k : Int) := by rw [IntKind.wrap_i64]; omega
              have hk00 : (0 : Int) ≤ (k : Int) := by omega
              have hk01 : (0 : Int) ≤ (k : Int) + 1 := by omega
              have hk1n : (k : Int) + 1 < (n3 : Int) := by omega
              have hk1t : ((k : Int) + 1).toNat = k + 1 := by omega
              have hd1 : decide ((0 : Int) < ((k + 1 : Nat) : Int)) = true := decide_eq_true hpos
              refine wp_region_held_drew (S := fun X => X.cell? ⟨b, off + k, none⟩ = some (.string y.1) ∧ X.cell? ⟨b, off + (k + 1), none⟩ = some (.string x.1)) (by kernel_rfl) (by exact ⟨c1', c0'⟩) (fun _ => ?_)
              (refine wpAnyH_take (i := 0) (v := ?_) rfl (by kernel_rfl) (by kernel_rfl) (by kernel_rfl) (fun _ _ _ h => h) (Or.inl ⟨by rfl, ?_⟩) (by assumption) ?_; rotate_left; (intro w hSw; (try dsimp only at hSw); go_simp; (try simp only [hwk]); (try simp only [hk00, hkn, and_self, if_true]); (try simp only [hk01, hk1n, and_self, if_true]); (try simp only [Int.toNat_natCast]); (try simp only [hk1t]); try with_reducible rfl); ((try simp only [List.getElem_toArray]); (try simp only [List.getElem_cons_succ]); (try simp only [List.getElem_cons_zero]); (try simp only [Act.put]); (try simp only [List.setIfInBounds_toArray]); (try simp only [List.set_cons_succ]); (try simp only [List.set_cons_zero])))
              (refine wpAnyH_take (i := 1) (v := ?_) rfl (by kernel_rfl) (by kernel_rfl) (by kernel_rfl) (fun _ _ _ h => h) (Or.inl ⟨by rfl, ?_⟩) (by assumption) ?_; rotate_left; (intro w hSw; (try dsimp only at hSw); go_simp; (try simp only [hwk]); (try simp only [hk00, hkn, and_self, if_true]); (try simp only [hk01, hk1n, and_self, if_true]); (try simp only [Int.toNat_natCast]); (try simp only [hk1t]); try with_reducible rfl); ((try simp only [List.getElem_toArray]); (try simp only [List.getElem_cons_succ]); (try simp only [List.getElem_cons_zero]); (try simp only [Act.put]); (try simp only [List.setIfInBounds_toArray]); (try simp only [List.set_cons_succ]); (try simp only [List.set_cons_zero])))
              (refine wpAnyH_take (i := 2) (v := ?_) rfl (by kernel_rfl) (by kernel_rfl) (by kernel_rfl) (fun _ _ _ h => h) (Or.inl ⟨by rfl, ?_⟩) (by assumption) ?_; rotate_left; (intro w hSw; (try dsimp only at hSw); go_simp; (try simp only [hwk]); (try simp only [hk00, hkn, and_self, if_true]); (try simp only [hk01, hk1n, and_self, if_true]); (try simp only [Int.toNat_natCast]); (try simp only [hk1t]); try with_reducible rfl); ((try simp only [List.getElem_toArray]); (try simp only [List.getElem_cons_succ]); (try simp only [List.getElem_cons_zero]); (try simp only [Act.put]); (try simp only [List.setIfInBounds_toArray]); (try simp only [List.set_cons_succ]); (try simp only [List.set_cons_zero])))
              (refine wpAnyH_take (i := 3) (v := ?_) rfl (by kernel_rfl) (by kernel_rfl) (by kernel_rfl) (fun _ _ _ h => h) (Or.inl ⟨by rfl, ?_⟩) (by assumption) ?_; rotate_left; (intro w hSw; (try dsimp only at hSw); go_simp; (try simp only [hwk]); (try simp only [hk00, hkn, and_self, if_true]); (try simp only [hk01, hk1n, and_self, if_true]); (try simp only [Int.toNat_natCast]); (try simp only [hk1t]); try with_reducible rfl); ((try simp only [List.getElem_toArray]); (try simp only [List.getElem_cons_succ]); (try simp only [List.getElem_cons_zero]); (try simp only [Act.put]); (try simp only [List.setIfInBounds_toArray]); (try simp only [List.set_cons_succ]); (try simp only [List.set_cons_zero])))
              (refine wpAnyH_take (i := 4) (v := ?_) rfl (by kernel_rfl) (by kernel_rfl) (by kernel_rfl) (fun _ _ _ h => h) (Or.inl ⟨by rfl, ?_⟩) (by assumption) ?_; rotate_left; (intro w hSw; (try dsimp only at hSw); go_simp; (try simp only [hwk]); (try simp only [hk00, hkn, and_self, if_true]); (try simp only [hk01, hk1n, and_self, if_true]); (try simp only [Int.toNat_natCast]); (try simp only [hk1t]); try with_reducible rfl); ((try simp only [List.getElem_toArray]); (try simp only [List.getElem_cons_succ]); (try simp only [List.getElem_cons_zero]); (try simp only [Act.put]); (try simp only [List.setIfInBounds_toArray]); (try simp only [List.set_cons_succ]); (try simp only [List.set_cons_zero])))
              (refine wpAnyH_take (i := 5) (v := ?_) rfl (by kernel_rfl) (by kernel_rfl) (by kernel_rfl) (fun _ _ _ h => h) (Or.inl ⟨by rfl, ?_⟩) (by assumption) ?_; rotate_left; (intro w hSw; (try dsimp only at hSw); go_simp; (try simp only [hwk]); (try simp only [hk00, hkn, and_self, if_true]); (try simp only [hk01, hk1n, and_self, if_true]); (try simp only [Int.toNat_natCast]); (try simp only [hk1t]); try with_reducible rfl); ((try simp only [List.getElem_toArray]); (try simp only [List.getElem_cons_succ]); (try simp only [List.getElem_cons_zero]); (try simp only [Act.put]); (try simp only [List.setIfInBounds_toArray]); (try simp only [List.set_cons_succ]); (try simp only [List.set_cons_zero])))
              (refine wpAnyH_take (i := 6) (v := ?_) rfl (by kernel_rfl) (by kernel_rfl) (by kernel_rfl) (fun _ _ _ h => h) (Or.inl ⟨by rfl, ?_⟩) (by assumption) ?_; rotate_left; (intro w hSw; (try dsimp only at hSw); go_simp; (try simp only [hwk]); (try simp only [hk00, hkn, and_self, if_true]); (try simp only [hk01, hk1n, and_self, if_true]); (try simp only [Int.toNat_natCast]); (try simp only [hk1t]); try with_reducible rfl); ((try simp only [List.getElem_toArray]); (try simp only [List.getElem_cons_succ]); (try simp only [List.getElem_cons_zero]); (try simp only [Act.put]); (try simp only [List.setIfInBounds_toArray]); (try simp only [List.set_cons_succ]); (try simp only [List.set_cons_zero])))
              (refine wpAnyH_take (i := 7) (v := ?_) rfl (by kernel_rfl) (by kernel_rfl) (by kernel_rfl) (fun _ _ _ h => h) (Or.inl ⟨by rfl, ?_⟩) (by assumption) ?_; rotate_left; (intro w hSw; (try dsimp only at hSw); go_simp; (try simp only [hwk]); (try simp only [hk00, hkn, and_self, if_true]); (try simp only [hk01, hk1n, and_self, if_true]); (try simp only [Int.toNat_natCast]); (try simp only [hk1t]); try with_reducible rfl); ((try simp only [List.getElem_toArray]); (try simp only [List.getElem_cons_succ]); (try simp only [List.getElem_cons_zero]); (try simp only [Act.put]); (try simp only [List.setIfInBounds_toArray]); (try simp only [List.set_cons_succ]); (try simp only [List.set_cons_zero])))
              (refine wpAnyH_take (i := 8) (v := ?_) rfl (by kernel_rfl) (by kernel_rfl) (by kernel_rfl) (fun _ _ _ h => h) (Or.inl ⟨by rfl, ?_⟩) (by assumption) ?_; rotate_left; (intro w hSw; (try dsimp only at hSw); go_simp; (try simp only [hwk]); (try simp only [hk00, hkn, and_self, if_true]); (try simp only [hk01, hk1n, and_self, if_true]); (try simp only [Int.toNat_natCast]); (try simp only [hk1t]); try with_reducible rfl); ((try simp only [List.getElem_toArray]); (try simp only [List.getElem_cons_succ]); (try simp only [List.getElem_cons_zero]); (try simp only [Act.put]); (try simp only [List.setIfInBounds_toArray]); (try simp only [List.set_cons_succ]); (try simp only [List.set_cons_zero])))
              (refine wpAnyH_take (i := 9) (v := ?_) rfl (by kernel_rfl) (by kernel_rfl) (by kernel_rfl) (fun _ _ _ h => h) (Or.inl ⟨by rfl, ?_⟩) (by assumption) ?_; rotate_left; (intro w hSw; (try dsimp only at hSw); go_simp; (try simp only [hwk]); (try simp only [hk00, hkn, and_self, if_true]); (try simp only [hk01, hk1n, and_self, if_true]); (try simp only [Int.toNat_natCast]); (try simp only [hk1t]); try with_reducible rfl); ((try simp only [List.getElem_toArray]); (try simp only [List.getElem_cons_succ]); (try simp only [List.getElem_cons_zero]); (try simp only [Act.put]); (try simp only [List.setIfInBounds_toArray]); (try simp only [List.set_cons_succ]); (try simp only [List.set_cons_zero])))
              (refine wpAnyH_take (i := 10) (v := ?_) rfl (by kernel_rfl) (by kernel_rfl) (by kernel_rfl) (fun _ _ _ h => h) (Or.inl ⟨by rfl, ?_⟩) (by assumption) ?_; rotate_left; (intro w hSw; (try dsimp only at hSw); go_simp; (try simp only [hwk]); (try simp only [hk00, hkn, and_self, if_true]); (try simp only [hk01, hk1n, and_self, if_true]); (try simp only [Int.toNat_natCast]); (try simp only [hk1t]); try with_reducible rfl); ((try simp only [List.getElem_toArray]); (try simp only [List.getElem_cons_succ]); (try simp only [List.getElem_cons_zero]); (try simp only [Act.put]); (try simp only [List.setIfInBounds_toArray]); (try simp only [List.set_cons_succ]); (try simp only [List.set_cons_zero])))
              (refine wpAnyH_take (i := 11) (v := ?_) rfl (by kernel_rfl) (by kernel_rfl) (by kernel_rfl) (fun _ _ _ h => h) (Or.inl ⟨by rfl, ?_⟩) (by assumption) ?_; rotate_left; (intro w hSw; (try dsimp only at hSw); go_simp; (try simp only [hwk]); (try simp only [hk00, hkn, and_self, if_true]); (try simp only [hk01, hk1n, and_self, if_true]); (try simp only [Int.toNat_natCast]); (try simp only [hk1t]); try with_reducible rfl); ((try simp only [List.getElem_toArray]); (try simp only [List.getElem_cons_succ]); (try simp only [List.getElem_cons_zero]); (try simp only [Act.put]); (try simp only [List.setIfInBounds_toArray]); (try simp only [List.set_cons_succ]); (try simp only [List.set_cons_zero])))
              (refine wpAnyH_take (i := 12) (v := ?_) rfl (by kernel_rfl) (by kernel_rfl) (by kernel_rfl) (fun _ _ _ h => h) (Or.inl ⟨by rfl, ?_⟩) (by assumption) ?_; rotate_left; (intro w hSw; (try dsimp only at hSw); go_simp; (try simp only [hwk]); (try simp only [hk00, hkn, and_self, if_true]); (try simp only [hk01, hk1n, and_self, if_true]); (try simp only [Int.toNat_natCast]); (try simp only [hk1t]); try with_reducible rfl); ((try simp only [List.getElem_toArray]); (try simp only [List.getElem_cons_succ]); (try simp only [List.getElem_cons_zero]); (try simp only [Act.put]); (try simp only [List.setIfInBounds_toArray]); (try simp only [List.set_cons_succ]); (try simp only [List.set_cons_zero])))
              (refine wpAnyH_take (i := 13) (v := ?_) rfl (by kernel_rfl) (by kernel_rfl) (by kernel_rfl) (fun _ _ _ h => h) (Or.inl ⟨by rfl, ?_⟩) (by assumption) ?_; rotate_left; (intro w hSw; (try dsimp only at hSw); go_simp; (try simp only [hwk]); (try simp only [hk00, hkn, and_self, if_true]); (try simp only [hk01, hk1n, and_self, if_true]); (try simp only [Int.toNat_natCast]); (try simp only [hk1t]); try with_reducible rfl); ((try simp only [List.getElem_toArray]); (try simp only [List.getElem_cons_succ]); (try simp only [List.getElem_cons_zero]); (try simp only [Act.put]); (try simp only [List.setIfInBounds_toArray]); (try simp only [List.set_cons_succ]); (try simp only [List.set_cons_zero])))
              (refine wpAnyH_take (i := 14) (v := ?_) rfl (by kernel_rfl) (by kernel_rfl) (by kernel_rfl) (fun _ _ _ h => h) (Or.inl ⟨by rfl, ?_⟩) (by assumption) ?_; rotate_left; (intro w hSw; (try dsimp only at hSw); go_simp; (try simp only [hwk]); (try simp only [hk00, hkn, and_self, if_true]); (try simp only [hk01, hk1n, and_self, if_true]); (try simp only [Int.toNat_natCast]); (try simp only [hk1t]); try with_reducible rfl); ((try simp only [List.getElem_toArray]); (try simp only [List.getElem_cons_succ]); (try simp only [List.getElem_cons_zero]); (try simp only [Act.put]); (try simp only [List.setIfInBounds_toArray]); (try simp only [List.set_cons_succ]); (try simp only [List.set_cons_zero])))
              (refine wpAnyH_take (i := 15) (v := ?_) rfl (by kernel_rfl) (by kernel_rfl) (by kernel_rfl) (fun _ _ _ h => h) (Or.inl ⟨by rfl, ?_⟩) (by assumption) ?_; rotate_left; (intro w hSw; (try dsimp only at hSw); go_simp; (try simp only [hwk]); (try simp only [hk00, hkn, and_self, if_true]); (try simp only [hk01, hk1n, and_self, if_true]); (try simp only [Int.toNat_natCast]); (try simp only [hk1t]); try with_reducible rfl); ((try simp only [List.getElem_toArray]); (try simp only [List.getElem_cons_succ]); (try simp only [List.getElem_cons_zero]); (try simp only [Act.put]); (try simp only [List.setIfInBounds_toArray]); (try simp only [List.set_cons_succ]); (try simp only [List.set_cons_zero])))
              (refine wpAnyH_take (i := 16) (v := ?_) rfl (by kernel_rfl) (by kernel_rfl) (by kernel_rfl) (fun _ _ _ h => h) (Or.inl ⟨by rfl, ?_⟩) (by assumption) ?_; rotate_left; (intro w hSw; (try dsimp only at hSw); go_simp; (try simp only [hwk]); (try simp only [hk00, hkn, and_self, if_true]); (try simp only [hk01, hk1n, and_self, if_true]); (try simp only [Int.toNat_natCast]); (try simp only [hk1t]); try with_reducible rfl); ((try simp only [List.getElem_toArray]); (try simp only [List.getElem_cons_succ]); (try simp only [List.getElem_cons_zero]); (try simp only [Act.put]); (try simp only [List.setIfInBounds_toArray]); (try simp only [List.set_cons_succ]); (try simp only [List.set_cons_zero])))
              (refine wpAnyH_take (i := 17) (v := ?_) rfl (by kernel_rfl) (by kernel_rfl) (by kernel_rfl) (fun _ _ _ h => h) (Or.inl ⟨by rfl, ?_⟩) (by assumption) ?_; rotate_left; (intro w hSw; (try dsimp only at hSw); go_simp; (try simp only [hwk]); (try simp only [hk00, hkn, and_self, if_true]); (try simp only [hk01, hk1n, and_self, if_true]); (try simp only [Int.toNat_natCast]); (try simp only [hk1t]); try with_reducible rfl); ((try simp only [List.getElem_toArray]); (try simp only [List.getElem_cons_succ]); (try simp only [List.getElem_cons_zero]); (try simp only [Act.put]); (try simp only [List.setIfInBounds_toArray]); (try simp only [List.set_cons_succ]); (try simp only [List.set_cons_zero])))
              (refine wpAnyH_take (i := 18) (v := ?_) rfl (by kernel_rfl) (by kernel_rfl) (by kernel_rfl) (fun _ _ _ h => h) (Or.inl ⟨by rfl, ?_⟩) (by assumption) ?_; rotate_left; (intro w hSw; (try dsimp only at hSw); go_simp; (try simp only [hwk]); (try simp only [hk00, hkn, and_self, if_true]); (try simp only [hk01, hk1n, and_self, if_true]); (try simp only [Int.toNat_natCast]); (try simp only [hk1t]); try with_reducible rfl); ((try simp only [List.getElem_toArray]); (try simp only [List.getElem_cons_succ]); (try simp only [List.getElem_cons_zero]); (try simp only [Act.put]); (try simp only [List.setIfInBounds_toArray]); (try simp only [List.set_cons_succ]); (try simp only [List.set_cons_zero])))
              (refine wpAnyH_take (i := 19) (v := ?_) rfl (by kernel_rfl) (by kernel_rfl) (by kernel_rfl) (fun _ _ _ h => h) (Or.inl ⟨by rfl, ?_⟩) (by assumption) ?_; rotate_left; (intro w hSw; (try dsimp only at hSw); go_simp; (try simp only [hwk]); (try simp only [hk00, hkn, and_self, if_true]); (try simp only [hk01, hk1n, and_self, if_true]); (try simp only [Int.toNat_natCast]); (try simp only [hk1t]); try with_reducible rfl); ((try simp only [List.getElem_toArray]); (try simp only [List.getElem_cons_succ]); (try simp only [List.getElem_cons_zero]); (try simp only [Act.put]); (try simp only [List.setIfInBounds_toArray]); (try simp only [List.set_cons_succ]); (try simp only [List.set_cons_zero])))
              (refine wpAnyH_take (i := 20) (v := ?_) rfl (by kernel_rfl) (by kernel_rfl) (by kernel_rfl) (fun _ _ _ h => h) (Or.inl ⟨by rfl, ?_⟩) (by assumption) ?_; rotate_left; (intro w hSw; (try dsimp only at hSw); go_simp; (try simp only [hwk]); (try simp only [hk00, hkn, and_self, if_true]); (try simp only [hk01, hk1n, and_self, if_true]); (try simp only [Int.toNat_natCast]); (try simp only [hk1t]); try with_reducible rfl); ((try simp only [List.getElem_toArray]); (try simp only [List.getElem_cons_succ]); (try simp only [List.getElem_cons_zero]); (try simp only [Act.put]); (try simp only [List.setIfInBounds_toArray]); (try simp only [List.set_cons_succ]); (try simp only [List.set_cons_zero])))
              (refine wpAnyH_take (i := 21) (v := ?_) rfl (by kernel_rfl) (by kernel_rfl) (by kernel_rfl) (fun _ _ _ h => h) (Or.inl ⟨by rfl, ?_⟩) (by assumption) ?_; rotate_left; (intro w hSw; (try dsimp only at hSw); go_simp; (try simp only [hwk]); (try simp only [hk00, hkn, and_self, if_true]); (try simp only [hk01, hk1n, and_self, if_true]); (try simp only [Int.toNat_natCast]); (try simp only [hk1t]); try with_reducible rfl); ((try simp only [List.getElem_toArray]); (try simp only [List.getElem_cons_succ]); (try simp only [List.getElem_cons_zero]); (try simp only [Act.put]); (try simp only [List.setIfInBounds_toArray]); (try simp only [List.set_cons_succ]); (try simp only [List.set_cons_zero])))
              (refine wpAnyH_take (i := 22) (v := ?_) rfl (by kernel_rfl) (by kernel_rfl) (by kernel_rfl) (fun _ _ _ h => h) (Or.inl ⟨by rfl, ?_⟩) (by assumption) ?_; rotate_left; (intro w hSw; (try dsimp only at hSw); go_simp; (try simp only [hwk]); (try simp only [hk00, hkn, and_self, if_true]); (try simp only [hk01, hk1n, and_self, if_true]); (try simp only [Int.toNat_natCast]); (try simp only [hk1t]); try with_reducible rfl); ((try simp only [List.getElem_toArray]); (try simp only [List.getElem_cons_succ]); (try simp only [List.getElem_cons_zero]); (try simp only [Act.put]); (try simp only [List.setIfInBounds_toArray]); (try simp only [List.set_cons_succ]); (try simp only [List.set_cons_zero])))
              (refine wpAnyH_take (i := 23) (v := ?_) rfl (by kernel_rfl) (by kernel_rfl) (by kernel_rfl) (fun _ _ _ h => h) (Or.inl ⟨by rfl, ?_⟩) (by assumption) ?_; rotate_left; (intro w hSw; (try dsimp only at hSw); go_simp; (try simp only [hwk]); (try simp only [hk00, hkn, and_self, if_true]); (try simp only [hk01, hk1n, and_self, if_true]); (try simp only [Int.toNat_natCast]); (try simp only [hk1t]); try with_reducible rfl); ((try simp only [List.getElem_toArray]); (try simp only [List.getElem_cons_succ]); (try simp only [List.getElem_cons_zero]); (try simp only [Act.put]); (try simp only [List.setIfInBounds_toArray]); (try simp only [List.set_cons_succ]); (try simp only [List.set_cons_zero])))
              (refine wpAnyH_take (i := 24) (v := ?_) rfl (by kernel_rfl) (by kernel_rfl) (by kernel_rfl) (fun _ _ _ h => h) (Or.inl ⟨by rfl, ?_⟩) (by assumption) ?_; rotate_left; (intro w hSw; (try dsimp only at hSw); go_simp; (try simp only [hwk]); (try simp only [hk00, hkn, and_self, if_true]); (try simp only [hk01, hk1n, and_self, if_true]); (try simp only [Int.toNat_natCast]); (try simp only [hk1t]); try with_reducible rfl); ((try simp only [List.getElem_toArray]); (try simp only [List.getElem_cons_succ]); (try simp only [List.getElem_cons_zero]); (try simp only [Act.put]); (try simp only [List.setIfInBounds_toArray]); (try simp only [List.set_cons_succ]); (try simp only [List.set_cons_zero])))
              (refine wpAnyH_take (i := 25) (v := ?_) rfl (by kernel_rfl) (by kernel_rfl) (by kernel_rfl) (fun _ _ _ h => h) (Or.inl ⟨by rfl, ?_⟩) (by assumption) ?_; rotate_left; (intro w hSw; (try dsimp only at hSw); go_simp; (try simp only [hwk]); (try simp only [hk00, hkn, and_self, if_true]); (try simp only [hk01, hk1n, and_self, if_true]); (try simp only [Int.toNat_natCast]); (try simp only [hk1t]); try with_reducible rfl); ((try simp only [List.getElem_toArray]); (try simp only [List.getElem_cons_succ]); (try simp only [List.getElem_cons_zero]); (try simp only [Act.put]); (try simp only [List.setIfInBounds_toArray]); (try simp only [List.set_cons_succ]); (try simp only [List.set_cons_zero])))
              (refine wpAnyH_take (i := 26) (v := ?_) rfl (by kernel_rfl) (by kernel_rfl) (by kernel_rfl) (fun _ _ _ h => h) (Or.inl ⟨by rfl, ?_⟩) (by assumption) ?_; rotate_left; (intro w hSw; (try dsimp only at hSw); go_simp; (try simp only [hwk]); (try simp only [hk00, hkn, and_self, if_true]); (try simp only [hk01, hk1n, and_self, if_true]); (try simp only [Int.toNat_natCast]); (try simp only [hk1t]); try with_reducible rfl); ((try simp only [List.getElem_toArray]); (try simp only [List.getElem_cons_succ]); (try simp only [List.getElem_cons_zero]); (try simp only [Act.put]); (try simp only [List.setIfInBounds_toArray]); (try simp only [List.set_cons_succ]); (try simp only [List.set_cons_zero])))
              refine wpAnyH_done (by kernel_rfl) ?_ _
              go_wp2_with fail
              go_roundw
              case rel => exact ⟨k + 1 + 1, j + 1, by omega, by go_num, rfl⟩
              case measure => simp [intOf] <;> omega
          · have hi3I : ¬ (i : Int) < (n3 : Int) := by omega
            have HKY2 := Lib.hid (keys_any (w3.drewN j) tb S HSj.out.tr HSj.out.top (by rw [← con_len, HC.out]; omega) ⟨#[]⟩ 50)
            rw [keysF_con HSj.out.ris, HC.out, keysL_all (by decide) (by omega)] at HKY2
            go_wp2_with fail
            refine HKY2.out.mono ?_
            rintro e w4 ⟨v4, rfl, ho4, b4⟩
            obtain ⟨A4, n4, c4, rfl, hn4, -, -, hcs4, -⟩ := ownS_row ho4
            rw [List.length_map, HN3.out] at hn4
            subst hn4
            have HSM := Lib.hid (same_any (T.con.map (fun x : ByteArray × Int => x.1)) w4 A3 A4 n3 c3 c4 (by rw [List.length_map]; exact HN3.out) (HRS.out.hp fun p u h => (b4.cell (World.block_lt_of_cell? (w3.drewN j) p (show (w3.drewN j).cell? p = some u from h))).trans h) (show RdS w4 A4 (T.con.map (fun x : ByteArray × Int => x.1)) from hcs4) (by omega))
            have HT4 := Lib.hid (HTj.out.below b4)
            have HS4 := Lib.hid (HSj.out.below b4)
            have HI4 : Hid (Below w.heap.size w w4) := (Below.drewN HI3.out j).trans (b4.mono (Below.drewN HI3.out j).size)
            clear ho4 b4 hcs4 HKY2 HTj HSj
            go_wp2_with fail
            refine HSM.out.mono ?_
            rintro e w5 ⟨rfl, k5, rfl⟩
            have hb5 : Below w4.heap.size w4 (w4.drewN k5) := Below.drewN (Below.refl _ w4) k5
            have HNa := Lib.hid (len_any (HT4.out.below hb5))
            have HNb := Lib.hid (len_any (HS4.out.below hb5))
            rw [HC.out, HN3.out] at HNb
            rw [HN3.out] at HNa
            have HI5 : Hid (Below w.heap.size w (w4.drewN k5)) := Below.drewN HI4.out k5
            clear hb5 HSM HT4 HS4
            generalize w4.drewN k5 = w5 at *
            go_wp2_with fail
            refine HNa.out.mono ?_
            rintro e w6 ⟨rfl, rfl⟩
            go_wp2_with fail
            refine HNb.out.mono ?_
            rintro e w6 ⟨rfl, rfl⟩
            go_wp2_with fail
            refine HNa.out.mono ?_
            rintro e w6 ⟨rfl, rfl⟩
            go_wp2_with fail
            refine (lives_any w6).mono ?_
            rintro e w7 ⟨rfl, b7⟩
            have HI7 := Lib.hid (HI5.out.trans (b7.mono HI5.out.size))
            clear b7
            go_wp2_with fail
            go_ret
            exact ⟨rfl, HI7.out⟩
end Go.Proofs.Ytoooainecoappaa.treeRows
