/-
  Put together, as far as it is used: Conc.
-/
import Derived.Test.YtnpmgempkoeapaaGreatDoorPeab
import Derived.Lib.AppendZerosOnto
import Derived.Laws.AppendOwnNone
set_option linter.unusedVariables false
set_option linter.unusedSimpArgs false
set_option linter.defProp false
namespace Go.Proofs.YtnpmgempkoeapaaGreatDoor
open Go.RowKit Dg
set_option maxRecDepth 100000
theorem own_app (w : World) (B : Nat) (v : Value) (l : List Nat) (h : Own B w v l) (hB : B ≤ w.heap.size) (A : Option Addr) (m : List Nat) (k c : Nat) (hk : m.length = k) (hm : Rd w A m) (hs : l.length + k ≤ 1000000) (hA : A = none → c = 0) :
 ∃ R W', (Builtin.append_ #[37, 37] 37 #[v, .slice A k c]).run Tryz.prog w = .ok R W' ∧ Own B W' R (l ++ m) ∧ Below B w W' := by
 subst hk
 obtain ⟨i0, hi, hz0, hz1, hz2⟩ := info_parts info5
 rcases A with _ | a
 ·have hl : m = [] := by
   rcases m with _ | ⟨x, m⟩
   ·rfl
   ·obtain ⟨b, off, e, _⟩ := hm (by simp)
    cases e
  subst hl
  rw [hA rfl, List.append_nil]
  exact ⟨v, w, run_append_owned_none w B 37 37 5 i0 1 Tryz.underlying37 hi v _ _ h, h, Below.refl _ _⟩
 ·have hc : ∀ j u, (m.map bv)[j]? = some u → w.cell? (a.add j) = some u := by
   intro j u hj
   have hjl : j < m.length := by
    have := (List.getElem?_eq_some_iff.1 hj).1
    simpa using this
   obtain ⟨b, off, e, hc⟩ := hm (by rintro rfl; simp at hjl)
   injection e with e
   subst e
   rw [Addr.add_lit, hc j hjl]
   simpa [hjl] using hj
  obtain ⟨R, W', hrun, hown, hg, _⟩ := run_append_own (P := Tryz.prog) w B 37 37 5 i0 (.int .u8 0) 1 1 Tryz.underlying37 hi hz0 hz1 hz2 rfl (by decide) v l.length (l.map bv) h a m.length c (m.map bv) (by simp) hc (bv_one m) (by unfold maxLen; omega) (by omega) hB
  refine ⟨R, W', hrun, ?_, (Below.refl B w).grown hg hB fun k hk => (World.ownsRow.lt h k hk).1⟩
  unfold Own; rw [List.map_append, List.length_append]; exact hown
theorem own_zeros (w : World) (n G : Nat) (hG : n ≤ G) (hm : G ≤ maxLen) :
 Own w.heap.size (w.drew.alloc (.cells (([] : List Value).toArray ++ Builtin.zeroCells (Value.int .u8 0).cells n ++ Builtin.zeroCells (Value.int .u8 0).cells (G - n)) 5)) (.slice (some ⟨w.heap.size, 0, none⟩) 0 G) [] :=
 World.ownsRow_made (base := w.heap.size) w.drew _ G (Nat.le_refl _) hm (by simp [size_zeroCells, Value.cells]; omega)
set_option maxHeartbeats 1000000 in
theorem grow_any (n : Nat) (w : World) (h2 : n ≤ 1000000) :
 Calls Tryz.prog 92 #[.slice none 0 0, .int .i64 n] w fun e w' => ∃ v, e = .returned v ∧ Hid (Own w.heap.size w' v []) ∧ Hid (Below w.heap.size w w') := by
 by_cases h1 : n = 0
 ·subst h1
  go_enter Tryz.func92, Tryz.ntmps92
  go_wp2_with fail
  go_ret
  exact ⟨_, rfl, World.ownsRow_nil _ _ _ _, Below.refl _ _⟩
 ·obtain ⟨i0, hi, hz0, hz1, hz2⟩ := info_parts info5
  have h0 : 1 ≤ n := by omega
  have hr := fun ty => Lib.run_append_grow_zeros (P := Tryz.prog) w 37 3 ty 5 i0 (.int .u8 0) .i64 .i64 Tryz.underlying37 Tryz.underlying3 hi hz0 none 0 0 [] (run_firstCells_none w.drew i0.size 0 0 0) n (by omega) (by rw [hz1]; omega) (by omega) (by omega) (by rw [hz2]; omega) (by rw [hz2]; exact growslice_fits (by omega) (by omega))
  simp only [Nat.zero_add] at hr
  have hG := grownCap_ge w n 0 5
  have hM := grownCap_le_maxLen w n 0 5 (by unfold maxLen; omega)
  have HO := Lib.hid (own_zeros w n _ hG hM)
  have HB := Lib.hid (((Below.refl w.heap.size w).drew).alloc (Nat.le_refl _) (.cells (([] : List Value).toArray ++ Builtin.zeroCells (Value.int .u8 0).cells n ++ Builtin.zeroCells (Value.int .u8 0).cells (grownCap w n 0 5 - n)) 5))
  have HR := Lib.hid hr
  unfold maxLen at hM
  clear hr h1
  generalize grownCap w n 0 5 = G at *
  obtain ⟨W, hW⟩ : ∃ W, W = w.drew.alloc (.cells (([] : List Value).toArray ++ Builtin.zeroCells (Value.int .u8 0).cells n ++ Builtin.zeroCells (Value.int .u8 0).cells (G - n)) 5) := ⟨_, rfl⟩
  rw [← hW] at HR HO HB
  clear hW
  go_enter Tryz.func92, Tryz.ntmps92
  go_wp2_with (at_builtin; refine Lib.wpList_append_run _ rfl _ _ _ _ rfl _ _ rfl rfl _ _ (HR.out _) ?_)
  go_ret
  exact ⟨_, rfl, HO, HB⟩
def Parts (w : World) (g : Nat) (L : List (Option Addr × List Nat × Nat)) : Prop := ∀ i (h : i < L.length), w.cell? ⟨g, i, none⟩ = some (.slice L[i].1 L[i].2.1.length L[i].2.2) ∧ Rd w L[i].1 L[i].2.1 ∧ (L[i].1 = none → L[i].2.2 = 0)
def cat (L : List (Option Addr × List Nat × Nat)) (k : Nat) : List Nat := (L.take k).flatMap (fun x => x.2.1)
theorem cat_succ (L : List (Option Addr × List Nat × Nat)) (k : Nat) (h : k < L.length) : cat L (k + 1) = cat L k ++ L[k].2.1 := by
 unfold cat
 rw [List.take_succ_eq_append_getElem h, List.flatMap_append]
 simp
theorem cat_le (L : List (Option Addr × List Nat × Nat)) (k : Nat) : (cat L k).length ≤ (cat L L.length).length := by
 have h : cat L L.length = cat L k ++ (L.drop k).flatMap (fun x => x.2.1) := by
  unfold cat
  rw [← List.flatMap_append, List.take_append_drop, List.take_length]
 rw [h, List.length_append]
 omega
theorem cat_len_succ (L : List (Option Addr × List Nat × Nat)) (k : Nat) (h : k < L.length) : (cat L (k + 1)).length = (cat L k).length + L[k].2.1.length := by
 rw [cat_succ L k h, List.length_append]
set_option maxHeartbeats 2000000 in
set_option maxRecDepth 100000 in
theorem concat_any (g : Nat) (L : List (Option Addr × List Nat × Nat)) (n c : Nat) (w : World) (hL : L.length = n) (hn : n ≤ 1000) (hP : Parts w g L) (hb : (cat L n).length ≤ 1000000) :
 Calls Tryz.prog 58 #[.slice (some ⟨g, 0, none⟩) n c] w (OutO w (cat L n)) := by
 have HL := Lib.hid hL
 have HP := Lib.hid hP
 clear hL hP
 go_enter Tryz.func58, Tryz.ntmps58
 go_wp2_with fail
 go_loop [3, 11] (fun v i => ∃ k : Nat, k ≤ n ∧ i = .int .i64 k ∧ v = .int .i64 (cat L k).length) (fun _ i => n - (intOf i).toNat)
 case atStart => exact ⟨0, by omega, rfl, rfl⟩
 case round =>
  obtain ⟨k, hk, rfl, rfl⟩ := hrel
  by_cases hlt : k < n
  ·have hkl : k < L.length := by rw [HL.out]; exact hlt
   obtain ⟨hc, _, _⟩ := HP.out k hkl
   have h1 := cat_len_succ L k hkl
   have h2 := cat_le L (k + 1)
   rw [HL.out] at h2
   have H1 := Lib.hid h1
   have hs : (cat L k).length + L[k].2.1.length ≤ 1000000 := by omega
   clear h1 h2
   generalize L[k].2.1.length = m at *
   generalize L[k].1 = B at *
   generalize L[k].2.2 = d at *
   generalize (cat L k).length = T at *
   go_wp2_with fail
   go_round
   case rel => exact ⟨k + 1, by omega, by go_num, by rw [H1.out]; go_num⟩
   case measure => simp [intOf]; omega
  ·obtain rfl : k = n := by omega
   go_wp2_with fail
   refine (grow_any _ _ hb).mono ?_
   rintro e w1 ⟨v, rfl, HO, HB⟩
   go_wp2_with fail
   go_loopw [6, 27] (fun v i wr => ∃ j : Nat, j ≤ k ∧ i = .int .i64 j ∧ Hid (Own w.heap.size wr v (cat L j)) ∧ Hid (Below w.heap.size w wr)) (fun _ i _ => k - (intOf i).toNat)
   case atStart => exact ⟨0, by omega, rfl, HO, HB⟩
   case round =>
    obtain ⟨j, hj, rfl, HO2, HB2⟩ := hrel
    clear HO HB
    by_cases hlt2 : j < k
    ·have hjl : j < L.length := by rw [HL.out]; exact hlt2
     obtain ⟨hc0, hr0, hn0⟩ := HP.out j hjl
     have hc : wr.cell? ⟨g, j, none⟩ = some (.slice L[j].1 L[j].2.1.length L[j].2.2) := (HB2.out.cell (World.block_lt_of_cell? w _ hc0)).trans hc0
     have h1 := cat_len_succ L j hjl
     have h2 := cat_le L (j + 1)
     rw [HL.out] at h2
     have HA := Lib.hid (own_app wr w.heap.size _ (cat L j) HO2.out HB2.out.size L[j].1 L[j].2.1 L[j].2.1.length L[j].2.2 rfl (hr0.below HB2.out) (by omega) hn0)
     rw [← cat_succ L j hjl] at HA
     clear hc0 hr0 hn0 h1 h2
     generalize L[j].2.1.length = m at *
     generalize L[j].1 = B at *
     generalize L[j].2.2 = d at *
     go_wp2_with (at_builtin; refine wpList_app rfl _ _ 37 37 rfl u6 (.slice B m d) rfl rfl ?_; obtain ⟨R, W', hrun, hmade⟩ := HA.out; refine ⟨R, W', hrun, ?_⟩; have HM := Lib.hid hmade; clear hrun hmade HA)
     go_roundw
     case rel => exact ⟨j + 1, by omega, by go_num, HM.out.1, HB2.out.trans (HM.out.2.mono (Nat.le_refl _))⟩
     case measure => simp [intOf]; omega
    ·obtain rfl : j = k := by omega
     go_wp2_with fail
     go_ret
     exact ⟨_, rfl, HO2.out, HB2.out⟩
theorem own_down {B B' : Nat} {w : World} {v : Value} {l : List Nat} (h : Own B w v l) (hb : B' ≤ B) : Own B' w v l := by
 obtain ⟨h1, h2⟩ := h
 refine ⟨h1, ?_⟩
 rcases h2 with h2 | ⟨g, cap, cur, e, hg, r⟩
 ·exact .inl h2
 ·exact .inr ⟨g, cap, cur, e, Nat.le_trans hb hg, r⟩
end Go.Proofs.YtnpmgempkoeapaaGreatDoor
