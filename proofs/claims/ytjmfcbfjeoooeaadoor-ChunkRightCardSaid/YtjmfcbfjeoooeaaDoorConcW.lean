/-
  Rows of works put together: slices.Concat.
-/
import Derived.Test.YtjmfcbfjeoooeaaDoorWk
import Derived.Lib.AppendZerosOnto
import Derived.Laws.AppendOwnNone
namespace Go.Proofs.YtjmfcbfjeoooeaaDoor
open Go.RowKit Dg
set_option maxRecDepth 100000
theorem zerosW (w : World) (n G : Nat) (hG : n ≤ G) (hm : G ≤ maxLen) :
    OwnW w.heap.size (w.drew.alloc (.cells (([] : List Value).toArray ++ Builtin.zeroCells (Value.agg #[.string ⟨#[]⟩, .bool false, .string ⟨#[]⟩]).cells n ++ Builtin.zeroCells (Value.agg #[.string ⟨#[]⟩, .bool false, .string ⟨#[]⟩]).cells (G - n)) 28)) (.slice (some ⟨w.heap.size, 0, none⟩) 0 G) [] :=
  World.ownsRow_made (base := w.heap.size) w.drew _ G (Nat.le_refl _) hm (by simp [size_zeroCells, Value.cells]; omega)
set_option maxHeartbeats 1000000 in
theorem growW_any (n : Nat) (w : World) (h2 : n ≤ 1000) :
    Calls Tryd.prog 118 #[.slice none 0 0, .int .i64 n] w fun e w' => ∃ v, e = .returned v ∧ Hid (OwnW w.heap.size w' v []) ∧ Hid (Below w.heap.size w w') := by
  by_cases h1 : n = 0
  · subst h1
    go_enter Tryd.func118, Tryd.ntmps118
    go_wp2_with fail
    go_ret
    exact ⟨_, rfl, World.ownsRow_nil _ _ _ _, Below.refl _ _⟩
  · obtain ⟨i0, hi, hz0, hz1, hz2⟩ := info_parts infoW
    have h0 : 1 ≤ n := by omega
    have hr := fun ty => Lib.run_append_grow_zeros (P := Tryd.prog) w 22 3 ty 28 i0 (.agg #[.string ⟨#[]⟩, .bool false, .string ⟨#[]⟩]) .i64 .i64 Tryd.underlying22 Tryd.underlying3 hi hz0 none 0 0 [] (run_firstCells_none w.drew i0.size 0 0 0) n (by omega) (by rw [hz1]; omega) (by omega) (by omega) (by rw [hz2]; omega) (by rw [hz2]; exact growslice_fits (by omega) (by omega))
    simp only [Nat.zero_add] at hr
    have hG := grownCap_ge w n 0 28
    have hM := grownCap_le_maxLen w n 0 28 (by unfold maxLen; omega)
    have HO := Lib.hid (zerosW w n _ hG hM)
    have HB := Lib.hid (((Below.refl w.heap.size w).drew).alloc (Nat.le_refl _) (.cells (([] : List Value).toArray ++ Builtin.zeroCells (Value.agg #[.string ⟨#[]⟩, .bool false, .string ⟨#[]⟩]).cells n ++ Builtin.zeroCells (Value.agg #[.string ⟨#[]⟩, .bool false, .string ⟨#[]⟩]).cells (grownCap w n 0 28 - n)) 28))
    have HR := Lib.hid hr
    unfold maxLen at hM
    clear hr h1
    generalize grownCap w n 0 28 = G at *
    obtain ⟨W, hW⟩ : ∃ W, W = w.drew.alloc (.cells (([] : List Value).toArray ++ Builtin.zeroCells (Value.agg #[.string ⟨#[]⟩, .bool false, .string ⟨#[]⟩]).cells n ++ Builtin.zeroCells (Value.agg #[.string ⟨#[]⟩, .bool false, .string ⟨#[]⟩]).cells (G - n)) 28) := ⟨_, rfl⟩
    rw [← hW] at HR HO HB
    clear hW
    go_enter Tryd.func118, Tryd.ntmps118
    go_wp2_with (at_builtin; refine Lib.wpList_append_run _ rfl _ _ _ _ rfl _ _ rfl rfl _ _ (HR.out _) ?_)
    go_ret
    exact ⟨_, rfl, HO, HB⟩
/-- A row of slices of bytes, as it is handed to a function that takes any number of them. -/
def PartsW (w : World) (g : Nat) (L : List (Option Addr × List Wk × Nat)) : Prop := ∀ i (h : i < L.length), w.cell? ⟨g, i, none⟩ = some (.slice L[i].1 L[i].2.1.length L[i].2.2) ∧ WRow w L[i].1 L[i].2.1 ∧ (L[i].1 = none → L[i].2.2 = 0)
def catW (L : List (Option Addr × List Wk × Nat)) (k : Nat) : List Wk := (L.take k).flatMap (fun x => x.2.1)
theorem catW_zero (L : List (Option Addr × List Wk × Nat)) : catW L 0 = [] := rfl
theorem catW_succ (L : List (Option Addr × List Wk × Nat)) (k : Nat) (h : k < L.length) : catW L (k + 1) = catW L k ++ L[k].2.1 := by
  unfold catW
  rw [List.take_succ_eq_append_getElem h, List.flatMap_append]
  simp
theorem catW_le (L : List (Option Addr × List Wk × Nat)) (k : Nat) : (catW L k).length ≤ (catW L L.length).length := by
  have h : catW L L.length = catW L k ++ (L.drop k).flatMap (fun x => x.2.1) := by
    unfold catW
    rw [← List.flatMap_append, List.take_append_drop, List.take_length]
  rw [h, List.length_append]
  omega
theorem catW_len_succ (L : List (Option Addr × List Wk × Nat)) (k : Nat) (h : k < L.length) : (catW L (k + 1)).length = (catW L k).length + L[k].2.1.length := by
  rw [catW_succ L k h, List.length_append]
set_option maxHeartbeats 2000000 in
set_option maxRecDepth 100000 in
theorem concatW_any (g : Nat) (L : List (Option Addr × List Wk × Nat)) (n c : Nat) (w : World) (hL : L.length = n) (hn : n ≤ 1000) (hP : PartsW w g L) (hb : (catW L n).length ≤ 1000) :
    Calls Tryd.prog 88 #[.slice (some ⟨g, 0, none⟩) n c] w fun e w' => ∃ v, e = .returned v ∧ Hid (OwnW w.heap.size w' v (catW L n)) ∧ Hid (Below w.heap.size w w') := by
  have HL := Lib.hid hL
  have HP := Lib.hid hP
  clear hL hP
  go_enter Tryd.func88, Tryd.ntmps88
  go_wp2_with fail
  go_loop [3, 11] (fun v i => ∃ k : Nat, k ≤ n ∧ i = .int .i64 k ∧ v = .int .i64 (catW L k).length) (fun _ i => n - (intOf i).toNat)
  case atStart => exact ⟨0, by omega, rfl, rfl⟩
  case round =>
    obtain ⟨k, hk, rfl, rfl⟩ := hrel
    by_cases hlt : k < n
    · have hkl : k < L.length := by rw [HL.out]; exact hlt
      obtain ⟨hc, _, _⟩ := HP.out k hkl
      have h1 := catW_len_succ L k hkl
      have h2 := catW_le L (k + 1)
      rw [HL.out] at h2
      have H1 := Lib.hid h1
      have hs : (catW L k).length + L[k].2.1.length ≤ 1000 := by omega
      clear h1 h2
      generalize L[k].2.1.length = m at *
      generalize L[k].1 = B at *
      generalize L[k].2.2 = d at *
      generalize (catW L k).length = T at *
      go_wp2_with fail
      go_round
      case rel => exact ⟨k + 1, by omega, by go_num, by rw [H1.out]; go_num⟩
      case measure => simp [intOf]; omega
    · obtain rfl : k = n := by omega
      go_wp2_with fail
      refine (growW_any _ _ hb).mono ?_
      rintro e w1 ⟨v, rfl, HO, HB⟩
      go_wp2_with fail
      go_loopw [6, 27] (fun v i wr => ∃ j : Nat, j ≤ k ∧ i = .int .i64 j ∧ Hid (OwnW w.heap.size wr v (catW L j)) ∧ Hid (Below w.heap.size w wr)) (fun _ i _ => k - (intOf i).toNat)
      case atStart => exact ⟨0, by omega, rfl, HO, HB⟩
      case round =>
        obtain ⟨j, hj, rfl, HO2, HB2⟩ := hrel
        clear HO HB
        by_cases hlt2 : j < k
        · have hjl : j < L.length := by rw [HL.out]; exact hlt2
          obtain ⟨hc0, hr0, hn0⟩ := HP.out j hjl
          have hc : wr.cell? ⟨g, j, none⟩ = some (.slice L[j].1 L[j].2.1.length L[j].2.2) := (HB2.out.cell (World.block_lt_of_cell? w _ hc0)).trans hc0
          have h1 := catW_len_succ L j hjl
          have h2 := catW_le L (j + 1)
          rw [HL.out] at h2
          have HA := Lib.hid (appWs wr w.heap.size _ (catW L j) HO2.out HB2.out.size L[j].1 L[j].2.1 L[j].2.1.length L[j].2.2 rfl (hr0.below HB2.out) hn0 (by omega))
          rw [← catW_succ L j hjl] at HA
          clear hc0 hr0 hn0 h1 h2
          generalize L[j].2.1.length = m at *
          generalize L[j].1 = B at *
          generalize L[j].2.2 = d at *
          go_wp2_with (at_builtin; refine wpList_app rfl _ _ 22 22 rfl u6 (.slice B m d) rfl rfl ?_; obtain ⟨R, W', hrun, hmade⟩ := HA.out; refine ⟨R, W', hrun, ?_⟩; have HM := Lib.hid hmade; clear hrun hmade HA)
          go_roundw
          case rel => exact ⟨j + 1, by omega, by go_num, HM.out.1, HB2.out.trans (HM.out.2.mono (Nat.le_refl _))⟩
          case measure => simp [intOf]; omega
        · obtain rfl : j = k := by omega
          go_wp2_with fail
          go_ret
          exact ⟨_, rfl, HO2.out, HB2.out⟩
end Go.Proofs.YtjmfcbfjeoooeaaDoor
