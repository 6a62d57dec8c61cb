/-
  Rows put together: slices.Concat.
-/
import Derived.Test.YtiefogofiajmnaaDoorCol
import Derived.Lib.AppendZerosOnto
import Derived.Laws.AppendOwnNone
namespace Go.Proofs.YtiefogofiajmnaaDoor
open Go.RowKit Dg
set_option maxRecDepth 100000
theorem zerosC (w : World) (n G : Nat) (hG : n ≤ G) (hm : G ≤ maxLen) :
    OwnC w.heap.size (w.drew.alloc (.cells (([] : List Value).toArray ++ Builtin.zeroCells (Value.agg #[.string ⟨#[]⟩, .int .i64 0, .bool false]).cells n ++ Builtin.zeroCells (Value.agg #[.string ⟨#[]⟩, .int .i64 0, .bool false]).cells (G - n)) 38)) (.slice (some ⟨w.heap.size, 0, none⟩) 0 G) [] :=
  World.ownsRow_made (base := w.heap.size) w.drew _ G (Nat.le_refl _) hm (by simp [size_zeroCells, Value.cells]; omega)
set_option maxHeartbeats 1000000 in
theorem growC_any (n : Nat) (w : World) (h2 : n ≤ 1000) :
    Calls Tryd.prog 93 #[.slice none 0 0, .int .i64 n] w fun e w' => ∃ v, e = .returned v ∧ Hid (OwnC w.heap.size w' v []) ∧ Hid (Below w.heap.size w w') := by
  by_cases h1 : n = 0
  · subst h1
    go_enter Tryd.func93, Tryd.ntmps93
    go_wp2_with fail
    go_ret
    exact ⟨_, rfl, World.ownsRow_nil _ _ _ _, Below.refl _ _⟩
  · obtain ⟨i0, hi, hz0, hz1, hz2⟩ := info_parts infoC
    have h0 : 1 ≤ n := by omega
    have hr := fun ty => Lib.run_append_grow_zeros (P := Tryd.prog) w 26 3 ty 38 i0 (.agg #[.string ⟨#[]⟩, .int .i64 0, .bool false]) .i64 .i64 Tryd.underlying26 Tryd.underlying3 hi hz0 none 0 0 [] (run_firstCells_none w.drew i0.size 0 0 0) n (by omega) (by rw [hz1]; omega) (by omega) (by omega) (by rw [hz2]; omega) (by rw [hz2]; exact growslice_fits (by omega) (by omega))
    simp only [Nat.zero_add] at hr
    have hG := grownCap_ge w n 0 38
    have hM := grownCap_le_maxLen w n 0 38 (by unfold maxLen; omega)
    have HO := Lib.hid (zerosC w n _ hG hM)
    have HB := Lib.hid (((Below.refl w.heap.size w).drew).alloc (Nat.le_refl _) (.cells (([] : List Value).toArray ++ Builtin.zeroCells (Value.agg #[.string ⟨#[]⟩, .int .i64 0, .bool false]).cells n ++ Builtin.zeroCells (Value.agg #[.string ⟨#[]⟩, .int .i64 0, .bool false]).cells (grownCap w n 0 38 - n)) 38))
    have HR := Lib.hid hr
    unfold maxLen at hM
    clear hr h1
    generalize grownCap w n 0 38 = G at *
    obtain ⟨W, hW⟩ : ∃ W, W = w.drew.alloc (.cells (([] : List Value).toArray ++ Builtin.zeroCells (Value.agg #[.string ⟨#[]⟩, .int .i64 0, .bool false]).cells n ++ Builtin.zeroCells (Value.agg #[.string ⟨#[]⟩, .int .i64 0, .bool false]).cells (G - n)) 38) := ⟨_, rfl⟩
    rw [← hW] at HR HO HB
    clear hW
    go_enter Tryd.func93, Tryd.ntmps93
    go_wp2_with (at_builtin; refine Lib.wpList_append_run _ rfl _ _ _ _ rfl _ _ rfl rfl _ _ (HR.out _) ?_)
    go_ret
    exact ⟨_, rfl, HO, HB⟩
/-- A row of slices of bytes, as it is handed to a function that takes any number of them. -/
def PartsC (w : World) (g : Nat) (L : List (Option Addr × List Cl × Nat)) : Prop := ∀ i (h : i < L.length), w.cell? ⟨g, i, none⟩ = some (.slice L[i].1 L[i].2.1.length L[i].2.2) ∧ CRow w L[i].1 L[i].2.1 ∧ (L[i].1 = none → L[i].2.2 = 0)
def catC (L : List (Option Addr × List Cl × Nat)) (k : Nat) : List Cl := (L.take k).flatMap (fun x => x.2.1)
theorem catC_zero (L : List (Option Addr × List Cl × Nat)) : catC L 0 = [] := rfl
theorem catC_succ (L : List (Option Addr × List Cl × Nat)) (k : Nat) (h : k < L.length) : catC L (k + 1) = catC L k ++ L[k].2.1 := by
  unfold catC
  rw [List.take_succ_eq_append_getElem h, List.flatMap_append]
  simp
theorem catC_le (L : List (Option Addr × List Cl × Nat)) (k : Nat) : (catC L k).length ≤ (catC L L.length).length := by
  have h : catC L L.length = catC L k ++ (L.drop k).flatMap (fun x => x.2.1) := by
    unfold catC
    rw [← List.flatMap_append, List.take_append_drop, List.take_length]
  rw [h, List.length_append]
  omega
theorem catC_len_succ (L : List (Option Addr × List Cl × Nat)) (k : Nat) (h : k < L.length) : (catC L (k + 1)).length = (catC L k).length + L[k].2.1.length := by
  rw [catC_succ L k h, List.length_append]
set_option maxHeartbeats 2000000 in
set_option maxRecDepth 100000 in
theorem concatC_any (g : Nat) (L : List (Option Addr × List Cl × Nat)) (n c : Nat) (w : World) (hL : L.length = n) (hn : n ≤ 1000) (hP : PartsC w g L) (hb : (catC L n).length ≤ 1000) :
    Calls Tryd.prog 83 #[.slice (some ⟨g, 0, none⟩) n c] w fun e w' => ∃ v, e = .returned v ∧ Hid (OwnC w.heap.size w' v (catC L n)) ∧ Hid (Below w.heap.size w w') := by
  have HL := Lib.hid hL
  have HP := Lib.hid hP
  clear hL hP
  go_enter Tryd.func83, Tryd.ntmps83
  go_wp2_with fail
  go_loop [3, 11] (fun v i => ∃ k : Nat, k ≤ n ∧ i = .int .i64 k ∧ v = .int .i64 (catC L k).length) (fun _ i => n - (intOf i).toNat)
  case atStart => exact ⟨0, by omega, rfl, rfl⟩
  case round =>
    obtain ⟨k, hk, rfl, rfl⟩ := hrel
    by_cases hlt : k < n
    · have hkl : k < L.length := by rw [HL.out]; exact hlt
      obtain ⟨hc, _, _⟩ := HP.out k hkl
      have h1 := catC_len_succ L k hkl
      have h2 := catC_le L (k + 1)
      rw [HL.out] at h2
      have H1 := Lib.hid h1
      have hs : (catC L k).length + L[k].2.1.length ≤ 1000 := by omega
      clear h1 h2
      generalize L[k].2.1.length = m at *
      generalize L[k].1 = B at *
      generalize L[k].2.2 = d at *
      generalize (catC L k).length = T at *
      go_wp2_with fail
      go_round
      case rel => exact ⟨k + 1, by omega, by go_num, by rw [H1.out]; go_num⟩
      case measure => simp [intOf]; omega
    · obtain rfl : k = n := by omega
      go_wp2_with fail
      refine (growC_any _ _ hb).mono ?_
      rintro e w1 ⟨v, rfl, HO, HB⟩
      go_wp2_with fail
      go_loopw [6, 27] (fun v i wr => ∃ j : Nat, j ≤ k ∧ i = .int .i64 j ∧ Hid (OwnC w.heap.size wr v (catC L j)) ∧ Hid (Below w.heap.size w wr)) (fun _ i _ => k - (intOf i).toNat)
      case atStart => exact ⟨0, by omega, rfl, HO, HB⟩
      case round =>
        obtain ⟨j, hj, rfl, HO2, HB2⟩ := hrel
        clear HO HB
        by_cases hlt2 : j < k
        · have hjl : j < L.length := by rw [HL.out]; exact hlt2
          obtain ⟨hc0, hr0, hn0⟩ := HP.out j hjl
          have hc : wr.cell? ⟨g, j, none⟩ = some (.slice L[j].1 L[j].2.1.length L[j].2.2) := (HB2.out.cell (World.block_lt_of_cell? w _ hc0)).trans hc0
          have h1 := catC_len_succ L j hjl
          have h2 := catC_le L (j + 1)
          rw [HL.out] at h2
          have HA := Lib.hid (appCs wr w.heap.size _ (catC L j) HO2.out HB2.out.size L[j].1 L[j].2.1 L[j].2.1.length L[j].2.2 rfl (hr0.below HB2.out) hn0 (by omega))
          rw [← catC_succ L j hjl] at HA
          clear hc0 hr0 hn0 h1 h2
          generalize L[j].2.1.length = m at *
          generalize L[j].1 = B at *
          generalize L[j].2.2 = d at *
          go_wp2_with (at_builtin; refine wpList_app rfl _ _ 26 26 rfl u6 (.slice B m d) rfl rfl ?_; obtain ⟨R, W', hrun, hmade⟩ := HA.out; refine ⟨R, W', hrun, ?_⟩; have HM := Lib.hid hmade; clear hrun hmade HA)
          go_roundw
          case rel => exact ⟨j + 1, by omega, by go_num, HM.out.1, HB2.out.trans (HM.out.2.mono (Nat.le_refl _))⟩
          case measure => simp [intOf]; omega
        · obtain rfl : j = k := by omega
          go_wp2_with fail
          go_ret
          exact ⟨_, rfl, HO2.out, HB2.out⟩
theorem ownC_down {B B' : Nat} {w : World} {v : Value} {l : List Cl} (h : OwnC B w v l) (hb : B' ≤ B) : OwnC B' w v l := by
  obtain ⟨h1, h2⟩ := h
  refine ⟨h1, ?_⟩
  rcases h2 with h2 | ⟨g, cap, cur, e, hg, r⟩
  · exact .inl h2
  · exact .inr ⟨g, cap, cur, e, Nat.le_trans hb hg, r⟩
theorem OwnC.far {B : Nat} {w : World} {v : Value} {L : List Cl} (h : OwnC B w v L) {p : Addr} (hp : p.block < B) (u : Value) : OwnC B (w.setCell p u) v L := by
  rcases h.2 with ⟨hv, hn⟩ | ⟨g, cap, cur, hv, hg, hh, hc, hcm, hsz, ht⟩
  · exact ⟨h.1, .inl ⟨hv, hn⟩⟩
  · exact ⟨h.1, .inr ⟨g, cap, cur, hv, hg, Has.far (t := 38) (cs := cur) hh (by omega) u, hc, hcm, hsz, ht⟩⟩
end Go.Proofs.YtiefogofiajmnaaDoor
