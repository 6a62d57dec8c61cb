/-
  EventMany: the walk.
-/
import Derived.Test.YtiefogofiajmnaaDoorManyM
import Derived.Test.YtiefogofiajmnaaDoorLives6
namespace Go.Proofs.YtiefogofiajmnaaDoor.eventMany
open Go.RowKit Dg
set_option maxRecDepth 100000
/-- How the memory stands while tables are made. -/
structure MSt (w wr : World) (v : Value) (T : List Tb) (k : Nat) : Prop where
  own : OwnTs (w.heap.size + 2) wr v T
  td : tds T = mnD (min k 64)
  bel : Below w.heap.size w wr
  col : Has wr w.heap.size 38 #[.string ⟨#[105, 100]⟩, .int .i64 2, .bool false]
  box : Has wr (w.heap.size + 1) 28 #[.slice (some ⟨w.heap.size, 0, none⟩) 1 1, .int .i64 1]
theorem MSt.below {w wr w' : World} {v : Value} {T : List Tb} {k : Nat} (h : MSt w wr v T k) (hb : Below wr.heap.size wr w') : MSt w w' v T k :=
  ⟨⟨h.own.own.below hb, fun x hx => (h.own.col x hx).below hb⟩, h.td, h.bel.trans (hb.mono h.bel.size), h.col.below hb h.col.lt, h.box.below hb h.box.lt⟩
theorem idL_row {w : World} {g : Nat} (h : Has w g 38 #[.string ⟨#[105, 100]⟩, .int .i64 2, .bool false]) : CRow w (some ⟨g, 0, none⟩) idL := fun _ => ⟨g, 0, rfl, fun i hi => by
  obtain rfl : i = 0 := by simp [idL] at hi; omega
  exact ⟨h.cell 0, h.cell 1, h.cell 2⟩⟩
theorem tnm_eq (k : Nat) : (⟨#[116]⟩ : ByteArray) ++ bs [48 + k / 10, 48 + k % 10] = tnm k := by
  apply ByteArray.ext
  simp [bs, tnm, ByteArray.data_append]
theorem mn_len {T : List Tb} {k : Nat} (hT : tds T = mnD k) : ∀ x ∈ T, 0 < x.L.length ∧ x.L.length ≤ 800 := fun x hx => by
  have hm : x.td ∈ mnD k := by rw [← hT]; exact List.mem_map_of_mem hx
  obtain ⟨j, hj, he⟩ := List.getElem_of_mem hm
  rw [mnD_get] at he
  rw [show x.L = idL from (congrArg Td.L he).symm]
  simp [idL]
theorem MSt.more {w wr w' : World} {v v' : Value} {T T' : List Tb} {k : Nat} (h : MSt w wr v T k) (hb : Below wr.heap.size wr w') (ho : OwnTs (w.heap.size + 2) w' v' T') (ht : tds T' = mnD (min (k + 1) 64)) : MSt w w' v' T' (k + 1) :=
  ⟨ho, ht, h.bel.trans (hb.mono h.bel.size), h.col.below hb h.col.lt, h.box.below hb h.box.lt⟩
set_option maxHeartbeats 2000000 in
theorem walk (n : Int) (w : World) (hn0 : -9223372036854775808 ≤ n) (hn1 : n ≤ 9223372036854775807) :
    Calls Tryd.prog 7 #[.int .i64 n] w fun e w' => e = .returned (.bool true) ∧ Below w.heap.size w w' := by
  by_cases hneg : n < 0
  · obtain ⟨m, hm, hm0, hm1⟩ : ∃ m : Nat, -(n + 1) = (m : Int) ∧ True ∧ True := ⟨(-(n + 1)).toNat, by omega, trivial, trivial⟩
    go_enter Tryd.func7, Tryd.ntmps7
    go_wp2_with fail
    obtain ⟨N, hN, hN0, hN1⟩ : ∃ N : Nat, (60 + (m : Int) % 11) = (N : Int) ∧ 60 ≤ N ∧ N ≤ 70 := ⟨60 + m % 11, by omega, by omega, by omega⟩
    rw [hN]
    clear hN
    obtain ⟨w1, hw1⟩ : ∃ w1, ((w.alloc (.cells #[.string ⟨#[105, 100]⟩, .int .i64 2, .bool false] 38)).alloc (.cells #[.slice (some ⟨w.heap.size, 0, none⟩) 1 1, .int .i64 1] 28)) = w1 := ⟨_, rfl⟩
    have hst : MSt w w1 (.slice none 0 0) [] 0 := by
      rw [← hw1]
      have h := Has.new (w.alloc (.cells #[.string ⟨#[105, 100]⟩, .int .i64 2, .bool false] 38)) 28 #[.slice (some ⟨w.heap.size, 0, none⟩) 1 1, .int .i64 1]
      rw [show (w.alloc (.cells #[.string ⟨#[105, 100]⟩, .int .i64 2, .bool false] 38)).heap.size = w.heap.size + 1 by simp] at h
      exact ⟨ownTs_nil _ _, rfl, ((Below.refl w.heap.size w).alloc (Nat.le_refl _) _).alloc (by simp) _, (Has.new w 38 _).alloc _, h⟩
    have HST := Lib.hid hst
    rw [hw1]
    clear hw1 hst
    go_loopw [4, 5] (fun v i wr => ∃ (k : Nat) (T : List Tb), k ≤ N ∧ i = .int .i64 k ∧ Hid (MSt w wr v T k)) (fun _ i _ => N - (intOf i).toNat)
    case atStart => exact ⟨0, [], by omega, rfl, HST⟩
    case round =>
      obtain ⟨k, T, hk, rfl, HS⟩ := hrel
      clear HST
      obtain ⟨A7, n7, c7, rfl, HN7, hnc7, hcm7, HV7, HZ7⟩ := ownT_open HS.out.own.own
      have h7 : Hid (n7 = min k 64) := by show _ = _; have h1 := HN7.out; have h2 := congrArg List.length HS.out.td; rw [tds_len, mnD_len] at h2; omega
      have hsz := HS.out.box.lt
      by_cases hlt : k < N
      · have hkz : (k : Int) < (N : Int) := by omega
        go_wp2_with fail
        have hc1 : (48 + (k : Int) / 10) = ((48 + k / 10 : Nat) : Int) := by omega
        have hc2 : (48 + (k : Int) % 10) = ((48 + k % 10 : Nat) : Int) := by omega
        rw [hc1, hc2]
        clear hc1 hc2
        have hal : Below wr.heap.size wr (wr.alloc (.cells #[.int .u8 ((48 + k / 10 : Nat) : Int), .int .u8 ((48 + k % 10 : Nat) : Int)] 5)) := (Below.refl _ wr).alloc (Nat.le_refl _) _
        have HR : Rd (wr.alloc (.cells #[.int .u8 ((48 + k / 10 : Nat) : Int), .int .u8 ((48 + k % 10 : Nat) : Int)] 5)) (some ⟨wr.heap.size, 0, none⟩) [48 + k / 10, 48 + k % 10] := fun _ => ⟨wr.heap.size, 0, rfl, fun i hi => by
          have hh := Has.new wr 5 #[.int .u8 ((48 + k / 10 : Nat) : Int), .int .u8 ((48 + k % 10 : Nat) : Int)]
          have : i = 0 ∨ i = 1 := by simp at hi; omega
          rcases this with rfl | rfl
          · exact hh.cell 0
          · exact hh.cell 1⟩
        rw [conv_len (wr.alloc (.cells #[.int .u8 ((48 + k / 10 : Nat) : Int), .int .u8 ((48 + k % 10 : Nat) : Int)] 5)) (some ⟨wr.heap.size, 0, none⟩) [48 + k / 10, 48 + k % 10] 2 2 rfl HR]
        have HS2 := Lib.hid (HS.out.below hal)
        obtain ⟨W2, hW2⟩ : ∃ W2, (wr.alloc (.cells #[.int .u8 ((48 + k / 10 : Nat) : Int), .int .u8 ((48 + k % 10 : Nat) : Int)] 5)) = W2 := ⟨_, rfl⟩
        rw [hW2] at HS2 ⊢
        have hal2 : Below wr.heap.size wr W2 := by rw [← hW2]; exact hal
        have HAL := Lib.hid hal2
        clear hW2 HR hal hal2 HV7
        have b0 : W2.cell? ⟨w.heap.size + 1, 0, none⟩ = some (.slice (some ⟨w.heap.size, 0, none⟩) 1 1) := HS2.out.box.cell 0
        have b1 : W2.cell? ⟨w.heap.size + 1, 1, none⟩ = some (.int .i64 1) := HS2.out.box.cell 1
        obtain ⟨A7', c7', hv, _, _, HV2, _⟩ := ownT_row HS2.out.own.own
        injection hv with hv1 hv2 hv3
        subst hv1
        clear hv2 hv3
        have HFO := Lib.hid (pfollow_any A7 T n7 c7 1 (tnm k) (some ⟨w.heap.size, 0, none⟩) 1 1 idL 1 ⟨#[]⟩ 0 false W2 HN7.out hnc7 hcm7 (by have := h7.out; omega) HV2 HZ7.out (HS2.out.own.oks (fun x hx => by have := (mn_len HS2.out.td x hx).2; omega)) ((sort_d T).2 (by rw [HS2.out.td]; exact mnD_sort _ (by omega))) (mn_len HS2.out.td) rfl (by omega) (by unfold maxLen; omega) (idL_row HS2.out.col) (fun e => by cases e) (by simp [tnm, ByteArray.size]) (by simp [ByteArray.size]) (fun y hy => by simp [idL] at hy; subst hy; exact ⟨by simp [ByteArray.size], by simp, by simp⟩))
        have hE := many_E HS2.out.td (show min k 64 ≤ k by omega) (by omega)
        go_wp2_with fail
        rw [tnm_eq]
        refine HFO.out.mono ?_
        rintro e w3 ⟨v3, T3, rfl, ho3, ht3, hb3⟩
        rw [foE_c]
        clear HV2 HFO
        obtain ⟨A8, n8, c8, rfl, _, _, _, _, _⟩ := ownT_open ho3.out.own
        by_cases h64 : k < 64
        · have hm : min k 64 = k := by omega
          rw [hm, if_neg (by omega)] at hE
          rw [hE]
          have HM := Lib.hid (HS2.out.more hb3.out (ho3.out.down HS2.out.box.lt) (by rw [ht3.out, many_D (by rw [HS2.out.td, hm]) h64]; congr 1; omega))
          have hkz4 : (k : Int) < 64 := by omega
          clear hE ho3 ht3 hb3
          go_wp2_with fail
          go_roundw
          case rel => exact ⟨k + 1, T3, by omega, by go_num, HM⟩
          case measure => simp [intOf]; omega
        · have hm : min k 64 = 64 := by omega
          rw [hm, if_pos (by omega)] at hE
          rw [hE]
          have HM := Lib.hid (HS2.out.more hb3.out ((HS2.out.below hb3.out).own) (by rw [HS2.out.td]; congr 1; omega))
          have hkz4 : ¬ (k : Int) < 64 := by omega
          clear hE ho3 ht3 hb3
          go_wp2_with fail
          go_roundw
          case rel => exact ⟨k + 1, T, by omega, by go_num, HM⟩
          case measure => simp [intOf]; omega
      · obtain rfl : k = N := by omega
        have hmin : ∀ ts t W, Sem.run Tryd.prog (Builtin.min_ ts t #[.int .i64 k, .int .i64 64]) W = .ok (.int .i64 (n7 : Nat)) W := fun ts t W => by
          have h7' := h7.out
          rw [run_min_int2]
          congr 2
          split <;> omega
        have HPR := Lib.hid (pright_any A7 T n7 c7 wr HN7.out (by have := h7.out; omega) HV7.out ((HS.out.own.oks (fun x hx => by have := (mn_len HS.out.td x hx).2; omega)).tin) (fun x hx => by
          have hm : x.td ∈ mnD (min k 64) := by rw [← HS.out.td]; exact List.mem_map_of_mem hx
          obtain ⟨j, hj, he⟩ := List.getElem_of_mem hm
          rw [mnD_get] at he
          rw [show x.nm = tnm j from (congrArg Td.nm he).symm, show x.L = idL from (congrArg Td.L he).symm]
          exact ⟨by simp [tnm, ByteArray.size], fun y hy => by simp [idL] at hy; subst hy; exact ⟨by simp [ByteArray.size], by simp, by simp⟩⟩))
        rw [many_right HS.out.td (by omega)] at HPR
        have HBz := Lib.hid HS.out.bel
        clear HS HV7
        go_wp2_with fail
        refine HPR.out.mono ?_
        rintro e we ⟨rfl, hbe⟩
        have HBe := Lib.hid (HBz.out.trans (hbe.out.mono HBz.out.size))
        clear hbe HPR
        go_wp2_with fail
        refine (lives6_any _).mono ?_
        rintro e wf ⟨rfl, hbf⟩
        have HBf := Lib.hid (HBe.out.trans (hbf.out.mono HBe.out.size))
        clear hbf
        go_wp2_with fail
        go_ret
        exact ⟨rfl, HBf.out⟩
  · obtain ⟨m, hm⟩ : ∃ m : Nat, n = (m : Int) := ⟨n.toNat, by omega⟩
    subst hm
    go_enter Tryd.func7, Tryd.ntmps7
    go_wp2_with fail
    obtain ⟨N, hN, hN0, hN1⟩ : ∃ N : Nat, (60 + (m : Int) % 11) = (N : Int) ∧ 60 ≤ N ∧ N ≤ 70 := ⟨60 + m % 11, by omega, by omega, by omega⟩
    rw [hN]
    clear hN
    obtain ⟨w1, hw1⟩ : ∃ w1, ((w.alloc (.cells #[.string ⟨#[105, 100]⟩, .int .i64 2, .bool false] 38)).alloc (.cells #[.slice (some ⟨w.heap.size, 0, none⟩) 1 1, .int .i64 1] 28)) = w1 := ⟨_, rfl⟩
    have hst : MSt w w1 (.slice none 0 0) [] 0 := by
      rw [← hw1]
      have h := Has.new (w.alloc (.cells #[.string ⟨#[105, 100]⟩, .int .i64 2, .bool false] 38)) 28 #[.slice (some ⟨w.heap.size, 0, none⟩) 1 1, .int .i64 1]
      rw [show (w.alloc (.cells #[.string ⟨#[105, 100]⟩, .int .i64 2, .bool false] 38)).heap.size = w.heap.size + 1 by simp] at h
      exact ⟨ownTs_nil _ _, rfl, ((Below.refl w.heap.size w).alloc (Nat.le_refl _) _).alloc (by simp) _, (Has.new w 38 _).alloc _, h⟩
    have HST := Lib.hid hst
    rw [hw1]
    clear hw1 hst
    go_loopw [4, 5] (fun v i wr => ∃ (k : Nat) (T : List Tb), k ≤ N ∧ i = .int .i64 k ∧ Hid (MSt w wr v T k)) (fun _ i _ => N - (intOf i).toNat)
    case atStart => exact ⟨0, [], by omega, rfl, HST⟩
    case round =>
      obtain ⟨k, T, hk, rfl, HS⟩ := hrel
      clear HST
      obtain ⟨A7, n7, c7, rfl, HN7, hnc7, hcm7, HV7, HZ7⟩ := ownT_open HS.out.own.own
      have h7 : Hid (n7 = min k 64) := by show _ = _; have h1 := HN7.out; have h2 := congrArg List.length HS.out.td; rw [tds_len, mnD_len] at h2; omega
      have hsz := HS.out.box.lt
      by_cases hlt : k < N
      · have hkz : (k : Int) < (N : Int) := by omega
        go_wp2_with fail
        have hc1 : (48 + (k : Int) / 10) = ((48 + k / 10 : Nat) : Int) := by omega
        have hc2 : (48 + (k : Int) % 10) = ((48 + k % 10 : Nat) : Int) := by omega
        rw [hc1, hc2]
        clear hc1 hc2
        have hal : Below wr.heap.size wr (wr.alloc (.cells #[.int .u8 ((48 + k / 10 : Nat) : Int), .int .u8 ((48 + k % 10 : Nat) : Int)] 5)) := (Below.refl _ wr).alloc (Nat.le_refl _) _
        have HR : Rd (wr.alloc (.cells #[.int .u8 ((48 + k / 10 : Nat) : Int), .int .u8 ((48 + k % 10 : Nat) : Int)] 5)) (some ⟨wr.heap.size, 0, none⟩) [48 + k / 10, 48 + k % 10] := fun _ => ⟨wr.heap.size, 0, rfl, fun i hi => by
          have hh := Has.new wr 5 #[.int .u8 ((48 + k / 10 : Nat) : Int), .int .u8 ((48 + k % 10 : Nat) : Int)]
          have : i = 0 ∨ i = 1 := by simp at hi; omega
          rcases this with rfl | rfl
          · exact hh.cell 0
          · exact hh.cell 1⟩
        rw [conv_len (wr.alloc (.cells #[.int .u8 ((48 + k / 10 : Nat) : Int), .int .u8 ((48 + k % 10 : Nat) : Int)] 5)) (some ⟨wr.heap.size, 0, none⟩) [48 + k / 10, 48 + k % 10] 2 2 rfl HR]
        have HS2 := Lib.hid (HS.out.below hal)
        obtain ⟨W2, hW2⟩ : ∃ W2, (wr.alloc (.cells #[.int .u8 ((48 + k / 10 : Nat) : Int), .int .u8 ((48 + k % 10 : Nat) : Int)] 5)) = W2 := ⟨_, rfl⟩
        rw [hW2] at HS2 ⊢
        have hal2 : Below wr.heap.size wr W2 := by rw [← hW2]; exact hal
        have HAL := Lib.hid hal2
        clear hW2 HR hal hal2 HV7
        have b0 : W2.cell? ⟨w.heap.size + 1, 0, none⟩ = some (.slice (some ⟨w.heap.size, 0, none⟩) 1 1) := HS2.out.box.cell 0
        have b1 : W2.cell? ⟨w.heap.size + 1, 1, none⟩ = some (.int .i64 1) := HS2.out.box.cell 1
        obtain ⟨A7', c7', hv, _, _, HV2, _⟩ := ownT_row HS2.out.own.own
        injection hv with hv1 hv2 hv3
        subst hv1
        clear hv2 hv3
        have HFO := Lib.hid (pfollow_any A7 T n7 c7 1 (tnm k) (some ⟨w.heap.size, 0, none⟩) 1 1 idL 1 ⟨#[]⟩ 0 false W2 HN7.out hnc7 hcm7 (by have := h7.out; omega) HV2 HZ7.out (HS2.out.own.oks (fun x hx => by have := (mn_len HS2.out.td x hx).2; omega)) ((sort_d T).2 (by rw [HS2.out.td]; exact mnD_sort _ (by omega))) (mn_len HS2.out.td) rfl (by omega) (by unfold maxLen; omega) (idL_row HS2.out.col) (fun e => by cases e) (by simp [tnm, ByteArray.size]) (by simp [ByteArray.size]) (fun y hy => by simp [idL] at hy; subst hy; exact ⟨by simp [ByteArray.size], by simp, by simp⟩))
        have hE := many_E HS2.out.td (show min k 64 ≤ k by omega) (by omega)
        go_wp2_with fail
        rw [tnm_eq]
        refine HFO.out.mono ?_
        rintro e w3 ⟨v3, T3, rfl, ho3, ht3, hb3⟩
        rw [foE_c]
        clear HV2 HFO
        obtain ⟨A8, n8, c8, rfl, _, _, _, _, _⟩ := ownT_open ho3.out.own
        by_cases h64 : k < 64
        · have hm : min k 64 = k := by omega
          rw [hm, if_neg (by omega)] at hE
          rw [hE]
          have HM := Lib.hid (HS2.out.more hb3.out (ho3.out.down HS2.out.box.lt) (by rw [ht3.out, many_D (by rw [HS2.out.td, hm]) h64]; congr 1; omega))
          have hkz4 : (k : Int) < 64 := by omega
          clear hE ho3 ht3 hb3
          go_wp2_with fail
          go_roundw
          case rel => exact ⟨k + 1, T3, by omega, by go_num, HM⟩
          case measure => simp [intOf]; omega
        · have hm : min k 64 = 64 := by omega
          rw [hm, if_pos (by omega)] at hE
          rw [hE]
          have HM := Lib.hid (HS2.out.more hb3.out ((HS2.out.below hb3.out).own) (by rw [HS2.out.td]; congr 1; omega))
          have hkz4 : ¬ (k : Int) < 64 := by omega
          clear hE ho3 ht3 hb3
          go_wp2_with fail
          go_roundw
          case rel => exact ⟨k + 1, T, by omega, by go_num, HM⟩
          case measure => simp [intOf]; omega
      · obtain rfl : k = N := by omega
        have hmin : ∀ ts t W, Sem.run Tryd.prog (Builtin.min_ ts t #[.int .i64 k, .int .i64 64]) W = .ok (.int .i64 (n7 : Nat)) W := fun ts t W => by
          have h7' := h7.out
          rw [run_min_int2]
          congr 2
          split <;> omega
        have HPR := Lib.hid (pright_any A7 T n7 c7 wr HN7.out (by have := h7.out; omega) HV7.out ((HS.out.own.oks (fun x hx => by have := (mn_len HS.out.td x hx).2; omega)).tin) (fun x hx => by
          have hm : x.td ∈ mnD (min k 64) := by rw [← HS.out.td]; exact List.mem_map_of_mem hx
          obtain ⟨j, hj, he⟩ := List.getElem_of_mem hm
          rw [mnD_get] at he
          rw [show x.nm = tnm j from (congrArg Td.nm he).symm, show x.L = idL from (congrArg Td.L he).symm]
          exact ⟨by simp [tnm, ByteArray.size], fun y hy => by simp [idL] at hy; subst hy; exact ⟨by simp [ByteArray.size], by simp, by simp⟩⟩))
        rw [many_right HS.out.td (by omega)] at HPR
        have HBz := Lib.hid HS.out.bel
        clear HS HV7
        go_wp2_with fail
        refine HPR.out.mono ?_
        rintro e we ⟨rfl, hbe⟩
        have HBe := Lib.hid (HBz.out.trans (hbe.out.mono HBz.out.size))
        clear hbe HPR
        go_wp2_with fail
        refine (lives6_any _).mono ?_
        rintro e wf ⟨rfl, hbf⟩
        have HBf := Lib.hid (HBe.out.trans (hbf.out.mono HBe.out.size))
        clear hbf
        go_wp2_with fail
        go_ret
        exact ⟨rfl, HBf.out⟩
end Go.Proofs.YtiefogofiajmnaaDoor.eventMany
