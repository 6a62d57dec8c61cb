/-
  The document's values of a key, and its isKey.
-/
import Derived.Test.YtjkmbggaoinkdaaDoorRKm
namespace Go.Proofs.YtjkmbggaoinkdaaDoor
open Go.RowKit Dg
set_option maxRecDepth 100000
theorem snoc_lt {l : List Nat} {x : Nat} (h : ∀ z ∈ l, z < 256) (hx : x < 256) : ∀ z ∈ l ++ [x], z < 256 := fun z hz => by
  rcases List.mem_append.1 hz with hz | hz
  · exact h z hz
  · rw [List.mem_singleton.1 hz]; exact hx
theorem ownV_far {B : Nat} {w : World} {v : Value} {L : List Vl} (h : OwnV B w v L) {q : Nat} (hne : ∀ g cap n, v = .slice (some ⟨g, 0, none⟩) n cap → g ≠ q) (p : Addr) (hp : p.block = q) (u : Value) : OwnV B (w.setCell p u) v L := by
  rcases h.2 with ⟨hv, hn⟩ | ⟨g, cap, cur, hv, hg, hh, hc, hcm, hsz, ht⟩
  · exact ⟨h.1, .inl ⟨hv, hn⟩⟩
  · exact ⟨h.1, .inr ⟨g, cap, cur, hv, hg, Has.far (t := 101) (cs := cur) hh (by rw [hp]; exact hne g cap _ hv) u, hc, hcm, hsz, ht⟩⟩
/-- What stands while a value's bytes are read: the values so far, and the box of the one that is read. -/
structure VSt (w wr W : World) (u : Value) (acc : List Vl) (k n : Int) (t : ByteArray) : Prop where
  own : OwnV w.heap.size W u acc
  bel : Below w.heap.size w W
  box : Has W wr.heap.size 101 #[.int .i64 k, .int .i64 n, .string t]
  low : ∀ g cap m, u = .slice (some ⟨g, 0, none⟩) m cap → g < wr.heap.size
  big : wr.heap.size + 1 ≤ W.heap.size
  base : w.heap.size ≤ wr.heap.size
section
variable {w wr W W' : World} {u : Value} {acc : List Vl} {k n : Int} {t : ByteArray}
theorem VSt.start (ho : OwnV w.heap.size wr u acc) (hb : Below w.heap.size w wr) : VSt w wr (wr.alloc (.cells #[.int .i64 k, .int .i64 n, .string t] 101)) u acc k n t :=
  ⟨World.ownsRow.alloc ho _, hb.alloc hb.size _, Has.new wr 101 _, fun g cap m e => (World.ownsRow.lt ho g (by rw [e]; rfl)).2, by simp, hb.size⟩
theorem VSt.below (h : VSt w wr W u acc k n t) (hb : Below (wr.heap.size + 1) W W') : VSt w wr W' u acc k n t := by
  refine ⟨?_, h.bel.trans (hb.mono (by have := h.base; omega)), h.box.below hb (by omega), h.low, Nat.le_trans h.big hb.size, h.base⟩
  rcases h.own.2 with ⟨hv, hn⟩ | ⟨g, cap, cur, hv, hg, hh, hc, hcm, hsz, ht⟩
  · exact ⟨h.own.1, .inl ⟨hv, hn⟩⟩
  · exact ⟨h.own.1, .inr ⟨g, cap, cur, hv, hg, Has.below (t := 101) (cs := cur) hh hb (by have := h.low g cap _ hv; omega), hc, hcm, hsz, ht⟩⟩
theorem VSt.down (h : VSt w wr W u acc k n t) (hb : Below W.heap.size W W') : VSt w wr W' u acc k n t := h.below (hb.mono h.big)
theorem VSt.num (h : VSt w wr W u acc k n t) (n' : Int) : VSt w wr (W.setCell ⟨wr.heap.size, 1, none⟩ (.int .i64 n')) u acc k n' t :=
  ⟨ownV_far (q := wr.heap.size) h.own (fun g cap m e => by have := h.low g cap m e; omega) _ rfl _, h.bel.setCell (p := ⟨wr.heap.size, 1, none⟩) h.base _, h.box.put 1 _, h.low, by rw [size_set]; exact h.big, h.base⟩
theorem VSt.txt (h : VSt w wr W u acc k n t) (t' : ByteArray) : VSt w wr (W.setCell ⟨wr.heap.size, 2, none⟩ (.string t')) u acc k n t' :=
  ⟨ownV_far (q := wr.heap.size) h.own (fun g cap m e => by have := h.low g cap m e; omega) _ rfl _, h.bel.setCell (p := ⟨wr.heap.size, 2, none⟩) h.base _, h.box.put 2 _, h.low, by rw [size_set]; exact h.big, h.base⟩
theorem VSt.c0 (h : VSt w wr W u acc k n t) : W.cell? ⟨wr.heap.size, 0, none⟩ = some (.int .i64 k) := h.box.cell 0
theorem VSt.c1 (h : VSt w wr W u acc k n t) : W.cell? ⟨wr.heap.size, 1, none⟩ = some (.int .i64 n) := h.box.cell 1
theorem VSt.c2 (h : VSt w wr W u acc k n t) : W.cell? ⟨wr.heap.size, 2, none⟩ = some (.string t) := h.box.cell 2
end
set_option maxHeartbeats 16000000 in
theorem rvals_any (s : ByteArray) (w : World) (hs : s.size ≤ 900) :
    Calls Tryd.prog 106 #[.string s] w fun e w' => RValsR s w e w' ∧ Hid (Below w.heap.size w w') := by
  go_enter Tryd.func106, Tryd.ntmps106
  go_wp2_with fail
  go_loopw [4, 5] (fun x i wr => ∃ (k : Nat) (u : Value) (acc : List Vl), k ≤ s.size ∧ i = .int .i64 k ∧ u = x ∧ acc.length ≤ k ∧ Hid (Good1 acc) ∧ Hid (∀ x ∈ acc, x.fits) ∧ Hid (keys acc ++ (sb s).drop k = sb s) ∧ Hid (OwnV w.heap.size wr u acc) ∧ Hid (Below w.heap.size w wr)) (fun _ i _ => s.size - (intOf i).toNat)
  case atStart => exact ⟨0, _, [], by omega, rfl, rfl, by simp, (fun _ h => by cases h), (fun _ h => by cases h), rfl, ownV_nil _ _, Below.refl _ _⟩
  case round =>
    obtain ⟨k, u, acc, hk, rfl, rfl, hac, HG, HF, HK, HO, HB⟩ := hrel
    obtain ⟨wo, rfl⟩ : ∃ wo : World, wo = wr := ⟨_, rfl⟩
    by_cases hks : k < s.size
    · have hkz : (k : Int) < (s.size : Int) := by omega
      have hkw : IntKind.i64.wrap ((k : Int) + 1) = ((k + 1 : Nat) : Int) := by rw [IntKind.wrap_i64]; omega
      obtain ⟨c, hc⟩ : ∃ c, (s[k]'hks).toNat = c := ⟨_, rfl⟩
      have hc256 : c < 256 := by have := (s[k]'hks).toNat_lt; omega
      have HV0 := Lib.hid (fun (k n : Int) (t : ByteArray) => VSt.start (w := w) (wr := wo) (k := k) (n := n) (t := t) HO.out HB.out)
      have HNO := Lib.hid (rv_no hks HG.out HK.out)
      have HYES := Lib.hid (fun (v : Vl) (n : Nat) => rv_yes (v := v) (n := n) hks hs HG.out HF.out HK.out)
      rw [sb_dropc s k hks] at HNO
      rw [hc] at HNO HYES
      have hw : wrap64 (c : Int) = (c : Int) := by unfold wrap64; omega
      clear HG HF HK HO HB hk
      by_cases h1 : c = 1
      · subst h1
        have HS := Lib.hid (HV0.out 1 0 ⟨#[]⟩)
        have hw1 : wrap64 1 = 1 := by decide +kernel
        by_cases hk1 : k + 1 < s.size
        · obtain ⟨c1, hc1⟩ : ∃ c, (s[k + 1]'hk1).toNat = c := ⟨_, rfl⟩
          have hc1b : c1 < 256 := by have := (s[k + 1]'hk1).toNat_lt; omega
          have hw2 : wrap64 (c1 : Int) = (c1 : Int) := by unfold wrap64; omega
          have hk1z : (k : Int) + 1 < (s.size : Int) := by omega
          have hr : headR 1 ((sb s).drop (k + 1)) = some (⟨1, (c1 : Int), ⟨#[]⟩⟩, 1) := by rw [headR_one rfl hk1, hc1]
          have HS2 := Lib.hid (HV0.out 1 (c1 : Int) ⟨#[]⟩)
          clear HV0
          obtain ⟨m, hm⟩ : ∃ m, mayF (1) ((c1 : Int)) (⟨#[]⟩) = m := ⟨_, rfl⟩
          have HMY := Lib.hid (refMay_any (1) ((c1 : Int)) (⟨#[]⟩) ((wo.alloc (.cells #[.int .i64 1, .int .i64 (c1 : Int), .string ⟨#[]⟩] 101))) (by simp [ByteArray.size]))
          have HH := hr
          rw [hm] at HMY
          have HNB : Hid (m = false → ∀ L, Good1 L → keys L ≠ sb s) := fun e => HNO.out (headF_bad HH (hm.trans e))
          have HYB : Hid (m = true → _) := fun e => HYES.out _ _ HH (hm.trans e)
          clear hm HH HNO HYES
          have x0 := HS2.out.c0
          have x1 := HS2.out.c1
          have x2 := HS2.out.c2
          go_wp2_with fail
          refine HMY.out.mono ?_
          rintro e w6 ⟨rfl, hb6⟩
          have HS6 := Lib.hid (HS2.out.down hb6.out)
          clear x0 x1 x2 hb6 HMY HS2
          have x0 := HS6.out.c0
          have x1 := HS6.out.c1
          have x2 := HS6.out.c2
          cases m
          · have HN := Lib.hid (HNB.out rfl)
            clear HNB HYB
            go_wp2_with fail
            go_ret2
            exact ⟨.inr ⟨HN.out, rfl⟩, HS6.out.bel⟩
          · obtain ⟨g1, g2, g3, g4⟩ := HYB.out rfl
            have G1 := Lib.hid g1
            have G2 := Lib.hid g2
            have G3 := Lib.hid g3
            clear g1 g2 g3 HNB HYB
            have HA := Lib.hid (appV w6 w6.heap.size rfl w.heap.size u acc ⟨1, (c1 : Int), ⟨#[]⟩⟩ HS6.out.own HS6.out.bel.size (by omega))
            go_wp2_with (at_builtin; refine wpList_app rfl _ _ 23 23 rfl u (.slice (some ⟨w6.heap.size, 0, none⟩) 1 1) rfl rfl ?_; obtain ⟨R, W', hrun, hmade⟩ := HA.out; refine ⟨R, W', hrun, ?_⟩; have HM := Lib.hid hmade; clear hrun hmade HA)
            go_roundw
            case rel => exact ⟨k + 1 + 1, R, _, by omega, by go_num, rfl, by rw [List.length_append]; simp; omega, G1, G2, G3, HM.out.1, HS6.out.bel.trans HM.out.2⟩
            case measure => simp [intOf]; omega
        · have hk1z : ¬ ((k : Int) + 1 < (s.size : Int)) := by omega
          have HN := Lib.hid (HNO.out (headF_none (headR_one_no rfl hk1)))
          clear HNO HYES
          go_wp2_with fail
          go_ret2
          exact ⟨.inr ⟨HN.out, rfl⟩, HS.out.bel⟩
      by_cases h2 : c = 2
      · subst h2
        have HS := Lib.hid (HV0.out 2 0 ⟨#[]⟩)
        have hw1 : wrap64 2 = 2 := by decide +kernel
        by_cases h8 : k + 1 + 8 ≤ s.size
        · have hz8 : ¬ ((s.size : Int) < (k : Int) + 1 + 8) := by omega
          go_wp2_with fail
          go_loopw [7, 8] (fun a i wx => ∃ j : Nat, j ≤ 8 ∧ i = .int .i64 j ∧ a = .int .u64 (beN (((sb s).drop (k + 1)).take j) : Nat) ∧ wx = (wo.alloc (.cells #[.int .i64 2, .int .i64 0, .string ⟨#[]⟩] 101))) (fun _ i _ => 8 - (intOf i).toNat)
          case atStart => exact ⟨0, by omega, rfl, rfl, rfl⟩
          case round =>
            obtain ⟨j, hj, rfl, rfl, rfl⟩ := hrel
            by_cases hj8 : j < 8
            · have hkj : k + 1 + j < s.size := by omega
              have HBE := Lib.hid (be_drop_succ s (k + 1) j hkj)
              have hm : beN (((sb s).drop (k + 1)).take j) < 72057594037927936 := Nat.lt_of_lt_of_le (be_drop_lt s (k + 1) j) (by rw [show (72057594037927936 : Nat) = 256 ^ 7 by decide]; exact Nat.pow_le_pow_right (by omega) (by omega))
              obtain ⟨b, hb⟩ : ∃ b, (s[k + 1 + j]'hkj).toNat = b := ⟨_, rfl⟩
              have hb256 : b < 256 := by have := (s[k + 1 + j]'hkj).toNat_lt; omega
              rw [hb] at HBE
              generalize beN (((sb s).drop (k + 1)).take j) = m at *
              have hw2 : IntKind.u64.wrap (256 * (m : Int)) = 256 * (m : Int) := by rw [IntKind.wrap_u64]; omega
              have hw3 : IntKind.u64.wrap (256 * (m : Int) + (b : Int)) = ((m * 256 + b : Nat) : Int) := by rw [IntKind.wrap_u64]; omega
              have hw4 : IntKind.u64.wrap (b : Int) = (b : Int) := by rw [IntKind.wrap_u64]; omega
              have hkjz : (k : Int) + 1 + (j : Int) < (s.size : Int) := by omega
              go_wp2_with fail
              go_roundw
              case rel => exact ⟨j + 1, by omega, by go_num, by rw [HBE.out]; simp, by trivial⟩
              case measure => simp [intOf]; omega
            · obtain rfl : j = 8 := by omega
              have hN : beN (((sb s).drop (k + 1)).take 8) < 18446744073709551616 := Nat.lt_of_lt_of_le (be_drop_lt s (k + 1) 8) (be_pow8 (Nat.le_refl _))
              have hr := headR_two (s := s) (c := 2) rfl h8
              generalize beN (((sb s).drop (k + 1)).take 8) = N at *
              have hwf : wrap64 (IntKind.u64.wrap ((N : Int) - 9223372036854775808)) = (N : Int) - 9223372036854775808 := by rw [IntKind.wrap_u64]; unfold wrap64; omega
              have HS2 := Lib.hid (HV0.out 2 ((N : Int) - 9223372036854775808) ⟨#[]⟩)
              clear HV0 HS
              obtain ⟨m, hm⟩ : ∃ m, mayF (2) (((N : Int) - 9223372036854775808)) (⟨#[]⟩) = m := ⟨_, rfl⟩
              have HMY := Lib.hid (refMay_any (2) (((N : Int) - 9223372036854775808)) (⟨#[]⟩) ((wo.alloc (.cells #[.int .i64 2, .int .i64 ((N : Int) - 9223372036854775808), .string ⟨#[]⟩] 101))) (by simp [ByteArray.size]))
              have HH := hr
              rw [hm] at HMY
              have HNB : Hid (m = false → ∀ L, Good1 L → keys L ≠ sb s) := fun e => HNO.out (headF_bad HH (hm.trans e))
              have HYB : Hid (m = true → _) := fun e => HYES.out _ _ HH (hm.trans e)
              clear hm HH HNO HYES
              have x0 := HS2.out.c0
              have x1 := HS2.out.c1
              have x2 := HS2.out.c2
              go_wp2_with fail
              refine HMY.out.mono ?_
              rintro e w6 ⟨rfl, hb6⟩
              have HS6 := Lib.hid (HS2.out.down hb6.out)
              clear x0 x1 x2 hb6 HMY HS2
              have x0 := HS6.out.c0
              have x1 := HS6.out.c1
              have x2 := HS6.out.c2
              cases m
              · have HN := Lib.hid (HNB.out rfl)
                clear HNB HYB
                go_wp2_with fail
                go_ret2
                exact ⟨.inr ⟨HN.out, rfl⟩, HS6.out.bel⟩
              · obtain ⟨g1, g2, g3, g4⟩ := HYB.out rfl
                have G1 := Lib.hid g1
                have G2 := Lib.hid g2
                have G3 := Lib.hid g3
                clear g1 g2 g3 HNB HYB
                have HA := Lib.hid (appV w6 w6.heap.size rfl w.heap.size u acc ⟨2, ((N : Int) - 9223372036854775808), ⟨#[]⟩⟩ HS6.out.own HS6.out.bel.size (by omega))
                go_wp2_with (at_builtin; refine wpList_app rfl _ _ 23 23 rfl u (.slice (some ⟨w6.heap.size, 0, none⟩) 1 1) rfl rfl ?_; obtain ⟨R, W', hrun, hmade⟩ := HA.out; refine ⟨R, W', hrun, ?_⟩; have HM := Lib.hid hmade; clear hrun hmade HA)
                go_roundw
                case rel => exact ⟨k + 1 + 8, R, _, by omega, by go_num, rfl, by rw [List.length_append]; simp; omega, G1, G2, G3, HM.out.1, HS6.out.bel.trans HM.out.2⟩
                case measure => simp [intOf]; omega
        · have hz8 : (s.size : Int) < (k : Int) + 1 + 8 := by omega
          have HN := Lib.hid (HNO.out (headF_none (headR_two_no rfl h8)))
          clear HNO HYES
          go_wp2_with fail
          go_ret2
          exact ⟨.inr ⟨HN.out, rfl⟩, HS.out.bel⟩
      by_cases h3 : c = 3
      · subst h3
        have HS := Lib.hid (HV0.out 3 0 ⟨#[]⟩)
        have hw1 : wrap64 3 = 3 := by decide +kernel
        clear HV0
        have hz1 : w.heap.size ≤ wo.heap.size := HS.out.base
        obtain ⟨W1, hW1⟩ : ∃ W, W = (wo.alloc (.cells #[.int .i64 3, .int .i64 0, .string ⟨#[]⟩] 101)) := ⟨_, rfl⟩
        go_wp2_with fail
        rw [← hW1] at HS ⊢
        clear hW1
        go_loopw [5, 9] (fun i b wx => ∃ (j : Nat) (acc2 : List Nat) (u2 : Value), k + 1 ≤ j ∧ j ≤ s.size ∧ i = .int .i64 j ∧ u2 = b ∧ acc2.length ≤ j ∧ Hid (∀ x ∈ acc2, x < 256) ∧ Hid (decS false [] 0 ((sb s).drop (k + 1)) = decS false acc2 (j - (k + 1)) ((sb s).drop j)) ∧ Hid (Own (wo.heap.size + 1) wx u2 acc2) ∧ Hid (Below (wo.heap.size + 1) W1 wx)) (fun i _ _ => s.size - (intOf i).toNat)
        case atStart => exact ⟨k + 1, [], _, by omega, by omega, by go_num, rfl, by simp, (fun _ h => by cases h), by show _ = _; rw [Nat.sub_self], own_nil _ _, Below.refl _ _⟩
        case round =>
          obtain ⟨j, acc2, u2, hkj, hjs, rfl, rfl, ha2, HB2, HD, HO2, HBW⟩ := hrel
          have HS1 := Lib.hid (HS.out.below HBW.out)
          clear HS
          have hjw : IntKind.i64.wrap ((j : Int) + 1) = ((j + 1 : Nat) : Int) := by rw [IntKind.wrap_i64]; omega
          by_cases hj : j + 1 < s.size
          · have hj0 : j < s.size := by omega
            have hjz : (j : Int) + 1 < (s.size : Int) := by omega
            have hjz0 : (j : Int) < (s.size : Int) := by omega
            obtain ⟨x, hx⟩ : ∃ x, (s[j]'hj0).toNat = x := ⟨_, rfl⟩
            obtain ⟨y, hy⟩ : ∃ y, (s[j + 1]'hj).toNat = y := ⟨_, rfl⟩
            have hx256 : x < 256 := by have := (s[j]'hj0).toNat_lt; omega
            have hy256 : y < 256 := by have := (s[j + 1]'hj).toNat_lt; omega
            by_cases hx0 : x = 0
            · subst hx0
              by_cases hy5 : y = 255
              · subst hy5
                have HD2 := Lib.hid (HD.out.trans (decS_pair (acc := acc2) (i := j - (k + 1)) hj0 hj hx hy))
                have HA := Lib.hid (app_new wr (wo.heap.size + 1) u2 acc2 [0] #[.int .u8 (0 : Int)] (by simp [bv]) 1 rfl HO2.out HS1.out.big (by omega))
                go_wp2_with (at_builtin; refine wpList_app rfl _ _ 46 46 rfl u2 (.slice (some ⟨wr.heap.size, 0, none⟩) 1 1) rfl rfl ?_; obtain ⟨R, W', hrun, hmade⟩ := HA.out; refine ⟨R, W', hrun, ?_⟩; have HM := Lib.hid hmade; clear hrun hmade HA)
                go_roundw
                case rel => exact ⟨j + 2, acc2 ++ [0], R, by omega, by omega, by go_num, rfl, by simp; omega, snoc_lt HB2.out (by omega), by show _ = _; rw [HD2.out, show j + 2 - (k + 1) = j - (k + 1) + 2 by omega], HM.out.1, HBW.out.trans HM.out.2⟩
                case measure => simp [intOf]; omega
              · have hyz : ¬ ((y : Int) = 255) := by omega
                by_cases hy1 : y = 1
                · subst hy1
                  have hr : headR 3 ((sb s).drop (k + 1)) = some (⟨3, 0, bs acc2⟩, j - (k + 1) + 2) := by rw [headR_text (by omega), HD.out, decS_done hj0 hj hx hy]; rfl
                  obtain ⟨A3, n3, c3, rfl, hln3, hcv3⟩ := own_conv HO2.out
                  have HS2 := Lib.hid (HS1.out.txt (bs acc2))
                  have y0 := HS1.out.c2
                  have f0 := HS1.out.box.free 2
                  have hbz : (bs acc2).size ≤ 140737488355328 := by rw [bs_size]; omega
                  clear HO2 HBW HD HB2
                  obtain ⟨m, hm⟩ : ∃ m, mayF (3) (0) ((bs acc2)) = m := ⟨_, rfl⟩
                  have HMY := Lib.hid (refMay_any (3) (0) ((bs acc2)) ((wr.setCell ⟨wo.heap.size, 2, none⟩ (.string (bs acc2)))) (hbz))
                  have HH := hr
                  rw [hm] at HMY
                  have HNB : Hid (m = false → ∀ L, Good1 L → keys L ≠ sb s) := fun e => HNO.out (headF_bad HH (hm.trans e))
                  have HYB : Hid (m = true → _) := fun e => HYES.out _ _ HH (hm.trans e)
                  clear hm HH HNO HYES
                  have x0 := HS2.out.c0
                  have x1 := HS2.out.c1
                  have x2 := HS2.out.c2
                  go_wp2_with fail
                  refine HMY.out.mono ?_
                  rintro e w6 ⟨rfl, hb6⟩
                  have HS6 := Lib.hid (HS2.out.down hb6.out)
                  clear x0 x1 x2 hb6 HMY HS2
                  have x0 := HS6.out.c0
                  have x1 := HS6.out.c1
                  have x2 := HS6.out.c2
                  cases m
                  · have HN := Lib.hid (HNB.out rfl)
                    clear HNB HYB
                    go_wp2_with fail
                    go_ret2
                    exact ⟨.inr ⟨HN.out, rfl⟩, HS6.out.bel⟩
                  · obtain ⟨g1, g2, g3, g4⟩ := HYB.out rfl
                    have G1 := Lib.hid g1
                    have G2 := Lib.hid g2
                    have G3 := Lib.hid g3
                    clear g1 g2 g3 HNB HYB
                    have HA := Lib.hid (appV w6 w6.heap.size rfl w.heap.size u acc ⟨3, 0, (bs acc2)⟩ HS6.out.own HS6.out.bel.size (by omega))
                    go_wp2_with (at_builtin; refine wpList_app rfl _ _ 23 23 rfl u (.slice (some ⟨w6.heap.size, 0, none⟩) 1 1) rfl rfl ?_; obtain ⟨R, W', hrun, hmade⟩ := HA.out; refine ⟨R, W', hrun, ?_⟩; have HM := Lib.hid hmade; clear hrun hmade HA)
                    go_roundw
                    case rel => exact ⟨k + 1 + (j - (k + 1) + 2), R, _, by omega, by rw [show k + 1 + (j - (k + 1) + 2) = j + 2 by omega]; go_num, rfl, by rw [List.length_append]; simp; omega, G1, G2, G3, HM.out.1, HS6.out.bel.trans HM.out.2⟩
                    case measure => simp [intOf]; omega
                · have hyz1 : ¬ ((y : Int) = 1) := by omega
                  have hyn : ((y : Int) != 1) = true := by simp; omega
                  have hyq : ¬ (s[j + 1]'hj).toNat = 1 := by omega
                  have HN := Lib.hid (HNO.out (headF_none (by rw [headR_text (by omega), HD.out, decS_bad hj0 hj hx (by omega) (by omega)]; rfl)))
                  clear HNO HYES HD
                  go_wp2_with fail
                  go_ret2
                  exact ⟨.inr ⟨HN.out, rfl⟩, HS1.out.bel⟩
            · have hxz : ¬ ((x : Int) = 0) := by omega
              have HD2 := Lib.hid (HD.out.trans (decS_step (acc := acc2) (i := j - (k + 1)) hj0 (by omega)))
              rw [hx] at HD2
              have HA := Lib.hid (app_new wr (wo.heap.size + 1) u2 acc2 [x] #[.int .u8 (x : Int)] (by simp [bv]) 1 rfl HO2.out HS1.out.big (by omega))
              go_wp2_with (at_builtin; refine wpList_app rfl _ _ 46 46 rfl u2 (.slice (some ⟨wr.heap.size, 0, none⟩) 1 1) rfl rfl ?_; obtain ⟨R, W', hrun, hmade⟩ := HA.out; refine ⟨R, W', hrun, ?_⟩; have HM := Lib.hid hmade; clear hrun hmade HA)
              go_roundw
              case rel => exact ⟨j + 1, acc2 ++ [x], R, by omega, by omega, by go_num, rfl, by simp; omega, snoc_lt HB2.out hx256, by show _ = _; rw [HD2.out, show j + 1 - (k + 1) = j - (k + 1) + 1 by omega], HM.out.1, HBW.out.trans HM.out.2⟩
              case measure => simp [intOf]; omega
          · have hjz : ¬ ((j : Int) + 1 < (s.size : Int)) := by omega
            have HN := Lib.hid (HNO.out (headF_none (by rw [headR_text (by omega), HD.out, decS_end hj]; rfl)))
            clear HNO HYES HD
            go_wp2_with fail
            go_ret2
            exact ⟨.inr ⟨HN.out, rfl⟩, HS1.out.bel⟩
      by_cases h4 : c = 4
      · subst h4
        have HS := Lib.hid (HV0.out 4 0 ⟨#[]⟩)
        have hw1 : wrap64 4 = 4 := by decide +kernel
        clear HV0
        have hz1 : w.heap.size ≤ wo.heap.size := HS.out.base
        obtain ⟨W1, hW1⟩ : ∃ W, W = (wo.alloc (.cells #[.int .i64 4, .int .i64 0, .string ⟨#[]⟩] 101)) := ⟨_, rfl⟩
        go_wp2_with fail
        rw [← hW1] at HS ⊢
        clear hW1
        go_loopw [5, 9] (fun i b wx => ∃ (j : Nat) (acc2 : List Nat) (u2 : Value), k + 1 ≤ j ∧ j ≤ s.size ∧ i = .int .i64 j ∧ u2 = b ∧ acc2.length ≤ j ∧ Hid (∀ x ∈ acc2, x < 256) ∧ Hid (decS false [] 0 ((sb s).drop (k + 1)) = decS false acc2 (j - (k + 1)) ((sb s).drop j)) ∧ Hid (Own (wo.heap.size + 1) wx u2 acc2) ∧ Hid (Below (wo.heap.size + 1) W1 wx)) (fun i _ _ => s.size - (intOf i).toNat)
        case atStart => exact ⟨k + 1, [], _, by omega, by omega, by go_num, rfl, by simp, (fun _ h => by cases h), by show _ = _; rw [Nat.sub_self], own_nil _ _, Below.refl _ _⟩
        case round =>
          obtain ⟨j, acc2, u2, hkj, hjs, rfl, rfl, ha2, HB2, HD, HO2, HBW⟩ := hrel
          have HS1 := Lib.hid (HS.out.below HBW.out)
          clear HS
          have hjw : IntKind.i64.wrap ((j : Int) + 1) = ((j + 1 : Nat) : Int) := by rw [IntKind.wrap_i64]; omega
          by_cases hj : j + 1 < s.size
          · have hj0 : j < s.size := by omega
            have hjz : (j : Int) + 1 < (s.size : Int) := by omega
            have hjz0 : (j : Int) < (s.size : Int) := by omega
            obtain ⟨x, hx⟩ : ∃ x, (s[j]'hj0).toNat = x := ⟨_, rfl⟩
            obtain ⟨y, hy⟩ : ∃ y, (s[j + 1]'hj).toNat = y := ⟨_, rfl⟩
            have hx256 : x < 256 := by have := (s[j]'hj0).toNat_lt; omega
            have hy256 : y < 256 := by have := (s[j + 1]'hj).toNat_lt; omega
            by_cases hx0 : x = 0
            · subst hx0
              by_cases hy5 : y = 255
              · subst hy5
                have HD2 := Lib.hid (HD.out.trans (decS_pair (acc := acc2) (i := j - (k + 1)) hj0 hj hx hy))
                have HA := Lib.hid (app_new wr (wo.heap.size + 1) u2 acc2 [0] #[.int .u8 (0 : Int)] (by simp [bv]) 1 rfl HO2.out HS1.out.big (by omega))
                go_wp2_with (at_builtin; refine wpList_app rfl _ _ 46 46 rfl u2 (.slice (some ⟨wr.heap.size, 0, none⟩) 1 1) rfl rfl ?_; obtain ⟨R, W', hrun, hmade⟩ := HA.out; refine ⟨R, W', hrun, ?_⟩; have HM := Lib.hid hmade; clear hrun hmade HA)
                go_roundw
                case rel => exact ⟨j + 2, acc2 ++ [0], R, by omega, by omega, by go_num, rfl, by simp; omega, snoc_lt HB2.out (by omega), by show _ = _; rw [HD2.out, show j + 2 - (k + 1) = j - (k + 1) + 2 by omega], HM.out.1, HBW.out.trans HM.out.2⟩
                case measure => simp [intOf]; omega
              · have hyz : ¬ ((y : Int) = 255) := by omega
                by_cases hy1 : y = 1
                · subst hy1
                  have hr : headR 4 ((sb s).drop (k + 1)) = some (⟨4, 0, bs acc2⟩, j - (k + 1) + 2) := by rw [headR_text (by omega), HD.out, decS_done hj0 hj hx hy]; rfl
                  obtain ⟨A3, n3, c3, rfl, hln3, hcv3⟩ := own_conv HO2.out
                  have HS2 := Lib.hid (HS1.out.txt (bs acc2))
                  have y0 := HS1.out.c2
                  have f0 := HS1.out.box.free 2
                  have hbz : (bs acc2).size ≤ 140737488355328 := by rw [bs_size]; omega
                  clear HO2 HBW HD HB2
                  obtain ⟨m, hm⟩ : ∃ m, mayF (4) (0) ((bs acc2)) = m := ⟨_, rfl⟩
                  have HMY := Lib.hid (refMay_any (4) (0) ((bs acc2)) ((wr.setCell ⟨wo.heap.size, 2, none⟩ (.string (bs acc2)))) (hbz))
                  have HH := hr
                  rw [hm] at HMY
                  have HNB : Hid (m = false → ∀ L, Good1 L → keys L ≠ sb s) := fun e => HNO.out (headF_bad HH (hm.trans e))
                  have HYB : Hid (m = true → _) := fun e => HYES.out _ _ HH (hm.trans e)
                  clear hm HH HNO HYES
                  have x0 := HS2.out.c0
                  have x1 := HS2.out.c1
                  have x2 := HS2.out.c2
                  go_wp2_with fail
                  refine HMY.out.mono ?_
                  rintro e w6 ⟨rfl, hb6⟩
                  have HS6 := Lib.hid (HS2.out.down hb6.out)
                  clear x0 x1 x2 hb6 HMY HS2
                  have x0 := HS6.out.c0
                  have x1 := HS6.out.c1
                  have x2 := HS6.out.c2
                  cases m
                  · have HN := Lib.hid (HNB.out rfl)
                    clear HNB HYB
                    go_wp2_with fail
                    go_ret2
                    exact ⟨.inr ⟨HN.out, rfl⟩, HS6.out.bel⟩
                  · obtain ⟨g1, g2, g3, g4⟩ := HYB.out rfl
                    have G1 := Lib.hid g1
                    have G2 := Lib.hid g2
                    have G3 := Lib.hid g3
                    clear g1 g2 g3 HNB HYB
                    have HA := Lib.hid (appV w6 w6.heap.size rfl w.heap.size u acc ⟨4, 0, (bs acc2)⟩ HS6.out.own HS6.out.bel.size (by omega))
                    go_wp2_with (at_builtin; refine wpList_app rfl _ _ 23 23 rfl u (.slice (some ⟨w6.heap.size, 0, none⟩) 1 1) rfl rfl ?_; obtain ⟨R, W', hrun, hmade⟩ := HA.out; refine ⟨R, W', hrun, ?_⟩; have HM := Lib.hid hmade; clear hrun hmade HA)
                    go_roundw
                    case rel => exact ⟨k + 1 + (j - (k + 1) + 2), R, _, by omega, by rw [show k + 1 + (j - (k + 1) + 2) = j + 2 by omega]; go_num, rfl, by rw [List.length_append]; simp; omega, G1, G2, G3, HM.out.1, HS6.out.bel.trans HM.out.2⟩
                    case measure => simp [intOf]; omega
                · have hyz1 : ¬ ((y : Int) = 1) := by omega
                  have hyn : ((y : Int) != 1) = true := by simp; omega
                  have hyq : ¬ (s[j + 1]'hj).toNat = 1 := by omega
                  have HN := Lib.hid (HNO.out (headF_none (by rw [headR_text (by omega), HD.out, decS_bad hj0 hj hx (by omega) (by omega)]; rfl)))
                  clear HNO HYES HD
                  go_wp2_with fail
                  go_ret2
                  exact ⟨.inr ⟨HN.out, rfl⟩, HS1.out.bel⟩
            · have hxz : ¬ ((x : Int) = 0) := by omega
              have HD2 := Lib.hid (HD.out.trans (decS_step (acc := acc2) (i := j - (k + 1)) hj0 (by omega)))
              rw [hx] at HD2
              have HA := Lib.hid (app_new wr (wo.heap.size + 1) u2 acc2 [x] #[.int .u8 (x : Int)] (by simp [bv]) 1 rfl HO2.out HS1.out.big (by omega))
              go_wp2_with (at_builtin; refine wpList_app rfl _ _ 46 46 rfl u2 (.slice (some ⟨wr.heap.size, 0, none⟩) 1 1) rfl rfl ?_; obtain ⟨R, W', hrun, hmade⟩ := HA.out; refine ⟨R, W', hrun, ?_⟩; have HM := Lib.hid hmade; clear hrun hmade HA)
              go_roundw
              case rel => exact ⟨j + 1, acc2 ++ [x], R, by omega, by omega, by go_num, rfl, by simp; omega, snoc_lt HB2.out hx256, by show _ = _; rw [HD2.out, show j + 1 - (k + 1) = j - (k + 1) + 1 by omega], HM.out.1, HBW.out.trans HM.out.2⟩
              case measure => simp [intOf]; omega
          · have hjz : ¬ ((j : Int) + 1 < (s.size : Int)) := by omega
            have HN := Lib.hid (HNO.out (headF_none (by rw [headR_text (by omega), HD.out, decS_end hj]; rfl)))
            clear HNO HYES HD
            go_wp2_with fail
            go_ret2
            exact ⟨.inr ⟨HN.out, rfl⟩, HS1.out.bel⟩
      · have hz1 : ¬ ((c : Int) = 1) := by omega
        have hz2 : ¬ ((c : Int) = 2) := by omega
        have hz3 : ¬ ((c : Int) = 3) := by omega
        have hz4 : ¬ ((c : Int) = 4) := by omega
        have HS := Lib.hid (HV0.out (c : Int) 0 ⟨#[]⟩)
        clear HV0
        obtain ⟨m, hm⟩ : ∃ m, mayF ((c : Int)) (0) (⟨#[]⟩) = m := ⟨_, rfl⟩
        have HMY := Lib.hid (refMay_any ((c : Int)) (0) (⟨#[]⟩) ((wo.alloc (.cells #[.int .i64 (c : Int), .int .i64 0, .string ⟨#[]⟩] 101))) (by simp [ByteArray.size]))
        have HH := (headR_else h1 h2 h3 h4 : headR c ((sb s).drop (k + 1)) = _)
        rw [hm] at HMY
        have HNB : Hid (m = false → ∀ L, Good1 L → keys L ≠ sb s) := fun e => HNO.out (headF_bad HH (hm.trans e))
        have HYB : Hid (m = true → _) := fun e => HYES.out _ _ HH (hm.trans e)
        clear hm HH HNO HYES
        have x0 := HS.out.c0
        have x1 := HS.out.c1
        have x2 := HS.out.c2
        go_wp2_with fail
        refine HMY.out.mono ?_
        rintro e w6 ⟨rfl, hb6⟩
        have HS6 := Lib.hid (HS.out.down hb6.out)
        clear x0 x1 x2 hb6 HMY HS
        have x0 := HS6.out.c0
        have x1 := HS6.out.c1
        have x2 := HS6.out.c2
        cases m
        · have HN := Lib.hid (HNB.out rfl)
          clear HNB HYB
          go_wp2_with fail
          go_ret2
          exact ⟨.inr ⟨HN.out, rfl⟩, HS6.out.bel⟩
        · obtain ⟨g1, g2, g3, g4⟩ := HYB.out rfl
          have G1 := Lib.hid g1
          have G2 := Lib.hid g2
          have G3 := Lib.hid g3
          clear g1 g2 g3 HNB HYB
          have HA := Lib.hid (appV w6 w6.heap.size rfl w.heap.size u acc ⟨(c : Int), 0, ⟨#[]⟩⟩ HS6.out.own HS6.out.bel.size (by omega))
          go_wp2_with (at_builtin; refine wpList_app rfl _ _ 23 23 rfl u (.slice (some ⟨w6.heap.size, 0, none⟩) 1 1) rfl rfl ?_; obtain ⟨R, W', hrun, hmade⟩ := HA.out; refine ⟨R, W', hrun, ?_⟩; have HM := Lib.hid hmade; clear hrun hmade HA)
          go_roundw
          case rel => exact ⟨k + 1 + 0, R, _, by omega, by go_num, rfl, by rw [List.length_append]; simp; omega, G1, G2, G3, HM.out.1, HS6.out.bel.trans HM.out.2⟩
          case measure => simp [intOf]; omega
    · obtain rfl : k = s.size := by omega
      have HKK : Hid (keys acc = sb s) := by
        show _ = _
        have := HK.out
        rw [List.drop_eq_nil_of_le (by rw [sb_length]; exact Nat.le_refl _), List.append_nil] at this
        exact this
      go_wp2_with fail
      go_ret2
      exact ⟨.inl ⟨acc, u, HG.out, HF.out, hac, HKK.out, rfl, HO.out⟩, HB⟩
end Go.Proofs.YtjkmbggaoinkdaaDoor
