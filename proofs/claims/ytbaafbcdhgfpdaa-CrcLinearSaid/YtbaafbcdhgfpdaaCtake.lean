/-
  What the program's Take comes to; and its four functions' contracts as the laws want them.
-/
import Derived.Test.YtbaafbcdhgfpdaaCprog
import Derived.Test.YtbaafbcdhgfpdaaShelf
import Derived.Deep.RegionHeld3
import Derived.Deep.QuietTactic
import Derived.BigQuiet
namespace Go.Proofs.Ytbaafbcdhgfpdaa
open Go.RowKit Cr
theorem un4_le4 (S : Nat) (_ : S < 4294967296) : un4 (le4 S) = S := by
  simp only [le4, un4]
  omega
theorem part5 (xs : Array Value) (i : Nat) (v : Value) (h : xs[i]? = some v) (w : World) : (part 5 xs i).run Try.prog w = .ok v w := by
  unfold part
  simp [Sem.run_bind, Try.isAgg5, h]
theorem eq42 (w : World) (a0 a1 a2 a3 b0 b1 b2 b3 : Int) :
    (Op.equalIn 10000 42 (.agg #[.int .u8 a0, .int .u8 a1, .int .u8 a2, .int .u8 a3]) (.agg #[.int .u8 b0, .int .u8 b1, .int .u8 b2, .int .u8 b3])).run Try.prog w = .ok (a0 == b0 && a1 == b1 && a2 == b2 && a3 == b3) w := by
  have e := fun (a b : Int) (w : World) => run_equalIn_int (P := Try.prog) w 9998 5 .u8 .u8 a b Try.underlying5
  have p0 := fun (x0 x1 x2 x3 : Value) => part5 #[x0, x1, x2, x3] 0 x0 rfl
  have p1 := fun (x0 x1 x2 x3 : Value) => part5 #[x0, x1, x2, x3] 1 x1 rfl
  have p2 := fun (x0 x1 x2 x3 : Value) => part5 #[x0, x1, x2, x3] 2 x2 rfl
  have p3 := fun (x0 x1 x2 x3 : Value) => part5 #[x0, x1, x2, x3] 3 x3 rfl
  rw [show (10000 : Nat) = 9999 + 1 by rfl]
  unfold Op.equalIn
  by_cases h0 : a0 = b0 <;> by_cases h1 : a1 = b1 <;> by_cases h2 : a2 = b2 <;> by_cases h3 : a3 = b3 <;>
  simp [Sem.run_bind, run_underlying Try.underlying42, Try.sizeOf5, Result.andThen, Std.Legacy.Range.forIn_eq_forIn_range', List.range', p0, p1, p2, p3, e, h0, h1, h2, h3]
theorem at42 (a : Option Addr) (c : Nat) (W : World) : (Instr.arrayAt 42 (.slice a 4 c)).run Try.prog W = .ok (.pointer a) W := by
  unfold Instr.arrayAt
  simp [Sem.run_bind, run_underlying Try.underlying42]
theorem leA_lit (S : Nat) : leA S = #[.int .u8 ((S % 256 : Nat) : Int), .int .u8 ((S / 256 % 256 : Nat) : Int), .int .u8 ((S / 65536 % 256 : Nat) : Int), .int .u8 ((S / 16777216 : Nat) : Int)] := rfl
theorem eqA (S q0 q1 q2 q3 : Nat) (b : Bool) (h : (decide (le4 S = [q0, q1, q2, q3])) = b) (W : World) :
    (Op.equalIn 10000 42 (.agg (leA S)) (.agg #[.int .u8 q0, .int .u8 q1, .int .u8 q2, .int .u8 q3])).run Try.prog W = .ok b W := by
  rw [leA_lit, eq42, ← h]
  congr 1
  simp only [le4, List.cons.injEq, and_true]
  rw [Bool.eq_iff_iff]
  simp
  omega
theorem own_full {B : Nat} {w : World} {v : Value} {l : List Nat} (h : Own B w v l) : ∃ A c, v = .slice A l.length c ∧ l.length ≤ c ∧ Rd w A l := by
  rcases h.2 with ⟨hv, hn⟩ | ⟨g, cap, cur, hv, _, hh, hc, _, _, ht⟩
  · obtain rfl := List.eq_nil_of_length_eq_zero hn
    exact ⟨none, 0, hv, Nat.le_refl _, Rd.nil _ _⟩
  · subst hv
    exact ⟨_, _, rfl, hc, Rd.of_has (t := 5) (cs := cur) hh fun i hi => by
      have h1 : (l.map bv)[i]? = some (bv l[i]) := by simp [hi]
      rw [← ht, List.getElem?_take, if_pos (by omega)] at h1
      simpa using h1⟩
theorem clone_any (b off : Nat) (l : List Nat) (n c : Nat) (w : World) (hn : l.length = n) (hb : n ≤ 1000000) (hA : Rd w (some ⟨b, off, none⟩) l) :
    Calls Try.prog 23 #[.slice (some ⟨b, off, none⟩) n c] w (OutO w l) :=
  (Try.bytes_Clone_at ⟨b, off, none⟩ n c (l.map Int.ofNat) w (by simpa using hn) (by omega) (fun i hi => by
    have hil : i < l.length := by omega
    obtain ⟨b', off', e, hc⟩ := hA (by rintro rfl; simp at hil)
    injection e with e
    injection e with e1 e2
    subst e1; subst e2
    rw [Addr.add_lit, hc i hil, List.getD_eq_getElem?_getD, List.getElem?_map, List.getElem?_eq_getElem hil]
    rfl)).mono fun e w' ⟨v, he, ho, _, hb⟩ => ⟨v, he, by
      subst hn
      unfold Own
      rw [List.map_map] at ho
      exact ho, hb⟩
set_option maxHeartbeats 2000000 in
set_option maxRecDepth 100000 in
theorem take_any (A : Option Addr) (l : List Nat) (n c : Nat) (w : World) (hn : l.length = n) (hc : n ≤ c) (hb : n ≤ 10000) (_ : c ≤ maxLen) (hl : ∀ x ∈ l, x < 256) (hA : Rd w A l) :
    Calls Try.prog 17 #[.slice A n c] w fun e w' => ∃ A' n' c', e = .returned (.tuple #[.slice A' n' c', .int .i64 ((takeF l).2 : Int)]) ∧ Hid ((takeF l).1.length = n') ∧ n' ≤ c' ∧ Hid (Rd w' A' (takeF l).1) ∧ Hid (Below w.heap.size w w') := by
  by_cases h4 : n < 4
  · have HT : Hid (takeF l = ([], 4)) := by show _ = _; unfold takeF; rw [if_pos (by omega)]
    clear hn hl hA
    go_enter Try.func17, Try.ntmps17
    go_wp2_with fail
    go_ret2
    rw [HT.out]
    exact ⟨none, 0, 0, rfl, rfl, Nat.le_refl _, Rd.nil _ _, Below.refl _ _⟩
  · have hne : l ≠ [] := by rintro rfl; simp at hn; omega
    obtain ⟨b, off, rfl, hcell⟩ := hA hne
    have hk0 : (0 : Int) ≤ (n : Int) - 4 := by omega
    have hk1 : ((n : Int) - 4).toNat = n - 4 := by omega
    have hw4 : IntKind.i64.wrap ((n : Int) - 4) = (n : Int) - 4 := by rw [IntKind.wrap_i64]; omega
    have hkc : (n : Int) - 4 ≤ c := by omega
    have hkn : (n : Int) - 4 ≤ n := by omega
    have hne2 : ¬ (c = n - 4) := by omega
    have HS := Lib.hid fun W (hW : Below w.heap.size w W) => tail_any (some ⟨b, off, none⟩) (l.take (n - 4)) (n - 4) c W (by rw [List.length_take]; omega) (by omega) (fun x hx => hl x (List.mem_of_mem_take hx)) ((hA.below hW).take _)
    have HN := Lib.hid hn
    have HA := Lib.hid hA
    have HL := Lib.hid hl
    clear hn hA hl hcell
    go_enter Try.func17, Try.ntmps17
    go_wp2_with fail
    go_quiet (fail)
    go_wp2_with fail
    have e4 : n - (n - 4) = 4 := by omega
    rw [e4]
    obtain ⟨q, hq⟩ : ∃ q, q = l.drop (n - 4) := ⟨_, rfl⟩
    have hql : q.length = 4 := by rw [hq, List.length_drop, HN.out]; omega
    have hqr : Rd w (some ⟨b, off + (n - 4), none⟩) q := by rw [hq]; exact HA.out.drop (n - 4)
    obtain ⟨q0, q1, q2, q3, rfl⟩ : ∃ q0 q1 q2 q3, q = [q0, q1, q2, q3] := by
      match q, hql with
      | [a, b, c, d], _ => exact ⟨a, b, c, d, rfl⟩
    obtain ⟨b', off', eb, hqc⟩ := hqr (by simp)
    injection eb with eb
    injection eb with eb1 eb2
    subst eb1; subst eb2
    have d0 : w.cell? ⟨b, off + (n - 4), none⟩ = some (.int .u8 q0) := hqc 0 (by simp)
    have d1 : w.cell? ⟨b, off + (n - 4) + 1, none⟩ = some (.int .u8 q1) := hqc 1 (by simp)
    have d2 : w.cell? ⟨b, off + (n - 4) + 2, none⟩ = some (.int .u8 q2) := hqc 2 (by simp)
    have d3 : w.cell? ⟨b, off + (n - 4) + 3, none⟩ = some (.int .u8 q3) := hqc 3 (by simp)
    have HQ := Lib.hid hq
    clear hq hqc hql hqr e4
    generalize hK : n - 4 = K at *
    have HK := Lib.hid hK
    clear hK
    have HB0 := Lib.hid (below_drewN (Below.refl w.heap.size w) nq).drew
    have hat := at42
    have HB1 := Lib.hid (below_drewN (Below.refl w.heap.size w) (nq + 1))
    have e0 : (w.drewN (nq + 1)).cell? ⟨b, off + K, none⟩ = some (.int .u8 q0) := d0
    have e1 : (w.drewN (nq + 1)).cell? ⟨b, off + K + 1, none⟩ = some (.int .u8 q1) := d1
    have e2 : (w.drewN (nq + 1)).cell? ⟨b, off + K + 2, none⟩ = some (.int .u8 q2) := d2
    have e3 : (w.drewN (nq + 1)).cell? ⟨b, off + K + 3, none⟩ = some (.int .u8 q3) := d3
    have E0 := Lib.hid e0
    have E1 := Lib.hid e1
    have E2 := Lib.hid e2
    have E3 := Lib.hid e3
    clear e0 e1 e2 e3
    obtain ⟨S, hS⟩ : ∃ S, S = sum (l.take K) := ⟨_, rfl⟩
    rw [← hS] at HS
    have hsl : S < 4294967296 := by rw [hS]; exact sum_lt _ fun x hx => HL.out x (List.mem_of_mem_take hx)
    have HSS := Lib.hid hS
    clear hS
    by_cases hst : le4 S = [q0, q1, q2, q3]
    · have heq := eqA S q0 q1 q2 q3 true (decide_eq_true hst)
      have HST := Lib.hid hst
      clear hst
      go_region_held3 (fun W => Hid (Below w.heap.size w W) ∧ W.cell? ⟨b, off + K, none⟩ = some (.int .u8 q0) ∧ W.cell? ⟨b, off + K + 1, none⟩ = some (.int .u8 q1) ∧ W.cell? ⟨b, off + K + 2, none⟩ = some (.int .u8 q2) ∧ W.cell? ⟨b, off + K + 3, none⟩ = some (.int .u8 q3)) ((refine ⟨by assumption, ?_⟩; go_keep))
        (first | (go_at_call 21; refine (HS.out _ HB1.out).mono ?_; rintro e x1 ⟨rfl, hb1⟩; have HBX := Lib.hid (HB1.out.trans (hb1.out.mono HB1.out.size)); have g0 := (hb1.out.cell (World.block_lt_of_cell? _ _ E0.out)).trans E0.out; have g1 := (hb1.out.cell (World.block_lt_of_cell? _ _ E1.out)).trans E1.out; have g2 := (hb1.out.cell (World.block_lt_of_cell? _ _ E2.out)).trans E2.out; have g3 := (hb1.out.cell (World.block_lt_of_cell? _ _ E3.out)).trans E3.out))
      all_goals
        have HT : Hid (takeF l = (l.take K, 0)) := by
          have hd : sum (l.take (l.length - 4)) = un4 (l.drop (l.length - 4)) := by
            rw [HN.out, HK.out, ← HSS.out, ← HQ.out, ← HST.out]
            exact (un4_le4 S hsl).symm
          show _ = _; unfold takeF; rw [if_neg (by rw [HN.out]; exact h4), if_pos hd, HN.out, HK.out]
        have HCL := Lib.hid (clone_any b off (l.take K) K c x1 (by rw [List.length_take, HN.out, ← HK.out]; omega) (by omega) ((HA.out.below HBX.out).take _))
        clear g0 g1 g2 g3 heq hat d0 d1 d2 d3
        go_wp2_with fail
        refine HCL.out.mono ?_
        rintro e x2 ⟨v, rfl, HO, hb2⟩
        obtain ⟨A2, c2, rfl, hc2, hr2⟩ := own_full HO
        have HB2 := Lib.hid (HBX.out.trans (hb2.mono HBX.out.size))
        have HR2 := Lib.hid hr2
        clear HO hb2 hr2
        go_wp2_with fail
        go_ret2
        rw [HT.out]
        exact ⟨A2, _, c2, rfl, List.length_take, by rw [← List.length_take]; exact hc2, HR2.out, HB2.out⟩
    · have heq := eqA S q0 q1 q2 q3 false (decide_eq_false hst)
      have HST := Lib.hid hst
      clear hst
      go_region_held3 (fun W => Hid (Below w.heap.size w W) ∧ W.cell? ⟨b, off + K, none⟩ = some (.int .u8 q0) ∧ W.cell? ⟨b, off + K + 1, none⟩ = some (.int .u8 q1) ∧ W.cell? ⟨b, off + K + 2, none⟩ = some (.int .u8 q2) ∧ W.cell? ⟨b, off + K + 3, none⟩ = some (.int .u8 q3)) ((refine ⟨by assumption, ?_⟩; go_keep))
        (first | (go_at_call 21; refine (HS.out _ HB1.out).mono ?_; rintro e x1 ⟨rfl, hb1⟩; have HBX := Lib.hid (HB1.out.trans (hb1.out.mono HB1.out.size)); have g0 := (hb1.out.cell (World.block_lt_of_cell? _ _ E0.out)).trans E0.out; have g1 := (hb1.out.cell (World.block_lt_of_cell? _ _ E1.out)).trans E1.out; have g2 := (hb1.out.cell (World.block_lt_of_cell? _ _ E2.out)).trans E2.out; have g3 := (hb1.out.cell (World.block_lt_of_cell? _ _ E3.out)).trans E3.out))
      all_goals
        have HT : Hid (takeF l = ([], 3)) := by
          have hd : ¬ sum (l.take (l.length - 4)) = un4 (l.drop (l.length - 4)) := by
            rw [HN.out, HK.out, ← HSS.out, ← HQ.out]
            intro h
            apply HST.out
            rw [h]
            have hby : ∀ x ∈ [q0, q1, q2, q3], x < 256 := by
              intro x hx
              rw [HQ.out] at hx
              exact HL.out x (List.mem_of_mem_drop hx)
            exact (le4_un4 [q0, q1, q2, q3] rfl hby).1
          show _ = _; unfold takeF; rw [if_neg (by rw [HN.out]; exact h4), if_neg hd]
        clear g0 g1 g2 g3 heq hat d0 d1 d2 d3
        go_wp2_with fail
        go_ret2
        rw [HT.out]
        exact ⟨none, 0, 0, rfl, rfl, Nat.le_refl _, Rd.nil _ _, HBX.out⟩
theorem prog_sum : SumC := fun A l n c w hn hb hl hA => sum_any A l n c w hn (by omega) hl hA
theorem prog_more : MoreC := fun s A l n c w hn hb hl hA => more_any s A l n c w hn (by omega) hl hA
theorem prog_put : PutC := fun A l n c A' m k d w hn _ hb hk _ hb' hm hA hA' h0 h0' _ _ => put_any A l n c A' m k d w hn hk (by omega) hm hA hA' h0 h0'
theorem prog_take : TakeC := fun A l n c w hn hc hcm hb hl hA _ => take_any A l n c w hn hc (by omega) hcm hl hA
end Go.Proofs.Ytbaafbcdhgfpdaa
