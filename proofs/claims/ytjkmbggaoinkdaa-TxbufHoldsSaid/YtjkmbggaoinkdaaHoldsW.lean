/-
  TxbufHolds: its walk.
-/
import Derived.Test.YtjkmbggaoinkdaaTbL
import Derived.Deep.DeepCutAuto
namespace Go.Proofs.Ytjkmbggaoinkdaa.txbufHolds
open Go.RowKit Go.Maps Dg
set_option maxRecDepth 100000
set_option linter.unusedVariables false
/-- The events that the law puts. -/
def evs (k : Nat) : List Ev := (List.range k).map fun i : Nat => (er0 6 (i : Int) ⟨#[]⟩ 2 ⟨#[116]⟩).x
theorem evs_len (k : Nat) : (evs k).length = k := by simp [evs]
theorem evs_succ (k : Nat) : evs (k + 1) = evs k ++ [(er0 6 (k : Int) ⟨#[]⟩ 2 ⟨#[116]⟩).x] := by simp [evs, List.range_succ]
theorem evs_at (k i : Nat) (h : i < (evs k).length) : (evs k)[i].n = (i : Int) := by simp [evs, er0]
theorem told_at {w : World} {tv : Value} {m : Nat} (h : Told w tv (evs m)) : ∃ A c, tv = .slice A m c ∧ Hid (∀ i, i < m → ∃ b off, A = some ⟨b, off, none⟩ ∧ w.cell? ⟨b, off + i * 12 + 1, none⟩ = some (.int .i64 (i : Int))) := by
  obtain ⟨A, n, c, T, rfl, hn, hr, hm, _⟩ := h
  have hTm : T.length = m := by rw [← List.length_map (f := Er.x), hm, evs_len]
  obtain rfl : n = m := hn.symm.trans hTm
  refine ⟨A, c, rfl, fun i hi => ?_⟩
  have hiT : i < T.length := by omega
  obtain ⟨b, off, rfl, hc⟩ := hr (by intro e; rw [e] at hiT; simp at hiT)
  have q := hc i hiT 1 (by omega)
  have e : T[i].x.n = (i : Int) := by
    have h1 : (T.map Er.x)[i]'(by simpa using hiT) = T[i].x := by simp
    rw [← h1]
    have h2 : (T.map Er.x)[i]'(by simpa using hiT) = (evs n)[i]'(by rw [evs_len]; exact hi) := by simp only [hm]
    rw [h2]
    exact evs_at n i _
  refine ⟨b, off, rfl, q.trans ?_⟩
  simp [Er.row, e]
set_option maxHeartbeats 4000000 in
theorem walk (a b c : Int) (w : World) (ha : -9223372036854775808 ≤ a ∧ a ≤ 9223372036854775807) (hb : -9223372036854775808 ≤ b ∧ b ≤ 9223372036854775807) (hc : -9223372036854775808 ≤ c ∧ c ≤ 9223372036854775807) :
    Calls Try.prog 4 #[.int .i64 a, .int .i64 b, .int .i64 c] w fun e w' => e = .returned (.bool true) ∧ Below w.heap.size w w' := by
  obtain ⟨p, ep, hp⟩ : ∃ p : Nat, Hid ((if a < 0 then -(a + 1) else a) = (p : Int)) ∧ p ≤ 9223372036854775807 := ⟨(if a < 0 then -(a + 1) else a).toNat, by show _ = _; split <;> omega, by split <;> omega⟩
  obtain ⟨q, eq, hq⟩ : ∃ p : Nat, Hid ((if b < 0 then -(b + 1) else b) = (p : Int)) ∧ p ≤ 9223372036854775807 := ⟨(if b < 0 then -(b + 1) else b).toNat, by show _ = _; split <;> omega, by split <;> omega⟩
  obtain ⟨r, er, hr⟩ : ∃ p : Nat, Hid ((if c < 0 then -(c + 1) else c) = (p : Int)) ∧ p ≤ 9223372036854775807 := ⟨(if c < 0 then -(c + 1) else c).toNat, by show _ = _; split <;> omega, by split <;> omega⟩
  obtain ⟨lm, hlm, hlm2, hlm3⟩ : ∃ lm : Nat, 1 + (p : Int) % 20 = (lm : Int) ∧ 1 ≤ lm ∧ lm ≤ 20 := ⟨(1 + (p : Int) % 20).toNat, by omega, by omega, by omega⟩
  obtain ⟨n, hn, hn2⟩ : ∃ n : Nat, (q : Int) % 31 = (n : Int) ∧ n ≤ 30 := ⟨((q : Int) % 31).toNat, by omega, by omega⟩
  have HLM := Lib.hid hlm
  have HNN := Lib.hid hn
  clear hlm hn
  have hlm1 : (1 : Int) ≤ (lm : Int) := by omega
  have HN := Lib.hid (new_any (lm : Int) w)
  rw [show max (lm : Int) 1 = (lm : Int) by omega] at HN
  have HB0 := Lib.hid (buf_new w (lm : Int))
  have HL0 := Lib.hid ((Below.refl w.heap.size w).alloc (Nat.le_refl _) (.cells #[.int .i64 (lm : Int), .int .i64 (-1), .slice none 0 0] 55))
  obtain ⟨w0, hw0⟩ : ∃ W, W = w.alloc (.cells #[.int .i64 (lm : Int), .int .i64 (-1), .slice none 0 0] 55) := ⟨_, rfl⟩
  rw [← hw0] at HN HB0 HL0
  clear hw0
  have HP1 := Lib.hid (put_is HB0.out hlm1 (er0 2 (r : Int) ⟨#[]⟩ 0 ⟨#[]⟩) (er0_ok ..) (by simp) (num' := r) (E' := []) (L := []) (s := false) (er := 0) (by simp [putF, er0]))
  go_enter Try.func4, Try.ntmps4
  go_upto_if 17 with (fail)
  go_cut [0] (fun s0 wx => s0 = .int .i64 p ∧ w = wx)
  case first =>
    by_cases gn : a < 0
    · have E2 : Hid (-(a + 1) = (p : Int)) := by show _ = _; rw [← ep.out, if_pos gn]
      have hq : decide (a < 0) = true := decide_eq_true gn
      go_wp2_with fail
      go_meet
      exact ⟨by rw [← E2.out], rfl⟩
    · have E2 : Hid (a = (p : Int)) := by show _ = _; rw [← ep.out, if_neg gn]
      have hq : decide (a < 0) = false := decide_eq_false gn
      go_wp2_with fail
      go_meet
      exact ⟨by rw [← E2.out], rfl⟩
  case rest =>
    obtain ⟨rfl, rfl⟩ := hcut
    go_upto_if 22 with (fail)
    go_cut [1] (fun s0 wx => s0 = .int .i64 q ∧ w = wx)
    case first =>
      by_cases gn : b < 0
      · have E2 : Hid (-(b + 1) = (q : Int)) := by show _ = _; rw [← eq.out, if_pos gn]
        have hq : decide (b < 0) = true := decide_eq_true gn
        go_wp2_with fail
        go_meet
        exact ⟨by rw [← E2.out], rfl⟩
      · have E2 : Hid (b = (q : Int)) := by show _ = _; rw [← eq.out, if_neg gn]
        have hq : decide (b < 0) = false := decide_eq_false gn
        go_wp2_with fail
        go_meet
        exact ⟨by rw [← E2.out], rfl⟩
    case rest =>
      obtain ⟨rfl, rfl⟩ := hcut
      go_upto_if 27 with (fail)
      go_cut [2] (fun s0 wx => s0 = .int .i64 r ∧ w = wx)
      case first =>
        by_cases gn : c < 0
        · have E2 : Hid (-(c + 1) = (r : Int)) := by show _ = _; rw [← er.out, if_pos gn]
          have hq : decide (c < 0) = true := decide_eq_true gn
          go_wp2_with fail
          go_meet
          exact ⟨by rw [← E2.out], rfl⟩
        · have E2 : Hid (c = (r : Int)) := by show _ = _; rw [← er.out, if_neg gn]
          have hq : decide (c < 0) = false := decide_eq_false gn
          go_wp2_with fail
          go_meet
          exact ⟨by rw [← E2.out], rfl⟩
      case rest =>
        obtain ⟨rfl, rfl⟩ := hcut
        go_wp2_with fail
        rw [HLM.out, HNN.out]
        refine HN.out.mono ?_
        rintro e w1 ⟨rfl, rfl⟩
        go_wp2_with fail
        refine HP1.out.mono ?_
        rintro e w2 ⟨tv1, F1, rfl, _, h3, h4, h5⟩
        have HL1 : Hid (Below w.heap.size w w2) := HL0.out.trans (h4.out.below (fun k hk => HB0.out.low k hk) HL0.out.size)
        clear HP1 HN h4 h5 HB0 HL0
        have h3' : Hid (BufAt w.heap.size w2 (lm : Int) (r : Int) (evs (min 0 lm)) F1) := by rw [Nat.zero_min]; exact h3
        clear h3
        go_wp2_with fail
        go_loopw [8] (fun u8 wr => ∃ (i : Nat) (F : List Nat), i ≤ n ∧ u8 = .int .i64 i ∧ Hid (BufAt w.heap.size wr (lm : Int) (r : Int) (evs (min i lm)) F) ∧ Hid (Below w.heap.size w wr)) (fun u8 _ => n - (intOf u8).toNat)
        case atStart => exact ⟨0, F1, by omega, rfl, h3', HL1⟩
        case round =>
          obtain ⟨i, F, hi, rfl, HT, HBr⟩ := hrel
          clear h3' HL1
          have hr1 : (r : Int) ≠ -1 := by omega
          by_cases hin : i < n
          · have hi0 : (i : Int) < (n : Int) := by omega
            by_cases hil : i < lm
            · obtain ⟨mi, hmi⟩ : ∃ mi, min i lm = mi := ⟨_, rfl⟩
              obtain rfl : mi = i := by omega
              rw [hmi] at HT
              have HPI := Lib.hid (put_is HT.out hlm1 (er0 6 (mi : Int) ⟨#[]⟩ 2 ⟨#[116]⟩) (er0_ok ..) (by rw [evs_len]; omega) (num' := r) (E' := evs (mi + 1)) (L := []) (s := false) (er := 0) (by rw [evs_succ]; have h9 : ¬ (lm : Int) ≤ (mi : Int) := (by omega); simp [putF, er0, evs_len, h9, hr1]))
              have z1 : ¬ (lm : Int) ≤ (mi : Int) := by omega
              have z2 : (mi : Int) < (lm : Int) := by omega
              have z3 : ¬ (lm : Int) < ((mi + 1 : Nat) : Int) := by omega
              go_wp2_with fail
              refine HPI.out.mono ?_
              rintro e w4 ⟨tv4, F4, rfl, _, g3, g4, g5⟩
              have HL := Lib.hid (len_any g3.out)
              rw [evs_len] at HL
              have HB4 : Hid (Below w.heap.size w w4) := HBr.out.trans (g4.out.below (fun k hk => HT.out.low k hk) HBr.out.size)
              clear HPI g4 g5 HT HBr
              go_wp2_with fail
              refine HL.out.mono ?_
              rintro e w4b ⟨rfl, rfl⟩
              go_wp2_with fail
              go_roundw
              case rel => exact ⟨mi + 1, F4, by omega, by go_num, by rw [show min (mi + 1) lm = mi + 1 by omega]; exact g3, HB4⟩
              case measure => simp [intOf]; omega
            · obtain ⟨mi, hmi⟩ : ∃ mi, min i lm = mi := ⟨_, rfl⟩
              obtain rfl : mi = lm := by omega
              rw [hmi] at HT
              have HPI := Lib.hid (put_is HT.out hlm1 (er0 6 (i : Int) ⟨#[]⟩ 2 ⟨#[116]⟩) (er0_ok ..) (by rw [evs_len]; omega) (num' := r) (E' := evs mi) (L := []) (s := false) (er := 13) (by simp [putF, er0, evs_len, hr1]))
              have z1 : (mi : Int) ≤ (i : Int) := by omega
              have z2 : ¬ (i : Int) < (mi : Int) := by omega
              go_wp2_with fail
              refine HPI.out.mono ?_
              rintro e w4 ⟨tv4, F4, rfl, _, g3, g4, g5⟩
              have HL := Lib.hid (len_any g3.out)
              rw [evs_len] at HL
              have HB4 : Hid (Below w.heap.size w w4) := HBr.out.trans (g4.out.below (fun k hk => HT.out.low k hk) HBr.out.size)
              clear HPI g4 g5 HT HBr
              go_wp2_with fail
              refine HL.out.mono ?_
              rintro e w4b ⟨rfl, rfl⟩
              go_wp2_with fail
              go_roundw
              case rel => exact ⟨i + 1, F4, by omega, by go_num, by rw [show min (i + 1) mi = mi by omega]; exact g3, HB4⟩
              case measure => simp [intOf]; omega
          · have hi0 : ¬ (i : Int) < (n : Int) := by omega
            obtain rfl : i = n := by omega
            obtain ⟨m, hm⟩ : ∃ m, min i lm = m := ⟨_, rfl⟩
            rw [hm] at HT
            go_wp2_with fail
            have HPC := Lib.hid (put_is HT.out hlm1 (er0 7 (r : Int) ⟨#[]⟩ 0 ⟨#[]⟩) (er0_ok ..) (by rw [evs_len]; omega) (num' := -1) (E' := []) (L := evs m) (s := true) (er := 0) (by simp [putF, er0]))
            refine HPC.out.mono ?_
            rintro e w5 ⟨tv, F5, rfl, t5, g5, k5, f5⟩
            have HBe : Hid (Below w.heap.size w w5) := HBr.out.trans (k5.out.below (fun k hk => HT.out.low k hk) HBr.out.size)
            have HLN := Lib.hid (len_any g5.out)
            obtain ⟨A5, c5, rfl, HTA⟩ := told_at t5.out
            clear HPC t5 k5 f5 HT HBr
            rcases Nat.lt_or_ge lm i with hnl | hnl
            · obtain rfl : m = lm := by omega
              have hz1 : ¬ i ≤ m := by omega
              have hz2 : ¬ (i : Int) ≤ (m : Int) := by omega
              have hz3 : (m : Int) < (i : Int) := by omega
              go_wp2_with fail
              refine HLN.out.mono ?_
              rintro e w5b ⟨rfl, rfl⟩
              go_wp2_with fail
              go_loopw [15] (fun u15 wz => ∃ j : Nat, j ≤ m ∧ u15 = .int .i64 j ∧ wz = w5b) (fun u15 _ => m - (intOf u15).toNat)
              case atStart => exact ⟨0, by omega, rfl, rfl⟩
              case round =>
                obtain ⟨j, hj, rfl, rfl⟩ := hrel
                by_cases hjm : j < m
                · obtain ⟨b5, off5, rfl, c5⟩ := HTA.out j hjm
                  have hj0 : (j : Int) < (m : Int) := by omega
                  go_wp2_with fail
                  go_roundw
                  case rel => exact ⟨j + 1, by omega, by go_num, by trivial⟩
                  case measure => simp [intOf]; omega
                · obtain rfl : j = m := by omega
                  go_wp2_with fail
                  refine (lives_any _).mono ?_
                  rintro e w6 ⟨rfl, hb6⟩
                  have HF := Lib.hid (HBe.out.trans (hb6.out.mono HBe.out.size))
                  go_wp2_with fail
                  go_ret
                  exact ⟨by rfl, HF.out⟩
            · obtain rfl : m = i := by omega
              have hz1 : m ≤ lm := by omega
              have hz2 : (m : Int) ≤ (lm : Int) := by omega
              go_wp2_with fail
              refine HLN.out.mono ?_
              rintro e w5b ⟨rfl, rfl⟩
              go_wp2_with fail
              go_loopw [15] (fun u15 wz => ∃ j : Nat, j ≤ m ∧ u15 = .int .i64 j ∧ wz = w5b) (fun u15 _ => m - (intOf u15).toNat)
              case atStart => exact ⟨0, by omega, rfl, rfl⟩
              case round =>
                obtain ⟨j, hj, rfl, rfl⟩ := hrel
                by_cases hjm : j < m
                · obtain ⟨b5, off5, rfl, c5⟩ := HTA.out j hjm
                  have hj0 : (j : Int) < (m : Int) := by omega
                  go_wp2_with fail
                  go_roundw
                  case rel => exact ⟨j + 1, by omega, by go_num, by trivial⟩
                  case measure => simp [intOf]; omega
                · obtain rfl : j = m := by omega
                  go_wp2_with fail
                  refine (lives_any _).mono ?_
                  rintro e w6 ⟨rfl, hb6⟩
                  have HF := Lib.hid (HBe.out.trans (hb6.out.mono HBe.out.size))
                  go_wp2_with fail
                  go_ret
                  exact ⟨by rfl, HF.out⟩
end Go.Proofs.Ytjkmbggaoinkdaa.txbufHolds
