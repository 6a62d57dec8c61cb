/-
  TxbufAborts: its walk.
-/
import Derived.Test.YtjkmbggaoinkdaaTbL
import Derived.Deep.DeepCutAuto
namespace Go.Proofs.Ytjkmbggaoinkdaa.txbufAborts
open Go.RowKit Go.Maps Dg
set_option maxRecDepth 100000
set_option linter.unusedVariables false
/-- The events that the law puts: so many of a table. -/
def evs (t : ByteArray) (k : Nat) : List Ev := List.replicate k (er0 3 0 t 0 ⟨#[]⟩).x
theorem evs_len (t : ByteArray) (k : Nat) : (evs t k).length = k := by simp [evs]
theorem evs_succ (t : ByteArray) (k : Nat) : evs t (k + 1) = evs t k ++ [(er0 3 0 t 0 ⟨#[]⟩).x] := by simp [evs, List.replicate_succ']
theorem evs_at (t : ByteArray) (k i : Nat) (h : i < (evs t k).length) : (evs t k)[i].t = t := by simp [evs, er0]
theorem told_at {w : World} {tv : Value} {t : ByteArray} {m : Nat} (h : Told w tv (evs t m)) : ∃ A c, tv = .slice A m c ∧ Hid (∀ i, i < m → ∃ b off, A = some ⟨b, off, none⟩ ∧ w.cell? ⟨b, off + i * 12 + 2, none⟩ = some (.string t)) := by
  obtain ⟨A, n, c, T, rfl, hn, hr, hm, _⟩ := h
  have hTm : T.length = m := by rw [← List.length_map (f := Er.x), hm, evs_len]
  obtain rfl : n = m := hn.symm.trans hTm
  refine ⟨A, c, rfl, fun i hi => ?_⟩
  have hiT : i < T.length := by omega
  obtain ⟨b, off, rfl, hc⟩ := hr (by intro e; rw [e] at hiT; simp at hiT)
  have q := hc i hiT 2 (by omega)
  have e : T[i].x.t = t := by
    have h1 : (T.map Er.x)[i]'(by simpa using hiT) = T[i].x := by simp
    rw [← h1]
    have h2 : (T.map Er.x)[i]'(by simpa using hiT) = (evs t n)[i]'(by rw [evs_len]; exact hi) := by simp only [hm]
    rw [h2]
    exact evs_at t n i _
  refine ⟨b, off, rfl, q.trans ?_⟩
  simp [Er.row, e]
set_option maxHeartbeats 4000000 in
theorem walk (a b c : Int) (w : World) (ha : -9223372036854775808 ≤ a ∧ a ≤ 9223372036854775807) (hb : -9223372036854775808 ≤ b ∧ b ≤ 9223372036854775807) (hc : -9223372036854775808 ≤ c ∧ c ≤ 9223372036854775807) :
    Calls Try.prog 7 #[.int .i64 a, .int .i64 b, .int .i64 c] w fun e w' => e = .returned (.bool true) ∧ Below w.heap.size w w' := by
  obtain ⟨p, ep, hp⟩ : ∃ p : Nat, Hid ((if a < 0 then -(a + 1) else a) = (p : Int)) ∧ p ≤ 9223372036854775807 := ⟨(if a < 0 then -(a + 1) else a).toNat, by show _ = _; split <;> omega, by split <;> omega⟩
  obtain ⟨q, eq, hq⟩ : ∃ p : Nat, Hid ((if b < 0 then -(b + 1) else b) = (p : Int)) ∧ p ≤ 9223372036854775807 := ⟨(if b < 0 then -(b + 1) else b).toNat, by show _ = _; split <;> omega, by split <;> omega⟩
  obtain ⟨r, er0', hr⟩ : ∃ p : Nat, Hid ((if c < 0 then -(c + 1) else c) = (p : Int)) ∧ p ≤ 9223372036854775807 := ⟨(if c < 0 then -(c + 1) else c).toNat, by show _ = _; split <;> omega, by split <;> omega⟩
  obtain ⟨lm, hlm, hlm2, hlm3⟩ : ∃ lm : Nat, 1 + (p : Int) % 20 = (lm : Int) ∧ 1 ≤ lm ∧ lm ≤ 20 := ⟨(1 + (p : Int) % 20).toNat, by omega, by omega, by omega⟩
  obtain ⟨np, hnp, hnp2⟩ : ∃ n : Nat, (q : Int) % 11 = (n : Int) ∧ n ≤ 10 := ⟨((q : Int) % 11).toNat, by omega, by omega⟩
  obtain ⟨nq, hnq, hnq2⟩ : ∃ n : Nat, (r : Int) % 11 = (n : Int) ∧ n ≤ 10 := ⟨((r : Int) % 11).toNat, by omega, by omega⟩
  have HLM := Lib.hid hlm
  clear hlm
  have hlm1 : (1 : Int) ≤ (lm : Int) := by omega
  have HN := Lib.hid (new_any (lm : Int) w)
  rw [show max (lm : Int) 1 = (lm : Int) by omega] at HN
  have HB0 := Lib.hid (buf_new w (lm : Int))
  have HL0 := Lib.hid ((Below.refl w.heap.size w).alloc (Nat.le_refl _) (.cells #[.int .i64 (lm : Int), .int .i64 (-1), .slice none 0 0] 55))
  obtain ⟨w0, hw0⟩ : ∃ W, W = w.alloc (.cells #[.int .i64 (lm : Int), .int .i64 (-1), .slice none 0 0] 55) := ⟨_, rfl⟩
  rw [← hw0] at HN HB0 HL0
  clear hw0
  have HP1 := Lib.hid (put_is HB0.out hlm1 (er0 2 1 ⟨#[]⟩ 0 ⟨#[]⟩) (er0_ok ..) (by simp) (num' := 1) (E' := []) (L := []) (s := false) (er := 0) (by simp [putF, er0]))
  go_enter Try.func7, Try.ntmps7
  go_upto_if 15 with (fail)
  go_cut [0] (fun s0 wx => s0 = .int .i64 p ∧ w = wx)
  case first =>
    by_cases gn : a < 0
    · have E2 : Hid (-(a + 1) = (p : Int)) := by show _ = _; rw [← ep.out, if_pos gn]
      have hq : decide (a < 0) = true := decide_eq_true gn
      go_wp2_with fail
      go_meet
      exact ⟨by rw [← E2.out], rfl⟩
    · have E2 : Hid (a = (p : Int)) := by show _ = _; rw [← ep.out, if_neg gn]
      have hq : decide (a < 0) = false := decide_eq_false gn
      go_wp2_with fail
      go_meet
      exact ⟨by rw [← E2.out], rfl⟩
  case rest =>
    obtain ⟨rfl, rfl⟩ := hcut
    go_upto_if 20 with (fail)
    go_cut [1] (fun s0 wx => s0 = .int .i64 q ∧ w = wx)
    case first =>
      by_cases gn : b < 0
      · have E2 : Hid (-(b + 1) = (q : Int)) := by show _ = _; rw [← eq.out, if_pos gn]
        have hq : decide (b < 0) = true := decide_eq_true gn
        go_wp2_with fail
        go_meet
        exact ⟨by rw [← E2.out], rfl⟩
      · have E2 : Hid (b = (q : Int)) := by show _ = _; rw [← eq.out, if_neg gn]
        have hq : decide (b < 0) = false := decide_eq_false gn
        go_wp2_with fail
        go_meet
        exact ⟨by rw [← E2.out], rfl⟩
    case rest =>
      obtain ⟨rfl, rfl⟩ := hcut
      go_upto_if 25 with (fail)
      go_cut [2] (fun s0 wx => s0 = .int .i64 r ∧ w = wx)
      case first =>
        by_cases gn : c < 0
        · have E2 : Hid (-(c + 1) = (r : Int)) := by show _ = _; rw [← er0'.out, if_pos gn]
          have hq : decide (c < 0) = true := decide_eq_true gn
          go_wp2_with fail
          go_meet
          exact ⟨by rw [← E2.out], rfl⟩
        · have E2 : Hid (c = (r : Int)) := by show _ = _; rw [← er0'.out, if_neg gn]
          have hq : decide (c < 0) = false := decide_eq_false gn
          go_wp2_with fail
          go_meet
          exact ⟨by rw [← E2.out], rfl⟩
      case rest =>
        obtain ⟨rfl, rfl⟩ := hcut
        go_wp2_with fail
        rw [HLM.out]
        refine HN.out.mono ?_
        rintro e w1 ⟨rfl, rfl⟩
        go_wp2_with fail
        refine HP1.out.mono ?_
        rintro e w2 ⟨tv1, F1, rfl, _, h3, h4, h5⟩
        have HL1 : Hid (Below w.heap.size w w2) := HL0.out.trans (h4.out.below (fun k hk => HB0.out.low k hk) HL0.out.size)
        clear HP1 HN h4 h5 HB0 HL0
        have h3' : Hid (BufAt w.heap.size w2 (lm : Int) 1 (evs ⟨#[116]⟩ (min 0 lm)) F1) := by rw [Nat.zero_min]; exact h3
        clear h3
        go_wp2_with fail
        go_loopw [8] (fun u8 wr => ∃ (i : Nat) (F : List Nat), i ≤ np ∧ u8 = .int .i64 i ∧ Hid (BufAt w.heap.size wr (lm : Int) 1 (evs ⟨#[116]⟩ (min i lm)) F) ∧ Hid (Below w.heap.size w wr)) (fun u8 _ => np - (intOf u8).toNat)
        case atStart => exact ⟨0, F1, by omega, rfl, h3', HL1⟩
        case round =>
          obtain ⟨i, F, hi, rfl, HT, HBr⟩ := hrel
          clear h3' HL1
          by_cases hin : i < np
          · have hi0 : (i : Int) < (np : Int) := by omega
            go_wp2_with fail
            obtain ⟨mi, hmi⟩ : ∃ mi, min i lm = mi := ⟨_, rfl⟩
            have hmil : mi ≤ lm := by omega
            rw [hmi] at HT
            have HPI : Hid (∃ er : Int, Calls Try.prog 12 #[.pointer (some ⟨w.heap.size, 0, none⟩), (er0 3 0 ⟨#[116]⟩ 0 ⟨#[]⟩).val] wr fun e w' => ∃ tv F', e = .returned (.tuple #[tv, .bool false, .int .i64 er]) ∧ Hid (Told w' tv []) ∧ Hid (BufAt w.heap.size w' (lm : Int) 1 (evs ⟨#[116]⟩ (min (i + 1) lm)) F') ∧ Hid (Tur F wr w') ∧ Hid (Fre F F' wr)) := by
              by_cases hil : i < lm
              · have e1 : mi = i := by omega
                subst e1
                have h9 : ¬ (lm : Int) ≤ (mi : Int) := by omega
                exact ⟨0, put_is HT.out hlm1 _ (er0_ok ..) (by rw [evs_len]; omega) (by rw [show min (mi + 1) lm = mi + 1 by omega, evs_succ]; simp [putF, er0, evs_len, h9])⟩
              · have e1 : mi = lm := by omega
                subst e1
                exact ⟨13, put_is HT.out hlm1 _ (er0_ok ..) (by rw [evs_len]; omega) (by rw [show min (i + 1) mi = mi by omega]; simp [putF, er0, evs_len])⟩
            obtain ⟨er, HPI2⟩ := HPI.out
            have HPI3 := Lib.hid HPI2
            clear HPI HPI2
            refine HPI3.out.mono ?_
            rintro e w4 ⟨tv4, F4, rfl, _, g3, g4, g5⟩
            have HB4 : Hid (Below w.heap.size w w4) := HBr.out.trans (g4.out.below (fun k hk => HT.out.low k hk) HBr.out.size)
            clear HPI3 g4 g5 HT HBr hmi
            go_wp2_with fail
            go_roundw
            case rel => exact ⟨i + 1, F4, by omega, by go_num, g3, HB4⟩
            case measure => simp [intOf]; omega
          · have hi0 : ¬ (i : Int) < (np : Int) := by omega
            obtain rfl : i = np := by omega
            go_wp2_with fail
            have HPA := Lib.hid (put_is HT.out hlm1 (er0 8 1 ⟨#[]⟩ 0 ⟨#[]⟩) (er0_ok ..) (by rw [evs_len]; omega) (num' := -1) (E' := []) (L := []) (s := false) (er := 0) (by simp [putF, er0]))
            refine HPA.out.mono ?_
            rintro e v5 ⟨tv, F5, rfl, t5, g5, k5, f5⟩
            have HBv : Hid (Below w.heap.size w v5) := HBr.out.trans (k5.out.below (fun k hk => HT.out.low k hk) HBr.out.size)
            have HLN := Lib.hid (len_any g5.out)
            obtain ⟨A5, n5, c5, T5, rfl, hn5, _, hm5, _⟩ := t5.out
            obtain rfl := List.map_eq_nil_iff.1 hm5
            obtain rfl : n5 = 0 := hn5.symm
            clear HPA t5 k5 f5 HT HBr hm5 hn5
            go_wp2_with fail
            refine HLN.out.mono ?_
            rintro e v6 ⟨rfl, rfl⟩
            have HP2 := Lib.hid (put_is g5.out hlm1 (er0 2 2 ⟨#[]⟩ 0 ⟨#[]⟩) (er0_ok ..) (by simp) (num' := 2) (E' := []) (L := []) (s := false) (er := 0) (by simp [putF, er0]))
            go_wp2_with fail
            refine HP2.out.mono ?_
            rintro e w7 ⟨tv7, F7, rfl, _, h7, k7, f7⟩
            have HL7 : Hid (Below w.heap.size w w7) := HBv.out.trans (k7.out.below (fun k hk => g5.out.low k hk) HBv.out.size)
            clear HP2 k7 f7 g5 HBv HLN
            have h7' : Hid (BufAt w.heap.size w7 (lm : Int) 2 (evs ⟨#[117]⟩ (min 0 lm)) F7) := by rw [Nat.zero_min]; exact h7
            clear h7
            go_wp2_with fail
            go_loopw [12] (fun u8 wr => ∃ (i : Nat) (F : List Nat), i ≤ nq ∧ u8 = .int .i64 i ∧ Hid (BufAt w.heap.size wr (lm : Int) 2 (evs ⟨#[117]⟩ (min i lm)) F) ∧ Hid (Below w.heap.size w wr)) (fun u8 _ => nq - (intOf u8).toNat)
            case atStart => exact ⟨0, F7, by omega, rfl, h7', HL7⟩
            case round =>
              obtain ⟨i, F, hi, rfl, HT, HBr⟩ := hrel
              clear h7' HL7
              by_cases hin : i < nq
              · have hi0 : (i : Int) < (nq : Int) := by omega
                go_wp2_with fail
                obtain ⟨mi, hmi⟩ : ∃ mi, min i lm = mi := ⟨_, rfl⟩
                have hmil : mi ≤ lm := by omega
                rw [hmi] at HT
                have HPI : Hid (∃ er : Int, Calls Try.prog 12 #[.pointer (some ⟨w.heap.size, 0, none⟩), (er0 3 0 ⟨#[117]⟩ 0 ⟨#[]⟩).val] wr fun e w' => ∃ tv F', e = .returned (.tuple #[tv, .bool false, .int .i64 er]) ∧ Hid (Told w' tv []) ∧ Hid (BufAt w.heap.size w' (lm : Int) 2 (evs ⟨#[117]⟩ (min (i + 1) lm)) F') ∧ Hid (Tur F wr w') ∧ Hid (Fre F F' wr)) := by
                  by_cases hil : i < lm
                  · have e1 : mi = i := by omega
                    subst e1
                    have h9 : ¬ (lm : Int) ≤ (mi : Int) := by omega
                    exact ⟨0, put_is HT.out hlm1 _ (er0_ok ..) (by rw [evs_len]; omega) (by rw [show min (mi + 1) lm = mi + 1 by omega, evs_succ]; simp [putF, er0, evs_len, h9])⟩
                  · have e1 : mi = lm := by omega
                    subst e1
                    exact ⟨13, put_is HT.out hlm1 _ (er0_ok ..) (by rw [evs_len]; omega) (by rw [show min (i + 1) mi = mi by omega]; simp [putF, er0, evs_len])⟩
                obtain ⟨er, HPI2⟩ := HPI.out
                have HPI3 := Lib.hid HPI2
                clear HPI HPI2
                refine HPI3.out.mono ?_
                rintro e w4 ⟨tv4, F4, rfl, _, g3, g4, g5⟩
                have HB4 : Hid (Below w.heap.size w w4) := HBr.out.trans (g4.out.below (fun k hk => HT.out.low k hk) HBr.out.size)
                clear HPI3 g4 g5 HT HBr hmi
                go_wp2_with fail
                go_roundw
                case rel => exact ⟨i + 1, F4, by omega, by go_num, g3, HB4⟩
                case measure => simp [intOf]; omega
              · have hi0 : ¬ (i : Int) < (nq : Int) := by omega
                obtain rfl : i = nq := by omega
                obtain ⟨i2, hi2⟩ : ∃ k : Nat, k = i := ⟨_, rfl⟩
                rw [← hi2] at HT
                obtain ⟨m, hm⟩ : ∃ m, min i2 lm = m := ⟨_, rfl⟩
                rw [hm] at HT
                go_wp2_with fail
                have HPC := Lib.hid (put_is HT.out hlm1 (er0 7 2 ⟨#[]⟩ 0 ⟨#[]⟩) (er0_ok ..) (by rw [evs_len]; omega) (num' := -1) (E' := []) (L := evs ⟨#[117]⟩ m) (s := true) (er := 0) (by simp [putF, er0]))
                refine HPC.out.mono ?_
                rintro e w5 ⟨tv, F5, rfl, t5, g5, k5, f5⟩
                have HBe : Hid (Below w.heap.size w w5) := HBr.out.trans (k5.out.below (fun k hk => HT.out.low k hk) HBr.out.size)
                obtain ⟨A5, c5, rfl, HTA⟩ := told_at t5.out
                clear HPC t5 k5 f5 HT HBr
                go_wp2_with fail
                go_loopw [13] (fun u15 wz => ∃ j : Nat, j ≤ m ∧ u15 = .int .i64 j ∧ wz = w5) (fun u15 _ => m - (intOf u15).toNat)
                case atStart => exact ⟨0, by omega, rfl, rfl⟩
                case round =>
                  obtain ⟨j, hj, rfl, rfl⟩ := hrel
                  by_cases hjm : j < m
                  · obtain ⟨b5, off5, rfl, c5⟩ := HTA.out j hjm
                    have hj0 : (j : Int) < (m : Int) := by omega
                    go_wp2_with fail
                    go_roundw
                    case rel => exact ⟨j + 1, by omega, by go_num, by trivial⟩
                    case measure => simp [intOf]; omega
                  · obtain rfl : j = m := by omega
                    rcases Nat.lt_or_ge lm i2 with hnl | hnl
                    · obtain rfl : j = lm := by omega
                      have hz1 : ¬ i2 ≤ j := by omega
                      have hz2 : ¬ (i2 : Int) ≤ (j : Int) := by omega
                      have hz3 : (j : Int) < (i2 : Int) := by omega
                      go_wp2_with fail
                      refine (lives_any _).mono ?_
                      rintro e w6 ⟨rfl, hb6⟩
                      have HF := Lib.hid (HBe.out.trans (hb6.out.mono HBe.out.size))
                      go_wp2_with fail
                      go_ret
                      exact ⟨by rfl, HF.out⟩
                    · obtain rfl : j = i2 := by omega
                      have hz1 : j ≤ lm := by omega
                      have hz2 : (j : Int) ≤ (lm : Int) := by omega
                      go_wp2_with fail
                      refine (lives_any _).mono ?_
                      rintro e w6 ⟨rfl, hb6⟩
                      have HF := Lib.hid (HBe.out.trans (hb6.out.mono HBe.out.size))
                      go_wp2_with fail
                      go_ret
                      exact ⟨by rfl, HF.out⟩
end Go.Proofs.Ytjkmbggaoinkdaa.txbufAborts
