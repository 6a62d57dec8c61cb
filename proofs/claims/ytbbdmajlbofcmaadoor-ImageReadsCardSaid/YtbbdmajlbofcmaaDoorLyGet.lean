/-
  What the functions of layer 1 that read bytes do: head, pass, number and the reader's methods.
-/
import Derived.Test.YtbbdmajlbofcmaaDoorLyPut
import Derived.Test.YtbbdmajlbofcmaaDoorLyHead
namespace Go.Proofs.YtbbdmajlbofcmaaDoor
open Go.RowKit Dg
set_option maxRecDepth 100000

theorem and127_any (x : Nat) (h : x < 256) : bits .and .u8 (x : Int) 127 = ((x % 128 : Nat) : Int) := by
  have hh := u8_and_nat x 127 h (by omega)
  have o := and127 ⟨x, h⟩
  simp only at o
  rw [o] at hh
  exact hh
theorem pow_split : ∀ k, k ≤ 9 → (18446744073709551616 : Nat) = 128 ^ k * (18446744073709551616 / 128 ^ k) := by
  intro i hi
  have : i = 0 ∨ i = 1 ∨ i = 2 ∨ i = 3 ∨ i = 4 ∨ i = 5 ∨ i = 6 ∨ i = 7 ∨ i = 8 ∨ i = 9 := by omega
  rcases this with rfl | rfl | rfl | rfl | rfl | rfl | rfl | rfl | rfl | rfl <;> decide
theorem bits_join (k N d : Nat) (hk : k ≤ 9) (hN : N < 128 ^ k) :
    bits .or .u64 (N : Int) (IntKind.u64.wrap ((d : Int) * 2 ^ (7 * k))) = ((join k N d : Nat) : Int) := by
  have e : IntKind.u64.wrap ((d : Int) * 2 ^ (7 * k)) = ((d * 128 ^ k % 18446744073709551616 : Nat) : Int) := by
    rw [IntKind.wrap_u64, ← pow7, Int.natCast_emod, Int.natCast_mul, Int.natCast_pow]; rfl
  have hp := pow_le_nine k hk
  have hs : d * 128 ^ k % 18446744073709551616 = 2 ^ (7 * k) * (d % (18446744073709551616 / 128 ^ k)) := by
    rw [pow7]
    conv => lhs; rw [pow_split k hk]
    rw [Nat.mul_comm d, Nat.mul_mod_mul_left]
  rw [e, u64_or_nat _ _ (by omega) (Nat.mod_lt _ (by omega))]
  have ho := Nat.two_pow_add_eq_or_of_lt (i := 7 * k) (b := N) (by rw [pow7]; exact hN) (d % (18446744073709551616 / 128 ^ k))
  unfold join
  rw [hs, Nat.or_comm, ← ho, Nat.add_comm]

/-- What 'head' answers. -/
def HeadOut (R : Nat × Nat × Nat) (w : World) (e : Ending) (w' : World) : Prop :=
  e = .returned (.tuple #[.int .u64 (R.1 : Int), .int .i64 (R.2.1 : Int), .int .i64 (R.2.2 : Int)]) ∧ w = w'

set_option maxHeartbeats 1000000 in
theorem head_some (b off : Nat) (l : List Nat) (c most : Nat) (w : World) (hn : l.length ≤ 1000000) (hl : ∀ x ∈ l, x < 256) (hc : ∀ i (h : i < l.length), w.cell? ⟨b, off + i, none⟩ = some (bv l[i])) :
    Calls Tryd.prog 128 #[.slice (some ⟨b, off, none⟩) l.length c, .int .u64 most] w (HeadOut (headF most 10 0 0 l) w) := by
  have HC := Lib.hid hc
  clear hc
  generalize hR : headF most 10 0 0 l = R
  have HR0 := Lib.hid hR
  clear hR
  go_enter Tryd.func128, Tryd.ntmps128
  go_wp2_with fail
  go_loop [7, 10] (fun n i => ∃ k N : Nat, k ≤ 10 ∧ i = .int .i64 k ∧ n = .int .u64 N ∧ Hid (k ≤ 9 → N < 128 ^ k) ∧ k ≤ l.length ∧ Hid (headF most (10 - k) k N (l.drop k) = R)) (fun _ i => 10 - (intOf i).toNat)
  case atStart => exact ⟨0, 0, by omega, rfl, rfl, fun _ => by simp, by omega, HR0.out⟩
  case round =>
    clear HR0
    obtain ⟨k, N, hk, rfl, rfl, hN, hkl, HR⟩ := hrel
    by_cases h10 : k < 10
    · obtain ⟨f, hf⟩ : ∃ f, f + 1 = 10 - k := ⟨9 - k, by omega⟩
      have HF := Lib.hid hf
      clear hf
      by_cases hlen : k < l.length
      · have hcell := HC.out k hlen
        have hb := hl l[k] (List.getElem_mem hlen)
        have HD := Lib.hid (List.drop_eq_getElem_cons hlen)
        generalize l[k] = x at *
        unfold bv at hcell
        have hj := bits_join k N (x % 128) (by omega) (hN.out (by omega))
        have hq := int_div_pow (join k N (x % 128)) k
        have HJ9 : Hid (k + 1 ≤ 9 → join k N (x % 128) < 128 ^ (k + 1)) := fun h => join_lt (by omega) (hN.out (by omega)) (by omega)
        have HR1 : Hid (headF most (f + 1) k N (x :: l.drop (k + 1)) = R) := by show _ = _; rw [HF.out, ← HD.out]; exact HR.out
        obtain ⟨d, hd⟩ : ∃ d, d = x % 128 := ⟨_, rfl⟩
        have ha := and127_any x hb
        rw [← hd] at hj hq ha
        have HX := Lib.hid hd
        clear hd
        obtain ⟨M, hM⟩ : ∃ M, M = join k N d := ⟨_, rfl⟩
        rw [← hM] at hj hq
        have HM := Lib.hid hM
        clear hM
        obtain ⟨q, hq'⟩ : ∃ q, q = M / 128 ^ k := ⟨_, rfl⟩
        rw [← hq'] at hq
        have HQ := Lib.hid hq'
        clear hq' HR HD
        have hdb : d < 128 := by rw [HX.out]; omega
        have hMb : M < 18446744073709551616 := by rw [HM.out]; exact join_big k (by omega) (hN.out (by omega))
        by_cases h128 : x < 128
        · have g : decide (128 ≤ (x : Int)) = false := by simp; omega
          have bad : ((0 < k ∧ d = 0) ∨ q ≠ d ∨ most < M) → R = (0, 0, 2) := fun hh => head_form HR1.out h128 (by rw [← HX.out, ← HM.out, ← HQ.out]; exact hh)
          have good : ¬ ((0 < k ∧ d = 0) ∨ q ≠ d ∨ most < M) → R = (M, k + 1, 0) := fun hh => by
            have := head_good HR1.out h128 (by rw [← HX.out, ← HM.out, ← HQ.out]; exact hh)
            rw [← HX.out, ← HM.out] at this
            exact this
          have BAD := Lib.hid bad
          have GOOD := Lib.hid good
          clear bad good
          by_cases c1 : 0 < k <;> by_cases c2 : d = 0
          all_goals
            have C2 := Lib.hid c2
            first | (have td : ((d : Int) == 0) = true := by simp; omega) | (have td : ((d : Int) == 0) = false := by simp; omega)
            clear c2
            by_cases c3 : q = d
            all_goals
              have C3 := Lib.hid c3
              first | (have tq : ((q : Int) != (d : Int)) = true := by simp; omega) | (have tq : ((q : Int) != (d : Int)) = false := by simp; omega)
              clear c3
              by_cases c4 : most < M
              all_goals
                go_wp2_with fail
                go_ret3
                first
                  | (have e := BAD.out (by have := C2.out; have := C3.out; omega); exact ⟨by rw [e]; rfl, rfl⟩)
                  | (have e := GOOD.out (by have := C2.out; have := C3.out; omega); exact ⟨by rw [e]; simp, rfl⟩)
        · have g : decide (128 ≤ (x : Int)) = true := by simp; omega
          go_wp2_with fail
          go_round
          case rel => exact ⟨k + 1, M, by omega, by go_num, rfl, (by rw [HM.out, HX.out]; exact HJ9), by omega, by show _ = _; rw [show 10 - (k + 1) = f by have := HF.out; omega, HM.out, HX.out]; exact head_more HR1.out (by omega)⟩
          case measure => simp [intOf]; omega
      · obtain rfl : k = l.length := by omega
        have e : R = (0, 0, 4) := head_end (most := most) (f := f) (i := l.length) (n := N) (by rw [HF.out, ← HR.out, List.drop_length])
        have H := Lib.hid e
        clear e
        go_wp2_with fail
        go_ret3
        exact ⟨by rw [H.out]; rfl, rfl⟩
    · obtain rfl : k = 10 := by omega
      have e : R = (0, 0, 2) := head_over HR.out
      have H := Lib.hid e
      clear e
      go_wp2_with fail
      go_ret3
      exact ⟨by rw [H.out]; rfl, rfl⟩

set_option maxHeartbeats 400000 in
theorem head_none (A : Option Addr) (c most : Nat) (w : World) :
    Calls Tryd.prog 128 #[.slice A 0 c, .int .u64 most] w (HeadOut (0, 0, 4) w) := by
  go_enter Tryd.func128, Tryd.ntmps128
  go_wp2_with fail
  go_loop [7, 10] (fun n i => i = .int .i64 0 ∧ n = .int .u64 0) (fun _ _ => 0)
  case atStart => exact ⟨rfl, rfl⟩
  case round =>
    obtain ⟨rfl, rfl⟩ := hrel
    go_wp2_with fail
    go_ret3
    exact ⟨rfl, rfl⟩
theorem head_any (A : Option Addr) (l : List Nat) (c most : Nat) (w : World) (hn : l.length ≤ 1000000) (hl : ∀ x ∈ l, x < 256) (h : Rd w A l) :
    Calls Tryd.prog 128 #[.slice A l.length c, .int .u64 most] w (HeadOut (headF most 10 0 0 l) w) := by
  rcases l with _ | ⟨x, l⟩
  · exact head_none A c most w
  · obtain ⟨b, off, rfl, hc⟩ := h (by simp)
    exact head_some b off _ c most w hn hl hc
end Go.Proofs.YtbbdmajlbofcmaaDoor
