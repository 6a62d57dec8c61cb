import Derived.Test.YtbaafbcdhgfpdaaClaw
import Derived.Deep.RegionHeld3
import Derived.Deep.RegionWith
import Derived.Deep.DeepCutAuto
namespace Go.Proofs.Ytbaafbcdhgfpdaa.crcSums
open Go.RowKit Cr
theorem Rd.from {w : World} {A : Option Addr} {l : List Nat} (h : Rd w A l) (k : Nat) : Rd w (A.map (fun x => x.add k)) (l.drop k) := fun hl => by
  have hne : l ≠ [] := by rintro rfl; simp at hl
  obtain ⟨b, off, rfl, hc⟩ := h hne
  rw [Option.map_some, Addr.add_lit]
  exact (Rd.drop h k) hl
set_option maxHeartbeats 2000000 in
theorem walk (SUM : SumC) (MORE : MoreC) (a0 : Option Addr) (len0 cap0 : Nat) (z0 : List Int) (a1 a2 : Int) (w : World) (w0 : IsRow .u8 w a0 len0 cap0 z0) (w1 : (Lit.int .i64 a1).wf = true) (_ : (Lit.int .i64 a2).wf = true) :
    Calls Try.prog 3 #[.slice a0 len0 cap0, .int .i64 a1, .int .i64 a2] w fun e w' => e = .returned (.bool true) ∧ Below w.heap.size w w' := by
  obtain ⟨m, l, came, hm, hmc⟩ := w0.came
  obtain ⟨u0, u1⟩ := bounds_i64 w1
  clear w0 w1
  have HL := Lib.hid (lives_any SUM)
  have HS := Lib.hid SUM
  have HMO := Lib.hid MORE
  have HC := Lib.hid came
  have hcap := came.cap_
  unfold maxLen at hcap
  clear SUM MORE came
  obtain ⟨p, ep⟩ : ∃ p : Nat, (if a1 < 0 then -(a1 + 1) else a1) = (p : Int) := ⟨(if a1 < 0 then -(a1 + 1) else a1).toNat, by omega⟩
  have hp : (p : Int) ≤ 9223372036854775807 := by omega
  have EP := Lib.hid ep
  clear ep
  obtain ⟨k, hk⟩ : ∃ k, k = p % (m + 1) := ⟨_, rfl⟩
  have hkm : k ≤ m := by have := Nat.mod_lt p (show 0 < m + 1 by omega); omega
  have HK : Hid ((p : Int) % ((m : Int) + 1) = (k : Int)) := by show _ = _; rw [hk]; rfl
  clear hk
  go_enter Try.func3, Try.ntmps3
  go_wp2_with fail
  refine (HC.out.few _).mono ?_
  rintro e w1 ⟨rfl, rfl⟩
  go_upto_if 12 with (fail)
  go_cut [1] (fun s1 wx => s1 = .int .i64 p ∧ w = wx)
  case first =>
    by_cases gn : a1 < 0
    · have E2 : Hid (-(a1 + 1) = (p : Int)) := by show _ = _; rw [← EP.out, if_pos gn]
      have hq : decide (a1 < 0) = true := decide_eq_true gn
      go_wp2_with fail
      go_meet
      exact ⟨by rw [← E2.out], rfl⟩
    · have E2 : Hid (a1 = (p : Int)) := by show _ = _; rw [← EP.out, if_neg gn]
      have hq : decide (a1 < 0) = false := decide_eq_false gn
      go_wp2_with fail
      go_meet
      exact ⟨by rw [← E2.out], rfl⟩
  case rest =>
    obtain ⟨rfl, rfl⟩ := hcut
    go_wp2_with fail
    rw [HK.out]
    refine (refSum_any a0 l m cap0 _ HC.out.len_ (by omega) HC.out.bytes HC.out.rd).mono ?_
    rintro e w1 ⟨rfl, rfl⟩
    go_wp2_with fail
    have hB0 : Below w.heap.size w w.drew := (Below.refl _ w).drew
    have hk0 : (0 : Int) ≤ (k : Int) := Int.natCast_nonneg _
    have hk1 : (k : Int) ≤ (m : Int) := by omega
    have hk2 : (k : Int) ≤ (cap0 : Int) := by omega
    have tb : ∀ x ∈ l.take k, x < 256 := fun x hx => HC.out.bytes x (List.mem_of_mem_take hx)
    have db : ∀ x ∈ l.drop k, x < 256 := fun x hx => HC.out.bytes x (List.mem_of_mem_drop hx)
    have e3 : Hid (moreF (sum (l.take k)) (l.drop k) = sum l) := by show _ = _; rw [moreF_sum _ _ tb, List.take_append_drop]
    have TB := Lib.hid tb
    have DB := Lib.hid db
    have HB0 := Lib.hid hB0
    clear tb db hB0
    by_cases hkc : cap0 = k
    · obtain rfl : m = k := by omega
      subst hkc
      go_region_held3 (fun _ => True) (trivial) (first
        | (go_at_call_of 12 (Value.slice a0 cap0 cap0); refine (HS.out a0 l cap0 cap0 _ HC.out.len_ (by omega) HC.out.bytes (HC.out.rd.below HB0.out)).mono ?_; rintro e x1 ⟨rfl, b1⟩; have B1 := Lib.hid (HB0.out.trans (b1.out.mono HB0.out.size)); clear b1)
        | (go_at_call_of 12 (Value.slice a0 cap0 cap0); refine (HS.out a0 (l.take cap0) cap0 cap0 _ (by rw [List.length_take, HC.out.len_]; omega) (by omega) TB.out ((HC.out.rd.below B1.out).take _)).mono ?_; rintro e x2 ⟨rfl, b2⟩; have B2 := Lib.hid (B1.out.trans (b2.out.mono B1.out.size)); clear b2)
        | (go_at_call_of 13 (Value.int .i64 (sum (l.take cap0))); refine (HMO.out (sum (l.take cap0)) _ (l.drop cap0) _ _ _ (by rw [List.length_drop, HC.out.len_]; omega) (by omega) DB.out (by rw [List.drop_eq_nil_of_le (by rw [HC.out.len_]; omega)]; exact Rd.nil _ _)).mono ?_; rintro e x3 ⟨rfl, b3⟩; rw [e3.out]; have B3 := Lib.hid (B2.out.trans (b3.out.mono B2.out.size)); clear b3)
        | (go_at_call_of 13 (Value.int .i64 a2); refine (HMO.out a2 a0 l cap0 cap0 _ HC.out.len_ (by omega) HC.out.bytes (HC.out.rd.below B3.out)).mono ?_; rintro e x4 ⟨rfl, b4⟩; have B4 := Lib.hid (B3.out.trans (b4.out.mono B3.out.size)); clear b4)
        | (go_at_call 14; refine (refMore_any a0 l cap0 cap0 a2 _ HC.out.len_ (by omega) HC.out.bytes (HC.out.rd.below B4.out)).mono ?_; rintro e x5 ⟨rfl, rfl⟩)
        | (go_at_call 15; refine (HL.out _).mono ?_; rintro e x6 ⟨rfl, B6⟩))
      go_wp2_with fail
      go_ret
      exact ⟨rfl, B4.out.trans (B6.out.mono B4.out.size)⟩
    · go_region_held3 (fun _ => True) (trivial) (first
        | (go_at_call_of 12 (Value.slice a0 m cap0); refine (HS.out a0 l m cap0 _ HC.out.len_ (by omega) HC.out.bytes (HC.out.rd.below HB0.out)).mono ?_; rintro e x1 ⟨rfl, b1⟩; have B1 := Lib.hid (HB0.out.trans (b1.out.mono HB0.out.size)); clear b1)
        | (go_at_call_of 12 (Value.slice a0 k cap0); refine (HS.out a0 (l.take k) k cap0 _ (by rw [List.length_take, HC.out.len_]; omega) (by omega) TB.out ((HC.out.rd.below B1.out).take _)).mono ?_; rintro e x2 ⟨rfl, b2⟩; have B2 := Lib.hid (B1.out.trans (b2.out.mono B1.out.size)); clear b2)
        | (go_at_call_of 13 (Value.int .i64 (sum (l.take k))); refine (HMO.out (sum (l.take k)) _ (l.drop k) (m - k) (cap0 - k) _ (by rw [List.length_drop, HC.out.len_]) (by omega) DB.out (Rd.from (HC.out.rd.below B2.out) k)).mono ?_; rintro e x3 ⟨rfl, b3⟩; rw [e3.out]; have B3 := Lib.hid (B2.out.trans (b3.out.mono B2.out.size)); clear b3)
        | (go_at_call_of 13 (Value.int .i64 a2); refine (HMO.out a2 a0 l m cap0 _ HC.out.len_ (by omega) HC.out.bytes (HC.out.rd.below B3.out)).mono ?_; rintro e x4 ⟨rfl, b4⟩; have B4 := Lib.hid (B3.out.trans (b4.out.mono B3.out.size)); clear b4)
        | (go_at_call 14; refine (refMore_any a0 l m cap0 a2 _ HC.out.len_ (by omega) HC.out.bytes (HC.out.rd.below B4.out)).mono ?_; rintro e x5 ⟨rfl, rfl⟩)
        | (go_at_call 15; refine (HL.out _).mono ?_; rintro e x6 ⟨rfl, B6⟩))
      go_wp2_with fail
      go_ret
      exact ⟨rfl, B4.out.trans (B6.out.mono B4.out.size)⟩
end Go.Proofs.Ytbaafbcdhgfpdaa.crcSums
