/-
  What the program takes keys apart with: text, number, head.
-/
import Derived.Test.YtjkmbggaoinkdaaDoorDec
namespace Go.Proofs.YtjkmbggaoinkdaaDoor
open Go.RowKit Dg
def textR : Option (List Nat × Nat) → Value
  | none => .tuple #[.string ⟨#[]⟩, .int .i64 0, .bool false]
  | some x => .tuple #[.string (bs x.1), .int .i64 (x.2 : Int), .bool true]
theorem sb_drop (s : ByteArray) (k : Nat) (h : k < s.size) : (sb s).drop k = (s[k]'h).toNat :: (sb s).drop (k + 1) := by
  rw [List.drop_eq_getElem_cons (by rw [sb_length]; exact h), sb_get s k h]
set_option maxHeartbeats 2000000 in
set_option maxRecDepth 100000 in
theorem text_any (s : ByteArray) (w : World) (hs : s.size ≤ 100000) (R : Option (List Nat × Nat)) (hR : decS false [] 0 (sb s) = R) :
    Calls Tryd.prog 137 #[.string s] w fun e w' => e = .returned (textR R) ∧ Hid (Below w.heap.size w w') := by
  have HR := Lib.hid hR
  clear hR
  go_enter Tryd.func137, Tryd.ntmps137
  go_wp2_with fail
  go_loopw [5, 6, 11] (fun x z i wr => ∃ (k : Nat) (u : Value) (bz : Bool) (acc : List Nat), k ≤ s.size ∧ i = .int .i64 k ∧ u = x ∧ z = .bool bz ∧ acc.length ≤ k ∧ Hid (decS bz acc k ((sb s).drop k) = R) ∧ Hid (Own w.heap.size wr u acc) ∧ Hid (Below w.heap.size w wr)) (fun _ _ i _ => s.size - (intOf i).toNat)
  case atStart => exact ⟨0, _, false, [], by omega, rfl, rfl, rfl, by simp, HR, own_nil _ _, Below.refl _ _⟩
  case round =>
    obtain ⟨k, u, bz, acc, hk, rfl, rfl, rfl, hac, HD, HO, HB⟩ := hrel
    by_cases hlt : k < s.size
    · have HS := Lib.hid (sb_drop s k hlt)
      have hb := s[k].toNat_lt
      cases bz
      · by_cases hz : s[k].toNat = 0
        · have HD2 : Hid (decS true acc (k + 1) ((sb s).drop (k + 1)) = R) := by
            show _ = _
            rw [← HD.out, HS.out]; simp [decS, hz]
          have hzz : ((s[k].toNat : Int) == 0) = true := by rw [hz]; rfl
          clear HD HS
          go_wp2_with fail
          go_roundw
          case rel => exact ⟨k + 1, u, true, acc, by omega, by go_num, rfl, rfl, by omega, HD2, HO, HB⟩
          case measure => simp [intOf]; omega
        · have HD2 : Hid (decS false (acc ++ [s[k].toNat]) (k + 1) ((sb s).drop (k + 1)) = R) := by
            show _ = _
            rw [← HD.out, HS.out]; simp [decS, hz]
          have hzz : ((s[k].toNat : Int) == 0) = false := by simp; omega
          have HA := Lib.hid (app_new wr w.heap.size u acc [s[k].toNat] #[.int .u8 s[k].toNat] (by simp [bv]) 1 rfl HO.out HB.out.size (by omega))
          clear HD HS
          go_wp2_with (at_builtin; refine wpList_app rfl _ _ 46 46 rfl u (.slice (some ⟨wr.heap.size, 0, none⟩) 1 1) rfl rfl ?_; obtain ⟨R2, W', hrun, hmade⟩ := HA.out; refine ⟨R2, W', hrun, ?_⟩; have HM := Lib.hid hmade; clear hrun hmade HA)
          go_roundw
          case rel => exact ⟨k + 1, R2, false, _, by omega, by go_num, rfl, rfl, by simp; omega, HD2, HM.out.1, HB.out.trans HM.out.2⟩
          case measure => simp [intOf]; omega
      · by_cases h255 : s[k].toNat = 255
        · have HD2 : Hid (decS false (acc ++ [0]) (k + 1) ((sb s).drop (k + 1)) = R) := by
            show _ = _
            rw [← HD.out, HS.out]; simp [decS, h255]
          have hzz : ((s[k].toNat : Int) == 255) = true := by rw [h255]; rfl
          have HA := Lib.hid (app_new wr w.heap.size u acc [0] #[.int .u8 0] rfl 1 rfl HO.out HB.out.size (by omega))
          clear HD HS
          go_wp2_with (at_builtin; refine wpList_app rfl _ _ 46 46 rfl u (.slice (some ⟨wr.heap.size, 0, none⟩) 1 1) rfl rfl ?_; obtain ⟨R2, W', hrun, hmade⟩ := HA.out; refine ⟨R2, W', hrun, ?_⟩; have HM := Lib.hid hmade; clear hrun hmade HA)
          go_roundw
          case rel => exact ⟨k + 1, R2, false, _, by omega, by go_num, rfl, rfl, by simp; omega, HD2, HM.out.1, HB.out.trans HM.out.2⟩
          case measure => simp [intOf]; omega
        · have hzz : ((s[k].toNat : Int) == 255) = false := by simp; omega
          by_cases h1 : s[k].toNat = 1
          · have HD2 : Hid (R = some (acc, k + 1)) := by
              show _ = _
              rw [← HD.out, HS.out]; simp [decS, h1]
            have hzy : ((s[k].toNat : Int) == 1) = true := by rw [h1]; rfl
            clear HD HS
            obtain ⟨A1, n1, c1, rfl, HL1, hconv⟩ := own_conv HO.out
            go_wp2_with fail
            go_ret3
            exact ⟨by rw [HD2.out]; rfl, HB⟩
          · have HD2 : Hid (R = none) := by
              show _ = _
              rw [← HD.out, HS.out]; simp [decS, h1, h255]
            have hzy : ((s[k].toNat : Int) == 1) = false := by simp; omega
            clear HD HS
            go_wp2_with fail
            go_ret3
            exact ⟨by rw [HD2.out]; rfl, HB⟩
    · obtain rfl : k = s.size := by omega
      have HD2 : Hid (R = none) := by
        show _ = _
        rw [← HD.out, List.drop_eq_nil_of_le (by rw [sb_length]; exact Nat.le_refl _)]
        cases bz <;> rfl
      go_wp2_with fail
      go_ret3
      exact ⟨by rw [HD2.out]; rfl, HB⟩
/-- A number of 64 bits, with its sign. -/
def sg (m : Nat) : Int := if m < 9223372036854775808 then m else (m : Int) - 18446744073709551616
theorem be_take_succ (s : ByteArray) (k : Nat) (h : k < s.size) : beN ((sb s).take (k + 1)) = beN ((sb s).take k) * 256 + (s[k]'h).toNat := by
  rw [sb_take_succ s k h, be_snoc]
theorem or_shl (m b : Nat) (hm : m < 72057594037927936) (hb : b < 256) : bits .or .i64 (wrap64 ((m : Int) * 256)) (b : Int) = sg (m * 256 + b) := by
  show IntKind.i64.wrap ((BitVec.ofInt 64 (wrap64 ((m : Int) * 256)) ||| BitVec.ofInt 64 (b : Int)).toNat : Int) = _
  have e1 : (BitVec.ofInt 64 (wrap64 ((m : Int) * 256))).toNat = m * 256 := by
    rw [BitVec.toNat_ofInt]
    unfold wrap64
    omega
  have e2 : (BitVec.ofInt 64 (b : Int)).toNat = b := ofInt_u64 b (by omega)
  have e3 : m * 256 ||| b = m * 256 + b := by
    have h := Nat.two_pow_add_eq_or_of_lt (i := 8) (b := b) (by omega) m
    rw [show (2 : Nat) ^ 8 * m = m * 256 by omega] at h
    exact h.symm
  rw [BitVec.toNat_or, e1, e2, e3, IntKind.wrap_i64]
  unfold sg
  split <;> omega
set_option maxHeartbeats 2000000 in
set_option maxRecDepth 100000 in
theorem number_any (s : ByteArray) (size : Nat) (w : World) (hs : s.size ≤ 100000) (h1 : 1 ≤ size) (h8 : size ≤ 8) :
    Calls Tryd.prog 136 #[.string s, .int .i64 size] w fun e w' => e = .returned (if s.size < size then .tuple #[.int .i64 0, .int .i64 0, .bool false] else .tuple #[.int .i64 (sg (beN ((sb s).take size))), .int .i64 size, .bool true]) ∧ w = w' := by
  by_cases hlt : s.size < size
  · rw [if_pos hlt]
    go_enter Tryd.func136, Tryd.ntmps136
    go_wp2_with fail
    go_ret3
    exact ⟨rfl, rfl⟩
  · rw [if_neg hlt]
    have hge : size ≤ s.size := by omega
    go_enter Tryd.func136, Tryd.ntmps136
    go_wp2_with fail
    go_loop [7, 14] (fun x i => ∃ k : Nat, k ≤ size ∧ i = .int .i64 k ∧ x = .int .i64 (sg (beN ((sb s).take k)))) (fun _ i => size - (intOf i).toNat)
    case atStart => exact ⟨0, by omega, rfl, rfl⟩
    case round =>
      obtain ⟨k, hk, rfl, rfl⟩ := hrel
      by_cases hks : k < size
      · have hkz : k < s.size := by omega
        have HS := Lib.hid (be_take_succ s k hkz)
        have hm : beN ((sb s).take k) < 72057594037927936 := by
          have h := be_lt ((sb s).take k) (fun x hx => sb_byte s x (List.mem_of_mem_take hx))
          have e : ((sb s).take k).length = k := by rw [List.length_take, sb_length]; omega
          rw [e] at h
          exact Nat.lt_of_lt_of_le h (by rw [show (72057594037927936 : Nat) = 256 ^ 7 by decide]; exact Nat.pow_le_pow_right (by omega) (by omega))
        generalize beN ((sb s).take k) = m at *
        have HG : Hid (sg m = (m : Int)) := by show _ = _; unfold sg; rw [if_pos (by omega)]
        have hb := s[k].toNat_lt
        have HO := Lib.hid (or_shl m s[k].toNat hm hb)
        rw [HG.out]
        go_wp2_with fail
        go_round
        case rel => exact ⟨k + 1, by omega, by go_num, by rw [HO.out, HS.out]⟩
        case measure => simp [intOf]; omega
      · obtain rfl : k = size := by omega
        go_wp2_with fail
        go_ret3
        exact ⟨rfl, rfl⟩
end Go.Proofs.YtjkmbggaoinkdaaDoor
