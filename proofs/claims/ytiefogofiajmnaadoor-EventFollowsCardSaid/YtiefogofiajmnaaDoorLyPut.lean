/-
  What the functions of layer 1 that write bytes do: digits, behind, Number, Signed, Text.
-/
import Derived.Test.YtiefogofiajmnaaDoorKeyB
import Derived.Test.YtiefogofiajmnaaDoorShelf
namespace Go.Proofs.YtiefogofiajmnaaDoor
open Go.RowKit Dg
set_option maxRecDepth 100000
def big : Nat := 18446744073709551616
theorem len64_any (x : Nat) (w : World) (h : x < big) :
    Calls Tryd.prog 92 #[.int .u64 x] w fun e w' => e = .returned (.int .i64 (Lib.bitLen x)) ∧ w = w' :=
  (Tryd.bits_Len64 x w (by omega) (by unfold big at h; omega)).mono fun e w' ⟨he, hw⟩ => ⟨by rw [he, Int.toNat_natCast], hw.symm⟩

/-- What 'digits' leaves: a new block, the last one, with the digits. -/
def Digs (n : Nat) (w : World) (e : Ending) (w' : World) : Prop :=
  e = .returned (.slice (some ⟨w.heap.size, 0, none⟩) (digs n).length (digs n).length) ∧ Has w' w.heap.size 5 ((digs n).map bv).toArray ∧ w'.heap.size = w.heap.size + 1 ∧ Below w.heap.size w w'

set_option maxHeartbeats 400000 in
theorem digits_any (n : Nat) (w : World) (h1 : n < big) : Calls Tryd.prog 75 #[.int .u64 n] w (Digs n w) := by
  have hor : bits .or .u64 (n : Int) 1 = ((n ||| 1 : Nat) : Int) := u64_or_nat n 1 (by unfold big at h1; exact h1) (by omega)
  have hsz : size n = (digs n).length := size_eq n h1
  have hp := digs_pos n
  have ht := digs_le_ten n h1
  obtain ⟨i0, hi, hz0, hz1, hz2⟩ := info_parts info5
  have hor2 : (n ||| 1) < big := by rw [or_one]; unfold big at h1 ⊢; split <;> omega
  have hb : ((Lib.bitLen (n ||| 1) : Nat) : Int) ≤ 70 := by unfold size at hsz; omega
  have HQ : Hid ((((Lib.bitLen (n ||| 1) : Nat) : Int) + 6) / 7 = ((digs n).length : Int)) := by show _ = _; unfold size at hsz; omega
  have HO := Lib.hid hor
  have hmk := fun (k : Nat) (hk : k ≤ 10) (W : World) => run_make (P := Tryd.prog) W 57 5 i0 (.int .u8 0) Tryd.underlying57 hi hz0 .i64 .i64 k k (by omega) (by omega) (by rw [hz2]; omega) (by omega)
  have HM := Lib.hid hmk
  have Hz1 := Lib.hid hz1
  clear hsz hor hmk hz1
  go_enter Tryd.func75, Tryd.ntmps75
  go_wp2_with fail
  rw [HO.out]
  refine (len64_any _ _ hor2).mono ?_
  rintro e w' ⟨rfl, rfl⟩
  go_wp2_with fail
  rw [HQ.out, HM.out _ ht]
  simp only [Int.toNat_natCast, Hz1.out]
  rw [arr_zero n]
  clear HM HQ HO Hz1
  generalize hL : (digs n).length = L at *
  have HL := Lib.hid hL
  clear hL
  go_wp2_with fail
  go_loopw [14] (fun i wr => ∃ k : Nat, k ≤ L ∧ i = .int .i64 k ∧ Has wr w.heap.size 5 (arr n L k) ∧ wr.heap.size = w.heap.size + 1 ∧ Below w.heap.size w wr) (fun i _ => L - (intOf i).toNat)
  case atStart => exact ⟨0, by omega, rfl, Has.new _ _ _, by simp, (Below.refl _ _).alloc (Nat.le_refl _) _⟩
  case round =>
    obtain ⟨k, hk, rfl, hblk, hsz, hbel⟩ := hrel
    have HB := Lib.hid hblk
    have HS := Lib.hid hsz
    clear hblk hsz
    by_cases hlt : k < L
    · have hc : wr.cell? ⟨w.heap.size, k, none⟩ = some (if k < k then Value.int .u8 ((n / 128 ^ k % 128 + 128 : Nat) : Int) else .int .u8 0) := by
        rw [HB.out.cell, arr_get n L k k hlt]
      have hf := HB.out.free k
      go_wp2_with fail
      go_roundw
      case rel =>
        refine ⟨k + 1, by omega, by go_num, ?_, ?_, ?_⟩
        · rw [bits_or128, ← arr_put]; exact HB.out.put k _
        · rw [size_set]; exact HS.out
        · exact hbel.setCell (Nat.le_refl _) _
      case measure => simp [intOf]; omega
    · obtain rfl : k = L := by omega
      have hc : wr.cell? ⟨w.heap.size, k - 1, none⟩ = some (Value.int .u8 ((n / 128 ^ (k - 1) % 128 + 128 : Nat) : Int)) := by
        rw [HB.out.cell, arr_get n k k (k - 1) (by omega), if_pos (by omega)]
      have hf := HB.out.free (k - 1)
      go_wp2_with fail
      have e : bits .and .u8 ((n : Int) / 128 ^ (k - 1) % 128 + 128) 127 = ((n / 128 ^ (k - 1) % 128 : Nat) : Int) := by
        rw [← bits_and127]; simp
      rw [e]
      go_ret
      refine ⟨by rw [HL.out]; rfl, ?_, ?_, ?_⟩
      · rw [← arr_end n k HL.out hp]; exact HB.out.put (k - 1) _
      · rw [size_set]; exact HS.out
      · exact hbel.setCell (Nat.le_refl _) _

theorem Digs.made {n : Nat} {w : World} {e : Ending} {w' : World} (h : Digs n w e w') : ∃ v, e = .returned v ∧ Made w (digs n) v w' := by
  obtain ⟨he, hh, _, hb⟩ := h
  refine ⟨_, he, _, _, rfl, Nat.le_refl _, Rd.of_has hh fun i hi => ?_, hb⟩
  simp [hi]

/-- A slice comes back, with the bytes l, in memory of the call's own. -/
def Out (w : World) (l : List Nat) (e : Ending) (w' : World) : Prop := ∃ v, e = .returned v ∧ Made w l v w'

set_option maxHeartbeats 400000 in
theorem behind_any (A : Option Addr) (l : List Nat) (c : Nat) (A' : Option Addr) (m : List Nat) (d : Nat) (w : World) (hn : l.length ≤ c) (hA : Rd w A l) (hA' : Rd w A' m) (hm : 0 < m.length) (hb : l.length + m.length ≤ 1000000) :
    Calls Tryd.prog 74 #[.slice A l.length c, .slice A' m.length d] w (Out w (l ++ m)) := by
  obtain ⟨i0, hi, hz0, hz1, hz2⟩ := info_parts info5
  have hr := run_app_grow (P := Tryd.prog) w (t := 57) (tx := 57) 57 Tryd.underlying57 hi hz0 hz1 hz2 A l l.length hA _ m (src_rd w Tryd.underlying57 A' m d hA') (by omega) hb
  have HR := Lib.hid hr
  clear hr
  go_enter Tryd.func74, Tryd.ntmps74
  go_wp2_with (at_builtin; refine wpList_app rfl _ _ 57 57 rfl (.slice A l.length l.length) (.slice A' m.length d) rfl rfl ?_; obtain ⟨R, W', hrun, hmade⟩ := HR.out; refine ⟨R, W', hrun, ?_⟩; have HM := Lib.hid hmade; clear hrun hmade)
  go_ret
  exact ⟨R, rfl, HM.out⟩

theorem Made.after {w w1 w2 : World} {l : List Nat} {v : Value} (hb : Below w.heap.size w w1) (h : Made w1 l v w2) : Made w l v w2 := by
  obtain ⟨A, c, e, hc, hr, hb2⟩ := h
  exact ⟨A, c, e, hc, hr, hb.trans (hb2.mono hb.size)⟩
theorem Digs.out {n : Nat} {w : World} {e : Ending} {w' : World} (h : Digs n w e w') : ∃ A c, e = .returned (.slice A (digs n).length c) ∧ Rd w' A (digs n) ∧ Below w.heap.size w w' := by
  obtain ⟨v, he, A, c, rfl, _, hr, hb⟩ := h.made
  exact ⟨A, c, he, hr, hb⟩
set_option maxHeartbeats 400000 in
theorem Signed_any (A : Option Addr) (l : List Nat) (c : Nat) (n : Int) (w : World) (hn : l.length ≤ c) (hA : Rd w A l) (hb : l.length ≤ 900000) (h0 : -9223372036854775808 ≤ n) (h1 : n ≤ 9223372036854775807) :
    Calls Tryd.prog 90 #[.slice A l.length c, .int .i64 n] w (Out w (l ++ digs (zig n))) := by
  have hbig : zig n < big := zig_lt n h0 h1
  have ht := digs_le_ten _ hbig
  have hp := digs_pos (zig n)
  have HZ := Lib.hid (zig_bits n h0 h1)
  go_enter Tryd.func90, Tryd.ntmps90
  go_wp2_with fail
  rw [HZ.out]
  refine (digits_any (zig n) _ hbig).mono ?_
  intro e w1 hd
  obtain ⟨A', d, rfl, hr, hb1⟩ := hd.out
  have HR := Lib.hid hr
  clear hr hd
  go_wp2_with fail
  refine (behind_any A l c A' (digs (zig n)) d _ hn (hA.below hb1) HR.out hp (by omega)).mono ?_
  intro e w2 ho
  have HO := Lib.hid ho
  clear ho
  obtain ⟨v, rfl, hv⟩ := HO.out
  have HV := Lib.hid hv
  clear hv
  go_wp2_with fail
  go_ret
  exact ⟨v, rfl, HV.out.after hb1⟩
theorem byteCells_sb (s : ByteArray) : byteCells s = (sb s).map bv := by
  simp [byteCells, sb, bv, List.map_map, Function.comp]
theorem src_string (w : World) (s : ByteArray) : Src Tryd.prog 1 9 (.string s) (sb s).length ((sb s).map bv) w := by
  rw [← byteCells_sb, sb_length]
  exact Src.ofString w Tryd.underlying9 s
theorem text_run (w : World) (b off : Nat) (l : List Nat) (s : ByteArray) (hl : Rd w (some ⟨b, off, none⟩) l) (hb : l.length + s.size ≤ 1000000) :
    ∃ R W', (Builtin.append_ #[57, 9] 57 #[.slice (some ⟨b, off, none⟩) l.length l.length, .string s]).run Tryd.prog w = .ok R W' ∧ Made w (l ++ sb s) R W' := by
  obtain ⟨i0, hi, hz0, hz1, hz2⟩ := info_parts info5
  have hs := src_string w s
  rcases Nat.eq_zero_or_pos s.size with h0 | h0
  · have e : sb s = [] := List.eq_nil_of_length_eq_zero (by rw [sb_length, h0])
    rw [e] at hs ⊢
    refine ⟨_, _, run_app_none w 57 Tryd.underlying57 hi hz1 b off l.length l.length (.string s) hs (Nat.le_refl _), ?_⟩
    rw [List.append_nil]
    exact ⟨_, _, rfl, Nat.le_refl _, hl, Below.refl _ _⟩
  · exact run_app_grow w 57 Tryd.underlying57 hi hz0 hz1 hz2 _ l l.length hl (.string s) (sb s) hs (by rw [sb_length]; omega) (by rw [sb_length]; omega)
set_option maxHeartbeats 400000 in
theorem Text_any (A : Option Addr) (l : List Nat) (c : Nat) (s : ByteArray) (w : World) (hn : l.length ≤ c) (hA : Rd w A l) (hb : l.length ≤ 900000) (h0 : s.size ≤ 1000) :
    Calls Tryd.prog 50 #[.slice A l.length c, .string s] w (Out w (l ++ (digs s.size ++ sb s))) := by
  have hbig : s.size < big := by unfold big; omega
  have ht := digs_le_ten s.size hbig
  have hp := digs_pos s.size
  go_enter Tryd.func50, Tryd.ntmps50
  go_wp2_with fail
  refine (digits_any s.size _ hbig).mono ?_
  intro e w1 hd
  obtain ⟨rfl, hh, _, hb1⟩ := hd
  have hr : Rd w1 (some ⟨w.heap.size, 0, none⟩) (digs s.size) := Rd.of_has hh fun i hi => by simp [hi]
  have HR := Lib.hid (text_run w1 w.heap.size 0 (digs s.size) s hr (by omega))
  clear hh hr
  go_wp2_with (at_builtin; refine wpList_app rfl _ _ 57 9 rfl (.slice (some ⟨w.heap.size, 0, none⟩) (digs s.size).length (digs s.size).length) (.string s) rfl rfl ?_; obtain ⟨R, W', hrun, hmade⟩ := HR.out; refine ⟨R, W', hrun, ?_⟩; have HM := Lib.hid hmade; clear hrun hmade)
  obtain ⟨A', d, rfl, hd, hr2, hb2⟩ := HM.out
  have HR2 := Lib.hid hr2
  clear hr2
  go_wp2_with fail
  refine (behind_any A l c A' (digs s.size ++ sb s) d _ hn ((hA.below hb1).below (hb2.mono (Nat.le_refl _))) HR2.out (by rw [List.length_append]; omega) (by rw [List.length_append, sb_length]; omega)).mono ?_
  intro e w2 ho
  have HO := Lib.hid ho
  clear ho
  obtain ⟨v, rfl, hv⟩ := HO.out
  have HV := Lib.hid hv
  clear hv
  go_wp2_with fail
  go_ret
  exact ⟨v, rfl, HV.out.after (hb1.trans (hb2.mono hb1.size))⟩

end Go.Proofs.YtiefogofiajmnaaDoor
