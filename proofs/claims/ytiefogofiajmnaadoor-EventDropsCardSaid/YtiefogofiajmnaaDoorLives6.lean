/-
  The document's example of layer 6; numbers' bytes.
-/
import Derived.Test.YtiefogofiajmnaaDoorEvE
import Derived.Test.YtiefogofiajmnaaDoorLyPut
namespace Go.Proofs.YtiefogofiajmnaaDoor
open Go.RowKit Dg
set_option maxHeartbeats 400000 in
theorem Number_any (A : Option Addr) (l : List Nat) (c : Nat) (n : Nat) (w : World) (hn : l.length ≤ c) (hA : Rd w A l) (hb : l.length ≤ 900000) (hn63 : (n : Int) ≤ 9223372036854775807) :
    Calls Tryd.prog 53 #[.slice A l.length c, .int .i64 n] w (Out w (l ++ digs n)) := by
  have hbig : n < big := by unfold big; omega
  have ht := digs_le_ten n hbig
  have hp := digs_pos n
  go_enter Tryd.func53, Tryd.ntmps53
  go_wp2_with fail
  refine (digits_any n _ hbig).mono ?_
  intro e w1 hd
  obtain ⟨A', d, rfl, hr, hb1⟩ := hd.out
  have HR := Lib.hid hr
  clear hr hd
  go_wp2_with fail
  refine (behind_any A l c A' (digs n) d _ hn (hA.below hb1) HR.out hp (by omega)).mono ?_
  intro e w2 ho
  have HO := Lib.hid ho
  clear ho
  obtain ⟨v, rfl, hv⟩ := HO.out
  have HV := Lib.hid hv
  clear hv
  go_wp2_with fail
  go_ret
  exact ⟨v, rfl, HV.out.after hb1⟩

theorem ev5_at (w : World) : EvAt w (.agg #[.int .i64 7, .int .i64 5, .string ⟨#[]⟩, .slice none 0 0, .slice none 0 0, .int .i64 0, .string ⟨#[]⟩, .slice none 0 0, .int .i64 0, .string ⟨#[]⟩, .int .i64 0, .bool false]) ⟨7, 5, ⟨#[]⟩, [], [], 0, ⟨#[]⟩, [], 0, ⟨⟨#[]⟩, 0, false⟩⟩ :=
  ⟨none, 0, 0, none, 0, 0, none, 0, 0, rfl, ⟨rfl, by simp, fun h => absurd rfl h⟩, ⟨rfl, by simp, fun h => absurd rfl h⟩, rfl, by omega, fun h => absurd rfl h⟩
set_option maxHeartbeats 2000000 in
set_option maxRecDepth 100000 in
theorem mayNumber5 (w : World) : Calls Tryd.prog 39 #[.agg #[.int .i64 7, .int .i64 5, .string ⟨#[]⟩, .slice none 0 0, .slice none 0 0, .int .i64 0, .string ⟨#[]⟩, .slice none 0 0, .int .i64 0, .string ⟨#[]⟩, .int .i64 0, .bool false]] w fun e w' => e = .returned (.int .i64 0) ∧ Hid (Below w.heap.size w w') := by
  have HB := Lib.hid ((Below.refl w.heap.size w).alloc (Nat.le_refl _) (.cells #[.int .i64 7, .int .i64 5, .string ⟨#[]⟩, .slice none 0 0, .slice none 0 0, .int .i64 0, .string ⟨#[]⟩, .slice none 0 0, .int .i64 0, .string ⟨#[]⟩, .int .i64 0, .bool false] 52))
  have HS := fun (W : World) => Lib.hid (esame_any (.agg #[.int .i64 7, .int .i64 5, .string ⟨#[]⟩, .slice none 0 0, .slice none 0 0, .int .i64 0, .string ⟨#[]⟩, .slice none 0 0, .int .i64 0, .string ⟨#[]⟩, .int .i64 0, .bool false]) (.agg #[.int .i64 7, .int .i64 5, .string ⟨#[]⟩, .slice none 0 0, .slice none 0 0, .int .i64 0, .string ⟨#[]⟩, .slice none 0 0, .int .i64 0, .string ⟨#[]⟩, .int .i64 0, .bool false]) _ _ W (ev5_at W) (ev5_at W))
  go_enter Tryd.func39, Tryd.ntmps39
  go_wp2_with fail
  refine ((HS _).out).mono ?_
  rintro e w1 ⟨rfl, hb1⟩
  rw [evF_refl]
  have HB1 := Lib.hid (HB.out.trans (hb1.out.mono HB.out.size))
  clear hb1 HS
  go_wp2_with fail
  go_ret
  exact ⟨rfl, HB1⟩
set_option maxHeartbeats 2000000 in
set_option maxRecDepth 100000 in
theorem may5 (w : World) : Calls Tryd.prog 22 #[.agg #[.int .i64 7, .int .i64 5, .string ⟨#[]⟩, .slice none 0 0, .slice none 0 0, .int .i64 0, .string ⟨#[]⟩, .slice none 0 0, .int .i64 0, .string ⟨#[]⟩, .int .i64 0, .bool false], .slice none 0 0] w fun e w' => e = .returned (.int .i64 0) ∧ Hid (Below w.heap.size w w') := by
  have HB := Lib.hid ((Below.refl w.heap.size w).alloc (Nat.le_refl _) (.cells #[.int .i64 7, .int .i64 5, .string ⟨#[]⟩, .slice none 0 0, .slice none 0 0, .int .i64 0, .string ⟨#[]⟩, .slice none 0 0, .int .i64 0, .string ⟨#[]⟩, .int .i64 0, .bool false] 52))
  go_enter Tryd.func22, Tryd.ntmps22
  go_wp2_with fail
  refine (mayNumber5 _).mono ?_
  rintro e w1 ⟨rfl, hb1⟩
  have HB1 := Lib.hid (HB.out.trans (hb1.out.mono HB.out.size))
  clear hb1
  go_wp2_with fail
  go_ret
  exact ⟨rfl, HB1⟩
theorem digs5 : digs 5 = [5] := by rw [digs]; simp
set_option maxHeartbeats 2000000 in
set_option maxRecDepth 100000 in
theorem write5 (w : World) : Calls Tryd.prog 31 #[.agg #[.int .i64 7, .int .i64 5, .string ⟨#[]⟩, .slice none 0 0, .slice none 0 0, .int .i64 0, .string ⟨#[]⟩, .slice none 0 0, .int .i64 0, .string ⟨#[]⟩, .int .i64 0, .bool false], .slice none 0 0] w fun e w' => (∃ A c, e = .returned (.tuple #[.slice A 2 c, .int .i64 0]) ∧ Hid (Rd w' A [7, 5])) ∧ Hid (Below w.heap.size w w') := by
  have HB := Lib.hid ((Below.refl w.heap.size w).alloc (Nat.le_refl _) (.cells #[.int .i64 7, .int .i64 5, .string ⟨#[]⟩, .slice none 0 0, .slice none 0 0, .int .i64 0, .string ⟨#[]⟩, .slice none 0 0, .int .i64 0, .string ⟨#[]⟩, .int .i64 0, .bool false] 52))
  have HX := Lib.hid (Has.new w 52 #[.int .i64 7, .int .i64 5, .string ⟨#[]⟩, .slice none 0 0, .slice none 0 0, .int .i64 0, .string ⟨#[]⟩, .slice none 0 0, .int .i64 0, .string ⟨#[]⟩, .int .i64 0, .bool false])
  go_enter Tryd.func31, Tryd.ntmps31
  go_wp2_with fail
  refine (may5 _).mono ?_
  rintro e w1 ⟨rfl, hb1⟩
  have HB1 := Lib.hid (HB.out.trans (hb1.out.mono HB.out.size))
  have HX1 := Lib.hid (HX.out.below hb1.out (by simp))
  clear hb1 HB HX
  have x0 : w1.cell? ⟨w.heap.size, 0, none⟩ = some (.int .i64 7) := HX1.out.cell 0
  have x1 : w1.cell? ⟨w.heap.size, 1, none⟩ = some (.int .i64 5) := HX1.out.cell 1
  have HB2 : Hid (Below w.heap.size w (w1.alloc (.cells #[.int .u8 7] 5))) := HB1.out.trans (((Below.refl w1.heap.size w1).alloc (Nat.le_refl _) _).mono HB1.out.size)
  have HX2 := Lib.hid (HX1.out.alloc (.cells #[.int .u8 7] 5))
  have y0 : (w1.alloc (.cells #[.int .u8 7] 5)).cell? ⟨w.heap.size, 0, none⟩ = some (.int .i64 7) := HX2.out.cell 0
  have y1 : (w1.alloc (.cells #[.int .u8 7] 5)).cell? ⟨w.heap.size, 1, none⟩ = some (.int .i64 5) := HX2.out.cell 1
  have HR := Lib.hid (show Rd (w1.alloc (.cells #[.int .u8 7] 5)) (some ⟨w1.heap.size, 0, none⟩) [7] from fun _ => ⟨w1.heap.size, 0, rfl, fun i hi => by
    obtain rfl : i = 0 := by simp at hi; omega
    exact (Has.new w1 5 #[.int .u8 7]).cell 0⟩)
  clear HX1 HX2 HB1
  go_wp2_with fail
  refine (Number_any (some ⟨w1.heap.size, 0, none⟩) [7] 1 5 _ (by simp) HR.out (by simp) (by omega)).mono ?_
  intro e w2 ho
  obtain ⟨v, rfl, Av, cv, rfl, _, hr, hb⟩ := ho
  have HR2 := Lib.hid hr
  have HB3 := Lib.hid (HB2.out.trans (hb.mono HB2.out.size))
  clear hr hb HB2 HR x0 x1 y0 y1
  rw [digs5] at *
  go_wp2_with fail
  go_ret2
  exact ⟨⟨_, _, rfl, HR2⟩, HB3⟩
set_option maxHeartbeats 2000000 in
set_option maxRecDepth 100000 in
theorem right0 (w : World) : Calls Tryd.prog 13 #[.slice none 0 0] w fun e w' => e = .returned (.bool true) ∧ Hid (Below w.heap.size w w') := by
  go_enter Tryd.func13, Tryd.ntmps13
  go_wp2_with fail
  go_loopw [10] (fun i wr => i = .int .i64 0 ∧ wr = w) (fun _ _ => 0)
  case atStart => exact ⟨rfl, rfl⟩
  case round =>
    obtain ⟨rfl, rfl⟩ := hrel
    go_wp2_with fail
    go_ret
    exact ⟨rfl, Below.refl _ _⟩
set_option maxHeartbeats 2000000 in
set_option maxRecDepth 100000 in
theorem lives6_any (w : World) : Calls Tryd.prog 15 #[] w fun e w' => e = .returned (.bool true) ∧ Hid (Below w.heap.size w w') := by
  go_enter Tryd.func15, Tryd.ntmps15
  go_wp2_with fail
  refine (write5 _).mono ?_
  rintro e w1 ⟨⟨A, c, rfl, hr⟩, hb⟩
  obtain ⟨b, off, rfl, hc⟩ := hr.out (by simp)
  have c0 : w1.cell? ⟨b, off, none⟩ = some (.int .u8 7) := hc 0 (by simp)
  have c1 : w1.cell? ⟨b, off + 1, none⟩ = some (.int .u8 5) := hc 1 (by simp)
  clear hc hr
  go_wp2_with fail
  refine (right0 _).mono ?_
  rintro e w2 ⟨rfl, hb2⟩
  have HB2 := Lib.hid (hb.out.trans (hb2.out.mono hb.out.size))
  clear c0 c1 hb hb2
  go_wp2_with fail
  go_ret
  exact ⟨rfl, HB2⟩
end Go.Proofs.YtiefogofiajmnaaDoor
