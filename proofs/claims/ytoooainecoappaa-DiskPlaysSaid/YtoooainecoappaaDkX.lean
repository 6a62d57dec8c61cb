/-
  The law's own example.
-/
import Derived.Test.YtoooainecoappaaDkW
import Derived.Lib.SlBytesConst
namespace Go.Proofs.Ytoooainecoappaa
open Go.RowKit Go.Maps Go.WideShapes Go.WideMaps
/-- The name a. -/
def sA : ByteArray := ⟨#[97]⟩
theorem bytes_new (w : World) (l : List Nat) (fr : Nat × Nat) : Rd (w.alloc (.cells (l.map bv).toArray 5 fr)) (some ⟨w.heap.size, 0, none⟩) l := fun _ =>
  ⟨w.heap.size, 0, rfl, fun i hi => by
    rw [Nat.zero_add, cell_of_row _ w.heap.size i (l.map bv).toArray 5 fr (by show (w.heap.push _)[w.heap.size]? = _; simp)]
    simp [hi]⟩
theorem ex1 : createD (newD 100) sA = (⟨100, [⟨[97], [], 0⟩], -1, false⟩, 0) := by rfl
theorem ex2 : appendD ⟨100, [⟨[97], [], 0⟩], -1, false⟩ sA [120] = (⟨100, [⟨[97], [120], 0⟩], -1, false⟩, 0) := by rfl
theorem ex3 : syncD ⟨100, [⟨[97], [120], 0⟩], -1, false⟩ sA = (⟨100, [⟨[97], [120], 1⟩], -1, false⟩, 0) := by rfl
theorem ex4 : appendD ⟨100, [⟨[97], [120], 1⟩], -1, false⟩ sA [121, 122] = (⟨100, [⟨[97], [120, 121, 122], 1⟩], -1, false⟩, 0) := by rfl
theorem ex5 : appendD ⟨100, [⟨[97], [120, 121, 122], 1⟩], 0, false⟩ sA [119] = (⟨100, [⟨[97], [120, 121, 122, 119], 1⟩], 0, true⟩, 12) := by rfl
theorem ex6 : upD ⟨100, [⟨[97], [120, 121, 122, 119], 1⟩], 0, true⟩ [2] = ⟨100, [⟨[97], [120, 121, 122], 3⟩], -1, false⟩ := by rfl
theorem ex7 : readD ⟨100, [⟨[97], [120, 121, 122], 3⟩], -1, false⟩ sA = ([120, 121, 122], 0) := by rfl
set_option maxHeartbeats 4000000 in
set_option maxRecDepth 100000 in
theorem lives_any (w : World) : Calls Try.prog 14 #[] w fun e w' => e = .returned (.bool true) ∧ Hid (Below w.heap.size w w') := by
  have hcv : ∀ (W : World) (C : Array Value) (n c : Nat), (convert 28 28 (.slice (some ⟨W.heap.size, 0, none⟩) n c)).run Try.prog (W.alloc (.cells C 5)) = .ok (.slice (some ⟨W.heap.size, 0, none⟩) n c) (W.alloc (.cells C 5 (C.size, C.size + 1))) := fun W C n c => Lib.run_convert_bytes_const W 28 5 C n c Try.underlying28 Try.underlying5
  go_enter Try.func14, Try.ntmps14
  go_wp2_with fail
  refine (newP_any w 100 (by omega)).mono ?_
  rintro e w1 ⟨rfl, hd, hb⟩
  have D := Lib.hid (⟨_, hd.out, hb.out.size⟩ : DK w.heap.size (w.heap.size + 1) w1 (newD 100))
  have HB := Lib.hid hb.out
  clear hd hb
  go_wp2_with fail
  refine (create_dk D.out sA (by decide) (by decide)).mono ?_
  rintro e w2 ⟨k, rfl, hk, D2, hb⟩
  rw [ex1] at D2
  have HB2 := Lib.hid (HB.out.trans hb.out)
  clear hk hb D HB
  go_wp2_with fail
  refine (append_dk (D2.out.alloc (.cells #[.int .u8 120] 5 (1, 2))) sA (by decide) (some ⟨w2.heap.size, 0, none⟩) [120] 1 1 rfl (bytes_new w2 [120] (1, 2)) (fun e => by cases e) (by decide)).mono ?_
  rintro e w3 ⟨k, rfl, hk, D3, hb⟩
  rw [ex2] at hk D3
  obtain rfl : k = 0 := hk.out
  have HB3 := Lib.hid ((HB2.out.alloc HB2.out.size (.cells #[.int .u8 120] 5 (1, 2))).trans hb.out)
  clear hk hb D2 HB2
  go_wp2_with fail
  refine (sync_dk D3.out sA (by decide)).mono ?_
  rintro e w4 ⟨k, rfl, hk, D4, hb⟩
  rw [ex3] at D4
  have HB4 := Lib.hid (HB3.out.trans hb.out)
  clear hk hb D3 HB3
  go_wp2_with fail
  refine (append_dk (D4.out.alloc (.cells #[.int .u8 121, .int .u8 122] 5 (2, 3))) sA (by decide) (some ⟨w4.heap.size, 0, none⟩) [121, 122] 2 2 rfl (bytes_new w4 [121, 122] (2, 3)) (fun e => by cases e) (by decide)).mono ?_
  rintro e w5 ⟨k, rfl, hk, D5, hb⟩
  rw [ex4] at hk D5
  obtain rfl : k = 0 := hk.out
  have HB5 := Lib.hid ((HB4.out.alloc HB4.out.size (.cells #[.int .u8 121, .int .u8 122] 5 (2, 3))).trans hb.out)
  clear hk hb D4 HB4
  go_wp2_with fail
  refine (arm_dk D5.out 0 (by decide)).mono ?_
  rintro e w6 ⟨rfl, D6, hb⟩
  have HB6 := Lib.hid (HB5.out.trans hb.out)
  clear hb D5 HB5
  replace D6 : Hid (DK w.heap.size (w.heap.size + 1) w6 ⟨100, [⟨[97], [120, 121, 122], 1⟩], 0, false⟩) := D6
  go_wp2_with fail
  refine (append_dk (D6.out.alloc (.cells #[.int .u8 119] 5 (1, 2))) sA (by decide) (some ⟨w6.heap.size, 0, none⟩) [119] 1 1 rfl (bytes_new w6 [119] (1, 2)) (fun e => by cases e) (by decide)).mono ?_
  rintro e w7 ⟨k, rfl, hk, D7, hb⟩
  rw [ex5] at hk D7
  obtain rfl : k = 12 := hk.out
  have HB7 := Lib.hid ((HB6.out.alloc HB6.out.size (.cells #[.int .u8 119] 5 (1, 2))).trans hb.out)
  clear hk hb D6 HB6
  go_wp2_with fail
  refine (up1_dk D7.out (by decide) 2 (by decide)).mono ?_
  rintro e w8 ⟨rfl, D8, hb⟩
  rw [ex6] at D8
  have HB8 := Lib.hid (HB7.out.trans hb.out)
  clear hb D7 HB7
  go_wp2_with fail
  refine (read_dk D8.out sA (by decide)).mono ?_
  rintro e w9 ⟨A, n, c, k, rfl, hk, hn, _, hr, hb⟩
  rw [ex7] at hk hn hr
  obtain rfl : k = 0 := hk.out
  have HB9 := Lib.hid (HB8.out.trans (hb.out.mono HB8.out.size))
  have hc := Lib.hid (conv_len w9 A [120, 121, 122] n c hn.out hr.out)
  have hcc := hc.out
  have hbs : bs [120, 121, 122] = ⟨#[120, 121, 122]⟩ := by rfl
  rw [hbs] at hcc
  clear hk hb D8 HB8 hr hc hn hbs
  go_wp2_with fail
  go_ret
  exact ⟨rfl, HB9⟩
end Go.Proofs.Ytoooainecoappaa
