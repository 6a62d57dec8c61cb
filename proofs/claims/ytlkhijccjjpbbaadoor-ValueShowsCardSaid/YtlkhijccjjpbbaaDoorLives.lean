/-
  The document's example stands.
-/
import Derived.Test.YtlkhijccjjpbbaaDoorKeyD
namespace Go.Proofs.YtlkhijccjjpbbaaDoor
open Go.RowKit Dg
set_option maxHeartbeats 1000000 in
theorem showNull_any (w : World) : Calls Tryd.prog 26 #[.agg #[.int .i64 0, .int .i64 0, .string ⟨#[]⟩]] w fun e w' => e = .returned (.string ⟨#[110, 117, 108, 108]⟩) ∧ Hid (Below w.heap.size w w') := by
  have HB := Lib.hid ((Below.refl w.heap.size w).alloc (Nat.le_refl _) (.cells #[.int .i64 0, .int .i64 0, .string ⟨#[]⟩] 23))
  go_enter Tryd.func26, Tryd.ntmps26
  go_wp2_with fail
  go_ret
  exact ⟨rfl, HB⟩
set_option maxHeartbeats 1000000 in
set_option maxRecDepth 100000 in
theorem lives_any (w : World) (hT : Tabs w) : Calls Tryd.prog 14 #[] w fun e w' => e = .returned (.bool true) ∧ Below w.heap.size w w' := by
  have HT := Lib.hid hT
  have HB := Lib.hid ((Below.refl w.heap.size w).alloc (Nat.le_refl _) (.cells #[.int .i64 2, .int .i64 1, .string ⟨#[]⟩] 23))
  have HV : Hid (VRow (w.alloc (.cells #[.int .i64 2, .int .i64 1, .string ⟨#[]⟩] 23)) (some ⟨w.heap.size, 0, none⟩) [⟨2, 1, ⟨#[]⟩⟩]) := fun _ => ⟨w.heap.size, 0, rfl, fun i hi => by
    have hh := Has.new w 23 #[.int .i64 2, .int .i64 1, .string ⟨#[]⟩]
    obtain rfl : i = 0 := by simpa using hi
    exact ⟨hh.cell 0, hh.cell 1, hh.cell 2⟩⟩
  have hK : keys [⟨2, 1, ⟨#[]⟩⟩] = [2, 128, 0, 0, 0, 0, 0, 0, 1] := by decide +kernel
  have HC := Lib.hid (key_any (some ⟨w.heap.size, 0, none⟩) [⟨2, 1, ⟨#[]⟩⟩] 1 1 _ rfl (by omega) HV.out (fun x hx => by rw [List.mem_singleton.1 hx]; exact ⟨by simp, by simp, by simp [ByteArray.size]⟩) (HT.out.below HB.out) 0 [2, 128, 0, 0, 0, 0, 0, 0, 1] (.inl ⟨fun x hx => by rw [List.mem_singleton.1 hx]; decide +kernel, rfl, hK.symm⟩))
  clear hT hK HV
  go_enter Tryd.func14, Tryd.ntmps14
  go_wp2_with fail
  refine HC.out.mono ?_
  rintro e w1 ⟨rfl, hb⟩
  have HB1 := Lib.hid (HB.out.trans (hb.out.mono HB.out.size))
  have hbs : bs [2, 128, 0, 0, 0, 0, 0, 0, 1] = ⟨#[2, 128, 0, 0, 0, 0, 0, 0, 1]⟩ := rfl
  rw [hbs]
  clear hbs HC hb
  go_wp2_with fail
  refine (may_any 0 0 ⟨#[]⟩ _ (by simp [ByteArray.size]) (HT.out.below HB1.out)).mono ?_
  rintro e w2 ⟨rfl, hb⟩
  have HB2 := Lib.hid (HB1.out.trans (hb.out.mono HB1.out.size))
  have hm : mayF 0 0 ⟨#[]⟩ = true := by decide +kernel
  rw [hm]
  clear hm hb
  go_wp2_with fail
  refine (showNull_any _).mono ?_
  rintro e w3 ⟨rfl, hb⟩
  have HB3 := Lib.hid (HB2.out.trans (hb.out.mono HB2.out.size))
  clear hb
  go_wp2_with fail
  go_ret
  exact ⟨rfl, HB3.out⟩
end Go.Proofs.YtlkhijccjjpbbaaDoor
