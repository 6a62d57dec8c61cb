/-
  The program's isKey of a text, and the law's key of a number.
-/
import Derived.Test.YtjkmbggaoinkdaaDoorWM
import Derived.Test.YtjkmbggaoinkdaaDoorRkey
namespace Go.Proofs.YtjkmbggaoinkdaaDoor
open Go.RowKit Dg
set_option maxRecDepth 100000
set_option maxHeartbeats 2000000 in
theorem isKey_any (s : ByteArray) (w : World) (hs : s.size ≤ 900) (hT : Tabs w) :
    Calls Tryd.prog 113 #[.string s] w fun e w' => e = .returned (.bool (isKeyB s)) ∧ Hid (Below w.heap.size w w') := by
  have HC := Lib.hid (values_any s w hs hT)
  have HK : Hid (¬ s.size = 0 → (isKeyB s = true ↔ ∃ L, Good1 L ∧ keys L = sb s)) := isKeyB_iff s (by omega)
  have HE := Lib.hid (isKeyB_empty s)
  have HZ := Lib.hid (size_e s)
  clear hT
  go_enter Tryd.func113, Tryd.ntmps113
  go_wp2_with fail
  refine HC.out.mono ?_
  rintro e w1 ⟨hR, hb⟩
  rcases hR with ⟨L, v, hG, _, _, hk, rfl, _⟩ | ⟨hno, rfl⟩
  · by_cases h0 : s.size = 0
    · have h1 := HE.out h0
      have hz : s.toList.isEmpty = true := by rw [HZ.out]; simp [h0]
      go_wp2_with fail
      go_ret
      exact ⟨by rw [h1]; rfl, hb⟩
    · have h1 := (HK.out h0).2 ⟨L, hG, hk⟩
      have hz : s.toList.isEmpty = false := by rw [HZ.out]; simp [h0]
      go_wp2_with fail
      go_ret
      exact ⟨by rw [h1]; rfl, hb⟩
  · have h1 : isKeyB s = false := by
      by_cases h0 : s.size = 0
      · exact HE.out h0
      · rw [← Bool.not_eq_true, HK.out h0]
        rintro ⟨L, hL, hk⟩
        exact hno L hL hk
    clear hno
    go_wp2_with fail
    go_ret
    exact ⟨by rw [h1]; rfl, hb⟩
/-- The key of an Int. -/
def kI (n : Int) : ByteArray := bs (keys [⟨2, n, ⟨#[]⟩⟩])
theorem kI_size (n : Int) : (kI n).size = 9 := by unfold kI; rw [bs_size]; simp [keys, Vl.key, keyV, hi_len]
set_option maxHeartbeats 2000000 in
theorem lawKey_any (n : Int) (w : World) (h0 : -9223372036854775808 ≤ n) (h1 : n ≤ 9223372036854775807) :
    Calls Tryd.prog 52 #[.int .i64 n] w fun e w' => e = .returned (.string (kI n)) ∧ Hid (Below w.heap.size w w') := by
  have HB := Lib.hid ((Below.refl w.heap.size w).alloc (Nat.le_refl _) (.cells #[.int .i64 2, .int .i64 n, .string ⟨#[]⟩] 101))
  have HV : Hid (VRow (w.alloc (.cells #[.int .i64 2, .int .i64 n, .string ⟨#[]⟩] 101)) (some ⟨w.heap.size, 0, none⟩) [⟨2, n, ⟨#[]⟩⟩]) := fun _ => ⟨w.heap.size, 0, rfl, fun i hi => by
    have hh := Has.new w 101 #[.int .i64 2, .int .i64 n, .string ⟨#[]⟩]
    obtain rfl : i = 0 := by simpa using hi
    exact ⟨hh.cell 0, hh.cell 1, hh.cell 2⟩⟩
  have HC := Lib.hid (refKey_any (some ⟨w.heap.size, 0, none⟩) [⟨2, n, ⟨#[]⟩⟩] 1 1 _ rfl (by omega) HV.out (fun x hx => by rw [List.mem_singleton.1 hx]; exact ⟨h0, h1, by simp [ByteArray.size]⟩) (fun x hx => by rw [List.mem_singleton.1 hx]; simp [Vl.may, mayF]))
  clear HV
  go_enter Tryd.func52, Tryd.ntmps52
  go_wp2_with fail
  refine HC.out.mono ?_
  rintro e w1 ⟨rfl, hb⟩
  have HB1 := Lib.hid (HB.out.trans (hb.out.mono HB.out.size))
  go_wp2_with fail
  go_ret
  exact ⟨rfl, HB1⟩
end Go.Proofs.YtjkmbggaoinkdaaDoor
