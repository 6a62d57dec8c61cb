/-
  The order of values: the program's, and the document's; and which may be, as the document says.
-/
import Derived.Test.YtcdjeibcnkpadaaDoorRutf
import Derived.Deep.RegionHeld3
import Derived.Deep.QuietTactic
import Derived.BigQuiet
namespace Go.Proofs.YtcdjeibcnkpadaaDoor
open Go.RowKit Dg
set_option maxHeartbeats 1000000 in
theorem refMay_any (k n : Int) (s : ByteArray) (w : World) (hs : s.size ≤ 140737488355328) :
    Calls Tryd.prog 71 #[.agg #[.int .i64 k, .int .i64 n, .string s]] w fun e w' => e = .returned (.bool (mayF k n s)) ∧ Hid (Below w.heap.size w w') := by
  have HB := fun k n s => Lib.hid ((Below.refl w.heap.size w).alloc (Nat.le_refl _) (.cells #[.int .i64 k, .int .i64 n, .string s] 68))
  by_cases h0 : k = 0
  · subst h0
    by_cases hn : n = 0
    · subst hn
      go_enter Tryd.func71, Tryd.ntmps71
      go_wp2_with fail
      go_ret
      exact ⟨by simp [mayF], HB _ _ _⟩
    · have hq : (n == 0) = false := by simp [hn]
      go_enter Tryd.func71, Tryd.ntmps71
      go_wp2_with fail
      go_ret
      exact ⟨by simp [mayF, hn], HB _ _ _⟩
  by_cases h1 : k = 1
  · subst h1
    cases he : s.toList.isEmpty
    · go_enter Tryd.func71, Tryd.ntmps71
      go_wp2_with fail
      go_ret
      exact ⟨by simp [mayF, he], HB _ _ _⟩
    · by_cases hn : n = 0
      · subst hn
        go_enter Tryd.func71, Tryd.ntmps71
        go_wp2_with fail
        go_ret
        exact ⟨by simp [mayF, he], HB _ _ _⟩
      · have hq : (n == 0) = false := by simp [hn]
        go_enter Tryd.func71, Tryd.ntmps71
        go_wp2_with fail
        go_ret
        exact ⟨by simp [mayF, he, hn], HB _ _ _⟩
  by_cases h2 : k = 2
  · subst h2
    go_enter Tryd.func71, Tryd.ntmps71
    go_wp2_with fail
    go_ret
    exact ⟨by simp [mayF], HB _ _ _⟩
  by_cases h3 : k = 3
  · subst h3
    have HC := Lib.hid (fun w => refUtf8_any s w hs)
    go_enter Tryd.func71, Tryd.ntmps71
    go_wp2_with fail
    refine (HC.out _).mono ?_
    rintro e w1 ⟨rfl, rfl⟩
    generalize hV : Lib.validD s.data.toList = V
    have hm : mayF 3 n s = (short n s && V) := by simp [mayF, hV]
    have HM := Lib.hid hm
    clear hm hV
    cases V
    · go_wp2_with fail
      go_ret
      exact ⟨by simp [HM.out], HB _ _ _⟩
    · by_cases hn : n = 0
      · subst hn
        go_wp2_with fail
        go_ret
        exact ⟨by simp [HM.out, short]; omega, HB _ _ _⟩
      · have hq : (n == 0) = false := by simp [hn]
        go_wp2_with fail
        go_ret
        exact ⟨by simp [HM.out, short, hn], HB _ _ _⟩
  by_cases h4 : k = 4
  · subst h4
    by_cases hn : n = 0
    · subst hn
      go_enter Tryd.func71, Tryd.ntmps71
      go_wp2_with fail
      go_ret
      exact ⟨by simp [mayF, short]; omega, HB _ _ _⟩
    · have hq : (n == 0) = false := by simp [hn]
      go_enter Tryd.func71, Tryd.ntmps71
      go_wp2_with fail
      go_ret
      exact ⟨by simp [mayF, short, hn], HB _ _ _⟩
  · go_enter Tryd.func71, Tryd.ntmps71
    go_wp2_with fail
    go_ret
    exact ⟨by simp [mayF, h0, h1, h2, h3, h4], HB _ _ _⟩
end Go.Proofs.YtcdjeibcnkpadaaDoor
