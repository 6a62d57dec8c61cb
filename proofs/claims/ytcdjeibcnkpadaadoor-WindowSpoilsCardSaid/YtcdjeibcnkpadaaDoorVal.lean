/-
  Values as the walks meet them: two of them held against one another; small facts on bytes as strings.
-/
import Derived.Test.YtcdjeibcnkpadaaDoorStr
import Derived.Test.YtcdjeibcnkpadaaDoorShelf
import Derived.Laws.StructEq
import Derived.WalkLawsBesides
import Derived.Lib.ValidLaws
namespace Go.Proofs.YtcdjeibcnkpadaaDoor
open Go.RowKit Dg
theorem partI (xs : Array Value) (i : Nat) (v : Value) (h : xs[i]? = some v) (w : World) : (part 3 xs i).run Tryd.prog w = .ok v w := by
  unfold part
  simp [Sem.run_bind, Tryd.isAgg3, h]
theorem partS (xs : Array Value) (i : Nat) (v : Value) (h : xs[i]? = some v) (w : World) : (part 9 xs i).run Tryd.prog w = .ok v w := by
  unfold part
  simp [Sem.run_bind, Tryd.isAgg9, h]
theorem eqV (k n k' n' : Int) (s s' : ByteArray) (w : World) : (Op.equalIn 10000 68 (.agg #[.int .i64 k, .int .i64 n, .string s]) (.agg #[.int .i64 k', .int .i64 n', .string s'])).run Tryd.prog w = .ok (k == k' && n == n' && s.toList == s'.toList) w := by
  have e := fun (a b : Int) (w : World) => run_equalIn_int (P := Tryd.prog) w 9998 3 .i64 .i64 a b Tryd.underlying3
  have es := fun (a b : ByteArray) (w : World) => run_equalIn_string (P := Tryd.prog) w 9998 9 a b Tryd.underlying9
  have p0 := fun (x0 x1 x2 : Value) => partI #[x0, x1, x2] 0 x0 rfl
  have p1 := fun (x0 x1 x2 : Value) => partI #[x0, x1, x2] 1 x1 rfl
  have p2 := fun (x0 x1 x2 : Value) => partS #[x0, x1, x2] 2 x2 rfl
  rw [show (10000 : Nat) = 9999 + 1 by rfl, run_equalIn_agg w 9999 68 _ _ (by kernel_rfl) (by kernel_rfl)]
  unfold Program.fieldsOf
  rw [Tryd.underlying68]
  by_cases h0 : k = k' <;> by_cases h1 : n = n' <;> by_cases h2 : s.toList = s'.toList <;>
  simp [Op.eqFields, Sem.run_bind, Result.andThen, p0, p1, p2, e, es, h0, h1, h2]
/-- A text that is not too long. -/
def short (n : Int) (s : ByteArray) : Bool := n == 0 && decide (s.size ≤ 4096)
set_option maxHeartbeats 400000 in
theorem isText_any (k n : Int) (s : ByteArray) (w : World) (hs : s.size ≤ 9223372036854775807) :
    Calls Tryd.prog 90 #[.agg #[.int .i64 k, .int .i64 n, .string s]] w fun e w' => e = .returned (.bool (short n s)) ∧ Hid (Below w.heap.size w w') := by
  have eq := eqV
  have HB := fun n => Lib.hid ((Below.refl w.heap.size w).alloc (Nat.le_refl _) (.cells #[.int .i64 k, .int .i64 n, .string s] 68))
  go_enter Tryd.func90, Tryd.ntmps90
  go_wp2_with fail
  · have h : n = 0 := by assumption
    go_ret
    exact ⟨by simp [short, h]; omega, HB 0⟩
  · have h : ¬ n = 0 := by assumption
    go_ret
    exact ⟨by simp [short, h], HB n⟩
/-- Which values may be. -/
def mayF (k n : Int) (s : ByteArray) : Bool :=
  if k = 0 then n == 0 && s.toList.isEmpty else if k = 1 then s.toList.isEmpty && (n == 0 || n == 1) else if k = 2 then s.toList.isEmpty else if k = 3 then short n s && Lib.validD s.data.toList else if k = 4 then short n s else false
/-- The library's tables of UTF-8 stand as its text lays them. -/
def Tabs (w : World) : Prop := Lib.Utf8Tabs (Tryd.laysValid_ren.g 3) (Tryd.laysValid_ren.g 4) w
theorem Tabs.below {w w' : World} (h : Tabs w) (hb : Below w.heap.size w w') : Tabs w' := Utf8Tabs_below h hb
set_option maxHeartbeats 400000 in
theorem may_any (k n : Int) (s : ByteArray) (w : World) (hs : s.size ≤ 9223372036854775807) (hT : Tabs w) :
    Calls Tryd.prog 83 #[.agg #[.int .i64 k, .int .i64 n, .string s]] w fun e w' => e = .returned (.bool (mayF k n s)) ∧ Hid (Below w.heap.size w w') := by
  have eq := eqV
  have HB := fun k n s => Lib.hid ((Below.refl w.heap.size w).alloc (Nat.le_refl _) (.cells #[.int .i64 k, .int .i64 n, .string s] 68))
  by_cases h0 : k = 0
  · subst h0
    go_enter Tryd.func83, Tryd.ntmps83
    go_wp2_with fail
    go_ret
    exact ⟨by simp [mayF], HB 0 n s⟩
  by_cases h1 : k = 1
  · subst h1
    by_cases hn : n = 0
    · subst hn
      cases he : s.toList.isEmpty
      · go_enter Tryd.func83, Tryd.ntmps83
        go_wp2_with fail
        go_ret
        exact ⟨by simp [mayF, he], HB _ _ _⟩
      · go_enter Tryd.func83, Tryd.ntmps83
        go_wp2_with fail
        go_ret
        exact ⟨by simp [mayF, he], HB _ _ _⟩
    · have hq : (n == 0) = false := by simp [hn]
      go_enter Tryd.func83, Tryd.ntmps83
      go_wp2_with fail
      go_ret
      exact ⟨by simp [mayF, hq, Bool.and_comm], HB _ _ _⟩
  by_cases h2 : k = 2
  · subst h2
    go_enter Tryd.func83, Tryd.ntmps83
    go_wp2_with fail
    go_ret
    exact ⟨by simp [mayF], HB _ _ _⟩
  by_cases h3 : k = 3
  · subst h3
    have C1 := Lib.hid (fun w => isText_any 3 n s w hs)
    go_enter Tryd.func83, Tryd.ntmps83
    go_wp2_with fail
    refine (C1.out _).mono ?_
    rintro e w1 ⟨rfl, hb1⟩
    have HB1 := Lib.hid ((HB 3 n s).out.trans (hb1.out.mono (HB 3 n s).out.size))
    have hc1 : w1.cell? ⟨w.heap.size, 2, none⟩ = some (.string s) := by
      rw [hb1.out.cell (by simp)]
      simp
    have HV := Lib.hid (fun w (h : Tabs w) => Any.utf8_ValidString Tryd.laysValid s w hs h)
    have HT := Lib.hid hT
    clear hb1 hT
    cases hsh : short n s
    · go_wp2_with fail
      go_ret
      exact ⟨by simp [mayF, hsh], HB1.out⟩
    · go_wp2_with fail
      refine (HV.out _ (HT.out.below HB1.out)).mono ?_
      rintro e w2 ⟨rfl, hb2⟩
      have HB2 := Lib.hid (HB1.out.trans (hb2.mono HB1.out.size))
      clear hb2
      go_wp2_with fail
      go_ret
      exact ⟨by simp [mayF, hsh], HB2.out⟩
  by_cases h4 : k = 4
  · subst h4
    have C1 := Lib.hid (fun w => isText_any 4 n s w hs)
    go_enter Tryd.func83, Tryd.ntmps83
    go_wp2_with fail
    refine (C1.out _).mono ?_
    rintro e w1 ⟨rfl, hb1⟩
    have HB1 := Lib.hid ((HB 4 n s).out.trans (hb1.out.mono (HB 4 n s).out.size))
    go_wp2_with fail
    go_ret
    exact ⟨by simp [mayF], HB1.out⟩
  · go_enter Tryd.func83, Tryd.ntmps83
    go_wp2_with fail
    go_ret
    exact ⟨by simp [mayF, h0, h1, h2, h3, h4], HB _ _ _⟩
end Go.Proofs.YtcdjeibcnkpadaaDoor
