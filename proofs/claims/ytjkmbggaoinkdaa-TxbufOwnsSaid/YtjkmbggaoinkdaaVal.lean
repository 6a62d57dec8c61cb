/-
  Values as the walks meet them: two of them held against one another; small facts on bytes as strings.
-/
import Derived.Test.YtjkmbggaoinkdaaStr
import Derived.Laws.StructEq
import Derived.WalkLawsBesides
import Derived.Lib.ValidLaws
namespace Go.Proofs.Ytjkmbggaoinkdaa
open Go.RowKit Dg
theorem partI (xs : Array Value) (i : Nat) (v : Value) (h : xs[i]? = some v) (w : World) : (part 3 xs i).run Try.prog w = .ok v w := by
  unfold part
  simp [Sem.run_bind, Try.isAgg3, h]
theorem partS (xs : Array Value) (i : Nat) (v : Value) (h : xs[i]? = some v) (w : World) : (part 9 xs i).run Try.prog w = .ok v w := by
  unfold part
  simp [Sem.run_bind, Try.isAgg9, h]
theorem eqV (k n k' n' : Int) (s s' : ByteArray) (w : World) : (Op.equalIn 10000 51 (.agg #[.int .i64 k, .int .i64 n, .string s]) (.agg #[.int .i64 k', .int .i64 n', .string s'])).run Try.prog w = .ok (k == k' && n == n' && s.toList == s'.toList) w := by
  have e := fun (a b : Int) (w : World) => run_equalIn_int (P := Try.prog) w 9998 3 .i64 .i64 a b Try.underlying3
  have es := fun (a b : ByteArray) (w : World) => run_equalIn_string (P := Try.prog) w 9998 9 a b Try.underlying9
  have p0 := fun (x0 x1 x2 : Value) => partI #[x0, x1, x2] 0 x0 rfl
  have p1 := fun (x0 x1 x2 : Value) => partI #[x0, x1, x2] 1 x1 rfl
  have p2 := fun (x0 x1 x2 : Value) => partS #[x0, x1, x2] 2 x2 rfl
  rw [show (10000 : Nat) = 9999 + 1 by rfl, run_equalIn_agg w 9999 51 _ _ (by kernel_rfl) (by kernel_rfl)]
  unfold Program.fieldsOf
  rw [Try.underlying51]
  by_cases h0 : k = k' <;> by_cases h1 : n = n' <;> by_cases h2 : s.toList = s'.toList <;>
  simp [Op.eqFields, Sem.run_bind, Result.andThen, p0, p1, p2, e, es, h0, h1, h2]
/-- A text that is not too long. -/
def short (n : Int) (s : ByteArray) : Bool := n == 0 && decide (s.size ≤ 4096)
/-- Which values may be. -/
def mayF (k n : Int) (s : ByteArray) : Bool :=
  if k = 0 then n == 0 && s.toList.isEmpty else if k = 1 then s.toList.isEmpty && (n == 0 || n == 1) else if k = 2 then s.toList.isEmpty else if k = 3 then short n s && Lib.validD s.data.toList else if k = 4 then short n s else false
end Go.Proofs.Ytjkmbggaoinkdaa
