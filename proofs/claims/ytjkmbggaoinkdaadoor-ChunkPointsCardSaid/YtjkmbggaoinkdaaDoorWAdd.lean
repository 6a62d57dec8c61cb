/-
  The program's Add, Go and Covers.
-/
import Derived.Test.YtjkmbggaoinkdaaDoorWKey
import Derived.Test.YtjkmbggaoinkdaaDoorWPut
namespace Go.Proofs.YtjkmbggaoinkdaaDoor
open Go.RowKit Dg
set_option maxRecDepth 100000
theorem atFirstEnd (w' : World) (g : Nat) (c0 c1 c2 : Value) (tmps : Array Value) (hp : tmps.getD 2 undef = .pointer (some ⟨g, 0, none⟩)) (hh : Has w' g 75 #[c0, c1, c2]) :
    (results Tryd.f110 tmps).run Tryd.prog w' = .ok (.agg #[c0, c1, c2]) w' :=
  results_cell_row rfl _ _ g 75 #[c0, c1, c2] (0, 0) _ hp hh Tryd.underlying75 rfl (by kernel_rfl)
set_option maxHeartbeats 1000000 in
theorem atFirst_any (s : ByteArray) (w : World) : Calls Tryd.prog 110 #[.string s] w fun e w' => e = .returned (.agg #[.string s, .bool false, .string ⟨#[]⟩]) ∧ Hid (Below w.heap.size w w') := by
  have HP := Lib.hid (Has.new w 75 #[.string s, .bool false, .string ⟨#[]⟩])
  have HB := Lib.hid ((Below.refl w.heap.size w).alloc (Nat.le_refl _) (.cells #[.string s, .bool false, .string ⟨#[]⟩] 75))
  go_enter Tryd.func110, Tryd.ntmps110
  go_wp2_with fail
  exact bodyPost_ret (atFirstEnd _ w.heap.size _ _ _ _ rfl HP.out) rfl ⟨rfl, HB⟩
theorem atEndEnd (w' : World) (g : Nat) (c0 c1 c2 : Value) (tmps : Array Value) (hp : tmps.getD 2 undef = .pointer (some ⟨g, 0, none⟩)) (hh : Has w' g 75 #[c0, c1, c2]) :
    (results Tryd.f111 tmps).run Tryd.prog w' = .ok (.agg #[c0, c1, c2]) w' :=
  results_cell_row rfl _ _ g 75 #[c0, c1, c2] (0, 0) _ hp hh Tryd.underlying75 rfl (by kernel_rfl)
set_option maxHeartbeats 1000000 in
theorem atEnd_any (s : ByteArray) (w : World) : Calls Tryd.prog 111 #[.string s] w fun e w' => e = .returned (.agg #[.string s, .bool true, .string ⟨#[]⟩]) ∧ Hid (Below w.heap.size w w') := by
  have HP := Lib.hid (Has.new w 75 #[.string s, .bool true, .string ⟨#[]⟩])
  have HB := Lib.hid ((Below.refl w.heap.size w).alloc (Nat.le_refl _) (.cells #[.string s, .bool true, .string ⟨#[]⟩] 75))
  go_enter Tryd.func111, Tryd.ntmps111
  go_wp2_with fail
  exact bodyPost_ret (atEndEnd _ w.heap.size _ _ _ _ rfl HP.out) rfl ⟨rfl, HB⟩
theorem upToEnd (w' : World) (g : Nat) (c0 c1 c2 : Value) (tmps : Array Value) (hp : tmps.getD 4 undef = .pointer (some ⟨g, 0, none⟩)) (hh : Has w' g 75 #[c0, c1, c2]) :
    (results Tryd.f112 tmps).run Tryd.prog w' = .ok (.agg #[c0, c1, c2]) w' :=
  results_cell_row rfl _ _ g 75 #[c0, c1, c2] (0, 0) _ hp hh Tryd.underlying75 rfl (by kernel_rfl)
set_option maxHeartbeats 1000000 in
theorem upTo_any (s k : ByteArray) (w : World) : Calls Tryd.prog 112 #[.string s, .string k] w fun e w' => e = .returned (.agg #[.string s, .bool false, .string k]) ∧ Hid (Below w.heap.size w w') := by
  have HP := Lib.hid (Has.new w 75 #[.string s, .bool false, .string k])
  have HB := Lib.hid ((Below.refl w.heap.size w).alloc (Nat.le_refl _) (.cells #[.string s, .bool false, .string k] 75))
  go_enter Tryd.func112, Tryd.ntmps112
  go_wp2_with fail
  exact bodyPost_ret (upToEnd _ w.heap.size _ _ _ _ rfl HP.out) rfl ⟨rfl, HB⟩
theorem slice_inj {A A' : Option Addr} {n n' c c' : Nat} (h : Value.slice A n c = .slice A' n' c') : A = A' ∧ n = n' ∧ c = c' := by
  injection h with h1 h2 h3
  exact ⟨h1, h2, h3⟩
end Go.Proofs.YtjkmbggaoinkdaaDoor
