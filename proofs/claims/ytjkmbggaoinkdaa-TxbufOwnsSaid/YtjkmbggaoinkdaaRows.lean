/-
  No cell of these rows narrows 'for every input' (looked for: loops, veiled, ifaces, maps, wideKeys, modest, calm, conditions, laid).
  DERIVED. THE GIVEN ROWS OF THIS SEAT. 5 by the template 'for every input the law returns true; each argument reads behind the call as it read before'; 0 by the template 'total and deterministic' (their statements: YtjkmbggaoinkdaaTotals.lean).
  GIVEN WITH THE SEED: the statements are not yours to turn. If you find one false, say at which input.
  Laid BY PROGRAM, IN A SANDBOX (cutbox-rows.mjs): the forced cells as the released guide's own fill.sh prints them over the translation a16c17f35253cb59… (all of the seat's roots in one cut). By AI agents, Wed Nov 11 2026. No macro, syntax, notation, axiom, sorry.
-/
import Derived.Test.YtjkmbggaoinkdaaChecked
import GoSem.Claim
import GoSem.ClaimJoined
import GoSem.ClaimMapViews
import Derived.JoinedTies
import Derived.KernelRfl
namespace Go.Proofs.Ytjkmbggaoinkdaa
/- THE CELL 'sum', in the pinned program and in every row, IS THE sha256 OF THE DUMP (.gsa) THAT YtjkmbggaoinkdaaProg.lean LOADS. Nothing in Lean hashes anything: it is a label: what it is worth is what the hold of that sum in a sandbox is worth. -/
noncomputable def Try.pinned : Pinned := { name := "ytjkmbggaoinkdaa", sum := "a16c17f35253cb59de6d0b65da10a0e69f073a29ca198ea1aa15ba41424e6e79", checked := Try.checked }
namespace Rows
def none {H : Type} : Left H := { results := [], args := [] }

/-- 'pantographlaw12.TxbufPlays': WHATEVER THE INPUT: true; the input reads as it did. -/
def txbufPlaysSpec : ChangeSpec := { name := "txbufPlays", fn := fun _ => fun
  | [d1, d2] => { results := [.lit (.bool true)], args := [d1, d2] }
  | _ => none }
def txbufPlaysRow : OpenClaim := { program := "ytjkmbggaoinkdaa", sum := "a16c17f35253cb59de6d0b65da10a0e69f073a29ca198ea1aa15ba41424e6e79", func := "pantograph/pantographlaw12.TxbufPlays", spec := "txbufPlays", unfollowed := true, recurses := true, apart := false }
def TxbufPlaysSaid : Prop := txbufPlaysRow.holds Try.pinned (OpenSpec.ofChange txbufPlaysSpec)

/-- ITS FALSE NEIGHBOUR: 'it returns false'. Refute it at one input. -/
def txbufPlaysWrong : ChangeSpec := { name := "txbufPlays", fn := fun _ => fun
  | [d1, d2] => { results := [.lit (.bool false)], args := [d1, d2] }
  | _ => none }
def TxbufPlaysWrongFalsely : Prop := txbufPlaysRow.holds Try.pinned (OpenSpec.ofChange txbufPlaysWrong)

/-- 'pantographlaw12.TxbufHolds': WHATEVER THE INPUT: true; the input reads as it did. -/
def txbufHoldsSpec : ChangeSpec := { name := "txbufHolds", fn := fun _ => fun
  | [d1, d2, d3] => { results := [.lit (.bool true)], args := [d1, d2, d3] }
  | _ => none }
def txbufHoldsRow : OpenClaim := { program := "ytjkmbggaoinkdaa", sum := "a16c17f35253cb59de6d0b65da10a0e69f073a29ca198ea1aa15ba41424e6e79", func := "pantograph/pantographlaw12.TxbufHolds", spec := "txbufHolds", unfollowed := true, recurses := true, apart := false }
def TxbufHoldsSaid : Prop := txbufHoldsRow.holds Try.pinned (OpenSpec.ofChange txbufHoldsSpec)

/-- ITS FALSE NEIGHBOUR: 'it returns false'. Refute it at one input. -/
def txbufHoldsWrong : ChangeSpec := { name := "txbufHolds", fn := fun _ => fun
  | [d1, d2, d3] => { results := [.lit (.bool false)], args := [d1, d2, d3] }
  | _ => none }
def TxbufHoldsWrongFalsely : Prop := txbufHoldsRow.holds Try.pinned (OpenSpec.ofChange txbufHoldsWrong)

/-- 'pantographlaw12.TxbufOwns': WHATEVER THE INPUT: true; the input reads as it did. -/
def txbufOwnsSpec : ChangeSpec := { name := "txbufOwns", fn := fun _ => fun
  | [d] => { results := [.lit (.bool true)], args := [d] }
  | _ => none }
def txbufOwnsRow : OpenClaim := { program := "ytjkmbggaoinkdaa", sum := "a16c17f35253cb59de6d0b65da10a0e69f073a29ca198ea1aa15ba41424e6e79", func := "pantograph/pantographlaw12.TxbufOwns", spec := "txbufOwns", unfollowed := true, recurses := true, apart := false }
def TxbufOwnsSaid : Prop := txbufOwnsRow.holds Try.pinned (OpenSpec.ofChange txbufOwnsSpec)

/-- ITS FALSE NEIGHBOUR: 'it returns false'. Refute it at one input. -/
def txbufOwnsWrong : ChangeSpec := { name := "txbufOwns", fn := fun _ => fun
  | [d] => { results := [.lit (.bool false)], args := [d] }
  | _ => none }
def TxbufOwnsWrongFalsely : Prop := txbufOwnsRow.holds Try.pinned (OpenSpec.ofChange txbufOwnsWrong)

/-- 'pantographlaw12.TxbufClears': WHATEVER THE INPUT: true; the input reads as it did. -/
def txbufClearsSpec : ChangeSpec := { name := "txbufClears", fn := fun _ => fun
  | [d1, d2, d3] => { results := [.lit (.bool true)], args := [d1, d2, d3] }
  | _ => none }
def txbufClearsRow : OpenClaim := { program := "ytjkmbggaoinkdaa", sum := "a16c17f35253cb59de6d0b65da10a0e69f073a29ca198ea1aa15ba41424e6e79", func := "pantograph/pantographlaw12.TxbufClears", spec := "txbufClears", unfollowed := true, recurses := true, apart := false }
def TxbufClearsSaid : Prop := txbufClearsRow.holds Try.pinned (OpenSpec.ofChange txbufClearsSpec)

/-- ITS FALSE NEIGHBOUR: 'it returns false'. Refute it at one input. -/
def txbufClearsWrong : ChangeSpec := { name := "txbufClears", fn := fun _ => fun
  | [d1, d2, d3] => { results := [.lit (.bool false)], args := [d1, d2, d3] }
  | _ => none }
def TxbufClearsWrongFalsely : Prop := txbufClearsRow.holds Try.pinned (OpenSpec.ofChange txbufClearsWrong)

/-- 'pantographlaw12.TxbufAborts': WHATEVER THE INPUT: true; the input reads as it did. -/
def txbufAbortsSpec : ChangeSpec := { name := "txbufAborts", fn := fun _ => fun
  | [d1, d2, d3] => { results := [.lit (.bool true)], args := [d1, d2, d3] }
  | _ => none }
def txbufAbortsRow : OpenClaim := { program := "ytjkmbggaoinkdaa", sum := "a16c17f35253cb59de6d0b65da10a0e69f073a29ca198ea1aa15ba41424e6e79", func := "pantograph/pantographlaw12.TxbufAborts", spec := "txbufAborts", unfollowed := true, recurses := true, apart := false }
def TxbufAbortsSaid : Prop := txbufAbortsRow.holds Try.pinned (OpenSpec.ofChange txbufAbortsSpec)

/-- ITS FALSE NEIGHBOUR: 'it returns false'. Refute it at one input. -/
def txbufAbortsWrong : ChangeSpec := { name := "txbufAborts", fn := fun _ => fun
  | [d1, d2, d3] => { results := [.lit (.bool false)], args := [d1, d2, d3] }
  | _ => none }
def TxbufAbortsWrongFalsely : Prop := txbufAbortsRow.holds Try.pinned (OpenSpec.ofChange txbufAbortsWrong)

/- THE SECOND FORM. 'bulk': how many values and letters a reading holds, each counted each time it is reached (what is shared counts as often as it is met; a slice's spare places count too). A statement '..UptoSaid' is the law's where the arguments, and the package variables that the reading takes, are together of bulk at most 1048576: NARROWER than '..Said'. Prove '..Said' where nothing that the law and all that it calls make is longer than what came in: it says more and counts as full. Else prove '..UptoSaid'. A law counts once. -/
mutual
def uptoBulk {H : Type} : DataW H → Nat
  | .lit (.string bytes) => bytes.length + 1
  | .lit _ => 1
  | .nil => 1
  | .ptr d => uptoBulk d + 1
  | .slice elems spare => uptoBulkAll elems + uptoBulkAll spare + 1
  | .agg parts => uptoBulkAll parts + 1
  | .iface _ d => uptoBulk d + 1
  | .map entries => uptoBulkEntries entries + 1
  | .held _ => 1
def uptoBulkAll {H : Type} : List (DataW H) → Nat
  | [] => 0
  | d :: r => uptoBulk d + uptoBulkAll r
def uptoBulkEntries {H : Type} : List (Lit × DataW H) → Nat
  | [] => 0
  | x :: r => uptoBulkEntry x + uptoBulkEntries r
def uptoBulkEntry {H : Type} : Lit × DataW H → Nat
  | (.string bytes, d) => bytes.length + uptoBulk d + 1
  | (_, d) => uptoBulk d + 1
 end
def uptoSmall : (H : Type) → List (DataW H) → Bool := fun _ ds => decide (uptoBulkAll ds ≤ 1048576)
def OpenSpec.upto (s : _root_.Go.ChangeSpec) : _root_.Go.OpenSpec := { _root_.Go.OpenSpec.ofChange s with cond := some uptoSmall }

/-- 'pantographlaw12.TxbufPlays', WHERE WHAT IT READS IS OF BULK AT MOST 1048576: true; the input reads as it did. -/
def txbufPlaysUptoRow : OpenClaim := { program := "ytjkmbggaoinkdaa", sum := "a16c17f35253cb59de6d0b65da10a0e69f073a29ca198ea1aa15ba41424e6e79", func := "pantograph/pantographlaw12.TxbufPlays", spec := "txbufPlays", unfollowed := true, recurses := true, apart := false, narrowed := true }
def TxbufPlaysUptoSaid : Prop := txbufPlaysUptoRow.holds Try.pinned (OpenSpec.upto txbufPlaysSpec)

/-- 'pantographlaw12.TxbufHolds', WHERE WHAT IT READS IS OF BULK AT MOST 1048576: true; the input reads as it did. -/
def txbufHoldsUptoRow : OpenClaim := { program := "ytjkmbggaoinkdaa", sum := "a16c17f35253cb59de6d0b65da10a0e69f073a29ca198ea1aa15ba41424e6e79", func := "pantograph/pantographlaw12.TxbufHolds", spec := "txbufHolds", unfollowed := true, recurses := true, apart := false, narrowed := true }
def TxbufHoldsUptoSaid : Prop := txbufHoldsUptoRow.holds Try.pinned (OpenSpec.upto txbufHoldsSpec)

/-- 'pantographlaw12.TxbufOwns', WHERE WHAT IT READS IS OF BULK AT MOST 1048576: true; the input reads as it did. -/
def txbufOwnsUptoRow : OpenClaim := { program := "ytjkmbggaoinkdaa", sum := "a16c17f35253cb59de6d0b65da10a0e69f073a29ca198ea1aa15ba41424e6e79", func := "pantograph/pantographlaw12.TxbufOwns", spec := "txbufOwns", unfollowed := true, recurses := true, apart := false, narrowed := true }
def TxbufOwnsUptoSaid : Prop := txbufOwnsUptoRow.holds Try.pinned (OpenSpec.upto txbufOwnsSpec)

/-- 'pantographlaw12.TxbufClears', WHERE WHAT IT READS IS OF BULK AT MOST 1048576: true; the input reads as it did. -/
def txbufClearsUptoRow : OpenClaim := { program := "ytjkmbggaoinkdaa", sum := "a16c17f35253cb59de6d0b65da10a0e69f073a29ca198ea1aa15ba41424e6e79", func := "pantograph/pantographlaw12.TxbufClears", spec := "txbufClears", unfollowed := true, recurses := true, apart := false, narrowed := true }
def TxbufClearsUptoSaid : Prop := txbufClearsUptoRow.holds Try.pinned (OpenSpec.upto txbufClearsSpec)

/-- 'pantographlaw12.TxbufAborts', WHERE WHAT IT READS IS OF BULK AT MOST 1048576: true; the input reads as it did. -/
def txbufAbortsUptoRow : OpenClaim := { program := "ytjkmbggaoinkdaa", sum := "a16c17f35253cb59de6d0b65da10a0e69f073a29ca198ea1aa15ba41424e6e79", func := "pantograph/pantographlaw12.TxbufAborts", spec := "txbufAborts", unfollowed := true, recurses := true, apart := false, narrowed := true }
def TxbufAbortsUptoSaid : Prop := txbufAbortsUptoRow.holds Try.pinned (OpenSpec.upto txbufAbortsSpec)

end Rows
end Go.Proofs.Ytjkmbggaoinkdaa
