/-
  NARROWER THAN 'FOR EVERY INPUT', by the rows' own cells (each row's printed sentence says how): BinlogFrames: laid · BinlogBursts: laid · WalBehind: laid · WalJoins: laid · StatePlays: laid · StateBytes: laid · StatePuts: laid · StateClones: laid · StateJoins: laid · StateTwice: laid.
  DERIVED. THE GIVEN ROWS OF THIS SEAT. 10 by the template 'for every input the law returns true; each argument reads behind the call as it read before'; 0 by the template 'total and deterministic' (their statements: YtncfehjpkcjflaaGreatDoorTotals.lean).
  GIVEN WITH THE SEED: the statements are not yours to turn. If you find one false, say at which input.
  Laid BY PROGRAM, IN A SANDBOX (cutbox-rows.mjs): the forced cells as the released guide's own fill.sh prints them over the translation bb5ee873f8ade0d3… (all of the seat's roots in one cut). By AI agents, Wed Nov 11 2026. No macro, syntax, notation, axiom, sorry.
-/
import Derived.Test.YtncfehjpkcjflaaGreatDoorChecked
import GoSem.PinnedTables
import GoSem.Claim
import GoSem.ClaimJoined
import GoSem.ClaimMapViews
import Derived.JoinedTies
import Derived.KernelRfl
namespace Go.Proofs.YtncfehjpkcjflaaGreatDoor
/- THE CELL 'sum', in the pinned program and in every row, IS THE sha256 OF THE DUMP (.gsa) THAT YtncfehjpkcjflaaGreatDoorProg.lean LOADS. Nothing in Lean hashes anything: it is a label: what it is worth is what the hold of that sum in a sandbox is worth. -/
noncomputable def Tryz.pinned : Pinned := { name := "ytncfehjpkcjflaagreatdoor", sum := "bb5ee873f8ade0d3d93772452d5822a678efc2803b3b0cbd10f362bf161e2c85", checked := Tryz.checked }
namespace Rows
def none {H : Type} : Left H := { results := [], args := [] }

/- WHAT THE LISTED PACKAGE-LEVEL VARIABLES READ AS WHEN THE CALL BEGINS. Each datum BY PROGRAM (the guide's laid-datum.mjs) off the statement by which the dump's own 'gosem.cut.vars' lays the variable. In a bare row this is a premise. The card (YtncfehjpkcjflaaGreatDoorCards.lean) ties it to the program's text. -/
def laid_unicode_utf8_acceptRanges {H : Type} : DataW H := .agg [.agg [.lit (.int .u8 128), .lit (.int .u8 191)], .agg [.lit (.int .u8 160), .lit (.int .u8 191)], .agg [.lit (.int .u8 128), .lit (.int .u8 159)], .agg [.lit (.int .u8 144), .lit (.int .u8 191)], .agg [.lit (.int .u8 128), .lit (.int .u8 143)], .agg [.lit (.int .u8 0), .lit (.int .u8 0)], .agg [.lit (.int .u8 0), .lit (.int .u8 0)], .agg [.lit (.int .u8 0), .lit (.int .u8 0)], .agg [.lit (.int .u8 0), .lit (.int .u8 0)], .agg [.lit (.int .u8 0), .lit (.int .u8 0)], .agg [.lit (.int .u8 0), .lit (.int .u8 0)], .agg [.lit (.int .u8 0), .lit (.int .u8 0)], .agg [.lit (.int .u8 0), .lit (.int .u8 0)], .agg [.lit (.int .u8 0), .lit (.int .u8 0)], .agg [.lit (.int .u8 0), .lit (.int .u8 0)], .agg [.lit (.int .u8 0), .lit (.int .u8 0)]]
/-- One of Go's own tables, pinned by name: the form's constant. -/
def laid_unicode_utf8_first : DataW Unit := Go.Pinned.utf8First

/-- 'pantographlaw07.BinlogFrames': WHATEVER THE INPUT: true; the input reads as it did. -/
def binlogFramesSpec : ChangeSpec := { name := "binlogFrames", fn := fun _ => fun
  | [d1, d2, d3] => { results := [.lit (.bool true)], args := [d1, d2, d3] }
  | _ => none }
def binlogFramesRow : OpenClaim := { program := "ytncfehjpkcjflaagreatdoor", sum := "bb5ee873f8ade0d3d93772452d5822a678efc2803b3b0cbd10f362bf161e2c85", func := "pantograph/pantographlaw07.BinlogFrames", spec := "binlogFrames", unfollowed := true, recurses := true, named := ["unicode/utf8.first", "unicode/utf8.acceptRanges"], apart := false, laid := [("unicode/utf8.acceptRanges", laid_unicode_utf8_acceptRanges), ("unicode/utf8.first", laid_unicode_utf8_first)] }
def BinlogFramesSaid : Prop := binlogFramesRow.holds Tryz.pinned (OpenSpec.ofChange binlogFramesSpec)

/-- ITS FALSE NEIGHBOUR: 'it returns false'. Refute it at one input. -/
def binlogFramesWrong : ChangeSpec := { name := "binlogFrames", fn := fun _ => fun
  | [d1, d2, d3] => { results := [.lit (.bool false)], args := [d1, d2, d3] }
  | _ => none }
def BinlogFramesWrongFalsely : Prop := binlogFramesRow.holds Tryz.pinned (OpenSpec.ofChange binlogFramesWrong)

/-- 'pantographlaw07.BinlogBursts': WHATEVER THE INPUT: true; the input reads as it did. -/
def binlogBurstsSpec : ChangeSpec := { name := "binlogBursts", fn := fun _ => fun
  | [d1, d2, d3] => { results := [.lit (.bool true)], args := [d1, d2, d3] }
  | _ => none }
def binlogBurstsRow : OpenClaim := { program := "ytncfehjpkcjflaagreatdoor", sum := "bb5ee873f8ade0d3d93772452d5822a678efc2803b3b0cbd10f362bf161e2c85", func := "pantograph/pantographlaw07.BinlogBursts", spec := "binlogBursts", unfollowed := true, recurses := true, named := ["unicode/utf8.first", "unicode/utf8.acceptRanges"], apart := false, laid := [("unicode/utf8.acceptRanges", laid_unicode_utf8_acceptRanges), ("unicode/utf8.first", laid_unicode_utf8_first)] }
def BinlogBurstsSaid : Prop := binlogBurstsRow.holds Tryz.pinned (OpenSpec.ofChange binlogBurstsSpec)

/-- ITS FALSE NEIGHBOUR: 'it returns false'. Refute it at one input. -/
def binlogBurstsWrong : ChangeSpec := { name := "binlogBursts", fn := fun _ => fun
  | [d1, d2, d3] => { results := [.lit (.bool false)], args := [d1, d2, d3] }
  | _ => none }
def BinlogBurstsWrongFalsely : Prop := binlogBurstsRow.holds Tryz.pinned (OpenSpec.ofChange binlogBurstsWrong)

/-- 'pantographlaw14.WalBehind': WHATEVER THE INPUT: true; the input reads as it did. -/
def walBehindSpec : ChangeSpec := { name := "walBehind", fn := fun _ => fun
  | [d1, d2, d3] => { results := [.lit (.bool true)], args := [d1, d2, d3] }
  | _ => none }
def walBehindRow : OpenClaim := { program := "ytncfehjpkcjflaagreatdoor", sum := "bb5ee873f8ade0d3d93772452d5822a678efc2803b3b0cbd10f362bf161e2c85", func := "pantograph/pantographlaw14.WalBehind", spec := "walBehind", unfollowed := true, recurses := true, named := ["unicode/utf8.first", "unicode/utf8.acceptRanges"], apart := false, laid := [("unicode/utf8.acceptRanges", laid_unicode_utf8_acceptRanges), ("unicode/utf8.first", laid_unicode_utf8_first)] }
def WalBehindSaid : Prop := walBehindRow.holds Tryz.pinned (OpenSpec.ofChange walBehindSpec)

/-- ITS FALSE NEIGHBOUR: 'it returns false'. Refute it at one input. -/
def walBehindWrong : ChangeSpec := { name := "walBehind", fn := fun _ => fun
  | [d1, d2, d3] => { results := [.lit (.bool false)], args := [d1, d2, d3] }
  | _ => none }
def WalBehindWrongFalsely : Prop := walBehindRow.holds Tryz.pinned (OpenSpec.ofChange walBehindWrong)

/-- 'pantographlaw14.WalJoins': WHATEVER THE INPUT: true; the input reads as it did. -/
def walJoinsSpec : ChangeSpec := { name := "walJoins", fn := fun _ => fun
  | [d1, d2, d3] => { results := [.lit (.bool true)], args := [d1, d2, d3] }
  | _ => none }
def walJoinsRow : OpenClaim := { program := "ytncfehjpkcjflaagreatdoor", sum := "bb5ee873f8ade0d3d93772452d5822a678efc2803b3b0cbd10f362bf161e2c85", func := "pantograph/pantographlaw14.WalJoins", spec := "walJoins", unfollowed := true, recurses := true, named := ["unicode/utf8.first", "unicode/utf8.acceptRanges"], apart := false, laid := [("unicode/utf8.acceptRanges", laid_unicode_utf8_acceptRanges), ("unicode/utf8.first", laid_unicode_utf8_first)] }
def WalJoinsSaid : Prop := walJoinsRow.holds Tryz.pinned (OpenSpec.ofChange walJoinsSpec)

/-- ITS FALSE NEIGHBOUR: 'it returns false'. Refute it at one input. -/
def walJoinsWrong : ChangeSpec := { name := "walJoins", fn := fun _ => fun
  | [d1, d2, d3] => { results := [.lit (.bool false)], args := [d1, d2, d3] }
  | _ => none }
def WalJoinsWrongFalsely : Prop := walJoinsRow.holds Tryz.pinned (OpenSpec.ofChange walJoinsWrong)

/-- 'pantographlaw15.StatePlays': WHATEVER THE INPUT: true; the input reads as it did. -/
def statePlaysSpec : ChangeSpec := { name := "statePlays", fn := fun _ => fun
  | [d] => { results := [.lit (.bool true)], args := [d] }
  | _ => none }
def statePlaysRow : OpenClaim := { program := "ytncfehjpkcjflaagreatdoor", sum := "bb5ee873f8ade0d3d93772452d5822a678efc2803b3b0cbd10f362bf161e2c85", func := "pantograph/pantographlaw15.StatePlays", spec := "statePlays", unfollowed := true, recurses := true, named := ["unicode/utf8.first", "unicode/utf8.acceptRanges"], apart := false, laid := [("unicode/utf8.acceptRanges", laid_unicode_utf8_acceptRanges), ("unicode/utf8.first", laid_unicode_utf8_first)] }
def StatePlaysSaid : Prop := statePlaysRow.holds Tryz.pinned (OpenSpec.ofChange statePlaysSpec)

/-- ITS FALSE NEIGHBOUR: 'it returns false'. Refute it at one input. -/
def statePlaysWrong : ChangeSpec := { name := "statePlays", fn := fun _ => fun
  | [d] => { results := [.lit (.bool false)], args := [d] }
  | _ => none }
def StatePlaysWrongFalsely : Prop := statePlaysRow.holds Tryz.pinned (OpenSpec.ofChange statePlaysWrong)

/-- 'pantographlaw15.StateBytes': WHATEVER THE INPUT: true; the input reads as it did. -/
def stateBytesSpec : ChangeSpec := { name := "stateBytes", fn := fun _ => fun
  | [d] => { results := [.lit (.bool true)], args := [d] }
  | _ => none }
def stateBytesRow : OpenClaim := { program := "ytncfehjpkcjflaagreatdoor", sum := "bb5ee873f8ade0d3d93772452d5822a678efc2803b3b0cbd10f362bf161e2c85", func := "pantograph/pantographlaw15.StateBytes", spec := "stateBytes", unfollowed := true, recurses := true, named := ["unicode/utf8.first", "unicode/utf8.acceptRanges"], apart := false, laid := [("unicode/utf8.acceptRanges", laid_unicode_utf8_acceptRanges), ("unicode/utf8.first", laid_unicode_utf8_first)] }
def StateBytesSaid : Prop := stateBytesRow.holds Tryz.pinned (OpenSpec.ofChange stateBytesSpec)

/-- ITS FALSE NEIGHBOUR: 'it returns false'. Refute it at one input. -/
def stateBytesWrong : ChangeSpec := { name := "stateBytes", fn := fun _ => fun
  | [d] => { results := [.lit (.bool false)], args := [d] }
  | _ => none }
def StateBytesWrongFalsely : Prop := stateBytesRow.holds Tryz.pinned (OpenSpec.ofChange stateBytesWrong)

/-- 'pantographlaw15.StatePuts': WHATEVER THE INPUT: true; the input reads as it did. -/
def statePutsSpec : ChangeSpec := { name := "statePuts", fn := fun _ => fun
  | [d1, d2, d3] => { results := [.lit (.bool true)], args := [d1, d2, d3] }
  | _ => none }
def statePutsRow : OpenClaim := { program := "ytncfehjpkcjflaagreatdoor", sum := "bb5ee873f8ade0d3d93772452d5822a678efc2803b3b0cbd10f362bf161e2c85", func := "pantograph/pantographlaw15.StatePuts", spec := "statePuts", unfollowed := true, recurses := true, named := ["unicode/utf8.first", "unicode/utf8.acceptRanges"], apart := false, laid := [("unicode/utf8.acceptRanges", laid_unicode_utf8_acceptRanges), ("unicode/utf8.first", laid_unicode_utf8_first)] }
def StatePutsSaid : Prop := statePutsRow.holds Tryz.pinned (OpenSpec.ofChange statePutsSpec)

/-- ITS FALSE NEIGHBOUR: 'it returns false'. Refute it at one input. -/
def statePutsWrong : ChangeSpec := { name := "statePuts", fn := fun _ => fun
  | [d1, d2, d3] => { results := [.lit (.bool false)], args := [d1, d2, d3] }
  | _ => none }
def StatePutsWrongFalsely : Prop := statePutsRow.holds Tryz.pinned (OpenSpec.ofChange statePutsWrong)

/-- 'pantographlaw15.StateClones': WHATEVER THE INPUT: true; the input reads as it did. -/
def stateClonesSpec : ChangeSpec := { name := "stateClones", fn := fun _ => fun
  | [d1, d2, d3] => { results := [.lit (.bool true)], args := [d1, d2, d3] }
  | _ => none }
def stateClonesRow : OpenClaim := { program := "ytncfehjpkcjflaagreatdoor", sum := "bb5ee873f8ade0d3d93772452d5822a678efc2803b3b0cbd10f362bf161e2c85", func := "pantograph/pantographlaw15.StateClones", spec := "stateClones", inPlace := ["maps.clone"], unfollowed := true, recurses := true, named := ["unicode/utf8.first", "unicode/utf8.acceptRanges"], apart := false, laid := [("unicode/utf8.acceptRanges", laid_unicode_utf8_acceptRanges), ("unicode/utf8.first", laid_unicode_utf8_first)] }
def StateClonesSaid : Prop := stateClonesRow.holds Tryz.pinned (OpenSpec.ofChange stateClonesSpec)

/-- ITS FALSE NEIGHBOUR: 'it returns false'. Refute it at one input. -/
def stateClonesWrong : ChangeSpec := { name := "stateClones", fn := fun _ => fun
  | [d1, d2, d3] => { results := [.lit (.bool false)], args := [d1, d2, d3] }
  | _ => none }
def StateClonesWrongFalsely : Prop := stateClonesRow.holds Tryz.pinned (OpenSpec.ofChange stateClonesWrong)

/-- 'pantographlaw15.StateJoins': WHATEVER THE INPUT: true; the input reads as it did. -/
def stateJoinsSpec : ChangeSpec := { name := "stateJoins", fn := fun _ => fun
  | [d1, d2, d3] => { results := [.lit (.bool true)], args := [d1, d2, d3] }
  | _ => none }
def stateJoinsRow : OpenClaim := { program := "ytncfehjpkcjflaagreatdoor", sum := "bb5ee873f8ade0d3d93772452d5822a678efc2803b3b0cbd10f362bf161e2c85", func := "pantograph/pantographlaw15.StateJoins", spec := "stateJoins", inPlace := ["maps.clone"], unfollowed := true, recurses := true, named := ["unicode/utf8.first", "unicode/utf8.acceptRanges"], apart := false, laid := [("unicode/utf8.acceptRanges", laid_unicode_utf8_acceptRanges), ("unicode/utf8.first", laid_unicode_utf8_first)] }
def StateJoinsSaid : Prop := stateJoinsRow.holds Tryz.pinned (OpenSpec.ofChange stateJoinsSpec)

/-- ITS FALSE NEIGHBOUR: 'it returns false'. Refute it at one input. -/
def stateJoinsWrong : ChangeSpec := { name := "stateJoins", fn := fun _ => fun
  | [d1, d2, d3] => { results := [.lit (.bool false)], args := [d1, d2, d3] }
  | _ => none }
def StateJoinsWrongFalsely : Prop := stateJoinsRow.holds Tryz.pinned (OpenSpec.ofChange stateJoinsWrong)

/-- 'pantographlaw15.StateTwice': WHATEVER THE INPUT: true; the input reads as it did. -/
def stateTwiceSpec : ChangeSpec := { name := "stateTwice", fn := fun _ => fun
  | [d1, d2] => { results := [.lit (.bool true)], args := [d1, d2] }
  | _ => none }
def stateTwiceRow : OpenClaim := { program := "ytncfehjpkcjflaagreatdoor", sum := "bb5ee873f8ade0d3d93772452d5822a678efc2803b3b0cbd10f362bf161e2c85", func := "pantograph/pantographlaw15.StateTwice", spec := "stateTwice", unfollowed := true, recurses := true, named := ["unicode/utf8.first", "unicode/utf8.acceptRanges"], apart := false, laid := [("unicode/utf8.acceptRanges", laid_unicode_utf8_acceptRanges), ("unicode/utf8.first", laid_unicode_utf8_first)] }
def StateTwiceSaid : Prop := stateTwiceRow.holds Tryz.pinned (OpenSpec.ofChange stateTwiceSpec)

/-- ITS FALSE NEIGHBOUR: 'it returns false'. Refute it at one input. -/
def stateTwiceWrong : ChangeSpec := { name := "stateTwice", fn := fun _ => fun
  | [d1, d2] => { results := [.lit (.bool false)], args := [d1, d2] }
  | _ => none }
def StateTwiceWrongFalsely : Prop := stateTwiceRow.holds Tryz.pinned (OpenSpec.ofChange stateTwiceWrong)

/- THE SECOND FORM. 'bulk': how many values and letters a reading holds, each counted each time it is reached (what is shared counts as often as it is met; a slice's spare places count too). A statement '..UptoSaid' is the law's where the arguments, and the package variables that the reading takes, are together of bulk at most 1048576: NARROWER than '..Said'. Prove '..Said' where nothing that the law and all that it calls make is longer than what came in: it says more and counts as full. Else prove '..UptoSaid'. A law counts once. -/
mutual
def uptoBulk {H : Type} : DataW H → Nat
  | .lit (.string bytes) => bytes.length + 1
  | .lit _ => 1
  | .nil => 1
  | .ptr d => uptoBulk d + 1
  | .slice elems spare => uptoBulkAll elems + uptoBulkAll spare + 1
  | .agg parts => uptoBulkAll parts + 1
  | .iface _ d => uptoBulk d + 1
  | .map entries => uptoBulkEntries entries + 1
  | .held _ => 1
def uptoBulkAll {H : Type} : List (DataW H) → Nat
  | [] => 0
  | d :: r => uptoBulk d + uptoBulkAll r
def uptoBulkEntries {H : Type} : List (Lit × DataW H) → Nat
  | [] => 0
  | x :: r => uptoBulkEntry x + uptoBulkEntries r
def uptoBulkEntry {H : Type} : Lit × DataW H → Nat
  | (.string bytes, d) => bytes.length + uptoBulk d + 1
  | (_, d) => uptoBulk d + 1
 end
def uptoSmall : (H : Type) → List (DataW H) → Bool := fun _ ds => decide (uptoBulkAll ds ≤ 1048576)
def OpenSpec.upto (s : _root_.Go.ChangeSpec) : _root_.Go.OpenSpec := { _root_.Go.OpenSpec.ofChange s with cond := some uptoSmall }

/-- 'pantographlaw07.BinlogFrames', WHERE WHAT IT READS IS OF BULK AT MOST 1048576: true; the input reads as it did. -/
def binlogFramesUptoRow : OpenClaim := { program := "ytncfehjpkcjflaagreatdoor", sum := "bb5ee873f8ade0d3d93772452d5822a678efc2803b3b0cbd10f362bf161e2c85", func := "pantograph/pantographlaw07.BinlogFrames", spec := "binlogFrames", unfollowed := true, recurses := true, named := ["unicode/utf8.first", "unicode/utf8.acceptRanges"], apart := false, laid := [("unicode/utf8.acceptRanges", laid_unicode_utf8_acceptRanges), ("unicode/utf8.first", laid_unicode_utf8_first)], narrowed := true }
def BinlogFramesUptoSaid : Prop := binlogFramesUptoRow.holds Tryz.pinned (OpenSpec.upto binlogFramesSpec)

/-- 'pantographlaw07.BinlogBursts', WHERE WHAT IT READS IS OF BULK AT MOST 1048576: true; the input reads as it did. -/
def binlogBurstsUptoRow : OpenClaim := { program := "ytncfehjpkcjflaagreatdoor", sum := "bb5ee873f8ade0d3d93772452d5822a678efc2803b3b0cbd10f362bf161e2c85", func := "pantograph/pantographlaw07.BinlogBursts", spec := "binlogBursts", unfollowed := true, recurses := true, named := ["unicode/utf8.first", "unicode/utf8.acceptRanges"], apart := false, laid := [("unicode/utf8.acceptRanges", laid_unicode_utf8_acceptRanges), ("unicode/utf8.first", laid_unicode_utf8_first)], narrowed := true }
def BinlogBurstsUptoSaid : Prop := binlogBurstsUptoRow.holds Tryz.pinned (OpenSpec.upto binlogBurstsSpec)

/-- 'pantographlaw14.WalBehind', WHERE WHAT IT READS IS OF BULK AT MOST 1048576: true; the input reads as it did. -/
def walBehindUptoRow : OpenClaim := { program := "ytncfehjpkcjflaagreatdoor", sum := "bb5ee873f8ade0d3d93772452d5822a678efc2803b3b0cbd10f362bf161e2c85", func := "pantograph/pantographlaw14.WalBehind", spec := "walBehind", unfollowed := true, recurses := true, named := ["unicode/utf8.first", "unicode/utf8.acceptRanges"], apart := false, laid := [("unicode/utf8.acceptRanges", laid_unicode_utf8_acceptRanges), ("unicode/utf8.first", laid_unicode_utf8_first)], narrowed := true }
def WalBehindUptoSaid : Prop := walBehindUptoRow.holds Tryz.pinned (OpenSpec.upto walBehindSpec)

/-- 'pantographlaw14.WalJoins', WHERE WHAT IT READS IS OF BULK AT MOST 1048576: true; the input reads as it did. -/
def walJoinsUptoRow : OpenClaim := { program := "ytncfehjpkcjflaagreatdoor", sum := "bb5ee873f8ade0d3d93772452d5822a678efc2803b3b0cbd10f362bf161e2c85", func := "pantograph/pantographlaw14.WalJoins", spec := "walJoins", unfollowed := true, recurses := true, named := ["unicode/utf8.first", "unicode/utf8.acceptRanges"], apart := false, laid := [("unicode/utf8.acceptRanges", laid_unicode_utf8_acceptRanges), ("unicode/utf8.first", laid_unicode_utf8_first)], narrowed := true }
def WalJoinsUptoSaid : Prop := walJoinsUptoRow.holds Tryz.pinned (OpenSpec.upto walJoinsSpec)

/-- 'pantographlaw15.StatePlays', WHERE WHAT IT READS IS OF BULK AT MOST 1048576: true; the input reads as it did. -/
def statePlaysUptoRow : OpenClaim := { program := "ytncfehjpkcjflaagreatdoor", sum := "bb5ee873f8ade0d3d93772452d5822a678efc2803b3b0cbd10f362bf161e2c85", func := "pantograph/pantographlaw15.StatePlays", spec := "statePlays", unfollowed := true, recurses := true, named := ["unicode/utf8.first", "unicode/utf8.acceptRanges"], apart := false, laid := [("unicode/utf8.acceptRanges", laid_unicode_utf8_acceptRanges), ("unicode/utf8.first", laid_unicode_utf8_first)], narrowed := true }
def StatePlaysUptoSaid : Prop := statePlaysUptoRow.holds Tryz.pinned (OpenSpec.upto statePlaysSpec)

/-- 'pantographlaw15.StateBytes', WHERE WHAT IT READS IS OF BULK AT MOST 1048576: true; the input reads as it did. -/
def stateBytesUptoRow : OpenClaim := { program := "ytncfehjpkcjflaagreatdoor", sum := "bb5ee873f8ade0d3d93772452d5822a678efc2803b3b0cbd10f362bf161e2c85", func := "pantograph/pantographlaw15.StateBytes", spec := "stateBytes", unfollowed := true, recurses := true, named := ["unicode/utf8.first", "unicode/utf8.acceptRanges"], apart := false, laid := [("unicode/utf8.acceptRanges", laid_unicode_utf8_acceptRanges), ("unicode/utf8.first", laid_unicode_utf8_first)], narrowed := true }
def StateBytesUptoSaid : Prop := stateBytesUptoRow.holds Tryz.pinned (OpenSpec.upto stateBytesSpec)

/-- 'pantographlaw15.StatePuts', WHERE WHAT IT READS IS OF BULK AT MOST 1048576: true; the input reads as it did. -/
def statePutsUptoRow : OpenClaim := { program := "ytncfehjpkcjflaagreatdoor", sum := "bb5ee873f8ade0d3d93772452d5822a678efc2803b3b0cbd10f362bf161e2c85", func := "pantograph/pantographlaw15.StatePuts", spec := "statePuts", unfollowed := true, recurses := true, named := ["unicode/utf8.first", "unicode/utf8.acceptRanges"], apart := false, laid := [("unicode/utf8.acceptRanges", laid_unicode_utf8_acceptRanges), ("unicode/utf8.first", laid_unicode_utf8_first)], narrowed := true }
def StatePutsUptoSaid : Prop := statePutsUptoRow.holds Tryz.pinned (OpenSpec.upto statePutsSpec)

/-- 'pantographlaw15.StateClones', WHERE WHAT IT READS IS OF BULK AT MOST 1048576: true; the input reads as it did. -/
def stateClonesUptoRow : OpenClaim := { program := "ytncfehjpkcjflaagreatdoor", sum := "bb5ee873f8ade0d3d93772452d5822a678efc2803b3b0cbd10f362bf161e2c85", func := "pantograph/pantographlaw15.StateClones", spec := "stateClones", inPlace := ["maps.clone"], unfollowed := true, recurses := true, named := ["unicode/utf8.first", "unicode/utf8.acceptRanges"], apart := false, laid := [("unicode/utf8.acceptRanges", laid_unicode_utf8_acceptRanges), ("unicode/utf8.first", laid_unicode_utf8_first)], narrowed := true }
def StateClonesUptoSaid : Prop := stateClonesUptoRow.holds Tryz.pinned (OpenSpec.upto stateClonesSpec)

/-- 'pantographlaw15.StateJoins', WHERE WHAT IT READS IS OF BULK AT MOST 1048576: true; the input reads as it did. -/
def stateJoinsUptoRow : OpenClaim := { program := "ytncfehjpkcjflaagreatdoor", sum := "bb5ee873f8ade0d3d93772452d5822a678efc2803b3b0cbd10f362bf161e2c85", func := "pantograph/pantographlaw15.StateJoins", spec := "stateJoins", inPlace := ["maps.clone"], unfollowed := true, recurses := true, named := ["unicode/utf8.first", "unicode/utf8.acceptRanges"], apart := false, laid := [("unicode/utf8.acceptRanges", laid_unicode_utf8_acceptRanges), ("unicode/utf8.first", laid_unicode_utf8_first)], narrowed := true }
def StateJoinsUptoSaid : Prop := stateJoinsUptoRow.holds Tryz.pinned (OpenSpec.upto stateJoinsSpec)

/-- 'pantographlaw15.StateTwice', WHERE WHAT IT READS IS OF BULK AT MOST 1048576: true; the input reads as it did. -/
def stateTwiceUptoRow : OpenClaim := { program := "ytncfehjpkcjflaagreatdoor", sum := "bb5ee873f8ade0d3d93772452d5822a678efc2803b3b0cbd10f362bf161e2c85", func := "pantograph/pantographlaw15.StateTwice", spec := "stateTwice", unfollowed := true, recurses := true, named := ["unicode/utf8.first", "unicode/utf8.acceptRanges"], apart := false, laid := [("unicode/utf8.acceptRanges", laid_unicode_utf8_acceptRanges), ("unicode/utf8.first", laid_unicode_utf8_first)], narrowed := true }
def StateTwiceUptoSaid : Prop := stateTwiceUptoRow.holds Tryz.pinned (OpenSpec.upto stateTwiceSpec)

end Rows
end Go.Proofs.YtncfehjpkcjflaaGreatDoor
