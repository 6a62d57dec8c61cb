/-
  No cell of these rows narrows 'for every input' (looked for: loops, veiled, ifaces, maps, wideKeys, modest, calm, conditions, laid).
  DERIVED. THE GIVEN ROWS OF THIS SEAT. 7 by the template 'for every input the law returns true; each argument reads behind the call as it read before'; 0 by the template 'total and deterministic' (their statements: YticfhjimbochlaaTotals.lean).
  GIVEN WITH THE SEED: the statements are not yours to turn. If you find one false, say at which input.
  Laid BY PROGRAM, IN A SANDBOX (cutbox-rows.mjs): the forced cells as the released guide's own fill.sh prints them over the translation eeeb0b01c28794ad… (all of the seat's roots in one cut). By AI agents, Wed Nov 11 2026. No macro, syntax, notation, axiom, sorry.
-/
import Derived.Test.YticfhjimbochlaaChecked
import GoSem.Claim
import GoSem.ClaimJoined
import GoSem.ClaimMapViews
import Derived.JoinedTies
import Derived.KernelRfl
namespace Go.Proofs.Yticfhjimbochlaa
/- THE CELL 'sum', in the pinned program and in every row, IS THE sha256 OF THE DUMP (.gsa) THAT YticfhjimbochlaaProg.lean LOADS. Nothing in Lean hashes anything: it is a label: what it is worth is what the hold of that sum in a sandbox is worth. -/
noncomputable def Try.pinned : Pinned := { name := "yticfhjimbochlaa", sum := "eeeb0b01c28794adcec2334c37389502d81330a70ba5b581c4eb160db6606ea2", checked := Try.checked }
namespace Rows
def none {H : Type} : Left H := { results := [], args := [] }

/-- 'pantographlaw04.SchemaMay': WHATEVER THE INPUT: true; the input reads as it did. -/
def schemaMaySpec : ChangeSpec := { name := "schemaMay", fn := fun _ => fun
  | [d1, d2, d3] => { results := [.lit (.bool true)], args := [d1, d2, d3] }
  | _ => none }
def schemaMayRow : OpenClaim := { program := "yticfhjimbochlaa", sum := "eeeb0b01c28794adcec2334c37389502d81330a70ba5b581c4eb160db6606ea2", func := "pantograph/pantographlaw04.SchemaMay", spec := "schemaMay", unfollowed := true, recurses := true, apart := false }
def SchemaMaySaid : Prop := schemaMayRow.holds Try.pinned (OpenSpec.ofChange schemaMaySpec)

/-- ITS FALSE NEIGHBOUR: 'it returns false'. Refute it at one input. -/
def schemaMayWrong : ChangeSpec := { name := "schemaMay", fn := fun _ => fun
  | [d1, d2, d3] => { results := [.lit (.bool false)], args := [d1, d2, d3] }
  | _ => none }
def SchemaMayWrongFalsely : Prop := schemaMayRow.holds Try.pinned (OpenSpec.ofChange schemaMayWrong)

/-- 'pantographlaw04.SchemaApplies': WHATEVER THE INPUT: true; the input reads as it did. -/
def schemaAppliesSpec : ChangeSpec := { name := "schemaApplies", fn := fun _ => fun
  | [d1, d2] => { results := [.lit (.bool true)], args := [d1, d2] }
  | _ => none }
def schemaAppliesRow : OpenClaim := { program := "yticfhjimbochlaa", sum := "eeeb0b01c28794adcec2334c37389502d81330a70ba5b581c4eb160db6606ea2", func := "pantograph/pantographlaw04.SchemaApplies", spec := "schemaApplies", unfollowed := true, recurses := true, apart := false }
def SchemaAppliesSaid : Prop := schemaAppliesRow.holds Try.pinned (OpenSpec.ofChange schemaAppliesSpec)

/-- ITS FALSE NEIGHBOUR: 'it returns false'. Refute it at one input. -/
def schemaAppliesWrong : ChangeSpec := { name := "schemaApplies", fn := fun _ => fun
  | [d1, d2] => { results := [.lit (.bool false)], args := [d1, d2] }
  | _ => none }
def SchemaAppliesWrongFalsely : Prop := schemaAppliesRow.holds Try.pinned (OpenSpec.ofChange schemaAppliesWrong)

/-- 'pantographlaw04.SchemaTurns': WHATEVER THE INPUT: true; the input reads as it did. -/
def schemaTurnsSpec : ChangeSpec := { name := "schemaTurns", fn := fun _ => fun
  | [d1, d2, d3] => { results := [.lit (.bool true)], args := [d1, d2, d3] }
  | _ => none }
def schemaTurnsRow : OpenClaim := { program := "yticfhjimbochlaa", sum := "eeeb0b01c28794adcec2334c37389502d81330a70ba5b581c4eb160db6606ea2", func := "pantograph/pantographlaw04.SchemaTurns", spec := "schemaTurns", unfollowed := true, recurses := true, apart := false }
def SchemaTurnsSaid : Prop := schemaTurnsRow.holds Try.pinned (OpenSpec.ofChange schemaTurnsSpec)

/-- ITS FALSE NEIGHBOUR: 'it returns false'. Refute it at one input. -/
def schemaTurnsWrong : ChangeSpec := { name := "schemaTurns", fn := fun _ => fun
  | [d1, d2, d3] => { results := [.lit (.bool false)], args := [d1, d2, d3] }
  | _ => none }
def SchemaTurnsWrongFalsely : Prop := schemaTurnsRow.holds Try.pinned (OpenSpec.ofChange schemaTurnsWrong)

/-- 'pantographlaw05.ImageWrites': WHATEVER THE INPUT: true; the input reads as it did. -/
def imageWritesSpec : ChangeSpec := { name := "imageWrites", fn := fun _ => fun
  | [d1, d2, d3] => { results := [.lit (.bool true)], args := [d1, d2, d3] }
  | _ => none }
def imageWritesRow : OpenClaim := { program := "yticfhjimbochlaa", sum := "eeeb0b01c28794adcec2334c37389502d81330a70ba5b581c4eb160db6606ea2", func := "pantograph/pantographlaw05.ImageWrites", spec := "imageWrites", apart := false }
def ImageWritesSaid : Prop := imageWritesRow.holds Try.pinned (OpenSpec.ofChange imageWritesSpec)

/-- ITS FALSE NEIGHBOUR: 'it returns false'. Refute it at one input. -/
def imageWritesWrong : ChangeSpec := { name := "imageWrites", fn := fun _ => fun
  | [d1, d2, d3] => { results := [.lit (.bool false)], args := [d1, d2, d3] }
  | _ => none }
def ImageWritesWrongFalsely : Prop := imageWritesRow.holds Try.pinned (OpenSpec.ofChange imageWritesWrong)

/-- 'pantographlaw05.ImageApart': WHATEVER THE INPUT: true; the input reads as it did. -/
def imageApartSpec : ChangeSpec := { name := "imageApart", fn := fun _ => fun
  | [d1, d2, d3] => { results := [.lit (.bool true)], args := [d1, d2, d3] }
  | _ => none }
def imageApartRow : OpenClaim := { program := "yticfhjimbochlaa", sum := "eeeb0b01c28794adcec2334c37389502d81330a70ba5b581c4eb160db6606ea2", func := "pantograph/pantographlaw05.ImageApart", spec := "imageApart", apart := false }
def ImageApartSaid : Prop := imageApartRow.holds Try.pinned (OpenSpec.ofChange imageApartSpec)

/-- ITS FALSE NEIGHBOUR: 'it returns false'. Refute it at one input. -/
def imageApartWrong : ChangeSpec := { name := "imageApart", fn := fun _ => fun
  | [d1, d2, d3] => { results := [.lit (.bool false)], args := [d1, d2, d3] }
  | _ => none }
def ImageApartWrongFalsely : Prop := imageApartRow.holds Try.pinned (OpenSpec.ofChange imageApartWrong)

/-- 'pantographlaw05.ImageKeys': WHATEVER THE INPUT: true; the input reads as it did. -/
def imageKeysSpec : ChangeSpec := { name := "imageKeys", fn := fun _ => fun
  | [d1, d2, d3] => { results := [.lit (.bool true)], args := [d1, d2, d3] }
  | _ => none }
def imageKeysRow : OpenClaim := { program := "yticfhjimbochlaa", sum := "eeeb0b01c28794adcec2334c37389502d81330a70ba5b581c4eb160db6606ea2", func := "pantograph/pantographlaw05.ImageKeys", spec := "imageKeys", apart := false }
def ImageKeysSaid : Prop := imageKeysRow.holds Try.pinned (OpenSpec.ofChange imageKeysSpec)

/-- ITS FALSE NEIGHBOUR: 'it returns false'. Refute it at one input. -/
def imageKeysWrong : ChangeSpec := { name := "imageKeys", fn := fun _ => fun
  | [d1, d2, d3] => { results := [.lit (.bool false)], args := [d1, d2, d3] }
  | _ => none }
def ImageKeysWrongFalsely : Prop := imageKeysRow.holds Try.pinned (OpenSpec.ofChange imageKeysWrong)

/-- 'pantographlaw05.ImageNulls': WHATEVER THE INPUT: true; the input reads as it did. -/
def imageNullsSpec : ChangeSpec := { name := "imageNulls", fn := fun _ => fun
  | [d1, d2] => { results := [.lit (.bool true)], args := [d1, d2] }
  | _ => none }
def imageNullsRow : OpenClaim := { program := "yticfhjimbochlaa", sum := "eeeb0b01c28794adcec2334c37389502d81330a70ba5b581c4eb160db6606ea2", func := "pantograph/pantographlaw05.ImageNulls", spec := "imageNulls", apart := false }
def ImageNullsSaid : Prop := imageNullsRow.holds Try.pinned (OpenSpec.ofChange imageNullsSpec)

/-- ITS FALSE NEIGHBOUR: 'it returns false'. Refute it at one input. -/
def imageNullsWrong : ChangeSpec := { name := "imageNulls", fn := fun _ => fun
  | [d1, d2] => { results := [.lit (.bool false)], args := [d1, d2] }
  | _ => none }
def ImageNullsWrongFalsely : Prop := imageNullsRow.holds Try.pinned (OpenSpec.ofChange imageNullsWrong)

/- THE SECOND FORM. 'bulk': how many values and letters a reading holds, each counted each time it is reached (what is shared counts as often as it is met; a slice's spare places count too). A statement '..UptoSaid' is the law's where the arguments, and the package variables that the reading takes, are together of bulk at most 1048576: NARROWER than '..Said'. Prove '..Said' where nothing that the law and all that it calls make is longer than what came in: it says more and counts as full. Else prove '..UptoSaid'. A law counts once. -/
mutual
def uptoBulk {H : Type} : DataW H → Nat
  | .lit (.string bytes) => bytes.length + 1
  | .lit _ => 1
  | .nil => 1
  | .ptr d => uptoBulk d + 1
  | .slice elems spare => uptoBulkAll elems + uptoBulkAll spare + 1
  | .agg parts => uptoBulkAll parts + 1
  | .iface _ d => uptoBulk d + 1
  | .map entries => uptoBulkEntries entries + 1
  | .held _ => 1
def uptoBulkAll {H : Type} : List (DataW H) → Nat
  | [] => 0
  | d :: r => uptoBulk d + uptoBulkAll r
def uptoBulkEntries {H : Type} : List (Lit × DataW H) → Nat
  | [] => 0
  | x :: r => uptoBulkEntry x + uptoBulkEntries r
def uptoBulkEntry {H : Type} : Lit × DataW H → Nat
  | (.string bytes, d) => bytes.length + uptoBulk d + 1
  | (_, d) => uptoBulk d + 1
 end
def uptoSmall : (H : Type) → List (DataW H) → Bool := fun _ ds => decide (uptoBulkAll ds ≤ 1048576)
def OpenSpec.upto (s : _root_.Go.ChangeSpec) : _root_.Go.OpenSpec := { _root_.Go.OpenSpec.ofChange s with cond := some uptoSmall }

/-- 'pantographlaw04.SchemaMay', WHERE WHAT IT READS IS OF BULK AT MOST 1048576: true; the input reads as it did. -/
def schemaMayUptoRow : OpenClaim := { program := "yticfhjimbochlaa", sum := "eeeb0b01c28794adcec2334c37389502d81330a70ba5b581c4eb160db6606ea2", func := "pantograph/pantographlaw04.SchemaMay", spec := "schemaMay", unfollowed := true, recurses := true, apart := false, narrowed := true }
def SchemaMayUptoSaid : Prop := schemaMayUptoRow.holds Try.pinned (OpenSpec.upto schemaMaySpec)

/-- 'pantographlaw04.SchemaApplies', WHERE WHAT IT READS IS OF BULK AT MOST 1048576: true; the input reads as it did. -/
def schemaAppliesUptoRow : OpenClaim := { program := "yticfhjimbochlaa", sum := "eeeb0b01c28794adcec2334c37389502d81330a70ba5b581c4eb160db6606ea2", func := "pantograph/pantographlaw04.SchemaApplies", spec := "schemaApplies", unfollowed := true, recurses := true, apart := false, narrowed := true }
def SchemaAppliesUptoSaid : Prop := schemaAppliesUptoRow.holds Try.pinned (OpenSpec.upto schemaAppliesSpec)

/-- 'pantographlaw04.SchemaTurns', WHERE WHAT IT READS IS OF BULK AT MOST 1048576: true; the input reads as it did. -/
def schemaTurnsUptoRow : OpenClaim := { program := "yticfhjimbochlaa", sum := "eeeb0b01c28794adcec2334c37389502d81330a70ba5b581c4eb160db6606ea2", func := "pantograph/pantographlaw04.SchemaTurns", spec := "schemaTurns", unfollowed := true, recurses := true, apart := false, narrowed := true }
def SchemaTurnsUptoSaid : Prop := schemaTurnsUptoRow.holds Try.pinned (OpenSpec.upto schemaTurnsSpec)

/-- 'pantographlaw05.ImageWrites', WHERE WHAT IT READS IS OF BULK AT MOST 1048576: true; the input reads as it did. -/
def imageWritesUptoRow : OpenClaim := { program := "yticfhjimbochlaa", sum := "eeeb0b01c28794adcec2334c37389502d81330a70ba5b581c4eb160db6606ea2", func := "pantograph/pantographlaw05.ImageWrites", spec := "imageWrites", apart := false, narrowed := true }
def ImageWritesUptoSaid : Prop := imageWritesUptoRow.holds Try.pinned (OpenSpec.upto imageWritesSpec)

/-- 'pantographlaw05.ImageApart', WHERE WHAT IT READS IS OF BULK AT MOST 1048576: true; the input reads as it did. -/
def imageApartUptoRow : OpenClaim := { program := "yticfhjimbochlaa", sum := "eeeb0b01c28794adcec2334c37389502d81330a70ba5b581c4eb160db6606ea2", func := "pantograph/pantographlaw05.ImageApart", spec := "imageApart", apart := false, narrowed := true }
def ImageApartUptoSaid : Prop := imageApartUptoRow.holds Try.pinned (OpenSpec.upto imageApartSpec)

/-- 'pantographlaw05.ImageKeys', WHERE WHAT IT READS IS OF BULK AT MOST 1048576: true; the input reads as it did. -/
def imageKeysUptoRow : OpenClaim := { program := "yticfhjimbochlaa", sum := "eeeb0b01c28794adcec2334c37389502d81330a70ba5b581c4eb160db6606ea2", func := "pantograph/pantographlaw05.ImageKeys", spec := "imageKeys", apart := false, narrowed := true }
def ImageKeysUptoSaid : Prop := imageKeysUptoRow.holds Try.pinned (OpenSpec.upto imageKeysSpec)

/-- 'pantographlaw05.ImageNulls', WHERE WHAT IT READS IS OF BULK AT MOST 1048576: true; the input reads as it did. -/
def imageNullsUptoRow : OpenClaim := { program := "yticfhjimbochlaa", sum := "eeeb0b01c28794adcec2334c37389502d81330a70ba5b581c4eb160db6606ea2", func := "pantograph/pantographlaw05.ImageNulls", spec := "imageNulls", apart := false, narrowed := true }
def ImageNullsUptoSaid : Prop := imageNullsUptoRow.holds Try.pinned (OpenSpec.upto imageNullsSpec)

end Rows
end Go.Proofs.Yticfhjimbochlaa
