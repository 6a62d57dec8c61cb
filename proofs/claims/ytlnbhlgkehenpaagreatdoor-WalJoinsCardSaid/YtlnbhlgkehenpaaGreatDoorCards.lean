/-
  DERIVED. GIVEN WITH THE SEED: THE CARDS: each row of YtlnbhlgkehenpaaGreatDoorRows.lean that lists a variable, with what it lists TIED to the program's text (the seventh form; the later family's looks); each row that meets fmt, with fmt's text TOLD by the authors' own Lean function (tested against real Go, not proved from fmt's source: count such statements apart). THE CARD IS WHAT COUNTS. Prove the row's statement (the work); the ties are given (YtlnbhlgkehenpaaGreatDoorTie.lean); close each card by the builder's one call (the guide's Derived/Test/ToyasCard.lean, 'card_holds'). Laid BY PROGRAM, IN A SANDBOX (cutbox-door.mjs). By AI agents, Wed Nov 11 2026. No macro, syntax, notation, axiom, sorry.
-/
import Derived.Test.YtlnbhlgkehenpaaGreatDoorRows
import GoSem.ClaimSeven
namespace Go.Proofs.YtlnbhlgkehenpaaGreatDoor
namespace Rows

/-- THE TIED CARD OF 'pantographlaw14.WalBehind'. -/
def walBehindCard : Claim7 := { stood := { row := walBehindRow, standIns := [], harness := (true, "238bb9e697c5ed05296d41d06ba0f2e312aaa6a499839ce13e93915473c1a503"), looks := false }, kinds := [], alts := [], laidByText := true, laidKinds := [.data, .pinned], laidTests := true, laidLooks := .later }
def WalBehindCardSaid : Prop := Claim7.holds Tryz.pinned (.plain (OpenSpec.ofChange walBehindSpec)) walBehindCard

/-- THE TIED CARD OF 'pantographlaw14.WalJoins'. -/
def walJoinsCard : Claim7 := { stood := { row := walJoinsRow, standIns := [], harness := (true, "238bb9e697c5ed05296d41d06ba0f2e312aaa6a499839ce13e93915473c1a503"), looks := false }, kinds := [], alts := [], laidByText := true, laidKinds := [.data, .pinned], laidTests := true, laidLooks := .later }
def WalJoinsCardSaid : Prop := Claim7.holds Tryz.pinned (.plain (OpenSpec.ofChange walJoinsSpec)) walJoinsCard

/-- THE SECOND FORM's CARD OF 'pantographlaw14.WalBehind'. -/
def walBehindUptoCard : Claim7 := { stood := { row := walBehindUptoRow, standIns := [], harness := (true, "238bb9e697c5ed05296d41d06ba0f2e312aaa6a499839ce13e93915473c1a503"), looks := false }, kinds := [], alts := [], laidByText := true, laidKinds := [.data, .pinned], laidTests := true, laidLooks := .later }
def WalBehindUptoCardSaid : Prop := Claim7.holds Tryz.pinned (.plain (OpenSpec.upto walBehindSpec)) walBehindUptoCard

/-- THE SECOND FORM's CARD OF 'pantographlaw14.WalJoins'. -/
def walJoinsUptoCard : Claim7 := { stood := { row := walJoinsUptoRow, standIns := [], harness := (true, "238bb9e697c5ed05296d41d06ba0f2e312aaa6a499839ce13e93915473c1a503"), looks := false }, kinds := [], alts := [], laidByText := true, laidKinds := [.data, .pinned], laidTests := true, laidLooks := .later }
def WalJoinsUptoCardSaid : Prop := Claim7.holds Tryz.pinned (.plain (OpenSpec.upto walJoinsSpec)) walJoinsUptoCard
end Rows
end Go.Proofs.YtlnbhlgkehenpaaGreatDoor
