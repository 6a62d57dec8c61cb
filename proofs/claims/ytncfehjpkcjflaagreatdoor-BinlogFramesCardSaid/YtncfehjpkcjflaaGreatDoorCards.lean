/-
  DERIVED. GIVEN WITH THE SEED: THE CARDS: each row of YtncfehjpkcjflaaGreatDoorRows.lean that lists a variable, with what it lists TIED to the program's text (the seventh form; the later family's looks); each row that meets fmt, with fmt's text TOLD by the authors' own Lean function (tested against real Go, not proved from fmt's source: count such statements apart). THE CARD IS WHAT COUNTS. Prove the row's statement (the work); the ties are given (YtncfehjpkcjflaaGreatDoorTie.lean); close each card by the builder's one call (the guide's Derived/Test/ToyasCard.lean, 'card_holds'). Laid BY PROGRAM, IN A SANDBOX (cutbox-door.mjs). By AI agents, Wed Nov 11 2026. No macro, syntax, notation, axiom, sorry.
-/
import Derived.Test.YtncfehjpkcjflaaGreatDoorRows
import GoSem.ClaimSeven
namespace Go.Proofs.YtncfehjpkcjflaaGreatDoor
namespace Rows

/-- THE TIED CARD OF 'pantographlaw07.BinlogFrames'. -/
def binlogFramesCard : Claim7 := { stood := { row := binlogFramesRow, standIns := [], harness := (true, "4d5fcfba11733b119470b9f03c0e9f35b7991de869c0fccb1b4ff423fe13933a"), looks := true }, kinds := [], alts := [], laidByText := true, laidKinds := [.data, .pinned], laidTests := true, laidLooks := .later }
def BinlogFramesCardSaid : Prop := Claim7.holds Tryz.pinned (.plain (OpenSpec.ofChange binlogFramesSpec)) binlogFramesCard

/-- THE TIED CARD OF 'pantographlaw07.BinlogBursts'. -/
def binlogBurstsCard : Claim7 := { stood := { row := binlogBurstsRow, standIns := [], harness := (true, "4d5fcfba11733b119470b9f03c0e9f35b7991de869c0fccb1b4ff423fe13933a"), looks := true }, kinds := [], alts := [], laidByText := true, laidKinds := [.data, .pinned], laidTests := true, laidLooks := .later }
def BinlogBurstsCardSaid : Prop := Claim7.holds Tryz.pinned (.plain (OpenSpec.ofChange binlogBurstsSpec)) binlogBurstsCard

/-- THE TIED CARD OF 'pantographlaw14.WalBehind'. -/
def walBehindCard : Claim7 := { stood := { row := walBehindRow, standIns := [], harness := (true, "4d5fcfba11733b119470b9f03c0e9f35b7991de869c0fccb1b4ff423fe13933a"), looks := true }, kinds := [], alts := [], laidByText := true, laidKinds := [.data, .pinned], laidTests := true, laidLooks := .later }
def WalBehindCardSaid : Prop := Claim7.holds Tryz.pinned (.plain (OpenSpec.ofChange walBehindSpec)) walBehindCard

/-- THE TIED CARD OF 'pantographlaw14.WalJoins'. -/
def walJoinsCard : Claim7 := { stood := { row := walJoinsRow, standIns := [], harness := (true, "4d5fcfba11733b119470b9f03c0e9f35b7991de869c0fccb1b4ff423fe13933a"), looks := true }, kinds := [], alts := [], laidByText := true, laidKinds := [.data, .pinned], laidTests := true, laidLooks := .later }
def WalJoinsCardSaid : Prop := Claim7.holds Tryz.pinned (.plain (OpenSpec.ofChange walJoinsSpec)) walJoinsCard

/-- THE TIED CARD OF 'pantographlaw15.StatePlays'. -/
def statePlaysCard : Claim7 := { stood := { row := statePlaysRow, standIns := [], harness := (true, "4d5fcfba11733b119470b9f03c0e9f35b7991de869c0fccb1b4ff423fe13933a"), looks := true }, kinds := [], alts := [], laidByText := true, laidKinds := [.data, .pinned], laidTests := true, laidLooks := .later }
def StatePlaysCardSaid : Prop := Claim7.holds Tryz.pinned (.plain (OpenSpec.ofChange statePlaysSpec)) statePlaysCard

/-- THE TIED CARD OF 'pantographlaw15.StateBytes'. -/
def stateBytesCard : Claim7 := { stood := { row := stateBytesRow, standIns := [], harness := (true, "4d5fcfba11733b119470b9f03c0e9f35b7991de869c0fccb1b4ff423fe13933a"), looks := true }, kinds := [], alts := [], laidByText := true, laidKinds := [.data, .pinned], laidTests := true, laidLooks := .later }
def StateBytesCardSaid : Prop := Claim7.holds Tryz.pinned (.plain (OpenSpec.ofChange stateBytesSpec)) stateBytesCard

/-- THE TIED CARD OF 'pantographlaw15.StatePuts'. -/
def statePutsCard : Claim7 := { stood := { row := statePutsRow, standIns := [], harness := (true, "4d5fcfba11733b119470b9f03c0e9f35b7991de869c0fccb1b4ff423fe13933a"), looks := true }, kinds := [], alts := [], laidByText := true, laidKinds := [.data, .pinned], laidTests := true, laidLooks := .later }
def StatePutsCardSaid : Prop := Claim7.holds Tryz.pinned (.plain (OpenSpec.ofChange statePutsSpec)) statePutsCard

/-- THE TIED CARD OF 'pantographlaw15.StateClones'. -/
def stateClonesCard : Claim7 := { stood := { row := stateClonesRow, standIns := [], harness := (true, "4d5fcfba11733b119470b9f03c0e9f35b7991de869c0fccb1b4ff423fe13933a"), looks := true }, kinds := [], alts := [], laidByText := true, laidKinds := [.data, .pinned], laidTests := true, laidLooks := .later }
def StateClonesCardSaid : Prop := Claim7.holds Tryz.pinned (.plain (OpenSpec.ofChange stateClonesSpec)) stateClonesCard

/-- THE TIED CARD OF 'pantographlaw15.StateJoins'. -/
def stateJoinsCard : Claim7 := { stood := { row := stateJoinsRow, standIns := [], harness := (true, "4d5fcfba11733b119470b9f03c0e9f35b7991de869c0fccb1b4ff423fe13933a"), looks := true }, kinds := [], alts := [], laidByText := true, laidKinds := [.data, .pinned], laidTests := true, laidLooks := .later }
def StateJoinsCardSaid : Prop := Claim7.holds Tryz.pinned (.plain (OpenSpec.ofChange stateJoinsSpec)) stateJoinsCard

/-- THE TIED CARD OF 'pantographlaw15.StateTwice'. -/
def stateTwiceCard : Claim7 := { stood := { row := stateTwiceRow, standIns := [], harness := (true, "4d5fcfba11733b119470b9f03c0e9f35b7991de869c0fccb1b4ff423fe13933a"), looks := true }, kinds := [], alts := [], laidByText := true, laidKinds := [.data, .pinned], laidTests := true, laidLooks := .later }
def StateTwiceCardSaid : Prop := Claim7.holds Tryz.pinned (.plain (OpenSpec.ofChange stateTwiceSpec)) stateTwiceCard

/-- THE SECOND FORM's CARD OF 'pantographlaw07.BinlogFrames'. -/
def binlogFramesUptoCard : Claim7 := { stood := { row := binlogFramesUptoRow, standIns := [], harness := (true, "4d5fcfba11733b119470b9f03c0e9f35b7991de869c0fccb1b4ff423fe13933a"), looks := true }, kinds := [], alts := [], laidByText := true, laidKinds := [.data, .pinned], laidTests := true, laidLooks := .later }
def BinlogFramesUptoCardSaid : Prop := Claim7.holds Tryz.pinned (.plain (OpenSpec.upto binlogFramesSpec)) binlogFramesUptoCard

/-- THE SECOND FORM's CARD OF 'pantographlaw07.BinlogBursts'. -/
def binlogBurstsUptoCard : Claim7 := { stood := { row := binlogBurstsUptoRow, standIns := [], harness := (true, "4d5fcfba11733b119470b9f03c0e9f35b7991de869c0fccb1b4ff423fe13933a"), looks := true }, kinds := [], alts := [], laidByText := true, laidKinds := [.data, .pinned], laidTests := true, laidLooks := .later }
def BinlogBurstsUptoCardSaid : Prop := Claim7.holds Tryz.pinned (.plain (OpenSpec.upto binlogBurstsSpec)) binlogBurstsUptoCard

/-- THE SECOND FORM's CARD OF 'pantographlaw14.WalBehind'. -/
def walBehindUptoCard : Claim7 := { stood := { row := walBehindUptoRow, standIns := [], harness := (true, "4d5fcfba11733b119470b9f03c0e9f35b7991de869c0fccb1b4ff423fe13933a"), looks := true }, kinds := [], alts := [], laidByText := true, laidKinds := [.data, .pinned], laidTests := true, laidLooks := .later }
def WalBehindUptoCardSaid : Prop := Claim7.holds Tryz.pinned (.plain (OpenSpec.upto walBehindSpec)) walBehindUptoCard

/-- THE SECOND FORM's CARD OF 'pantographlaw14.WalJoins'. -/
def walJoinsUptoCard : Claim7 := { stood := { row := walJoinsUptoRow, standIns := [], harness := (true, "4d5fcfba11733b119470b9f03c0e9f35b7991de869c0fccb1b4ff423fe13933a"), looks := true }, kinds := [], alts := [], laidByText := true, laidKinds := [.data, .pinned], laidTests := true, laidLooks := .later }
def WalJoinsUptoCardSaid : Prop := Claim7.holds Tryz.pinned (.plain (OpenSpec.upto walJoinsSpec)) walJoinsUptoCard

/-- THE SECOND FORM's CARD OF 'pantographlaw15.StatePlays'. -/
def statePlaysUptoCard : Claim7 := { stood := { row := statePlaysUptoRow, standIns := [], harness := (true, "4d5fcfba11733b119470b9f03c0e9f35b7991de869c0fccb1b4ff423fe13933a"), looks := true }, kinds := [], alts := [], laidByText := true, laidKinds := [.data, .pinned], laidTests := true, laidLooks := .later }
def StatePlaysUptoCardSaid : Prop := Claim7.holds Tryz.pinned (.plain (OpenSpec.upto statePlaysSpec)) statePlaysUptoCard

/-- THE SECOND FORM's CARD OF 'pantographlaw15.StateBytes'. -/
def stateBytesUptoCard : Claim7 := { stood := { row := stateBytesUptoRow, standIns := [], harness := (true, "4d5fcfba11733b119470b9f03c0e9f35b7991de869c0fccb1b4ff423fe13933a"), looks := true }, kinds := [], alts := [], laidByText := true, laidKinds := [.data, .pinned], laidTests := true, laidLooks := .later }
def StateBytesUptoCardSaid : Prop := Claim7.holds Tryz.pinned (.plain (OpenSpec.upto stateBytesSpec)) stateBytesUptoCard

/-- THE SECOND FORM's CARD OF 'pantographlaw15.StatePuts'. -/
def statePutsUptoCard : Claim7 := { stood := { row := statePutsUptoRow, standIns := [], harness := (true, "4d5fcfba11733b119470b9f03c0e9f35b7991de869c0fccb1b4ff423fe13933a"), looks := true }, kinds := [], alts := [], laidByText := true, laidKinds := [.data, .pinned], laidTests := true, laidLooks := .later }
def StatePutsUptoCardSaid : Prop := Claim7.holds Tryz.pinned (.plain (OpenSpec.upto statePutsSpec)) statePutsUptoCard

/-- THE SECOND FORM's CARD OF 'pantographlaw15.StateClones'. -/
def stateClonesUptoCard : Claim7 := { stood := { row := stateClonesUptoRow, standIns := [], harness := (true, "4d5fcfba11733b119470b9f03c0e9f35b7991de869c0fccb1b4ff423fe13933a"), looks := true }, kinds := [], alts := [], laidByText := true, laidKinds := [.data, .pinned], laidTests := true, laidLooks := .later }
def StateClonesUptoCardSaid : Prop := Claim7.holds Tryz.pinned (.plain (OpenSpec.upto stateClonesSpec)) stateClonesUptoCard

/-- THE SECOND FORM's CARD OF 'pantographlaw15.StateJoins'. -/
def stateJoinsUptoCard : Claim7 := { stood := { row := stateJoinsUptoRow, standIns := [], harness := (true, "4d5fcfba11733b119470b9f03c0e9f35b7991de869c0fccb1b4ff423fe13933a"), looks := true }, kinds := [], alts := [], laidByText := true, laidKinds := [.data, .pinned], laidTests := true, laidLooks := .later }
def StateJoinsUptoCardSaid : Prop := Claim7.holds Tryz.pinned (.plain (OpenSpec.upto stateJoinsSpec)) stateJoinsUptoCard

/-- THE SECOND FORM's CARD OF 'pantographlaw15.StateTwice'. -/
def stateTwiceUptoCard : Claim7 := { stood := { row := stateTwiceUptoRow, standIns := [], harness := (true, "4d5fcfba11733b119470b9f03c0e9f35b7991de869c0fccb1b4ff423fe13933a"), looks := true }, kinds := [], alts := [], laidByText := true, laidKinds := [.data, .pinned], laidTests := true, laidLooks := .later }
def StateTwiceUptoCardSaid : Prop := Claim7.holds Tryz.pinned (.plain (OpenSpec.upto stateTwiceSpec)) stateTwiceUptoCard
end Rows
end Go.Proofs.YtncfehjpkcjflaaGreatDoor
