/-
  DERIVED. GIVEN WITH THE SEED: THE CARDS: each row of YtjmfcbfjeoooeaaDoorRows.lean that lists a variable, with what it lists TIED to the program's text (the seventh form; the later family's looks); each row that meets fmt, with fmt's text TOLD by the authors' own Lean function (tested against real Go, not proved from fmt's source: count such statements apart). THE CARD IS WHAT COUNTS. Prove the row's statement (the work); the ties are given (YtjmfcbfjeoooeaaDoorTie.lean); close each card by the builder's one call (the guide's Derived/Test/ToyasCard.lean, 'card_holds'). Laid BY PROGRAM, IN A SANDBOX (cutbox-door.mjs). By AI agents, Wed Nov 11 2026. No macro, syntax, notation, axiom, sorry.
-/
import Derived.Test.YtjmfcbfjeoooeaaDoorRows
import GoSem.ClaimSeven
namespace Go.Proofs.YtjmfcbfjeoooeaaDoor
namespace Rows

/-- THE TIED CARD OF 'pantographlaw11.ChunkRight'. -/
def chunkRightCard : Claim7 := { stood := { row := chunkRightRow, standIns := [], harness := (true, "716ab2e8446e5c752daf601bbf4ff8d68db0526c1ff946af0503b1d32b862d66"), looks := false }, kinds := [], alts := [], laidByText := true, laidKinds := [.data, .pinned], laidTests := true, laidLooks := .later }
def ChunkRightCardSaid : Prop := Claim7.holds Tryd.pinned (.plain (OpenSpec.ofChange chunkRightSpec)) chunkRightCard

/-- THE TIED CARD OF 'pantographlaw11.ChunkTurns'. -/
def chunkTurnsCard : Claim7 := { stood := { row := chunkTurnsRow, standIns := [], harness := (true, "716ab2e8446e5c752daf601bbf4ff8d68db0526c1ff946af0503b1d32b862d66"), looks := false }, kinds := [], alts := [], laidByText := true, laidKinds := [.data, .pinned], laidTests := true, laidLooks := .later }
def ChunkTurnsCardSaid : Prop := Claim7.holds Tryd.pinned (.plain (OpenSpec.ofChange chunkTurnsSpec)) chunkTurnsCard

/-- THE TIED CARD OF 'pantographlaw11.ChunkCovers'. -/
def chunkCoversCard : Claim7 := { stood := { row := chunkCoversRow, standIns := [], harness := (true, "716ab2e8446e5c752daf601bbf4ff8d68db0526c1ff946af0503b1d32b862d66"), looks := false }, kinds := [], alts := [], laidByText := true, laidKinds := [.data, .pinned], laidTests := true, laidLooks := .later }
def ChunkCoversCardSaid : Prop := Claim7.holds Tryd.pinned (.plain (OpenSpec.ofChange chunkCoversSpec)) chunkCoversCard

/-- THE TIED CARD OF 'pantographlaw11.ChunkPoints'. -/
def chunkPointsCard : Claim7 := { stood := { row := chunkPointsRow, standIns := [], harness := (true, "716ab2e8446e5c752daf601bbf4ff8d68db0526c1ff946af0503b1d32b862d66"), looks := false }, kinds := [], alts := [], laidByText := true, laidKinds := [.data, .pinned], laidTests := true, laidLooks := .later }
def ChunkPointsCardSaid : Prop := Claim7.holds Tryd.pinned (.plain (OpenSpec.ofChange chunkPointsSpec)) chunkPointsCard

/-- THE TIED CARD OF 'pantographlaw11.ChunkReads'. -/
def chunkReadsCard : Claim7 := { stood := { row := chunkReadsRow, standIns := [], harness := (true, "716ab2e8446e5c752daf601bbf4ff8d68db0526c1ff946af0503b1d32b862d66"), looks := false }, kinds := [], alts := [], laidByText := true, laidKinds := [.data, .pinned], laidTests := true, laidLooks := .later }
def ChunkReadsCardSaid : Prop := Claim7.holds Tryd.pinned (.plain (OpenSpec.ofChange chunkReadsSpec)) chunkReadsCard

/-- THE TIED CARD OF 'pantographlaw11.ChunkNext'. -/
def chunkNextCard : Claim7 := { stood := { row := chunkNextRow, standIns := [], harness := (true, "716ab2e8446e5c752daf601bbf4ff8d68db0526c1ff946af0503b1d32b862d66"), looks := false }, kinds := [], alts := [], laidByText := true, laidKinds := [.data, .pinned], laidTests := true, laidLooks := .later }
def ChunkNextCardSaid : Prop := Claim7.holds Tryd.pinned (.plain (OpenSpec.ofChange chunkNextSpec)) chunkNextCard

/-- THE TIED CARD OF 'pantographlaw11.ChunkGoes'. -/
def chunkGoesCard : Claim7 := { stood := { row := chunkGoesRow, standIns := [], harness := (true, "716ab2e8446e5c752daf601bbf4ff8d68db0526c1ff946af0503b1d32b862d66"), looks := false }, kinds := [], alts := [], laidByText := true, laidKinds := [.data, .pinned], laidTests := true, laidLooks := .later }
def ChunkGoesCardSaid : Prop := Claim7.holds Tryd.pinned (.plain (OpenSpec.ofChange chunkGoesSpec)) chunkGoesCard

/-- THE TIED CARD OF 'pantographlaw06.EventMay'. -/
def eventMayCard : Claim7 := { stood := { row := eventMayRow, standIns := [], harness := (true, "716ab2e8446e5c752daf601bbf4ff8d68db0526c1ff946af0503b1d32b862d66"), looks := false }, kinds := [], alts := [], laidByText := true, laidKinds := [.data, .pinned], laidTests := true, laidLooks := .later }
def EventMayCardSaid : Prop := Claim7.holds Tryd.pinned (.plain (OpenSpec.ofChange eventMaySpec)) eventMayCard

/-- THE SECOND FORM's CARD OF 'pantographlaw11.ChunkRight'. -/
def chunkRightUptoCard : Claim7 := { stood := { row := chunkRightUptoRow, standIns := [], harness := (true, "716ab2e8446e5c752daf601bbf4ff8d68db0526c1ff946af0503b1d32b862d66"), looks := false }, kinds := [], alts := [], laidByText := true, laidKinds := [.data, .pinned], laidTests := true, laidLooks := .later }
def ChunkRightUptoCardSaid : Prop := Claim7.holds Tryd.pinned (.plain (OpenSpec.upto chunkRightSpec)) chunkRightUptoCard

/-- THE SECOND FORM's CARD OF 'pantographlaw11.ChunkTurns'. -/
def chunkTurnsUptoCard : Claim7 := { stood := { row := chunkTurnsUptoRow, standIns := [], harness := (true, "716ab2e8446e5c752daf601bbf4ff8d68db0526c1ff946af0503b1d32b862d66"), looks := false }, kinds := [], alts := [], laidByText := true, laidKinds := [.data, .pinned], laidTests := true, laidLooks := .later }
def ChunkTurnsUptoCardSaid : Prop := Claim7.holds Tryd.pinned (.plain (OpenSpec.upto chunkTurnsSpec)) chunkTurnsUptoCard

/-- THE SECOND FORM's CARD OF 'pantographlaw11.ChunkCovers'. -/
def chunkCoversUptoCard : Claim7 := { stood := { row := chunkCoversUptoRow, standIns := [], harness := (true, "716ab2e8446e5c752daf601bbf4ff8d68db0526c1ff946af0503b1d32b862d66"), looks := false }, kinds := [], alts := [], laidByText := true, laidKinds := [.data, .pinned], laidTests := true, laidLooks := .later }
def ChunkCoversUptoCardSaid : Prop := Claim7.holds Tryd.pinned (.plain (OpenSpec.upto chunkCoversSpec)) chunkCoversUptoCard

/-- THE SECOND FORM's CARD OF 'pantographlaw11.ChunkPoints'. -/
def chunkPointsUptoCard : Claim7 := { stood := { row := chunkPointsUptoRow, standIns := [], harness := (true, "716ab2e8446e5c752daf601bbf4ff8d68db0526c1ff946af0503b1d32b862d66"), looks := false }, kinds := [], alts := [], laidByText := true, laidKinds := [.data, .pinned], laidTests := true, laidLooks := .later }
def ChunkPointsUptoCardSaid : Prop := Claim7.holds Tryd.pinned (.plain (OpenSpec.upto chunkPointsSpec)) chunkPointsUptoCard

/-- THE SECOND FORM's CARD OF 'pantographlaw11.ChunkReads'. -/
def chunkReadsUptoCard : Claim7 := { stood := { row := chunkReadsUptoRow, standIns := [], harness := (true, "716ab2e8446e5c752daf601bbf4ff8d68db0526c1ff946af0503b1d32b862d66"), looks := false }, kinds := [], alts := [], laidByText := true, laidKinds := [.data, .pinned], laidTests := true, laidLooks := .later }
def ChunkReadsUptoCardSaid : Prop := Claim7.holds Tryd.pinned (.plain (OpenSpec.upto chunkReadsSpec)) chunkReadsUptoCard

/-- THE SECOND FORM's CARD OF 'pantographlaw11.ChunkNext'. -/
def chunkNextUptoCard : Claim7 := { stood := { row := chunkNextUptoRow, standIns := [], harness := (true, "716ab2e8446e5c752daf601bbf4ff8d68db0526c1ff946af0503b1d32b862d66"), looks := false }, kinds := [], alts := [], laidByText := true, laidKinds := [.data, .pinned], laidTests := true, laidLooks := .later }
def ChunkNextUptoCardSaid : Prop := Claim7.holds Tryd.pinned (.plain (OpenSpec.upto chunkNextSpec)) chunkNextUptoCard

/-- THE SECOND FORM's CARD OF 'pantographlaw11.ChunkGoes'. -/
def chunkGoesUptoCard : Claim7 := { stood := { row := chunkGoesUptoRow, standIns := [], harness := (true, "716ab2e8446e5c752daf601bbf4ff8d68db0526c1ff946af0503b1d32b862d66"), looks := false }, kinds := [], alts := [], laidByText := true, laidKinds := [.data, .pinned], laidTests := true, laidLooks := .later }
def ChunkGoesUptoCardSaid : Prop := Claim7.holds Tryd.pinned (.plain (OpenSpec.upto chunkGoesSpec)) chunkGoesUptoCard

/-- THE SECOND FORM's CARD OF 'pantographlaw06.EventMay'. -/
def eventMayUptoCard : Claim7 := { stood := { row := eventMayUptoRow, standIns := [], harness := (true, "716ab2e8446e5c752daf601bbf4ff8d68db0526c1ff946af0503b1d32b862d66"), looks := false }, kinds := [], alts := [], laidByText := true, laidKinds := [.data, .pinned], laidTests := true, laidLooks := .later }
def EventMayUptoCardSaid : Prop := Claim7.holds Tryd.pinned (.plain (OpenSpec.upto eventMaySpec)) eventMayUptoCard
end Rows
end Go.Proofs.YtjmfcbfjeoooeaaDoor
