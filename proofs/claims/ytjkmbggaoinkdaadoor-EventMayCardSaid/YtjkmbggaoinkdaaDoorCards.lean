/-
  DERIVED. GIVEN WITH THE SEED: THE CARDS: each row of YtjkmbggaoinkdaaDoorRows.lean that lists a variable, with what it lists TIED to the program's text (the seventh form; the later family's looks); each row that meets fmt, with fmt's text TOLD by the authors' own Lean function (tested against real Go, not proved from fmt's source: count such statements apart). THE CARD IS WHAT COUNTS. Prove the row's statement (the work); the ties are given (YtjkmbggaoinkdaaDoorTie.lean); close each card by the builder's one call (the guide's Derived/Test/ToyasCard.lean, 'card_holds'). Laid BY PROGRAM, IN A SANDBOX (cutbox-door.mjs). By AI agents, Wed Nov 11 2026. No macro, syntax, notation, axiom, sorry.
-/
import Derived.Test.YtjkmbggaoinkdaaDoorRows
import GoSem.ClaimSeven
namespace Go.Proofs.YtjkmbggaoinkdaaDoor
namespace Rows

/-- THE TIED CARD OF 'pantographlaw06.EventMay'. -/
def eventMayCard : Claim7 := { stood := { row := eventMayRow, standIns := [], harness := (true, "8afac0dc11fd5b22c7d9492b51472104375ca3eb6866a7507e6157965b88a91f"), looks := false }, kinds := [], alts := [], laidByText := true, laidKinds := [.data, .pinned], laidTests := true, laidLooks := .later }
def EventMayCardSaid : Prop := Claim7.holds Tryd.pinned (.plain (OpenSpec.ofChange eventMaySpec)) eventMayCard

/-- THE TIED CARD OF 'pantographlaw11.ChunkPoints'. -/
def chunkPointsCard : Claim7 := { stood := { row := chunkPointsRow, standIns := [], harness := (true, "8afac0dc11fd5b22c7d9492b51472104375ca3eb6866a7507e6157965b88a91f"), looks := false }, kinds := [], alts := [], laidByText := true, laidKinds := [.data, .pinned], laidTests := true, laidLooks := .later }
def ChunkPointsCardSaid : Prop := Claim7.holds Tryd.pinned (.plain (OpenSpec.ofChange chunkPointsSpec)) chunkPointsCard

/-- THE TIED CARD OF 'pantographlaw11.ChunkReads'. -/
def chunkReadsCard : Claim7 := { stood := { row := chunkReadsRow, standIns := [], harness := (true, "8afac0dc11fd5b22c7d9492b51472104375ca3eb6866a7507e6157965b88a91f"), looks := false }, kinds := [], alts := [], laidByText := true, laidKinds := [.data, .pinned], laidTests := true, laidLooks := .later }
def ChunkReadsCardSaid : Prop := Claim7.holds Tryd.pinned (.plain (OpenSpec.ofChange chunkReadsSpec)) chunkReadsCard

/-- THE SECOND FORM's CARD OF 'pantographlaw06.EventMay'. -/
def eventMayUptoCard : Claim7 := { stood := { row := eventMayUptoRow, standIns := [], harness := (true, "8afac0dc11fd5b22c7d9492b51472104375ca3eb6866a7507e6157965b88a91f"), looks := false }, kinds := [], alts := [], laidByText := true, laidKinds := [.data, .pinned], laidTests := true, laidLooks := .later }
def EventMayUptoCardSaid : Prop := Claim7.holds Tryd.pinned (.plain (OpenSpec.upto eventMaySpec)) eventMayUptoCard

/-- THE SECOND FORM's CARD OF 'pantographlaw11.ChunkPoints'. -/
def chunkPointsUptoCard : Claim7 := { stood := { row := chunkPointsUptoRow, standIns := [], harness := (true, "8afac0dc11fd5b22c7d9492b51472104375ca3eb6866a7507e6157965b88a91f"), looks := false }, kinds := [], alts := [], laidByText := true, laidKinds := [.data, .pinned], laidTests := true, laidLooks := .later }
def ChunkPointsUptoCardSaid : Prop := Claim7.holds Tryd.pinned (.plain (OpenSpec.upto chunkPointsSpec)) chunkPointsUptoCard

/-- THE SECOND FORM's CARD OF 'pantographlaw11.ChunkReads'. -/
def chunkReadsUptoCard : Claim7 := { stood := { row := chunkReadsUptoRow, standIns := [], harness := (true, "8afac0dc11fd5b22c7d9492b51472104375ca3eb6866a7507e6157965b88a91f"), looks := false }, kinds := [], alts := [], laidByText := true, laidKinds := [.data, .pinned], laidTests := true, laidLooks := .later }
def ChunkReadsUptoCardSaid : Prop := Claim7.holds Tryd.pinned (.plain (OpenSpec.upto chunkReadsSpec)) chunkReadsUptoCard
end Rows
end Go.Proofs.YtjkmbggaoinkdaaDoor
