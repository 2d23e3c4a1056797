/-
  DERIVED. GIVEN WITH THE SEED: THE CARDS: each row of YtmmgfoepfapnkaaGreatDoorRows.lean that lists a variable, with what it lists TIED to the program's text (the seventh form; the later family's looks); each row that meets fmt, with fmt's text TOLD by the authors' own Lean function (tested against real Go, not proved from fmt's source: count such statements apart). THE CARD IS WHAT COUNTS. Prove the row's statement (the work); the ties are given (YtmmgfoepfapnkaaGreatDoorTie.lean); close each card by the builder's one call (the guide's Derived/Test/ToyasCard.lean, 'card_holds'). Laid BY PROGRAM, IN A SANDBOX (cutbox-door.mjs). By AI agents, Wed Nov 11 2026. No macro, syntax, notation, axiom, sorry.
-/
import Derived.Test.YtmmgfoepfapnkaaGreatDoorRows
import GoSem.ClaimSeven
namespace Go.Proofs.YtmmgfoepfapnkaaGreatDoor
namespace Rows

/-- THE TIED CARD OF 'selvedgelaw14.ChunkNumbers'. -/
def chunkNumbersCard : Claim7 := { stood := { row := chunkNumbersRow, standIns := [], harness := (true, "d53bcb1d637b97adb191cbff29963e8ac3b20d00c4a78ba64b7895340163d26d"), looks := true }, kinds := [], alts := [], laidByText := true, laidKinds := [.data, .pinned], laidTests := true, laidLooks := .later }
def ChunkNumbersCardSaid : Prop := Claim7.holds Tryz.pinned (.plain (OpenSpec.ofChange chunkNumbersSpec)) chunkNumbersCard

/-- THE TIED CARD OF 'selvedgelaw14.ChunkTells'. -/
def chunkTellsCard : Claim7 := { stood := { row := chunkTellsRow, standIns := [], harness := (true, "d53bcb1d637b97adb191cbff29963e8ac3b20d00c4a78ba64b7895340163d26d"), looks := true }, kinds := [], alts := [], laidByText := true, laidKinds := [.data, .pinned], laidTests := true, laidLooks := .later }
def ChunkTellsCardSaid : Prop := Claim7.holds Tryz.pinned (.plain (OpenSpec.ofChange chunkTellsSpec)) chunkTellsCard

/-- THE TIED CARD OF 'selvedgelaw14.ChunkSpans'. -/
def chunkSpansCard : Claim7 := { stood := { row := chunkSpansRow, standIns := [], harness := (true, "d53bcb1d637b97adb191cbff29963e8ac3b20d00c4a78ba64b7895340163d26d"), looks := true }, kinds := [], alts := [], laidByText := true, laidKinds := [.data, .pinned], laidTests := true, laidLooks := .later }
def ChunkSpansCardSaid : Prop := Claim7.holds Tryz.pinned (.plain (OpenSpec.ofChange chunkSpansSpec)) chunkSpansCard

/-- THE TIED CARD OF 'selvedgelaw14.ChunkOf'. -/
def chunkOfCard : Claim7 := { stood := { row := chunkOfRow, standIns := [], harness := (true, "d53bcb1d637b97adb191cbff29963e8ac3b20d00c4a78ba64b7895340163d26d"), looks := true }, kinds := [], alts := [], laidByText := true, laidKinds := [.data, .pinned], laidTests := true, laidLooks := .later }
def ChunkOfCardSaid : Prop := Claim7.holds Tryz.pinned (.plain (OpenSpec.ofChange chunkOfSpec)) chunkOfCard

/-- THE SECOND FORM's CARD OF 'selvedgelaw14.ChunkNumbers'. -/
def chunkNumbersUptoCard : Claim7 := { stood := { row := chunkNumbersUptoRow, standIns := [], harness := (true, "d53bcb1d637b97adb191cbff29963e8ac3b20d00c4a78ba64b7895340163d26d"), looks := true }, kinds := [], alts := [], laidByText := true, laidKinds := [.data, .pinned], laidTests := true, laidLooks := .later }
def ChunkNumbersUptoCardSaid : Prop := Claim7.holds Tryz.pinned (.plain (OpenSpec.upto chunkNumbersSpec)) chunkNumbersUptoCard

/-- THE SECOND FORM's CARD OF 'selvedgelaw14.ChunkTells'. -/
def chunkTellsUptoCard : Claim7 := { stood := { row := chunkTellsUptoRow, standIns := [], harness := (true, "d53bcb1d637b97adb191cbff29963e8ac3b20d00c4a78ba64b7895340163d26d"), looks := true }, kinds := [], alts := [], laidByText := true, laidKinds := [.data, .pinned], laidTests := true, laidLooks := .later }
def ChunkTellsUptoCardSaid : Prop := Claim7.holds Tryz.pinned (.plain (OpenSpec.upto chunkTellsSpec)) chunkTellsUptoCard

/-- THE SECOND FORM's CARD OF 'selvedgelaw14.ChunkSpans'. -/
def chunkSpansUptoCard : Claim7 := { stood := { row := chunkSpansUptoRow, standIns := [], harness := (true, "d53bcb1d637b97adb191cbff29963e8ac3b20d00c4a78ba64b7895340163d26d"), looks := true }, kinds := [], alts := [], laidByText := true, laidKinds := [.data, .pinned], laidTests := true, laidLooks := .later }
def ChunkSpansUptoCardSaid : Prop := Claim7.holds Tryz.pinned (.plain (OpenSpec.upto chunkSpansSpec)) chunkSpansUptoCard

/-- THE SECOND FORM's CARD OF 'selvedgelaw14.ChunkOf'. -/
def chunkOfUptoCard : Claim7 := { stood := { row := chunkOfUptoRow, standIns := [], harness := (true, "d53bcb1d637b97adb191cbff29963e8ac3b20d00c4a78ba64b7895340163d26d"), looks := true }, kinds := [], alts := [], laidByText := true, laidKinds := [.data, .pinned], laidTests := true, laidLooks := .later }
def ChunkOfUptoCardSaid : Prop := Claim7.holds Tryz.pinned (.plain (OpenSpec.upto chunkOfSpec)) chunkOfUptoCard
end Rows
end Go.Proofs.YtmmgfoepfapnkaaGreatDoor
