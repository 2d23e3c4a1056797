/-
  DERIVED. GIVEN WITH THE SEED: THE CARDS: each row of YtkfhkfagmokjpaaGreatDoorRows.lean that lists a variable, with what it lists TIED to the program's text (the seventh form; the later family's looks); each row that meets fmt, with fmt's text TOLD by the authors' own Lean function (tested against real Go, not proved from fmt's source: count such statements apart). THE CARD IS WHAT COUNTS. Prove the row's statement (the work); the ties are given (YtkfhkfagmokjpaaGreatDoorTie.lean); close each card by the builder's one call (the guide's Derived/Test/ToyasCard.lean, 'card_holds'). Laid BY PROGRAM, IN A SANDBOX (cutbox-door.mjs). By AI agents, Wed Nov 11 2026. No macro, syntax, notation, axiom, sorry.
-/
import Derived.Test.YtkfhkfagmokjpaaGreatDoorRows
import GoSem.ClaimSeven
namespace Go.Proofs.YtkfhkfagmokjpaaGreatDoor
namespace Rows

/-- THE TIED CARD OF 'selvedgelaw12.InlineNumbers'. -/
def inlineNumbersCard : Claim7 := { stood := { row := inlineNumbersRow, standIns := [], harness := (true, "298a7fdf94a456659f137c67cd488db8e996e5bea945cf8c74633fd28dc8bc3c"), looks := false }, kinds := [], alts := [], laidByText := true, laidKinds := [.data, .pinned], laidTests := true, laidLooks := .later }
def InlineNumbersCardSaid : Prop := Claim7.holds Tryz.pinned (.plain (OpenSpec.ofChange inlineNumbersSpec)) inlineNumbersCard

/-- THE TIED CARD OF 'selvedgelaw12.InlineTells'. -/
def inlineTellsCard : Claim7 := { stood := { row := inlineTellsRow, standIns := [], harness := (true, "298a7fdf94a456659f137c67cd488db8e996e5bea945cf8c74633fd28dc8bc3c"), looks := false }, kinds := [], alts := [], laidByText := true, laidKinds := [.data, .pinned], laidTests := true, laidLooks := .later }
def InlineTellsCardSaid : Prop := Claim7.holds Tryz.pinned (.plain (OpenSpec.ofChange inlineTellsSpec)) inlineTellsCard

/-- THE SECOND FORM's CARD OF 'selvedgelaw12.InlineNumbers'. -/
def inlineNumbersUptoCard : Claim7 := { stood := { row := inlineNumbersUptoRow, standIns := [], harness := (true, "298a7fdf94a456659f137c67cd488db8e996e5bea945cf8c74633fd28dc8bc3c"), looks := false }, kinds := [], alts := [], laidByText := true, laidKinds := [.data, .pinned], laidTests := true, laidLooks := .later }
def InlineNumbersUptoCardSaid : Prop := Claim7.holds Tryz.pinned (.plain (OpenSpec.upto inlineNumbersSpec)) inlineNumbersUptoCard

/-- THE SECOND FORM's CARD OF 'selvedgelaw12.InlineTells'. -/
def inlineTellsUptoCard : Claim7 := { stood := { row := inlineTellsUptoRow, standIns := [], harness := (true, "298a7fdf94a456659f137c67cd488db8e996e5bea945cf8c74633fd28dc8bc3c"), looks := false }, kinds := [], alts := [], laidByText := true, laidKinds := [.data, .pinned], laidTests := true, laidLooks := .later }
def InlineTellsUptoCardSaid : Prop := Claim7.holds Tryz.pinned (.plain (OpenSpec.upto inlineTellsSpec)) inlineTellsUptoCard
end Rows
end Go.Proofs.YtkfhkfagmokjpaaGreatDoor
