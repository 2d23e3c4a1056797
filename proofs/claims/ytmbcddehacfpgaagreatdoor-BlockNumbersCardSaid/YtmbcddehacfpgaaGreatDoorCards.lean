/-
  DERIVED. GIVEN WITH THE SEED: THE CARDS: each row of YtmbcddehacfpgaaGreatDoorRows.lean that lists a variable, with what it lists TIED to the program's text (the seventh form; the later family's looks); each row that meets fmt, with fmt's text TOLD by the authors' own Lean function (tested against real Go, not proved from fmt's source: count such statements apart). THE CARD IS WHAT COUNTS. Prove the row's statement (the work); the ties are given (YtmbcddehacfpgaaGreatDoorTie.lean); close each card by the builder's one call (the guide's Derived/Test/ToyasCard.lean, 'card_holds'). Laid BY PROGRAM, IN A SANDBOX (cutbox-door.mjs). By AI agents, Wed Nov 11 2026. No macro, syntax, notation, axiom, sorry.
-/
import Derived.Test.YtmbcddehacfpgaaGreatDoorRows
import GoSem.ClaimSeven
namespace Go.Proofs.YtmbcddehacfpgaaGreatDoor
namespace Rows

/-- THE TIED CARD OF 'selvedgelaw7.BlockNumbers'. -/
def blockNumbersCard : Claim7 := { stood := { row := blockNumbersRow, standIns := [], harness := (true, "4e04c3fb3a34989143bcca6c8fab36038611857b24df55eed1616df113adc4ca"), looks := false }, kinds := [], alts := [], laidByText := true, laidKinds := [.data, .pinned], laidTests := true, laidLooks := .later }
def BlockNumbersCardSaid : Prop := Claim7.holds Tryz.pinned (.plain (OpenSpec.ofChange blockNumbersSpec)) blockNumbersCard

/-- THE TIED CARD OF 'selvedgelaw7.BlockTells'. -/
def blockTellsCard : Claim7 := { stood := { row := blockTellsRow, standIns := [], harness := (true, "4e04c3fb3a34989143bcca6c8fab36038611857b24df55eed1616df113adc4ca"), looks := false }, kinds := [], alts := [], laidByText := true, laidKinds := [.data, .pinned], laidTests := true, laidLooks := .later }
def BlockTellsCardSaid : Prop := Claim7.holds Tryz.pinned (.plain (OpenSpec.ofChange blockTellsSpec)) blockTellsCard

/-- THE SECOND FORM's CARD OF 'selvedgelaw7.BlockNumbers'. -/
def blockNumbersUptoCard : Claim7 := { stood := { row := blockNumbersUptoRow, standIns := [], harness := (true, "4e04c3fb3a34989143bcca6c8fab36038611857b24df55eed1616df113adc4ca"), looks := false }, kinds := [], alts := [], laidByText := true, laidKinds := [.data, .pinned], laidTests := true, laidLooks := .later }
def BlockNumbersUptoCardSaid : Prop := Claim7.holds Tryz.pinned (.plain (OpenSpec.upto blockNumbersSpec)) blockNumbersUptoCard

/-- THE SECOND FORM's CARD OF 'selvedgelaw7.BlockTells'. -/
def blockTellsUptoCard : Claim7 := { stood := { row := blockTellsUptoRow, standIns := [], harness := (true, "4e04c3fb3a34989143bcca6c8fab36038611857b24df55eed1616df113adc4ca"), looks := false }, kinds := [], alts := [], laidByText := true, laidKinds := [.data, .pinned], laidTests := true, laidLooks := .later }
def BlockTellsUptoCardSaid : Prop := Claim7.holds Tryz.pinned (.plain (OpenSpec.upto blockTellsSpec)) blockTellsUptoCard
end Rows
end Go.Proofs.YtmbcddehacfpgaaGreatDoor
