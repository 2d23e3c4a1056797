/-
  DERIVED. GIVEN WITH THE SEED: THE CARDS: each row of YtkfhkfagmokjpaaDoorRows.lean that lists a variable, with what it lists TIED to the program's text (the seventh form; the later family's looks); each row that meets fmt, with fmt's text TOLD by the authors' own Lean function (tested against real Go, not proved from fmt's source: count such statements apart). THE CARD IS WHAT COUNTS. Prove the row's statement (the work); the ties are given (YtkfhkfagmokjpaaDoorTie.lean); close each card by the builder's one call (the guide's Derived/Test/ToyasCard.lean, 'card_holds'). Laid BY PROGRAM, IN A SANDBOX (cutbox-door.mjs). By AI agents, Wed Nov 11 2026. No macro, syntax, notation, axiom, sorry.
-/
import Derived.Test.YtkfhkfagmokjpaaDoorRows
import GoSem.ClaimSeven
namespace Go.Proofs.YtkfhkfagmokjpaaDoor
namespace Rows

/-- THE TIED CARD OF 'selvedgelaw12.InlineRight'. -/
def inlineRightCard : Claim7 := { stood := { row := inlineRightRow, standIns := [], harness := (true, "5b231519fdbaf11dfb543b1aafc7b15c4eb2dd2facfd61ee85ddff7552b95405"), looks := false }, kinds := [], alts := [], laidByText := true, laidKinds := [.data, .pinned], laidTests := true, laidLooks := .later }
def InlineRightCardSaid : Prop := Claim7.holds Tryd.pinned (.plain (OpenSpec.ofChange inlineRightSpec)) inlineRightCard

/-- THE TIED CARD OF 'selvedgelaw12.InlineNested'. -/
def inlineNestedCard : Claim7 := { stood := { row := inlineNestedRow, standIns := [], harness := (true, "5b231519fdbaf11dfb543b1aafc7b15c4eb2dd2facfd61ee85ddff7552b95405"), looks := false }, kinds := [], alts := [], laidByText := true, laidKinds := [.data, .pinned], laidTests := true, laidLooks := .later }
def InlineNestedCardSaid : Prop := Claim7.holds Tryd.pinned (.plain (OpenSpec.ofChange inlineNestedSpec)) inlineNestedCard

/-- THE SECOND FORM's CARD OF 'selvedgelaw12.InlineRight'. -/
def inlineRightUptoCard : Claim7 := { stood := { row := inlineRightUptoRow, standIns := [], harness := (true, "5b231519fdbaf11dfb543b1aafc7b15c4eb2dd2facfd61ee85ddff7552b95405"), looks := false }, kinds := [], alts := [], laidByText := true, laidKinds := [.data, .pinned], laidTests := true, laidLooks := .later }
def InlineRightUptoCardSaid : Prop := Claim7.holds Tryd.pinned (.plain (OpenSpec.upto inlineRightSpec)) inlineRightUptoCard

/-- THE SECOND FORM's CARD OF 'selvedgelaw12.InlineNested'. -/
def inlineNestedUptoCard : Claim7 := { stood := { row := inlineNestedUptoRow, standIns := [], harness := (true, "5b231519fdbaf11dfb543b1aafc7b15c4eb2dd2facfd61ee85ddff7552b95405"), looks := false }, kinds := [], alts := [], laidByText := true, laidKinds := [.data, .pinned], laidTests := true, laidLooks := .later }
def InlineNestedUptoCardSaid : Prop := Claim7.holds Tryd.pinned (.plain (OpenSpec.upto inlineNestedSpec)) inlineNestedUptoCard
end Rows
end Go.Proofs.YtkfhkfagmokjpaaDoor
