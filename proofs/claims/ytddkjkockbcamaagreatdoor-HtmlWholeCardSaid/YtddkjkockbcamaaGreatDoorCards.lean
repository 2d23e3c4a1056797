/-
  DERIVED. GIVEN WITH THE SEED: THE CARDS: each row of YtddkjkockbcamaaGreatDoorRows.lean that lists a variable, with what it lists TIED to the program's text (the seventh form; the later family's looks); each row that meets fmt, with fmt's text TOLD by the authors' own Lean function (tested against real Go, not proved from fmt's source: count such statements apart). THE CARD IS WHAT COUNTS. Prove the row's statement (the work); the ties are given (YtddkjkockbcamaaGreatDoorTie.lean); close each card by the builder's one call (the guide's Derived/Test/ToyasCard.lean, 'card_holds'). Laid BY PROGRAM, IN A SANDBOX (cutbox-door.mjs). By AI agents, Wed Nov 11 2026. No macro, syntax, notation, axiom, sorry.
-/
import Derived.Test.YtddkjkockbcamaaGreatDoorRows
import GoSem.ClaimSeven
namespace Go.Proofs.YtddkjkockbcamaaGreatDoor
namespace Rows

/-- THE TIED CARD OF 'selvedgelaw13.HtmlNumbers'. -/
def htmlNumbersCard : Claim7 := { stood := { row := htmlNumbersRow, standIns := [], harness := (true, "8580886c08f898e2eb4f93d916c24b42e56c25795f7eb0f98727b6e626ffc2b3"), looks := false }, kinds := [], alts := [], laidByText := true, laidKinds := [.data, .data, .data, .data, .pinned], laidTests := true, laidLooks := .later }
def HtmlNumbersCardSaid : Prop := Claim7.holds Tryz.pinned (.plain (OpenSpec.ofChange htmlNumbersSpec)) htmlNumbersCard

/-- THE TIED CARD OF 'selvedgelaw13.HtmlTells'. -/
def htmlTellsCard : Claim7 := { stood := { row := htmlTellsRow, standIns := [], harness := (true, "8580886c08f898e2eb4f93d916c24b42e56c25795f7eb0f98727b6e626ffc2b3"), looks := false }, kinds := [], alts := [], laidByText := true, laidKinds := [.data, .data, .data, .data, .pinned], laidTests := true, laidLooks := .later }
def HtmlTellsCardSaid : Prop := Claim7.holds Tryz.pinned (.plain (OpenSpec.ofChange htmlTellsSpec)) htmlTellsCard

/-- THE TIED CARD OF 'selvedgelaw13.HtmlWhole'. -/
def htmlWholeCard : Claim7 := { stood := { row := htmlWholeRow, standIns := [], harness := (true, "8580886c08f898e2eb4f93d916c24b42e56c25795f7eb0f98727b6e626ffc2b3"), looks := false }, kinds := [], alts := [], laidByText := true, laidKinds := [.data, .data, .data, .data, .pinned], laidTests := true, laidLooks := .later }
def HtmlWholeCardSaid : Prop := Claim7.holds Tryz.pinned (.plain (OpenSpec.ofChange htmlWholeSpec)) htmlWholeCard

/-- THE TIED CARD OF 'selvedgelaw13.HtmlEscaped'. -/
def htmlEscapedCard : Claim7 := { stood := { row := htmlEscapedRow, standIns := [], harness := (true, "8580886c08f898e2eb4f93d916c24b42e56c25795f7eb0f98727b6e626ffc2b3"), looks := false }, kinds := [], alts := [], laidByText := true, laidKinds := [.data, .data, .data, .data, .pinned], laidTests := true, laidLooks := .later }
def HtmlEscapedCardSaid : Prop := Claim7.holds Tryz.pinned (.plain (OpenSpec.ofChange htmlEscapedSpec)) htmlEscapedCard

/-- THE TIED CARD OF 'selvedgelaw13.HtmlLevels'. -/
def htmlLevelsCard : Claim7 := { stood := { row := htmlLevelsRow, standIns := [], harness := (true, "8580886c08f898e2eb4f93d916c24b42e56c25795f7eb0f98727b6e626ffc2b3"), looks := false }, kinds := [], alts := [], laidByText := true, laidKinds := [.data, .data, .data, .data, .pinned], laidTests := true, laidLooks := .later }
def HtmlLevelsCardSaid : Prop := Claim7.holds Tryz.pinned (.plain (OpenSpec.ofChange htmlLevelsSpec)) htmlLevelsCard

/-- THE SECOND FORM's CARD OF 'selvedgelaw13.HtmlNumbers'. -/
def htmlNumbersUptoCard : Claim7 := { stood := { row := htmlNumbersUptoRow, standIns := [], harness := (true, "8580886c08f898e2eb4f93d916c24b42e56c25795f7eb0f98727b6e626ffc2b3"), looks := false }, kinds := [], alts := [], laidByText := true, laidKinds := [.data, .data, .data, .data, .pinned], laidTests := true, laidLooks := .later }
def HtmlNumbersUptoCardSaid : Prop := Claim7.holds Tryz.pinned (.plain (OpenSpec.upto htmlNumbersSpec)) htmlNumbersUptoCard

/-- THE SECOND FORM's CARD OF 'selvedgelaw13.HtmlTells'. -/
def htmlTellsUptoCard : Claim7 := { stood := { row := htmlTellsUptoRow, standIns := [], harness := (true, "8580886c08f898e2eb4f93d916c24b42e56c25795f7eb0f98727b6e626ffc2b3"), looks := false }, kinds := [], alts := [], laidByText := true, laidKinds := [.data, .data, .data, .data, .pinned], laidTests := true, laidLooks := .later }
def HtmlTellsUptoCardSaid : Prop := Claim7.holds Tryz.pinned (.plain (OpenSpec.upto htmlTellsSpec)) htmlTellsUptoCard

/-- THE SECOND FORM's CARD OF 'selvedgelaw13.HtmlWhole'. -/
def htmlWholeUptoCard : Claim7 := { stood := { row := htmlWholeUptoRow, standIns := [], harness := (true, "8580886c08f898e2eb4f93d916c24b42e56c25795f7eb0f98727b6e626ffc2b3"), looks := false }, kinds := [], alts := [], laidByText := true, laidKinds := [.data, .data, .data, .data, .pinned], laidTests := true, laidLooks := .later }
def HtmlWholeUptoCardSaid : Prop := Claim7.holds Tryz.pinned (.plain (OpenSpec.upto htmlWholeSpec)) htmlWholeUptoCard

/-- THE SECOND FORM's CARD OF 'selvedgelaw13.HtmlEscaped'. -/
def htmlEscapedUptoCard : Claim7 := { stood := { row := htmlEscapedUptoRow, standIns := [], harness := (true, "8580886c08f898e2eb4f93d916c24b42e56c25795f7eb0f98727b6e626ffc2b3"), looks := false }, kinds := [], alts := [], laidByText := true, laidKinds := [.data, .data, .data, .data, .pinned], laidTests := true, laidLooks := .later }
def HtmlEscapedUptoCardSaid : Prop := Claim7.holds Tryz.pinned (.plain (OpenSpec.upto htmlEscapedSpec)) htmlEscapedUptoCard

/-- THE SECOND FORM's CARD OF 'selvedgelaw13.HtmlLevels'. -/
def htmlLevelsUptoCard : Claim7 := { stood := { row := htmlLevelsUptoRow, standIns := [], harness := (true, "8580886c08f898e2eb4f93d916c24b42e56c25795f7eb0f98727b6e626ffc2b3"), looks := false }, kinds := [], alts := [], laidByText := true, laidKinds := [.data, .data, .data, .data, .pinned], laidTests := true, laidLooks := .later }
def HtmlLevelsUptoCardSaid : Prop := Claim7.holds Tryz.pinned (.plain (OpenSpec.upto htmlLevelsSpec)) htmlLevelsUptoCard
end Rows
end Go.Proofs.YtddkjkockbcamaaGreatDoor
