/-
  DERIVED. GIVEN WITH THE SEED: THE CARDS: each row of YtlpjpgcdcigihaaDoorRows.lean that lists a variable, with what it lists TIED to the program's text (the seventh form; the later family's looks); each row that meets fmt, with fmt's text TOLD by the authors' own Lean function (tested against real Go, not proved from fmt's source: count such statements apart). THE CARD IS WHAT COUNTS. Prove the row's statement (the work); the ties are given (YtlpjpgcdcigihaaDoorTie.lean); close each card by the builder's one call (the guide's Derived/Test/ToyasCard.lean, 'card_holds'). Laid BY PROGRAM, IN A SANDBOX (cutbox-door.mjs). By AI agents, Wed Nov 11 2026. No macro, syntax, notation, axiom, sorry.
-/
import Derived.Test.YtlpjpgcdcigihaaDoorRows
import GoSem.ClaimSeven
namespace Go.Proofs.YtlpjpgcdcigihaaDoor
namespace Rows

/-- THE TIED CARD OF 'selvedgelaw2.RunesNumbers'. -/
def runesNumbersCard : Claim7 := { stood := { row := runesNumbersRow, standIns := [], harness := (true, "18c6579442695f71934e8a3d2e1fb005010380ae3ed84cbb3f05bfa3ad2f5c9d"), looks := false }, kinds := [], alts := [], laidByText := true, laidKinds := [.data, .pinned], laidTests := true, laidLooks := .later }
def RunesNumbersCardSaid : Prop := Claim7.holds Tryd.pinned (.plain (OpenSpec.ofChange runesNumbersSpec)) runesNumbersCard

/-- THE TIED CARD OF 'selvedgelaw2.RunesTells'. -/
def runesTellsCard : Claim7 := { stood := { row := runesTellsRow, standIns := [], harness := (true, "18c6579442695f71934e8a3d2e1fb005010380ae3ed84cbb3f05bfa3ad2f5c9d"), looks := false }, kinds := [], alts := [], laidByText := true, laidKinds := [.data, .pinned], laidTests := true, laidLooks := .later }
def RunesTellsCardSaid : Prop := Claim7.holds Tryd.pinned (.plain (OpenSpec.ofChange runesTellsSpec)) runesTellsCard

/-- THE TIED CARD OF 'selvedgelaw2.RunesFold'. -/
def runesFoldCard : Claim7 := { stood := { row := runesFoldRow, standIns := [], harness := (true, "18c6579442695f71934e8a3d2e1fb005010380ae3ed84cbb3f05bfa3ad2f5c9d"), looks := false }, kinds := [], alts := [], laidByText := true, laidKinds := [.data, .pinned], laidTests := true, laidLooks := .later }
def RunesFoldCardSaid : Prop := Claim7.holds Tryd.pinned (.plain (OpenSpec.ofChange runesFoldSpec)) runesFoldCard

/-- THE TIED CARD OF 'selvedgelaw2.RunesKinds'. -/
def runesKindsCard : Claim7 := { stood := { row := runesKindsRow, standIns := [], harness := (true, "18c6579442695f71934e8a3d2e1fb005010380ae3ed84cbb3f05bfa3ad2f5c9d"), looks := false }, kinds := [], alts := [], laidByText := true, laidKinds := [.data, .pinned], laidTests := true, laidLooks := .later }
def RunesKindsCardSaid : Prop := Claim7.holds Tryd.pinned (.plain (OpenSpec.ofChange runesKindsSpec)) runesKindsCard

/-- THE TIED CARD OF 'selvedgelaw2.RunesText'. -/
def runesTextCard : Claim7 := { stood := { row := runesTextRow, standIns := [], harness := (true, "18c6579442695f71934e8a3d2e1fb005010380ae3ed84cbb3f05bfa3ad2f5c9d"), looks := false }, kinds := [], alts := [], laidByText := true, laidKinds := [.data, .pinned], laidTests := true, laidLooks := .later }
def RunesTextCardSaid : Prop := Claim7.holds Tryd.pinned (.plain (OpenSpec.ofChange runesTextSpec)) runesTextCard

/-- THE SECOND FORM's CARD OF 'selvedgelaw2.RunesNumbers'. -/
def runesNumbersUptoCard : Claim7 := { stood := { row := runesNumbersUptoRow, standIns := [], harness := (true, "18c6579442695f71934e8a3d2e1fb005010380ae3ed84cbb3f05bfa3ad2f5c9d"), looks := false }, kinds := [], alts := [], laidByText := true, laidKinds := [.data, .pinned], laidTests := true, laidLooks := .later }
def RunesNumbersUptoCardSaid : Prop := Claim7.holds Tryd.pinned (.plain (OpenSpec.upto runesNumbersSpec)) runesNumbersUptoCard

/-- THE SECOND FORM's CARD OF 'selvedgelaw2.RunesTells'. -/
def runesTellsUptoCard : Claim7 := { stood := { row := runesTellsUptoRow, standIns := [], harness := (true, "18c6579442695f71934e8a3d2e1fb005010380ae3ed84cbb3f05bfa3ad2f5c9d"), looks := false }, kinds := [], alts := [], laidByText := true, laidKinds := [.data, .pinned], laidTests := true, laidLooks := .later }
def RunesTellsUptoCardSaid : Prop := Claim7.holds Tryd.pinned (.plain (OpenSpec.upto runesTellsSpec)) runesTellsUptoCard

/-- THE SECOND FORM's CARD OF 'selvedgelaw2.RunesFold'. -/
def runesFoldUptoCard : Claim7 := { stood := { row := runesFoldUptoRow, standIns := [], harness := (true, "18c6579442695f71934e8a3d2e1fb005010380ae3ed84cbb3f05bfa3ad2f5c9d"), looks := false }, kinds := [], alts := [], laidByText := true, laidKinds := [.data, .pinned], laidTests := true, laidLooks := .later }
def RunesFoldUptoCardSaid : Prop := Claim7.holds Tryd.pinned (.plain (OpenSpec.upto runesFoldSpec)) runesFoldUptoCard

/-- THE SECOND FORM's CARD OF 'selvedgelaw2.RunesKinds'. -/
def runesKindsUptoCard : Claim7 := { stood := { row := runesKindsUptoRow, standIns := [], harness := (true, "18c6579442695f71934e8a3d2e1fb005010380ae3ed84cbb3f05bfa3ad2f5c9d"), looks := false }, kinds := [], alts := [], laidByText := true, laidKinds := [.data, .pinned], laidTests := true, laidLooks := .later }
def RunesKindsUptoCardSaid : Prop := Claim7.holds Tryd.pinned (.plain (OpenSpec.upto runesKindsSpec)) runesKindsUptoCard

/-- THE SECOND FORM's CARD OF 'selvedgelaw2.RunesText'. -/
def runesTextUptoCard : Claim7 := { stood := { row := runesTextUptoRow, standIns := [], harness := (true, "18c6579442695f71934e8a3d2e1fb005010380ae3ed84cbb3f05bfa3ad2f5c9d"), looks := false }, kinds := [], alts := [], laidByText := true, laidKinds := [.data, .pinned], laidTests := true, laidLooks := .later }
def RunesTextUptoCardSaid : Prop := Claim7.holds Tryd.pinned (.plain (OpenSpec.upto runesTextSpec)) runesTextUptoCard
end Rows
end Go.Proofs.YtlpjpgcdcigihaaDoor
