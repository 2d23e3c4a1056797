/-
  DERIVED. GIVEN WITH THE SEED: THE CARDS: each row of YtmbcddehacfpgaaDoorRows.lean that lists a variable, with what it lists TIED to the program's text (the seventh form; the later family's looks); each row that meets fmt, with fmt's text TOLD by the authors' own Lean function (tested against real Go, not proved from fmt's source: count such statements apart). THE CARD IS WHAT COUNTS. Prove the row's statement (the work); the ties are given (YtmbcddehacfpgaaDoorTie.lean); close each card by the builder's one call (the guide's Derived/Test/ToyasCard.lean, 'card_holds'). Laid BY PROGRAM, IN A SANDBOX (cutbox-door.mjs). By AI agents, Wed Nov 11 2026. No macro, syntax, notation, axiom, sorry.
-/
import Derived.Test.YtmbcddehacfpgaaDoorRows
import GoSem.ClaimSeven
namespace Go.Proofs.YtmbcddehacfpgaaDoor
namespace Rows

/-- THE TIED CARD OF 'selvedgelaw7.BlockRight'. -/
def blockRightCard : Claim7 := { stood := { row := blockRightRow, standIns := [], harness := (true, "8308a540d886d96d03bbb15fe30396380d15806fc5b4ca2b400e05cc29e265b1"), looks := false }, kinds := [], alts := [], laidByText := true, laidKinds := [.data, .pinned], laidTests := true, laidLooks := .later }
def BlockRightCardSaid : Prop := Claim7.holds Tryd.pinned (.plain (OpenSpec.ofChange blockRightSpec)) blockRightCard

/-- THE TIED CARD OF 'selvedgelaw7.BlockParas'. -/
def blockParasCard : Claim7 := { stood := { row := blockParasRow, standIns := [], harness := (true, "8308a540d886d96d03bbb15fe30396380d15806fc5b4ca2b400e05cc29e265b1"), looks := false }, kinds := [], alts := [], laidByText := true, laidKinds := [.data, .pinned], laidTests := true, laidLooks := .later }
def BlockParasCardSaid : Prop := Claim7.holds Tryd.pinned (.plain (OpenSpec.ofChange blockParasSpec)) blockParasCard

/-- THE TIED CARD OF 'selvedgelaw7.BlockItems'. -/
def blockItemsCard : Claim7 := { stood := { row := blockItemsRow, standIns := [], harness := (true, "8308a540d886d96d03bbb15fe30396380d15806fc5b4ca2b400e05cc29e265b1"), looks := false }, kinds := [], alts := [], laidByText := true, laidKinds := [.data, .pinned], laidTests := true, laidLooks := .later }
def BlockItemsCardSaid : Prop := Claim7.holds Tryd.pinned (.plain (OpenSpec.ofChange blockItemsSpec)) blockItemsCard

/-- THE SECOND FORM's CARD OF 'selvedgelaw7.BlockRight'. -/
def blockRightUptoCard : Claim7 := { stood := { row := blockRightUptoRow, standIns := [], harness := (true, "8308a540d886d96d03bbb15fe30396380d15806fc5b4ca2b400e05cc29e265b1"), looks := false }, kinds := [], alts := [], laidByText := true, laidKinds := [.data, .pinned], laidTests := true, laidLooks := .later }
def BlockRightUptoCardSaid : Prop := Claim7.holds Tryd.pinned (.plain (OpenSpec.upto blockRightSpec)) blockRightUptoCard

/-- THE SECOND FORM's CARD OF 'selvedgelaw7.BlockParas'. -/
def blockParasUptoCard : Claim7 := { stood := { row := blockParasUptoRow, standIns := [], harness := (true, "8308a540d886d96d03bbb15fe30396380d15806fc5b4ca2b400e05cc29e265b1"), looks := false }, kinds := [], alts := [], laidByText := true, laidKinds := [.data, .pinned], laidTests := true, laidLooks := .later }
def BlockParasUptoCardSaid : Prop := Claim7.holds Tryd.pinned (.plain (OpenSpec.upto blockParasSpec)) blockParasUptoCard

/-- THE SECOND FORM's CARD OF 'selvedgelaw7.BlockItems'. -/
def blockItemsUptoCard : Claim7 := { stood := { row := blockItemsUptoRow, standIns := [], harness := (true, "8308a540d886d96d03bbb15fe30396380d15806fc5b4ca2b400e05cc29e265b1"), looks := false }, kinds := [], alts := [], laidByText := true, laidKinds := [.data, .pinned], laidTests := true, laidLooks := .later }
def BlockItemsUptoCardSaid : Prop := Claim7.holds Tryd.pinned (.plain (OpenSpec.upto blockItemsSpec)) blockItemsUptoCard
end Rows
end Go.Proofs.YtmbcddehacfpgaaDoor
