/-
  DERIVED. GIVEN WITH THE SEED: THE CARDS: each row of YtcdpecpjhoejnaaDoorRows.lean that lists a variable, with what it lists TIED to the program's text (the seventh form; the later family's looks); each row that meets fmt, with fmt's text TOLD by the authors' own Lean function (tested against real Go, not proved from fmt's source: count such statements apart). THE CARD IS WHAT COUNTS. Prove the row's statement (the work); the ties are given (YtcdpecpjhoejnaaDoorTie.lean); close each card by the builder's one call (the guide's Derived/Test/ToyasCard.lean, 'card_holds'). Laid BY PROGRAM, IN A SANDBOX (cutbox-door.mjs). By AI agents, Wed Nov 11 2026. No macro, syntax, notation, axiom, sorry.
-/
import Derived.Test.YtcdpecpjhoejnaaDoorRows
import GoSem.ClaimSeven
namespace Go.Proofs.YtcdpecpjhoejnaaDoor
namespace Rows

/-- THE TIED CARD OF 'selvedgelaw4.FenceNumbers'. -/
def fenceNumbersCard : Claim7 := { stood := { row := fenceNumbersRow, standIns := [], harness := (true, "4fe55c40bbb09c4e313094a81396f8a1a497d30f2e8e471cee4c27bfadc040f7"), looks := false }, kinds := [], alts := [], laidByText := true, laidKinds := [.data, .pinned], laidTests := true, laidLooks := .later }
def FenceNumbersCardSaid : Prop := Claim7.holds Tryd.pinned (.plain (OpenSpec.ofChange fenceNumbersSpec)) fenceNumbersCard

/-- THE TIED CARD OF 'selvedgelaw4.FenceTells'. -/
def fenceTellsCard : Claim7 := { stood := { row := fenceTellsRow, standIns := [], harness := (true, "4fe55c40bbb09c4e313094a81396f8a1a497d30f2e8e471cee4c27bfadc040f7"), looks := false }, kinds := [], alts := [], laidByText := true, laidKinds := [.data, .pinned], laidTests := true, laidLooks := .later }
def FenceTellsCardSaid : Prop := Claim7.holds Tryd.pinned (.plain (OpenSpec.ofChange fenceTellsSpec)) fenceTellsCard

/-- THE TIED CARD OF 'selvedgelaw4.FenceLong'. -/
def fenceLongCard : Claim7 := { stood := { row := fenceLongRow, standIns := [], harness := (true, "4fe55c40bbb09c4e313094a81396f8a1a497d30f2e8e471cee4c27bfadc040f7"), looks := false }, kinds := [], alts := [], laidByText := true, laidKinds := [.data, .pinned], laidTests := true, laidLooks := .later }
def FenceLongCardSaid : Prop := Claim7.holds Tryd.pinned (.plain (OpenSpec.ofChange fenceLongSpec)) fenceLongCard

/-- THE TIED CARD OF 'selvedgelaw4.FenceEnds'. -/
def fenceEndsCard : Claim7 := { stood := { row := fenceEndsRow, standIns := [], harness := (true, "4fe55c40bbb09c4e313094a81396f8a1a497d30f2e8e471cee4c27bfadc040f7"), looks := false }, kinds := [], alts := [], laidByText := true, laidKinds := [.data, .pinned], laidTests := true, laidLooks := .later }
def FenceEndsCardSaid : Prop := Claim7.holds Tryd.pinned (.plain (OpenSpec.ofChange fenceEndsSpec)) fenceEndsCard

/-- THE TIED CARD OF 'selvedgelaw4.FenceInfo'. -/
def fenceInfoCard : Claim7 := { stood := { row := fenceInfoRow, standIns := [], harness := (true, "4fe55c40bbb09c4e313094a81396f8a1a497d30f2e8e471cee4c27bfadc040f7"), looks := false }, kinds := [], alts := [], laidByText := true, laidKinds := [.data, .pinned], laidTests := true, laidLooks := .later }
def FenceInfoCardSaid : Prop := Claim7.holds Tryd.pinned (.plain (OpenSpec.ofChange fenceInfoSpec)) fenceInfoCard

/-- THE SECOND FORM's CARD OF 'selvedgelaw4.FenceNumbers'. -/
def fenceNumbersUptoCard : Claim7 := { stood := { row := fenceNumbersUptoRow, standIns := [], harness := (true, "4fe55c40bbb09c4e313094a81396f8a1a497d30f2e8e471cee4c27bfadc040f7"), looks := false }, kinds := [], alts := [], laidByText := true, laidKinds := [.data, .pinned], laidTests := true, laidLooks := .later }
def FenceNumbersUptoCardSaid : Prop := Claim7.holds Tryd.pinned (.plain (OpenSpec.upto fenceNumbersSpec)) fenceNumbersUptoCard

/-- THE SECOND FORM's CARD OF 'selvedgelaw4.FenceTells'. -/
def fenceTellsUptoCard : Claim7 := { stood := { row := fenceTellsUptoRow, standIns := [], harness := (true, "4fe55c40bbb09c4e313094a81396f8a1a497d30f2e8e471cee4c27bfadc040f7"), looks := false }, kinds := [], alts := [], laidByText := true, laidKinds := [.data, .pinned], laidTests := true, laidLooks := .later }
def FenceTellsUptoCardSaid : Prop := Claim7.holds Tryd.pinned (.plain (OpenSpec.upto fenceTellsSpec)) fenceTellsUptoCard

/-- THE SECOND FORM's CARD OF 'selvedgelaw4.FenceLong'. -/
def fenceLongUptoCard : Claim7 := { stood := { row := fenceLongUptoRow, standIns := [], harness := (true, "4fe55c40bbb09c4e313094a81396f8a1a497d30f2e8e471cee4c27bfadc040f7"), looks := false }, kinds := [], alts := [], laidByText := true, laidKinds := [.data, .pinned], laidTests := true, laidLooks := .later }
def FenceLongUptoCardSaid : Prop := Claim7.holds Tryd.pinned (.plain (OpenSpec.upto fenceLongSpec)) fenceLongUptoCard

/-- THE SECOND FORM's CARD OF 'selvedgelaw4.FenceEnds'. -/
def fenceEndsUptoCard : Claim7 := { stood := { row := fenceEndsUptoRow, standIns := [], harness := (true, "4fe55c40bbb09c4e313094a81396f8a1a497d30f2e8e471cee4c27bfadc040f7"), looks := false }, kinds := [], alts := [], laidByText := true, laidKinds := [.data, .pinned], laidTests := true, laidLooks := .later }
def FenceEndsUptoCardSaid : Prop := Claim7.holds Tryd.pinned (.plain (OpenSpec.upto fenceEndsSpec)) fenceEndsUptoCard

/-- THE SECOND FORM's CARD OF 'selvedgelaw4.FenceInfo'. -/
def fenceInfoUptoCard : Claim7 := { stood := { row := fenceInfoUptoRow, standIns := [], harness := (true, "4fe55c40bbb09c4e313094a81396f8a1a497d30f2e8e471cee4c27bfadc040f7"), looks := false }, kinds := [], alts := [], laidByText := true, laidKinds := [.data, .pinned], laidTests := true, laidLooks := .later }
def FenceInfoUptoCardSaid : Prop := Claim7.holds Tryd.pinned (.plain (OpenSpec.upto fenceInfoSpec)) fenceInfoUptoCard
end Rows
end Go.Proofs.YtcdpecpjhoejnaaDoor
