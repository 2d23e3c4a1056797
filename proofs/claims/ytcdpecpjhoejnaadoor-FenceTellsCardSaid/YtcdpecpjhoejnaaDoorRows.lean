/-
  NARROWER THAN 'FOR EVERY INPUT', by the rows' own cells (each row's printed sentence says how): FenceNumbers: laid · FenceTells: laid · FenceLong: laid · FenceEnds: laid · FenceInfo: laid.
  DERIVED. THE GIVEN ROWS OF THIS SEAT. 5 by the template 'for every input the law returns true; each argument reads behind the call as it read before'; 0 by the template 'total and deterministic' (their statements: YtcdpecpjhoejnaaDoorTotals.lean).
  GIVEN WITH THE SEED: the statements are not yours to turn. If you find one false, say at which input.
  Laid BY PROGRAM, IN A SANDBOX (cutbox-rows.mjs): the forced cells as the released guide's own fill.sh prints them over the translation 2414309a77b94473… (all of the seat's roots in one cut). By AI agents, Wed Nov 11 2026. No macro, syntax, notation, axiom, sorry.
-/
import Derived.Test.YtcdpecpjhoejnaaDoorChecked
import GoSem.PinnedTables
import GoSem.Claim
import GoSem.ClaimJoined
import GoSem.ClaimMapViews
import Derived.JoinedTies
import Derived.KernelRfl
namespace Go.Proofs.YtcdpecpjhoejnaaDoor
/- THE CELL 'sum', in the pinned program and in every row, IS THE sha256 OF THE DUMP (.gsa) THAT YtcdpecpjhoejnaaDoorProg.lean LOADS. Nothing in Lean hashes anything: it is a label: what it is worth is what the hold of that sum in a sandbox is worth. -/
noncomputable def Tryd.pinned : Pinned := { name := "ytcdpecpjhoejnaadoor", sum := "2414309a77b944738c070207885b7ac329a5ee2fb797051b8a1ae4ea2af42230", checked := Tryd.checked }
namespace Rows
def none {H : Type} : Left H := { results := [], args := [] }

/- WHAT THE LISTED PACKAGE-LEVEL VARIABLES READ AS WHEN THE CALL BEGINS. Each datum BY PROGRAM (the guide's laid-datum.mjs) off the statement by which the dump's own 'gosem.cut.vars' lays the variable. In a bare row this is a premise. The card (YtcdpecpjhoejnaaDoorCards.lean) ties it to the program's text. -/
def laid_unicode_utf8_acceptRanges {H : Type} : DataW H := .agg [.agg [.lit (.int .u8 128), .lit (.int .u8 191)], .agg [.lit (.int .u8 160), .lit (.int .u8 191)], .agg [.lit (.int .u8 128), .lit (.int .u8 159)], .agg [.lit (.int .u8 144), .lit (.int .u8 191)], .agg [.lit (.int .u8 128), .lit (.int .u8 143)], .agg [.lit (.int .u8 0), .lit (.int .u8 0)], .agg [.lit (.int .u8 0), .lit (.int .u8 0)], .agg [.lit (.int .u8 0), .lit (.int .u8 0)], .agg [.lit (.int .u8 0), .lit (.int .u8 0)], .agg [.lit (.int .u8 0), .lit (.int .u8 0)], .agg [.lit (.int .u8 0), .lit (.int .u8 0)], .agg [.lit (.int .u8 0), .lit (.int .u8 0)], .agg [.lit (.int .u8 0), .lit (.int .u8 0)], .agg [.lit (.int .u8 0), .lit (.int .u8 0)], .agg [.lit (.int .u8 0), .lit (.int .u8 0)], .agg [.lit (.int .u8 0), .lit (.int .u8 0)]]
/-- One of Go's own tables, pinned by name: the form's constant. -/
def laid_unicode_utf8_first : DataW Unit := Go.Pinned.utf8First

/-- 'selvedgelaw4.FenceNumbers': WHATEVER THE INPUT: true; the input reads as it did. -/
def fenceNumbersSpec : ChangeSpec := { name := "fenceNumbers", fn := fun _ => fun
  | [] => { results := [.lit (.bool true)], args := [] }
  | _ => none }
def fenceNumbersRow : OpenClaim := { program := "ytcdpecpjhoejnaadoor", sum := "2414309a77b944738c070207885b7ac329a5ee2fb797051b8a1ae4ea2af42230", func := "selvedge/selvedgelaw4.FenceNumbers", spec := "fenceNumbers", inPlace := ["internal/bytealg.IndexByteString", "internal/bytealg.IndexString"], named := ["unicode/utf8.first", "unicode/utf8.acceptRanges", "internal/bytealg.MaxLen"], apart := false, laid := [("unicode/utf8.acceptRanges", laid_unicode_utf8_acceptRanges), ("unicode/utf8.first", laid_unicode_utf8_first)] }
def FenceNumbersSaid : Prop := fenceNumbersRow.holds Tryd.pinned (OpenSpec.ofChange fenceNumbersSpec)

/-- ITS FALSE NEIGHBOUR: 'it returns false'. Refute it at one input. -/
def fenceNumbersWrong : ChangeSpec := { name := "fenceNumbers", fn := fun _ => fun
  | [] => { results := [.lit (.bool false)], args := [] }
  | _ => none }
def FenceNumbersWrongFalsely : Prop := fenceNumbersRow.holds Tryd.pinned (OpenSpec.ofChange fenceNumbersWrong)

/-- 'selvedgelaw4.FenceTells': WHATEVER THE INPUT: true; the input reads as it did. -/
def fenceTellsSpec : ChangeSpec := { name := "fenceTells", fn := fun _ => fun
  | [d1, d2, d3, d4, d5, d6] => { results := [.lit (.bool true)], args := [d1, d2, d3, d4, d5, d6] }
  | _ => none }
def fenceTellsRow : OpenClaim := { program := "ytcdpecpjhoejnaadoor", sum := "2414309a77b944738c070207885b7ac329a5ee2fb797051b8a1ae4ea2af42230", func := "selvedge/selvedgelaw4.FenceTells", spec := "fenceTells", inPlace := ["internal/bytealg.IndexByteString", "internal/bytealg.IndexString"], named := ["unicode/utf8.first", "unicode/utf8.acceptRanges", "internal/bytealg.MaxLen"], apart := false, laid := [("unicode/utf8.acceptRanges", laid_unicode_utf8_acceptRanges), ("unicode/utf8.first", laid_unicode_utf8_first)] }
def FenceTellsSaid : Prop := fenceTellsRow.holds Tryd.pinned (OpenSpec.ofChange fenceTellsSpec)

/-- ITS FALSE NEIGHBOUR: 'it returns false'. Refute it at one input. -/
def fenceTellsWrong : ChangeSpec := { name := "fenceTells", fn := fun _ => fun
  | [d1, d2, d3, d4, d5, d6] => { results := [.lit (.bool false)], args := [d1, d2, d3, d4, d5, d6] }
  | _ => none }
def FenceTellsWrongFalsely : Prop := fenceTellsRow.holds Tryd.pinned (OpenSpec.ofChange fenceTellsWrong)

/-- 'selvedgelaw4.FenceLong': WHATEVER THE INPUT: true; the input reads as it did. -/
def fenceLongSpec : ChangeSpec := { name := "fenceLong", fn := fun _ => fun
  | [d1, d2] => { results := [.lit (.bool true)], args := [d1, d2] }
  | _ => none }
def fenceLongRow : OpenClaim := { program := "ytcdpecpjhoejnaadoor", sum := "2414309a77b944738c070207885b7ac329a5ee2fb797051b8a1ae4ea2af42230", func := "selvedge/selvedgelaw4.FenceLong", spec := "fenceLong", inPlace := ["internal/bytealg.IndexByteString", "internal/bytealg.IndexString"], named := ["unicode/utf8.first", "unicode/utf8.acceptRanges", "internal/bytealg.MaxLen"], apart := false, laid := [("unicode/utf8.acceptRanges", laid_unicode_utf8_acceptRanges), ("unicode/utf8.first", laid_unicode_utf8_first)] }
def FenceLongSaid : Prop := fenceLongRow.holds Tryd.pinned (OpenSpec.ofChange fenceLongSpec)

/-- ITS FALSE NEIGHBOUR: 'it returns false'. Refute it at one input. -/
def fenceLongWrong : ChangeSpec := { name := "fenceLong", fn := fun _ => fun
  | [d1, d2] => { results := [.lit (.bool false)], args := [d1, d2] }
  | _ => none }
def FenceLongWrongFalsely : Prop := fenceLongRow.holds Tryd.pinned (OpenSpec.ofChange fenceLongWrong)

/-- 'selvedgelaw4.FenceEnds': WHATEVER THE INPUT: true; the input reads as it did. -/
def fenceEndsSpec : ChangeSpec := { name := "fenceEnds", fn := fun _ => fun
  | [d1, d2, d3] => { results := [.lit (.bool true)], args := [d1, d2, d3] }
  | _ => none }
def fenceEndsRow : OpenClaim := { program := "ytcdpecpjhoejnaadoor", sum := "2414309a77b944738c070207885b7ac329a5ee2fb797051b8a1ae4ea2af42230", func := "selvedge/selvedgelaw4.FenceEnds", spec := "fenceEnds", inPlace := ["internal/bytealg.IndexByteString", "internal/bytealg.IndexString"], named := ["unicode/utf8.first", "unicode/utf8.acceptRanges", "internal/bytealg.MaxLen"], apart := false, laid := [("unicode/utf8.acceptRanges", laid_unicode_utf8_acceptRanges), ("unicode/utf8.first", laid_unicode_utf8_first)] }
def FenceEndsSaid : Prop := fenceEndsRow.holds Tryd.pinned (OpenSpec.ofChange fenceEndsSpec)

/-- ITS FALSE NEIGHBOUR: 'it returns false'. Refute it at one input. -/
def fenceEndsWrong : ChangeSpec := { name := "fenceEnds", fn := fun _ => fun
  | [d1, d2, d3] => { results := [.lit (.bool false)], args := [d1, d2, d3] }
  | _ => none }
def FenceEndsWrongFalsely : Prop := fenceEndsRow.holds Tryd.pinned (OpenSpec.ofChange fenceEndsWrong)

/-- 'selvedgelaw4.FenceInfo': WHATEVER THE INPUT: true; the input reads as it did. -/
def fenceInfoSpec : ChangeSpec := { name := "fenceInfo", fn := fun _ => fun
  | [d1, d2] => { results := [.lit (.bool true)], args := [d1, d2] }
  | _ => none }
def fenceInfoRow : OpenClaim := { program := "ytcdpecpjhoejnaadoor", sum := "2414309a77b944738c070207885b7ac329a5ee2fb797051b8a1ae4ea2af42230", func := "selvedge/selvedgelaw4.FenceInfo", spec := "fenceInfo", inPlace := ["internal/bytealg.IndexByteString", "internal/bytealg.IndexString"], named := ["unicode/utf8.first", "unicode/utf8.acceptRanges", "internal/bytealg.MaxLen"], apart := false, laid := [("unicode/utf8.acceptRanges", laid_unicode_utf8_acceptRanges), ("unicode/utf8.first", laid_unicode_utf8_first)] }
def FenceInfoSaid : Prop := fenceInfoRow.holds Tryd.pinned (OpenSpec.ofChange fenceInfoSpec)

/-- ITS FALSE NEIGHBOUR: 'it returns false'. Refute it at one input. -/
def fenceInfoWrong : ChangeSpec := { name := "fenceInfo", fn := fun _ => fun
  | [d1, d2] => { results := [.lit (.bool false)], args := [d1, d2] }
  | _ => none }
def FenceInfoWrongFalsely : Prop := fenceInfoRow.holds Tryd.pinned (OpenSpec.ofChange fenceInfoWrong)

/- THE SECOND FORM. 'bulk': how many values and letters a reading holds, each counted each time it is reached (what is shared counts as often as it is met; a slice's spare places count too). A statement '..UptoSaid' is the law's where the arguments, and the package variables that the reading takes, are together of bulk at most 1048576: NARROWER than '..Said'. Prove '..Said' where nothing that the law and all that it calls make is longer than what came in: it says more and counts as full. Else prove '..UptoSaid'. A law counts once. -/
mutual
def uptoBulk {H : Type} : DataW H → Nat
  | .lit (.string bytes) => bytes.length + 1
  | .lit _ => 1
  | .nil => 1
  | .ptr d => uptoBulk d + 1
  | .slice elems spare => uptoBulkAll elems + uptoBulkAll spare + 1
  | .agg parts => uptoBulkAll parts + 1
  | .iface _ d => uptoBulk d + 1
  | .map entries => uptoBulkEntries entries + 1
  | .held _ => 1
def uptoBulkAll {H : Type} : List (DataW H) → Nat
  | [] => 0
  | d :: r => uptoBulk d + uptoBulkAll r
def uptoBulkEntries {H : Type} : List (Lit × DataW H) → Nat
  | [] => 0
  | x :: r => uptoBulkEntry x + uptoBulkEntries r
def uptoBulkEntry {H : Type} : Lit × DataW H → Nat
  | (.string bytes, d) => bytes.length + uptoBulk d + 1
  | (_, d) => uptoBulk d + 1
 end
def uptoSmall : (H : Type) → List (DataW H) → Bool := fun _ ds => decide (uptoBulkAll ds ≤ 1048576)
def OpenSpec.upto (s : _root_.Go.ChangeSpec) : _root_.Go.OpenSpec := { _root_.Go.OpenSpec.ofChange s with cond := some uptoSmall }

/-- 'selvedgelaw4.FenceNumbers', WHERE WHAT IT READS IS OF BULK AT MOST 1048576: true; the input reads as it did. -/
def fenceNumbersUptoRow : OpenClaim := { program := "ytcdpecpjhoejnaadoor", sum := "2414309a77b944738c070207885b7ac329a5ee2fb797051b8a1ae4ea2af42230", func := "selvedge/selvedgelaw4.FenceNumbers", spec := "fenceNumbers", inPlace := ["internal/bytealg.IndexByteString", "internal/bytealg.IndexString"], named := ["unicode/utf8.first", "unicode/utf8.acceptRanges", "internal/bytealg.MaxLen"], apart := false, laid := [("unicode/utf8.acceptRanges", laid_unicode_utf8_acceptRanges), ("unicode/utf8.first", laid_unicode_utf8_first)], narrowed := true }
def FenceNumbersUptoSaid : Prop := fenceNumbersUptoRow.holds Tryd.pinned (OpenSpec.upto fenceNumbersSpec)

/-- 'selvedgelaw4.FenceTells', WHERE WHAT IT READS IS OF BULK AT MOST 1048576: true; the input reads as it did. -/
def fenceTellsUptoRow : OpenClaim := { program := "ytcdpecpjhoejnaadoor", sum := "2414309a77b944738c070207885b7ac329a5ee2fb797051b8a1ae4ea2af42230", func := "selvedge/selvedgelaw4.FenceTells", spec := "fenceTells", inPlace := ["internal/bytealg.IndexByteString", "internal/bytealg.IndexString"], named := ["unicode/utf8.first", "unicode/utf8.acceptRanges", "internal/bytealg.MaxLen"], apart := false, laid := [("unicode/utf8.acceptRanges", laid_unicode_utf8_acceptRanges), ("unicode/utf8.first", laid_unicode_utf8_first)], narrowed := true }
def FenceTellsUptoSaid : Prop := fenceTellsUptoRow.holds Tryd.pinned (OpenSpec.upto fenceTellsSpec)

/-- 'selvedgelaw4.FenceLong', WHERE WHAT IT READS IS OF BULK AT MOST 1048576: true; the input reads as it did. -/
def fenceLongUptoRow : OpenClaim := { program := "ytcdpecpjhoejnaadoor", sum := "2414309a77b944738c070207885b7ac329a5ee2fb797051b8a1ae4ea2af42230", func := "selvedge/selvedgelaw4.FenceLong", spec := "fenceLong", inPlace := ["internal/bytealg.IndexByteString", "internal/bytealg.IndexString"], named := ["unicode/utf8.first", "unicode/utf8.acceptRanges", "internal/bytealg.MaxLen"], apart := false, laid := [("unicode/utf8.acceptRanges", laid_unicode_utf8_acceptRanges), ("unicode/utf8.first", laid_unicode_utf8_first)], narrowed := true }
def FenceLongUptoSaid : Prop := fenceLongUptoRow.holds Tryd.pinned (OpenSpec.upto fenceLongSpec)

/-- 'selvedgelaw4.FenceEnds', WHERE WHAT IT READS IS OF BULK AT MOST 1048576: true; the input reads as it did. -/
def fenceEndsUptoRow : OpenClaim := { program := "ytcdpecpjhoejnaadoor", sum := "2414309a77b944738c070207885b7ac329a5ee2fb797051b8a1ae4ea2af42230", func := "selvedge/selvedgelaw4.FenceEnds", spec := "fenceEnds", inPlace := ["internal/bytealg.IndexByteString", "internal/bytealg.IndexString"], named := ["unicode/utf8.first", "unicode/utf8.acceptRanges", "internal/bytealg.MaxLen"], apart := false, laid := [("unicode/utf8.acceptRanges", laid_unicode_utf8_acceptRanges), ("unicode/utf8.first", laid_unicode_utf8_first)], narrowed := true }
def FenceEndsUptoSaid : Prop := fenceEndsUptoRow.holds Tryd.pinned (OpenSpec.upto fenceEndsSpec)

/-- 'selvedgelaw4.FenceInfo', WHERE WHAT IT READS IS OF BULK AT MOST 1048576: true; the input reads as it did. -/
def fenceInfoUptoRow : OpenClaim := { program := "ytcdpecpjhoejnaadoor", sum := "2414309a77b944738c070207885b7ac329a5ee2fb797051b8a1ae4ea2af42230", func := "selvedge/selvedgelaw4.FenceInfo", spec := "fenceInfo", inPlace := ["internal/bytealg.IndexByteString", "internal/bytealg.IndexString"], named := ["unicode/utf8.first", "unicode/utf8.acceptRanges", "internal/bytealg.MaxLen"], apart := false, laid := [("unicode/utf8.acceptRanges", laid_unicode_utf8_acceptRanges), ("unicode/utf8.first", laid_unicode_utf8_first)], narrowed := true }
def FenceInfoUptoSaid : Prop := fenceInfoUptoRow.holds Tryd.pinned (OpenSpec.upto fenceInfoSpec)

end Rows
end Go.Proofs.YtcdpecpjhoejnaaDoor
