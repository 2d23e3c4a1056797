/- Law 5's 'known': what the runs that chapter 5 shows come to, as functions. -/
import Derived.Test.YtfppfaliepkhgaaDoorAtWriteP
namespace Go.Proofs.YtfppfaliepkhgaaDoor
open Go.RowKit

set_option maxRecDepth 100000
theorem kn_read1 : At.read [103, 111, 32, 110, 97, 109, 101, 61, 34, 97, 32, 98, 34, 32, 99, 111, 109, 109, 101, 110, 116, 61, 47, 47, 32, 97, 112, 112, 101, 110, 100] = some ⟨[103, 111], [97, 32, 98], [], [47, 47], true, false⟩ := by kernel_rfl
theorem kn_read2 : At.read [103, 111, 32, 110, 97, 109, 101, 61, 97, 32, 110, 97, 109, 101, 61, 98] = none := by kernel_rfl
theorem kn_read3 : At.read [103, 111, 32, 110, 111, 109, 101, 61, 97] = none := by kernel_rfl
theorem kn_pairs : At.pairs [103, 111, 32, 120, 61, 49, 32, 110, 111, 108, 105, 110, 101] = ([103, 111], [⟨[120], [49], false⟩, ⟨[110, 111, 108, 105, 110, 101], [], true⟩], true) := by kernel_rfl
theorem kn_write : At.write ⟨[103, 111], [97, 32, 98], [], [47, 47], true, false⟩ = [103, 111, 32, 110, 97, 109, 101, 61, 34, 97, 32, 98, 34, 32, 99, 111, 109, 109, 101, 110, 116, 61, 47, 47, 32, 97, 112, 112, 101, 110, 100] := by kernel_rfl
theorem kn_none : At.write ⟨[], [97], [98], [], false, false⟩ = [] := by kernel_rfl
theorem kn_name1 : At.name [97, 32, 98] = true := by kernel_rfl
theorem kn_name2 : At.name [32, 97] = false := by kernel_rfl
theorem kn_name3 : At.name [97, 35] = false := by kernel_rfl
end Go.Proofs.YtfppfaliepkhgaaDoor
