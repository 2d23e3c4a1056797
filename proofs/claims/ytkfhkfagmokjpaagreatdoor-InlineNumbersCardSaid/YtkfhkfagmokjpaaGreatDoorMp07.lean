/- Arguments opened as lists: bytes, texts, rows of texts; and what the small bound of the second form says of their lengths. Arguments of whole numbers opened as lists of them. Arguments of words of 16 bits opened as lists of numbers. -/
import Derived.Test.YtkfhkfagmokjpaaGreatDoorMp04
import Derived.ProofKit
import Derived.OpenShut
import Derived.ShutString
import Derived.ChangeOld
import Derived.JoinedCond
namespace Go.Proofs.YtkfhkfagmokjpaaGreatDoor
open Go.ChangeShapes Go.WideShapes Go.ChangeAt Go.RowKit
open Go.ChangeMaps (open_string shut_string)

/-- lengths of texts, one more for each -/
def heft (ls : List (List UInt8)) : Nat := (ls.map fun s => s.length + 1).sum

section
variable {H : Type} {enc : TypeId × Value → H} {P : Program} {W : World}

end

end Go.Proofs.YtkfhkfagmokjpaaGreatDoor

namespace Go.Proofs.YtkfhkfagmokjpaaGreatDoor
open Go.ChangeShapes Go.WideShapes Go.ChangeAt Go.RowKit

/-- numbers as cells -/
def icells (l : List Int) : List Value := l.map fun x => .int .i64 x

section
variable {H : Type} {enc : TypeId × Value → H} {P : Program} {W : World}
end
end Go.Proofs.YtkfhkfagmokjpaaGreatDoor

namespace Go.Proofs.YtkfhkfagmokjpaaGreatDoor
open Go.ChangeShapes Go.WideShapes Go.ChangeAt Go.RowKit

section
variable {H : Type} {enc : TypeId × Value → H} {P : Program} {W : World}
end

end Go.Proofs.YtkfhkfagmokjpaaGreatDoor
