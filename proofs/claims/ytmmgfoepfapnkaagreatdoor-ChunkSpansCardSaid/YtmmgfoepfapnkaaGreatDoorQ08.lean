/- The document's own answer: a text without its first columns. -/
import Derived.Test.YtmmgfoepfapnkaaGreatDoorQ02
import Derived.Deep.CutBlock
import Derived.Deep.DeepCutAuto
namespace Go.Proofs.YtmmgfoepfapnkaaGreatDoor
open Go.RowKit

theorem strip_parts {n : Int} {l : List UInt8} {j : Nat} (h : j = (Cl.lead n l 0).1 - n.toNat) : List.replicate j 32 ++ l.drop (Cl.lead n l 0).2 = Cl.strip n l := by
  subst h; rfl
end Go.Proofs.YtmmgfoepfapnkaaGreatDoor
