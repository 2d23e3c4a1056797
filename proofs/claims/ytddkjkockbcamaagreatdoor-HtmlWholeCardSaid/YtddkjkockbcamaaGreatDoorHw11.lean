/- ClRStrip -/
import Derived.Test.YtddkjkockbcamaaGreatDoorHw03
import Derived.Deep.CutBlock
import Derived.Deep.DeepCutAuto
set_option maxHeartbeats 16000000
set_option maxRecDepth 100000
namespace Go.Proofs.YtddkjkockbcamaaGreatDoor
open Go.RowKit
theorem E7 {n:Int}{l:List UInt8}{j:Nat}(h:j=(Cl.lead n l 0).1-n.toNat):List.replicate j 32++l.drop (Cl.lead n l 0).2=Cl.strip n l:=by
 subst h;rfl
end Go.Proofs.YtddkjkockbcamaaGreatDoor
