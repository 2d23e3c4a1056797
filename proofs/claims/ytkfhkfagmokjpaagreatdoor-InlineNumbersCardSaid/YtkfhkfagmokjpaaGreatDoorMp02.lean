/- A loop's body, taken out of the translation by its place (counted as the loops are met, an outer one ahead of those within): so that a loop within a loop is a theorem of its own. -/
import Derived.Test.YtkfhkfagmokjpaaGreatDoorRows
import Derived.WalkKit
namespace Go.Proofs.YtkfhkfagmokjpaaGreatDoor

/-- the bodies of all loops -/
def loopsIn : Code → List Code
  | .loop c => c :: loopsIn c
  | .seq a b => loopsIn a ++ loopsIn b
  | .block _ c => loopsIn c
  | .scope c => loopsIn c
  | .cond _ a b => loopsIn a ++ loopsIn b
  | _ => []
/-- a region, by its number -/
def regionIn (n : Nat) : Code → Option Code
  | .region id ops d => if id = n then some (.region id ops d) else none
  | .loop c => regionIn n c
  | .seq a b => match regionIn n a with
    | some c => some c
    | none => regionIn n b
  | .block _ c => regionIn n c
  | .scope c => regionIn n c
  | .cond _ a b => match regionIn n a with
    | some c => some c
    | none => regionIn n b
  | _ => none
noncomputable def regionAt (f : Func) (n : Nat) : Code := ((f.body.bind (regionIn n)).getD .skip)
noncomputable def loopBody (f : Func) (i : Nat) : Code := ((f.body.map loopsIn).getD []).getD i .skip
end Go.Proofs.YtkfhkfagmokjpaaGreatDoor
