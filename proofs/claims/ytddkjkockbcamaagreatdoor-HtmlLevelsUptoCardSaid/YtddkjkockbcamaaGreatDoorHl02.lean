/- Loops -/
import Derived.Test.YtddkjkockbcamaaGreatDoorRows
import Derived.WalkKit
set_option maxHeartbeats 16000000
set_option maxRecDepth 100000
namespace Go.Proofs.YtddkjkockbcamaaGreatDoor
def jO:Code→List Code
 | .loop c=>c::jO c
 | .seq a b=>jO a++jO b
 | .block _ c=>jO c
 | .scope c=>jO c
 | .cond _ a b=>jO a++jO b
 | _=>[]
def iy (n:Nat):Code→Option Code
 | .region id ops d=>if id=n then some (.region id ops d) else none
 | .loop c=>iy n c
 | .seq a b=>match iy n a with
  | some c=>some c
  | none=>iy n b
 | .block _ c=>iy n c
 | .scope c=>iy n c
 | .cond _ a b=>match iy n a with
  | some c=>some c
  | none=>iy n b
 | _=>none
noncomputable def DH (f:Func) (n:Nat):Code:=((f.body.bind (iy n)).getD .skip)
noncomputable def CV (f:Func) (i:Nat):Code:=((f.body.map jO).getD []).getD i .skip
end Go.Proofs.YtddkjkockbcamaaGreatDoor
