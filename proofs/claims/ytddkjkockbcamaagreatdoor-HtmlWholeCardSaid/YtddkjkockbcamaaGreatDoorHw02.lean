/- Loops -/
import Derived.Test.YtddkjkockbcamaaGreatDoorRows
import Derived.WalkKit
set_option maxHeartbeats 16000000
set_option maxRecDepth 100000
namespace Go.Proofs.YtddkjkockbcamaaGreatDoor
def kD:Code→List Code
 | .loop c=>c::kD c
 | .seq a b=>kD a++kD b
 | .block _ c=>kD c
 | .scope c=>kD c
 | .cond _ a b=>kD a++kD b
 | _=>[]
def iW (n:Nat):Code→Option Code
 | .region id ops d=>if id=n then some (.region id ops d) else none
 | .loop c=>iW n c
 | .seq a b=>match iW n a with
  | some c=>some c
  | none=>iW n b
 | .block _ c=>iW n c
 | .scope c=>iW n c
 | .cond _ a b=>match iW n a with
  | some c=>some c
  | none=>iW n b
 | _=>none
noncomputable def F7 (f:Func) (n:Nat):Code:=((f.body.bind (iW n)).getD .skip)
noncomputable def r6 (f:Func) (i:Nat):Code:=((f.body.map kD).getD []).getD i .skip
end Go.Proofs.YtddkjkockbcamaaGreatDoor
