/- Loops -/
import Derived.Test.YtddkjkockbcamaaGreatDoorRows
import Derived.WalkKit
set_option maxHeartbeats 16000000
set_option maxRecDepth 100000
namespace Go.Proofs.YtddkjkockbcamaaGreatDoor
def jG:Code→List Code
 | .loop c=>c::jG c
 | .seq a b=>jG a++jG b
 | .block _ c=>jG c
 | .scope c=>jG c
 | .cond _ a b=>jG a++jG b
 | _=>[]
def gX (n:Nat):Code→Option Code
 | .region id ops d=>if id=n then some (.region id ops d) else none
 | .loop c=>gX n c
 | .seq a b=>match gX n a with
  | some c=>some c
  | none=>gX n b
 | .block _ c=>gX n c
 | .scope c=>gX n c
 | .cond _ a b=>match gX n a with
  | some c=>some c
  | none=>gX n b
 | _=>none
noncomputable def Dw (f:Func) (n:Nat):Code:=((f.body.bind (gX n)).getD .skip)
noncomputable def DX (f:Func) (i:Nat):Code:=((f.body.map jG).getD []).getD i .skip
end Go.Proofs.YtddkjkockbcamaaGreatDoor
