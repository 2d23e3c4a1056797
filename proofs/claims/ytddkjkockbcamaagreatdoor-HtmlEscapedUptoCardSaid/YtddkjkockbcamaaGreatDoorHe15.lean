/- BkMem BkItem BkTake -/
import Derived.Test.YtddkjkockbcamaaGreatDoorHe10
import Derived.Test.YtddkjkockbcamaaGreatDoorHe03
import Derived.Test.YtddkjkockbcamaaGreatDoorHe14
import Derived.Test.YtddkjkockbcamaaGreatDoorHe04
import Derived.Deep.QuietTactic
import Derived.BigQuiet
import Derived.Deep.CutBlock
import Derived.Deep.DeepCutAuto
set_option maxHeartbeats 16000000
set_option maxRecDepth 100000
namespace Go.Proofs.YtddkjkockbcamaaGreatDoor
open Go.RowKit
inductive Key
 | par | opn | pls | node (i:Nat) | kid (i:Nat) | ext (i:Nat)
deriving DecidableEq
abbrev ptr (a:Nat):Value:=.pointer (some ⟨a,0,none⟩)
def ML (A:Nat→Nat):Option Nat→Value
 | none=>.pointer none
 | some i=>ptr (A i)
def KP (x:Bk.Nd) (kv:Value):Array Value :=
 #[.int .i64 (x.kind:Int),.int .i64 (x.level:Int),.string (bs x.text),.string (bs x.info),.int .i64 (x.line:Int),.slice none 0 0,.int .u8 (x.sign.toNat:Int),kv]
def Ma (A:Nat→Nat) (ov pv:Value) (st:Bk.St):Array Value :=
 #[ptr (A 0),ov,ML A st.para,ML A st.fence,.int .u8 (st.f.c.toNat:Int),.int .i64 (st.f.n:Int),.int .i64 (st.f.ind:Int),.string (bs st.f.info),.int .i64 (st.line:Int),pv]
def XU:Option Nat→Int
 | none => -1
 | some n=>n
def CG (A:Nat→Nat):List Bk.YQ→List Value
 | []=>[]
 | b::r=>ptr (A b.n) :: .int .i64 (XU b.col)::CG A r
def HS:List Bk.Pl→List Value
 | []=>[]
 | p::r=>.int .i64 (p.line:Int) :: .int .u8 (p.op.c.toNat:Int) :: .int .i64 (p.op.n:Int) :: .int .i64 (p.op.ind:Int) :: .string (bs p.op.info) :: .int .i64 (p.first:Int) :: .int .i64 (p.last:Int) :: .bool p.closed::HS r
def Mb (A:Nat→Nat) (ks:List Nat):List Value:=ks.map fun j=>ptr (A j)
def parts (E:Nat→Option Part) (P:Nat) (A:Nat→Nat) (KV:Nat→Value) (ov pv:Value) (st:Bk.St):Key→Option Part
 | .par=>some (.blk P (Ma A ov pv st) 82)
 | .opn=>some (.row 153 2 ov st.opn.length (CG A st.opn))
 | .pls=>some (.row 102 8 pv st.places.length (HS st.places))
 | .node i=>(st.ns[i]?).map fun x=>.blk (A i) (KP x (KV i)) 99
 | .kid i=>(st.ns[i]?).map fun _=>.row 77 1 (KV i) (Bk.kids st.ns i).length (Mb A (Bk.kids st.ns i))
 | .ext i=>E i
section
variable {w:World}{B P:Nat}{E:Nat→Option Part}{A:Nat→Nat}{KV:Nat→Value}{ov pv:Value}{st:Bk.St}
end
structure Bk.Ok (st:Bk.St):Prop where
 pos:0<st.ns.length
 opn:∀ b∈st.opn,b.n<st.ns.length
 para:∀ i,st.para=some i→i<st.ns.length
 fence:∀ i,st.fence=some i→i<st.ns.length
 few:st.opn.length≤40
 small:st.ns.length≤1000000000
 root:Bk.ordered st.ns
def more {α:Type}(f:Nat→α) (m:Nat) (a:α):Nat→α:=fun j=>if j=m then a else f j
section
variable {w:World}{B P:Nat}{E:Nat→Option Part}{A:Nat→Nat}{KV:Nat→Value}{ov pv:Value}{st:Bk.St}
end
end Go.Proofs.YtddkjkockbcamaaGreatDoor
