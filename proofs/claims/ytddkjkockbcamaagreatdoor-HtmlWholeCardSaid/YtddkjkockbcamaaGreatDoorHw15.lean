/- BkMem BkItem BkTake -/
import Derived.Test.YtddkjkockbcamaaGreatDoorHw10
import Derived.Test.YtddkjkockbcamaaGreatDoorHw03
import Derived.Test.YtddkjkockbcamaaGreatDoorHw14
import Derived.Test.YtddkjkockbcamaaGreatDoorHw04
import Derived.Deep.QuietTactic
import Derived.BigQuiet
import Derived.Deep.CutBlock
import Derived.Deep.DeepCutAuto
set_option maxHeartbeats 16000000
set_option maxRecDepth 100000
namespace Go.Proofs.YtddkjkockbcamaaGreatDoor
open Go.RowKit
inductive Key
 | par | opn | pls | node (i:Nat) | kid (i:Nat) | ext (i:Nat)
deriving DecidableEq
abbrev ptr (a:Nat):Value:=.pointer (some ⟨a,0,none⟩)
def Tu (A:Nat→Nat):Option Nat→Value
 | none=>.pointer none
 | some i=>ptr (A i)
def O6 (x:Bk.Nd) (kv:Value):Array Value :=
 #[.int .i64 (x.kind:Int),.int .i64 (x.level:Int),.string (bs x.text),.string (bs x.info),.int .i64 (x.line:Int),.slice none 0 0,.int .u8 (x.sign.toNat:Int),kv]
def Sw (A:Nat→Nat) (ov pv:Value) (st:Bk.St):Array Value :=
 #[ptr (A 0),ov,Tu A st.para,Tu A st.fence,.int .u8 (st.f.c.toNat:Int),.int .i64 (st.f.n:Int),.int .i64 (st.f.ind:Int),.string (bs st.f.info),.int .i64 (st.line:Int),pv]
def abA:Option Nat→Int
 | none => -1
 | some n=>n
def Ge (A:Nat→Nat):List Bk.ki→List Value
 | []=>[]
 | b::r=>ptr (A b.n) :: .int .i64 (abA b.col)::Ge A r
def LQ:List Bk.Pl→List Value
 | []=>[]
 | p::r=>.int .i64 (p.line:Int) :: .int .u8 (p.op.c.toNat:Int) :: .int .i64 (p.op.n:Int) :: .int .i64 (p.op.ind:Int) :: .string (bs p.op.info) :: .int .i64 (p.first:Int) :: .int .i64 (p.last:Int) :: .bool p.closed::LQ r
def QY (A:Nat→Nat) (ks:List Nat):List Value:=ks.map fun j=>ptr (A j)
def parts (E:Nat→Option Part) (P:Nat) (A:Nat→Nat) (KV:Nat→Value) (ov pv:Value) (st:Bk.St):Key→Option Part
 | .par=>some (.blk P (Sw A ov pv st) 82)
 | .opn=>some (.row 153 2 ov st.opn.length (Ge A st.opn))
 | .pls=>some (.row 102 8 pv st.places.length (LQ st.places))
 | .node i=>(st.ns[i]?).map fun x=>.blk (A i) (O6 x (KV i)) 99
 | .kid i=>(st.ns[i]?).map fun _=>.row 77 1 (KV i) (Bk.kids st.ns i).length (QY A (Bk.kids st.ns i))
 | .ext i=>E i
section
variable {w:World}{B P:Nat}{E:Nat→Option Part}{A:Nat→Nat}{KV:Nat→Value}{ov pv:Value}{st:Bk.St}
end
structure Bk.Ok (st:Bk.St):Prop where
 pos:0<st.ns.length
 opn:∀ b∈st.opn,b.n<st.ns.length
 para:∀ i,st.para=some i→i<st.ns.length
 fence:∀ i,st.fence=some i→i<st.ns.length
 few:st.opn.length≤40
 small:st.ns.length≤1000000000
 root:Bk.ordered st.ns
theorem Bk.Ok.last {st:Bk.St}(h:Bk.Ok st):Bk.last st<st.ns.length:=by
 unfold Bk.last;cases hl:st.opn.getLast? with
 | none=>exact h.pos
 | some b=>exact h.opn b (List.mem_of_getLast? hl)
def more {α:Type}(f:Nat→α) (m:Nat) (a:α):Nat→α:=fun j=>if j=m then a else f j
section
variable {w:World}{B P:Nat}{E:Nat→Option Part}{A:Nat→Nat}{KV:Nat→Value}{ov pv:Value}{st:Bk.St}
end
theorem listed_none {st:Bk.St}{c:UInt8}(h:Bk.iF st.ns (Bk.last st) c=none):Bk.listed c st=(Bk.put ⟨some (Bk.last st),2,0,[],[],st.line,c⟩ st,st.ns.length):=by
 unfold Bk.listed;rw [h];rfl
theorem Fu {st:Bk.St}{c:UInt8}{l:Nat}(h:Bk.iF st.ns (Bk.last st) c=some l):Bk.listed c st=(st,l):=by
 unfold Bk.listed;rw [h]
theorem Bk.Ok.put {st:Bk.St}(h:Bk.Ok st) {x:Bk.Nd}(hx:∀ i,x.par=some i→i<st.ns.length) (hs:st.ns.length+1≤1000000000):Bk.Ok (Bk.put x st):=by
 have hl:(Bk.put x st).ns.length=st.ns.length+1:=by simp [Bk.put]
 refine ⟨by rw [hl];omega,fun b hb=>by rw [hl];have:=h.opn b hb;omega,fun i hi=>by rw [hl];have:=h.para i hi;omega,fun i hi=>by rw [hl];have:=h.fence i hi;omega,h.few,by rw [hl];exact hs,fun j y i hj hi=>?_⟩;rcases Nat.lt_or_ge j st.ns.length with h1 | h1
 ·refine h.root j y i ?_ hi
  simp only [Bk.put] at hj;rwa [List.getElem?_append_left h1] at hj
 ·simp only [Bk.put] at hj
  rw [List.getElem?_append_right h1] at hj;rcases Nat.eq_zero_or_pos (j-st.ns.length) with h2 | h2
  ·rw [h2] at hj
   cases hj;have:=hx i hi;omega
  ·rw [List.getElem?_eq_none (by simp;omega)] at hj;cases hj
theorem Bk.MS {st:Bk.St}(h:Bk.Ok st) (hs:st.ns.length+1≤1000000000) (c:UInt8):Bk.Ok (Bk.listed c st).1∧(Bk.listed c st).2<(Bk.listed c st).1.ns.length∧(Bk.listed c st).1.opn=st.opn∧(Bk.listed c st).1.ns.length≤st.ns.length+1:=by
 cases hl:Bk.iF st.ns (Bk.last st) c with
 | none =>
  rw [listed_none hl];exact ⟨h.put (fun i hi=>by cases hi;exact h.last) hs,by simp [Bk.put],rfl,by simp [Bk.put]⟩
 | some l =>
  rw [Fu hl];refine ⟨h,?_,rfl,by simp⟩;unfold Bk.iF at hl
  split at hl
  ·cases hl
  ·split at hl
   ·cases hl
   ·rename_i k _ x hx
    split at hl
    ·cases hl;exact (List.getElem?_eq_some_iff.1 hx).1
    ·cases hl
theorem tT {l q:List UInt8}(h:Lf.quote l=some q):q.length≤l.length+3:=by
 unfold Lf.quote at h;have hr:(Fn.rs l).length≤l.length:=by unfold Fn.rs;rw [List.length_drop];omega
 split at h
 ·cases h
 ·rename_i c r ED
  rw [ED,List.length_cons] at hr
  split at h
  ·cases h
   have:=Cl.gb 1 r;omega
  ·cases h
end Go.Proofs.YtddkjkockbcamaaGreatDoor
