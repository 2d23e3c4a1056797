/- AppZero -/
import Derived.Test.YtddkjkockbcamaaGreatDoorHw03
import Derived.Maps.AppendAt
import Derived.Lib.AppendZerosOnto
set_option maxHeartbeats 16000000
set_option maxRecDepth 100000
namespace Go.Proofs.YtddkjkockbcamaaGreatDoor
open Go.RowKit
theorem Ak {P:Program}{w:World}{t tn ty e:TypeId}{size bytes:Nat}(hE:EI P t e size bytes) {kq kn:IntKind}(htn:P.underlying tn=some (.int kn)) {z:Value}(hzE:(P.info? e).map (fun i=>i.zero)=some (some z)) (hz1:∀ u∈z.cells.toList,u.oneCell'=true) {base n g cap:Nat}{xs:List Value}(hown:w.ownsRow base e size (.slice (some ⟨g,0,none⟩) n cap) n xs)
  (k:Nat) (h63:n+k≤1000000000000) (hbytes:bytes≤100) (hbase:base≤w.heap.size) :
  ∃ v' w',(Builtin.append_ #[t,tn] ty #[.slice (some ⟨g,0,none⟩) n cap,.int kq (k:Int)]).run P w=.ok v' w'∧w'.ownsRow base e size v' (n+k) (xs++(Builtin.zeroCells z.cells k).toList)∧w.grownBy w' (some g)∧At w.heap.size (.slice (some ⟨g,0,none⟩) n cap) v':=by
 obtain ⟨i,z0,hi,hz,hs1,hs2,OE⟩:=hE.info;have ht:=hE.ht;have hpos:=hE.pos;obtain rfl:z0=z:=by rw [hi] at hzE;simpa [hz] using hzE
 subst hs1 hs2;have hzl:(Builtin.zeroCells z0.cells k).size=k*i.size:=by rw [size_zeroCells,OE]
 have hb:=Nat.mul_le_mul h63 hbytes;have hlen:(xs++(Builtin.zeroCells z0.cells k).toList).length=(n+k)*i.size:=by rw [List.length_append,hown.1,Array.length_toList,hzl,Nat.add_mul]
 rcases hown.2 with ⟨e0,_⟩ | ⟨g',cap',cur,e0,hbg,hg,hnc,hcm,hcs,Xh⟩
 ·simp at e0
 injection e0 with e1 e2 e3;injection e1 with e1;injection e1 with e1;subst e1 e3;have hw:IntKind.i64.wrap (k:Int)=k:=by rw [IntKind.wrap_i64];omega
 have hneg:¬ ((k:Int)<0):=by omega
 have hkb:k*i.bytes≤281474976710656:=Nat.le_trans (Nat.mul_le_mul (show k≤1000000000000 by omega) hbytes) (by decide);have ac0:¬ (281474976710656<(k:Int)*(i.bytes:Int)):=by
  rw [← Int.natCast_mul];omega
 by_cases hroom:n+k≤cap
 ·by_cases hk0:k*i.size=0
  ·have hk:k=0:=by rcases Nat.mul_eq_zero.1 hk0 with h | h<;>omega
   subst hk;refine ⟨.slice (some ⟨g,0,none⟩) n cap,w,?_,by simpa [Builtin.zeroCells] using hown,World.grownBy.refl w _,fun _ h=>.inl h⟩;have hw0:IntKind.i64.wrap 0=0:=by rw [IntKind.wrap_i64];omega
   simp [Builtin.append_,run_underlying ht,run_underlying htn,sizeOf,typeInfo,hi,asInt,asIntOf,hw0,hnc,storeCells]
  ·have hfit:n*i.size+(Builtin.zeroCells z0.cells k).toList.length≤cur.size:=by rw [Array.length_toList,hzl,hcs,← Nat.add_mul];exact Nat.mul_le_mul_right _ hroom
   have h1:∀ u∈(Builtin.zeroCells z0.cells k).toList,u.oneCell'=true:=by
    intro u hu;simp only [Builtin.zeroCells,Array.toList_map,List.mem_map] at hu;obtain ⟨j,_,rfl⟩:=hu;have hj:j%z0.cells.size<z0.cells.size:=Nat.mod_lt _ (by omega);rw [getElem!_pos z0.cells _ hj];exact hz1 _ (Array.getElem_mem_toList hj)
   have hst:=run_storeCells_at P g (n*i.size) e (Builtin.zeroCells z0.cells k).toList 0 cur w hg (by simpa using hfit) h1;simp only [Nat.add_zero] at hst;refine ⟨.slice (some ⟨g,0,none⟩) (n+k) cap,w.setRow g (cur.toList.take (n*i.size)++(Builtin.zeroCells z0.cells k).toList++cur.toList.drop (n*i.size+(Builtin.zeroCells z0.cells k).toList.length)).toArray,?_,⟨hlen,.inr ⟨g,cap,_,rfl,hbg,setRow_heap w g cur _ e _ hg,hroom,hcm,?_,?_⟩⟩,⟨rfl,rfl,rfl,by simp,fun k _ hk=>setRow_other w g k _ (fun e=>hk (by rw [e]))⟩,fun _ h=>.inl h⟩
   ·simp [Builtin.append_,run_underlying ht,run_underlying htn,sizeOf,typeInfo,zeroValue,hi,hz,asInt,asIntOf,hw,hneg,ac0,hroom,hk0,Addr.add_lit,hst]
   ·simp only [List.size_toArray,List.length_append,List.length_take,List.length_drop,Array.length_toList]
    rw [Array.length_toList] at hfit;omega
   ·rw [Xh,← hlen]
    exact List.take_left
 ·have holds:∀ j u,xs[j]? = some u→w.drew.cell? ((⟨g,0,none⟩:Addr).add j)=some u:=hown.cells (g:=g) rfl
  have hf:=run_firstCells_some (P:=P) w.drew i.size n ⟨g,0,none⟩ n cap xs hown.1 holds;have hr:=Lib.run_append_grow_zeros (P:=P) w t tn ty e i z0 kq kn ht htn hi hz (some ⟨g,0,none⟩) n cap xs hf k (by omega) hpos (by omega) (by omega) hkb (growslice_fits (by omega) (by omega));have hge:=grownCap_ge w (n+k) cap e;have hcm2:grownCap w (n+k) cap e≤maxLen:=grownCap_le_maxLen w (n+k) cap e (by unfold maxLen;omega);refine ⟨_,_,hr,⟨hlen,.inr ⟨w.heap.size,_,_,rfl,hbase,heap_alloc_new w.drew _,hge,hcm2,?_,?_⟩⟩,⟨rfl,rfl,rfl,by simp,fun q hq _=>Go.heap_alloc_old w.drew _ hq⟩,fun q hq=>?_⟩
  ·simp only [Array.size_append,List.size_toArray,size_zeroCells,OE,hown.1,← Nat.add_mul]
   congr 1;omega
  ·simp only [Array.toList_append,List.append_assoc]
   rw [← List.append_assoc,← hlen];exact List.take_left
  ·simp [Value.ownBlock] at hq
   exact .inr (by omega)
theorem ua {P:Program}{w:World}{ops:Array Oper}{rest:List Oper}{o:Oper}{a:Act}{Q:Exit→Act→World→Prop}(hgd:o.guard=none) (s x:Operand) {t tn:TypeId}
  (ho:o.op=.call { callee:=.builtin .append,args:=#[s,x],argTypes:=#[t,tn] }) {e:TypeId}{size bytes:Nat}(hE:EI P t e size bytes) {kq kn:IntKind}(htn:P.underlying tn=some (.int kn)) {z:Value}(hzE:(P.info? e).map (fun i=>i.zero)=some (some z)) (hz1:∀ u∈z.cells.toList,u.oneCell'=true) {base n g cap:Nat}{xs:List Value}(hs:a.eval s=.slice (some ⟨g,0,none⟩) n cap) (hown:w.ownsRow base e size (.slice (some ⟨g,0,none⟩) n cap) n xs)
  {k:Nat}(hx:a.eval x=.int kq (k:Int)) (h63:n+k≤1000000000000) (hbytes:bytes≤100) (hbase:base≤w.heap.size)
  (h:∀ v' w',w'.ownsRow base e size v' (n+k) (xs++(Builtin.zeroCells z.cells k).toList)→Hid (w.grownBy w' (some g))→Hid (At w.heap.size (.slice (some ⟨g,0,none⟩) n cap) v')→wpList P ops Q rest (a.put o.dst v') w') :
  wpList P ops Q (o::rest) a w:=by
 obtain ⟨v',w',hr,h1,h2,h3⟩:=Ak (ty:=o.type) (kq:=kq) hE htn hzE hz1 hown k h63 hbytes hbase;exact Lib.wpList_append_run w hgd s x t tn ho _ _ hs hx v' w' hr (h v' w' h1 h2 h3)
end Go.Proofs.YtddkjkockbcamaaGreatDoor
