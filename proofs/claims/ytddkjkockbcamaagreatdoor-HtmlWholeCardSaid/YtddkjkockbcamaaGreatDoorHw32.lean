/- BkRun BkMass BkRef BkDeep HmPage HmPg PgMem PgTakes PgPut PgInl -/
import Derived.Test.YtddkjkockbcamaaGreatDoorHw27
import Derived.Test.YtddkjkockbcamaaGreatDoorHw05
import Derived.Test.YtddkjkockbcamaaGreatDoorHw08
import Derived.Test.YtddkjkockbcamaaGreatDoorHw17
import Derived.Test.YtddkjkockbcamaaGreatDoorHw03
import Derived.Test.YtddkjkockbcamaaGreatDoorHw19
import Derived.Test.YtddkjkockbcamaaGreatDoorHw22
import Derived.Test.YtddkjkockbcamaaGreatDoorHw21
import Derived.Deep.DeepCutAuto
import Derived.Test.YtddkjkockbcamaaGreatDoorHw30
set_option maxHeartbeats 16000000
set_option maxRecDepth 100000
namespace Go.Proofs.YtddkjkockbcamaaGreatDoor
open Go.RowKit
attribute [local go_sem] aD av aq
def Bk.aU (l:List UInt8):List (List UInt8):=(Ln.texts (l.take 65536) 0).map Ru.text
theorem Tc {l:List UInt8}{k:Nat}:∀ s∈Ln.texts l k,s.length≤l.length:=by
 intro s hs;unfold Ln.texts at hs;obtain ⟨x,hx,rfl⟩:=List.mem_map.1 hs;have:=Ln.sA l k x hx;rw [ep (by omega)];omega
theorem Cp {ts:List (List UInt8)}{k:Nat}(h:¬ k<ts.length) (st:Bk.St):Bk.lines ((ts.drop k).map Ru.text) k st=st:=by
 rw [List.drop_eq_nil_of_le (by omega)];rfl
end Go.Proofs.YtddkjkockbcamaaGreatDoor
namespace Go.Proofs.YtddkjkockbcamaaGreatDoor
def kW (l:List UInt8):Nat:=(l.map fun b=>if b=9 then 4 else 1).sum
theorem D1:kW []=0:=rfl
theorem oy (b:UInt8) (l:List UInt8):kW (b::l)=(if b=9 then 4 else 1)+kW l:=by simp [kW]
theorem mQ (a b:List UInt8):kW (a++b)=kW a+kW b:=by simp [kW]
theorem DP (l:List UInt8):l.length≤kW l:=by
 induction l with
 | nil=>simp [D1]
 | cons b l ih=>rw [oy,List.length_cons];split<;>omega
theorem QA (l:List UInt8) (k:Nat):kW (l.drop k)≤kW l:=by
 conv=>rhs;rw [← List.take_append_drop k l,mQ]
 omega
theorem It (n:Nat):kW (List.replicate n 32)=n:=by
 induction n with
 | zero=>rfl
 | succ n ih=>rw [List.replicate_succ,oy,ih];simp;omega
theorem Er (n:Int):∀ (l:List UInt8) (c:Nat),(Cl.lead n l c).1≤c+kW (l.take (Cl.lead n l c).2)
 | [],c=>by simp [Cl.lead]
 | b::r,c=>by
  rw [Cl.lead]
  split
  ·rename_i h
   have ih:=Er n r (Cl.step c b);have hs:Cl.step c b≤c+(if b=9 then 4 else 1):=by
    unfold Cl.step
    by_cases hb:b=9
    ·rw [if_pos hb,if_pos hb];omega
    ·rw [if_neg hb,if_neg hb];omega
   simp only;rw [List.take_succ_cons,oy];omega
  ·simp
theorem pQ (n:Int) (l:List UInt8):kW (Cl.strip n l)≤kW l:=by
 have h:=Er n l 0;unfold Cl.strip;rw [mQ,It];have e:kW l=kW (l.take (Cl.lead n l 0).2)+kW (l.drop (Cl.lead n l 0).2):=by rw [← mQ,List.take_append_drop]
 omega
theorem Tm {l r:List UInt8}{c:UInt8}(h:Fn.rs l=c::r):kW r≤kW l:=by
 have h1:kW (Fn.rs l)≤kW l:=by unfold Fn.rs;exact QA _ _
 rw [h,oy] at h1;omega
theorem Cc {l q:List UInt8}(h:Lf.quote l=some q):kW q≤kW l:=by
 unfold Lf.quote at h
 split at h
 ·cases h
 ·rename_i c r ED
  split at h
  ·cases h;exact Nat.le_trans (pQ 1 r) (Tm ED)
  ·cases h
theorem TP {l r:List UInt8}{c:UInt8}{n:Nat}(h:Lf.item l=some (c,n,r)):kW r≤kW l:=by
 unfold Lf.item at h
 split at h
 ·cases h
 ·rename_i d t ED
  split at h
  ·split at h
   ·cases h;simp [D1]
   ·cases h;exact Nat.le_trans (pQ _ t) (Tm ED)
  ·cases h
theorem yt {s r:List UInt8}{o:Option (UInt8×Nat)}(ho:Bk.opener s=some (o,r)):kW r≤kW s:=by
 unfold Bk.opener at ho
 split at ho
 ·rename_i q hq;cases ho;exact Cc hq
 ·split at ho
  ·rename_i c n t hi;cases ho;exact TP hi
  ·cases ho
theorem QK (l:List Bk.ki) (s:List UInt8):kW (Bk.take l s).2≤kW s:=by
 induction l generalizing s with
 | nil=>simp [Bk.take]
 | cons b r ih =>
  unfold Bk.take
  split
  ·split
   ·exact Nat.le_refl _
   ·rename_i q hq;exact Nat.le_trans (ih q) (Cc hq)
  ·split
   ·exact ih s
   ·split
    ·exact Nat.le_refl _
    ·exact Nat.le_trans (ih _) (pQ _ s)
def Bk.tw (ns:List Bk.Nd):Nat:=(ns.map fun x=>x.text.length).sum
theorem lZ (a b:List Bk.Nd):Bk.tw (a++b)=Bk.tw a+Bk.tw b:=by simp [Bk.tw]
theorem jD (x:Bk.Nd) (b:List Bk.Nd):Bk.tw (x::b)=x.text.length+Bk.tw b:=by simp [Bk.tw]
theorem DL:Bk.tw []=0:=rfl
theorem Zh {ns:List Bk.Nd}{x:Bk.Nd}(h:x∈ns):x.text.length≤Bk.tw ns:=by
 obtain ⟨a,b,rfl⟩:=List.append_of_mem h;rw [lZ,jD];omega
theorem IY:∀ (ns:List Bk.Nd) (i:Nat) (t:List UInt8),Bk.tw (Bk.bp ns i t)+((ns[i]?.map (·.text)).getD []).length≤Bk.tw ns+t.length
 | [],i,t=>by cases i<;>simp [Bk.bp,Bk.tw]
 | x::r,0,t=>by simp [Bk.bp,Bk.tw];omega
 | x::r,i+1,t=>by
  have:=IY r i t;unfold Bk.bp at this ⊢;rw [List.modify_succ_cons,jD,jD,List.getElem?_cons_succ];omega
theorem Lm (o:Option (UInt8×Nat)) (st:Bk.St):Bk.tw (Bk.push o st).ns=Bk.tw st.ns:=by
 cases o with
 | none=>simp only [Bk.push,Bk.quote];rw [lZ,jD,DL];simp
 | some x =>
  obtain ⟨c,n⟩:=x;simp only [Bk.push,Bk.item]
  split
  ·rw [lZ,jD,DL];simp
  ·rw [lZ,jD,jD,DL];simp
theorem K0:∀ (m:Nat) (st:Bk.St) (s:List UInt8),Bk.tw (Bk.grow m st s).1.ns=Bk.tw st.ns∧kW (Bk.grow m st s).2≤kW s
 | 0,st,s=>by simp [Bk.grow]
 | m+1,st,s=>by
  unfold Bk.grow;cases ho:Bk.opener s with
  | none=>simp
  | some x =>
   obtain ⟨o,r⟩:=x;have h1:=yt ho;have h2:=Lm o st;have h3:=K0 m (Bk.push o st) r;simp only;exact ⟨h3.1.trans h2,by omega⟩
theorem Dz (s:List UInt8) (k:Nat) (be:Bool) (st:Bk.St):Bk.tw (Bk.leaf s k be st).ns≤Bk.tw st.ns+s.length+1:=by
 have hadd:∀ (kind level:Nat) (t info:List UInt8),t.length≤s.length→Bk.tw (Bk.add kind level t info 0 (Bk.shut k st)).ns≤Bk.tw st.ns+s.length+1:=fun kind level t info ht=>by
  simp only [Bk.add,Bk.shut];rw [lZ,jD,DL];simp only;omega
 have pz:=Fn.iR s;unfold Bk.leaf
 split
 ·simp only [Bk.shut];omega
 ·split
  ·rename_i n t hh;exact hadd _ _ _ _ (GH hh)
  ·split
   ·exact hadd _ _ _ _ (by simp)
   ·split
    ·rename_i f hf
     exact hadd 7 0 [] f.info (by simp)
    ·split
     ·rename_i p hp
      have h1:=IY st.ns p (((st.ns[p]?.map (·.text)).getD [])++10::Fn.trim s);rw [List.length_append,List.length_cons] at h1;simp only;omega
     ·exact hadd 4 0 (Fn.trim s) [] pz
theorem Wo (st:Bk.St) (s:List UInt8):Bk.tw (Bk.text s st).ns≤Bk.tw st.ns+kW s+1:=by
 have htl:=QK st.opn s;have mD:∀ (T:List UInt8) (k:Nat),kW T≤kW s→Bk.tw (Bk.below T k st).ns≤Bk.tw st.ns+kW s+1:=by
  intro T k hT;have hTl:=DP T;unfold Bk.below
  split
  ·cases ho:Bk.opener T with
   | none =>
    have:=Dz T k false st;simp only;omega
   | some x =>
    obtain ⟨o,r⟩:=x;have h1:=yt ho;have h2:=Lm o (Bk.shut k st);have h3:=K0 (39-k) (Bk.push o (Bk.shut k st)) r;have h4:=Dz (Bk.grow (39-k) (Bk.push o (Bk.shut k st)) r).2 (Bk.grow (39-k) (Bk.push o (Bk.shut k st)) r).1.opn.length true (Bk.grow (39-k) (Bk.push o (Bk.shut k st)) r).1;have h5:=DP (Bk.grow (39-k) (Bk.push o (Bk.shut k st)) r).2;have hsn:Bk.tw (Bk.shut k st).ns=Bk.tw st.ns:=rfl;rw [hsn] at h2;simp only;omega
  ·have:=Dz T k false st
   omega
 unfold Bk.text
 split
 ·rename_i j hj
  split
  ·unfold Bk.fenced
   split
   ·simp only;omega
   ·have h1:=IY st.ns j (((st.ns[j]?.map (·.text)).getD [])++Cl.strip (st.f.ind:Int) (Bk.take st.opn s).2++[10])
    have h2:=pQ (st.f.ind:Int) (Bk.take st.opn s).2;have h3:=DP (Cl.strip (st.f.ind:Int) (Bk.take st.opn s).2);rw [List.length_append,List.length_append,List.length_singleton] at h1;simp only;omega
  ·exact mD _ _ htl
 ·exact mD _ _ htl
theorem GQ:∀ (ls:List (List UInt8)) (i:Nat) (st:Bk.St),Bk.tw (Bk.lines ls i st).ns≤Bk.tw st.ns+(ls.map fun s=>kW s+1).sum
 | [],i,st=>by simp [Bk.lines]
 | s::r,i,st=>by
  have h2:=GQ r (i+1) (Bk.text s { st with line:=i });have h3:=Wo { st with line:=i } s;rw [Bk.lines,List.map_cons,List.sum_cons];simp only at h3;omega
theorem Pv (x:Nat):kW (Lib.encodeRune (x:Int))≤4:=by
 by_cases h9:x=9
 ·subst h9;decide
 ·have hl:=(Ru.dS (x:Int)).2
  have hno:∀ b∈Lib.encodeRune (x:Int),b≠9:=by
   intro b hb he;subst he;rcases Nat.lt_or_ge x 128 with h | h
   ·rw [Lib.encodeRune,Lib.encodeRuneZ_one (by omega) (by omega)] at hb
    simp only [List.map_cons,List.map_nil,List.mem_singleton] at hb;have:=congrArg UInt8.toNat hb;simp at this;omega
   ·obtain ⟨z,hz,he⟩:=List.mem_map.1 hb
    have hby:=Lib.encodeRuneZ_byte (x:Int) z hz;have hz0:z.toNat.toUInt8.toNat=z.toNat:=Ru.bM z hby.1 hby.2;have h9':z.toNat=9:=by rw [← hz0,he];rfl
    have hzz:z=9:=by omega
    subst hzz;unfold Lib.encodeRuneZ at hz
    split at hz
    ·simp at hz;omega
    ·split at hz
     ·simp at hz;omega
     ·split at hz
      ·simp at hz;omega
      ·split at hz
       ·simp at hz;omega
       ·simp at hz
  have:∀ l:List UInt8,(∀ b∈l,b≠9)→kW l=l.length:=by
   intro l
   induction l with
   | nil=>intro _;rfl
   | cons b l ih =>
    intro h;rw [oy,if_neg (h b (by simp)),ih (fun c hc=>h c (by simp [hc])),List.length_cons];omega
  rw [this _ hno];exact hl
theorem K3:∀ X:List Nat,kW (Ru.enc X)≤4*X.length
 | []=>by rw [Ru.rM];simp [D1]
 | x::X=>by
  have h1:=Pv x;have h2:=K3 X;rw [Ru.oZ,mQ,List.length_cons];omega
theorem S7 (l:List UInt8):kW (Ru.text l)≤4*l.length:=by
 have h1:=K3 (Ru.F3 l);rw [Ru.BQ] at h1;have h2:=Ru.lU l;unfold Ru.text;omega
theorem BL (l:List UInt8):∀ (n k:Nat),l.length≤n+k→((Ln.texts l k).map fun s=>4*s.length+1).sum≤5*(l.length-k)
 | 0,k,h=>by rw [Ln.uk (by omega)];simp
 | n+1,k,h=>by
  by_cases hk:k<l.length
  ·have h1:=Ln.tG hk
   have h2:=Ln.CE (l:=l) (k:=k) (by omega);have h3:=Ln.CI l k;have h4:=Ln.KA l k;have ih:=BL l n (Ln.xB l k) (by omega);rw [Ln.yw hk,List.map_cons,List.sum_cons,ep (by omega)];omega
  ·rw [Ln.uk hk];simp
theorem Tl (l:List UInt8):Bk.tw (Bk.run (Bk.aU l)).ns≤327680:=by
 have hl:(l.take 65536).length≤65536:=by rw [List.length_take];omega
 have h2:=BL (l.take 65536) 65536 0 (by omega);have h3:((Bk.aU l).map fun s=>kW s+1).sum≤((Ln.texts (l.take 65536) 0).map fun s=>4*s.length+1).sum:=by
  unfold Bk.aU;rw [List.map_map];have key:∀ ts:List (List UInt8),(ts.map ((fun s=>kW s+1)∘Ru.text)).sum≤(ts.map fun s=>4*s.length+1).sum:=by
   intro ts
   induction ts with
   | nil=>simp
   | cons t ts ih =>
    have:=S7 t;simp only [List.map_cons,List.sum_cons,Function.comp];omega
  exact key _
 have h4:=GQ (Bk.aU l) 0 Bk.start;have h5:Bk.tw Bk.start.ns=0:=rfl;unfold Bk.run;omega
theorem Sa {i:Nat}{st:Bk.St}(h:Bk.Fit i st) (n:Nat):Bk.Fit i { st with line:=n } :=
 ⟨⟨h.ok.pos,h.ok.opn,h.ok.para,h.ok.fence,h.ok.few,h.ok.small,h.ok.root⟩,h.texts,h.pls,h.nodes,h.top⟩
theorem B5:∀ (ls:List (List UInt8)) (i:Nat) (st:Bk.St),Bk.Fit i st→i+ls.length≤100000→(∀ s∈ls,s.length≤300000)→Bk.Fit (i+ls.length) (Bk.lines ls i st)
 | [],i,st,h,_,_=>h
 | s::r,i,st,h,hi,hs=>by
  rw [List.length_cons] at hi ⊢;have h1:=Rp (Sa h i) (by omega) s (hs s (by simp));have h2:=B5 r (i+1) _ h1 (by omega) (fun x hx=>hs x (by simp [hx]));rw [Bk.lines,show i+(r.length+1)=i+1+r.length from by omega];exact h2
theorem U2 (l:List UInt8):(Bk.run (Bk.aU l)).ns.length≤6553601:=by
 have hl:(l.take 65536).length≤65536:=by rw [List.length_take];omega
 have h1:=Ln.Bf (l.take 65536) 0;have rG:(Bk.aU l).length≤65536:=by unfold Bk.aU;rw [List.length_map];omega
 have h4:=B5 (Bk.aU l) 0 Bk.start NL (by omega) (fun s hs=>by
  unfold Bk.aU at hs;obtain ⟨t,ht,rfl⟩:=List.mem_map.1 hs;have h5:=Tc t ht;have h6:=Ru.Gm t;omega)
 have:=h4.nodes;unfold Bk.run;omega
def Bk.nw (ns:List Bk.Nd):Nat:=(ns.map fun x=>x.text.length+1).sum
theorem Dd (x:Bk.Nd) (b:List Bk.Nd):Bk.nw (x::b)=x.text.length+1+Bk.nw b:=by simp [Bk.nw]
theorem Xe:∀ ns:List Bk.Nd,Bk.nw ns=Bk.tw ns+ns.length
 | []=>rfl
 | x::r=>by rw [Dd,jD,Xe r,List.length_cons];omega
theorem Zo (l:List UInt8):Bk.nw (Bk.run (Bk.aU l)).ns≤6900000:=by
 have h1:=Tl l;have h2:=U2 l;rw [Xe];omega
mutual
def Bk.tm:Bk.Tree→Nat
 | .mk _ _ t _ _ ks=>t.length+1+Bk.HH ks
def Bk.HH:List Bk.Tree→Nat
 | []=>0
 | x::r=>Bk.tm x+Bk.HH r
end
theorem zk:∀ (r:List Bk.Nd) (o:Nat) (S:List Nat),S.Nodup→(∀ i∈S,i<o)→(S.map fun i=>Bk.HH (Bk.bT r o i)).sum≤Bk.nw r
 | [],o,S,_,_=>by
  have:∀ S:List Nat,(S.map fun i=>Bk.HH (Bk.bT [] o i)).sum=0:=by
   intro S
   induction S with
   | nil=>rfl
   | cons a S ih=>simp only [List.map_cons,List.sum_cons,ih];simp [Bk.bT,Bk.HH]
  rw [this];omega
 | x::r,o,S,hS,hlt=>by
  have hno:∀ S':List Nat,(∀ i∈S',x.par≠some i)→(S'.map fun i=>Bk.HH (Bk.bT (x::r) o i))=S'.map fun i=>Bk.HH (Bk.bT r (o+1) i):=by
   intro S' h;refine List.map_congr_left fun i hi=>?_
   conv=>lhs;unfold Bk.bT
   rw [if_neg (h i hi)]
  rw [Dd]
  by_cases hp:∃ p∈S,x.par=some p
  ·obtain ⟨p,hpS,T7⟩:=hp
   obtain ⟨A,B,rfl⟩:=List.append_of_mem hpS;rw [List.nodup_append] at hS;obtain ⟨hA,hpB,ab7⟩:=hS;rw [List.nodup_cons] at hpB;have ih:=zk r (o+1) (o::(A++p::B)) (List.nodup_cons.2 ⟨fun h=>by have:=hlt o h;omega,List.nodup_append.2 ⟨hA,List.nodup_cons.2 hpB,ab7⟩⟩) (fun i hi=>by
    rcases List.mem_cons.1 hi with rfl | h
    ·omega
    ·have:=hlt i h;omega)
   have e1:Bk.HH (Bk.bT (x::r) o p)=x.text.length+1+Bk.HH (Bk.bT r (o+1) o)+Bk.HH (Bk.bT r (o+1) p):=by
    conv=>lhs;unfold Bk.bT
    rw [if_pos T7];simp only [Bk.HH,Bk.tm]
   simp only [List.map_append,List.map_cons,List.sum_append,List.sum_cons] at ih ⊢;rw [hno A (fun i hi he=>by rw [T7] at he;injection he with he;exact ab7 i hi p (by simp) he.symm),hno B (fun i hi he=>by rw [T7] at he;injection he with he;subst he;exact hpB.1 hi),e1];omega
  ·rw [hno S (fun i hi he=>hp ⟨i,hi,he⟩)]
   have ih:=zk r (o+1) S hS (fun i hi=>by have:=hlt i hi;omega);omega
theorem UP (ns:List Bk.Nd):Bk.tm (Bk.cN ns 0)≤Bk.nw ns+1:=by
 unfold Bk.cN;cases ns with
 | nil=>simp [Bk.tm,Bk.HH]
 | cons x r =>
  have:=zk r 1 [0] (by simp) (by simp);simp only [List.map_cons,List.map_nil,List.sum_cons,List.sum_nil,Nat.add_zero] at this;simp only [List.getElem?_cons_zero,Nat.zero_add,List.drop_succ_cons,List.drop_zero,Bk.tm];rw [Dd];omega
end Go.Proofs.YtddkjkockbcamaaGreatDoor
namespace Go.Proofs.YtddkjkockbcamaaGreatDoor
open Go.RowKit
def Bk.nh (l:List UInt8):Bk.Tree:=Bk.cN (Bk.run (Bk.aU l)).ns 0
end Go.Proofs.YtddkjkockbcamaaGreatDoor
namespace Go.Proofs.YtddkjkockbcamaaGreatDoor
namespace Bk
mutual
def Ir:Tree→Nat
 | .mk _ _ _ _ _ ks=>vQ ks+1
def vQ:List Tree→Nat
 | []=>0
 | x::r=>max (Ir x) (vQ r)
end
structure Rk (f:Nat→Nat) (ns:List Nd) (opn:List ki):Prop where
 up:∀ (j:Nat) (x:Nd) (p:Nat),ns[j]? = some x→x.par=some p→p<j∧f p+1=f j
 boxes:∀ (m:Nat) (b:ki),opn[m]? = some b→b.n<ns.length∧f b.n≤2*(m+1)
 zero:f 0=0
 pos:0<ns.length
 few:opn.length≤40
 all:∀ j,j<ns.length→f j≤83
def dB (st:St):Prop:=∃ f,Rk f st.ns st.opn
theorem K1 {f:Nat→Nat}{st:St}(h:Rk f st.ns st.opn):last st<st.ns.length∧f (last st)≤2*st.opn.length:=by
 unfold last;cases hl:st.opn.getLast? with
 | none=>simp only;have:=h.zero;have:=h.pos;omega
 | some b =>
  simp only;rw [List.getLast?_eq_getElem?] at hl;have h1:=h.boxes _ b hl;have h2:=(List.getElem?_eq_some_iff.1 hl).1;omega
theorem yC {f:Nat→Nat}{ns:List Nd}{opn:List ki}(h:Rk f ns opn) {x:Nd}{p:Nat}(hp:p<ns.length) (hx:x.par=some p) (hf:f p≤82) :
  ∃ f',Rk f' (ns++[x]) opn∧(∀ j,j<ns.length→f' j=f j)∧f' ns.length=f p+1:=by
 refine ⟨fun j=>if j=ns.length then f p+1 else f j,⟨?_,?_,?_,?_,h.few,?_⟩,fun j hj=>if_neg (by omega),if_pos rfl⟩
 ·intro j y q hj hq
  rcases Nat.lt_or_ge j ns.length with hl | hl
  ·rw [List.getElem?_append_left hl] at hj
   have:=h.up j y q hj hq;rw [if_neg (by omega),if_neg (by omega)];exact this
  ·rw [List.getElem?_append_right hl] at hj
   have hj0:j-ns.length=0:=by
    have:=(List.getElem?_eq_some_iff.1 hj).1;simp at this;omega
   rw [hj0] at hj;simp at hj;subst hj;rw [hx] at hq;injection hq with hq;subst hq;have Pm:j=ns.length:=by omega
   rw [if_neg (by omega),if_pos Pm];exact ⟨by omega,rfl⟩
 ·intro m b hb
  have:=h.boxes m b hb;rw [List.length_append,if_neg (by omega)];simp only [List.length_singleton];omega
 ·have:=h.pos
  rw [if_neg (by omega)];exact h.zero
 ·simp
 ·intro j hj
  rw [List.length_append,List.length_singleton] at hj
  split
  ·omega
  ·exact h.all j (by omega)
theorem DS {f:Nat→Nat}{ns:List Nd}{opn:List ki}(h:Rk f ns opn) {b:ki}(hb:b.n<ns.length) (hf:f b.n≤2*(opn.length+1)) (hl:opn.length+1≤40):Rk f ns (opn++[b]):=by
 refine ⟨h.up,?_,h.zero,h.pos,by simp;omega,h.all⟩;intro m c hc;rcases Nat.lt_or_ge m opn.length with hm | hm
 ·rw [List.getElem?_append_left hm] at hc
  exact h.boxes m c hc
 ·rw [List.getElem?_append_right hm] at hc
  have hm0:m-opn.length=0:=by
   have:=(List.getElem?_eq_some_iff.1 hc).1;simp at this;omega
  rw [hm0] at hc;simp at hc;subst hc;exact ⟨hb,by omega⟩
theorem WX {f:Nat→Nat}{ns:List Nd}{opn:List ki}(h:Rk f ns opn) (k:Nat):Rk f ns (opn.take k):=by
 refine ⟨h.up,?_,h.zero,h.pos,by have:=h.few;rw [List.length_take];omega,h.all⟩;intro m b hb;rw [List.getElem?_take] at hb
 split at hb
 ·exact h.boxes m b hb
 ·cases hb
theorem Lc {f:Nat→Nat}{ns:List Nd}{opn:List ki}(h:Rk f ns opn) (i:Nat) (t:List UInt8):Rk f (bp ns i t) opn:=by
 have hl:=jc ns i t;refine ⟨?_,fun m b hb=>by rw [hl];exact h.boxes m b hb,h.zero,by rw [hl];exact h.pos,h.few,fun j hj=>h.all j (by omega)⟩;intro j x p hj hp;unfold bp at hj;rw [List.getElem?_modify] at hj;cases hn:ns[j]? with
 | none=>rw [hn] at hj;simp at hj
 | some y =>
  rw [hn] at hj
  split at hj
  ·simp at hj
   subst hj;exact h.up j y p hn hp
  ·simp at hj
   subst hj;exact h.up j y p hn hp
theorem nk (i:Nat):∀ (ns:List Nd) (o k:Nat),k∈aW i ns o→∃ x,ns[k-o]? = some x∧x.par=some i∧o≤k
 | [],_,_,h=>by simp [aW] at h
 | x::r,o,k,h=>by
  simp only [aW] at h
  split at h
  ·rename_i hx
   rcases List.mem_cons.1 h with rfl | h
   ·exact ⟨x,by simp,hx,Nat.le_refl _⟩
   ·obtain ⟨y,h1,h2,h3⟩:=nk i r (o+1) k h
    refine ⟨y,?_,h2,by omega⟩;rw [show k-o=(k-(o+1))+1 from by omega,List.getElem?_cons_succ];exact h1
  ·obtain ⟨y,h1,h2,h3⟩:=nk i r (o+1) k h
   refine ⟨y,?_,h2,by omega⟩;rw [show k-o=(k-(o+1))+1 from by omega,List.getElem?_cons_succ];exact h1
theorem IQ {ns:List Nd}{i:Nat}{c:UInt8}{l:Nat}(h:iF ns i c=some l):∃ x,ns[l]? = some x∧x.par=some i:=by
 unfold iF at h
 split at h
 ·cases h
 ·rename_i k hk
  obtain ⟨x,h1,h2,_⟩:=nk i ns 0 k (List.mem_of_getLast? hk);rw [Nat.sub_zero] at h1;rw [h1] at h;simp only at h
  split at h
  ·injection h with h;subst h;exact ⟨x,h1,h2⟩
  ·cases h
theorem vR {st:St}(h:dB st) (hl:st.opn.length+1≤40) (o:Option (UInt8×Nat)):dB (push o st)∧(push o st).opn.length=st.opn.length+1:=by
 obtain ⟨f,h⟩:=h;obtain ⟨l1,l2⟩:=K1 h;cases o with
 | none =>
  refine ⟨?_,by simp [push,quote]⟩;obtain ⟨f',g1,g2,g3⟩:=yC h (x:=⟨some (last st),1,0,[],[],st.line,0⟩) l1 rfl (by omega);exact ⟨f',DS g1 (b:=⟨st.ns.length,none⟩) (by simp) (by simp only;omega) hl⟩
 | some x =>
  obtain ⟨c,n⟩:=x;cases hlo:iF st.ns (last st) c with
  | some l =>
   refine ⟨?_,by simp [push,item,hlo]⟩;obtain ⟨y,y1,y2⟩:=IQ hlo;have u:=h.up l y _ y1 y2;have rG:=(List.getElem?_eq_some_iff.1 y1).1;obtain ⟨f',g1,g2,g3⟩:=yC h (x:=⟨some l,3,0,[],[],st.line,0⟩) rG rfl (by omega);unfold dB;simp only [push,item,hlo];exact ⟨f',DS g1 (b:=⟨st.ns.length,some n⟩) (by simp) (by simp only;omega) hl⟩
  | none =>
   refine ⟨?_,by simp [push,item,hlo]⟩;obtain ⟨f',g1,g2,g3⟩:=yC h (x:=⟨some (last st),2,0,[],[],st.line,c⟩) l1 rfl (by omega);obtain ⟨f2,k1,k2,k3⟩:=yC g1 (x:=⟨some st.ns.length,3,0,[],[],st.line,0⟩) (p:=st.ns.length) (by simp) rfl (by omega);rw [List.length_append,List.length_singleton] at k3;unfold dB;simp only [push,item,hlo];rw [List.append_assoc] at k1;exact ⟨f2,DS k1 (b:=⟨st.ns.length+1,some n⟩) (by simp) (by simp only;omega) hl⟩
theorem vk:∀ (m:Nat) (st:St) (s:List UInt8),dB st→st.opn.length+m≤40→dB (grow m st s).1
 | 0,_,_,h,_=>h
 | m+1,st,s,h,hl=>by
  unfold grow;cases ho:opener s with
  | none=>exact h
  | some x =>
   obtain ⟨o,r⟩:=x;obtain ⟨h1,h2⟩:=vR h (by omega) o;exact vk m _ r h1 (by omega)
theorem u6 {st:St}(h:dB st) (k:Nat):dB (shut k st):=by
 obtain ⟨f,h⟩:=h;exact ⟨f,WX h k⟩
theorem mX {st:St}(h:dB st) (kind level:Nat) (t info:List UInt8) (c:UInt8):dB (add kind level t info c st):=by
 obtain ⟨f,h⟩:=h;obtain ⟨l1,l2⟩:=K1 h;have:=h.few;obtain ⟨f',g1,_,_⟩:=yC h (x:=⟨some (last st),kind,level,t,info,st.line,c⟩) l1 rfl (by omega);exact ⟨f',g1⟩
theorem kR {st st':St}(h:dB st) (h1:st'.ns=st.ns) (h2:st'.opn=st.opn):dB st':=by
 obtain ⟨f,h⟩:=h;exact ⟨f,by rw [h1,h2];exact h⟩
theorem oB {st:St}(h:dB st) (s:List UInt8) (k:Nat) (be:Bool):dB (leaf s k be st):=by
 have hs:=u6 h k;unfold leaf
 split
 ·exact hs
 ·split
  ·exact mX hs _ _ _ _ _
  ·split
   ·exact mX hs _ _ _ _ _
   ·split
    ·rename_i f hf
     exact kR (mX hs 7 0 [] f.info 0) rfl rfl
    ·split
     ·obtain ⟨f,h⟩:=h
      exact ⟨f,Lc h _ _⟩
     ·exact kR (mX hs 4 0 (Fn.trim s) [] 0) rfl rfl
theorem sC {st:St}(h:dB st) (s:List UInt8) (k:Nat):dB (below s k st):=by
 unfold below
 split
 ·rename_i hk
  cases ho:opener s with
  | none=>exact oB h _ _ _
  | some x =>
   obtain ⟨o,r⟩:=x;simp only;have hl:(shut k st).opn.length≤k:=by simp only [shut,List.length_take];omega
   obtain ⟨h1,h2⟩:=vR (u6 h k) (by omega) o;exact oB (vk (39-k) _ r h1 (by omega)) _ _ _
 ·exact oB h _ _ _
theorem Gg {st:St}(h:dB st) (s:List UInt8):dB (text s st):=by
 unfold text
 split
 ·split
  ·unfold fenced
   split
   ·exact kR h rfl rfl
   ·obtain ⟨f,h⟩:=h
    exact ⟨f,Lc h _ _⟩
  ·exact sC h _ _
 ·exact sC h _ _
theorem sS:∀ (ls:List (List UInt8)) (i:Nat) (st:St),dB st→dB (lines ls i st)
 | [],_,_,h=>h
 | s::r,i,st,h=>sS r (i+1) _ (Gg (st:={ st with line:=i }) (kR h rfl rfl) s)
theorem DT:dB start:=by
 refine ⟨fun _=>0,⟨?_,?_,rfl,by simp [start],by simp [start],fun _ _=>by omega⟩⟩
 ·intro j x p hj hp
  simp only [start] at hj;cases j with
  | zero=>simp at hj;subst hj;cases hp
  | succ j=>simp at hj
 ·intro m b hb
  simp [start] at hb
theorem uM (f:Nat→Nat):∀ (r:List Nd) (o i:Nat),(∀ (j:Nat) (x:Nd) (p:Nat),r[j]? = some x→x.par=some p→f p+1=f (o+j))→(∀ j,j<r.length→f (o+j)≤83)→vQ (bT r o i)≤83-f i
 | [],o,i,_,_=>by simp [bT,vQ]
 | x::r,o,i,h,hl=>by
  have h1:=uM f r (o+1) o (fun j y p hj hp=>by have:=h (j+1) y p (by simpa using hj) hp;rwa [show o+(j+1)=o+1+j from by omega] at this) (fun j hj=>by have:=hl (j+1) (by simpa using hj);rwa [show o+(j+1)=o+1+j from by omega] at this);have h2:=uM f r (o+1) i (fun j y p hj hp=>by have:=h (j+1) y p (by simpa using hj) hp;rwa [show o+(j+1)=o+1+j from by omega] at this) (fun j hj=>by have:=hl (j+1) (by simpa using hj);rwa [show o+(j+1)=o+1+j from by omega] at this);unfold bT
  split
  ·rename_i hx
   have h3:f i+1=f o:=h 0 x i (by simp) hx;have h4:f o≤83:=hl 0 (by simp);simp only [vQ,Ir];omega
  ·exact h2
end Bk
theorem Kk (l:List UInt8):Bk.Ir (Bk.nh l)≤84:=by
 obtain ⟨f,h⟩:=Bk.sS (Bk.aU l) 0 Bk.start Bk.DT;unfold Bk.nh Bk.cN Bk.run;generalize (Bk.lines (Bk.aU l) 0 Bk.start).ns=ns at h;cases ns with
 | nil=>simp [Bk.Ir,Bk.vQ]
 | cons x r =>
  simp only [List.getElem?_cons_zero,Nat.zero_add,List.drop_succ_cons,List.drop_zero,Bk.Ir];have:=Bk.uM f r 1 0 (fun j y p hj hp=>by have:=(h.up (j+1) y p (by simpa using hj) hp).2;rwa [Nat.add_comm j 1] at this) (fun j hj=>by have:=h.all (j+1) (by simpa using hj);rwa [Nat.add_comm j 1] at this);omega
end Go.Proofs.YtddkjkockbcamaaGreatDoor
namespace Go.Proofs.YtddkjkockbcamaaGreatDoor
open Go.RowKit
attribute [local go_sem] aD av aq
mutual
def Bk.tx (N:Nat):Bk.Tree→Prop
 | .mk _ _ t _ _ ks=>t.length≤N∧Bk.TR N ks
def Bk.TR (N:Nat):List Bk.Tree→Prop
 | []=>True
 | x::r=>Bk.tx N x∧Bk.TR N r
end
theorem rj (N:Nat):∀ (r:List Bk.Nd) (o i:Nat),(∀ x∈r,x.text.length≤N)→Bk.TR N (Bk.bT r o i)
 | [],o,i,_=>by simp [Bk.bT,Bk.TR]
 | x::r,o,i,h=>by
  have h1:=rj N r (o+1) o (fun y hy=>h y (by simp [hy]));have h2:=rj N r (o+1) i (fun y hy=>h y (by simp [hy]));unfold Bk.bT
  split
  ·simp only [Bk.TR,Bk.tx]
   exact ⟨⟨h x (by simp),h1⟩,h2⟩
  ·exact h2
theorem P7 (N:Nat) (ns:List Bk.Nd) (h:∀ x∈ns,x.text.length≤N):Bk.tx N (Bk.cN ns 0):=by
 unfold Bk.cN;cases ns with
 | nil=>simp [Bk.tx,Bk.TR]
 | cons x r =>
  simp only [List.getElem?_cons_zero,Nat.zero_add,List.drop_succ_cons,List.drop_zero,Bk.tx];exact ⟨h x (by simp),rj N r 1 0 (fun y hy=>h y (by simp [hy]))⟩
theorem NF (l:List UInt8):Bk.tx 327680 (Bk.nh l):=P7 _ _ (fun _ hx=>Nat.le_trans (Zh hx) (Tl l))
theorem MP (l:List UInt8):Bk.tm (Bk.nh l)≤6900001:=Nat.le_trans (UP _) (by have:=Zo l;omega)
mutual
theorem wN:∀ (x:Bk.Tree),Bk.tx 327680 x→(Hm.blk (Hm.gQ x)).length≤6210*Bk.tm x
 | .mk k lv t i ln ks,h=>by
  simp only [Bk.tx] at h;have h1:=pE ks h.2;have h2:=Hm.r7 (t:=t) (by omega);have h3:=(Es.iY t).2;simp only [Bk.tm];unfold Hm.gQ Hm.blk
  repeat' split
  all_goals try simp only [Hm.tag,Hm.shut,Hm.fE,Hm.HG,Hm.HM,Hm.nP,Hm.nH,Hm.Hh,Hm.di,List.length_append,List.length_cons,List.length_nil]
  all_goals first | omega | (simp;done) | exact Nat.zero_le _
theorem pE:∀ (l:List Bk.Tree),Bk.TR 327680 l→(Hm.bL (Hm.iZ l)).length≤6210*Bk.HH l
 | [],_=>by simp [Hm.iZ,Hm.bL]
 | x::r,h=>by
  simp only [Bk.TR] at h;have h1:=wN x h.1;have h2:=pE r h.2;simp only [Hm.iZ,Hm.bL,Bk.HH,List.length_append];omega
end
def Hm.page (l:List UInt8):List UInt8:=Hm.blk (Hm.gQ (Bk.nh l))
end Go.Proofs.YtddkjkockbcamaaGreatDoor
namespace Go.Proofs.YtddkjkockbcamaaGreatDoor.Pg
open Go.Lib
structure St where
 t:List UInt8
 read:Nat
 full:Bool
def start:St:=⟨[],0,false⟩
def takes (n deep:Nat) (s:St):St:=⟨s.t,s.read+(1+n),((s.full||decide (65536<deep))||decide (2147483647<s.read+(1+n)))||decide (2147483647<s.t.length)⟩
def put (l:List UInt8) (s:St):St:=⟨s.t++l,s.read,s.full⟩
def own:Hm.Hi→Nat
 | .mk _ t d _=>t.length+d.length
mutual
def inl:Hm.Hi→Nat→St→St
 | .mk k t d ks,deep,s =>
  if k=0 then put (Es.page t) s
  else if k=1 then put (Hm.shut Hm.di) (put (Es.page t) (put (Hm.tag Hm.di) s))
  else if k=2 then put (Hm.shut Hm.HK) (dm ks (deep+1) (put (Hm.tag Hm.HK) s))
  else if k=3 then put (Hm.shut Hm.dN) (dm ks (deep+1) (put (Hm.tag Hm.dN) s))
  else if k=4 then put (Hm.shut [97]) (dm ks (deep+1) (put (Hm.anchor d) s))
  else if k=5 then put [10] s
  else s
def dm:List Hm.Hi→Nat→St→St
 | [],_,s=>s
 | x::r,deep,s=>if (takes (own x) deep s).full=true then takes (own x) deep s else dm r deep (inl x deep (takes (own x) deep s))
end
mutual
theorem GK:∀ (x:Hm.Hi) (deep:Nat) (s:St),∃ P,(inl x deep s).t=s.t++P∧P.length≤(Hm.inl x).length∧(inl x deep s).read+(1+own x)≤s.read+Hm.im x∧∀ r st,Hm.fS (P++r) st=Hm.fS r st
 | .mk k t d ks,deep,s=>by
  have hp:∀ b∈Es.page t,b≠60:=fun b hb=>(Es.xO t b hb).1;unfold inl Hm.inl;simp only [own,Hm.im]
  by_cases h0:k=0
  ·rw [if_pos h0,if_pos h0]
   exact ⟨Es.page t,rfl,Nat.le_refl _,by simp only [put];omega,fun r st=>Hm.cO _ _ _ hp⟩
  rw [if_neg h0,if_neg h0]
  by_cases h1:k=1
  ·rw [if_pos h1,if_pos h1]
   refine ⟨Hm.tag Hm.di++Es.page t++Hm.shut Hm.di,by simp only [put,List.append_assoc],Nat.le_refl _,by simp only [put];omega,fun r st=>?_⟩;rw [List.append_assoc,List.append_assoc,Hm.fH Hm.Dg,Hm.cO _ _ _ hp,Hm.eZ Hm.Dg]
  rw [if_neg h1,if_neg h1]
  by_cases h2:k=2
  ·rw [if_pos h2,if_pos h2]
   obtain ⟨P,e1,e2,e3,e4⟩:=eE ks (deep+1) (put (Hm.tag Hm.HK) s);refine ⟨Hm.tag Hm.HK++P++Hm.shut Hm.HK,?_,?_,?_,fun r st=>?_⟩
   ·simp only [put] at e1 ⊢;rw [e1];simp only [List.append_assoc]
   ·simp only [List.length_append];omega
   ·simp only [put] at e3 ⊢;omega
   ·rw [List.append_assoc,List.append_assoc,Hm.fH Hm.ab9,e4,Hm.eZ Hm.ab9]
  rw [if_neg h2,if_neg h2]
  by_cases h3:k=3
  ·rw [if_pos h3,if_pos h3]
   obtain ⟨P,e1,e2,e3,e4⟩:=eE ks (deep+1) (put (Hm.tag Hm.dN) s);refine ⟨Hm.tag Hm.dN++P++Hm.shut Hm.dN,?_,?_,?_,fun r st=>?_⟩
   ·simp only [put] at e1 ⊢;rw [e1];simp only [List.append_assoc]
   ·simp only [List.length_append];omega
   ·simp only [put] at e3 ⊢;omega
   ·rw [List.append_assoc,List.append_assoc,Hm.fH Hm.F9,e4,Hm.eZ Hm.F9]
  rw [if_neg h3,if_neg h3]
  by_cases h4:k=4
  ·rw [if_pos h4,if_pos h4]
   obtain ⟨P,e1,e2,e3,e4⟩:=eE ks (deep+1) (put (Hm.anchor d) s);refine ⟨Hm.anchor d++P++Hm.shut [97],?_,?_,?_,fun r st=>?_⟩
   ·simp only [put] at e1 ⊢;rw [e1];simp only [List.append_assoc]
   ·simp only [List.length_append];omega
   ·simp only [put] at e3 ⊢;omega
   ·rw [List.append_assoc,List.append_assoc,Hm.Ja,e4,Hm.eZ Hm.nmA]
  rw [if_neg h4,if_neg h4]
  by_cases h5:k=5
  ·rw [if_pos h5,if_pos h5]
   exact ⟨[10],rfl,Nat.le_refl _,by simp only [put];omega,fun r st=>Hm.cO _ _ _ (by decide)⟩
  rw [if_neg h5,if_neg h5];exact ⟨[],by simp,by simp,by omega,fun r st=>rfl⟩
theorem eE:∀ (l:List Hm.Hi) (deep:Nat) (s:St),∃ P,(dm l deep s).t=s.t++P∧P.length≤(Hm.dm l).length∧(dm l deep s).read≤s.read+Hm.Ni l∧∀ r st,Hm.fS (P++r) st=Hm.fS r st
 | [],_,s=>⟨[],by simp [dm],by simp,by simp [dm],fun r st=>rfl⟩
 | x::l,deep,s=>by
  unfold dm;simp only [Hm.dm,Hm.Ni,List.length_append];have hx:1+own x≤Hm.im x:=by obtain ⟨k,t,d,ks⟩:=x;simp only [own,Hm.im];omega
  split
  ·refine ⟨[],by simp [takes],by simp,by simp only [takes];omega,fun r st=>rfl⟩
  ·obtain ⟨P,e1,e2,e3,e4⟩:=GK x deep (takes (own x) deep s)
   obtain ⟨P2,f1,f2,f3,f4⟩:=eE l deep (inl x deep (takes (own x) deep s));refine ⟨P++P2,?_,?_,?_,fun r st=>?_⟩
   ·rw [f1,e1];simp [takes]
   ·rw [List.length_append];omega
   ·simp only [takes] at e3 f3;simp only [takes];omega
   ·rw [List.append_assoc,e4,f4]
end
theorem Q4 {n deep:Nat}{s:St}(h1:s.full=false) (h2:deep≤65536) (h3:s.read+(1+n)≤2147483647) (h4:s.t.length≤2147483647):takes n deep s=⟨s.t,s.read+(1+n),false⟩:=by
 unfold takes;rw [h1,decide_eq_false (by omega:¬ 65536<deep),decide_eq_false (by omega:¬ 2147483647<s.read+(1+n)),decide_eq_false (by omega:¬ 2147483647<s.t.length)]
 rfl
mutual
theorem abS:∀ x:Il.In,Hm.im (Hm.C1 x)=Il.fV x
 | .mk _ _ _ ks=>by simp only [Hm.C1,Hm.im,Il.fV];rw [IL ks]
theorem IL:∀ l:List Il.In,Hm.Ni (Hm.gu l)=Il.bq l
 | []=>rfl
 | x::r=>by simp only [Hm.gu,Hm.Ni,Il.bq];rw [abS x,IL r]
end
def para (t:List UInt8):List UInt8:=(dm (Hm.gu (Il.parse t)) 1 start).t
theorem Gz (t r:List UInt8) (st:List (List UInt8)):Hm.fS (para t++r) st=Hm.fS r st:=by
 obtain ⟨P,e1,_,_,e4⟩:=eE (Hm.gu (Il.parse t)) 1 start;unfold para;rw [e1];exact e4 r st
theorem r7 {t:List UInt8}(h:t.length≤4000000):(para t).length≤210*t.length:=by
 obtain ⟨P,e1,e2,_,_⟩:=eE (Hm.gu (Il.parse t)) 1 start;have h2:=Hm.B4 h;unfold para;unfold Hm.para at h2;rw [e1];simp only [start,List.nil_append];omega
mutual
def blk:Hm.Hb→List UInt8
 | .mk k lv t _ _ ks =>
  if k=0 then bL ks
  else if k=1 then Hm.tag Hm.fE++[10]++bL ks++Hm.shut Hm.fE++[10]
  else if k=2 then Hm.tag Hm.HG++[10]++bL ks++Hm.shut Hm.HG++[10]
  else if k=3 then Hm.tag Hm.HM++[10]++bL ks++Hm.shut Hm.HM++[10]
  else if k=4 then Hm.tag Hm.nP++para t++Hm.shut Hm.nP++[10]
  else if k=5 then Hm.tag (Hm.nH lv)++para t++Hm.shut (Hm.nH lv)++[10]
  else if k=6 then [60,104,114,32,47,62,10]
  else if k=7 then Hm.tag Hm.Hh++Hm.tag Hm.di++Es.page t++Hm.shut Hm.di++Hm.shut Hm.Hh++[10]
  else []
def bL:List Hm.Hb→List UInt8
 | []=>[]
 | x::r=>blk x++bL r
end
theorem o6:∀ a b,bL (a++b)=bL a++bL b
 | [],b=>by simp [bL]
 | x::r,b=>by rw [List.cons_append];simp only [bL];rw [o6 r b,List.append_assoc]
theorem Ov (a:List Hm.Hb) (x:Hm.Hb):bL (a++[x])=bL a++blk x:=by rw [o6];simp [bL]
theorem Br {l:List Hm.Hb}{k:Nat}(h:k<l.length):bL (l.take (k+1))=bL (l.take k)++blk l[k]:=by rw [List.take_succ_eq_append_getElem h,Ov]
theorem NX (l:List Hm.Hb) (k:Nat):(bL (l.take k)).length≤(bL l).length:=by
 conv=>rhs;rw [← List.take_append_drop k l,o6,List.length_append]
 omega
theorem TO {l:List Hm.Hb}{k:Nat}(h:k<l.length):(blk l[k]).length+(bL (l.take k)).length≤(bL l).length:=by
 have:=NX l (k+1);rw [Br h,List.length_append] at this;omega
mutual
theorem LC:∀ (x:Hm.Hb) (r:List UInt8) (st:List (List UInt8)),Hm.fS (blk x++r) st=Hm.fS r st
 | .mk k lv t inf ln ks,r,st=>by
  have hp:∀ b∈Es.page t,b≠60:=fun b hb=>(Es.xO t b hb).1;have hn:∀ b∈([10]:List UInt8),b≠60:=by decide
  unfold blk
  by_cases h0:k=0
  ·rw [if_pos h0,oU ks]
  rw [if_neg h0]
  by_cases h1:k=1
  ·rw [if_pos h1];simp only [List.append_assoc];rw [Hm.fH Hm.KJ,Hm.cO _ _ _ hn,oU ks,Hm.eZ Hm.KJ,Hm.cO _ _ _ hn]
  rw [if_neg h1]
  by_cases h2:k=2
  ·rw [if_pos h2];simp only [List.append_assoc];rw [Hm.fH Hm.abl,Hm.cO _ _ _ hn,oU ks,Hm.eZ Hm.abl,Hm.cO _ _ _ hn]
  rw [if_neg h2]
  by_cases h3:k=3
  ·rw [if_pos h3];simp only [List.append_assoc];rw [Hm.fH Hm.abB,Hm.cO _ _ _ hn,oU ks,Hm.eZ Hm.abB,Hm.cO _ _ _ hn]
  rw [if_neg h3]
  by_cases h4:k=4
  ·rw [if_pos h4];simp only [List.append_assoc];rw [Hm.fH Hm.nmP,Gz,Hm.eZ Hm.nmP,Hm.cO _ _ _ hn]
  rw [if_neg h4]
  by_cases h5:k=5
  ·rw [if_pos h5];simp only [List.append_assoc];rw [Hm.fH (Hm.nmH lv),Gz,Hm.eZ (Hm.nmH lv),Hm.cO _ _ _ hn]
  rw [if_neg h5]
  by_cases h6:k=6
  ·rw [if_pos h6]
   show Hm.fS (60::([104,114,32,47]++62::(10::r))) st=_;rw [Hm.pY (Hm.jU [104,114,32,47] (10::r) (by decide))];show Hm.fS (10::r) st=_;exact Hm.ux (by decide) r st
  rw [if_neg h6]
  by_cases h7:k=7
  ·rw [if_pos h7];simp only [List.append_assoc];rw [Hm.fH Hm.Xc,Hm.fH Hm.Dg,Hm.cO _ _ _ hp,Hm.eZ Hm.Dg,Hm.eZ Hm.Xc,Hm.cO _ _ _ hn]
  rw [if_neg h7];rfl
theorem oU:∀ (l:List Hm.Hb) (r:List UInt8) (st:List (List UInt8)),Hm.fS (bL l++r) st=Hm.fS r st
 | [],_,_=>by simp [bL]
 | x::l,r,st=>by
  simp only [bL];rw [List.append_assoc,LC x,oU l]
end
theorem GY (x:Hm.Hb):Hm.fS (blk x) []=true:=by
 have:=LC x [] [];rw [List.append_nil] at this;rw [this];rfl
inductive ie (N:Nat):Hm.Hb→Prop where
 | mk {k lv:Int}{t inf:List UInt8}{ln:Int}{ks:List Hm.Hb}:t.length≤N→(∀ x∈ks,ie N x)→ie N (.mk k lv t inf ln ks)
theorem HD {N M:Nat}(h:N≤M):∀ {x:Hm.Hb},ie N x→ie M x:=by
 intro x hx
 induction hx with
 | mk h1 _ ih=>exact .mk (by omega) ih
mutual
def sZ:Hm.Hb→Nat
 | .mk _ _ _ _ _ ks=>vG ks+1
def vG:List Hm.Hb→Nat
 | []=>0
 | x::r=>max (sZ x) (vG r)
end
def VB:Hm.Hb→Nat
 | .mk _ _ t _ _ _=>t.length
mutual
def bn:Hm.Hb→Nat
 | .mk _ _ t _ _ ks=>t.length+1+tj ks
def tj:List Hm.Hb→Nat
 | []=>0
 | x::r=>bn x+tj r
end
mutual
theorem L1:∀ x:Bk.Tree,sZ (Hm.gQ x)=Bk.Ir x
 | .mk _ _ _ _ _ ks=>by simp only [Hm.gQ,sZ,Bk.Ir];rw [Gn ks]
theorem Gn:∀ l:List Bk.Tree,vG (Hm.iZ l)=Bk.vQ l
 | []=>rfl
 | x::r=>by simp only [Hm.iZ,vG,Bk.vQ];rw [L1 x,Gn r]
end
mutual
theorem Xx:∀ x:Bk.Tree,bn (Hm.gQ x)=Bk.tm x
 | .mk _ _ _ _ _ ks=>by simp only [Hm.gQ,bn,Bk.tm];rw [TE ks]
theorem TE:∀ l:List Bk.Tree,tj (Hm.iZ l)=Bk.HH l
 | []=>rfl
 | x::r=>by simp only [Hm.iZ,tj,Bk.HH];rw [Xx x,TE r]
end
mutual
theorem Gx (N:Nat):∀ x:Bk.Tree,Bk.tx N x→ie N (Hm.gQ x)
 | .mk _ _ _ _ _ ks,h=>by
  simp only [Bk.tx] at h;unfold Hm.gQ;exact .mk h.1 (Bu N ks h.2)
theorem Bu (N:Nat):∀ l:List Bk.Tree,Bk.TR N l→∀ y∈Hm.iZ l,ie N y
 | [],_=>by simp [Hm.iZ]
 | x::r,h=>by
  simp only [Bk.TR] at h;intro y hy;unfold Hm.iZ at hy;rcases List.mem_cons.1 hy with rfl | hy
  ·exact Gx N x h.1
  ·exact Bu N r h.2 y hy
end
mutual
theorem wN:∀ x:Hm.Hb,ie 4000000 x→(blk x).length≤210*bn x
 | .mk k lv t i ln ks,h=>by
  obtain ⟨g1,g2⟩:t.length≤4000000∧∀ x∈ks,ie 4000000 x:=by cases h with | mk a b=>exact ⟨a,b⟩
  have h1:=pE ks g2;have h2:=r7 (t:=t) g1;have h3:=(Es.iY t).2;simp only [bn];unfold blk
  repeat' split
  all_goals try simp only [Hm.tag,Hm.shut,Hm.fE,Hm.HG,Hm.HM,Hm.nP,Hm.nH,Hm.Hh,Hm.di,List.length_append,List.length_cons,List.length_nil]
  all_goals first | omega | (simp;done) | exact Nat.zero_le _
theorem pE:∀ l:List Hm.Hb,(∀ x∈l,ie 4000000 x)→(bL l).length≤210*tj l
 | [],_=>by simp [bL]
 | x::r,h=>by
  have h1:=wN x (h x (by simp));have h2:=pE r (fun y hy=>h y (by simp [hy]));simp only [bL,tj,List.length_append];omega
end
def page (l:List UInt8):List UInt8:=blk (Hm.gQ (Bk.nh l))
theorem zo (l:List UInt8):ie 327680 (Hm.gQ (Bk.nh l)):=Gx _ _ (NF l)
theorem Tq (l:List UInt8):Hm.fS (page l) []=true:=GY _
theorem LH (l:List UInt8):bn (Hm.gQ (Bk.nh l))≤6900001:=by rw [Xx];exact MP l
theorem iY (l:List UInt8):(page l).length≤1449000210:=by
 have h1:=wN _ (HD (by omega) (zo l));have h2:=LH l;unfold page;omega
end Go.Proofs.YtddkjkockbcamaaGreatDoor.Pg
namespace Go.Proofs.YtddkjkockbcamaaGreatDoor
open Go.RowKit
def Qg (B b:Nat) (p:Value) (l:List UInt8) (rd:Nat) (fu:Bool) (w:World):Prop :=
 B≤b∧∃ v,w.heap[b]? = some (.cells #[p,v,.int .i64 (rd:Int),.int .i64 2147483647,.bool fu] 56 (0,0))∧w.ownsRow B 5 1 v l.length (ai l)
def Xa (B b:Nat) (l:List UInt8) (rd:Nat) (fu:Bool) (w:World):Prop:=Qg B b (.pointer none) l rd fu w∨Qg B b (.pointer (some ⟨b,0,none⟩)) l rd fu w
def fy (B b:Nat) (s:Pg.St) (w:World):Prop:=Xa B b s.t s.read s.full w
theorem uY {w:World}{B size n g:Nat}{E:TypeId}{v:Value}{xs:List Value}(h:w.ownsRow B E size v n xs) (hv:v.ownBlock=some g):∃ cur fr,w.heap[g]? = some (.cells cur E fr):=by
 rcases h.2 with ⟨rfl,_⟩ | ⟨g',cap,cur,rfl,_,hg,_⟩
 ·cases hv
 ·simp [Value.ownBlock] at hv
  subst hv;exact ⟨_,_,hg⟩
section
variable {w w':World}{B b rd:Nat}{fu:Bool}{p:Value}{l:List UInt8}
theorem sr {v:Value}{xs:List Value}{n:Nat}{cs:Array Value}(hb:w.heap[b]? = some (.cells cs 56 (0,0))) (h:w.ownsRow B 5 1 v n xs):v.ownBlock≠some b:=fun e=>by
 obtain ⟨cur,fr,hg⟩:=uY h e;rw [hb] at hg;injection hg with hg;injection hg with _ hg _;exact absurd hg (by decide)
theorem ZC:liesAt Tryz.prog Tryz.prog.depth 56 (5 / Tryz.prog.cellsOf 56) 0 54 1=true:=by kernel_rfl
theorem Q9 (b:Nat) (w:World) (h0:w.cell? ⟨b,0,none⟩=some (.pointer none)) (hsh:w.shape? b=some (56,5)) (hfz:w.frozen? ⟨b,0,none⟩=false) :
  Calls Tryz.prog 125 #[.pointer (some ⟨b,0,none⟩)] w fun e w'=>e=.returned (.tuple #[])∧w'=w.setCell ⟨b,0,none⟩ (.pointer (some ⟨b,0,none⟩)):=by
 obtain ⟨j,hj,hjs⟩:=Option.map_eq_some_iff.1 D2;go_enter Tryz.func125,Tryz.ntmps125;go_wp2;rw [Lib.run_to_unsafe w ⟨b,0,none⟩ Tryz.underlying52 Tryz.underlying209 hj (by rw [hjs];decide) hsh (Nat.zero_lt_succ 4)];simp only [Result.andThen];rw [Oper.upon_value];go_wp2;rw [run_callFunc_extern Tryz.func168 (by kernel_rfl) (by kernel_rfl) (by kernel_rfl) (e:=Extern.AbiNoEscape.same) (by kernel_rfl)];rw [Lib.run_noEscape];simp only [Result.andThen];rw [Oper.upon_value];go_wp2;rw [Lib.run_from_unsafe w ⟨b,0,none⟩ Tryz.underlying209 Tryz.underlying52 hj hsh ZC];simp only [Result.andThen];rw [Oper.upon_value];go_wp2;go_end0;exact ⟨rfl,rfl⟩
theorem RR (h:Xa B b l rd fu w) :
  Calls Tryz.prog 125 #[.pointer (some ⟨b,0,none⟩)] w fun e w'=>e=.returned (.tuple #[])∧(Qg B b (.pointer (some ⟨b,0,none⟩)) l rd fu w'∧Below B w w'∧Lib.OthersKept 5 (some b) w w'):=by
 rcases h with ⟨hB,v,hb,ho⟩ | h
 ·refine (Q9 b w (ah hb 0) (by simp [World.shape?,hb]) (bf hb 0)).mono ?_
  rintro e w' ⟨rfl,rfl⟩;exact ⟨rfl,⟨hB,v,heap_setCell_same w b 0 _ _ _ hb,World.ownsRow.kept ho (ay w ⟨b,0,none⟩ _) (.inr (sr hb ho))⟩,(Below.refl B w).setCell (p:=⟨b,0,none⟩) hB _,(Lib.OthersKept.refl _ _ w).setCell ⟨b,0,none⟩ rfl _⟩
 ·have hc:w.cell? ⟨b,0,none⟩=some (.pointer (some ⟨b,0,none⟩)):=by obtain ⟨_,v,hb,_⟩:=h;exact ah hb 0
  refine (zn b w hc).mono ?_;rintro e w' ⟨rfl,rfl⟩;exact ⟨rfl,h,Below.refl B _,Lib.OthersKept.refl _ _ _⟩
theorem YJ {v v':Value}{l':List UInt8}(hB:B≤b) (hb:w.heap[b]? = some (.cells #[p,v,.int .i64 (rd:Int),.int .i64 2147483647,.bool fu] 56 (0,0))) (ho:w.ownsRow B 5 1 v' l'.length (ai l')):Qg B b p l' rd fu (w.setCell ⟨b,1,none⟩ v') :=
 ⟨hB,v',heap_setCell_same w b 1 #[p,v,.int .i64 (rd:Int),.int .i64 2147483647,.bool fu] _ v' hb,World.ownsRow.kept ho (ay w ⟨b,1,none⟩ _) (.inr (sr hb ho))⟩
theorem Y1 (h:Xa B b l rd fu w) (t:List UInt8) (hlen:l.length+t.length≤1000000000000) (hBw:B≤w.heap.size) :
  Calls Tryz.prog 98 #[.pointer (some ⟨b,0,none⟩),.string (bs t)] w fun e w'=>(∃ v,e=.returned v)∧(Xa B b (l++t) rd fu w'∧Below B w w'∧Lib.OthersKept 5 (some b) w w'):=by
 have hsz:=au t;go_enter Tryz.func98,Tryz.ntmps98;go_wp2_with (go_at_call 125;refine (RR h).mono ?_);rintro e w1 ⟨rfl,h1,hb1,jq⟩;obtain ⟨hB,v,hbk,hown⟩:=h1;have c0:w1.cell? ⟨b,0,none⟩=some (.pointer (some ⟨b,0,none⟩)):=ah hbk 0;have c1:w1.cell? ⟨b,1,none⟩=some v:=ah hbk 1;have hne:=sr hbk hown;have hB1:=Nat.le_trans hBw hb1.size;have hlt:b<w1.heap.size:=(Array.getElem?_eq_some_iff.1 hbk).1;go_wp2_with (at_builtin;refine eD rfl _ _ rfl nG (by kernel_rfl) Tryz.underlying9 rfl hown rfl (by omega) hB1 ?_);intro v' w2 ho hg kr;have hb2:=(hg.out.block b hlt (fun e=>hne e.symm)).trans hbk;have d0:w2.cell? ⟨b,0,none⟩=some (.pointer (some ⟨b,0,none⟩)):=ah hb2 0;have d1:w2.cell? ⟨b,1,none⟩=some v:=ah hb2 1;have f1:w2.frozen? ⟨b,1,none⟩=false:=bf hb2 1;obtain ⟨A',cp,rfl,XL⟩:=ak ho;have hgr:=Lib.hid hg.out;have aP:=YJ (l':=l++t) hB hb2 (by rw [List.length_append];exact ho);replace aP:=Lib.hid aP;have hown':=Lib.hid hown;clear ho hg hown;go_wp2;go_ret2;exact ⟨⟨_,rfl⟩,Or.inr aP.out,(hb1.trans kr).setCell (p:=⟨b,1,none⟩) hB _,(jq.grown hgr.out (Lib.ownsRowF_kind (World.ownsRowF_of hown'.out))).setCell ⟨b,1,none⟩ rfl _⟩
end
theorem K7 {B b g0:Nat}{w:World}(p:Value) (r1 r2 r3:Value) (A:Option Addr) (c:Nat) (hBw:B≤w.heap.size) (hbk:w.heap[b]? = some (.cells #[p,.slice A 0 c,r1,r2,r3] 56 (0,0))) (hA:A=none∧c=0∨∃ g cur,A=some ⟨g,0,none⟩∧w.heap[g]? = some (.cells cur 5 (0,0))) (_:g0=0) :
  Calls Tryz.prog 27 #[.pointer (some ⟨b,0,none⟩)] w fun e w'=>e=.returned (.string ⟨#[]⟩)∧Below B w w':=by
 have mixed:Tryz.prog.follows .mixedOrders=true:=by kernel_rfl
 have hUS:=fun (W:World) (q:Option Addr)=>Lib.run_unsafeString_none (P:=Tryz.prog) W 90 3 9 q;have hlt:b<w.heap.size:=(Array.getElem?_eq_some_iff.1 hbk).1;have c1:w.drew.cell? ⟨b,1,none⟩=some (.slice A 0 c):=ah (w1:=w.drew) hbk 1;rcases hA with ⟨rfl,rfl⟩ | ⟨g,cur,rfl,hg⟩
 ·have hSD:(Builtin.unsafeSliceData_ #[27] 90 #[.slice none 0 0]).run Tryz.prog w.drew=.ok (.pointer none) w.drew:=rfl
  go_enter Tryz.func27,Tryz.ntmps27;go_wp2
  go_region_o
  all_goals (go_wp2;go_ret;exact ⟨rfl,Below.drew (Below.refl B w)⟩)
 ·by_cases hc0:c=0
  ·subst hc0
   have hSD:(Builtin.unsafeSliceData_ #[27] 90 #[.slice (some ⟨g,0,none⟩) 0 0]).run Tryz.prog w.drew=.ok (.pointer (some ⟨w.drew.heap.size,0,none⟩)) (w.drew.alloc (.view ⟨g,0,none⟩ 5)) :=
    Lib.run_unsafeSliceData_zero w.drew _ _ 5 Tryz.underlying90 ⟨g,0,none⟩ 0 (5,cur.size) (by have hg':w.drew.heap[g]? = some (.cells cur 5 (0,0)):=hg;simp [World.shape?,hg'])
   have c2:(w.drew.alloc (.view ⟨g,0,none⟩ 5)).cell? ⟨b,1,none⟩=some (.slice (some ⟨g,0,none⟩) 0 0):=by
    have:(w.drew.alloc (.view ⟨g,0,none⟩ 5)).heap[b]? = _:=(Lib.alloc_old w.drew _ b hlt).trans hbk;exact ah this 1
   have c3:(w.alloc (.view ⟨g,0,none⟩ 5)).drew.cell? ⟨b,1,none⟩=some (.slice (some ⟨g,0,none⟩) 0 0):=c2;have c0:w.cell? ⟨b,1,none⟩=some (.slice (some ⟨g,0,none⟩) 0 0):=c1;go_enter Tryz.func27,Tryz.ntmps27;go_wp2
   go_region_o
   all_goals (go_wp2;go_ret;exact ⟨rfl,(Below.drew (Below.refl B w)).alloc hBw _⟩)
  ·have hSD:(Builtin.unsafeSliceData_ #[27] 90 #[.slice (some ⟨g,0,none⟩) 0 c]).run Tryz.prog w.drew=.ok (.pointer (some ⟨g,0,none⟩)) w.drew :=
    Lib.run_unsafeSliceData_row _ _ _ _ _ _ hc0
   clear hc0;go_enter Tryz.func27,Tryz.ntmps27;go_wp2
   go_region_o
   all_goals (go_wp2;go_ret;exact ⟨rfl,Below.drew (Below.refl B w)⟩)
theorem WO {B b:Nat}{w:World}{p r1 r2 r3:Value}{l:List UInt8}{g cap:Nat}(_:B≤b) (h0:l≠[]) (hbk:w.heap[b]? = some (.cells #[p,.slice (some ⟨g,0,none⟩) l.length cap,r1,r2,r3] 56 (0,0))) (hown:w.ownsRow B 5 1 (.slice (some ⟨g,0,none⟩) l.length cap) l.length (ai l)) (hlen:l.length≤1000000000000) :
  Calls Tryz.prog 27 #[.pointer (some ⟨b,0,none⟩)] w fun e w'=>e=.returned (.string (bs l))∧Below B w w':=by
 have hl0:l.length≠0:=by simpa using h0
 obtain ⟨hBg,JZ⟩:=World.ownsRow.lt hown g rfl;obtain ⟨cur,fr,hg⟩:=uY hown rfl;have hcap:l.length≤cap∧l.length≤cur.size:=by
  rcases hown.2 with ⟨e,_⟩ | ⟨g',cap',cur',e,_,hg',h3,h4,h5,h6⟩
  ·cases e
  ·injection e with e1 e2 e3
   injection e1 with e1;injection e1 with e1;subst e1 e3;rw [hg] at hg';injection hg' with hg';injection hg' with hg' _ _;subst hg';omega
 have c1:w.drew.cell? ⟨b,1,none⟩=some (.slice (some ⟨g,0,none⟩) l.length cap):=ah (w1:=w.drew) hbk 1;have hSD:(Builtin.unsafeSliceData_ #[27] 90 #[.slice (some ⟨g,0,none⟩) l.length cap]).run Tryz.prog w.drew=.ok (.pointer (some ⟨g,0,none⟩)) w.drew :=
  Lib.run_unsafeSliceData_row _ _ _ _ _ _ (by omega)
 have hUS:(Builtin.unsafeString_ #[90,3] 9 #[.pointer (some ⟨g,0,none⟩),.int .i64 l.length]).run Tryz.prog w.drew=.ok (.string (bs l)) (w.drew.freeze ⟨g,0,none⟩ l.length):=by
  refine Lib.run_unsafeString_row w.drew 90 3 9 5 Tryz.underlying90 (by kernel_rfl) g cur.size (by have hg':w.drew.heap[g]? = some (.cells cur 5 fr):=hg;simp [World.shape?,hg']) l h0 hcap.2 (by omega) ?_;intro j x hx;exact World.ownsRow.cells hown (g:=g) rfl j (.int .u8 x.toNat) (by simp [ai,bv,hx])
 have mixed:Tryz.prog.follows .mixedOrders=true:=by kernel_rfl
 clear hl0 hcap;go_enter Tryz.func27,Tryz.ntmps27;go_wp2
 go_region_o
 all_goals (go_wp2;go_ret;exact ⟨rfl,Lib.below_freeze (Below.drew (Below.refl B w)) (p:=⟨g,0,none⟩) hBg _⟩)
theorem Bo {B b rd:Nat}{fu:Bool}{l:List UInt8}{w:World}(h:Xa B b l rd fu w) (hlen:l.length≤1000000000000) (hBw:B≤w.heap.size) :
  Calls Tryz.prog 27 #[.pointer (some ⟨b,0,none⟩)] w fun e w'=>e=.returned (.string (bs l))∧Below B w w':=by
 obtain ⟨p,hB,v,hbk,hown⟩:∃ p,Qg B b p l rd fu w:=by rcases h with h | h<;>exact ⟨_,h⟩
 by_cases h0:l=[]
 ·subst h0
  have ho:=hown;rcases hown.2 with ⟨rfl,_⟩ | ⟨g,cap,cur,rfl,_,hg,_⟩
  ·exact K7 (g0:=0) p _ _ _ none 0 hBw hbk (.inl ⟨rfl,rfl⟩) rfl
  ·exact K7 (g0:=0) p _ _ _ (some ⟨g,0,none⟩) cap hBw hbk (.inr ⟨g,cur,rfl,hg⟩) rfl
 ·obtain ⟨g,cp,rfl,_,_,_⟩:=gU hown (List.length_pos_iff.2 h0)
  exact WO hB h0 hbk hown hlen
end Go.Proofs.YtddkjkockbcamaaGreatDoor
namespace Go.Proofs.YtddkjkockbcamaaGreatDoor
open Go.RowKit
attribute [local go_sem] aD av aq
theorem nD {B b rd:Nat}{fu:Bool}{l:List UInt8}{w:World}(h:Xa B b l rd fu w):∃ p v,(p=.pointer none∨p=.pointer (some ⟨b,0,none⟩))∧B≤b∧w.heap[b]? = some (.cells #[p,v,.int .i64 (rd:Int),.int .i64 2147483647,.bool fu] 56 (0,0))∧w.ownsRow B 5 1 v l.length (ai l):=by
 rcases h with ⟨hB,v,hb,ho⟩ | ⟨hB,v,hb,ho⟩
 ·exact ⟨_,v,.inl rfl,hB,hb,ho⟩
 ·exact ⟨_,v,.inr rfl,hB,hb,ho⟩
theorem vE {B b rd:Nat}{fu:Bool}{l:List UInt8}{w:World}{p v:Value}(hp:p=.pointer none∨p=.pointer (some ⟨b,0,none⟩)) (hB:B≤b) (hb:w.heap[b]? = some (.cells #[p,v,.int .i64 (rd:Int),.int .i64 2147483647,.bool fu] 56 (0,0))) (ho:w.ownsRow B 5 1 v l.length (ai l)):Xa B b l rd fu w:=by
 rcases hp with rfl | rfl
 ·exact .inl ⟨hB,v,hb,ho⟩
 ·exact .inr ⟨hB,v,hb,ho⟩
theorem fq (w:World) (a:Addr) (k:Nat) (u:Value) (h:k≠a.block):(w.setCell a u).heap[k]? = w.heap[k]? := Below.heap_setCell w a u k h
def PgS (b:Nat) (p:Value) (A:Option Addr) (n c rd:Nat) (u:World):Prop:=∃ y:Bool,u.heap[b]? = some (.cells #[p,.slice A n c,.int .i64 (rd:Int),.int .i64 2147483647,.bool y] 56 (0,0))
theorem lI {P:Program}{ev:Operand→Value}{T:TypeId}{p x:Operand}{o:Oper}{w:World}{g off:Nat}{y:Bool}{z0:Value}(ho:o.op=.store T p x) (hsz:(sizeOf T).run P w=.ok 1 w) (hp:ev p=.pointer (some ⟨g,off,none⟩)) (hx:ev x=.bool y)
  (h0:w.cell? ⟨g,off,none⟩=some z0) (hf:∀ j,w.frozen? ⟨g,j,none⟩=false) :
  (execOp ev o).run P w=.ok .skip (w.setCell ⟨g,off,none⟩ (.bool y)):=by
 unfold execOp;rw [ho];go_simp
theorem ZU {B b rd:Nat}{fu:Bool}{l:List UInt8}{w:World}(h:Xa B b l rd fu w) (_:l.length≤1000000000000) :
  Calls Tryz.prog 58 #[.pointer (some ⟨b,0,none⟩)] w fun e w'=>e=.returned (.int .i64 (l.length:Int))∧w'=w:=by
 obtain ⟨p,v,_,_,hb,ho⟩:=nD h;obtain ⟨A,c,rfl,hc⟩:=ak ho;have c1:w.cell? ⟨b,1,none⟩=some (.slice A l.length c):=ah hb 1;clear h hb ho;go_enter Tryz.func58,Tryz.ntmps58;go_wp2;go_ret;exact ⟨rfl,rfl⟩
theorem Gk {B b:Nat}{s:Pg.St}{w:World}(h:fy B b s w) (n deep:Nat) {x:Int}(hx:x=(n:Int)) (hn:n≤1000000000000) (hd:deep≤1000000000000) (hr:s.read≤1000000000000) (hl:s.t.length≤1000000000000) :
  Calls Tryz.prog 43 #[.pointer (some ⟨b,0,none⟩),.int .i64 x,.int .i64 (deep:Int)] w fun e w'=>e=.returned (.bool (!(Pg.takes n deep s).full))∧fy B b (Pg.takes n deep s) w'∧Below B w w'∧∀ g,g≠b→w'.heap[g]? = w.heap[g]? := by
 subst hx;obtain ⟨l,rd,fu⟩:=s;simp only at hr hl;unfold fy at h ⊢;simp only at h;obtain ⟨p,v,hp,hB,hb,ho⟩:=nD h;obtain ⟨A,c,rfl,hc⟩:=ak ho;have z2:w.cell? ⟨b,2,none⟩=some (.int .i64 (rd:Int)):=ah hb 2;have f2:w.frozen? ⟨b,2,none⟩=false:=bf hb 2;obtain ⟨rd2,hrd⟩:∃ rd2,rd2=rd+(1+n):=⟨_,rfl⟩
 have agr:rd2≤3000000000000:=by omega
 have hri:(rd:Int)+(1+(n:Int))=(rd2:Int):=by omega
 unfold Pg.takes;simp only;rw [← hrd];obtain ⟨F,hF⟩:∃ F,F=(((fu||decide (65536<deep))||decide (2147483647<rd2))||decide (2147483647<l.length)):=⟨_,rfl⟩
 rw [← hF];replace hF:=Lib.hid hF;have aeq:∃ w1,w1=w.setCell ⟨b,2,none⟩ (.int .i64 (rd2:Int)):=⟨_,rfl⟩
 obtain ⟨w1,hw1⟩:=aeq;have ow:w1.heap[b]? = some (.cells #[p,.slice A l.length c,.int .i64 (rd2:Int),.int .i64 2147483647,.bool fu] 56 (0,0)):=by rw [hw1];exact heap_setCell_same w b 2 _ _ _ hb
 have hb1:w1.drew.heap[b]? = some (.cells #[p,.slice A l.length c,.int .i64 (rd2:Int),.int .i64 2147483647,.bool fu] 56 (0,0)):=ow;have ho1:w1.drew.ownsRow B 5 1 (.slice A l.length c) l.length (ai l):=by
  have h9:w1.ownsRow B 5 1 (.slice A l.length c) l.length (ai l):=by rw [hw1];exact World.ownsRow.kept ho (ay w ⟨b,2,none⟩ _) (.inr (sr hb ho))
  exact h9
 have nS:Below B w w1:=by rw [hw1];exact (Below.refl B w).setCell (p:=⟨b,2,none⟩) hB _
 have HJ:∀ g,g≠b→w1.heap[g]? = w.heap[g]? := by intro g hg;rw [hw1];exact fq w ⟨b,2,none⟩ g _ hg
 have hlen:=Lib.hid (ZU (vE hp hB hb1 ho1) hl);replace hrd:=Lib.hid hrd;clear h hb ho;go_enter Tryz.func43,Tryz.ntmps43;go_upto_region 2 with fail
 try rw [hri]
 rw [← hw1];clear hw1 z2 f2 hri;cases fu with
 | true =>
  obtain rfl:F=true:=by rw [hF.out];simp
  clear hF;refine aF (.rd 0 (.rd 1 (.rd 2 (.rd 3 (.mk 4 (.rd 5 (.rd 6 (.rd 7 (.rd 8 (.rd 9 (.rd 10 (.rd 11 (.rd 12 (.rd 13 (.rd 14 (.rd 15 (.rd 16 (.rd 17 (.rd 18 (.rd 19 (.rd 20 (.rd 21 (.rd 22 (.rd 23 (.rd 25 (.rd 26 (.rd 27 (.rd 28 (.mk 24 (.rd 29 (.rd 30 (.rd 31 (.rd 32 (.mk 33 .fin)))))))))))))))))))))))))))))))))) (PgS b p A l.length c rd2) ⟨_,hb1⟩ (by kernel_rfl) (by kernel_rfl) (by kernel_rfl) (fun _ _ d _ _ h=>by cases d<;>exact h) ?_;have z4:w1.drew.cell? ⟨b,4,none⟩=some (.bool true):=ah hb1 4
  iterate 4 (first | refine an rfl ?_ | (refine az rfl ?_;intro K hK;go_simp;refine hK _ _ _ ?_;clear hK K))
  refine aE rfl ?_;intro K hK;go_simp;refine ⟨_,⟨_,hb1⟩,fun _ h=>h,hK _ _ _ ?_⟩;clear hK K
  iterate 23 (first | refine an rfl ?_ | (refine az rfl ?_;intro K hK;go_simp;refine hK _ _ _ ?_;clear hK K))
  refine aE rfl ?_;intro K hK;go_simp;refine hK _ _ _ ?_;clear hK K
  iterate 4 (first | refine an rfl ?_ | (refine az rfl ?_;intro K hK;go_simp;refine hK _ _ _ ?_;clear hK K))
  refine bw rfl rfl (lI (y:=true) rfl (by kernel_rfl) rfl rfl (ah hb1 4) (fun j=>bf hb1 j)) ⟨true,heap_setCell_same _ b 4 _ _ _ hb1⟩ ?_;refine aQ ?_;have hb2:=heap_setCell_same w1.drew b 4 _ _ (.bool true) hb1;have ho2:=World.ownsRow.kept ho1 (ay w1.drew ⟨b,4,none⟩ (.bool true)) (.inr (sr hb1 ho1));have jb:=(nS.drew).setCell (p:=⟨b,4,none⟩) hB (.bool true);have jE:∀ g,g≠b→(w1.drew.setCell ⟨b,4,none⟩ (.bool true)).heap[g]? = w.heap[g]? := fun g hg=>(fq _ ⟨b,4,none⟩ g _ hg).trans (HJ g hg);generalize w1.drew.setCell ⟨b,4,none⟩ (.bool true)=W5 at hb2 ho2 jb jE ⊢;have c4:W5.cell? ⟨b,4,none⟩=some (.bool true):=ah hb2 4;have aP:=Lib.hid (vE hp hB hb2 ho2);replace jb:=Lib.hid jb;replace jE:=Lib.hid jE;clear hlen nS HJ hb1 ho1 hb2 ho2 z4;go_wp2_with fail;go_ret;exact ⟨rfl,aP.out,jb.out,jE.out⟩
 | false =>
  by_cases h1:65536<deep
  ·have t1:(65536:Int)<(deep:Int):=by omega
   obtain rfl:F=true:=by rw [hF.out,decide_eq_true h1];simp
   clear hF;refine aF (.rd 0 (.rd 1 (.rd 2 (.rd 3 (.mk 4 (.rd 5 (.rd 6 (.rd 7 (.rd 8 (.rd 9 (.rd 10 (.rd 11 (.rd 12 (.rd 13 (.rd 14 (.rd 15 (.rd 16 (.rd 17 (.rd 18 (.rd 19 (.rd 20 (.rd 21 (.rd 22 (.rd 23 (.rd 25 (.rd 26 (.rd 27 (.rd 28 (.mk 24 (.rd 29 (.rd 30 (.rd 31 (.rd 32 (.mk 33 .fin)))))))))))))))))))))))))))))))))) (PgS b p A l.length c rd2) ⟨_,hb1⟩ (by kernel_rfl) (by kernel_rfl) (by kernel_rfl) (fun _ _ d _ _ h=>by cases d<;>exact h) ?_;have z4:w1.drew.cell? ⟨b,4,none⟩=some (.bool false):=ah hb1 4
   iterate 4 (first | refine an rfl ?_ | (refine az rfl ?_;intro K hK;go_simp;refine hK _ _ _ ?_;clear hK K))
   refine aE rfl ?_;intro K hK;go_simp;refine ⟨_,⟨_,hb1⟩,fun _ h=>h,hK _ _ _ ?_⟩;clear hK K
   iterate 23 (first | refine an rfl ?_ | (refine az rfl ?_;intro K hK;go_simp;refine hK _ _ _ ?_;clear hK K))
   refine aE rfl ?_;intro K hK;go_simp;refine hK _ _ _ ?_;clear hK K
   iterate 4 (first | refine an rfl ?_ | (refine az rfl ?_;intro K hK;go_simp;refine hK _ _ _ ?_;clear hK K))
   refine bw rfl rfl (lI (y:=true) rfl (by kernel_rfl) rfl rfl (ah hb1 4) (fun j=>bf hb1 j)) ⟨true,heap_setCell_same _ b 4 _ _ _ hb1⟩ ?_;refine aQ ?_;have hb2:=heap_setCell_same w1.drew b 4 _ _ (.bool true) hb1;have ho2:=World.ownsRow.kept ho1 (ay w1.drew ⟨b,4,none⟩ (.bool true)) (.inr (sr hb1 ho1));have jb:=(nS.drew).setCell (p:=⟨b,4,none⟩) hB (.bool true);have jE:∀ g,g≠b→(w1.drew.setCell ⟨b,4,none⟩ (.bool true)).heap[g]? = w.heap[g]? := fun g hg=>(fq _ ⟨b,4,none⟩ g _ hg).trans (HJ g hg);generalize w1.drew.setCell ⟨b,4,none⟩ (.bool true)=W5 at hb2 ho2 jb jE ⊢;have c4:W5.cell? ⟨b,4,none⟩=some (.bool true):=ah hb2 4;have aP:=Lib.hid (vE hp hB hb2 ho2);replace jb:=Lib.hid jb;replace jE:=Lib.hid jE;clear hlen nS HJ hb1 ho1 hb2 ho2 z4;go_wp2_with fail;go_ret;exact ⟨rfl,aP.out,jb.out,jE.out⟩
  ·have t1:¬ (65536:Int)<(deep:Int):=by omega
   by_cases h2:2147483647<rd2
   ·have t2:(2147483647:Int)<(rd2:Int):=by omega
    obtain rfl:F=true:=by rw [hF.out,decide_eq_true h2];simp
    clear hF;refine aF (.rd 0 (.rd 1 (.rd 2 (.rd 3 (.mk 4 (.rd 5 (.rd 6 (.rd 7 (.rd 8 (.rd 9 (.rd 10 (.rd 11 (.rd 12 (.rd 13 (.rd 14 (.rd 15 (.rd 16 (.rd 17 (.rd 18 (.rd 19 (.rd 20 (.rd 21 (.rd 22 (.rd 23 (.rd 25 (.rd 26 (.rd 27 (.rd 28 (.mk 24 (.rd 29 (.rd 30 (.rd 31 (.rd 32 (.mk 33 .fin)))))))))))))))))))))))))))))))))) (PgS b p A l.length c rd2) ⟨_,hb1⟩ (by kernel_rfl) (by kernel_rfl) (by kernel_rfl) (fun _ _ d _ _ h=>by cases d<;>exact h) ?_;have z4:w1.drew.cell? ⟨b,4,none⟩=some (.bool false):=ah hb1 4
    iterate 4 (first | refine an rfl ?_ | (refine az rfl ?_;intro K hK;go_simp;refine hK _ _ _ ?_;clear hK K))
    refine aE rfl ?_;intro K hK;go_simp;refine ⟨_,⟨_,hb1⟩,fun _ h=>h,hK _ _ _ ?_⟩;clear hK K
    iterate 8 (first | refine an rfl ?_ | (refine az rfl ?_;intro K hK;go_simp;refine hK _ _ _ ?_;clear hK K))
    refine aJ (.int .i64 (rd2:Int)) rfl rfl ⟨_,hb1⟩ (fun u hu=>by obtain ⟨y,hu⟩:=hu;have u1:u.cell? ⟨b,2,none⟩=some (.int .i64 (rd2:Int)):=ah hu 2;go_simp) ?_
    iterate 3 (first | refine an rfl ?_ | (refine az rfl ?_;intro K hK;go_simp;refine hK _ _ _ ?_;clear hK K))
    refine aJ (.int .i64 2147483647) rfl rfl ⟨_,hb1⟩ (fun u hu=>by obtain ⟨y,hu⟩:=hu;have u1:u.cell? ⟨b,3,none⟩=some (.int .i64 2147483647):=ah hu 3;go_simp) ?_
    iterate 10 (first | refine an rfl ?_ | (refine az rfl ?_;intro K hK;go_simp;refine hK _ _ _ ?_;clear hK K))
    refine aE rfl ?_;intro K hK;go_simp;refine hK _ _ _ ?_;clear hK K
    iterate 4 (first | refine an rfl ?_ | (refine az rfl ?_;intro K hK;go_simp;refine hK _ _ _ ?_;clear hK K))
    refine bw rfl rfl (lI (y:=true) rfl (by kernel_rfl) rfl rfl (ah hb1 4) (fun j=>bf hb1 j)) ⟨true,heap_setCell_same _ b 4 _ _ _ hb1⟩ ?_;refine aQ ?_;have hb2:=heap_setCell_same w1.drew b 4 _ _ (.bool true) hb1;have ho2:=World.ownsRow.kept ho1 (ay w1.drew ⟨b,4,none⟩ (.bool true)) (.inr (sr hb1 ho1));have jb:=(nS.drew).setCell (p:=⟨b,4,none⟩) hB (.bool true);have jE:∀ g,g≠b→(w1.drew.setCell ⟨b,4,none⟩ (.bool true)).heap[g]? = w.heap[g]? := fun g hg=>(fq _ ⟨b,4,none⟩ g _ hg).trans (HJ g hg);generalize w1.drew.setCell ⟨b,4,none⟩ (.bool true)=W5 at hb2 ho2 jb jE ⊢;have c4:W5.cell? ⟨b,4,none⟩=some (.bool true):=ah hb2 4;have aP:=Lib.hid (vE hp hB hb2 ho2);replace jb:=Lib.hid jb;replace jE:=Lib.hid jE;clear hlen nS HJ hb1 ho1 hb2 ho2 z4;go_wp2_with fail;go_ret;exact ⟨rfl,aP.out,jb.out,jE.out⟩
   ·have t2:¬ (2147483647:Int)<(rd2:Int):=by omega
    by_cases h3:2147483647<l.length
    ·have t3:(2147483647:Int)<(l.length:Int):=by omega
     obtain rfl:F=true:=by rw [hF.out,decide_eq_true h3];simp
     clear hF;refine aF (.rd 0 (.rd 1 (.rd 2 (.rd 3 (.mk 4 (.rd 5 (.rd 6 (.rd 7 (.rd 8 (.rd 9 (.rd 10 (.rd 11 (.rd 12 (.rd 13 (.rd 14 (.rd 15 (.rd 16 (.rd 17 (.rd 18 (.rd 19 (.rd 20 (.rd 21 (.rd 22 (.rd 23 (.rd 25 (.rd 26 (.rd 27 (.rd 28 (.mk 24 (.rd 29 (.rd 30 (.rd 31 (.rd 32 (.mk 33 .fin)))))))))))))))))))))))))))))))))) (PgS b p A l.length c rd2) ⟨_,hb1⟩ (by kernel_rfl) (by kernel_rfl) (by kernel_rfl) (fun _ _ d _ _ h=>by cases d<;>exact h) ?_;have z4:w1.drew.cell? ⟨b,4,none⟩=some (.bool false):=ah hb1 4
     iterate 4 (first | refine an rfl ?_ | (refine az rfl ?_;intro K hK;go_simp;refine hK _ _ _ ?_;clear hK K))
     refine aE rfl ?_;intro K hK;go_simp;refine ⟨_,⟨_,hb1⟩,fun _ h=>h,hK _ _ _ ?_⟩;clear hK K
     iterate 8 (first | refine an rfl ?_ | (refine az rfl ?_;intro K hK;go_simp;refine hK _ _ _ ?_;clear hK K))
     refine aJ (.int .i64 (rd2:Int)) rfl rfl ⟨_,hb1⟩ (fun u hu=>by obtain ⟨y,hu⟩:=hu;have u1:u.cell? ⟨b,2,none⟩=some (.int .i64 (rd2:Int)):=ah hu 2;go_simp) ?_
     iterate 3 (first | refine an rfl ?_ | (refine az rfl ?_;intro K hK;go_simp;refine hK _ _ _ ?_;clear hK K))
     refine aJ (.int .i64 2147483647) rfl rfl ⟨_,hb1⟩ (fun u hu=>by obtain ⟨y,hu⟩:=hu;have u1:u.cell? ⟨b,3,none⟩=some (.int .i64 2147483647):=ah hu 3;go_simp) ?_
     iterate 9 (first | refine an rfl ?_ | (refine az rfl ?_;intro K hK;go_simp;refine hK _ _ _ ?_;clear hK K))
     refine aJ (.int .i64 2147483647) rfl rfl ⟨_,hb1⟩ (fun u hu=>by obtain ⟨y,hu⟩:=hu;have u1:u.cell? ⟨b,3,none⟩=some (.int .i64 2147483647):=ah hu 3;go_simp) ?_;refine aE rfl ?_;intro K hK;go_simp;refine hlen.out.mono ?_;rintro e w7 ⟨rfl,rfl⟩;refine ⟨_,⟨_,hb1⟩,fun _ h=>h,hK _ _ _ ?_⟩;clear hK K
     iterate 4 (first | refine an rfl ?_ | (refine az rfl ?_;intro K hK;go_simp;refine hK _ _ _ ?_;clear hK K))
     refine bw rfl rfl (lI (y:=true) rfl (by kernel_rfl) rfl rfl (ah hb1 4) (fun j=>bf hb1 j)) ⟨true,heap_setCell_same _ b 4 _ _ _ hb1⟩ ?_;refine aQ ?_;have hb2:=heap_setCell_same w1.drew b 4 _ _ (.bool true) hb1;have ho2:=World.ownsRow.kept ho1 (ay w1.drew ⟨b,4,none⟩ (.bool true)) (.inr (sr hb1 ho1));have jb:=(nS.drew).setCell (p:=⟨b,4,none⟩) hB (.bool true);have jE:∀ g,g≠b→(w1.drew.setCell ⟨b,4,none⟩ (.bool true)).heap[g]? = w.heap[g]? := fun g hg=>(fq _ ⟨b,4,none⟩ g _ hg).trans (HJ g hg);generalize w1.drew.setCell ⟨b,4,none⟩ (.bool true)=W5 at hb2 ho2 jb jE ⊢;have c4:W5.cell? ⟨b,4,none⟩=some (.bool true):=ah hb2 4;have aP:=Lib.hid (vE hp hB hb2 ho2);replace jb:=Lib.hid jb;replace jE:=Lib.hid jE;clear hlen nS HJ hb1 ho1 hb2 ho2 z4;go_wp2_with fail;go_ret;exact ⟨rfl,aP.out,jb.out,jE.out⟩
    ·have t3:¬ (2147483647:Int)<(l.length:Int):=by omega
     obtain rfl:F=false:=by rw [hF.out,decide_eq_false h1,decide_eq_false h2,decide_eq_false h3];rfl
     clear hF;refine aF (.rd 0 (.rd 1 (.rd 2 (.rd 3 (.mk 4 (.rd 5 (.rd 6 (.rd 7 (.rd 8 (.rd 9 (.rd 10 (.rd 11 (.rd 12 (.rd 13 (.rd 14 (.rd 15 (.rd 16 (.rd 17 (.rd 18 (.rd 19 (.rd 20 (.rd 21 (.rd 22 (.rd 23 (.rd 25 (.rd 26 (.rd 27 (.rd 28 (.mk 24 (.rd 29 (.rd 30 (.rd 31 (.rd 32 (.mk 33 .fin)))))))))))))))))))))))))))))))))) (PgS b p A l.length c rd2) ⟨_,hb1⟩ (by kernel_rfl) (by kernel_rfl) (by kernel_rfl) (fun _ _ d _ _ h=>by cases d<;>exact h) ?_;have z4:w1.drew.cell? ⟨b,4,none⟩=some (.bool false):=ah hb1 4
     iterate 4 (first | refine an rfl ?_ | (refine az rfl ?_;intro K hK;go_simp;refine hK _ _ _ ?_;clear hK K))
     refine aE rfl ?_;intro K hK;go_simp;refine ⟨_,⟨_,hb1⟩,fun _ h=>h,hK _ _ _ ?_⟩;clear hK K
     iterate 8 (first | refine an rfl ?_ | (refine az rfl ?_;intro K hK;go_simp;refine hK _ _ _ ?_;clear hK K))
     refine aJ (.int .i64 (rd2:Int)) rfl rfl ⟨_,hb1⟩ (fun u hu=>by obtain ⟨y,hu⟩:=hu;have u1:u.cell? ⟨b,2,none⟩=some (.int .i64 (rd2:Int)):=ah hu 2;go_simp) ?_
     iterate 3 (first | refine an rfl ?_ | (refine az rfl ?_;intro K hK;go_simp;refine hK _ _ _ ?_;clear hK K))
     refine aJ (.int .i64 2147483647) rfl rfl ⟨_,hb1⟩ (fun u hu=>by obtain ⟨y,hu⟩:=hu;have u1:u.cell? ⟨b,3,none⟩=some (.int .i64 2147483647):=ah hu 3;go_simp) ?_
     iterate 9 (first | refine an rfl ?_ | (refine az rfl ?_;intro K hK;go_simp;refine hK _ _ _ ?_;clear hK K))
     refine aJ (.int .i64 2147483647) rfl rfl ⟨_,hb1⟩ (fun u hu=>by obtain ⟨y,hu⟩:=hu;have u1:u.cell? ⟨b,3,none⟩=some (.int .i64 2147483647):=ah hu 3;go_simp) ?_;refine aE rfl ?_;intro K hK;go_simp;refine hlen.out.mono ?_;rintro e w7 ⟨rfl,rfl⟩;refine ⟨_,⟨_,hb1⟩,fun _ h=>h,hK _ _ _ ?_⟩;clear hK K
     iterate 4 (first | refine an rfl ?_ | (refine az rfl ?_;intro K hK;go_simp;refine hK _ _ _ ?_;clear hK K))
     refine bw rfl rfl (lI (y:=false) rfl (by kernel_rfl) rfl rfl (ah hb1 4) (fun j=>bf hb1 j)) ⟨false,heap_setCell_same _ b 4 _ _ _ hb1⟩ ?_;refine aQ ?_;have hb2:=heap_setCell_same w1.drew b 4 _ _ (.bool false) hb1;have ho2:=World.ownsRow.kept ho1 (ay w1.drew ⟨b,4,none⟩ (.bool false)) (.inr (sr hb1 ho1));have jb:=(nS.drew).setCell (p:=⟨b,4,none⟩) hB (.bool false);have jE:∀ g,g≠b→(w1.drew.setCell ⟨b,4,none⟩ (.bool false)).heap[g]? = w.heap[g]? := fun g hg=>(fq _ ⟨b,4,none⟩ g _ hg).trans (HJ g hg);generalize w1.drew.setCell ⟨b,4,none⟩ (.bool false)=W5 at hb2 ho2 jb jE ⊢;have c4:W5.cell? ⟨b,4,none⟩=some (.bool false):=ah hb2 4;have aP:=Lib.hid (vE hp hB hb2 ho2);replace jb:=Lib.hid jb;replace jE:=Lib.hid jE;clear hlen nS HJ hb1 ho1 hb2 ho2 z4;go_wp2_with fail;go_ret;exact ⟨rfl,aP.out,jb.out,jE.out⟩
theorem qg {L:List (List UInt8)}{k:Nat}(h:k<L.length):(L.take (k+1)).flatten=(L.take k).flatten++L[k]:=by
 rw [List.take_succ_eq_append_getElem h,List.flatten_append];simp
theorem Nh (L:List (List UInt8)) (k:Nat):(L.take k).flatten.length≤L.flatten.length:=by
 conv=>rhs;rw [← List.take_append_drop k L,List.flatten_append,List.length_append]
 omega
theorem V0 (L:List (List UInt8)) {B b g:Nat}{s:Pg.St}{w:World}(h:fy B b s w) (hBw:B≤w.heap.size) (hgb:g≠b) (hg:w.heap[g]? = some (.cells (L.map fun t=>Value.string (bs t)).toArray 9 (0,0))) (hL:L.length≤1000) (hl:s.t.length+L.flatten.length≤1000000000000) {n c:Nat}(hn:n=L.length) :
  Calls Tryz.prog 62 #[.pointer (some ⟨b,0,none⟩),.slice (some ⟨g,0,none⟩) n c] w fun e w'=>e=.returned (.tuple #[])∧fy B b (Pg.put L.flatten s) w'∧Below B w w':=by
 subst hn;replace h:=Lib.hid h;replace hg:=Lib.hid hg;obtain ⟨T,hT⟩:∃ T,T=fy B b (Pg.put L.flatten s):=⟨_,rfl⟩
 rw [← hT];replace hT:=Lib.hid hT;go_enter Tryz.func62,Tryz.ntmps62;go_wp2_with fail
 go_loopw [8] (fun u wr=>∃ k:Nat,k≤L.length∧u=.int .i64 (k:Int)∧Hid (fy B b (Pg.put (L.take k).flatten s) wr)∧Hid (Below B w wr)∧Hid (wr.heap[g]? = some (.cells (L.map fun t=>Value.string (bs t)).toArray 9 (0,0)))) (fun u _=>L.length-(intOf u).toNat)
 case atStart=>exact ⟨0,by omega,rfl,Lib.hid (by simpa [Pg.put] using h.out),Lib.hid (Below.refl _ _),hg⟩
 case round =>
  obtain ⟨k,hk,rfl,hP,hb,hgk⟩:=hrel;rcases Nat.lt_or_eq_of_le hk with hlt | Au
  ·have x0:wr.cell? ⟨g,k,none⟩=some (.string (bs L[k])):=by
    have:=ah hgk.out k;simpa [hlt] using this
   have hst:=qg hlt;have HI:=Nh L (k+1);rw [hst,List.length_append] at HI;have wF:=Nat.le_trans hBw hb.out.size;have aH:=Y1 (l:=(Pg.put (L.take k).flatten s).t) hP.out L[k] (by simp only [Pg.put,List.length_append];omega) wF;replace aH:=Lib.hid aH;have hsz:=au L[k];obtain ⟨X,hX⟩:∃ X,X=L[k]:=⟨_,rfl⟩
   rw [← hX] at x0 hst aH hsz;clear hP HI hX;go_wp2_with fail;refine aH.out.mono ?_;rintro e w5 ⟨⟨v5,rfl⟩,hP5,hb5,hk5⟩;have zS:=hk5 g _ hgk.out (fun e=>hgb (Option.some.inj e)) (by intro c fz e;injection e with _ e _;exact absurd e (by decide));have Tg:Hid (fy B b (Pg.put (L.take (k+1)).flatten s) w5):=Lib.hid (by rw [hst];unfold fy;simpa only [Pg.put,List.append_assoc] using hP5);have jQ:=Lib.hid (hb.out.trans hb5);clear hP5 hb5 hk5;go_wp2_with fail
   go_roundw
   case rel=>exact ⟨k+1,by omega,by go_num,Tg,jQ,Lib.hid zS⟩
   case measure=>simp [intOf];omega
  ·subst Au
   have Tg:Hid (T wr):=Lib.hid (by rw [hT.out];have:=hP.out;rwa [List.take_length] at this);go_wp2_with fail;go_end0;exact ⟨rfl,Tg.out,hb.out⟩
theorem bY (L:List (List UInt8)) (cs:Array Value) (hcs:cs=(L.map fun t=>Value.string (bs t)).toArray) {B b:Nat}{s:Pg.St}{w:World}(h:fy B b s w) (hBw:B≤w.heap.size) (hL:L.length≤1000) (hl:s.t.length+L.flatten.length≤1000000000000) {n c:Nat}(hn:n=L.length) :
  Calls Tryz.prog 62 #[.pointer (some ⟨b,0,none⟩),.slice (some ⟨w.heap.size,0,none⟩) n c] (w.alloc (.cells cs 9)) fun e w'=>e=.returned (.tuple #[])∧fy B b (Pg.put L.flatten s) w'∧Below B w w':=by
 have hbl:b<w.heap.size:=by
  unfold fy at h;obtain ⟨_,_,_,_,hb,_⟩:=nD h;exact (Array.getElem?_eq_some_iff.1 hb).1
 have hba:Below w.heap.size w (w.alloc (.cells cs 9)):=aa _ _;have hP:fy B b s (w.alloc (.cells cs 9)):=by
  unfold fy at h ⊢;obtain ⟨p,v,hp,hB,hb,ho⟩:=nD h;exact vE hp hB (keep hb hba).1 (bX ho hba)
 refine (V0 L hP (Nat.le_trans hBw hba.size) (by omega) (by rw [heap_alloc_new,hcs]) hL hl hn).mono ?_;rintro e w' ⟨rfl,h1,h2⟩;exact ⟨rfl,h1,(hba.mono hBw).trans h2⟩
theorem Bm (n:List UInt8) (hn:n.length≤100) {B b:Nat}{s S2:Pg.St}{w:World}(h:fy B b s w) (hBw:B≤w.heap.size) (A2:Option Addr) (k2 c2 deep:Nat) (hd:deep≤1000000) (hl:s.t.length+1000≤1000000000000) (hl2:S2.t.length+1000≤1000000000000)
  (hin:∀ w',fy B b (Pg.put (Hm.tag n) s) w'→Below B w w'→Calls Tryz.prog 32 #[.pointer (some ⟨b,0,none⟩),.slice A2 k2 c2,.int .i64 ((deep+1:Nat):Int)] w' fun e w''=>e=.returned (.tuple #[])∧fy B b S2 w''∧Below B w' w'') :
  Calls Tryz.prog 74 #[.pointer (some ⟨b,0,none⟩),.string (bs n),.slice A2 k2 c2,.int .i64 (deep:Int)] w fun e w'=>e=.returned (.tuple #[])∧fy B b (Pg.put (Hm.shut n) S2) w'∧Below B w w':=by
 have e1:[[60],n,[62]].flatten=Hm.tag n:=by simp [Hm.tag]
 have e2:[[60,47],n,[62]].flatten=Hm.shut n:=by simp [Hm.shut]
 have t1:(Hm.tag n).length=n.length+2:=by simp [Hm.tag]
 have t2:(Hm.shut n).length=n.length+3:=by simp [Hm.shut]
 have q1:=bY [[60],n,[62]] #[.string ⟨#[60]⟩,.string (bs n),.string ⟨#[62]⟩] rfl h hBw (by simp) (by rw [e1,t1];omega) (n:=3) (c:=3) rfl;have q2:=fun (w':World) (h':fy B b S2 w') (VI:B≤w'.heap.size)=>bY [[60,47],n,[62]] #[.string ⟨#[60,47]⟩,.string (bs n),.string ⟨#[62]⟩] rfl h' VI (by simp) (by rw [e2,t2];omega) (n:=3) (c:=3) rfl;rw [e1] at q1;simp only [e2] at q2;replace q1:=Lib.hid q1;replace q2:=Lib.hid q2;replace hin:=Lib.hid hin;clear h e1 e2 t1 t2;go_enter Tryz.func74,Tryz.ntmps74;go_wp2_with fail;refine q1.out.mono ?_;rintro e w1 ⟨rfl,h1,hb1⟩;have q3:=hin.out w1 h1 hb1;rw [show ((deep+1:Nat):Int)=(deep:Int)+1 from by omega] at q3;replace q3:=Lib.hid q3;replace hb1:=Lib.hid hb1;clear h1 q1 hin;go_wp2_with fail;refine q3.out.mono ?_;rintro e w2 ⟨rfl,h2,hb2⟩;have q4:=Lib.hid (q2.out w2 h2 (Nat.le_trans hBw (hb1.out.trans hb2).size));have hb3:=Lib.hid (hb1.out.trans hb2);clear h2 hb2 q2 q3;go_wp2_with fail;refine q4.out.mono ?_;rintro e w3 ⟨rfl,h3,hb4⟩;have hb5:=Lib.hid (hb3.out.trans hb4);replace h3:=Lib.hid h3;clear hb4 q4;go_wp2_with fail;go_end0;exact ⟨rfl,h3.out,hb5.out⟩
theorem mI (n:List UInt8) (hn:n.length≤100) {B b:Nat}{s:Pg.St}(Pr:Pg.St→Prop) {w:World}(h:fy B b s w) (hBw:B≤w.heap.size) (A2:Option Addr) (k2 c2 deep:Nat) (hd:deep≤1000000) (hl:s.t.length+1000≤1000000000000) (hl2:∀ S2,Pr S2→S2.t.length+1000≤1000000000000)
  (hin:∀ w',fy B b (Pg.put (Hm.tag n++[10]) s) w'→Below B w w'→Calls Tryz.prog 26 #[.pointer (some ⟨b,0,none⟩),.slice A2 k2 c2,.int .i64 ((deep+1:Nat):Int)] w' fun e w''=>e=.returned (.tuple #[])∧(∃ S2,Pr S2∧fy B b S2 w'')∧Below B w' w'') :
  Calls Tryz.prog 59 #[.pointer (some ⟨b,0,none⟩),.string (bs n),.slice A2 k2 c2,.int .i64 (deep:Int)] w fun e w'=>e=.returned (.tuple #[])∧(∃ S2,Pr S2∧fy B b (Pg.put (Hm.shut n++[10]) S2) w')∧Below B w w':=by
 have e1:[[60],n,[62,10]].flatten=Hm.tag n++[10]:=by simp [Hm.tag]
 have e2:[[60,47],n,[62,10]].flatten=Hm.shut n++[10]:=by simp [Hm.shut]
 have t1:(Hm.tag n++[10]).length=n.length+3:=by simp [Hm.tag]
 have t2:(Hm.shut n++[10]).length=n.length+4:=by simp [Hm.shut]
 have q1:=bY [[60],n,[62,10]] #[.string ⟨#[60]⟩,.string (bs n),.string ⟨#[62,10]⟩] rfl h hBw (by simp) (by rw [e1,t1];omega) (n:=3) (c:=3) rfl;have q2:=fun (S2:Pg.St) (iU:Pr S2) (w':World) (h':fy B b S2 w') (VI:B≤w'.heap.size)=>bY [[60,47],n,[62,10]] #[.string ⟨#[60,47]⟩,.string (bs n),.string ⟨#[62,10]⟩] rfl h' VI (by simp) (by have:=hl2 S2 iU;rw [e2,t2];omega) (n:=3) (c:=3) rfl;rw [e1] at q1;simp only [e2] at q2;replace q1:=Lib.hid q1;replace q2:=Lib.hid q2;replace hin:=Lib.hid hin;clear h e1 e2 t1 t2;go_enter Tryz.func59,Tryz.ntmps59;go_wp2_with fail;refine q1.out.mono ?_;rintro e w1 ⟨rfl,h1,hb1⟩;have q3:=hin.out w1 h1 hb1;rw [show ((deep+1:Nat):Int)=(deep:Int)+1 from by omega] at q3;replace q3:=Lib.hid q3;replace hb1:=Lib.hid hb1;clear h1 q1 hin;go_wp2_with fail;refine q3.out.mono ?_;rintro e w2 ⟨rfl,⟨S2,iU,h2⟩,hb2⟩;have q4:=Lib.hid (q2.out S2 iU w2 h2 (Nat.le_trans hBw (hb1.out.trans hb2).size));have hb3:=Lib.hid (hb1.out.trans hb2);clear h2 hb2 q2 q3;go_wp2_with fail;refine q4.out.mono ?_;rintro e w3 ⟨rfl,h3,hb4⟩;have hb5:=Lib.hid (hb3.out.trans hb4);replace h3:=Lib.hid h3;clear hb4 q4;go_wp2_with fail;go_end0;exact ⟨rfl,⟨S2,iU,h3.out⟩,hb5.out⟩
theorem CV (d:List UInt8) (w:World) (hd:d.length≤1000000000) :
  Calls Tryz.prog 75 #[.string (bs d)] w fun e w'=>e=.returned (.string (bs (Es.page (Hm.goes d))))∧Below w.heap.size w w':=by
 have q1:=fun w=>NT d hd w;have q2:=fun w=>tU d w hd trivial;have hgo:(Lk.safe d=true∧Hm.goes d=d)∨(Lk.safe d=false∧Hm.goes d=[35]):=by
  unfold Hm.goes;cases Lk.safe d with
  | true=>exact .inl ⟨rfl,by rw [if_pos rfl]⟩
  | false=>exact .inr ⟨rfl,by rw [if_neg (by decide)]⟩
 rcases hgo with ⟨hs1,hs2⟩ | ⟨hs1,hs2⟩
 ·rw [hs1] at q1
  rw [hs2];clear hs1 hs2;obtain ⟨G,hG⟩:∃ G,G=Es.page d:=⟨_,rfl⟩
  rw [← hG] at q2 ⊢;clear hG;go_enter Tryz.func75,Tryz.ntmps75;go_wp2_with fail;refine (q1 _).mono ?_;rintro e w1 ⟨rfl,hb1⟩;replace hb1:=Lib.hid hb1;go_wp2_with fail;refine (q2 _).mono ?_;rintro e w2 ⟨rfl,hb2⟩;have hb3:=Lib.hid (ag hb1.out hb2);clear hb2;go_wp2_with fail;go_ret;exact ⟨rfl,hb3.out⟩
 ·rw [hs1] at q1
  rw [hs2];have e35:Es.page [35]=[35]:=by decide
  rw [e35];clear hs1 hs2 e35 q2;go_enter Tryz.func75,Tryz.ntmps75;go_wp2_with fail;refine (q1 _).mono ?_;rintro e w1 ⟨rfl,hb1⟩;replace hb1:=Lib.hid hb1;go_wp2_with fail;go_ret;exact ⟨rfl,hb1.out⟩
theorem fM {B b:Nat}{s:Pg.St}{w w':World}(h:fy B b s w) (hba:Below w.heap.size w w'):fy B b s w':=by
 unfold fy at h ⊢;obtain ⟨p,v,hp,hB,hb,ho⟩:=nD h;exact vE hp hB (keep hb hba).1 (bX ho hba)
def CZ (N:Nat):Prop:=∀ (ts:List Hm.Hi) (_:SizeOf.sizeOf ts≤N) (_:∀ t∈ts,Hm.FF t) (_:ts.length≤1000000000) (A:Option Addr) (c:Nat) (css:List (List Value)) (w:World) (Q:Nat→Prop) (B b:Nat) (s:Pg.St) (deep:Nat)
  (_:∀ q,Q q→q<B) (_:B≤w.heap.size) (_:e9 w Q 4 A ts.length css.flatten) (_:LA w Q ts css) (_:fy B b s w) (_:deep≤65537) (_:s.read+Hm.Ni ts≤500000000000) (_:s.t.length+(Hm.dm ts).length≤500000000000),
  Calls Tryz.prog 32 #[.pointer (some ⟨b,0,none⟩),.slice A ts.length c,.int .i64 (deep:Int)] w fun e w'=>e=.returned (.tuple #[])∧fy B b (Pg.dm ts deep s) w'∧Below B w w'
def Io (N:Nat):Prop:=∀ (x:Hm.Hi) (_:SizeOf.sizeOf x≤N) (_:Hm.FF x) (cs:List Value) (w:World) (Q:Nat→Prop) (B b g o:Nat) (s:Pg.St) (deep:Nat)
  (_:∀ q,Q q→q<B) (_:B≤w.heap.size) (_:HC w Q x cs) (_:∀ j,j<4→w.cell? ⟨g,o+j,none⟩=cs[j]?) (_:g<B) (_:fy B b s w) (_:deep≤65536) (_:s.read+Hm.im x≤500000000000+(1+Pg.own x)) (_:s.t.length+(Hm.inl x).length≤500000000000),
  Calls Tryz.prog 46 #[.pointer (some ⟨b,0,none⟩),.pointer (some ⟨g,o,none⟩),.int .i64 (deep:Int)] w fun e w'=>e=.returned (.tuple #[])∧fy B b (Pg.inl x deep s) w'∧Below B w w'
theorem Om (N:Nat) (ih:CZ N):Io (N+1):=by
 intro x hN hF cs w Q B b g o s deep hQ hB hI hcell hgB hP hd hr hl;obtain ⟨kd,tx,ds,ks⟩:=x;obtain ⟨A2,c2,css2,rfl,hc2,hR2,nU⟩:=DW hI;obtain ⟨Zy,CG,hF2,Wb⟩:tx.length≤1000000000∧ds.length≤1000000000∧ks.length≤1000000000∧∀ x∈ks,Hm.FF x:=by cases hF with | mk a b c d=>exact ⟨a,b,c,d⟩
 simp only [Hm.Hi.mk.sizeOf_spec] at hN;simp only [Hm.im,Pg.own] at hr;have x0:w.cell? ⟨g,o,none⟩=some (.int .i64 kd):=hcell 0 (by omega);have x1:w.cell? ⟨g,o+1,none⟩=some (.string (bs tx)):=hcell 1 (by omega);have x2:w.cell? ⟨g,o+2,none⟩=some (.string (bs ds)):=hcell 2 (by omega);have x3:w.cell? ⟨g,o+3,none⟩=some (.slice A2 ks.length c2):=hcell 3 (by omega);have aH:=fun (w':World) (hb':Below B w w') (s':Pg.St) (YX:fy B b s' w') (q1:s'.read+Hm.Ni ks≤500000000000) (q2:s'.t.length+(Hm.dm ks).length≤500000000000) =>
  ih ks (by omega) Wb hF2 A2 c2 css2 w' Q B b s' (deep+1) hQ (Nat.le_trans hB hb'.size) (hR2.frame (fun b h=>hb'.block b (hQ b h)) (fun _ h=>h)) (pV (fun b h=>hb'.block b (hQ b h)) (fun _ h=>h) nU) YX (by omega) q1 q2
 replace aH:=Lib.hid aH;obtain ⟨T,hT⟩:∃ T,T=fy B b (Pg.inl (.mk kd tx ds ks) deep s):=⟨_,rfl⟩
 rw [← hT];have Wh:=fun w=>tU tx w Zy trivial;clear ih hI hcell hR2 nU hF Wb
 by_cases h0:kd=0
 ·subst h0
  have e:Pg.inl (.mk 0 tx ds ks) deep s=Pg.put (Es.page tx) s:=by unfold Pg.inl;rw [if_pos rfl]
  have e':Hm.inl (.mk 0 tx ds ks)=Es.page tx:=by unfold Hm.inl;rw [if_pos rfl]
  rw [e] at hT;rw [e'] at hl;obtain ⟨G,hG⟩:∃ G,G=Es.page tx:=⟨_,rfl⟩
  rw [← hG] at Wh hT hl;have q1:=fun (w1:World) (h1:fy B b s w1) (hB1:B≤w1.heap.size)=>bY [G] #[.string (bs G)] rfl h1 hB1 (by simp) (by simp;omega) (n:=1) (c:=1) rfl;simp only [List.flatten_cons,List.flatten_nil,List.append_nil] at q1;rw [← hT] at q1;replace q1:=Lib.hid q1;replace hP:=Lib.hid hP;clear hT hG e e' aH;go_enter Tryz.func46,Tryz.ntmps46;go_wp2_with fail;refine (Wh _).mono ?_;rintro e w1 ⟨rfl,hb1⟩;have q2:=Lib.hid (q1.out w1 (fM hP.out hb1) (Nat.le_trans hB hb1.size));have hb2:=Lib.hid (hb1.mono hB);clear hb1 q1;go_wp2_with fail;refine q2.out.mono ?_;rintro e w2 ⟨rfl,h2,hb3⟩;have hb4:=Lib.hid (hb2.out.trans hb3);replace h2:=Lib.hid h2;clear hb3 q2;go_wp2_with fail;go_end0;exact ⟨rfl,h2.out,hb4.out⟩
 by_cases h1:kd=1
 ·subst h1
  have e:Pg.inl (.mk 1 tx ds ks) deep s=Pg.put (Hm.shut Hm.di) (Pg.put (Es.page tx) (Pg.put (Hm.tag Hm.di) s)):=by unfold Pg.inl;rw [if_neg (by decide),if_pos rfl]
  have e':Hm.inl (.mk 1 tx ds ks)=Hm.tag Hm.di++Es.page tx++Hm.shut Hm.di:=by unfold Hm.inl;rw [if_neg (by decide),if_pos rfl]
  rw [e] at hT;rw [e'] at hl;simp only [List.length_append] at hl;obtain ⟨G,hG⟩:∃ G,G=Es.page tx:=⟨_,rfl⟩
  rw [← hG] at Wh hT hl;have ef:[Hm.tag Hm.di,G,Hm.shut Hm.di].flatten=Hm.tag Hm.di++(G++Hm.shut Hm.di):=by simp
  have es:Pg.put (Hm.tag Hm.di++(G++Hm.shut Hm.di)) s=Pg.put (Hm.shut Hm.di) (Pg.put G (Pg.put (Hm.tag Hm.di) s)):=by simp only [Pg.put,List.append_assoc]
  have q1:=fun (w1:World) (h1:fy B b s w1) (hB1:B≤w1.heap.size)=>bY [Hm.tag Hm.di,G,Hm.shut Hm.di] #[.string ⟨#[60,99,111,100,101,62]⟩,.string (bs G),.string ⟨#[60,47,99,111,100,101,62]⟩] rfl h1 hB1 (by simp) (by rw [ef,List.length_append,List.length_append];omega) (n:=3) (c:=3) rfl;simp only [ef,es] at q1;rw [← hT] at q1;replace q1:=Lib.hid q1;replace hP:=Lib.hid hP;clear hT hG e e' aH ef es;go_enter Tryz.func46,Tryz.ntmps46;go_wp2_with fail;refine (Wh _).mono ?_;rintro e w1 ⟨rfl,hb1⟩;have q2:=Lib.hid (q1.out w1 (fM hP.out hb1) (Nat.le_trans hB hb1.size));have hb2:=Lib.hid (hb1.mono hB);clear hb1 q1;go_wp2_with fail;refine q2.out.mono ?_;rintro e w2 ⟨rfl,h2,hb3⟩;have hb4:=Lib.hid (hb2.out.trans hb3);replace h2:=Lib.hid h2;clear hb3 q2;go_wp2_with fail;go_end0;exact ⟨rfl,h2.out,hb4.out⟩
 by_cases h2:kd=2
 ·subst h2
  have e:Pg.inl (.mk 2 tx ds ks) deep s=Pg.put (Hm.shut Hm.HK) (Pg.dm ks (deep+1) (Pg.put (Hm.tag Hm.HK) s)):=by unfold Pg.inl;rw [if_neg (by decide),if_neg (by decide),if_pos rfl]
  have e':Hm.inl (.mk 2 tx ds ks)=Hm.tag Hm.HK++Hm.dm ks++Hm.shut Hm.HK:=by unfold Hm.inl;rw [if_neg (by decide),if_neg (by decide),if_pos rfl]
  rw [e] at hT;rw [e'] at hl;simp only [List.length_append] at hl;obtain ⟨P,g1,g2,_,_⟩:=Pg.eE ks (deep+1) (Pg.put (Hm.tag Hm.HK) s);have g3:(Pg.dm ks (deep+1) (Pg.put (Hm.tag Hm.HK) s)).t.length+1000≤1000000000000:=by rw [g1];simp only [Pg.put,List.length_append];omega
  have q1:=Bm Hm.HK (by decide) hP hB A2 ks.length c2 deep (by omega) (by omega) g3 (fun w' h' hb'=>aH.out w' hb' _ h' (by simp only [Pg.put];omega) (by simp only [Pg.put,List.length_append];omega));rw [← hT] at q1;replace q1:=Lib.hid q1;clear hT e e' aH g1 g2 g3 Wh hP;go_enter Tryz.func46,Tryz.ntmps46;go_wp2_with fail;refine q1.out.mono ?_;rintro e w2 ⟨rfl,h2,hb3⟩;replace hb3:=Lib.hid hb3;replace h2:=Lib.hid h2;go_wp2_with fail;go_end0;exact ⟨rfl,h2.out,hb3.out⟩
 by_cases h3:kd=3
 ·subst h3
  have e:Pg.inl (.mk 3 tx ds ks) deep s=Pg.put (Hm.shut Hm.dN) (Pg.dm ks (deep+1) (Pg.put (Hm.tag Hm.dN) s)):=by unfold Pg.inl;rw [if_neg (by decide),if_neg (by decide),if_neg (by decide),if_pos rfl]
  have e':Hm.inl (.mk 3 tx ds ks)=Hm.tag Hm.dN++Hm.dm ks++Hm.shut Hm.dN:=by unfold Hm.inl;rw [if_neg (by decide),if_neg (by decide),if_neg (by decide),if_pos rfl]
  rw [e] at hT;rw [e'] at hl;simp only [List.length_append] at hl;obtain ⟨P,g1,g2,_,_⟩:=Pg.eE ks (deep+1) (Pg.put (Hm.tag Hm.dN) s);have g3:(Pg.dm ks (deep+1) (Pg.put (Hm.tag Hm.dN) s)).t.length+1000≤1000000000000:=by rw [g1];simp only [Pg.put,List.length_append];omega
  have q1:=Bm Hm.dN (by decide) hP hB A2 ks.length c2 deep (by omega) (by omega) g3 (fun w' h' hb'=>aH.out w' hb' _ h' (by simp only [Pg.put];omega) (by simp only [Pg.put,List.length_append];omega));rw [← hT] at q1;replace q1:=Lib.hid q1;clear hT e e' aH g1 g2 g3 Wh hP;go_enter Tryz.func46,Tryz.ntmps46;go_wp2_with fail;refine q1.out.mono ?_;rintro e w2 ⟨rfl,h2,hb3⟩;replace hb3:=Lib.hid hb3;replace h2:=Lib.hid h2;go_wp2_with fail;go_end0;exact ⟨rfl,h2.out,hb3.out⟩
 by_cases h4:kd=4
 ·subst h4
  have e:Pg.inl (.mk 4 tx ds ks) deep s=Pg.put (Hm.shut [97]) (Pg.dm ks (deep+1) (Pg.put (Hm.anchor ds) s)):=by unfold Pg.inl;rw [if_neg (by decide),if_neg (by decide),if_neg (by decide),if_neg (by decide),if_pos rfl]
  have e':Hm.inl (.mk 4 tx ds ks)=Hm.anchor ds++Hm.dm ks++Hm.shut [97]:=by unfold Hm.inl;rw [if_neg (by decide),if_neg (by decide),if_neg (by decide),if_neg (by decide),if_pos rfl]
  rw [e] at hT;rw [e'] at hl;simp only [List.length_append] at hl;obtain ⟨P,g1,g2,_,_⟩:=Pg.eE ks (deep+1) (Pg.put (Hm.anchor ds) s);have g3:(Pg.dm ks (deep+1) (Pg.put (Hm.anchor ds) s)).t.length+1000≤1000000000000:=by rw [g1];simp only [Pg.put,List.length_append];omega
  have q0:=fun w=>CV ds w CG;have ea:[[60,97,32,104,114,101,102,61,34],Es.page (Hm.goes ds),[34,62]].flatten=Hm.anchor ds:=by simp [Hm.anchor]
  obtain ⟨G,hG⟩:∃ G,G=Es.page (Hm.goes ds):=⟨_,rfl⟩
  rw [← hG] at q0 ea;have q1:=fun (w1:World) (h1:fy B b s w1) (hB1:B≤w1.heap.size)=>bY [[60,97,32,104,114,101,102,61,34],G,[34,62]] #[.string ⟨#[60,97,32,104,114,101,102,61,34]⟩,.string (bs G),.string ⟨#[34,62]⟩] rfl h1 hB1 (by simp) (by rw [ea];omega) (n:=3) (c:=3) rfl;simp only [ea] at q1;have q2:=fun (w1:World) (h1:fy B b (Pg.put (Hm.anchor ds) s) w1) (hb1:Below B w w1)=>aH.out w1 hb1 _ h1 (by simp only [Pg.put];omega) (by simp only [Pg.put,List.length_append];omega);have eb:[[60,47,97,62]].flatten=Hm.shut [97]:=by simp [Hm.shut]
  obtain ⟨S2,iU⟩:∃ S2,S2=Pg.dm ks (deep+1) (Pg.put (Hm.anchor ds) s):=⟨_,rfl⟩
  rw [← iU] at q2 g3 hT;have q3:=fun (w1:World) (h1:fy B b S2 w1) (hB1:B≤w1.heap.size)=>bY [[60,47,97,62]] #[.string ⟨#[60,47,97,62]⟩] rfl h1 hB1 (by simp) (by simp;omega) (n:=1) (c:=1) rfl;simp only [eb] at q3;rw [← hT] at q3;rw [show ((deep+1:Nat):Int)=(deep:Int)+1 from by omega] at q2;have hx3:Hid (∀ w',Below B w w'→w'.cell? ⟨g,o+3,none⟩=some (.slice A2 ks.length c2)):=Lib.hid (fun w' hb'=>(hb'.cell (p:=⟨g,o+3,none⟩) hgB).trans x3);replace q1:=Lib.hid q1;replace q2:=Lib.hid q2;replace q3:=Lib.hid q3;replace hP:=Lib.hid hP;clear hT e e' aH g1 g2 g3 Wh hG iU ea eb x1 x3;go_enter Tryz.func46,Tryz.ntmps46;go_wp2_with fail;refine (q0 _).mono ?_;rintro e w1 ⟨rfl,hb1⟩;have q4:=Lib.hid (q1.out w1 (fM hP.out hb1) (Nat.le_trans hB hb1.size));have hb2:=Lib.hid (hb1.mono hB);clear hb1 q1 q0 x0 x2;go_wp2_with fail;refine q4.out.mono ?_;rintro e w2 ⟨rfl,h2,hb3⟩;have hb4:=Lib.hid (hb2.out.trans hb3);have y3:=hx3.out w2 hb4.out;have q5:=Lib.hid (q2.out w2 h2 hb4.out);clear hb3 q4 q2 h2;go_wp2_with fail;refine q5.out.mono ?_;rintro e w3 ⟨rfl,h3,hb5⟩;have jQ:=Lib.hid (hb4.out.trans hb5);have q6:=Lib.hid (q3.out w3 h3 (Nat.le_trans hB jQ.out.size));clear hb5 q5 q3 h3 y3;go_wp2_with fail;refine q6.out.mono ?_;rintro e w4 ⟨rfl,h4,eA⟩;have oE:=Lib.hid (jQ.out.trans eA);replace h4:=Lib.hid h4;clear eA q6;go_wp2_with fail;go_end0;exact ⟨rfl,h4.out,oE.out⟩
 by_cases h5:kd=5
 ·subst h5
  have e:Pg.inl (.mk 5 tx ds ks) deep s=Pg.put [10] s:=by unfold Pg.inl;rw [if_neg (by decide),if_neg (by decide),if_neg (by decide),if_neg (by decide),if_neg (by decide),if_pos rfl]
  have e':Hm.inl (.mk 5 tx ds ks)=[10]:=by unfold Hm.inl;rw [if_neg (by decide),if_neg (by decide),if_neg (by decide),if_neg (by decide),if_neg (by decide),if_pos rfl]
  rw [e] at hT;rw [e'] at hl;simp only [List.length_singleton] at hl;have q1:=bY [[10]] #[.string ⟨#[10]⟩] rfl hP hB (by simp) (by simp;omega) (n:=1) (c:=1) rfl;have eb:[[(10:UInt8)]].flatten=[10]:=rfl;rw [eb,← hT] at q1;replace q1:=Lib.hid q1;clear hT e e' aH Wh hP eb;go_enter Tryz.func46,Tryz.ntmps46;go_wp2_with fail;refine q1.out.mono ?_;rintro e w2 ⟨rfl,h2,hb3⟩;replace hb3:=Lib.hid hb3;replace h2:=Lib.hid h2;go_wp2_with fail;go_end0;exact ⟨rfl,h2.out,hb3.out⟩
 have e:Pg.inl (.mk kd tx ds ks) deep s=s:=by unfold Pg.inl;rw [if_neg h0,if_neg h1,if_neg h2,if_neg h3,if_neg h4,if_neg h5]
 rw [e] at hT;have kX:Hid (T w):=Lib.hid (by rw [hT];exact hP);have n0:(kd==0)=false:=by rw [beq_eq_false_iff_ne];exact h0
 have n1:(kd==1)=false:=by rw [beq_eq_false_iff_ne];exact h1
 have n2:(kd==2)=false:=by rw [beq_eq_false_iff_ne];exact h2
 have n3:(kd==3)=false:=by rw [beq_eq_false_iff_ne];exact h3
 have n4:(kd==4)=false:=by rw [beq_eq_false_iff_ne];exact h4
 have n5:(kd==5)=false:=by rw [beq_eq_false_iff_ne];exact h5
 clear hT e aH Wh hP h0 h1 h2 h3 h4 h5;go_enter Tryz.func46,Tryz.ntmps46;go_wp2_with fail;go_end0;exact ⟨rfl,kX.out,Below.refl _ _⟩
theorem JW (N:Nat) (ih:Io N):CZ (N+1):=by
 intro ts hN hF hl A c css w Q B b s deep hQ hB hR hI hP hd hr hx;have hR':=Lib.hid hR;have hI':=Lib.hid hI;have YX:=Lib.hid hP;have hF':=Lib.hid hF;have ih':=Lib.hid ih;obtain ⟨R,LN⟩:∃ R,R=Pg.dm ts deep s:=⟨_,rfl⟩
 rw [← LN];replace LN:=Lib.hid LN;clear ih hR hI hP hF;go_enter Tryz.func32,Tryz.ntmps32;go_wp2_with fail
 go_loopw [10] (fun u wr=>∃ (k:Nat) (st:Pg.St),k≤ts.length∧u=.int .i64 (k:Int)∧Hid (R=Pg.dm (ts.drop k) deep st)∧Hid (st.read+Hm.Ni (ts.drop k)≤500000000000)∧Hid (st.t.length+(Hm.dm (ts.drop k)).length≤500000000000)∧Hid (fy B b st wr)∧Hid (Below B w wr)) (fun u _=>ts.length-(intOf u).toNat)
 case atStart=>exact ⟨0,s,by omega,rfl,LN,Lib.hid (by simpa using hr),Lib.hid (by simpa using hx),YX,Lib.hid (Below.refl _ _)⟩
 case round =>
  obtain ⟨k,st,hk,rfl,hRk,W7,hxk,Xd,hb⟩:=hrel;clear LN;rcases Nat.lt_or_eq_of_le hk with hlt | Au
  ·obtain ⟨cs,i1,i2⟩:=R2 hI'.out hlt
   obtain ⟨bA,o,rfl,GG,hcell⟩:=hR'.out.2 (by omega);have ZA:=hF'.out ts[k] (List.getElem_mem hlt);have hNk:SizeOf.sizeOf ts[k]≤N:=by have:=List.sizeOf_lt_of_mem (List.getElem_mem hlt);omega
   have sV:=hRk.out;have ID:=W7.out;have Ys:=hxk.out;rw [List.drop_eq_getElem_cons hlt] at sV ID Ys;simp only [Pg.dm] at sV;simp only [Hm.Ni] at ID;simp only [Hm.dm,List.length_append] at Ys;clear hRk W7 hxk;generalize ts[k]=t at *;have hi1:=i1;obtain ⟨kd,tx,ds,ks⟩:=t;obtain ⟨A2,c2,css2,rfl,hc2,hR2,nU⟩:=DW i1;have hbl:=hQ _ GG;have nS:=hb.out;have hcl:∀ j,j<4→wr.cell? ⟨bA,o+k*4+j,none⟩=([.int .i64 kd,.string (bs tx),.string (bs ds),.slice A2 ks.length c2]:List Value)[j]? := fun j hj=>by
    have h9:=(nS.cell (p:=⟨bA,o+(k*4+j),none⟩) hbl).trans (hcell _ _ ((i2 j hj).trans (by
     rcases (show j=0∨j=1∨j=2∨j=3 by omega) with rfl | rfl | rfl | rfl<;>rfl):css.flatten[k*4+j]? = some (([.int .i64 kd,.string (bs tx),.string (bs ds),.slice A2 ks.length c2]:List Value).getD j default)))
    rw [Nat.add_assoc,h9];rcases (show j=0∨j=1∨j=2∨j=3 by omega) with rfl | rfl | rfl | rfl<;>rfl
   have x1:wr.cell? ⟨bA,o+k*4+1,none⟩=some (.string (bs tx)):=hcl 1 (by omega);have x2:wr.cell? ⟨bA,o+k*4+2,none⟩=some (.string (bs ds)):=hcl 2 (by omega);obtain ⟨Zy,CG,hF2⟩:tx.length≤1000000000∧ds.length≤1000000000∧ks.length≤1000000000:=by cases ZA with | mk a b c d=>exact ⟨a,b,c⟩
   have hz1:=au tx;have hz2:=au ds;have him:Hm.im (.mk kd tx ds ks)=tx.length+ds.length+1+Hm.Ni ks:=by simp only [Hm.im]
   have how:Pg.own (.mk kd tx ds ks)=tx.length+ds.length:=rfl;rw [how] at sV;have vh:bA≠b:=by
    have h9:=Xd.out;unfold fy at h9;obtain ⟨_,_,_,hBb,_,_⟩:=nD h9;omega
   have htk:=Gk (fM Xd.out (bC wr)) (tx.length+ds.length) deep (x:=(tx.length:Int)+(ds.length:Int)) (by omega) (by omega) (by omega) (by omega) (by omega);have wF:=Nat.le_trans hB nS.size;have pz:(Pg.takes (tx.length+ds.length) deep st).read=st.read+(1+(tx.length+ds.length)):=rfl;have TW:(Pg.takes (tx.length+ds.length) deep st).t=st.t:=rfl;have aH:=fun (w':World) (hb':Below B wr w') (h':fy B b (Pg.takes (tx.length+ds.length) deep st) w') (hd':deep≤65536) =>
    ih'.out (.mk kd tx ds ks) hNk ZA _ w' Q B b bA (o+k*4) _ deep hQ (Nat.le_trans wF hb'.size) (Ht (fun b h=>(nS.trans hb').block b (hQ b h)) (fun _ h=>h) hi1) (fun j hj=>(hb'.cell (p:=⟨bA,o+k*4+j,none⟩) hbl).trans (hcl j hj)) hbl h' hd' (by rw [pz,how];omega) (by rw [TW];omega)
   obtain ⟨P,g1,g2,g3,_⟩:=Pg.GK (.mk kd tx ds ks) deep (Pg.takes (tx.length+ds.length) deep st);rw [pz,how] at g3;rw [TW] at g1;have CU:(Pg.takes (tx.length+ds.length) deep st).full=false→deep≤65536:=by
    intro h9;simp only [Pg.takes,Bool.or_eq_false_iff,decide_eq_false_iff_not] at h9;omega
   have OX:(Pg.inl (.mk kd tx ds ks) deep (Pg.takes (tx.length+ds.length) deep st)).read+Hm.Ni (ts.drop (k+1))≤500000000000:=by omega
   have hxn:(Pg.inl (.mk kd tx ds ks) deep (Pg.takes (tx.length+ds.length) deep st)).t.length+(Hm.dm (ts.drop (k+1))).length≤500000000000:=by rw [g1,List.length_append];omega
   obtain ⟨S1,hS1⟩:∃ S1,S1=Pg.takes (tx.length+ds.length) deep st:=⟨_,rfl⟩
   rw [← hS1] at sV htk aH CU OX hxn;obtain ⟨S2,iU⟩:∃ S2,S2=Pg.inl (.mk kd tx ds ks) deep S1:=⟨_,rfl⟩
   rw [← iU] at sV aH OX hxn;replace htk:=Lib.hid htk;replace aH:=Lib.hid aH;replace OX:=Lib.hid OX;replace hxn:=Lib.hid hxn;clear g1 g2 g3 hS1 iU pz TW hcl hcell i1 i2 hi1 hR2 nU ZA hNk ID Ys him how;obtain ⟨fl,hfl⟩:∃ fl,fl=S1.full:=⟨_,rfl⟩
   rw [← hfl] at sV htk CU;have hw1:IntKind.i64.wrap ((tx.length:Int)+(ds.length:Int))=(tx.length:Int)+(ds.length:Int):=by rw [IntKind.wrap_i64];omega
   cases fl with
   | true =>
    rw [if_pos rfl] at sV;clear aH CU hfl;replace sV:=Lib.hid sV;replace hQ:=Lib.hid hQ;replace GG:=Lib.hid GG;go_upto_region 4 with fail
    refine aF (.rd 0 (.rd 1 (.rd 2 (.rd 3 (.rd 4 (.rd 5 (.rd 6 (.rd 7 (.rd 8 (.rd 9 (.rd 10 (.rd 11 (.rd 12 (.mk 13 (.rd 14 .fin))))))))))))))) (fun u:World=>u.cell? ⟨bA,o+k*4+1,none⟩=some (.string (bs tx))∧u.cell? ⟨bA,o+k*4+2,none⟩=some (.string (bs ds))) ⟨x1,x2⟩ (by kernel_rfl) (by kernel_rfl) (by kernel_rfl) (fun _ _ d _ _ h=>by cases d<;>exact h) ?_
    iterate 4 (first | refine an rfl ?_ | (refine az rfl ?_;intro K hK;go_simp;refine hK _ _ _ ?_;clear hK K))
    refine aJ (.string (bs tx)) rfl rfl ⟨x1,x2⟩ (fun u hu=>by have u1:=hu.1;go_simp) ?_
    iterate 4 (first | refine an rfl ?_ | (refine az rfl ?_;intro K hK;go_simp;refine hK _ _ _ ?_;clear hK K))
    refine aJ (.string (bs ds)) rfl rfl ⟨x1,x2⟩ (fun u hu=>by have u1:=hu.2;go_simp) ?_
    (first | refine an rfl ?_ | (refine az rfl ?_;intro K hK;go_simp;refine hK _ _ _ ?_;clear hK K))
    refine aJ (.int .i64 ((tx.length:Int)+(ds.length:Int))) rfl rfl ⟨x1,x2⟩ (fun u _=>by go_simp<;>first | exact hw1 | rw [hw1]) ?_
    (first | refine an rfl ?_ | (refine az rfl ?_;intro K hK;go_simp;refine hK _ _ _ ?_;clear hK K))
    refine aE rfl ?_;intro K hK;go_simp;refine htk.out.mono ?_;rintro e w7 ⟨rfl,h7,eA,Z8⟩;refine ⟨_,⟨(eA.cell (p:=⟨bA,o+k*4+1,none⟩) hbl).trans x1,(eA.cell (p:=⟨bA,o+k*4+2,none⟩) hbl).trans x2⟩,fun _ h=>h,hK _ _ _ ?_⟩;clear hK K
    (first | refine an rfl ?_ | (refine az rfl ?_;intro K hK;go_simp;refine hK _ _ _ ?_;clear hK K))
    refine aQ ?_;have oE:Below B wr w7:=(Below.drew (Below.refl B wr)).trans eA;have kX:Hid (fy B b R w7):=Lib.hid (by rw [sV.out];exact h7);have KL:=Lib.hid (hb.out.trans oE);clear eA oE Z8 h7 htk;go_wp2_with fail;exact bodyPost_ret (results_none rfl ..) rfl ⟨rfl,kX.out,KL.out⟩
   | false =>
    rw [if_neg (by decide)] at sV;have hd6:=CU rfl;clear CU hfl;replace sV:=Lib.hid sV;replace hQ:=Lib.hid hQ;replace GG:=Lib.hid GG;go_upto_region 4 with fail
    refine aF (.rd 0 (.rd 1 (.rd 2 (.rd 3 (.rd 4 (.rd 5 (.rd 6 (.rd 7 (.rd 8 (.rd 9 (.rd 10 (.rd 11 (.rd 12 (.mk 13 (.rd 14 .fin))))))))))))))) (fun u:World=>u.cell? ⟨bA,o+k*4+1,none⟩=some (.string (bs tx))∧u.cell? ⟨bA,o+k*4+2,none⟩=some (.string (bs ds))) ⟨x1,x2⟩ (by kernel_rfl) (by kernel_rfl) (by kernel_rfl) (fun _ _ d _ _ h=>by cases d<;>exact h) ?_
    iterate 4 (first | refine an rfl ?_ | (refine az rfl ?_;intro K hK;go_simp;refine hK _ _ _ ?_;clear hK K))
    refine aJ (.string (bs tx)) rfl rfl ⟨x1,x2⟩ (fun u hu=>by have u1:=hu.1;go_simp) ?_
    iterate 4 (first | refine an rfl ?_ | (refine az rfl ?_;intro K hK;go_simp;refine hK _ _ _ ?_;clear hK K))
    refine aJ (.string (bs ds)) rfl rfl ⟨x1,x2⟩ (fun u hu=>by have u1:=hu.2;go_simp) ?_
    (first | refine an rfl ?_ | (refine az rfl ?_;intro K hK;go_simp;refine hK _ _ _ ?_;clear hK K))
    refine aJ (.int .i64 ((tx.length:Int)+(ds.length:Int))) rfl rfl ⟨x1,x2⟩ (fun u _=>by go_simp<;>first | exact hw1 | rw [hw1]) ?_
    (first | refine an rfl ?_ | (refine az rfl ?_;intro K hK;go_simp;refine hK _ _ _ ?_;clear hK K))
    refine aE rfl ?_;intro K hK;go_simp;refine htk.out.mono ?_;rintro e w7 ⟨rfl,h7,eA,Z8⟩;refine ⟨_,⟨(eA.cell (p:=⟨bA,o+k*4+1,none⟩) hbl).trans x1,(eA.cell (p:=⟨bA,o+k*4+2,none⟩) hbl).trans x2⟩,fun _ h=>h,hK _ _ _ ?_⟩;clear hK K
    (first | refine an rfl ?_ | (refine az rfl ?_;intro K hK;go_simp;refine hK _ _ _ ?_;clear hK K))
    refine aQ ?_;have oE:Below B wr w7:=(Below.drew (Below.refl B wr)).trans eA;have q1:=Lib.hid (aH.out w7 oE h7 hd6);have KL:=Lib.hid (hb.out.trans oE);clear eA oE Z8 h7 htk aH x1 x2 nS;go_wp2_with fail;refine q1.out.mono ?_;rintro e w8 ⟨rfl,h8,Ki⟩;have Zk:=Lib.hid (KL.out.trans Ki);replace h8:=Lib.hid h8;clear Ki q1;go_wp2_with fail
    go_roundw
    case rel=>exact ⟨k+1,S2,by omega,by go_num,sV,OX,hxn,h8,Zk⟩
    case measure=>simp [intOf];omega
  ·subst Au
   have kX:Hid (fy B b R wr):=Lib.hid (by rw [hRk.out,List.drop_length];exact Xd.out);clear hRk W7 hxk;go_wp2_with fail;go_end0;exact ⟨rfl,kX.out,hb.out⟩
end Go.Proofs.YtddkjkockbcamaaGreatDoor
