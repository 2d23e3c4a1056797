/- BkLeaf BkLeaf2 BkText BkGrow BkLine BkTree PbClose PbClose2 PbPlace PbClose3 PbPop PbTo PbTake PbThrough PbBegin PbLeaf PbLeaf2 PbLeaf3 PbLine PbLine2 -/
import Derived.Test.YtddkjkockbcamaaGreatDoorHw15
import Derived.Test.YtddkjkockbcamaaGreatDoorHw23
import Derived.Test.YtddkjkockbcamaaGreatDoorHw04
import Derived.StillTailTactics
import Derived.Test.YtddkjkockbcamaaGreatDoorHw03
import Derived.Laws.ResultCell
import Derived.Test.YtddkjkockbcamaaGreatDoorHw16
import Derived.Test.YtddkjkockbcamaaGreatDoorHw25
import Derived.Test.YtddkjkockbcamaaGreatDoorHw26
import Derived.Test.YtddkjkockbcamaaGreatDoorHw24
set_option maxHeartbeats 16000000
set_option maxRecDepth 100000
namespace Go.Proofs.YtddkjkockbcamaaGreatDoor
open Go.RowKit
attribute [local go_sem] aD av aq
section
variable {w w':World}{B P:Nat}{E:Nat→Option Part}{A:Nat→Nat}{KV:Nat→Value}{ov pv:Value}{st:Bk.St}
def kz:Key→Option Key
 | .ext 0=>none
 | .ext (i+1)=>some (.ext i)
 | k=>some k
theorem aag (i j:Key) (h:kz i=kz j):i=j:=by
 cases i with
 | ext a =>
  cases j with
  | ext b =>
   rcases a with _ | a<;>rcases b with _ | b<;>simp [kz] at h
   ·rfl
   ·rw [h]
  | _=>rcases a with _ | a<;>simp [kz] at h
 | par=>cases j with
  | ext b=>rcases b with _ | b<;>simp [kz] at h
  | _=>simp [kz] at h;try rfl
 | opn=>cases j with
  | ext b=>rcases b with _ | b<;>simp [kz] at h
  | _=>simp [kz] at h;try rfl
 | pls=>cases j with
  | ext b=>rcases b with _ | b<;>simp [kz] at h
  | _=>simp [kz] at h;try rfl
 | node a=>cases j with
  | ext b=>rcases b with _ | b<;>simp [kz] at h
  | _=>simp [kz] at h;try rw [h]
 | kid a=>cases j with
  | ext b=>rcases b with _ | b<;>simp [kz] at h
  | _=>simp [kz] at h;try rw [h]
def Jm:Key→Key
 | .ext i=>.ext (i+1)
 | k=>k
theorem XQ (i j:Key) (h:Jm i=Jm j):i=j:=by
 cases i<;>cases j<;>simp [Jm] at h<;>first | rfl | rw [h]
end
theorem Bk.Ok.shut {st:Bk.St}(h:Bk.Ok st) (k:Nat):Bk.Ok (Bk.shut k st) :=
 ⟨h.pos,fun b hb=>h.opn b (List.mem_of_mem_take hb),(fun i hi=>by cases hi),(fun i hi=>by cases hi),(by
  have:=h.few;simp only [Bk.shut,List.length_take];omega),h.small,h.root⟩
section
variable (E:Nat→Option Part) (P:Nat) (A:Nat→Nat) (KV:Nat→Value) (ov pv:Value) (st:Bk.St) (w:World) (B:Nat) (h:Hp w B (parts E P A KV ov pv st)) (hok:Bk.Ok st) (k:Nat) (hk:k≤st.opn.length) (s:List UInt8) (al be:Bool)
include h hok hk
end
section
variable (E:Nat→Option Part) (P:Nat) (A:Nat→Nat) (KV:Nat→Value) (ov pv:Value) (st:Bk.St) (w:World) (B:Nat) (h:Hp w B (parts E P A KV ov pv st)) (hok:Bk.Ok st) (k:Nat) (hk:k≤st.opn.length) (s:List UInt8) (al be:Bool)
include h hok hk
end
structure Bk.Fits (st:Bk.St):Prop where
 ok:Bk.Ok st
 texts:∀ x∈st.ns,x.text.length≤500000000000
 pls:st.places.length≤500000000
 ln:st.line≤500000000
 nodes:st.ns.length≤500000000
section
variable (E:Nat→Option Part) (P:Nat) (A:Nat→Nat) (KV:Nat→Value) (ov pv:Value) (st:Bk.St) (w:World) (B:Nat) (h:Hp w B (parts E P A KV ov pv st)) (hfit:Bk.Fits st)
 (s:List UInt8) (T:List UInt8) (hT:T.length≤100000000) (i:Nat) (zU:st.fence=some i)
 (htk:∀ w,Hp w B (parts E P A KV ov pv st)→Calls Tryz.prog 87 #[ptr P,.string (bs s)] w fun e w'=>e=.returned (.tuple #[.int .i64 (st.opn.length:Int),.string (bs T)])∧Below w.heap.size w w')
include h hfit hT zU htk
end
end Go.Proofs.YtddkjkockbcamaaGreatDoor
namespace Go.Proofs.YtddkjkockbcamaaGreatDoor
open Go.RowKit
structure Bk.Grown (st:Bk.St) (p:Nat) (st':Bk.St):Prop where
 ok:Bk.Ok st'
 nodes:st'.ns.length≤st.ns.length+2*p
 texts:∀ x∈st'.ns,x∈st.ns∨x.text=[]
 para:st'.para=none
 fence:st'.fence=none
 places:st'.places=st.places
 line:st'.line=st.line
theorem Bk.Grown.shut {st:Bk.St}(h:Bk.Ok st) (k:Nat):Bk.Grown st 0 (Bk.shut k st):=⟨h.shut k,by simp [Bk.shut],fun _ hx=>.inl hx,rfl,rfl,rfl,rfl⟩
theorem Bk.Ok.opened {st:Bk.St}(h:Bk.Ok st) {b:Bk.ki}(hb:b.n<st.ns.length) (hl:st.opn.length<40):Bk.Ok (Bk.opened b st) :=
 ⟨h.pos,fun c hc=>(List.mem_append.1 hc).elim (h.opn c) (fun h=>by rw [List.mem_singleton] at h;subst h;exact hb),h.para,h.fence,by simp only [Bk.opened,List.length_append,List.length_singleton];omega,h.small,h.root⟩
theorem F6 (o:Option (UInt8×Nat)) (st:Bk.St):(Bk.push o st).opn.length=st.opn.length+1:=by
 cases o with
 | none=>simp [Bk.push,Bk.quote]
 | some p =>
  obtain ⟨c,n⟩:=p;simp only [Bk.push,Bk.item]
  split<;>simp
theorem S3 (st:Bk.St):Bk.push none st=Bk.opened ⟨st.ns.length,none⟩ (Bk.put ⟨some (Bk.last st),1,0,[],[],st.line,0⟩ st):=rfl
theorem Bk.Grown.push {st st':Bk.St}{p:Nat}(h:Bk.Grown st p st') (hl:st'.opn.length<40) (hs:st'.ns.length+2≤1000000000) (o:Option (UInt8×Nat)):Bk.Grown st (p+1) (Bk.push o st'):=by
 cases o with
 | none =>
  rw [S3];have hok:=(h.ok.put (x:=⟨some (Bk.last st'),1,0,[],[],st'.line,0⟩) (fun i hi=>by cases hi;exact h.ok.last) (by omega)).opened (b:=⟨st'.ns.length,none⟩) (by simp [Bk.put]) hl;refine ⟨hok,?_,fun x hx=>?_,h.para,h.fence,h.places,h.line⟩
  ·have:=h.nodes;simp only [Bk.opened,Bk.put,List.length_append,List.length_singleton];omega
  ·rcases List.mem_append.1 hx with hx | hx
   ·exact h.texts x hx
   ·rw [List.mem_singleton] at hx;subst hx;exact .inr rfl
 | some q =>
  obtain ⟨c,n⟩:=q;have hie:=Bk.UE c n st';obtain ⟨aev,hl1,adw,agO⟩:=Bk.MS h.ok (by omega) c;have hli:(Bk.listed c st').1.para=st'.para∧(Bk.listed c st').1.fence=st'.fence∧(Bk.listed c st').1.places=st'.places∧(Bk.listed c st').1.line=st'.line∧∀ x∈(Bk.listed c st').1.ns,x∈st'.ns∨x.text=[]:=by
   unfold Bk.listed
   split
   ·exact ⟨rfl,rfl,rfl,rfl,fun x hx=>.inl hx⟩
   ·refine ⟨rfl,rfl,rfl,rfl,fun x hx=>?_⟩
    rcases List.mem_append.1 hx with hx | hx
    ·exact .inl hx
    ·rw [List.mem_singleton] at hx;subst hx;exact .inr rfl
  have hok:=(aev.put (x:=⟨some (Bk.listed c st').2,3,0,[],[],(Bk.listed c st').1.line,0⟩) (fun i hi=>by cases hi;exact hl1) (by omega)).opened (b:=⟨(Bk.listed c st').1.ns.length,some n⟩) (by simp [Bk.put]) (by simp only [Bk.put];rw [adw];exact hl);show Bk.Grown st (p+1) (Bk.item c n st');rw [hie];refine ⟨hok,?_,fun x hx=>?_,hli.1.trans h.para,hli.2.1.trans h.fence,hli.2.2.1.trans h.places,hli.2.2.2.1.trans h.line⟩
  ·have:=h.nodes;simp only [Bk.opened,Bk.put,List.length_append,List.length_singleton];omega
  ·rcases List.mem_append.1 hx with hx | hx
   ·rcases hli.2.2.2.2 x hx with h1 | h1
    ·exact h.texts x h1
    ·exact .inr h1
   ·rw [List.mem_singleton] at hx;subst hx;exact .inr rfl
theorem Ea {l r:List UInt8}{c:UInt8}{n:Nat}(h:Lf.item l=some (c,n,r)):r.length≤l.length+3:=by
 unfold Lf.item at h;have hr:(Fn.rs l).length≤l.length:=by unfold Fn.rs;rw [List.length_drop];omega
 split at h
 ·cases h
 ·rename_i d t ED
  rw [ED,List.length_cons] at hr
  split at h
  ·split at h
   ·cases h;simp
   ·cases h
    have:=Cl.gb (Lf.inner (Fn.cl t):Int) t;omega
  ·cases h
section
variable (E:Nat→Option Part) (P B:Nat) (st:Bk.St) (k:Nat) (T:List UInt8) (G:Bk.St×List UInt8)
theorem om {s:List UInt8}(h:Lf.quote s=none) (h2:Lf.item s=none):Bk.opener s=none:=by unfold Bk.opener;rw [h,h2]
end
theorem Vg (l:List Bk.ki) (s:List UInt8):(Bk.take l s).1≤l.length∧(Bk.take l s).2.length≤s.length+3*l.length:=by
 induction l generalizing s with
 | nil=>simp [Bk.take]
 | cons b r ih =>
  unfold Bk.take;cases b.col with
  | none =>
   cases hq:Lf.quote s with
   | none=>simp only [List.length_cons];exact ⟨by omega,by omega⟩
   | some q =>
    have h1:=ih q;have h2:=tT hq;simp only [List.length_cons];constructor<;>omega
  | some n =>
   simp only [List.length_cons]
   split
   ·have h1:=ih s
    constructor<;>dsimp only<;>omega
   ·split
    ·simp
    ·have h1:=ih (Cl.strip n s)
     have h2:=Cl.gb (n:Int) s;constructor<;>dsimp only<;>omega
structure Bk.Fit (i:Nat) (st:Bk.St):Prop where
 ok:Bk.Ok st
 texts:∀ x∈st.ns,x.text.length≤i*1000000
 pls:st.places.length≤i
 nodes:st.ns.length≤1+i*100
 top:st.fence≠none→st.opn=[]→∃ r p,st.places=r++[p]
theorem Bk.Ok.add {st:Bk.St}(h:Bk.Ok st) (hs:st.ns.length+1≤1000000000) (kind level:Nat) (t info:List UInt8) (c:UInt8):Bk.Ok (Bk.add kind level t info c st) :=
 h.put (x:=⟨some (Bk.last st),kind,level,t,info,st.line,c⟩) (fun i hi=>by cases hi;exact h.last) hs
theorem Bk.Ok.bp {st:Bk.St}(h:Bk.Ok st) (i:Nat) (t:List UInt8):Bk.Ok { st with ns:=Bk.bp st.ns i t }:=by
 have hl:=Bk.jc st.ns i t;refine ⟨by rw [hl];exact h.pos,fun b hb=>by rw [hl];exact h.opn b hb,fun i hi=>by rw [hl];exact h.para i hi,fun i hi=>by rw [hl];exact h.fence i hi,h.few,by rw [hl];exact h.small,?_⟩;intro n x j hn hj;simp only [Bk.bp] at hn;rw [List.getElem?_modify] at hn;cases hg:st.ns[n]? with
 | none=>rw [hg] at hn;cases hn
 | some y =>
  rw [hg] at hn;replace hn:=Option.some.inj hn;refine h.root n y j hg ?_;subst hn
  split at hj<;>exact hj
theorem vb {ns:List Bk.Nd}{i:Nat}{t:List UInt8}{x:Bk.Nd}(hx:x∈Bk.bp ns i t):x.text=t∨x∈ns:=by
 unfold Bk.bp at hx;obtain ⟨n,hn⟩:=List.mem_iff_getElem?.1 hx;rw [List.getElem?_modify] at hn;cases hg:ns[n]? with
 | none=>rw [hg] at hn;cases hn
 | some y =>
  rw [hg] at hn;replace hn:=Option.some.inj hn
  split at hn
  ·subst hn;exact .inl rfl
  ·subst hn;exact .inr (List.mem_of_getElem? hg)
theorem GH {l t:List UInt8}{n:Nat}(h:Lf.eM l=some (n,t)):t.length≤l.length:=by
 unfold Lf.eM at h;have hr:(Fn.rs l).length≤l.length:=by unfold Fn.rs;rw [List.length_drop];omega
 split at h
 ·cases h
  have h1:=Lf.B0 (Fn.trim ((Fn.rs l).drop (Fn.run 35 (Fn.rs l))));have h2:=Fn.iR ((Fn.rs l).drop (Fn.run 35 (Fn.rs l)));have h3:((Fn.rs l).drop (Fn.run 35 (Fn.rs l))).length≤(Fn.rs l).length:=by rw [List.length_drop];omega
  omega
 ·cases h
structure Bk.Step (N M:Nat) (st st':Bk.St):Prop where
 ok:Bk.Ok st'
 texts:∀ x∈st'.ns,x.text.length≤N+M
 pls:st'.places.length≤st.places.length+1
 nodes:st'.ns.length≤st.ns.length+1
 top:st'.fence≠none→st'.opn=[]→∃ r p,st'.places=r++[p]
theorem WT {st:Bk.St}{kind level:Nat}{t info:List UInt8}{c:UInt8}{x:Bk.Nd}(h:x∈(Bk.add kind level t info c st).ns):x∈st.ns∨x.text=t:=by
 rcases List.mem_append.1 h with h | h
 ·exact .inl h
 ·rw [List.mem_singleton] at h;subst h;exact .inr rfl
theorem Nw {st:Bk.St}{N M:Nat}(hok:Bk.Ok st) (QE:∀ x∈st.ns,x.text.length≤N) (hs1:st.ns.length+1≤1000000000) (ZN:st.fence≠none→st.opn=[]→∃ r p,st.places=r++[p])
  (s:List UInt8) (hs:s.length+1≤M) (k:Nat) (be:Bool):Bk.Step N M st (Bk.leaf s k be st):=by
 have hadd:∀ (kind level:Nat) (t info:List UInt8),t.length≤N+M→Bk.Step N M st (Bk.add kind level t info 0 (Bk.shut k st)):=fun kind level t info ht =>
  ⟨(hok.shut k).add hs1 kind level t info 0,fun x hx=>(WT hx).elim (fun h=>by have:=QE x h;omega) (fun h=>by rw [h];exact ht),by simp [Bk.add,Bk.shut],by simp [Bk.add,Bk.shut],fun h=>absurd rfl h⟩
 have hlen:(Bk.add 4 0 (Fn.trim s) [] 0 (Bk.shut k st)).ns.length=st.ns.length+1:=by simp [Bk.add,Bk.shut]
 have Q2:Bk.Step N M st { Bk.add 4 0 (Fn.trim s) [] 0 (Bk.shut k st) with para:=some st.ns.length }:=by
  have h:=hadd 4 0 (Fn.trim s) [] (by have:=Fn.iR s;omega);exact ⟨⟨h.ok.pos,h.ok.opn,fun i hi=>by cases hi;rw [hlen];omega,h.ok.fence,h.ok.few,h.ok.small,h.ok.root⟩,h.texts,h.pls,h.nodes,h.top⟩
 unfold Bk.leaf
 split
 ·exact ⟨hok.shut k,fun x hx=>by have:=QE x hx;omega,by simp [Bk.shut],by simp [Bk.shut],fun h=>absurd rfl h⟩
 ·split
  ·rename_i n t hh
   exact hadd 5 n t [] (by have:=GH hh;omega)
  ·split
   ·exact hadd 6 0 [] [] (by simp)
   ·split
    ·rename_i f _
     have h:=hadd 7 0 [] f.info (by simp);have hl7:(Bk.add 7 0 [] f.info 0 (Bk.shut k st)).ns.length=st.ns.length+1:=by simp [Bk.add,Bk.shut]
     refine ⟨⟨h.ok.pos,h.ok.opn,h.ok.para,fun i hi=>by cases hi;rw [hl7];omega,h.ok.few,h.ok.small,h.ok.root⟩,h.texts,?_,h.nodes,fun _ ho=>?_⟩
     ·simp only
      split<;>simp
     ·have ho':st.opn.take k=[]:=ho
      simp only;rw [ho'];exact ⟨st.places,_,rfl⟩
    ·split
     ·rename_i p hp
      have hpl:=hok.para p hp;refine ⟨hok.bp p _,fun x hx=>?_,by simp,by simp only;rw [Bk.jc];omega,ZN⟩;rcases vb hx with h | h
      ·rw [h,List.getElem?_eq_getElem hpl]
       simp only [Option.map_some,Option.getD_some,List.length_append,List.length_cons];have:=QE _ (List.getElem_mem hpl);have:=Fn.iR s;omega
      ·have:=QE x h;omega
     ·exact Q2
theorem yM {st:Bk.St}:∀ (m:Nat) {p:Nat}{st':Bk.St}{s:List UInt8},Bk.Grown st p st'→st'.opn.length+m≤40→st.ns.length+2*(p+m)+2≤1000000000 →
  ∃ q,q≤p+m∧Bk.Grown st q (Bk.grow m st' s).1∧(Bk.grow m st' s).2.length≤s.length+3*m
 | 0,p,st',s,h,_,_=>⟨p,by omega,h,by simp [Bk.grow]⟩
 | m+1,p,st',s,h,hl,hs=>by
  unfold Bk.grow;cases ho:Bk.opener s with
  | none=>exact ⟨p,by omega,h,by simp⟩
  | some x =>
   obtain ⟨o,r⟩:=x;have hr:r.length≤s.length+3:=by
    unfold Bk.opener at ho
    split at ho
    ·rename_i q hq;cases ho;exact tT hq
    ·split at ho
     ·rename_i c n t hi;cases ho;exact Ea hi
     ·cases ho
   have hg:=h.push (by omega) (by have:=h.nodes;omega) o;obtain ⟨q,h1,h2,h3⟩:=yM m (s:=r) hg (by rw [F6];omega) (by omega);exact ⟨q,by omega,h2,by simp only;omega⟩
theorem Ad (n:Nat) (c:Bool) (ps:List Bk.Pl):(Bk.iK n c ps).length=ps.length:=by
 unfold Bk.iK;cases h:ps.getLast? with
 | none=>rfl
 | some p =>
  have hne:ps≠[]:=by intro e;subst e;cases h
  have:=List.length_pos_iff.2 hne;simp only [List.length_append,List.length_dropLast,List.length_singleton];omega
theorem Rp {i:Nat}{st:Bk.St}(h:Bk.Fit i st) (hi:i≤100000) (s:List UInt8) (hs:s.length≤300000):Bk.Fit (i+1) (Bk.text s st):=by
 have htl:=Vg st.opn s;have Ai:=h.ok.few;have agh:=h.nodes;have mD:∀ (T:List UInt8) (k:Nat),T.length≤300120→k≤st.opn.length→Bk.Fit (i+1) (Bk.below T k st):=by
  intro T k hT hk;have jm:∀ {st':Bk.St}{p:Nat}(s':List UInt8) (k':Nat) (be:Bool),Bk.Ok st'→(∀ x∈st'.ns,x.text.length≤i*1000000)→st'.ns.length≤st.ns.length+2*p→p≤40→st'.places.length≤i→(st'.fence≠none→st'.opn=[]→∃ r q,st'.places=r++[q])→s'.length≤400000→Bk.Fit (i+1) (Bk.leaf s' k' be st'):=by
   intro st' p s' k' be hok QE hns hp hpl ZN qm;have hst:=Nw hok QE (by omega) ZN s' (M:=500000) (by omega) k' be;exact ⟨hst.ok,fun x hx=>by have:=hst.texts x hx;omega,by have:=hst.pls;omega,by have:=hst.nodes;omega,hst.top⟩
  unfold Bk.below
  split
  ·rename_i hk4
   cases ho:Bk.opener T with
   | none=>exact jm (p:=0) T k false h.ok h.texts (by omega) (by omega) h.pls h.top (by omega)
   | some x =>
    obtain ⟨o,r⟩:=x;have hr:r.length≤T.length+3:=by
     unfold Bk.opener at ho
     split at ho
     ·rename_i q hq;cases ho;exact tT hq
     ·split at ho
      ·rename_i c n t hi;cases ho;exact Ea hi
      ·cases ho
    have hlk:(Bk.shut k st).opn.length=k:=by simp only [Bk.shut,List.length_take];omega
    have hg:=(Bk.Grown.shut h.ok k).push (by omega) (by simp only [Bk.shut];omega) o;obtain ⟨q,h1,h2,h3⟩:=yM (39-k) (s:=r) hg (by rw [F6];omega) (by omega);exact jm (p:=q) _ _ _ h2.ok (fun x hx=>(h2.texts x hx).elim (h.texts x) (fun e=>by rw [e];exact Nat.zero_le _)) h2.nodes (by omega) (by rw [h2.places];exact h.pls) (fun hf=>absurd h2.fence hf) (by omega)
  ·exact jm (p:=0) T k false h.ok h.texts (by omega) (by omega) h.pls h.top (by omega)
 have abx:∀ x∈st.ns,x.text.length≤(i+1)*1000000:=fun x hx=>by
  have:=h.texts x hx;rw [Nat.succ_mul];exact Nat.le_trans this (Nat.le_add_right _ _)
 unfold Bk.text
 split
 ·rename_i j hj
  split
  ·unfold Bk.fenced
   split
   ·refine ⟨⟨h.ok.pos,h.ok.opn,h.ok.para,(fun i hi=>by cases hi),h.ok.few,h.ok.small,h.ok.root⟩,abx,?_,by simp only;omega,fun hf=>absurd rfl hf⟩
    have:=h.pls;simp only
    split
    ·rw [Ad];omega
    ·omega
   ·have hjl:=h.ok.fence j hj
    refine ⟨h.ok.bp j _,fun x hx=>?_,by have:=h.pls;simp only;omega,by simp only;rw [Bk.jc];omega,h.top⟩;rcases vb hx with e | e
    ·rw [e,List.getElem?_eq_getElem hjl]
     simp only [Option.map_some,Option.getD_some,List.length_append,List.length_cons,List.length_nil];have:=h.texts _ (List.getElem_mem hjl);have:=Cl.gb (st.f.ind:Int) (Bk.take st.opn s).2;omega
    ·exact abx x e
  ·exact mD _ _ (by omega) htl.1
 ·exact mD _ _ (by omega) htl.1
theorem NL:Bk.Fit 0 Bk.start :=
 ⟨⟨by decide,(fun b hb=>by cases hb),(fun i hi=>by cases hi),(fun i hi=>by cases hi),by decide,by decide,fun j x i hj hi=>by
  rcases j with _ | j
  ·cases hj;cases hi
  ·simp [Bk.start] at hj⟩,fun x hx=>by simp only [Bk.start,List.mem_singleton] at hx;subst hx;exact Nat.zero_le _,by decide,by decide,fun hf=>absurd rfl hf⟩
end Go.Proofs.YtddkjkockbcamaaGreatDoor
namespace Go.Proofs.YtddkjkockbcamaaGreatDoor
open Go.RowKit
attribute [local go_sem] aD av aq
section
variable {w w':World}{B R:Nat}{E:Nat→Option Part}{rv lv pv:Value}{M:Mm}{x:MC}{row o:List MC}{l:Pb.Of}{ps:List Bk.Pl}
abbrev nZ (w:World) (R:Nat) (a1 a2 a3 a4 a5 a6 a7 a8:Value):World:=(((((((w.setCell ⟨R,1,none⟩ a1).setCell ⟨R,2,none⟩ a2).setCell ⟨R,3,none⟩ a3).setCell ⟨R,4,none⟩ a4).setCell ⟨R,5,none⟩ a5).setCell ⟨R,6,none⟩ a6).setCell ⟨R,7,none⟩ a7).setCell ⟨R,8,none⟩ a8
theorem nt {w0:World}(hb:Below B w0 w) (hR:B≤R) (a1 a2 a3 a4 a5 a6 a7 a8:Value):Below B w0 (nZ w R a1 a2 a3 a4 a5 a6 a7 a8) :=
 (((((((hb.setCell (p:=⟨R,1,none⟩) hR _).setCell (p:=⟨R,2,none⟩) hR _).setCell (p:=⟨R,3,none⟩) hR _).setCell (p:=⟨R,4,none⟩) hR _).setCell (p:=⟨R,5,none⟩) hR _).setCell (p:=⟨R,6,none⟩) hR _).setCell (p:=⟨R,7,none⟩) hR _).setCell (p:=⟨R,8,none⟩) hR _
theorem K5 {z0 z1 z2 z3 z4 z5 z6 z7 z8 z9:Value}{t:TypeId}(h:w.heap[R]? = some (.cells #[z0,z1,z2,z3,z4,z5,z6,z7,z8,z9] t (0,0))) (a1 a2 a3 a4 a5 a6 a7 a8:Value):(nZ w R a1 a2 a3 a4 a5 a6 a7 a8).heap[R]? = some (.cells #[z0,a1,a2,a3,a4,a5,a6,a7,a8,z9] t (0,0)):=by
 unfold nZ;have h1:(w.setCell ⟨R,1,none⟩ a1).heap[R]? = some (.cells #[z0,a1,z2,z3,z4,z5,z6,z7,z8,z9] t (0,0)):=heap_setCell_same w R 1 _ t a1 h;generalize hw1:(w.setCell ⟨R,1,none⟩ a1)=w1 at h1 ⊢;have h2:(w1.setCell ⟨R,2,none⟩ a2).heap[R]? = some (.cells #[z0,a1,a2,z3,z4,z5,z6,z7,z8,z9] t (0,0)):=heap_setCell_same w1 R 2 _ t a2 h1;generalize hw2:(w1.setCell ⟨R,2,none⟩ a2)=w2 at h2 ⊢;have h3:(w2.setCell ⟨R,3,none⟩ a3).heap[R]? = some (.cells #[z0,a1,a2,a3,z4,z5,z6,z7,z8,z9] t (0,0)):=heap_setCell_same w2 R 3 _ t a3 h2;generalize hw3:(w2.setCell ⟨R,3,none⟩ a3)=w3 at h3 ⊢;have h4:(w3.setCell ⟨R,4,none⟩ a4).heap[R]? = some (.cells #[z0,a1,a2,a3,a4,z5,z6,z7,z8,z9] t (0,0)):=heap_setCell_same w3 R 4 _ t a4 h3;generalize hw4:(w3.setCell ⟨R,4,none⟩ a4)=w4 at h4 ⊢;have h5:(w4.setCell ⟨R,5,none⟩ a5).heap[R]? = some (.cells #[z0,a1,a2,a3,a4,a5,z6,z7,z8,z9] t (0,0)):=heap_setCell_same w4 R 5 _ t a5 h4;generalize TX:(w4.setCell ⟨R,5,none⟩ a5)=w5 at h5 ⊢;have h6:(w5.setCell ⟨R,6,none⟩ a6).heap[R]? = some (.cells #[z0,a1,a2,a3,a4,a5,a6,z7,z8,z9] t (0,0)):=heap_setCell_same w5 R 6 _ t a6 h5;generalize hw6:(w5.setCell ⟨R,6,none⟩ a6)=w6 at h6 ⊢;have h7:(w6.setCell ⟨R,7,none⟩ a7).heap[R]? = some (.cells #[z0,a1,a2,a3,a4,a5,a6,a7,z8,z9] t (0,0)):=heap_setCell_same w6 R 7 _ t a7 h6;generalize hw7:(w6.setCell ⟨R,7,none⟩ a7)=w7 at h7 ⊢;have h8:(w7.setCell ⟨R,8,none⟩ a8).heap[R]? = some (.cells #[z0,a1,a2,a3,a4,a5,a6,a7,a8,z9] t (0,0)):=heap_setCell_same w7 R 8 _ t a8 h7;exact h8
theorem qY (a1 a2 a3 a4 a5 a6 a7 a8:Value):w.grownBy (nZ w R a1 a2 a3 a4 a5 a6 a7 a8) (some R) :=
 (((((((ay w ⟨R,1,none⟩ a1).trans (ay _ ⟨R,2,none⟩ a2)).trans (ay _ ⟨R,3,none⟩ a3)).trans (ay _ ⟨R,4,none⟩ a4)).trans (ay _ ⟨R,5,none⟩ a5)).trans (ay _ ⟨R,6,none⟩ a6)).trans (ay _ ⟨R,7,none⟩ a7)).trans (ay _ ⟨R,8,none⟩ a8)
theorem yL (h:cT w B E R rv lv pv M row l ps) (l':Pb.Of) {lv':Value}(hl:l'.lines=[]) (hlv:lv'=.slice none 0 0) :
  cT (nZ w R (.int .i64 (l'.kind:Int)) (.int .i64 (l'.line:Int)) lv' (.int .u8 (l'.op.c.toNat:Int)) (.int .i64 (l'.op.n:Int)) (.int .i64 (l'.op.ind:Int)) (.string (bs l'.op.info)) (.bool l'.ended)) B E R rv lv' pv M row l' ps:=by
 obtain ⟨hR1,_,hRh⟩:=h.hp.base (k:=.rd) rfl;have m8:=h.hp.wG (k:=.rd) (.blk R ⟨rS rv lv' pv l'⟩ 73) rfl (qY (.int .i64 (l'.kind:Int)) (.int .i64 (l'.line:Int)) lv' (.int .u8 (l'.op.c.toNat:Int)) (.int .i64 (l'.op.n:Int)) (.int .i64 (l'.op.ind:Int)) (.string (bs l'.op.info)) (.bool l'.ended)) ⟨hR1,K5 hRh _ _ _ _ _ _ _ _⟩ (fun _ e=>.inl e);refine ⟨m8.turn id (fun _ _ _ _ _ _ e=>e) (fun k a hk=>?_),h.good,h.old⟩;cases k with
 | rd=>exact ⟨a,hk,m8.holds .rd a hk,fun _ e=>e⟩
 | row=>exact ⟨a,hk,m8.holds .row a hk,fun _ e=>e⟩
 | kid i=>exact ⟨a,hk,m8.holds (.kid i) a hk,fun _ e=>e⟩
 | itm i=>exact ⟨a,hk,m8.holds (.itm i) a hk,fun _ e=>e⟩
 | pls=>exact ⟨a,hk,m8.holds .pls a hk,fun _ e=>e⟩
 | old i=>exact ⟨a,hk,m8.holds (.old i) a hk,fun _ e=>e⟩
 | ext i=>exact ⟨a,hk,m8.holds (.ext i) a hk,fun _ e=>e⟩
 | lns =>
  refine ⟨_,rfl,?_,?_⟩
  ·have:(Part.row 9 1 lv' l'.lines.length (aY l'.lines))=a:=Option.some.inj hk
   subst this;rw [hl,hlv];exact World.ownsRow_nil _ _ _ _
  ·intro g hg
   have:(Part.row 9 1 lv' l'.lines.length (aY l'.lines))=a:=Option.some.inj hk;subst this;rw [hlv] at hg;cases hg
end
abbrev ig (lv:Value) (l:Pb.Of):Array Value:=#[.int .i64 (l.kind:Int),.int .i64 (l.line:Int),lv,.int .u8 (l.op.c.toNat:Int),.int .i64 (l.op.n:Int),.int .i64 (l.op.ind:Int),.string (bs l.op.info),.bool l.ended]
theorem Rj (w:World) (B:Nat) (E:Nat→Option Part) (R:Nat) (rv lv pv:Value) (M:Mm) (row:List MC) (l:Pb.Of) (ps:List Bk.Pl) (h:cT w B E R rv lv pv M row l ps) (h4:l.kind≠4) (h7:l.kind≠7) :
  Calls Tryz.prog 83 #[Dw R] w fun e w'=>e=.returned (.tuple #[])∧cT w' B E R rv (.slice none 0 0) pv M row Pb.bB ps∧Below B w w':=by
 obtain ⟨hR1,hR2,hfr,c0,c1,c2,c3,c4,c5,c6,c7,c8,c9⟩:=aK h;have hlo:=h.hp.own (k:=.lns) rfl;obtain ⟨lA,lc,hlv,hlc⟩:=ak hlo;rw [hlv] at c3;have t4:((l.kind:Int)==4)=false:=by rw [beq_eq_false_iff_ne];omega
 have t7:((l.kind:Int)==7)=false:=by rw [beq_eq_false_iff_ne];omega
 have Ik:=yL h Pb.bB (lv':=.slice none 0 0) rfl rfl;have hB0:=nt (Below.refl B w) hR1 (.int .i64 (Pb.bB.kind:Int)) (.int .i64 (Pb.bB.line:Int)) (.slice none 0 0) (.int .u8 (Pb.bB.op.c.toNat:Int)) (.int .i64 (Pb.bB.op.n:Int)) (.int .i64 (Pb.bB.op.ind:Int)) (.string (bs Pb.bB.op.info)) (.bool Pb.bB.ended);have hA:=fun (o:Obj)=>cT.mk (Ik.hp.ext (aa _ o)) Ik.good Ik.old;have hB:=fun (o:Obj)=>hB0.trans ((aa _ o).mono (by have:=hB0.size;omega));clear Ik hB0;replace hA:=Lib.hid hA;replace hB:=Lib.hid hB;replace h:=Lib.hid h;replace hlv:=Lib.hid hlv;clear hlo c0 c9;go_enter Tryz.func83,Tryz.ntmps83;go_wp2_with fail;go_returns;exact ⟨rfl,hA.out _,hB.out _⟩
section
variable {w:World}{B R:Nat}{E:Nat→Option Part}{rv lv pv:Value}{M:Mm}{row:List MC}{l:Pb.Of}{ps:List Bk.Pl}
theorem G8 (h:cT w B E R rv lv pv M row l ps):∃ wq lA lc,lv=.slice lA l.lines.length lc∧l.lines.length≤lc ∧
  (nZ w R (.int .i64 0) (.int .i64 0) (.slice none 0 0) (.int .u8 0) (.int .i64 0) (.int .i64 0) (.string ⟨#[]⟩) (.bool false)).alloc (.cells (ig lv l) 70)=wq ∧
  cT wq B (eL (.blk w.heap.size (ig lv l) 70) E) R rv (.slice none 0 0) pv M row Pb.bB ps∧Below B w wq∧wq.heap.size=w.heap.size+1∧Row wq wq.heap.size 1 lA l.lines.length (aY l.lines) ∧
  wq.heap[w.heap.size]? = some (.cells (ig lv l) 70 (0,0)):=by
 obtain ⟨hR1,hR2,_⟩:=aK h;have hlo:=h.hp.own (k:=.lns) rfl;obtain ⟨lA,lc,hlv,hlc⟩:=ak hlo;have Ik:=yL h Pb.bB (lv':=.slice none 0 0) rfl rfl;have hB0:=nt (Below.refl B w) hR1 (.int .i64 0) (.int .i64 0) (.slice none 0 0) (.int .u8 0) (.int .i64 0) (.int .i64 0) (.string ⟨#[]⟩) (.bool false);have hz:(nZ w R (.int .i64 0) (.int .i64 0) (.slice none 0 0) (.int .u8 0) (.int .i64 0) (.int .i64 0) (.string ⟨#[]⟩) (.bool false)).heap.size=w.heap.size:=by simp [nZ,World.setCell]
 have hk:=hlo.kept (qY (.int .i64 0) (.int .i64 0) (.slice none 0 0) (.int .u8 0) (.int .i64 0) (.int .i64 0) (.string ⟨#[]⟩) (.bool false)) (by
  cases hv:lv.ownBlock with
  | none=>exact .inl rfl
  | some g=>exact .inr fun e=>by have:=h.hp.apart .lns .rd _ _ R rfl rfl (by rw [← e];exact hv) rfl;cases this)
 refine ⟨_,lA,lc,hlv,hlc,rfl,?_,hB0.alloc (by rw [hz];omega) _,by simp [hz],?_,?_⟩
 ·have:=Ik.jk (aa _ (.cells (ig lv l) 70)) (a:=.blk w.heap.size (ig lv l) 70) ⟨by omega,by
   have:=heap_alloc_new (nZ w R (.int .i64 0) (.int .i64 0) (.slice none 0 0) (.int .u8 0) (.int .i64 0) (.int .i64 0) (.string ⟨#[]⟩) (.bool false)) (.cells (ig lv l) 70);rw [hz] at this;exact this⟩ (fun g hg=>by cases hg;exact Nat.le_of_eq hz)
  exact this
 ·rw [hlv] at hk
  exact (Row.own hk).ext (aa _ _)
 ·have:=heap_alloc_new (nZ w R (.int .i64 0) (.int .i64 0) (.slice none 0 0) (.int .u8 0) (.int .i64 0) (.int .i64 0) (.string ⟨#[]⟩) (.bool false)) (.cells (ig lv l) 70)
  rw [hz] at this;exact this
end
def JA (b:Nat) (lv:Value) (l:Pb.Of) (u:World):Prop:=u.cell? ⟨b,1,none⟩=some (.int .i64 (l.line:Int))∧u.cell? ⟨b,2,none⟩=some lv∧u.cell? ⟨b,6,none⟩=some (.string (bs l.op.info))
theorem JA.of {b:Nat}{lv:Value}{l:Pb.Of}{u:World}{t:TypeId}(h:u.heap[b]? = some (.cells (ig lv l) t (0,0))):JA b lv l u:=⟨cell_of h rfl,cell_of h rfl,cell_of h rfl⟩
theorem JA.ext {b:Nat}{lv:Value}{l:Pb.Of}{u u':World}(h:JA b lv l u) (hb:Below u.heap.size u u') (hl:b<u.heap.size):JA b lv l u' :=
 ⟨(hb.cell (p:=⟨b,1,none⟩) hl).trans h.1,(hb.cell (p:=⟨b,2,none⟩) hl).trans h.2.1,(hb.cell (p:=⟨b,6,none⟩) hl).trans h.2.2⟩
theorem Lh (M:Mm) (kd:Nat) (t inf:List UInt8) (ln:Nat):TM M (.mk kd 0 t inf ln []) [.int .i64 (kd:Int),.int .i64 0,.string (bs t),.string (bs inf),.int .i64 (ln:Int),.slice none 0 0]:=by
 unfold TM;exact ⟨none,0,[],rfl,Nat.le_refl _,⟨rfl,fun h=>by cases h⟩,pP⟩
theorem Th (w:World) (B:Nat) (E:Nat→Option Part) (R:Nat) (rv lv pv:Value) (M:Mm) (x:MC) (o:List MC) (l:Pb.Of) (ps:List Bk.Pl) (h:cT w B E R rv lv pv M (x::o) l ps) (h4:l.kind=4) (hlen:o.length≤1000) (cX:x.c.all.length≤1000000000) (hN:l.lines.length≤1000000000) (hJ:(Pb.eK l.lines).length≤1000000000000) :
  Calls Tryz.prog 83 #[Dw R] w fun e w'=>e=.returned (.tuple #[])∧(∃ M' x',x'.c=x.c.add (Pb.lF l)∧cT w' B E R rv (.slice none 0 0) pv M' (x'::o) Pb.bB ps)∧Below B w w':=by
 obtain ⟨kd,ln,ls,op,en⟩:=l;cases (show kd=4 from h4);clear h4;simp only at hN hJ;obtain ⟨hR1,hR2,hfr,c0,c1,c2,c3,c4,c5,c6,c7,c8,c9⟩:=aK h;obtain ⟨wq,lA,lc,hlv,hlc,O9,hA,hB,hz,hrow,hlb⟩:=G8 h;obtain ⟨E',gC⟩:∃ E',eL (.blk w.heap.size (ig lv ⟨4,ln,ls,op,en⟩) 70) E=E':=⟨_,rfl⟩
 rw [gC] at hA;have qX:=eF hA;obtain ⟨g,c,jl,_⟩:=qX;have hla:=fun wz h=>fm wz B E' R rv (.slice none 0 0) pv M x o Pb.bB ps h g c jl hlen;have hadd:=fun wz h cs ht=>pH wz B E' R rv (.slice none 0 0) pv M x o Pb.bB ps h g c jl (Pb.lF ⟨4,ln,ls,op,en⟩) cs ht hlen cX;have hjn:=fun wz h=>MM ls lA lc wz h hlc hN hJ;have Eg:=Lh M 4 (Pb.eK ls) [] ln;obtain ⟨n,hn⟩:∃ n,ls.length=n:=⟨_,rfl⟩
 obtain ⟨J,Uz⟩:∃ J,Pb.eK ls=J:=⟨_,rfl⟩
 simp only at hlv hlc hrow;rw [hlv] at O9 gC hlb c3;rw [hn] at O9 hlb hlc c3 hrow hjn gC;rw [Uz] at hjn Eg;rw [show Pb.lF ⟨4,ln,ls,op,en⟩=.mk 4 0 J [] ln [] from by rw [← Uz];rfl] at hadd ⊢;obtain ⟨P,hP⟩:∃ P,o.length*9=P:=⟨_,rfl⟩
 rw [hP] at hla hadd;have hS:=JA.of hlb;replace h:=Lib.hid h;replace hA:=Lib.hid hA;replace gC:=Lib.hid gC;replace hlb:=Lib.hid hlb;replace hla:=Lib.hid hla;replace hadd:=Lib.hid hadd;replace hjn:=Lib.hid hjn;replace Eg:=Lib.hid Eg;replace hrow:=Lib.hid hrow;replace hn:=Lib.hid hn;replace Uz:=Lib.hid Uz;replace hlv:=Lib.hid hlv;replace O9:=Lib.hid O9;clear c0 c9 hJ hN;go_enter Tryz.func83,Tryz.ntmps83;go_wp2_with fail;change Code.wp _ _ _ _ (World.alloc (nZ w R (.int .i64 0) (.int .i64 0) (.slice none 0 0) (.int .u8 0) (.int .i64 0) (.int .i64 0) (.string ⟨#[]⟩) (.bool false)) (.cells (ig (.slice lA n lc) ⟨4,ln,ls,op,en⟩) 70));rw [O9.out];refine eH [(true,0),(true,2),(true,3),(true,5),(true,6),(false,1),(false,4),(true,7),(false,8)] (JA w.heap.size (.slice lA n lc) ⟨4,ln,ls,op,en⟩) hS (by kernel_rfl) (by kernel_rfl) (by kernel_rfl) (fun _ _ d _ _ h=>by cases d<;>exact h) ?_;have Px:=Lib.hid (cT.mk (hA.out.hp.ext (bC wq)) hA.out.good hA.out.old);have hdr:=Lib.hid (hrow.out.dr);have hdB:=hB.drew;have hdz:wq.drew.heap.size=w.heap.size+1:=hz;have T8:JA w.heap.size (.slice lA n lc) ⟨4,ln,ls,op,en⟩ wq.drew:=hS;generalize wq.drew=wr at Px hdr hdB hdz T8 ⊢;clear hS hz hB;have hAf:=O9.out;clear hAf
 repeat (first | refine bN rfl ?_ | (refine aO rfl ?_;intro K hK;go_simp;refine hK _ _ _ ?_;clear hK K))
 refine dy (.slice lA n lc) rfl rfl T8 (fun u hu=>by obtain ⟨u1,u2,u3⟩:=hu;go_simp) ?_
 repeat (first | refine bN rfl ?_ | (refine aO rfl ?_;intro K hK;go_simp;refine hK _ _ _ ?_;clear hK K))
 refine dy (.int .i64 (ln:Int)) rfl rfl T8 (fun u hu=>by obtain ⟨u1,u2,u3⟩:=hu;go_simp) ?_;refine aO rfl ?_;intro K hK;go_simp;refine (hla.out _ Px.out).mono ?_;rintro e w1 ⟨rfl,hb1⟩;have hS1:=T8.ext hb1 (by omega);refine aT hS1 (hK _ _ _ ?_);clear hK K;refine aO rfl ?_;intro K hK;go_simp;refine (hjn.out _ (hdr.out.ext hb1)).mono ?_;rintro e w2 ⟨rfl,hb2⟩;have iU:=hS1.ext hb2 (by have:=hb1.size;omega);refine aT iU (hK _ _ _ ?_);clear hK K;have Aq:=ag hb1 hb2;have AA:=cT.mk (Px.out.hp.ext Aq) Px.out.good Px.out.old
 repeat (first | refine bN rfl ?_ | (refine aO rfl ?_;intro K hK;go_simp;refine hK _ _ _ ?_;clear hK K))
 refine aO rfl ?_;intro K hK;go_simp;refine (hadd.out _ AA _ Eg.out).mono ?_;rintro e w3 ⟨rfl,⟨M',x',hx',dh⟩,hb3⟩;have fG:JA w.heap.size (.slice lA n lc) ⟨4,ln,ls,op,en⟩ w3:=JA.of (dh.hp.base (k:=.ext 0) (show E' 0=some (.blk w.heap.size (ig (.slice lA n lc) ⟨4,ln,ls,op,en⟩) 70) from by rw [← gC.out];rfl)).2.2;have TV:=Lib.hid ((hdB.trans (Aq.mono (by omega))).trans hb3);replace dh:=Lib.hid (by rw [← gC.out] at dh;exact dh.fP:cT w3 B E R rv (.slice none 0 0) pv M' (x'::o) Pb.bB ps);refine aT fG (hK _ _ _ ?_);clear hK K;refine jJ ?_;go_wp2_with fail;go_returns;exact ⟨rfl,⟨M',x',hx',dh.out⟩,TV.out⟩
def oW (p:Bk.Pl):Array Value:=#[.int .i64 (p.line:Int),.int .u8 (p.op.c.toNat:Int),.int .i64 (p.op.n:Int),.int .i64 (p.op.ind:Int),.string (bs p.op.info),.int .i64 (p.first:Int),.int .i64 (p.last:Int),.bool p.closed]
theorem Ji (lA:Option Addr) (lc ln n:Nat) (fc:UInt8) (fn fi:Nat) (fs:List UInt8) (en:Bool) (kd:Int) (w:World) (hl:ln≤1000000000) (hn:n≤1000000000) :
  Calls Tryz.prog 129 #[.agg #[.int .i64 kd,.int .i64 (ln:Int),.slice lA n lc,.int .u8 (fc.toNat:Int),.int .i64 (fn:Int),.int .i64 (fi:Int),.string (bs fs),.bool en]] w fun e w' =>
   e=.returned (.agg (oW ⟨ln,⟨fc,fn,fi,fs⟩,ln+1,ln+1+n,en⟩))∧Below w.heap.size w w':=by
 have e1:IntKind.i64.wrap ((ln:Int)+1)=(ln:Int)+1:=by unfold IntKind.wrap;simp [IntKind.bits,IntKind.signed];omega
 go_enter Tryz.func129,Tryz.ntmps129;go_wp2_with fail;have hcast:oW ⟨ln,⟨fc,fn,fi,fs⟩,ln+1,ln+1+n,en⟩=#[.int .i64 (ln:Int),.int .u8 (fc.toNat:Int),.int .i64 (fn:Int),.int .i64 (fi:Int),.string (bs fs),.int .i64 ((ln:Int)+1),.int .i64 ((ln:Int)+1+(n:Int)),.bool en]:=by
  unfold oW;simp
 rw [hcast];exact bodyPost_ret (v:=.agg #[.int .i64 (ln:Int),.int .u8 (fc.toNat:Int),.int .i64 (fn:Int),.int .i64 (fi:Int),.string (bs fs),.int .i64 ((ln:Int)+1),.int .i64 ((ln:Int)+1+(n:Int)),.bool en]) (by rw [kZ rfl];go_simp) rfl ⟨rfl,(aa w _).alloc (by simp) _⟩
theorem QB:EI Tryz.prog 71 185 8 72:=EI.mk' (z:=.agg #[.int .i64 0,.int .u8 0,.int .i64 0,.int .i64 0,.string ⟨#[]⟩,.int .i64 0,.int .i64 0,.bool false]) Tryz.underlying71 (by kernel_rfl) rfl (by omega)
def OD (R lb:Nat) (pv lv:Value) (l:Pb.Of) (u:World):Prop:=u.cell? ⟨R,9,none⟩=some pv∧u.heap[lb]? = some (.cells (ig lv l) 70 (0,0))
section
variable {w w':World}{B R:Nat}{E:Nat→Option Part}{rv lv pv:Value}{M:Mm}{row:List MC}{l:Pb.Of}{ps:List Bk.Pl}
theorem Gy (h:cT w B E R rv lv pv M row l ps) (p:Bk.Pl) {w3:World}{v:Value}(hown:w3.ownsRow B 185 8 v (ps.length+1) (gH ps++(oW p).toList)) (hg:w.grownBy w3 pv.ownBlock) (hat:At w.heap.size pv v) :
  B≤R∧R<w3.heap.size∧w3.cell? ⟨R,9,none⟩=some pv∧(∀ j,w3.frozen? ⟨R,j,none⟩=false)∧cT (w3.setCell ⟨R,9,none⟩ v) B E R rv lv v M row l (ps++[p]):=by
 have H1:=h.hp.wG (k:=.pls) (.row 185 8 v (ps.length+1) (gH ps++(oW p).toList)) rfl hg hown hat;obtain ⟨ME,RG,Xw⟩:=H1.base (k:=.rd) rfl;have m3:=H1.CM (k:=.rd) 9 v rfl;refine ⟨ME,RG,cell_of Xw rfl,bf Xw,m3.same fun j=>?_,h.good,h.old⟩;cases j with
 | pls =>
  show some (Part.row _ 8 v (ps++[p]).length (gH (ps++[p])))=_;rw [List.length_append,wC];rfl
 | rd=>rfl
 | _=>rfl
end
theorem NW (w:World) (B:Nat) (E:Nat→Option Part) (R:Nat) (rv lv pv:Value) (M:Mm) (x:MC) (o:List MC) (l:Pb.Of) (ps:List Bk.Pl) (h:cT w B E R rv lv pv M (x::o) l ps) (h4:l.kind=7) (hlen:o.length≤1000) (cX:x.c.all.length≤1000000000) (hN:l.lines.length≤1000000000) (hJ:(Ln.join l.lines [10]).length≤1000000000000)
  (wO:l.line≤1000000000) (hps:ps.length≤1000000000) (PL:List Bk.Pl) (hPL:PL=if o.length=0 then ps++[l.place] else ps) :
  Calls Tryz.prog 83 #[Dw R] w fun e w'=>e=.returned (.tuple #[])∧(∃ pv' M' x',x'.c=x.c.add (Pb.iL l)∧cT w' B E R rv (.slice none 0 0) pv' M' (x'::o) Pb.bB PL)∧Below B w w':=by
 obtain ⟨kd,ln,ls,op,en⟩:=l;cases (show kd=7 from h4);clear h4;simp only at hN hJ wO;obtain ⟨hR1,hR2,hfr,c0,c1,c2,c3,c4,c5,c6,c7,c8,c9⟩:=aK h;obtain ⟨wq,lA,lc,hlv,hlc,O9,hA,hB,hz,hrow,hlb⟩:=G8 h;obtain ⟨E',gC⟩:∃ E',eL (.blk w.heap.size (ig lv ⟨7,ln,ls,op,en⟩) 70) E=E':=⟨_,rfl⟩
 rw [gC] at hA;have qX:=eF hA;obtain ⟨g,c,jl,_⟩:=qX;have hla:=fun wz h=>fm wz B E' R rv (.slice none 0 0) pv M x o Pb.bB ps h g c jl hlen;have hadd:=fun wz h cs ht=>pH wz B E' R rv (.slice none 0 0) pv M x o Pb.bB ps h g c jl (Pb.iL ⟨7,ln,ls,op,en⟩) cs ht hlen cX;have hjn:=fun wz h=>RX ls [10] lA lc wz h (by omega) hJ;have Eg:=Lh M 7 (Ln.join ls [10]) op.info ln;obtain ⟨n,hn⟩:∃ n,ls.length=n:=⟨_,rfl⟩
 obtain ⟨J,Uz⟩:∃ J,Ln.join ls [10]=J:=⟨_,rfl⟩
 simp only at hlv hlc hrow;have hpl:=fun wz=>Ji lA lc ln n op.c op.n op.ind op.info en 7 wz wO (by omega);rw [show (Pb.Of.place ⟨7,ln,ls,op,en⟩:Bk.Pl)=⟨ln,op,ln+1,ln+1+n,en⟩ from by rw [← hn];rfl] at hPL;rw [hlv] at O9 gC hlb c3;rw [hn] at O9 hlb hlc c3 hrow hjn gC hN;rw [Uz] at hjn Eg hJ;rw [show Pb.iL ⟨7,ln,ls,op,en⟩=.mk 7 0 J op.info ln [] from by rw [← Uz];rfl] at hadd ⊢;obtain ⟨P,hP⟩:∃ P,o.length*9=P:=⟨_,rfl⟩
 rw [hP] at hla hadd;have hS:=JA.of hlb;replace h:=Lib.hid h;replace hA:=Lib.hid hA;replace gC:=Lib.hid gC;replace hlb:=Lib.hid hlb;replace hla:=Lib.hid hla;replace hadd:=Lib.hid hadd;replace hjn:=Lib.hid hjn;replace hpl:=Lib.hid hpl;replace Eg:=Lib.hid Eg;replace hrow:=Lib.hid hrow;replace hn:=Lib.hid hn;replace Uz:=Lib.hid Uz;replace hlv:=Lib.hid hlv;replace O9:=Lib.hid O9;clear c0 c9;go_enter Tryz.func83,Tryz.ntmps83;go_wp2_with fail;change Code.wp _ _ _ _ (World.alloc (nZ w R (.int .i64 0) (.int .i64 0) (.slice none 0 0) (.int .u8 0) (.int .i64 0) (.int .i64 0) (.string ⟨#[]⟩) (.bool false)) (.cells (ig (.slice lA n lc) ⟨7,ln,ls,op,en⟩) 70));rw [O9.out];refine eH [(true,0),(true,2),(true,3),(true,6),(true,7),(true,8),(true,9),(true,10),(false,1),(false,4),(false,5),(true,11),(false,12)] (JA w.heap.size (.slice lA n lc) ⟨7,ln,ls,op,en⟩) hS (by kernel_rfl) (by kernel_rfl) (by kernel_rfl) (fun _ _ d _ _ h=>by cases d<;>exact h) ?_;have Px:=Lib.hid (cT.mk (hA.out.hp.ext (bC wq)) hA.out.good hA.out.old);have hdr:=Lib.hid (hrow.out.dr);have hdB:=hB.drew;have hdz:wq.drew.heap.size=w.heap.size+1:=hz;have T8:JA w.heap.size (.slice lA n lc) ⟨7,ln,ls,op,en⟩ wq.drew:=hS;generalize wq.drew=wr at Px hdr hdB hdz T8 ⊢;clear hS hz hB
 repeat (first | refine bN rfl ?_ | (refine aO rfl ?_;intro K hK;go_simp;refine hK _ _ _ ?_;clear hK K))
 refine dy (.slice lA n lc) rfl rfl T8 (fun u hu=>by obtain ⟨u1,u2,u3⟩:=hu;go_simp) ?_
 repeat (first | refine bN rfl ?_ | (refine aO rfl ?_;intro K hK;go_simp;refine hK _ _ _ ?_;clear hK K))
 refine dy (.string (bs op.info)) rfl rfl T8 (fun u hu=>by obtain ⟨u1,u2,u3⟩:=hu;go_simp) ?_
 repeat (first | refine bN rfl ?_ | (refine aO rfl ?_;intro K hK;go_simp;refine hK _ _ _ ?_;clear hK K))
 refine dy (.int .i64 (ln:Int)) rfl rfl T8 (fun u hu=>by obtain ⟨u1,u2,u3⟩:=hu;go_simp) ?_;refine aO rfl ?_;intro K hK;go_simp;refine (hla.out _ Px.out).mono ?_;rintro e w1 ⟨rfl,hb1⟩;have hS1:=T8.ext hb1 (by omega);refine aT hS1 (hK _ _ _ ?_);clear hK K;refine aO rfl ?_;intro K hK;go_simp;refine (hjn.out _ (hdr.out.ext hb1)).mono ?_;rintro e w2 ⟨v2,rfl,hown2,hb2⟩;have iU:=hS1.ext hb2 (by have:=hb1.size;omega);obtain ⟨A2,c2',rfl,_⟩:=ak hown2;have hcv:=me (c:=c2') (Row.own hown2) 27 5 9 Tryz.underlying27 Tryz.underlying5 Tryz.underlying9;refine aT iU (hK _ _ _ ?_);clear hK K;have Aq:=ag hb1 hb2;have AA:=cT.mk (Px.out.hp.ext Aq) Px.out.good Px.out.old;replace hown2:=Lib.hid hown2;replace AA:=Lib.hid AA;refine aO rfl ?_;intro K hK;go_simp;refine aT iU (hK _ _ _ ?_);clear hK K
 repeat (first | refine bN rfl ?_ | (refine aO rfl ?_;intro K hK;go_simp;refine hK _ _ _ ?_;clear hK K))
 refine aO rfl ?_;intro K hK;go_simp;refine (hadd.out _ AA.out _ Eg.out).mono ?_;rintro e w3 ⟨rfl,⟨M',x',hx',dh⟩,hb3⟩;have P8:=(dh.hp.base (k:=.ext 0) (show E' 0=some (.blk w.heap.size (ig (.slice lA n lc) ⟨7,ln,ls,op,en⟩) 70) from by rw [← gC.out];rfl)).2.2;have fG:JA w.heap.size (.slice lA n lc) ⟨7,ln,ls,op,en⟩ w3:=JA.of P8;have TV:=Lib.hid ((hdB.trans (Aq.mono (by omega))).trans hb3);have aen:=aK dh;have KO:=dh.hp.own (k:=.pls) rfl;obtain ⟨pA,pc,D5,_⟩:=ak KO;obtain ⟨nn,hnn⟩:∃ nn,o.length=nn:=⟨_,rfl⟩
 obtain ⟨pZ,Pj,hfr3,d0,_,_,_,_,_,_,_,_,d9⟩:=aen;rw [jl,hnn] at d0;replace dh:=Lib.hid dh;replace KO:=Lib.hid KO;replace P8:=Lib.hid P8;refine aT fG (hK _ _ _ ?_);clear hK K;refine jJ ?_
 by_cases h0:nn=0
 ·subst h0
  rw [if_pos hnn] at hPL;rw [D5] at d9;have hPS:∀ u:World,u.heap.size=w3.heap.size→u.heap=w3.heap→OD R w.heap.size (.slice pA ps.length pc) (.slice lA n lc) ⟨7,ln,ls,op,en⟩ u:=fun u _ hu=>⟨by
   have:u.cell? ⟨R,9,none⟩=w3.cell? ⟨R,9,none⟩:=World.cell?_of_block (by rw [hu]);rw [this];exact d9,by rw [hu];exact P8.out⟩
  go_wp2_with fail;have MB:OD R w.heap.size (.slice pA ps.length pc) (.slice lA n lc) ⟨7,ln,ls,op,en⟩ w3.drew:=hPS _ rfl rfl;refine dG 11 [(true,0),(true,1),(true,2),(true,3),(true,4),(true,5),(false,6),(false,7),(false,8),(false,9),(false,10)] 0 .fin (OD R w.heap.size (.slice pA ps.length pc) (.slice lA n lc) ⟨7,ln,ls,op,en⟩) MB (by kernel_rfl) (by kernel_rfl) (by kernel_rfl) (fun _ _ d _ _ h=>by cases d<;>exact h) ?_;have iO:=Lib.hid (cT.mk (dh.out.hp.ext (bC w3)) dh.out.good dh.out.old);have tB:=Lib.hid TV.out.drew;obtain ⟨np,hnp⟩:∃ np,ps.length=np:=⟨_,rfl⟩
  rw [hnp] at MB D5 hps ⊢;obtain ⟨_,hw4,_⟩:=aK iO.out;have U5:=Part.lt (iO.out.hp.holds (.ext 0) _ (show E' 0=some (.blk w.heap.size (ig (.slice lA n lc) ⟨7,ln,ls,op,en⟩) 70) from by rw [← gC.out];rfl)) (g:=w.heap.size) rfl;generalize w3.drew=w4 at iO tB MB hw4 U5 ⊢;clear P8 hPS KO fG hfr3 d0 d9 Pj
  repeat (first | refine bS rfl ?_ | (refine aB rfl ?_;intro K hK;go_simp;refine hK _ _ _ ?_;clear hK K))
  refine b9 (.slice pA np pc) rfl rfl MB (fun u hu=>by obtain ⟨u1,u2⟩:=hu;go_simp) ?_;refine b9 (.agg (ig (.slice lA n lc) ⟨7,ln,ls,op,en⟩)) rfl rfl MB (fun u hu=>by
   obtain ⟨u1,u2⟩:=hu;have y0:=cell_of u2 (j:=0) rfl;have y1:=cell_of u2 (j:=1) rfl;have y2:=cell_of u2 (j:=2) rfl;have y3:=cell_of u2 (j:=3) rfl;have y4:=cell_of u2 (j:=4) rfl;have y5:=cell_of u2 (j:=5) rfl;have y6:=cell_of u2 (j:=6) rfl;have y7:=cell_of u2 (j:=7) rfl;clear u2;go_simp) ?_
  refine aB rfl ?_;intro K hK;go_simp;refine (hpl.out _).mono ?_;rintro e w5 ⟨rfl,hb5⟩;have hS5:OD R w.heap.size (.slice pA np pc) (.slice lA n lc) ⟨7,ln,ls,op,en⟩ w5:=⟨(hb5.cell (p:=⟨R,9,none⟩) hw4).trans MB.1,(hb5.block _ U5.2).trans MB.2⟩
  have hz5:=hb5.size;refine aT hS5 (hK _ _ _ ?_);clear hK K;have Ae:=Lib.hid (cT.mk (iO.out.hp.ext hb5) iO.out.good iO.out.old);have D9:=Lib.hid (tB.out.trans (hb5.mono (by have:=tB.out.size;omega)));obtain ⟨Z,hZ⟩:∃ Z:Array Value,oW ⟨ln,op,ln+1,ln+1+n,en⟩=Z:=⟨_,rfl⟩
  have hZ8:Z.size=1*8:=by rw [← hZ];rfl
  have Zc:∀ u∈Z.toList,u.oneCell'=true:=by rw [← hZ];unfold oW;intro u hu;simp at hu;rcases hu with rfl | rfl | rfl | rfl | rfl | rfl | rfl | rfl<;>rfl
  rw [show oW ⟨ln,⟨op.c,op.n,op.ind,op.info⟩,ln+1,ln+1+n,en⟩=#[.int .i64 (ln:Int),.int .u8 (op.c.toNat:Int),.int .i64 (op.n:Int),.int .i64 (op.ind:Int),.string (bs op.info),.int .i64 ((ln+1:Nat):Int),.int .i64 ((ln+1+n:Nat):Int),.bool en] from rfl];refine aB rfl ?_;intro K hK;obtain ⟨q1,ME⟩:∃ q1:Int,((ln+1:Nat):Int)=q1:=⟨_,rfl⟩
  obtain ⟨q2,RG⟩:∃ q2:Int,((ln+1+n:Nat):Int)=q2:=⟨_,rfl⟩
  rw [ME,RG];go_simp;rw [show #[Value.int .i64 (ln:Int),.int .u8 (op.c.toNat:Int),.int .i64 (op.n:Int),.int .i64 (op.ind:Int),.string (bs op.info),.int .i64 q1,.int .i64 q2,.bool en]=Z from by rw [← hZ,← ME,← RG];rfl];have IB:OD R w.heap.size (.slice pA np pc) (.slice lA n lc) ⟨7,ln,ls,op,en⟩ (w5.alloc (.cells Z 185)):=⟨((aa w5 _).cell (p:=⟨R,9,none⟩) (by show R<w5.heap.size;omega)).trans hS5.1,((aa w5 _).block _ (by omega)).trans hS5.2⟩
  refine aT IB (hK _ _ _ ?_);clear hK K;have abN:=Ae.out.hp.own (k:=.pls) rfl;rw [D5,hnp] at abN;have Wc:some R≠(Value.slice pA np pc).ownBlock:=fun e=>by
   have:=Ae.out.hp.apart .rd .pls _ _ R rfl rfl rfl (by rw [D5];exact e.symm);cases this
  have hlo:some w.heap.size≠(Value.slice pA np pc).ownBlock:=fun e=>by
   have:=Ae.out.hp.apart (.ext 0) .pls _ _ w.heap.size (show E' 0=some (.blk w.heap.size (ig (.slice lA n lc) ⟨7,ln,ls,op,en⟩) 70) from by rw [← gC.out];rfl) rfl rfl (by rw [D5];exact e.symm);cases this
  have hr5:=Row.kT w5 185 Z hZ8 rfl;have hBz:B≤w5.heap.size:=by have:=D9.out.size;omega
  refine aB rfl ?_;intro K hK;unfold aD;rw [if_pos (by rfl),if_neg (by simp)];refine eG (v:=.slice pA np pc) (.tmp 49) (.tmp 52) rfl QB rfl (abN.alloc _) rfl hr5 Zc (by omega) (by omega) (by simp;omega) ?_;intro v7 w7 kQ sY eA nY;obtain ⟨vA7,vc7,rfl,Zz⟩:=ak kQ;have DJ:OD R w.heap.size (.slice pA np pc) (.slice lA n lc) ⟨7,ln,ls,op,en⟩ w7:=⟨sY.out.cell IB.1 Wc,(sY.out.block _ (by simp;omega) hlo).trans IB.2⟩
  have BZ:=cT.mk (Ae.out.hp.ext (aa w5 (.cells Z 185))) Ae.out.good Ae.out.old;subst hZ;obtain ⟨Zb,hf2,hf3,hf4,Lx⟩:=Gy BZ ⟨ln,op,ln+1,ln+1+n,en⟩ (v:=.slice vA7 (np+1) vc7) (by rw [hnp];exact kQ) (by rw [D5];exact sY.out) (by rw [D5];exact nY.out);rw [D5] at hf3;replace Lx:=Lib.hid Lx;have Xs:=Lib.hid (((D9.out.alloc (by omega) _).trans eA).setCell (p:=⟨R,9,none⟩) Zb (.slice vA7 (np+1) vc7));refine aT DJ (hK _ _ _ ?_);clear hK K;refine aB rfl ?_;intro K hK;go_simp;refine aT DJ (hK _ _ _ ?_);clear hK K;refine aB rfl ?_;intro K hK;go_simp;refine aT DJ (hK _ _ _ ?_);clear hK K;refine iy rfl rfl ?_;go_simp;refine ⟨fun _=>True,trivial,aQ ?_⟩;go_wp2_with fail;go_returns;subst hPL;exact ⟨rfl,⟨_,M',x',hx',by have:=Lx.out;rw [← gC.out] at this;exact this.fP⟩,Xs.out⟩
 ·rw [if_neg (by omega)] at hPL
  subst hPL;have t1:(((nn:Int)+1)==1)=false:=by rw [beq_eq_false_iff_ne];omega
  go_wp2_with fail;go_returns;exact ⟨rfl,⟨pv,M',x',hx',by have:=dh.out;rw [← gC.out] at this;exact this.fP⟩,TV.out⟩
structure Pb.Sz (N i:Nat) (r:Pb.Rd):Prop where
 pos:0<r.row.length
 few:r.row.length≤41
 kids:∀ c∈r.row,c.all.length≤N
 itms:∀ c∈r.row,∀ s ln is,c.lst=some (s,ln,is)→is.length≤N
 sign:∀ c∈r.row,c.kind=3→c.sign≠0
 lines:r.leaf.lines.length≤i
 text:∀ s∈r.leaf.lines,s.length≤300010
 line:r.leaf.line≤1000000
 pls:r.places.length≤N
theorem BW {m:Nat}:∀ ls:List (List UInt8),(∀ s∈ls,s.length≤m)→(Pb.eK ls).length≤ls.length*(m+1)
 | [],_=>by simp [Pb.eK]
 | [x],h=>by have:=h x List.mem_cons_self;simp [Pb.eK];omega
 | x::y::r,h=>by
  have h1:=h x List.mem_cons_self;have ih:=BW (y::r) (fun s hs=>h s (List.mem_cons_of_mem _ hs));simp only [Pb.eK,List.length_append,List.length_cons,Nat.add_mul] at ih ⊢;omega
theorem BM {m:Nat}:∀ ls:List (List UInt8),(∀ s∈ls,s.length≤m)→(Ln.join ls [10]).length≤ls.length*(m+1)
 | [],_=>by simp [Ln.join]
 | x::r,h=>by
  have h1:=h x List.mem_cons_self;have ih:=BM r (fun s hs=>h s (List.mem_cons_of_mem _ hs));have e:Ln.join (x::r) [10]=x++[10]++Ln.join r [10]:=rfl;rw [e];simp only [List.length_append,List.length_cons,List.length_nil,Nat.add_mul] at ih ⊢;omega
theorem Pb.Sz.joins {N i:Nat}{r:Pb.Rd}(h:Pb.Sz N i r) (hi:i≤100000):(Pb.eK r.leaf.lines).length≤1000000000000∧(Ln.join r.leaf.lines [10]).length≤1000000000000:=by
 have h1:=BW _ h.text;have h2:=BM _ h.text;have h3:=h.lines;have h4:r.leaf.lines.length*(300010+1)≤100000*(300010+1):=Nat.mul_le_mul_right _ (by omega);omega
theorem LV (c:Pb.Cn) (t:Bk.Tree):(c.add t).all.length=c.all.length+1:=by
 show ((c.all++[t])++[]).length=_;simp
theorem pS {N i:Nat}{r:Pb.Rd}(h:Pb.Sz N i r) (t:Bk.Tree):Pb.Sz (N+1) i (Pb.bJ t r):=by
 unfold Pb.bJ;cases hr:r.row with
 | nil=>have:=h.pos;rw [hr] at this;simp at this
 | cons c o =>
  have hp:=h.pos;have hf:=h.few;rw [hr] at hp hf;have hm:∀ c'∈o,c'∈r.row:=fun c' hc'=>by rw [hr];exact List.mem_cons_of_mem _ hc'
  have hc:c∈r.row:=by rw [hr];exact List.mem_cons_self
  refine ⟨by simp,by simpa using hf,fun c' hc'=>?_,fun c' hc' s ln is e=>?_,fun c' hc'=>?_,h.lines,h.text,h.line,by have:=h.pls;show r.places.length≤_;omega⟩
  ·rcases List.mem_cons.1 hc' with rfl | hc'
   ·rw [LV];have:=h.kids c hc;omega
   ·have:=h.kids c' (hm c' hc');omega
  ·rcases List.mem_cons.1 hc' with rfl | hc'
   ·cases e
   ·have:=h.itms c' (hm c' hc') s ln is e;omega
  ·rcases List.mem_cons.1 hc' with rfl | hc'
   ·exact h.sign c hc
   ·exact h.sign c' (hm c' hc')
theorem Pb.Sz.mono {N i N' i':Nat}{r:Pb.Rd}(h:Pb.Sz N i r) (hN:N≤N') (hi:i≤i'):Pb.Sz N' i' r :=
 ⟨h.pos,h.few,fun c hc=>Nat.le_trans (h.kids c hc) hN,fun c hc s ln is e=>Nat.le_trans (h.itms c hc s ln is e) hN,h.sign,Nat.le_trans h.lines hi,h.text,h.line,Nat.le_trans h.pls hN⟩
theorem Pb.Sz.leaf {N i i':Nat}{r:Pb.Rd}(h:Pb.Sz N i r) (l:Pb.Of) (h1:l.lines.length≤i') (h2:∀ s∈l.lines,s.length≤300010) (h3:l.line≤1000000):Pb.Sz N i' { r with leaf:=l } :=
 ⟨h.pos,h.few,h.kids,h.itms,h.sign,h1,h2,h3,h.pls⟩
theorem Pb.Sz.bB {N i:Nat}{r:Pb.Rd}(h:Pb.Sz N i r) (i':Nat):Pb.Sz N i' { r with leaf:=Pb.bB }:=h.leaf Pb.bB (Nat.zero_le _) (fun s hs=>by cases hs) (Nat.zero_le _)
theorem mJ {N i:Nat}{r:Pb.Rd}(h:Pb.Sz N i r) (i':Nat):Pb.Sz (N+1) i' (Pb.ax r):=by
 unfold Pb.ax
 split
 ·exact (pS h _).bB i'
 ·split
  ·have h1:=(pS h (Pb.iL r.leaf)).bB i'
   refine ⟨h1.pos,h1.few,h1.kids,h1.itms,h1.sign,h1.lines,h1.text,h1.line,?_⟩;have:=h.pls;show (if r.row.length=1 then r.places++[r.leaf.place] else r.places).length≤_
   split
   ·simp;omega
   ·omega
  ·exact (h.bB i').mono (by omega) (Nat.le_refl _)
section
variable {w w':World}{B R:Nat}{E:Nat→Option Part}{rv lv pv:Value}{M:Mm}{d x:MC}{o:List MC}{l:Pb.Of}{ps:List Bk.Pl}
theorem Fk (h:cT w B E R rv lv pv M (d::x::o) l ps) {g c:Nat}(hg:rv=.slice (some ⟨g,0,none⟩) (o.length+1+1) c) :
  ∃ M',(∀ b a,M b=some a→M' b=some a)∧cT (w.setCell ⟨R,0,none⟩ (.slice (some ⟨g,0,none⟩) (o.length+1) c)) B E R (.slice (some ⟨g,0,none⟩) (o.length+1) c) lv pv M' (x::o) l ps ∧
   (∃ A n k,d.kv=.slice A n k)∧TM M' d.c.tree [.int .i64 (d.c.kind:Int),.int .i64 0,.string ⟨#[]⟩,.string ⟨#[]⟩,.int .i64 (d.c.line:Int),d.kv]:=by
 subst hg;obtain ⟨hR1,_,hRh⟩:=h.hp.base (k:=.rd) rfl;have m1:=h.hp.wG (k:=.rd) (.blk R ⟨rS (.slice (some ⟨g,0,none⟩) (o.length+1) c) lv pv l⟩ 73) rfl (ay w ⟨R,0,none⟩ (.slice (some ⟨g,0,none⟩) (o.length+1) c)) ⟨hR1,heap_setCell_same w R 0 _ _ _ hRh⟩ (fun _ e=>.inl e);have ho:=m1.own (k:=.row) ((aj _ _ (by simp)).trans rfl);have r9:=ownsRow_pop (xs:=aZ (x::o)) (last:=cE d) (by rw [cm];rfl) ho;have m2:=m1.wG (k:=.row) (.row 76 9 (.slice (some ⟨g,0,none⟩) (o.length+1) c) (o.length+1) (aZ (x::o))) ((aj _ _ (by simp)).trans rfl) (World.grownBy.refl _ _) r9 (fun _ e=>.inl e);obtain ⟨M1,h1,h2,⟨cs',h3,Sp⟩,h4⟩:=qW (o:=x::o) (x:=d) (M:=M) m2 (by
  rw [aj _ _ (by simp),aj _ _ (by simp)];show (jP (d::x::o) (x::o).length).bind cy=_;rw [dj];rfl) (fun b=>by rw [aj _ _ (by simp),aj _ _ (by simp)];rfl) h.old (h.good d List.mem_cons_self)
 have hk:gone (upd (upd (eU E R (.slice (some ⟨g,0,none⟩) (o.length+1+1) c) lv pv M (d::x::o) l ps) .rd (.blk R ⟨rS (.slice (some ⟨g,0,none⟩) (o.length+1) c) lv pv l⟩ 73)) .row (.row 76 9 (.slice (some ⟨g,0,none⟩) (o.length+1) c) (o.length+1) (aZ (x::o)))) M1 (.itm (x::o).length) (.kid (x::o).length)=some (.row 32 6 d.kv d.c.all.length (d.css.flatten++bD d.lv d.c.lst)):=by
  rw [bI (fun b e=>by cases e) (by simp),aj _ _ (by simp),aj _ _ (by simp)];show (jP (d::x::o) (x::o).length).map dQ=_;rw [dj];rfl
 obtain ⟨kA,kc,hkv,hkc⟩:=ak (h4.own hk);rw [hkv,← Sp] at hk;obtain ⟨M2,g1,g2,g3,g4⟩:=HV (M:=M1) h4 hk (fun b e=>by cases e) (fun b=>rfl) h2;refine ⟨M2,fun b a e=>g1 b a (h1 b a e),⟨g4.same fun j=>?_,fun y hy=>(h.good y (List.mem_cons_of_mem _ hy)).mono (fun b a e=>g1 b a (h1 b a e)),g2⟩,⟨kA,_,kc,hkv⟩,?_⟩
 ·cases j with
  | kid i =>
   by_cases hi:i=(x::o).length
   ·subst hi
    rw [DZ (fun b e=>by cases e)];show (jP (x::o) (x::o).length).map dQ=_;rw [rQ (Nat.le_refl _)];rfl
   ·rw [bI (fun b e=>by cases e) (by simpa using hi),bI (fun b e=>by cases e) (by simp),aj _ _ (by simp),aj _ _ (by simp)]
    show (jP (x::o) i).map dQ=(jP (d::x::o) i).map dQ;rw [sB d (x::o) hi]
  | itm i =>
   by_cases hi:i=(x::o).length
   ·subst hi
    rw [bI (fun b e=>by cases e) (by simp),DZ (fun b e=>by cases e)];show (jP (x::o) (x::o).length).bind cy=_;rw [rQ (Nat.le_refl _)];rfl
   ·rw [bI (fun b e=>by cases e) (by simp),bI (fun b e=>by cases e) (by simpa using hi),aj _ _ (by simp),aj _ _ (by simp)]
    show (jP (x::o) i).bind cy=(jP (d::x::o) i).bind cy;rw [sB d (x::o) hi]
  | row=>rw [bI (fun b e=>by cases e) (by simp),bI (fun b e=>by cases e) (by simp),upd_same];rfl
  | rd=>rw [bI (fun b e=>by cases e) (by simp),bI (fun b e=>by cases e) (by simp),aj _ _ (by simp),upd_same];rfl
  | old b=>rfl
  | _=>rw [bI (fun b e=>by cases e) (by simp),bI (fun b e=>by cases e) (by simp),aj _ _ (by simp),aj _ _ (by simp)];rfl
 ·rw [hkv]
  unfold Pb.Cn.tree TM;exact ⟨kA,kc,cs',rfl,hkc,g3,gV g1 h3⟩
end
theorem map_cons {row:List MC}{c:Pb.Cn}{o:List Pb.Cn}(h:row.map (·.c)=c::o):∃ x t,row=x::t∧x.c=c∧t.map (·.c)=o:=by
 cases row with
 | nil=>cases h
 | cons x t=>rw [List.map_cons] at h;exact ⟨x,t,rfl,(List.cons.inj h).1,(List.cons.inj h).2⟩
theorem zM (w:World) (B:Nat) (E:Nat→Option Part) (R:Nat) (r:Pb.Rd) (h:PS w B E R r) {N i:Nat}(hs:Pb.Sz N i r) (hN:N≤1000000000) (hi:i≤100000) :
  Calls Tryz.prog 83 #[Dw R] w fun e w'=>e=.returned (.tuple #[])∧PS w' B E R (Pb.ax r)∧Below B w w':=by
 obtain ⟨rv,lv,pv,M,row,hrow,hA⟩:=h;obtain ⟨hj1,hj2⟩:=hs.joins hi;cases hr:r.row with
 | nil=>have:=hs.pos;rw [hr] at this;simp at this
 | cons c o =>
  rw [hr] at hrow;obtain ⟨x,t,rfl,hx,ht⟩:=map_cons hrow;have hlen:t.length≤1000:=by
   have:=hs.few;rw [hr,← ht] at this;simp at this;omega
  have cX:x.c.all.length≤1000000000:=by
   have:=hs.kids c (by rw [hr];exact List.mem_cons_self);rw [hx];omega
  have hrl:r.row.length=t.length+1:=by rw [hr,← ht];simp
  by_cases h4:r.leaf.kind=4
  ·refine (Th w B E R rv lv pv M x t r.leaf r.places hA h4 hlen cX (by have:=hs.lines;omega) hj1).mono fun e w' ⟨e1,⟨M',x',hx',hA'⟩,hb⟩=>⟨e1,⟨rv,.slice none 0 0,pv,M',x'::t,?_,?_⟩,hb⟩
   ·unfold Pb.ax;rw [if_pos h4];simp [Pb.bJ,hr,hx',hx,ht]
   ·unfold Pb.ax;rw [if_pos h4];simp only [Pb.bJ,hr];exact hA'
  ·by_cases h7:r.leaf.kind=7
   ·refine (NW w B E R rv lv pv M x t r.leaf r.places hA h7 hlen cX (by have:=hs.lines;omega) hj2 (by have:=hs.line;omega) (by have:=hs.pls;omega) _ rfl).mono fun e w' ⟨e1,⟨pv',M',x',hx',hA'⟩,hb⟩=>⟨e1,⟨rv,.slice none 0 0,pv',M',x'::t,?_,?_⟩,hb⟩
    ·unfold Pb.ax;rw [if_neg h4,if_pos h7];simp [Pb.bJ,hr,hx',hx,ht]
    ·unfold Pb.ax;rw [if_neg h4,if_pos h7]
     have e2:(if r.row.length=1 then r.places++[r.leaf.place] else r.places)=if t.length=0 then r.places++[r.leaf.place] else r.places:=by
      by_cases h0:t.length=0
      ·rw [if_pos h0,if_pos (by omega)]
      ·rw [if_neg h0,if_neg (by omega)]
     show cT w' B E R rv _ pv' M' (x'::t) Pb.bB (if r.row.length=1 then r.places++[r.leaf.place] else r.places);rw [e2];exact hA'
   ·refine (Rj w B E R rv lv pv M (x::t) r.leaf r.places hA h4 h7).mono fun e w' ⟨e1,hA',hb⟩=>⟨e1,⟨rv,.slice none 0 0,pv,M,x::t,?_,?_⟩,hb⟩
    ·unfold Pb.ax;rw [if_neg h4,if_neg h7];rw [hrow,← hr]
    ·unfold Pb.ax;rw [if_neg h4,if_neg h7];exact hA'
theorem VQ {N i:Nat}{d c:Pb.Cn}{o:List Pb.Cn}{l:Pb.Of}{ps:List Bk.Pl}(h:Pb.Sz N i ⟨d::c::o,l,ps⟩):Pb.Sz (N+1) i ⟨Pb.give d c::o,l,ps⟩:=by
 have hc:c∈d::c::o:=by simp
 have hm:∀ c'∈o,c'∈d::c::o:=fun c' h=>by simp [h]
 have hk:=h.kids c hc;have hi:=h.itms c hc;have hall:c.kids.length≤c.all.length:=by unfold Pb.Cn.all;simp
 have h1:((Pb.give d c).all.length≤N+1∧(∀ s ln is,(Pb.give d c).lst=some (s,ln,is)→is.length≤N+1))∧(Pb.give d c).kind=c.kind∧(Pb.give d c).sign=c.sign:=by
  unfold Pb.give
  split
  ·have hone:∀ (l:List Bk.Tree) (t:Bk.Tree),(l++[t]).length=l.length+1:=fun l t=>by simp
   have hnew:(Pb.Cn.addItem d c={ c with kids:=c.all,lst:=some (d.sign,d.line,[d.tree]) })→((Pb.Cn.addItem d c).all.length≤N+1∧(∀ s ln is,(Pb.Cn.addItem d c).lst=some (s,ln,is)→is.length≤N+1))∧(Pb.Cn.addItem d c).kind=c.kind∧(Pb.Cn.addItem d c).sign=c.sign:=fun e=>by
    rw [e];refine ⟨⟨?_,fun s ln is e=>by cases e;simp⟩,rfl,rfl⟩;have:=hone c.all (.mk 2 0 [] [] d.line [d.tree]);show (c.all++[_]).length≤_;omega
   cases hl:c.lst with
   | none=>exact hnew (by unfold Pb.Cn.addItem;rw [hl])
   | some t =>
    obtain ⟨s,ln,is⟩:=t;have h3:=hi s ln is hl;have h4:c.all.length=c.kids.length+1:=by unfold Pb.Cn.all;rw [hl];simp [Pb.o7]
    by_cases hs:s=d.sign
    ·have e:Pb.Cn.addItem d c={ c with lst:=some (s,ln,is++[d.tree]) }:=by unfold Pb.Cn.addItem;rw [hl];exact if_pos hs
     rw [e];refine ⟨⟨?_,fun s ln is e=>by cases e;rw [hone];omega⟩,rfl,rfl⟩;have:=hone c.kids (.mk 2 0 [] [] ln (is++[d.tree]));show (c.kids++[_]).length≤_;omega
    ·exact hnew (by unfold Pb.Cn.addItem;rw [hl];exact if_neg hs)
  ·exact ⟨⟨by rw [LV];omega,fun s ln is e=>by cases e⟩,rfl,rfl⟩
 have hp:=h.pos;have hf:=h.few;simp only [List.length_cons] at hf;refine ⟨by simp,by simp only [List.length_cons];omega,fun c' hc'=>?_,fun c' hc' s ln is e=>?_,fun c' hc' e=>?_,h.lines,h.text,h.line,by have:=h.pls;exact Nat.le_trans this (by omega)⟩
 ·rcases List.mem_cons.1 hc' with rfl | hc'
  ·exact h1.1.1
  ·have:=h.kids c' (hm c' hc');omega
 ·rcases List.mem_cons.1 hc' with rfl | hc'
  ·exact h1.1.2 s ln is e
  ·have:=h.itms c' (hm c' hc') s ln is e;omega
 ·rcases List.mem_cons.1 hc' with rfl | hc'
  ·rw [h1.2.2];rw [h1.2.1] at e;exact h.sign c hc e
  ·exact h.sign c' (hm c' hc') e
theorem Cu:∀ (n:Nat) {N i:Nat}{row:List Pb.Cn}{l:Pb.Of}{ps:List Bk.Pl},Pb.Sz N i ⟨row,l,ps⟩→Pb.Sz (N+n) i ⟨Pb.nW n row,l,ps⟩
 | 0,_,_,_,_,_,h=>h
 | _+1,_,_,[],_,_,h=>absurd h.pos (by simp)
 | n+1,_,_,[c],_,_,h=>h.mono (by omega) (Nat.le_refl _)
 | n+1,N,_,d::c::o,_,_,h=>(Cu n (VQ h)).mono (by omega) (Nat.le_refl _)
theorem yK:∀ (n:Nat) (row:List Pb.Cn),n<row.length→(Pb.nW n row).length=row.length-n
 | 0,_,_=>rfl
 | _+1,[],h=>by simp at h
 | _+1,[c],h=>by simp at h
 | n+1,d::c::o,h=>by
  have:=yK n (Pb.give d c::o) (by simpa using h);rw [Pb.nW,this];simp
theorem AV:∀ (n:Nat) (row:List Pb.Cn),n+1<row.length→∃ d c o,Pb.nW n row=d::c::o∧Pb.nW (n+1) row=Pb.give d c::o
 | 0,[],h=>by simp at h
 | 0,[c],h=>by simp at h
 | 0,d::c::o,_=>⟨d,c,o,rfl,rfl⟩
 | _+1,[],h=>by simp at h
 | _+1,[c],h=>by simp at h
 | n+1,d::c::o,h=>AV n (Pb.give d c::o) (by simpa using h)
theorem eP {N i:Nat}{r:Pb.Rd}(h:Pb.Sz N i r) (k i':Nat):Pb.Sz (N+42) i' (Pb.aI k r):=by
 have h1:=mJ h i';have h2:=Cu ((Pb.ax r).row.length-k) (row:=(Pb.ax r).row) (l:=(Pb.ax r).leaf) (ps:=(Pb.ax r).places) h1;exact h2.mono (by have:=h1.few;omega) (Nat.le_refl _)
abbrev aM (d:Pb.Cn) (A:Option Addr) (n k:Nat):Array Value:=#[.int .i64 (d.kind:Int),.int .i64 0,.string ⟨#[]⟩,.string ⟨#[]⟩,.int .i64 (d.line:Int),.slice A n k,.int .u8 (d.sign.toNat:Int),.int .i64 (d.col:Int),.int .u8 (d.cU.toNat:Int)]
theorem Tk (w:World) (B:Nat) (E:Nat→Option Part) (R:Nat) (rv lv pv:Value) (M:Mm) (x:MC) (o:List MC) (l:Pb.Of) (ps:List Bk.Pl) (h:cT w B E R rv lv pv M (x::o) l ps) (g c:Nat) (hg:rv=.slice (some ⟨g,0,none⟩) (o.length+1) c)
  (d:Pb.Cn) (dA:Option Addr) (dn dk:Nat) (ht:TM M d.tree [.int .i64 (d.kind:Int),.int .i64 0,.string ⟨#[]⟩,.string ⟨#[]⟩,.int .i64 (d.line:Int),.slice dA dn dk]) (Ei:d.sign≠0) (hlen:o.length≤1000) (cX:x.c.all.length≤1000000000) (his:∀ s ln is,x.c.lst=some (s,ln,is)→is.length≤1000000000) :
  Calls Tryz.prog 85 #[.pointer (some ⟨g,o.length*9,none⟩),.agg (aM d dA dn dk)] w fun e w'=>e=.returned (.tuple #[])∧(∃ M' x',x'.c=Pb.Cn.addItem d x.c∧cT w' B E R rv lv pv M' (x'::o) l ps)∧Below B w w':=by
 have hnew:=fun hne=>NV w B E R rv lv pv M x o l ps h g c hg d.sign d.line hne d.tree (d.kind:Int) 0 [] [] dA dn dk ht (d.col:Int) d.cU hlen cX;cases hl:x.c.lst with
 | none =>
  have e:Pb.Cn.addItem d x.c={ x.c with kids:=x.c.all,lst:=some (d.sign,d.line,[d.tree]) }:=by unfold Pb.Cn.addItem;rw [hl]
  rw [e];exact hnew (by unfold Pb.Cn.cU;rw [hl];exact fun e=>Ei e.symm)
 | some q =>
  obtain ⟨s,ln,is⟩:=q
  by_cases hs:s=d.sign
  ·have e:Pb.Cn.addItem d x.c={ x.c with lst:=some (s,ln,is++[d.tree]) }:=by unfold Pb.Cn.addItem;rw [hl];exact if_pos hs
   rw [e];subst hs;exact (I9 w B E R rv lv pv M x o l ps h g c hg d.sign ln is hl d.tree (d.kind:Int) 0 (d.line:Int) [] [] dA dn dk ht (d.col:Int) d.cU hlen cX (his _ _ _ hl)).mono fun e w' ⟨e1,⟨x',hx',hA'⟩,hb⟩=>⟨e1,⟨M,x',hx',hA'⟩,hb⟩
  ·have e:Pb.Cn.addItem d x.c={ x.c with kids:=x.c.all,lst:=some (d.sign,d.line,[d.tree]) }:=by unfold Pb.Cn.addItem;rw [hl];exact if_neg hs
   rw [e];exact hnew (by unfold Pb.Cn.cU;rw [hl];exact hs)
def W9 (cb:Nat) (cs:Array Value) (u:World):Prop:=u.heap[cb]? = some (.cells cs 76 (0,0))
def Qd (R:Nat) (v:Value) (u:World):Prop:=u.cell? ⟨R,0,none⟩=some v
theorem je (w:World) (B:Nat) (E:Nat→Option Part) (R:Nat) (r:Pb.Rd) (h:PS w B E R r) {N i:Nat}(hs:Pb.Sz N i r) (hN:N≤900000000) (hi:i≤100000) (k:Nat) (hk:1≤k) :
  Calls Tryz.prog 53 #[Dw R,.int .i64 (k:Int)] w fun e w'=>e=.returned (.tuple #[])∧PS w' B E R (Pb.aI k r)∧Below B w w':=by
 have hcl:=zM w B E R r h hs (by omega) hi;have hs1:=mJ hs 0;have hto:Pb.aI k r={ Pb.ax r with row:=Pb.nW ((Pb.ax r).row.length-k) (Pb.ax r).row }:=rfl;rw [hto];clear hto;obtain ⟨q,hq⟩:∃ q,Pb.ax r=q:=⟨_,rfl⟩
 rw [hq] at hcl hs1 ⊢;obtain ⟨L,hL⟩:∃ L,q.row.length=L:=⟨_,rfl⟩
 have hL1:1≤L∧L≤41:=by rw [← hL];exact ⟨hs1.pos,hs1.few⟩
 rw [hL];have hsz:∀ j,Pb.Sz (N+1+j) 0 ⟨Pb.nW j q.row,q.leaf,q.places⟩:=fun j=>Cu j hs1;replace hcl:=Lib.hid hcl;replace hsz:=Lib.hid hsz;replace hL:=Lib.hid hL;go_enter Tryz.func53,Tryz.ntmps53;go_wp2_with fail;refine hcl.out.mono ?_;rintro e w1 ⟨rfl,h1,hb1⟩;have h1':=Lib.hid h1;have ow:=Lib.hid hb1;clear h1 hb1 hs1;go_wp2_with fail
 go_loopw [4] (fun _ wr=>∃ j:Nat,j≤L-k∧Hid (PS wr B E R { q with row:=Pb.nW j q.row })∧Hid (Below B w wr)) (fun _ wr=>match wr.cell? ⟨R,0,none⟩ with
  | some (.slice _ n _)=>n
  | _=>0)
 case atStart=>exact ⟨0,Nat.zero_le _,h1',ow⟩
 case round =>
  obtain ⟨j,hj,hP,hb⟩:=hrel;obtain ⟨rv,lv,pv,M,row,hrow,hA⟩:=hP.out;simp only at hrow hA;have sW:=yK j q.row (by rw [hL.out];omega);rw [hL.out] at sW;have hsj:=hsz.out j;rcases Nat.lt_or_eq_of_le hj with hlt | Pm
  ·obtain ⟨d,c,o,HI,hp2⟩:=AV j q.row (by rw [hL.out];omega)
   rw [HI] at hrow sW hsj;obtain ⟨x,t1,rfl,hx,ht1⟩:=map_cons hrow;obtain ⟨y,t,rfl,hy,ht⟩:=map_cons ht1;obtain ⟨g,cc,jl,hcc,hgR,hgB,mh,Po,qX⟩:=eF hA;obtain ⟨hR1,hR2,pU,c0,_⟩:=aK hA;have htl:t.length+2=L-j:=by
    have:t.length=o.length:=by rw [← ht];simp
    simp only [List.length_cons] at sW;omega
   obtain ⟨M2,hm2,AA,⟨dA,dn,dk,Iy⟩,Eg⟩:=Fk hA jl;clear AA Eg hm2 M2;obtain ⟨n,hn⟩:∃ n,t.length=n:=⟨_,rfl⟩
   have r9:=fun (wz:World) (E':Nat→Option Part) (hz:cT wz B E' R rv lv pv M (x::y::t) q.leaf q.places)=>Fk hz jl;have hla:=fun wz h=>fm wz B E R rv lv pv M x (y::t) q.leaf q.places h g cc jl (by simp;omega);have J9:=fun (E':Nat→Option Part) M' wz h=>fm wz B E' R (.slice (some ⟨g,0,none⟩) (t.length+1) cc) lv pv M' y t q.leaf q.places h g cc rfl (by omega);have Ei:=hsj.sign d (by simp);have DQ:=hsj.kids c (by simp);have hit:=hsj.itms c (by simp);have hadd:=fun (E':Nat→Option Part) M' wz h cs ht=>pH wz B E' R (.slice (some ⟨g,0,none⟩) (t.length+1) cc) lv pv M' y t q.leaf q.places h g cc rfl d.tree cs ht (by omega) (by rw [hy];omega);have RB:=fun (E':Nat→Option Part) M' wz h Ei ht=>Tk wz B E' R (.slice (some ⟨g,0,none⟩) (t.length+1) cc) lv pv M' y t q.leaf q.places h g cc rfl d dA dn dk ht Ei (by omega) (by rw [hy];omega) (fun s ln is e=>by rw [hy] at e;have:=hit s ln is e;omega);have xA:=fun (j:Nat) (u:Value) (hj:(aM d dA dn dk)[j]? = some u)=>qX j u (by
    have e:cE x=(aM d dA dn dk).toList:=by unfold cE;rw [hx,Iy]
    rw [e];simpa using hj)
   rw [jl] at c0;rw [hx] at r9;simp only [List.length_cons] at c0 hcc hla xA;rw [hn] at c0 hcc hla J9 hadd RB xA r9 htl;rw [hy] at hadd RB;have k0:=xA 0 _ rfl;have k1:=xA 1 _ rfl;have k2:=xA 2 _ rfl;have k3:=xA 3 _ rfl;have k4:=xA 4 _ rfl;have k5:=xA 5 _ rfl;have k6:=xA 6 _ rfl;have k7:=xA 7 _ rfl;have k8:=xA 8 _ rfl;obtain ⟨P,hPd⟩:∃ P,(n+1)*9=P:=⟨_,rfl⟩
   rw [hPd] at k0 k1 k2 k3 k4 k5 k6 k7 k8 hla;rw [Nat.add_zero] at k0;have hkn:(k:Int)<(n:Int)+1+1:=by omega
   replace hA:=Lib.hid hA;replace hla:=Lib.hid hla;replace J9:=Lib.hid J9;replace hadd:=Lib.hid hadd;replace RB:=Lib.hid RB;replace r9:=Lib.hid r9;replace Ei:=Lib.hid Ei;replace jl:=Lib.hid jl;replace Iy:=Lib.hid Iy;replace HI:=Lib.hid HI;replace hp2:=Lib.hid hp2;replace hx:=Lib.hid hx;replace hy:=Lib.hid hy;replace ht:=Lib.hid ht;replace hn:=Lib.hid hn;have afQ:n+2≤L-j:=by omega
   have aha:L-j≤n+2:=by omega
   clear qX Po xA DQ hit hrow ht1 hsj htl sW;go_wp2_with fail;refine (hla.out _ hA.out).mono ?_;rintro e w2 ⟨rfl,hb2⟩;have FG:=fun (j:Nat)=>hb2.cell (p:=⟨g,j,none⟩) mh;rw [← FG] at k0 k1 k2 k3 k4 k5 k6 k7 k8;have AA:=Lib.hid (cT.mk (hA.out.hp.ext hb2) hA.out.good hA.out.old);have hB2:=Lib.hid (hb.out.trans (hb2.mono (by omega)));have hc2:w2.cell? ⟨R,0,none⟩=_:=(hb2.cell (p:=⟨R,0,none⟩) hR2).trans c0;have hz2:=hb2.size;clear FG c0;go_wp2_with fail;have hbc:=aa w2 (.cells (aM d dA dn dk) 76);have dh:=AA.out.jk hbc (a:=.blk w2.heap.size (aM d dA dn dk) 76) ⟨by omega,heap_alloc_new w2 _⟩ (fun g hg=>by cases hg;exact Nat.le_refl _);have jy:=hB2.out.trans (hbc.mono (by omega));have hc3:(w2.alloc (.cells (aM d dA dn dk) 76)).cell? ⟨R,0,none⟩=_:=(hbc.cell (p:=⟨R,0,none⟩) (by show R<w2.heap.size;omega)).trans hc2;obtain ⟨E',gC⟩:∃ E',eL (.blk w2.heap.size (aM d dA dn dk) 76) E=E':=⟨_,rfl⟩
   rw [gC] at dh;have qh:E' 0=some (.blk w2.heap.size (aM d dA dn dk) 76):=by rw [← gC];rfl
   obtain ⟨cb,hcb⟩:∃ cb,w2.heap.size=cb:=⟨_,rfl⟩
   rw [hcb] at qh;generalize w2.alloc (.cells (aM d dA dn dk) 76)=w3 at dh jy hc3 ⊢;rw [hcb];have pZ:=aK dh;obtain ⟨_,Pj,XN,_⟩:=pZ;obtain ⟨M4,hm4,iO,_,Eg⟩:=r9.out w3.drew E' (cT.mk (dh.hp.ext (bC w3)) dh.good dh.old);rw [Iy.out] at Eg;have tB:=Lib.hid (jy.drew.setCell (p:=⟨R,0,none⟩) hR1 (.slice (some ⟨g,0,none⟩) (n+1) cc));have Ip:w3.drew.cell? ⟨R,0,none⟩=_:=hc3;have XD:∀ j,w3.drew.frozen? ⟨R,j,none⟩=false:=XN;have aaz:R<w3.drew.heap.size:=Pj;replace iO:=Lib.hid iO;replace Eg:=Lib.hid Eg;replace gC:=Lib.hid gC;replace hcb:=Lib.hid hcb;clear hc3 XN Pj dh jy hbc k0 k1 k2 k3 k4 k5 k6 k7 k8 hc2;have ahd:n+1≤cc:=by omega
   refine dG 14 [(true,0),(true,1),(true,2),(true,3),(true,4),(true,5),(true,6),(true,7),(true,8),(true,9),(true,10),(true,11),(false,12),(false,13)] 0 .fin (Qd R (.slice (some ⟨g,0,none⟩) (n+1+1) cc)) Ip (by kernel_rfl) (by kernel_rfl) (by kernel_rfl) (fun _ _ d _ _ h=>by cases d<;>exact h) ?_;generalize w3.drew=w4 at iO tB Ip XD aaz ⊢
   repeat (first | refine bS rfl ?_ | (refine aB rfl ?_;intro K hK;go_simp;refine hK _ _ _ ?_;clear hK K))
   refine b9 (.slice (some ⟨g,0,none⟩) (n+1+1) cc) rfl rfl Ip (fun u hu=>by unfold Qd at hu;go_simp) ?_
   repeat (first | refine bS rfl ?_ | (refine aB rfl ?_;intro K hK;go_simp;refine hK _ _ _ ?_;clear hK K))
   refine b9 (.slice (some ⟨g,0,none⟩) (n+1+1) cc) rfl rfl Ip (fun u hu=>by unfold Qd at hu;go_simp) ?_;have hnl:n≤1000:=by omega
   have hw1:IntKind.i64.wrap ((n:Int)+1)=(n:Int)+1:=by unfold IntKind.wrap;simp [IntKind.bits,IntKind.signed];omega
   have hn2:(0:Int)≤(n:Int)+1:=by omega
   have UO:(n:Int)+1≤(cc:Int):=by omega
   repeat (first | refine bS rfl ?_ | (refine aB rfl ?_;intro K hK;go_simp;refine hK _ _ _ ?_;clear hK K))
   refine aB rfl ?_;intro K hK;go_simp;refine aT (S:=Qd R (.slice (some ⟨g,0,none⟩) (n+1+1) cc)) Ip (hK _ _ _ ?_);clear hK K;refine aB rfl ?_;intro K hK;go_simp;refine aT (S:=Qd R (.slice (some ⟨g,0,none⟩) (n+1+1) cc)) Ip (hK _ _ _ ?_);clear hK K;refine iy rfl rfl ?_;go_simp;refine ⟨fun _=>True,trivial,aQ ?_⟩;generalize w4.setCell ⟨R,0,none⟩ (.slice (some ⟨g,0,none⟩) (n+1) cc)=w5 at iO tB ⊢;clear Ip XD aaz;obtain ⟨agT,ahf,Va⟩:=iO.out.hp.base (k:=.ext 0) qh;have i0:=cell_of Va (j:=0) rfl;have lX:W9 cb (aM d dA dn dk) w5.drew:=Va;have wE:=Lib.hid (cT.mk (iO.out.hp.ext (bC w5)) iO.out.good iO.out.old);have HP:=Lib.hid tB.out.drew;have hSr:∀ u,W9 cb (aM d dA dn dk) u→(u.cell? ⟨cb,0,none⟩=some (.int .i64 (d.kind:Int))∧u.cell? ⟨cb,1,none⟩=some (.int .i64 0)∧u.cell? ⟨cb,2,none⟩=some (.string ⟨#[]⟩)∧u.cell? ⟨cb,3,none⟩=some (.string ⟨#[]⟩)∧u.cell? ⟨cb,4,none⟩=some (.int .i64 (d.line:Int))∧u.cell? ⟨cb,5,none⟩=some (.slice dA dn dk)) ∧
     u.cell? ⟨cb,6,none⟩=some (.int .u8 (d.sign.toNat:Int))∧u.cell? ⟨cb,7,none⟩=some (.int .i64 (d.col:Int))∧u.cell? ⟨cb,8,none⟩=some (.int .u8 (d.cU.toNat:Int)):=fun u hu =>
    ⟨⟨cell_of hu rfl,cell_of hu rfl,cell_of hu rfl,cell_of hu rfl,cell_of hu rfl,cell_of hu rfl⟩,cell_of hu rfl,cell_of hu rfl,cell_of hu rfl⟩
   have aP:∀ (w8:World) (M5:Mm) (x':MC),x'.c=Pb.give d c→cT w8 B E' R (.slice (some ⟨g,0,none⟩) (n+1) cc) lv pv M5 (x'::t) q.leaf q.places→PS w8 B E R { q with row:=Pb.nW (j+1) q.row }∧w8.cell? ⟨R,0,none⟩=some (.slice (some ⟨g,0,none⟩) (n+1) cc):=by
    intro w8 M5 x' hx' AG;obtain ⟨_,_,_,c8,_⟩:=aK AG;rw [← gC.out] at AG;refine ⟨⟨_,lv,pv,M5,x'::t,?_,AG.fP⟩,c8⟩;show (x'::t).map (·.c)=Pb.nW (j+1) q.row;rw [hp2.out,List.map_cons,hx',ht.out]
   have hcr:wr.cell? ⟨R,0,none⟩=some (.slice (some ⟨g,0,none⟩) (n+1+1) cc):=by
    have:=(aK hA.out).2.2.2.1;rw [this,jl.out,List.length_cons,hn.out]
   replace hcr:=Lib.hid hcr;replace aP:=Lib.hid aP;replace Va:=Lib.hid Va;have aay:w5.drew.heap.size=w5.heap.size:=rfl
   by_cases hk3:d.kind=3
   ·have t3:((d.kind:Int)==3)=true:=by rw [beq_iff_eq];omega
    have hgv:Pb.give d c=Pb.Cn.addItem d c:=by unfold Pb.give;exact if_pos hk3
    have acV:=Ei.out hk3;go_wp2_with fail;refine eH [(true,0),(true,2),(false,1),(false,3)] (W9 cb (aM d dA dn dk)) lX (by kernel_rfl) (by kernel_rfl) (by kernel_rfl) (fun _ _ d _ _ h=>by cases d<;>exact h) ?_;generalize w5.drew=w6 at lX wE HP aay ⊢;clear i0
    repeat (first | refine bN rfl ?_ | (refine aO rfl ?_;intro K hK;go_simp;refine hK _ _ _ ?_;clear hK K))
    refine dy (.agg (aM d dA dn dk)) rfl rfl lX (fun u hu=>by obtain ⟨⟨v0,v1,v2,v3,v4,v5⟩,v6,v7,v8⟩:=hSr u hu;go_simp) ?_;refine aO rfl ?_;intro K hK;go_simp;refine (J9.out E' M4 w6 wE.out).mono ?_;rintro e w7 ⟨rfl,eA⟩;have DJ:W9 cb (aM d dA dn dk) w7:=(eA.block _ (by omega)).trans lX;refine aT DJ (hK _ _ _ ?_);clear hK K;have Y2:=cT.mk (wE.out.hp.ext eA) wE.out.good wE.out.old;refine aO rfl ?_;intro K hK;go_simp;refine (RB.out E' M4 w7 Y2 acV Eg.out).mono ?_;rintro e w8 ⟨rfl,⟨M5,x',hx',AG⟩,oE⟩;obtain ⟨KC,ZV⟩:=aP.out w8 M5 x' (hx'.trans hgv.symm) AG;have O2:W9 cb (aM d dA dn dk) w8:=(AG.hp.base (k:=.ext 0) qh).2.2;have Pc:=Lib.hid ((HP.out.trans (eA.mono (by have:=HP.out.size;omega))).trans oE);replace KC:=Lib.hid KC;replace AG:=Lib.hid AG;replace ZV:=Lib.hid ZV;refine aT O2 (hK _ _ _ ?_);clear hK K;refine jJ ?_;go_wp2_with fail
    go_roundw
    case rel=>exact ⟨j+1,by omega,KC,Pc⟩
    case measure=>rw [ZV.out,hcr.out];simp
   ·have t3:((d.kind:Int)==3)=false:=by rw [beq_eq_false_iff_ne];omega
    have hgv:Pb.give d c=c.add d.tree:=by unfold Pb.give;exact if_neg hk3
    go_wp2_with fail;refine eH [(true,0),(true,2),(true,3),(false,1),(false,4)] (W9 cb (aM d dA dn dk)) lX (by kernel_rfl) (by kernel_rfl) (by kernel_rfl) (fun _ _ d _ _ h=>by cases d<;>exact h) ?_;generalize w5.drew=w6 at lX wE HP aay ⊢;clear i0
    repeat (first | refine bN rfl ?_ | (refine aO rfl ?_;intro K hK;go_simp;refine hK _ _ _ ?_;clear hK K))
    refine dy (.agg #[.int .i64 (d.kind:Int),.int .i64 0,.string ⟨#[]⟩,.string ⟨#[]⟩,.int .i64 (d.line:Int),.slice dA dn dk]) rfl rfl lX (fun u hu=>by obtain ⟨⟨v0,v1,v2,v3,v4,v5⟩,v6,v7,v8⟩:=hSr u hu;go_simp) ?_;refine aO rfl ?_;intro K hK;go_simp;refine (J9.out E' M4 w6 wE.out).mono ?_;rintro e w7 ⟨rfl,eA⟩;have DJ:W9 cb (aM d dA dn dk) w7:=(eA.block _ (by omega)).trans lX;refine aT DJ (hK _ _ _ ?_);clear hK K;have Y2:=cT.mk (wE.out.hp.ext eA) wE.out.good wE.out.old;refine aO rfl ?_;intro K hK;go_simp;refine (hadd.out E' M4 w7 Y2 _ Eg.out).mono ?_;rintro e w8 ⟨rfl,⟨M5,x',hx',AG⟩,oE⟩;obtain ⟨KC,ZV⟩:=aP.out w8 M5 x' (hx'.trans hgv.symm) AG;have O2:W9 cb (aM d dA dn dk) w8:=(AG.hp.base (k:=.ext 0) qh).2.2;have Pc:=Lib.hid ((HP.out.trans (eA.mono (by have:=HP.out.size;omega))).trans oE);replace KC:=Lib.hid KC;replace AG:=Lib.hid AG;replace ZV:=Lib.hid ZV;refine aT O2 (hK _ _ _ ?_);clear hK K;refine jJ ?_;go_wp2_with fail
    go_roundw
    case rel=>exact ⟨j+1,by omega,KC,Pc⟩
    case measure=>rw [ZV.out,hcr.out];simp
  ·cases row with
   | nil=>rw [← hrow] at sW;simp at sW;omega
   | cons x t =>
    obtain ⟨g,cc,jl,_⟩:=eF hA;obtain ⟨hR1,hR2,pU,c0,_⟩:=aK hA;have htl:t.length+1=L-j:=by rw [← hrow] at sW;simpa using sW
    obtain ⟨n,hn⟩:∃ n,t.length=n:=⟨_,rfl⟩
    rw [jl,hn] at c0;rw [hn] at htl;have hkn:¬ (k:Int)<(n:Int)+1:=by omega
    have IE:=Lib.hid (by rw [Pm] at hP;exact hP:Hid (PS wr B E R { q with row:=Pb.nW (L-k) q.row }));have hl1:n+1≤L-j:=by omega
    replace hA:=Lib.hid hA;replace hrow:=Lib.hid hrow;replace hP:=Lib.hid hP;clear htl Pm sW jl hn;go_wp2_with fail;go_returns;exact ⟨rfl,IE.out.out,hb.out⟩
theorem tN (s:List UInt8) (E:Bool) (hE:Fn.emp s=E) (w:World) (hl:s.length≤140737488355328):Calls Tryz.prog 122 #[.string (bs s)] w fun e w'=>e=.returned (.bool E)∧w=w':=by
 subst hE;exact uN s w hl
theorem Kw (s:List UInt8) (C:Nat) (hC:Fn.cl s=C) (w:World) (hl:s.length≤140737488355328):∃ K:Nat,Calls Tryz.prog 181 #[.string (bs s)] w fun e w'=>e=.returned (.tuple #[.int .i64 (C:Int),.int .i64 (K:Int)])∧w=w':=by
 subst hC;exact ⟨_,mE s w hl⟩
theorem MU (d:Pb.Cn) (A:Option Addr) (n k:Nat) (s:List UInt8) (w:World) (hl:s.length+100≤140737488355328) :
  Calls Tryz.prog 148 #[.agg (aM d A n k),.string (bs s)] w fun e w'=>e=.returned (nc (if Fn.emp s=true then some s else if Fn.cl s<d.col then none else some (Cl.strip d.col s)))∧Below w.heap.size w w':=by
 obtain ⟨E,hE⟩:∃ E,Fn.emp s=E:=⟨_,rfl⟩
 obtain ⟨C,hC⟩:∃ C,Fn.cl s=C:=⟨_,rfl⟩
 have hem:=fun w=>tN s E hE w (by omega);have hin:=fun w=>Kw s C hC w (by omega);have hst:=fun w=>p8 s (d.col:Int) w (by omega);obtain ⟨T,hT⟩:∃ T,Cl.strip (d.col:Int) s=T:=⟨_,rfl⟩
 obtain ⟨Q,hQ⟩:∃ Q,nc (if Fn.emp s=true then some s else if Fn.cl s<d.col then none else some (Cl.strip d.col s))=Q:=⟨_,rfl⟩
 rw [hQ];rw [hE,hC,hT] at hQ;rw [hT] at hst;have hb:=aa w (.cells (aM d A n k) 76);have hn7:=cell_of (heap_alloc_new w (.cells (aM d A n k) 76)) (j:=7) rfl;obtain ⟨w1,hw1⟩:∃ w1,w.alloc (.cells (aM d A n k) 76)=w1:=⟨_,rfl⟩
 rw [hw1] at hb hn7;replace hw1:=Lib.hid hw1;cases E with
 | true =>
  rw [if_pos rfl] at hQ;subst hQ;clear hin hst;go_enter Tryz.func148,Tryz.ntmps148;go_wp2_with fail;rw [hw1.out];refine (hem _).mono ?_;rintro e w2 ⟨rfl,rfl⟩;go_wp2_with fail;go_ret2;exact ⟨rfl,hb⟩
 | false =>
  rw [if_neg (by simp)] at hQ;obtain ⟨K,hK⟩:=hin w1
  by_cases hlt:C<d.col
  ·rw [if_pos hlt] at hQ
   subst hQ;have hlt':(C:Int)<(d.col:Int):=by omega
   clear hin hst;go_enter Tryz.func148,Tryz.ntmps148;go_wp2_with fail;rw [hw1.out];refine (hem _).mono ?_;rintro e w2 ⟨rfl,rfl⟩;go_wp2_with fail;refine hK.mono ?_;rintro e w2 ⟨rfl,rfl⟩;go_wp2_with fail;go_ret2;exact ⟨rfl,hb⟩
  ·rw [if_neg hlt] at hQ
   subst hQ;have hlt':¬ (C:Int)<(d.col:Int):=by omega
   clear hin;go_enter Tryz.func148,Tryz.ntmps148;go_wp2_with fail;rw [hw1.out];refine (hem _).mono ?_;rintro e w2 ⟨rfl,rfl⟩;go_wp2_with fail;refine hK.mono ?_;rintro e w2 ⟨rfl,rfl⟩;go_wp2_with fail;refine (hst _).mono ?_;rintro e w2 ⟨rfl,hb2⟩;go_wp2_with fail;go_ret2;exact ⟨rfl,ag hb hb2⟩
theorem abj (d:Pb.Cn) (A:Option Addr) (n k:Nat) (s:List UInt8) (w:World) (hl:s.length+100≤140737488355328) :
  Calls Tryz.prog 116 #[.agg (aM d A n k),.string (bs s)] w fun e w'=>e=.returned (nc (d.take s))∧Below w.heap.size w w':=by
 have hq:=fun w=>yd s w hl;have hit:=fun w=>MU d A n k s w hl;have hb:=aa w (.cells (aM d A n k) 76);have hnew:=heap_alloc_new w (.cells (aM d A n k) 76);obtain ⟨w1,hw1⟩:∃ w1,w.alloc (.cells (aM d A n k) 76)=w1:=⟨_,rfl⟩
 rw [hw1] at hb hnew;have z0:=cell_of hnew (j:=0) rfl;have z1:=cell_of hnew (j:=1) rfl;have z2:=cell_of hnew (j:=2) rfl;have z3:=cell_of hnew (j:=3) rfl;have z4:=cell_of hnew (j:=4) rfl;have z5:=cell_of hnew (j:=5) rfl;have z6:=cell_of hnew (j:=6) rfl;have z7:=cell_of hnew (j:=7) rfl;have z8:=cell_of hnew (j:=8) rfl;replace hw1:=Lib.hid hw1;replace hnew:=Lib.hid hnew
 by_cases h1:d.kind=1
 ·have t1:((d.kind:Int)==1)=true:=by rw [beq_iff_eq];omega
  have e:d.take s=Lf.quote s:=by unfold Pb.Cn.take;exact if_pos h1
  rw [e];obtain ⟨qt,qo,hqf⟩:=uX (Lf.quote s);rw [hqf] at hq ⊢;clear hit;go_enter Tryz.func116,Tryz.ntmps116;go_wp2_with fail;rw [hw1.out];refine (hq _).mono ?_;rintro e w2 ⟨rfl,hb2⟩;go_wp2_with fail;go_ret2;exact ⟨rfl,ag hb hb2⟩
 ·have t1:((d.kind:Int)==1)=false:=by rw [beq_eq_false_iff_ne];omega
  by_cases h3:d.kind=3
  ·have t3:((d.kind:Int)==3)=true:=by rw [beq_iff_eq];omega
   have e:d.take s=if Fn.emp s=true then some s else if Fn.cl s<d.col then none else some (Cl.strip d.col s):=by unfold Pb.Cn.take;rw [if_neg h1];exact if_pos h3
   rw [e];obtain ⟨qt,qo,hqf⟩:=uX (if Fn.emp s=true then some s else if Fn.cl s<d.col then none else some (Cl.strip d.col s));rw [hqf] at hit ⊢;have hk3:(d.kind:Int)=3:=by omega
   simp only [aM] at hit;rw [hk3] at hit;replace hit:=Lib.hid hit;clear hq hk3;go_enter Tryz.func116,Tryz.ntmps116;go_wp2_with fail;rw [hw1.out];refine (hit.out _).mono ?_;rintro e w2 ⟨rfl,hb2⟩;go_wp2_with fail;go_ret2;exact ⟨rfl,ag hb hb2⟩
  ·have t3:((d.kind:Int)==3)=false:=by rw [beq_eq_false_iff_ne];omega
   have e:d.take s=some s:=by unfold Pb.Cn.take;rw [if_neg h1];exact if_neg h3
   rw [e];clear hq hit;go_enter Tryz.func116,Tryz.ntmps116;go_wp2_with fail;go_ret2;exact ⟨rfl,hw1.out▸hb⟩
def Qb (ln:Nat):Option (Option (UInt8×Nat)×List UInt8)→Value
 | none=>.tuple #[.agg (aM ⟨0,0,[],0,0,none⟩ none 0 0),.string ⟨#[]⟩,.bool false]
 | some (o,q)=>.tuple #[.agg (aM (Pb.fresh ln o) none 0 0),.string (bs q),.bool true]
def nine (w:World) (g:Nat) (a0 a1 a2 a3 a4 a5 a6 a7 a8:Value):World:=(((((((((w.setCell ⟨g,0,none⟩ a0).setCell ⟨g,1,none⟩ a1).setCell ⟨g,2,none⟩ a2).setCell ⟨g,3,none⟩ a3).setCell ⟨g,4,none⟩ a4).setCell ⟨g,5,none⟩ a5).setCell ⟨g,6,none⟩ a6).setCell ⟨g,7,none⟩ a7).setCell ⟨g,8,none⟩ a8)
theorem CC {w:World}{g:Nat}{z0 z1 z2 z3 z4 z5 z6 z7 z8:Value}{t:TypeId}(h:w.heap[g]? = some (.cells #[z0,z1,z2,z3,z4,z5,z6,z7,z8] t (0,0))) (a0 a1 a2 a3 a4 a5 a6 a7 a8:Value):(nine w g a0 a1 a2 a3 a4 a5 a6 a7 a8).heap[g]? = some (.cells #[a0,a1,a2,a3,a4,a5,a6,a7,a8] t (0,0)):=by
 unfold nine;have h1:(w.setCell ⟨g,0,none⟩ a0).heap[g]? = some (.cells #[a0,z1,z2,z3,z4,z5,z6,z7,z8] t (0,0)):=heap_setCell_same w g 0 _ t a0 h;generalize hw1:(w.setCell ⟨g,0,none⟩ a0)=w1 at h1 ⊢;have h2:(w1.setCell ⟨g,1,none⟩ a1).heap[g]? = some (.cells #[a0,a1,z2,z3,z4,z5,z6,z7,z8] t (0,0)):=heap_setCell_same w1 g 1 _ t a1 h1;generalize hw2:(w1.setCell ⟨g,1,none⟩ a1)=w2 at h2 ⊢;have h3:(w2.setCell ⟨g,2,none⟩ a2).heap[g]? = some (.cells #[a0,a1,a2,z3,z4,z5,z6,z7,z8] t (0,0)):=heap_setCell_same w2 g 2 _ t a2 h2;generalize hw3:(w2.setCell ⟨g,2,none⟩ a2)=w3 at h3 ⊢;have h4:(w3.setCell ⟨g,3,none⟩ a3).heap[g]? = some (.cells #[a0,a1,a2,a3,z4,z5,z6,z7,z8] t (0,0)):=heap_setCell_same w3 g 3 _ t a3 h3;generalize hw4:(w3.setCell ⟨g,3,none⟩ a3)=w4 at h4 ⊢;have h5:(w4.setCell ⟨g,4,none⟩ a4).heap[g]? = some (.cells #[a0,a1,a2,a3,a4,z5,z6,z7,z8] t (0,0)):=heap_setCell_same w4 g 4 _ t a4 h4;generalize TX:(w4.setCell ⟨g,4,none⟩ a4)=w5 at h5 ⊢;have h6:(w5.setCell ⟨g,5,none⟩ a5).heap[g]? = some (.cells #[a0,a1,a2,a3,a4,a5,z6,z7,z8] t (0,0)):=heap_setCell_same w5 g 5 _ t a5 h5;generalize hw6:(w5.setCell ⟨g,5,none⟩ a5)=w6 at h6 ⊢;have h7:(w6.setCell ⟨g,6,none⟩ a6).heap[g]? = some (.cells #[a0,a1,a2,a3,a4,a5,a6,z7,z8] t (0,0)):=heap_setCell_same w6 g 6 _ t a6 h6;generalize hw7:(w6.setCell ⟨g,6,none⟩ a6)=w7 at h7 ⊢;have h8:(w7.setCell ⟨g,7,none⟩ a7).heap[g]? = some (.cells #[a0,a1,a2,a3,a4,a5,a6,a7,z8] t (0,0)):=heap_setCell_same w7 g 7 _ t a7 h7;generalize Nu:(w7.setCell ⟨g,7,none⟩ a7)=w8 at h8 ⊢;have h9:(w8.setCell ⟨g,8,none⟩ a8).heap[g]? = some (.cells #[a0,a1,a2,a3,a4,a5,a6,a7,a8] t (0,0)):=heap_setCell_same w8 g 8 _ t a8 h8;exact h9
theorem rm {B:Nat}{w0 w:World}(hb:Below B w0 w) {g:Nat}(hg:B≤g) (a0 a1 a2 a3 a4 a5 a6 a7 a8:Value):Below B w0 (nine w g a0 a1 a2 a3 a4 a5 a6 a7 a8):=by
 unfold nine;exact (((((((((hb.setCell (p:=⟨g,0,none⟩) hg a0).setCell (p:=⟨g,1,none⟩) hg a1).setCell (p:=⟨g,2,none⟩) hg a2).setCell (p:=⟨g,3,none⟩) hg a3).setCell (p:=⟨g,4,none⟩) hg a4).setCell (p:=⟨g,5,none⟩) hg a5).setCell (p:=⟨g,6,none⟩) hg a6).setCell (p:=⟨g,7,none⟩) hg a7).setCell (p:=⟨g,8,none⟩) hg a8)
theorem VJ (ln:Nat) (s:List UInt8) (w:World) (hl:s.length+100≤140737488355328) :
  Calls Tryz.prog 119 #[.int .i64 (ln:Int),.string (bs s)] w fun e w'=>e=.returned (Qb ln (Bk.opener s))∧Below w.heap.size w w':=by
 have hq:=fun w=>yd s w hl;have hit:=fun w=>Oh s w hl;have hb0:=aa w (.cells #[.int .i64 0,.int .i64 0,.string ⟨#[]⟩,.string ⟨#[]⟩,.int .i64 0,.slice none 0 0,.int .u8 0,.int .i64 0,.int .u8 0] 76);have hn0:=heap_alloc_new w (.cells #[.int .i64 0,.int .i64 0,.string ⟨#[]⟩,.string ⟨#[]⟩,.int .i64 0,.slice none 0 0,.int .u8 0,.int .i64 0,.int .u8 0] 76);have hz0:(w.alloc (.cells #[.int .i64 0,.int .i64 0,.string ⟨#[]⟩,.string ⟨#[]⟩,.int .i64 0,.slice none 0 0,.int .u8 0,.int .i64 0,.int .u8 0] 76)).heap.size=w.heap.size+1:=by simp
 obtain ⟨w1,hw1⟩:∃ w1,w.alloc (.cells #[.int .i64 0,.int .i64 0,.string ⟨#[]⟩,.string ⟨#[]⟩,.int .i64 0,.slice none 0 0,.int .u8 0,.int .i64 0,.int .u8 0] 76)=w1:=⟨_,rfl⟩
 rw [hw1] at hb0 hn0 hz0;replace hw1:=Lib.hid hw1;cases Uc:Lf.quote s with
 | some q =>
  have e:Bk.opener s=some (none,q):=by unfold Bk.opener;rw [Uc]
  rw [e];rw [Uc] at hq;simp only [nc] at hq;clear hit e Uc;go_enter Tryz.func119,Tryz.ntmps119;go_wp2_with fail;rw [hw1.out];refine (hq _).mono ?_;rintro e w2 ⟨rfl,hb2⟩;have hn2:=(hb2.block w.heap.size (by omega)).trans hn0;have z0:=cell_of hn2 (j:=0) rfl;have z1:=cell_of hn2 (j:=1) rfl;have z2:=cell_of hn2 (j:=2) rfl;have z3:=cell_of hn2 (j:=3) rfl;have z4:=cell_of hn2 (j:=4) rfl;have z5:=cell_of hn2 (j:=5) rfl;have z6:=cell_of hn2 (j:=6) rfl;have z7:=cell_of hn2 (j:=7) rfl;have z8:=cell_of hn2 (j:=8) rfl;have zf:=bf hn2;have hb3:=hb0.trans (hb2.mono (by omega));replace hn2:=Lib.hid hn2;replace hn0:=Lib.hid hn0;go_wp2_with fail;have hW:=CC hn2.out (.int .i64 1) (.int .i64 0) (.string ⟨#[]⟩) (.string ⟨#[]⟩) (.int .i64 (ln:Int)) (.slice none 0 0) (.int .u8 0) (.int .i64 0) (.int .u8 0);have hBW:=rm hb3 (Nat.le_refl _) (.int .i64 1) (.int .i64 0) (.string ⟨#[]⟩) (.string ⟨#[]⟩) (.int .i64 (ln:Int)) (.slice none 0 0) (.int .u8 0) (.int .i64 0) (.int .u8 0);change bodyPost _ _ _ _ _ (nine w2 w.heap.size (.int .i64 1) (.int .i64 0) (.string ⟨#[]⟩) (.string ⟨#[]⟩) (.int .i64 (ln:Int)) (.slice none 0 0) (.int .u8 0) (.int .i64 0) (.int .u8 0));generalize (nine w2 w.heap.size (.int .i64 1) (.int .i64 0) (.string ⟨#[]⟩) (.string ⟨#[]⟩) (.int .i64 (ln:Int)) (.slice none 0 0) (.int .u8 0) (.int .i64 0) (.int .u8 0))=wz at hW hBW ⊢;have y0:=cell_of hW (j:=0) rfl;have y1:=cell_of hW (j:=1) rfl;have y2:=cell_of hW (j:=2) rfl;have y3:=cell_of hW (j:=3) rfl;have y4:=cell_of hW (j:=4) rfl;have y5:=cell_of hW (j:=5) rfl;have y6:=cell_of hW (j:=6) rfl;have y7:=cell_of hW (j:=7) rfl;have y8:=cell_of hW (j:=8) rfl;clear z0 z1 z2 z3 z4 z5 z6 z7 z8 zf;exact bodyPost_ret (v:=.tuple #[.agg #[.int .i64 1,.int .i64 0,.string ⟨#[]⟩,.string ⟨#[]⟩,.int .i64 (ln:Int),.slice none 0 0,.int .u8 0,.int .i64 0,.int .u8 0],.string (bs q),.bool true]) (by rw [cG rfl];go_simp) rfl ⟨rfl,hBW⟩
 | none =>
  rw [Uc] at hq;simp only [nc] at hq;cases Z3:Lf.item s with
  | none =>
   have e:Bk.opener s=none:=by unfold Bk.opener;rw [Uc,Z3]
   rw [e];rw [Z3] at hit;simp only [BY] at hit;clear e Uc Z3;go_enter Tryz.func119,Tryz.ntmps119;go_wp2_with fail;rw [hw1.out];refine (hq _).mono ?_;rintro e w2 ⟨rfl,hb2⟩;go_wp2_with fail;refine (hit _).mono ?_;rintro e w3 ⟨rfl,Qz⟩;replace hb2:=ag hb2 Qz;have hn2:=(hb2.block w.heap.size (by omega)).trans hn0;have z0:=cell_of hn2 (j:=0) rfl;have z1:=cell_of hn2 (j:=1) rfl;have z2:=cell_of hn2 (j:=2) rfl;have z3:=cell_of hn2 (j:=3) rfl;have z4:=cell_of hn2 (j:=4) rfl;have z5:=cell_of hn2 (j:=5) rfl;have z6:=cell_of hn2 (j:=6) rfl;have z7:=cell_of hn2 (j:=7) rfl;have z8:=cell_of hn2 (j:=8) rfl;have zf:=bf hn2;have hb3:=hb0.trans (hb2.mono (by omega));replace hn2:=Lib.hid hn2;replace hn0:=Lib.hid hn0;clear Qz;go_wp2_with fail;have hW:=CC hn2.out (.int .i64 0) (.int .i64 0) (.string ⟨#[]⟩) (.string ⟨#[]⟩) (.int .i64 0) (.slice none 0 0) (.int .u8 0) (.int .i64 0) (.int .u8 0);have hBW:=rm hb3 (Nat.le_refl _) (.int .i64 0) (.int .i64 0) (.string ⟨#[]⟩) (.string ⟨#[]⟩) (.int .i64 0) (.slice none 0 0) (.int .u8 0) (.int .i64 0) (.int .u8 0);change bodyPost _ _ _ _ _ (nine w3 w.heap.size (.int .i64 0) (.int .i64 0) (.string ⟨#[]⟩) (.string ⟨#[]⟩) (.int .i64 0) (.slice none 0 0) (.int .u8 0) (.int .i64 0) (.int .u8 0));generalize (nine w3 w.heap.size (.int .i64 0) (.int .i64 0) (.string ⟨#[]⟩) (.string ⟨#[]⟩) (.int .i64 0) (.slice none 0 0) (.int .u8 0) (.int .i64 0) (.int .u8 0))=wz at hW hBW ⊢;have y0:=cell_of hW (j:=0) rfl;have y1:=cell_of hW (j:=1) rfl;have y2:=cell_of hW (j:=2) rfl;have y3:=cell_of hW (j:=3) rfl;have y4:=cell_of hW (j:=4) rfl;have y5:=cell_of hW (j:=5) rfl;have y6:=cell_of hW (j:=6) rfl;have y7:=cell_of hW (j:=7) rfl;have y8:=cell_of hW (j:=8) rfl;clear z0 z1 z2 z3 z4 z5 z6 z7 z8 zf;exact bodyPost_ret (v:=.tuple #[.agg #[.int .i64 0,.int .i64 0,.string ⟨#[]⟩,.string ⟨#[]⟩,.int .i64 0,.slice none 0 0,.int .u8 0,.int .i64 0,.int .u8 0],.string ⟨#[]⟩,.bool false]) (by rw [cG rfl];go_simp) rfl ⟨rfl,hBW⟩
  | some it =>
   obtain ⟨sg,cn,q⟩:=it;have e:Bk.opener s=some (some (sg,cn),q):=by unfold Bk.opener;rw [Uc,Z3]
   rw [e];rw [Z3] at hit;simp only [BY] at hit;clear e Uc Z3;go_enter Tryz.func119,Tryz.ntmps119;go_wp2_with fail;rw [hw1.out];refine (hq _).mono ?_;rintro e w2 ⟨rfl,hb2⟩;go_wp2_with fail;refine (hit _).mono ?_;rintro e w3 ⟨rfl,Qz⟩;replace hb2:=ag hb2 Qz;have hn2:=(hb2.block w.heap.size (by omega)).trans hn0;have z0:=cell_of hn2 (j:=0) rfl;have z1:=cell_of hn2 (j:=1) rfl;have z2:=cell_of hn2 (j:=2) rfl;have z3:=cell_of hn2 (j:=3) rfl;have z4:=cell_of hn2 (j:=4) rfl;have z5:=cell_of hn2 (j:=5) rfl;have z6:=cell_of hn2 (j:=6) rfl;have z7:=cell_of hn2 (j:=7) rfl;have z8:=cell_of hn2 (j:=8) rfl;have zf:=bf hn2;have hb3:=hb0.trans (hb2.mono (by omega));replace hn2:=Lib.hid hn2;replace hn0:=Lib.hid hn0;clear Qz;go_wp2_with fail;have hW:=CC hn2.out (.int .i64 3) (.int .i64 0) (.string ⟨#[]⟩) (.string ⟨#[]⟩) (.int .i64 (ln:Int)) (.slice none 0 0) (.int .u8 (sg.toNat:Int)) (.int .i64 (cn:Int)) (.int .u8 0);have hBW:=rm hb3 (Nat.le_refl _) (.int .i64 3) (.int .i64 0) (.string ⟨#[]⟩) (.string ⟨#[]⟩) (.int .i64 (ln:Int)) (.slice none 0 0) (.int .u8 (sg.toNat:Int)) (.int .i64 (cn:Int)) (.int .u8 0);change bodyPost _ _ _ _ _ (nine w3 w.heap.size (.int .i64 3) (.int .i64 0) (.string ⟨#[]⟩) (.string ⟨#[]⟩) (.int .i64 (ln:Int)) (.slice none 0 0) (.int .u8 (sg.toNat:Int)) (.int .i64 (cn:Int)) (.int .u8 0));generalize (nine w3 w.heap.size (.int .i64 3) (.int .i64 0) (.string ⟨#[]⟩) (.string ⟨#[]⟩) (.int .i64 (ln:Int)) (.slice none 0 0) (.int .u8 (sg.toNat:Int)) (.int .i64 (cn:Int)) (.int .u8 0))=wz at hW hBW ⊢;have y0:=cell_of hW (j:=0) rfl;have y1:=cell_of hW (j:=1) rfl;have y2:=cell_of hW (j:=2) rfl;have y3:=cell_of hW (j:=3) rfl;have y4:=cell_of hW (j:=4) rfl;have y5:=cell_of hW (j:=5) rfl;have y6:=cell_of hW (j:=6) rfl;have y7:=cell_of hW (j:=7) rfl;have y8:=cell_of hW (j:=8) rfl;clear z0 z1 z2 z3 z4 z5 z6 z7 z8 zf;exact bodyPost_ret (v:=.tuple #[.agg #[.int .i64 3,.int .i64 0,.string ⟨#[]⟩,.string ⟨#[]⟩,.int .i64 (ln:Int),.slice none 0 0,.int .u8 (sg.toNat:Int),.int .i64 (cn:Int),.int .u8 0],.string (bs q),.bool true]) (by rw [cG rfl];go_simp) rfl ⟨rfl,hBW⟩
theorem zc {l q:List UInt8}(h:Lf.quote l=some q):q.length≤l.length+3:=by
 unfold Lf.quote at h;have hr:(Fn.rs l).length≤l.length:=by unfold Fn.rs;rw [List.length_drop];omega
 split at h
 ·cases h
 ·rename_i c r ED
  rw [ED,List.length_cons] at hr
  split at h
  ·cases h
   have:=Cl.gb 1 r;omega
  ·cases h
theorem u9 {d:Pb.Cn}{s q:List UInt8}(h:d.take s=some q):q.length≤s.length+3:=by
 unfold Pb.Cn.take at h
 split at h
 ·exact zc h
 ·split at h
  ·split at h
   ·cases h;omega
   ·split at h
    ·cases h
    ·cases h;have:=Cl.gb (d.col:Int) s;omega
  ·cases h;omega
theorem ZG {row:List MC}{i:Nat}(h:i<row.length):∃ x,jP row i=some x∧(row.map (·.c)).reverse[i]? = some x.c∧∀ j,j<9→(aZ row)[i*9+j]? = (cE x)[j]? := by
 induction row with
 | nil=>simp at h
 | cons y o ih =>
  by_cases hi:i=o.length
  ·subst hi
   refine ⟨y,dj y o,?_,fun j hj=>?_⟩
   ·rw [List.map_cons,List.reverse_cons,List.getElem?_append_right (by simp)];simp
   ·rw [aZ,List.getElem?_append_right (by rw [cm];omega),cm,Nat.add_sub_cancel_left]
  ·obtain ⟨x,h1,h2,h3⟩:=ih (by simp only [List.length_cons] at h;omega)
   simp only [List.length_cons] at h;refine ⟨x,by rw [sB y o hi];exact h1,?_,fun j hj=>?_⟩
   ·rw [List.map_cons,List.reverse_cons,List.getElem?_append_left (by simp;omega)];exact h2
   ·rw [aZ,List.getElem?_append_left (by rw [cm];omega)];exact h3 j hj
def Pb.vN (L:List Pb.Cn) (i:Nat) (s:List UInt8):Nat×List UInt8:=((Pb.take (L.drop i) s).1+i,(Pb.take (L.drop i) s).2)
theorem Oc {L:List Pb.Cn}{i:Nat}(h:¬ i<L.length) (s:List UInt8):Pb.vN L i s=(i,s):=by
 unfold Pb.vN;rw [List.drop_eq_nil_of_le (by omega)];simp [Pb.take]
theorem Pw {L:List Pb.Cn}{i:Nat}{d:Pb.Cn}(h:L[i]? = some d) (s:List UInt8):Pb.vN L i s=match d.take s with
  | none=>(i,s)
  | some q=>Pb.vN L (i+1) q:=by
 obtain ⟨hi,e⟩:=List.getElem?_eq_some_iff.1 h;unfold Pb.vN;rw [List.drop_eq_getElem_cons hi,e,Pb.take];cases d.take s with
 | none=>simp
 | some q=>simp only;rw [Nat.add_assoc,Nat.add_comm 1 i]
theorem PT (w:World) (B:Nat) (E:Nat→Option Part) (R:Nat) (rv lv pv:Value) (M:Mm) (row:List MC) (l:Pb.Of) (ps:List Bk.Pl) (h:cT w B E R rv lv pv M row l ps) (hrl:row.length≤41) (s:List UInt8) (hs:s.length+1000≤140737488355328) :
  Calls Tryz.prog 78 #[Dw R,.string (bs s)] w fun e w'=>e=.returned (.tuple #[.int .i64 ((Pb.take (row.map (·.c)).reverse s).1:Int),.string (bs (Pb.take (row.map (·.c)).reverse s).2)])∧Below w.heap.size w w':=by
 obtain ⟨hR1,hR2,pU,c0,_⟩:=aK h;have ho:=h.hp.own (k:=.row) rfl;obtain ⟨rA,rc,jl,hrc⟩:=ak ho;rw [jl] at c0 ho;have hat:=fun i (hi:i<row.length)=>ZG hi;have hkv:=fun i x (hx:jP row i=some x)=>ak (h.hp.own (k:=.kid i) (by show (jP row i).map dQ=some (dQ x);rw [hx];rfl));obtain ⟨L,hL⟩:∃ L,(row.map (·.c)).reverse=L:=⟨_,rfl⟩
 have HO:L.length=row.length:=by rw [← hL];simp
 rw [hL] at hat ⊢;obtain ⟨T,hT⟩:∃ T,Pb.take L s=T:=⟨_,rfl⟩
 rw [hT];have TT:Pb.vN L 0 s=T:=by rw [← hT];simp [Pb.vN]
 obtain ⟨n,hn⟩:∃ n,row.length=n:=⟨_,rfl⟩
 rw [hn] at c0 ho hrl hrc hat HO;have hr:=Row.own ho;have hrow:0<n→∃ b,rA=some ⟨b,0,none⟩∧b<w.heap.size∧∀ j u,(aZ row)[j]? = some u→w.cell? ⟨b,j,none⟩=some u:=fun h0=>by
  obtain ⟨g,c,cur,hv,_,_,hw,_⟩:=iI ho h0;cases hv;exact ⟨g,rfl,(Array.getElem?_eq_some_iff.1 hw).1,fun j u hj=>jf ho hj⟩
 replace h:=Lib.hid h;replace TT:=Lib.hid TT;clear hT hr ho hn pU;go_enter Tryz.func78,Tryz.ntmps78;go_wp2_with fail
 go_loopw [1,15] (fun t u wr=>∃ (i:Nat) (q:List UInt8),i≤n∧t=.string (bs q)∧u=.int .i64 (i:Int)∧q.length≤s.length+3*i∧Hid (Pb.vN L i q=T)∧Hid (Below w.heap.size w wr)) (fun _ u _=>n-(intOf u).toNat)
 case atStart=>exact ⟨0,s,Nat.zero_le _,rfl,rfl,by omega,TT,Lib.hid (Below.refl _ _)⟩
 case round =>
  obtain ⟨i,q,hi,rfl,rfl,hq,hTi,hb⟩:=hrel;rcases Nat.lt_or_eq_of_le hi with hlt | hie
  ·obtain ⟨x,hx1,hx2,hx3⟩:=hat i hlt
   obtain ⟨b,rfl,nS,hbc⟩:=hrow (by omega);obtain ⟨kA,kc,aaq,_⟩:=hkv i x hx1;have xA:=fun (j:Nat) (u:Value) (hj:(aM x.c kA x.c.all.length kc)[j]? = some u)=>(hb.out.cell (p:=⟨b,i*9+j,none⟩) nS).trans (hbc (i*9+j) u (by
    have e:cE x=(aM x.c kA x.c.all.length kc).toList:=by unfold cE;rw [aaq]
    have hj9:j<9:=(Array.getElem?_eq_some_iff.1 hj).1;rw [hx3 j hj9,e];simpa using hj))
   have k0:=xA 0 _ rfl;have k1:=xA 1 _ rfl;have k2:=xA 2 _ rfl;have k3:=xA 3 _ rfl;have k4:=xA 4 _ rfl;have k5:=xA 5 _ rfl;have k6:=xA 6 _ rfl;have k7:=xA 7 _ rfl;have k8:=xA 8 _ rfl;rw [Nat.add_zero] at k0;have hF:=Pw hx2 q;rw [hTi.out] at hF;have htl:=fun q' (e:x.c.take q=some q')=>Go.Proofs.YtddkjkockbcamaaGreatDoor.u9 e;have hnl:n≤rc:=hrc;have HF:=fun w=>abj x.c kA x.c.all.length kc q w (by omega);obtain ⟨d,hd⟩:∃ d,x.c=d:=⟨_,rfl⟩
   obtain ⟨kn,hkn⟩:∃ kn,d.all.length=kn:=⟨_,rfl⟩
   rw [hd] at k0 k4 k5 k6 k7 k8 HF hF htl;rw [hkn] at k5 HF;replace HF:=Lib.hid HF;replace hF:=Lib.hid hF;have hbz:=hb.out.size;have hi0:(0:Int)≤(i:Int):=by omega
   have hi1:(i:Int)<(n:Int):=by omega
   clear xA hx1 hx2 hx3 aaq hd hkn hbc hat hkv hrow;have hba:=aa wr (.cells (aM d kA kn kc) 76);have hna:=heap_alloc_new wr (.cells (aM d kA kn kc) 76);cases htk:d.take q with
   | none =>
    have hF':=hF.out;rw [htk] at HF hF';simp only [nc] at HF hF';replace hF':=Lib.hid hF';go_wp2_with fail;refine (HF.out _).mono ?_;rintro e w2 ⟨rfl,hb2⟩;have qF:=Lib.hid (hb.out.trans ((ag hba hb2).mono hbz));go_wp2_with fail;go_ret2;exact ⟨by rw [hF'.out];rfl,qF.out⟩
   | some q' =>
    have hF':=hF.out;have ag5:=htl q' htk;rw [htk] at HF hF';simp only [nc] at HF hF';replace hF':=Lib.hid hF'.symm;go_wp2_with fail;refine (HF.out _).mono ?_;rintro e w2 ⟨rfl,hb2⟩;have qF:=Lib.hid (hb.out.trans ((ag hba hb2).mono hbz));clear htl;go_wp2_with fail
    go_roundw
    case rel=>exact ⟨i+1,q',by omega,rfl,by go_num,by omega,hF',qF⟩
    case measure=>simp [intOf];omega
  ·have hF':=hTi.out
   rw [Oc (by omega)] at hF';have Za:wr.cell? ⟨R,0,none⟩=some (.slice rA n rc):=(hb.out.cell (p:=⟨R,0,none⟩) hR2).trans c0;subst hie;replace hF':=Lib.hid hF';clear hat hkv hrow c0;go_wp2_with fail;go_ret2;exact ⟨by rw [← hF'.out];rfl,hb.out⟩
theorem wK {P:Program}{w:World}{T ty:TypeId}{E:TypeId}{size bytes:Nat}(hE:EI P T E size bytes) {base n:Nat}{v:Value}{xs:List Value}(hown:w.ownsRow base E size v n xs)
  {B m c:Nat}{A:Option Addr}{news:List Value}(hr:Row w B size A m news) (h1:∀ u∈news,u.oneCell'=true) (h63:n+m≤1000000000) (hbytes:bytes≤100000) (hbase:base≤w.heap.size) :
  ∃ v' w',(Builtin.append_ #[T,T] ty #[v,.slice A m c]).run P w=.ok v' w'∧w'.ownsRow base E size v' (n+m) (xs++news)∧w.grownBy w' v.ownBlock∧At w.heap.size v v':=by
 obtain ⟨i,z,hi,hz,hs1,hs2,OE⟩:=hE.info;rcases Nat.eq_zero_or_pos m with h0 | h0
 ·subst h0
  have hn:news=[]:=List.eq_nil_of_length_eq_zero (by simpa using hr.1);subst hn;refine ⟨v,w,?_,by simpa using hown,World.grownBy.refl w _,fun _ h=>.inl h⟩;rcases A with _ | ad
  ·rcases hown.2 with ⟨rfl,rfl⟩ | ⟨g,cap,cur,rfl,_,_,hnc,_⟩
   ·simp [Builtin.append_,run_underlying hE.ht,sizeOf,typeInfo,hi,Builtin.lenOf,Builtin.firstCells]
   ·simp [Builtin.append_,run_underlying hE.ht,sizeOf,typeInfo,hi,Builtin.lenOf,Builtin.firstCells,hnc,storeCells]
  ·rcases hown.2 with ⟨rfl,rfl⟩ | ⟨g,cap,cur,rfl,_,_,hnc,_⟩
   ·simp [Builtin.append_,run_underlying hE.ht,sizeOf,typeInfo,hi,Builtin.lenOf,Builtin.firstCells,loadCells,loadCellsFrom]
   ·simp [Builtin.append_,run_underlying hE.ht,sizeOf,typeInfo,hi,Builtin.lenOf,Builtin.firstCells,loadCells,loadCellsFrom,hnc,storeCells]
 ·obtain ⟨b,o,rfl,_,hc⟩:=hr.2 h0
  have hcell:∀ j u,news[j]? = some u→w.cell? ((⟨b,o,none⟩:Addr).add j)=some u:=by
   intro j u hu;have:(⟨b,o,none⟩:Addr).add j=⟨b,o+j,none⟩:=by unfold Addr.add;split<;>simp_all
   rw [this];exact hc j u hu
  obtain ⟨v',w',h2,h3,h4,_,h5⟩:=run_append_own_at (P:=P) w base T ty E i z size bytes hE.ht hi hz hs1 hs2 OE hE.pos v n xs hown ⟨b,o,none⟩ m c news hr.1 hcell h1
   (by unfold maxLen;omega) (by have:=Nat.mul_le_mul h63 hbytes;omega) hbase
  refine ⟨v',w',h2,h3,h4,fun q hq=>?_⟩;rcases h5 with e | e
  ·rw [e] at hq;exact .inl hq
  ·rw [e] at hq;simp at hq;exact .inr (by omega)
theorem yz {P:Program}{w:World}{o:Oper}{a:Act}{K:Act→World→Prop}{Q:Exit→Act→World→Prop}(s x:Operand) {T:TypeId}
  (ho:o.op=.call { callee:=.builtin .append,args:=#[s,x],argTypes:=#[T,T] })
  {E:TypeId}{size bytes:Nat}(hE:EI P T E size bytes) {base n:Nat}{v:Value}{xs:List Value}(hs:a.eval s=v) (hown:w.ownsRow base E size v n xs)
  {B m c:Nat}{A:Option Addr}{news:List Value}(hx:a.eval x=.slice A m c) (hr:Row w B size A m news) (h1:∀ u∈news,u.oneCell'=true) (h63:n+m≤1000000000) (hbytes:bytes≤100000) (hbase:base≤w.heap.size)
  (h:∀ v' w',w'.ownsRow base E size v' (n+m) (xs++news)→Hid (w.grownBy w' v.ownBlock)→Below base w w'→Hid (At w.heap.size v v')→K (a.put o.dst v') w'):o.wp P a w K Q:=by
 obtain ⟨v',w',hrun,h2,h3,h4⟩:=wK (ty:=o.type) (c:=c) hE hown hr h1 h63 hbytes hbase;unfold Oper.wp execOp;simp only [ho,resolve,invoke,builtin,Sem.run_bind,Sem.run_pure,Result.andThen_ok,List.map_toArray,List.map_cons,List.map_nil,hs,hx,hrun];exact h v' w' h2 h3 (ja (Below.refl _ _) hown (Below.refl _ _) h3 hbase) h4
theorem XJ:EI Tryz.prog 66 76 9 104:=EI.mk' (z:=.agg #[.int .i64 0,.int .i64 0,.string ⟨#[]⟩,.string ⟨#[]⟩,.int .i64 0,.slice none 0 0,.int .u8 0,.int .i64 0,.int .u8 0]) Tryz.underlying66 (by kernel_rfl) rfl (by omega)
theorem vX {r:Pb.Rd}{k:Nat}(h1:1≤k) (h2:k≤r.row.length):(Pb.aI k r).row.length=k:=by
 have hl:(Pb.ax r).row.length=r.row.length:=by
  have ha:∀ t,(Pb.bJ t r).row.length=r.row.length:=fun t=>by
   unfold Pb.bJ;cases hr:r.row with
   | nil=>simp [hr]
   | cons c o=>simp
  unfold Pb.ax
  split
  ·exact ha _
  ·split
   ·exact ha _
   ·rfl
 show (Pb.nW ((Pb.ax r).row.length-k) (Pb.ax r).row).length=k;rw [yK _ _ (by omega)];omega
theorem Kr {s q:List UInt8}{o:Option (UInt8×Nat)}(h:Bk.opener s=some (o,q)):q.length≤s.length+3∧∀ c n,o=some (c,n)→c≠0:=by
 unfold Bk.opener at h;cases hq:Lf.quote s with
 | some q' =>
  rw [hq] at h;cases h;exact ⟨zc hq,fun c n e=>by cases e⟩
 | none =>
  rw [hq] at h;cases hi:Lf.item s with
  | none=>rw [hi] at h;cases h
  | some t =>
   obtain ⟨c,n,r⟩:=t;rw [hi] at h;cases h;have hr:(Fn.rs s).length≤s.length:=by unfold Fn.rs;rw [List.length_drop];omega
   unfold Lf.item at hi
   split at hi
   ·cases hi
   ·rename_i c' r' ED
    rw [ED,List.length_cons] at hr
    split at hi
    ·rename_i abn
     have hc0:c'≠0:=fun e=>by subst e;have:=abn.2.1;revert this;decide
     split at hi
     ·cases hi
      exact ⟨by simp,fun c n e=>by cases e;exact hc0⟩
     ·cases hi
      have:=Cl.gb (Lf.inner (Fn.cl r'):Int) r';exact ⟨by omega,fun c n e=>by cases e;exact hc0⟩
    ·cases hi
theorem Vm {N i:Nat}{r:Pb.Rd}(h:Pb.Sz N i r) (hl:r.row.length<41) (ln:Nat) (o:Option (UInt8×Nat)) (hc:∀ c n,o=some (c,n)→c≠0):Pb.Sz N i (Pb.push (Pb.fresh ln o) r):=by
 have e:(Pb.fresh ln o).all=[]∧(Pb.fresh ln o).lst=none:=by cases o<;>exact ⟨rfl,rfl⟩
 refine ⟨by simp [Pb.push],by simp only [Pb.push,List.length_cons];omega,fun c hc'=>?_,fun c hc' s ln is e2=>?_,fun c hc' e2=>?_,h.lines,h.text,h.line,h.pls⟩
 ·rcases List.mem_cons.1 hc' with rfl | hc'
  ·rw [e.1];simp
  ·exact h.kids c hc'
 ·rcases List.mem_cons.1 hc' with rfl | hc'
  ·rw [e.2] at e2;cases e2
  ·exact h.itms c hc' s ln is e2
 ·rcases List.mem_cons.1 hc' with rfl | hc'
  ·cases o with
   | none=>cases e2
   | some p=>obtain ⟨c,n⟩:=p;exact hc c n rfl
  ·exact h.sign c hc' e2
section
variable {w w':World}{B R:Nat}{E:Nat→Option Part}{rv lv pv:Value}{M:Mm}{row:List MC}{l:Pb.Of}{ps:List Bk.Pl}
theorem MZ (h:cT w B E R rv lv pv M row l ps) (d:Pb.Cn) (hd1:d.all=[]) (BF:d.lst=none) (hd3:d.kids=[]) {w3:World}{v:Value}(hown:w3.ownsRow B 76 9 v (row.length+1) (aZ row++(aM d none 0 0).toList)) (hg:w.grownBy w3 rv.ownBlock) (hat:At w.heap.size rv v) :
  B≤R∧R<w3.heap.size∧w3.cell? ⟨R,0,none⟩=some rv∧(∀ j,w3.frozen? ⟨R,j,none⟩=false)∧cT (w3.setCell ⟨R,0,none⟩ v) B E R v lv pv M (⟨d,.slice none 0 0,[],.slice none 0 0,[]⟩::row) l ps:=by
 have H1:=h.hp.wG (k:=.row) (.row 76 9 v (row.length+1) (aZ row++(aM d none 0 0).toList)) rfl hg hown hat;obtain ⟨ME,RG,Xw⟩:=H1.base (k:=.rd) rfl;have m3:=H1.CM (k:=.rd) 0 v rfl;have m4:=m3.AO (k:=.kid row.length) (.row 32 6 (.slice none 0 0) 0 []) (by
  rw [aj _ _ (by simp),aj _ _ (by simp)];show (jP row row.length).map dQ=none;rw [rQ (Nat.le_refl _)];rfl) (Below.refl _ _) (World.ownsRow_nil _ _ _ _) (fun g e=>by cases e)
 refine ⟨ME,RG,cell_of Xw rfl,bf Xw,m4.same fun j=>?_,fun y hy=>?_,h.old⟩
 ·cases j with
  | kid i =>
   show (jP (_::row) i).map dQ=_
   by_cases hi:i=row.length
   ·subst hi
    rw [dj,upd_same];show some (Part.row _ 6 (.slice none 0 0) d.all.length ([]++bD (.slice none 0 0) d.lst))=_;rw [hd1,BF];rfl
   ·rw [sB _ row hi,aj _ _ (by simpa using hi),aj _ _ (by simp),aj _ _ (by simp)];rfl
  | itm i =>
   show (jP (_::row) i).bind cy=_;rw [aj _ _ (by simp),aj _ _ (by simp),aj _ _ (by simp)]
   by_cases hi:i=row.length
   ·subst hi
    rw [dj];show cy _=(jP row row.length).bind cy;rw [rQ (Nat.le_refl _)];unfold cy;simp only;rw [BF];rfl
   ·rw [sB _ row hi];rfl
  | row =>
   rw [aj _ _ (by simp),aj _ _ (by simp),upd_same];show some (Part.row _ 9 v (row.length+1) (aZ row++cE _))=_
   rfl
  | rd=>rw [aj _ _ (by simp),upd_same];rfl
  | _=>rw [aj _ _ (by simp),aj _ _ (by simp),aj _ _ (by simp)];rfl
 ·rcases List.mem_cons.1 hy with rfl | hy
  ·refine ⟨?_,fun s ln is e=>?_⟩
   ·show vY M d.kids []
    rw [hd3];exact pP
   ·rw [show (MC.mk d (.slice none 0 0) [] (.slice none 0 0) []).c.lst=d.lst from rfl,BF] at e;cases e
  ·exact h.good y hy
end
def VC (R cb:Nat) (rv:Value) (cs:Array Value) (u:World):Prop:=u.cell? ⟨R,0,none⟩=some rv∧u.heap[cb]? = some (.cells cs 76 (0,0))
theorem Y8 (w:World) (B:Nat) (E:Nat→Option Part) (R:Nat) (r:Pb.Rd) (h:PS w B E R r) {N i:Nat}(hs:Pb.Sz N i r) (hN:N≤800000000) (hi:i≤100000) (ln k:Nat) (hk:1≤k) (hkr:k≤r.row.length) (s:List UInt8) (qm:s.length+1000≤1000000000) :
  Calls Tryz.prog 80 #[Dw R,.int .i64 (ln:Int),.int .i64 (k:Int),.string (bs s)] w fun e w'=>e=.returned (.tuple #[.int .i64 ((Pb.begin ln (41-k) k r s).2.1:Int),.string (bs (Pb.begin ln (41-k) k r s).2.2)]) ∧
   PS w' B E R (Pb.begin ln (41-k) k r s).1∧Pb.Sz (N+2000) i (Pb.begin ln (41-k) k r s).1∧1≤(Pb.begin ln (41-k) k r s).2.1∧(Pb.begin ln (41-k) k r s).2.1≤(Pb.begin ln (41-k) k r s).1.row.length∧(Pb.begin ln (41-k) k r s).2.2.length≤s.length+130∧Below B w w':=by
 have Ai:=hs.few;obtain ⟨G,hG⟩:∃ G,Pb.begin ln (41-k) k r s=G:=⟨_,rfl⟩
 rw [hG];replace hG:=Lib.hid hG;replace hs:=Lib.hid hs;replace h:=Lib.hid h;go_enter Tryz.func80,Tryz.ntmps80;go_wp2_with fail
 go_loopw [2,3] (fun u t wr=>∃ (j:Nat) (r1:Pb.Rd) (s1:List UInt8),u=.int .i64 (j:Int)∧t=.string (bs s1)∧k≤j∧j≤41∧s1.length+3*k≤s.length+3*j∧Hid (Pb.begin ln (41-j) j r1 s1=G)∧Hid (PS wr B E R r1)∧Hid (Pb.Sz (N+43*(j-k)) i r1)∧Hid (j≤r1.row.length)∧Hid (Below B w wr)) (fun u _ _=>41-(intOf u).toNat)
 case atStart=>exact ⟨k,r,s,rfl,rfl,Nat.le_refl _,by omega,by omega,hG,h,Lib.hid (by rw [Nat.sub_self];exact hs.out),Lib.hid hkr,Lib.hid (Below.refl _ _)⟩
 case round =>
  obtain ⟨j,r1,s1,rfl,rfl,hkj,acj,afL,hGj,hP,hz,O0,hb⟩:=hrel;have q0:=Lib.hid acj;have q1:=Lib.hid (show N+43*(j-k)≤N+2000 by omega);have q2:=Lib.hid (show 1≤j by omega);have q3:=Lib.hid (show s1.length≤s.length+130 by omega);rcases Nat.lt_or_eq_of_le acj with hlt | Pm
  ·have hfu:41-j=(40-j)+1:=by omega
   have oo:=hGj.out;rw [hfu,Pb.begin] at oo;have vh:=fun w=>VJ ln s1 w (by omega);have hj1:(j:Int)<41:=by omega
   cases ho:Bk.opener s1 with
   | none =>
    rw [ho] at vh oo;simp only [Qb] at vh oo;replace oo:=Lib.hid oo;replace vh:=Lib.hid vh;go_wp2_with fail;refine (vh.out _).mono ?_;rintro e w2 ⟨rfl,hb2⟩;obtain ⟨rv,lv,pv,M,row,hrow,hA⟩:=hP.out;have wF:B≤wr.heap.size:=by have:=aK hA;omega
    have hnew:=ag hb2 (aa w2 (.cells #[.int .i64 0,.int .i64 0,.string ⟨#[]⟩,.string ⟨#[]⟩,.int .i64 0,.slice none 0 0,.int .u8 0,.int .i64 0,.int .u8 0] 76));have Dj:=Lib.hid (⟨rv,lv,pv,M,row,hrow,cT.mk (hA.hp.ext hnew) hA.good hA.old⟩:PS (w2.alloc (.cells #[.int .i64 0,.int .i64 0,.string ⟨#[]⟩,.string ⟨#[]⟩,.int .i64 0,.slice none 0 0,.int .u8 0,.int .i64 0,.int .u8 0] 76)) B E R r1);have qF:=Lib.hid (hb.out.trans (hnew.mono wF));clear hA hnew;go_wp2_with fail;go_ret2;rw [← oo.out];exact ⟨rfl,Dj.out,hz.out.mono q1.out (Nat.le_refl _),q2.out,O0.out,q3.out,qF.out⟩
   | some oq =>
    obtain ⟨o,q⟩:=oq;obtain ⟨hql,hqs⟩:=Kr ho;rw [ho] at vh oo;simp only [Qb] at vh oo;obtain ⟨d,hd⟩:∃ d,Pb.fresh ln o=d:=⟨_,rfl⟩
    have hd3:d.all=[]∧d.lst=none∧d.kids=[]:=by rw [← hd];cases o<;>exact ⟨rfl,rfl,rfl⟩
    have hcl:=vX (r:=r1) (k:=j) (by omega) O0.out;have hsz:=eP hz.out j i;have N7:=Vm hsz (by rw [hcl];omega) ln o hqs;rw [hd] at vh oo N7;replace oo:=Lib.hid oo;replace vh:=Lib.hid vh;replace hd:=Lib.hid hd;replace N7:=Lib.hid N7;clear hsz;go_wp2_with fail;refine (vh.out _).mono ?_;rintro e w2 ⟨rfl,hb2⟩;obtain ⟨rv,lv,pv,M,row,hrow,hA⟩:=hP.out;have wF:B≤wr.heap.size:=by have:=aK hA;omega
    have hz2:=hb2.size;have AA:=(cT.mk (hA.hp.ext hb2) hA.good hA.old).jk (aa w2 (.cells (aM d none 0 0) 76)) (a:=.blk w2.heap.size (aM d none 0 0) 76) ⟨by omega,heap_alloc_new w2 _⟩ (fun g hg=>by cases hg;exact Nat.le_refl _);have hB2:=hb.out.trans ((ag hb2 (aa w2 (.cells (aM d none 0 0) 76))).mono wF);obtain ⟨E',gC⟩:∃ E',eL (.blk w2.heap.size (aM d none 0 0) 76) E=E':=⟨_,rfl⟩
    rw [gC] at AA;have qh:E' 0=some (.blk w2.heap.size (aM d none 0 0) 76):=by rw [← gC];rfl
    have hto:=fun wz hz'=>je wz B E' R r1 hz' hz.out (by omega) hi j (by omega);have Dj:=Lib.hid (⟨rv,lv,pv,M,row,hrow,AA⟩:PS (w2.alloc (.cells (aM d none 0 0) 76)) B E' R r1);obtain ⟨cb,hcb⟩:∃ cb,w2.heap.size=cb:=⟨_,rfl⟩
    rw [hcb] at qh;clear hA AA hrow row M rv lv pv;replace hB2:=Lib.hid hB2;replace gC:=Lib.hid gC;replace qh:=Lib.hid qh;replace hto:=Lib.hid hto;replace hcb:=Lib.hid hcb;go_wp2_with fail;refine (hto.out _ Dj.out).mono ?_;rintro e w4 ⟨rfl,Ay,hb4⟩;obtain ⟨rv,lv,pv,M,row,hrow,hA⟩:=Ay;have tB:=hB2.out.trans hb4;have hrl:row.length=j:=by have:=congrArg List.length hrow;rw [List.length_map,hcl] at this;exact this
    obtain ⟨hR1,hR2,_,c0,_⟩:=aK hA;have hlb:=(hA.hp.base (k:=.ext 0) (show E' 0=some _ from qh.out)).2.2;have hown:=hA.hp.own (k:=.row) rfl;obtain ⟨rA,rc,jl,hrc⟩:=ak hown;rw [jl] at c0 hown;rw [hrl] at c0 hown hrc;have oE:cb<w4.heap.size:=(Array.getElem?_eq_some_iff.1 hlb).1;have Wc:some R≠(Value.slice rA j rc).ownBlock:=fun e=>by
     have:=hA.hp.apart .rd .row _ _ R rfl rfl rfl (by rw [jl,hrl];exact e.symm);cases this
    have Y9:some cb≠(Value.slice rA j rc).ownBlock:=fun e=>by
     have:=hA.hp.apart (.ext 0) .row _ _ cb (show E' 0=some _ from qh.out) rfl rfl (by rw [jl,hrl];exact e.symm);cases this
    have lX:VC R cb (.slice rA j rc) (aM d none 0 0) w4.drew:=⟨c0,hlb⟩
    have wE:=Lib.hid (cT.mk (hA.hp.ext (bC w4)) hA.good hA.old);have HP:=Lib.hid tB.drew;have vS:w4.drew.ownsRow B 76 9 (.slice rA j rc) j (aZ row):=hown.drew;have hzd:w4.drew.heap.size=w4.heap.size:=rfl;replace hrow:=Lib.hid hrow;replace jl:=Lib.hid jl;replace hrl:=Lib.hid hrl;replace hA:=Lib.hid hA;replace hlb:=Lib.hid hlb;clear hcl hown;go_wp2_with fail;rw [hcb.out];refine dG 10 [(true,0),(true,1),(true,2),(true,3),(true,4),(true,5),(false,6),(false,7),(false,8),(false,9)] 0 .fin (VC R cb (.slice rA j rc) (aM d none 0 0)) lX (by kernel_rfl) (by kernel_rfl) (by kernel_rfl) (fun _ _ d _ _ h=>by cases d<;>exact h) ?_;generalize w4.drew=w5 at lX wE HP vS hzd ⊢;clear c0
    repeat (first | refine bS rfl ?_ | (refine aB rfl ?_;intro K hK;go_simp;refine hK _ _ _ ?_;clear hK K))
    refine b9 (.slice rA j rc) rfl rfl lX (fun u hu=>by obtain ⟨u1,u2⟩:=hu;go_simp) ?_;refine b9 (.agg #[.int .i64 (d.kind:Int),.int .i64 0,.string ⟨#[]⟩,.string ⟨#[]⟩,.int .i64 (d.line:Int),.slice none 0 0,.int .u8 (d.sign.toNat:Int),.int .i64 (d.col:Int),.int .u8 (d.cU.toNat:Int)]) rfl rfl lX (fun u hu=>by
     obtain ⟨u1,u2⟩:=hu;have y0:=cell_of u2 (j:=0) rfl;have y1:=cell_of u2 (j:=1) rfl;have y2:=cell_of u2 (j:=2) rfl;have y3:=cell_of u2 (j:=3) rfl;have y4:=cell_of u2 (j:=4) rfl;have y5:=cell_of u2 (j:=5) rfl;have y6:=cell_of u2 (j:=6) rfl;have y7:=cell_of u2 (j:=7) rfl;have y8:=cell_of u2 (j:=8) rfl;clear u2;go_simp) ?_
    refine aB rfl ?_;intro K hK;go_simp;obtain ⟨Z,hZ⟩:∃ Z:Array Value,aM d none 0 0=Z:=⟨_,rfl⟩
    have hZ9:Z.size=1*9:=by rw [← hZ];rfl
    have Zc:∀ u∈Z.toList,u.oneCell'=true:=by rw [← hZ];intro u hu;simp at hu;rcases hu with rfl | rfl | rfl | rfl | rfl | rfl | rfl | rfl | rfl<;>rfl
    rw [show #[Value.int .i64 (d.kind:Int),.int .i64 0,.string ⟨#[]⟩,.string ⟨#[]⟩,.int .i64 (d.line:Int),.slice none 0 0,.int .u8 (d.sign.toNat:Int),.int .i64 (d.col:Int),.int .u8 (d.cU.toNat:Int)]=Z from hZ];have hz5:w5.heap.size=w4.heap.size:=hzd;have IB:VC R cb (.slice rA j rc) (aM d none 0 0) (w5.alloc (.cells Z 76)):=⟨((aa w5 _).cell (p:=⟨R,0,none⟩) (by show R<w5.heap.size;omega)).trans lX.1,((aa w5 _).block _ (by omega)).trans lX.2⟩
    have hr5:Row (w5.alloc (.cells Z 76)) (w5.alloc (.cells Z 76)).heap.size 9 (some ⟨w4.heap.size,0,none⟩) 1 Z.toList:=by
     have h9:=Row.kT w5 76 Z hZ9 rfl;rw [hz5] at h9;exact h9
    have D9:B≤(w5.alloc (.cells Z 76)).heap.size:=by
     have h9:=(aa w5 (.cells Z 76)).size;rw [hz5] at h9;omega
    have BZ:=cT.mk (wE.out.hp.ext (aa w5 (.cells Z 76))) wE.out.good wE.out.old;refine aT IB (hK _ _ _ ?_);clear hK K;refine aB rfl ?_;intro K hK;unfold aD;rw [if_pos (by rfl),if_neg (by simp)];refine yz (v:=.slice rA j rc) (.tmp 31) (.tmp 33) rfl XJ rfl (vS.alloc _) rfl hr5 Zc (by have:=q0.out;omega) (by omega) D9 ?_;intro v7 w7 kQ sY eA nY;obtain ⟨vA7,vc7,rfl,Zz⟩:=ak kQ;have DJ:VC R cb (.slice rA j rc) (aM d none 0 0) w7:=⟨sY.out.cell IB.1 Wc,(sY.out.block _ (by simp;omega) Y9).trans IB.2⟩
    subst hZ;obtain ⟨Zb,hf2,hf3,hf4,Lx⟩:=MZ BZ d hd3.1 hd3.2.1 hd3.2.2 (v:=.slice vA7 (j+1) vc7) (by rw [hrl.out];exact kQ) (by rw [jl.out,hrl.out];exact sY.out) (by rw [jl.out,hrl.out];exact nY.out);rw [jl.out,hrl.out] at hf3;rw [← gC.out] at Lx;have IE:=Lib.hid (⟨_,lv,pv,M,_::row,by show d::row.map (·.c)=_;rw [hrow.out];rfl,Lx.fP⟩:PS (w7.setCell ⟨R,0,none⟩ (.slice vA7 (j+1) vc7)) B E R (Pb.push d (Pb.aI j r1)));have TV:=Lib.hid (((HP.out.alloc (by omega) _).trans eA).setCell (p:=⟨R,0,none⟩) Zb (.slice vA7 (j+1) vc7));have hpl:(Pb.push d (Pb.aI j r1)).row.length=j+1:=by
     show (d::(Pb.aI j r1).row).length=_;rw [← hrow.out,List.length_cons,List.length_map,hrl.out]
    replace hpl:=Lib.hid (Nat.le_of_eq hpl.symm);clear Lx;refine aT DJ (hK _ _ _ ?_);clear hK K;refine aB rfl ?_;intro K hK;go_simp;refine aT DJ (hK _ _ _ ?_);clear hK K;refine aB rfl ?_;intro K hK;go_simp;refine aT DJ (hK _ _ _ ?_);clear hK K;refine iy rfl rfl ?_;go_simp;refine ⟨fun _=>True,trivial,aQ ?_⟩;go_wp2_with fail
    go_roundw
    case rel=>exact ⟨j+1,Pb.push d (Pb.aI j r1),q,by go_num,rfl,by omega,by omega,by omega,Lib.hid (by rw [show 41-(j+1)=40-j from by omega];exact oo.out),IE,Lib.hid (N7.out.mono (by omega) (Nat.le_refl _)),hpl,TV⟩
    case measure=>simp [intOf];omega
  ·have oo:=hGj.out
   rw [show 41-j=0 from by omega,Pb.begin] at oo;have hj1:¬ (j:Int)<41:=by omega
   replace oo:=Lib.hid oo;clear Pm;go_wp2_with fail;go_ret2;rw [← oo.out];exact ⟨rfl,hP.out,hz.out.mono q1.out (Nat.le_refl _),q2.out,O0.out,q3.out,hb.out⟩
theorem FJ (M:Mm) (kd lv:Nat) (t inf:List UInt8) (ln:Nat):TM M (.mk kd lv t inf ln []) [.int .i64 (kd:Int),.int .i64 (lv:Int),.string (bs t),.string (bs inf),.int .i64 (ln:Int),.slice none 0 0]:=by
 unfold TM;exact ⟨none,0,[],rfl,Nat.le_refl _,⟨rfl,fun h=>by cases h⟩,pP⟩
abbrev ck (f:Fn.Op):Array Value:=#[.int .u8 (f.c.toNat:Int),.int .i64 (f.n:Int),.int .i64 (f.ind:Int),.string (bs f.info)]
theorem I0 (o:Option Fn.Op):∃ (f:Fn.Op) (ok:Bool),ql o=.tuple #[.agg (ck f),.bool ok]∧(ok=true→o=some f)∧(ok=false→o=none):=by
 cases o with
 | none=>exact ⟨⟨0,0,0,[]⟩,false,rfl,fun h=>(by cases h),fun _=>rfl⟩
 | some f=>exact ⟨f,true,rfl,fun _=>rfl,fun h=>(by cases h)⟩
theorem EN:EI Tryz.prog 39 9 1 16:=Qh
section
variable {w w':World}{B R:Nat}{E:Nat→Option Part}{rv lv pv:Value}{M:Mm}{row:List MC}{l:Pb.Of}{ps:List Bk.Pl}
theorem xQ (h:cT w B E R rv lv pv M row l ps) (t:List UInt8) {w3:World}{v:Value}(hown:w3.ownsRow B 9 1 v (l.lines.length+1) (aY l.lines++[.string (bs t)])) (hg:w.grownBy w3 lv.ownBlock) (hat:At w.heap.size lv v) :
  B≤R∧R<w3.heap.size∧w3.cell? ⟨R,3,none⟩=some lv∧(∀ j,w3.frozen? ⟨R,j,none⟩=false)∧cT (w3.setCell ⟨R,3,none⟩ v) B E R rv v pv M row { l with lines:=l.lines++[t] } ps:=by
 have H1:=h.hp.wG (k:=.lns) (.row 9 1 v (l.lines.length+1) (aY l.lines++([.string (bs t)]:List Value))) rfl hg hown hat;obtain ⟨ME,RG,Xw⟩:=H1.base (k:=.rd) rfl;have m3:=H1.CM (k:=.rd) 3 v rfl;refine ⟨ME,RG,cell_of Xw rfl,bf Xw,m3.same fun j=>?_,h.good,h.old⟩;cases j with
 | lns =>
  show some (Part.row _ 1 v (l.lines++[t]).length (aY (l.lines++[t])))=_;have e:aY (l.lines++[t])=aY l.lines++[.string (bs t)]:=by simp [aY]
  rw [e,List.length_append];rfl
 | rd=>rfl
 | _=>rfl
theorem TN {nb:Nat}{t:List UInt8}(h:cT w B (eL (.blk nb #[.string (bs t)] 9) E) R rv lv pv M row l ps) (l':Pb.Of) (hl:l'.lines=[t]) :
  cT (nZ w R (.int .i64 (l'.kind:Int)) (.int .i64 (l'.line:Int)) (.slice (some ⟨nb,0,none⟩) 1 1) (.int .u8 (l'.op.c.toNat:Int)) (.int .i64 (l'.op.n:Int)) (.int .i64 (l'.op.ind:Int)) (.string (bs l'.op.info)) (.bool l'.ended)) B E R rv (.slice (some ⟨nb,0,none⟩) 1 1) pv M row l' ps:=by
 obtain ⟨hR1,_,hRh⟩:=h.hp.base (k:=.rd) rfl;have m8:=h.hp.wG (k:=.rd) (.blk R ⟨rS rv (.slice (some ⟨nb,0,none⟩) 1 1) pv l'⟩ 73) rfl (qY (.int .i64 (l'.kind:Int)) (.int .i64 (l'.line:Int)) (.slice (some ⟨nb,0,none⟩) 1 1) (.int .u8 (l'.op.c.toNat:Int)) (.int .i64 (l'.op.n:Int)) (.int .i64 (l'.op.ind:Int)) (.string (bs l'.op.info)) (.bool l'.ended)) ⟨hR1,K5 hRh _ _ _ _ _ _ _ _⟩ (fun _ e=>.inl e);have qh:=m8.holds (.ext 0) (.blk nb #[.string (bs t)] 9) rfl;refine ⟨m8.turn (fun k=>match k with | .lns=>.ext 0 | .ext i=>.ext (i+1) | k=>k) (fun i j _ _ _ _ e=>?_) (fun k a hk=>?_),h.good,h.old⟩
 ·cases i<;>cases j<;>simp_all
 ·cases k with
  | rd=>exact ⟨a,hk,m8.holds .rd a hk,fun _ e=>e⟩
  | row=>exact ⟨a,hk,m8.holds .row a hk,fun _ e=>e⟩
  | kid i=>exact ⟨a,hk,m8.holds (.kid i) a hk,fun _ e=>e⟩
  | itm i=>exact ⟨a,hk,m8.holds (.itm i) a hk,fun _ e=>e⟩
  | pls=>exact ⟨a,hk,m8.holds .pls a hk,fun _ e=>e⟩
  | old i=>exact ⟨a,hk,m8.holds (.old i) a hk,fun _ e=>e⟩
  | ext i=>exact ⟨a,hk,m8.holds (.ext (i+1)) a hk,fun _ e=>e⟩
  | lns =>
   have e:(Part.row 9 1 (.slice (some ⟨nb,0,none⟩) 1 1) l'.lines.length (aY l'.lines))=a:=Option.some.inj hk;subst e;rw [hl];exact ⟨_,rfl,⟨rfl,.inr ⟨nb,1,_,rfl,qh.1,qh.2,Nat.le_refl _,by unfold maxLen;omega,rfl,rfl⟩⟩,fun _ e=>e⟩
end
theorem Qs (w:World) (B:Nat) (E:Nat→Option Part) (R:Nat) (r:Pb.Rd) (h:PS w B E R r) {N i:Nat}(hs:Pb.Sz N i r) (hN:N≤900000000) (hi:i≤100000) (ln k:Nat) (hk:1≤k) (s:List UInt8) (hn:Nat) (ht:List UInt8) (ho:Bool) (f:Fn.Op) (fo:Bool)
  (xH:∀ w,Calls Tryz.prog 120 #[.string (bs s)] w fun e w'=>e=.returned (.tuple #[.int .i64 (hn:Int),.string (bs ht),.bool ho])∧Below w.heap.size w w')
  (hbg:∀ w,Calls Tryz.prog 121 #[.string (bs s)] w fun e w'=>e=.returned (.tuple #[.agg (ck f),.bool fo])∧Below w.heap.size w w')
  (hem:∀ w,Calls Tryz.prog 122 #[.string (bs s)] w fun e w'=>e=.returned (.bool true)∧w=w') :
  Calls Tryz.prog 81 #[Dw R,.int .i64 (ln:Int),.int .i64 (k:Int),.string (bs s)] w fun e w'=>e=.returned (.tuple #[])∧PS w' B E R (Pb.aI k r)∧Below B w w':=by
 obtain ⟨rv,lv,pv,M,row,hrow,hA⟩:=h;have hBw:B≤w.heap.size:=by have:=aK hA;omega
 have hto:=fun wz hz'=>je wz B E R r hz' hs hN hi k hk;replace hA:=Lib.hid hA;replace hrow:=Lib.hid hrow;replace hto:=Lib.hid hto;go_enter Tryz.func81,Tryz.ntmps81;go_wp2_with fail;refine (xH _).mono ?_;rintro e w1 ⟨rfl,hb1⟩;go_wp2_with fail;refine (hbg _).mono ?_;rintro e w2 ⟨rfl,hb2⟩;have hb3:=Lib.hid (ag (ag hb1 hb2) (aa w2 (.cells (ck f) 68)));have XY:=Lib.hid (⟨rv,lv,pv,M,row,hrow.out,cT.mk (hA.out.hp.ext hb3.out) hA.out.good hA.out.old⟩:PS (w2.alloc (.cells (ck f) 68)) B E R r);clear hb1 hb2;go_wp2_with fail;refine (hem _).mono ?_;rintro e w3 ⟨rfl,rfl⟩;go_wp2_with fail;refine (hto.out _ XY.out).mono ?_;rintro e w4 ⟨rfl,Ay,hb4⟩;replace Ay:=Lib.hid Ay;have qF:=Lib.hid ((hb3.out.mono hBw).trans hb4);go_wp2_with fail;go_returns;exact ⟨rfl,Ay.out,qF.out⟩
theorem J0 (w:World) (B:Nat) (E:Nat→Option Part) (R:Nat) (r:Pb.Rd) (h:PS w B E R r) {N i:Nat}(hs:Pb.Sz N i r) (hN:N≤800000000) (hi:i≤100000) (ln k:Nat) (hk:1≤k) (s:List UInt8) (hn:Nat) (ht:List UInt8) (f:Fn.Op) (fo:Bool)
  (xH:∀ w,Calls Tryz.prog 120 #[.string (bs s)] w fun e w'=>e=.returned (.tuple #[.int .i64 (hn:Int),.string (bs ht),.bool true])∧Below w.heap.size w w')
  (hbg:∀ w,Calls Tryz.prog 121 #[.string (bs s)] w fun e w'=>e=.returned (.tuple #[.agg (ck f),.bool fo])∧Below w.heap.size w w')
  (hem:∀ w,Calls Tryz.prog 122 #[.string (bs s)] w fun e w'=>e=.returned (.bool false)∧w=w')
  : Calls Tryz.prog 81 #[Dw R,.int .i64 (ln:Int),.int .i64 (k:Int),.string (bs s)] w fun e w'=>e=.returned (.tuple #[])∧PS w' B E R (Pb.bJ (.mk 5 hn ht [] ln []) (Pb.aI k r))∧Below B w w':=by
 obtain ⟨rv,lv,pv,M,row,hrow,hA⟩:=h;have hBw:B≤w.heap.size:=by have:=aK hA;omega
 have hto:=fun (E':Nat→Option Part) wz hz'=>je wz B E' R r hz' hs (by omega) hi k hk;have hsz:=eP hs k i;replace hA:=Lib.hid hA;replace hrow:=Lib.hid hrow;replace hto:=Lib.hid hto;replace hsz:=Lib.hid hsz;go_enter Tryz.func81,Tryz.ntmps81;go_wp2_with fail;refine (xH _).mono ?_;rintro e w1 ⟨rfl,hb1⟩;go_wp2_with fail;refine (hbg _).mono ?_;rintro e w2 ⟨rfl,hb2⟩;have hb3:=Lib.hid (ag (ag hb1 hb2) (aa w2 (.cells (ck f) 68)));have dh:=Lib.hid ((cT.mk (hA.out.hp.ext (ag hb1 hb2)) hA.out.good hA.out.old).jk (aa w2 (.cells (ck f) 68)) (a:=.blk w2.heap.size (ck f) 68) ⟨by have:=hb1.size;have:=hb2.size;omega,heap_alloc_new w2 _⟩ (fun g hg=>by cases hg;exact Nat.le_refl _));obtain ⟨E',gC⟩:∃ E',eL (.blk w2.heap.size (ck f) 68) E=E':=⟨_,rfl⟩
 rw [gC] at dh;have qh:E' 0=some (.blk w2.heap.size (ck f) 68):=by rw [← gC];rfl
 replace gC:=Lib.hid gC;replace qh:=Lib.hid qh;clear hb1 hb2;go_wp2_with fail;refine (hem _).mono ?_;rintro e w3 ⟨rfl,rfl⟩;go_wp2_with fail;refine (hto.out E' _ ⟨rv,lv,pv,M,row,hrow.out,dh.out⟩).mono ?_;rintro e w4 ⟨rfl,Ay,hb4⟩;have hb5:=(hb3.out.mono hBw).trans hb4;obtain ⟨rv4,lv4,pv4,M4,row4,hrow4,iO⟩:=Ay;cases row4 with
 | nil=>have:=hsz.out.pos;rw [← hrow4] at this;simp at this
 | cons x t =>
  obtain ⟨g,cc,jl,_⟩:=eF iO;have hlen:t.length≤1000:=by have:=hsz.out.few;rw [← hrow4] at this;simp at this;omega
  have cX:x.c.all.length≤1000000000:=by have:=hsz.out.kids x.c (by rw [← hrow4];simp);omega
  have hla:=fun wz h=>fm wz B E' R rv4 lv4 pv4 M4 x t (Pb.aI k r).leaf (Pb.aI k r).places h g cc jl hlen;have hadd:=fun wz h=>pH wz B E' R rv4 lv4 pv4 M4 x t (Pb.aI k r).leaf (Pb.aI k r).places h g cc jl (.mk 5 hn ht [] ln []) _ (FJ M4 5 hn ht [] ln) hlen cX;have aP:Pb.bJ (.mk 5 hn ht [] ln []) (Pb.aI k r)={ Pb.aI k r with row:=x.c.add (.mk 5 hn ht [] ln [])::t.map (·.c) }:=by
   unfold Pb.bJ;rw [← hrow4];rfl
  replace aP:=Lib.hid aP;replace hla:=Lib.hid hla;replace hadd:=Lib.hid hadd;replace iO:=Lib.hid iO;replace hb5:=Lib.hid hb5;replace hrow4:=Lib.hid hrow4;replace jl:=Lib.hid jl;go_wp2_with fail;refine (hla.out _ iO.out).mono ?_;rintro e w6 ⟨rfl,jQ⟩;have BZ:=Lib.hid (cT.mk (iO.out.hp.ext jQ) iO.out.good iO.out.old);have eA:=Lib.hid (hb5.out.trans (jQ.mono (by have:=aK iO.out;omega)));clear jQ;go_wp2_with fail;refine (hadd.out _ BZ.out).mono ?_;rintro e w8 ⟨rfl,⟨M8,x8,Xu,AG⟩,oE⟩;rw [← gC.out] at AG;have IE:=Lib.hid (by rw [aP.out];exact ⟨rv4,lv4,pv4,M8,x8::t,by simp [Xu],AG.fP⟩:PS w8 B E R (Pb.bJ (.mk 5 hn ht [] ln []) (Pb.aI k r)));have qF:=Lib.hid (eA.out.trans oE);clear AG;go_wp2_with fail;go_returns;exact ⟨rfl,IE.out,qF.out⟩
theorem SQ (w:World) (B:Nat) (E:Nat→Option Part) (R:Nat) (r:Pb.Rd) (h:PS w B E R r) {N i:Nat}(hs:Pb.Sz N i r) (hN:N≤800000000) (hi:i≤100000) (ln k:Nat) (hk:1≤k) (s:List UInt8) (hn:Nat) (ht:List UInt8) (f:Fn.Op) (fo:Bool)
  (xH:∀ w,Calls Tryz.prog 120 #[.string (bs s)] w fun e w'=>e=.returned (.tuple #[.int .i64 (hn:Int),.string (bs ht),.bool false])∧Below w.heap.size w w')
  (hbg:∀ w,Calls Tryz.prog 121 #[.string (bs s)] w fun e w'=>e=.returned (.tuple #[.agg (ck f),.bool fo])∧Below w.heap.size w w')
  (hem:∀ w,Calls Tryz.prog 122 #[.string (bs s)] w fun e w'=>e=.returned (.bool false)∧w=w')
  (hbr:∀ w,Calls Tryz.prog 123 #[.string (bs s)] w fun e w'=>e=.returned (.bool true)∧Below w.heap.size w w')
  : Calls Tryz.prog 81 #[Dw R,.int .i64 (ln:Int),.int .i64 (k:Int),.string (bs s)] w fun e w'=>e=.returned (.tuple #[])∧PS w' B E R (Pb.bJ (.mk 6 0 [] [] ln []) (Pb.aI k r))∧Below B w w':=by
 obtain ⟨rv,lv,pv,M,row,hrow,hA⟩:=h;have hBw:B≤w.heap.size:=by have:=aK hA;omega
 have hto:=fun (E':Nat→Option Part) wz hz'=>je wz B E' R r hz' hs (by omega) hi k hk;have hsz:=eP hs k i;replace hA:=Lib.hid hA;replace hrow:=Lib.hid hrow;replace hto:=Lib.hid hto;replace hsz:=Lib.hid hsz;go_enter Tryz.func81,Tryz.ntmps81;go_wp2_with fail;refine (xH _).mono ?_;rintro e w1 ⟨rfl,hb1⟩;go_wp2_with fail;refine (hbg _).mono ?_;rintro e w2 ⟨rfl,hb2⟩;have hb3:=Lib.hid (ag (ag hb1 hb2) (aa w2 (.cells (ck f) 68)));have dh:=Lib.hid ((cT.mk (hA.out.hp.ext (ag hb1 hb2)) hA.out.good hA.out.old).jk (aa w2 (.cells (ck f) 68)) (a:=.blk w2.heap.size (ck f) 68) ⟨by have:=hb1.size;have:=hb2.size;omega,heap_alloc_new w2 _⟩ (fun g hg=>by cases hg;exact Nat.le_refl _));obtain ⟨E',gC⟩:∃ E',eL (.blk w2.heap.size (ck f) 68) E=E':=⟨_,rfl⟩
 rw [gC] at dh;have qh:E' 0=some (.blk w2.heap.size (ck f) 68):=by rw [← gC];rfl
 replace gC:=Lib.hid gC;replace qh:=Lib.hid qh;clear hb1 hb2;go_wp2_with fail;refine (hem _).mono ?_;rintro e w3 ⟨rfl,rfl⟩;go_wp2_with fail;refine (hbr _).mono ?_;rintro e w3 ⟨rfl,xw⟩;replace dh:=Lib.hid (cT.mk (dh.out.hp.ext xw) dh.out.good dh.out.old);replace hb3:=Lib.hid (ag hb3.out xw);go_wp2_with fail;refine (hto.out E' _ ⟨rv,lv,pv,M,row,hrow.out,dh.out⟩).mono ?_;rintro e w4 ⟨rfl,Ay,hb4⟩;have hb5:=(hb3.out.mono hBw).trans hb4;obtain ⟨rv4,lv4,pv4,M4,row4,hrow4,iO⟩:=Ay;cases row4 with
 | nil=>have:=hsz.out.pos;rw [← hrow4] at this;simp at this
 | cons x t =>
  obtain ⟨g,cc,jl,_⟩:=eF iO;have hlen:t.length≤1000:=by have:=hsz.out.few;rw [← hrow4] at this;simp at this;omega
  have cX:x.c.all.length≤1000000000:=by have:=hsz.out.kids x.c (by rw [← hrow4];simp);omega
  have hla:=fun wz h=>fm wz B E' R rv4 lv4 pv4 M4 x t (Pb.aI k r).leaf (Pb.aI k r).places h g cc jl hlen;have hadd:=fun wz h=>pH wz B E' R rv4 lv4 pv4 M4 x t (Pb.aI k r).leaf (Pb.aI k r).places h g cc jl (.mk 6 0 [] [] ln []) _ (FJ M4 6 0 [] [] ln) hlen cX;have aP:Pb.bJ (.mk 6 0 [] [] ln []) (Pb.aI k r)={ Pb.aI k r with row:=x.c.add (.mk 6 0 [] [] ln [])::t.map (·.c) }:=by
   unfold Pb.bJ;rw [← hrow4];rfl
  replace aP:=Lib.hid aP;replace hla:=Lib.hid hla;replace hadd:=Lib.hid hadd;replace iO:=Lib.hid iO;replace hb5:=Lib.hid hb5;replace hrow4:=Lib.hid hrow4;replace jl:=Lib.hid jl;go_wp2_with fail;refine (hla.out _ iO.out).mono ?_;rintro e w6 ⟨rfl,jQ⟩;have BZ:=Lib.hid (cT.mk (iO.out.hp.ext jQ) iO.out.good iO.out.old);have eA:=Lib.hid (hb5.out.trans (jQ.mono (by have:=aK iO.out;omega)));clear jQ;go_wp2_with fail;refine (hadd.out _ BZ.out).mono ?_;rintro e w8 ⟨rfl,⟨M8,x8,Xu,AG⟩,oE⟩;rw [← gC.out] at AG;have IE:=Lib.hid (by rw [aP.out];exact ⟨rv4,lv4,pv4,M8,x8::t,by simp [Xu],AG.fP⟩:PS w8 B E R (Pb.bJ (.mk 6 0 [] [] ln []) (Pb.aI k r)));have qF:=Lib.hid (eA.out.trans oE);clear AG;go_wp2_with fail;go_returns;exact ⟨rfl,IE.out,qF.out⟩
theorem RL (w:World) (B:Nat) (E:Nat→Option Part) (R:Nat) (r:Pb.Rd) (h:PS w B E R r) {N i:Nat}(hs:Pb.Sz N i r) (hN:N≤800000000) (hi:i≤100000) (ln k:Nat) (hk:1≤k) (s:List UInt8) (hn:Nat) (ht:List UInt8) (f:Fn.Op)
  (xH:∀ w,Calls Tryz.prog 120 #[.string (bs s)] w fun e w'=>e=.returned (.tuple #[.int .i64 (hn:Int),.string (bs ht),.bool false])∧Below w.heap.size w w')
  (hbg:∀ w,Calls Tryz.prog 121 #[.string (bs s)] w fun e w'=>e=.returned (.tuple #[.agg (ck f),.bool true])∧Below w.heap.size w w')
  (hem:∀ w,Calls Tryz.prog 122 #[.string (bs s)] w fun e w'=>e=.returned (.bool false)∧w=w')
  (hbr:∀ w,Calls Tryz.prog 123 #[.string (bs s)] w fun e w'=>e=.returned (.bool false)∧Below w.heap.size w w')
  : Calls Tryz.prog 81 #[Dw R,.int .i64 (ln:Int),.int .i64 (k:Int),.string (bs s)] w fun e w'=>e=.returned (.tuple #[])∧PS w' B E R ({ Pb.aI k r with leaf:=⟨7,ln,[],f,false⟩ })∧Below B w w':=by
 obtain ⟨rv,lv,pv,M,row,hrow,hA⟩:=h;have hBw:B≤w.heap.size:=by have:=aK hA;omega
 have hto:=fun (E':Nat→Option Part) wz hz'=>je wz B E' R r hz' hs (by omega) hi k hk;have hsz:=eP hs k i;replace hA:=Lib.hid hA;replace hrow:=Lib.hid hrow;replace hto:=Lib.hid hto;replace hsz:=Lib.hid hsz;go_enter Tryz.func81,Tryz.ntmps81;go_wp2_with fail;refine (xH _).mono ?_;rintro e w1 ⟨rfl,hb1⟩;go_wp2_with fail;refine (hbg _).mono ?_;rintro e w2 ⟨rfl,hb2⟩;have hb3:=Lib.hid (ag (ag hb1 hb2) (aa w2 (.cells (ck f) 68)));have dh:=Lib.hid ((cT.mk (hA.out.hp.ext (ag hb1 hb2)) hA.out.good hA.out.old).jk (aa w2 (.cells (ck f) 68)) (a:=.blk w2.heap.size (ck f) 68) ⟨by have:=hb1.size;have:=hb2.size;omega,heap_alloc_new w2 _⟩ (fun g hg=>by cases hg;exact Nat.le_refl _));obtain ⟨E',gC⟩:∃ E',eL (.blk w2.heap.size (ck f) 68) E=E':=⟨_,rfl⟩
 rw [gC] at dh;have qh:E' 0=some (.blk w2.heap.size (ck f) 68):=by rw [← gC];rfl
 replace gC:=Lib.hid gC;replace qh:=Lib.hid qh;clear hb1 hb2;go_wp2_with fail;refine (hem _).mono ?_;rintro e w3 ⟨rfl,rfl⟩;go_wp2_with fail;refine (hbr _).mono ?_;rintro e w3 ⟨rfl,xw⟩;replace dh:=Lib.hid (cT.mk (dh.out.hp.ext xw) dh.out.good dh.out.old);replace hb3:=Lib.hid (ag hb3.out xw);go_wp2_with fail;refine (hto.out E' _ ⟨rv,lv,pv,M,row,hrow.out,dh.out⟩).mono ?_;rintro e w4 ⟨rfl,Ay,hb4⟩;have hb5:=(hb3.out.mono hBw).trans hb4;obtain ⟨rv4,lv4,pv4,M4,row4,hrow4,iO⟩:=Ay;obtain ⟨hR1,hR2,pU,c0,c1,c2,c3,c4,c5,c6,c7,c8,_⟩:=aK iO;obtain ⟨fb,hfb⟩:∃ fb,w2.heap.size=fb:=⟨_,rfl⟩
 rw [hfb] at qh;obtain ⟨f0,f1,f2,f3⟩:=four (iO.hp.base (k:=.ext 0) (show E' 0=some _ from qh.out)).2.2;obtain ⟨lA4,lc4,Zq,_⟩:=ak (iO.hp.own (k:=.lns) rfl);rw [Zq] at c3;have hset:=yL iO ⟨7,ln,[],f,false⟩ (lv':=.slice none 0 0) rfl rfl;rw [← gC.out] at hset;have IE:=Lib.hid (⟨rv4,.slice none 0 0,pv4,M4,row4,hrow4,hset.fP⟩:PS (nZ w4 R (.int .i64 ((7:Nat):Int)) (.int .i64 (ln:Int)) (.slice none 0 0) (.int .u8 (f.c.toNat:Int)) (.int .i64 (f.n:Int)) (.int .i64 (f.ind:Int)) (.string (bs f.info)) (.bool false)) B E R { Pb.aI k r with leaf:=⟨7,ln,[],f,false⟩ });have qF:=Lib.hid (nt hb5 hR1 (.int .i64 ((7:Nat):Int)) (.int .i64 (ln:Int)) (.slice none 0 0) (.int .u8 (f.c.toNat:Int)) (.int .i64 (f.n:Int)) (.int .i64 (f.ind:Int)) (.string (bs f.info)) (.bool false));replace iO:=Lib.hid iO;replace hrow4:=Lib.hid hrow4;replace hfb:=Lib.hid hfb;clear hset c0;rw [hfb.out];go_wp2_with fail;go_returns;exact ⟨rfl,IE.out,qF.out⟩
theorem xU (w:World) (o:Obj) {R:Nat}(hR:R<w.heap.size) (a1 a2 a3 a4 a5 a6 a7 a8:Value):nZ (w.alloc o) R a1 a2 a3 a4 a5 a6 a7 a8=(nZ w R a1 a2 a3 a4 a5 a6 a7 a8).alloc o:=by
 unfold nZ;rw [World.setCell_alloc_past _ R 1 _ hR,World.setCell_alloc_past _ R 2 _ (by simp [World.setCell];exact hR),World.setCell_alloc_past _ R 3 _ (by simp [World.setCell];exact hR),World.setCell_alloc_past _ R 4 _ (by simp [World.setCell];exact hR),
  World.setCell_alloc_past _ R 5 _ (by simp [World.setCell];exact hR),World.setCell_alloc_past _ R 6 _ (by simp [World.setCell];exact hR),World.setCell_alloc_past _ R 7 _ (by simp [World.setCell];exact hR),World.setCell_alloc_past _ R 8 _ (by simp [World.setCell];exact hR)]
def An (R:Nat) (lv:Value) (d:Nat) (u:World):Prop:=u.cell? ⟨R,3,none⟩=some lv∧u.cell? ⟨R,6,none⟩=some (.int .i64 (d:Int))
theorem UK (w:World) (B:Nat) (E:Nat→Option Part) (R:Nat) (r:Pb.Rd) (h:PS w B E R r) {N i:Nat}(hs:Pb.Sz N i r) (hN:N≤800000000) (hi:i≤100000) (ln k:Nat) (hk:1≤k) (s:List UInt8) (hn:Nat) (ht:List UInt8) (f:Fn.Op)
  (xH:∀ w,Calls Tryz.prog 120 #[.string (bs s)] w fun e w'=>e=.returned (.tuple #[.int .i64 (hn:Int),.string (bs ht),.bool false])∧Below w.heap.size w w')
  (hbg:∀ w,Calls Tryz.prog 121 #[.string (bs s)] w fun e w'=>e=.returned (.tuple #[.agg (ck f),.bool false])∧Below w.heap.size w w')
  (hem:∀ w,Calls Tryz.prog 122 #[.string (bs s)] w fun e w'=>e=.returned (.bool false)∧w=w')
  (hbr:∀ w,Calls Tryz.prog 123 #[.string (bs s)] w fun e w'=>e=.returned (.bool false)∧Below w.heap.size w w')
  (h4:r.leaf.kind=4) (T:List UInt8) (pz:∀ w,Calls Tryz.prog 124 #[.string (bs s),.string ⟨#[32,9]⟩] w fun e w'=>e=.returned (.string (bs T))∧Below w.heap.size w w')
  : Calls Tryz.prog 81 #[Dw R,.int .i64 (ln:Int),.int .i64 (k:Int),.string (bs s)] w fun e w'=>e=.returned (.tuple #[])∧PS w' B E R ({ r with leaf:={ r.leaf with lines:=r.leaf.lines++[T] } })∧Below B w w':=by
 obtain ⟨rv,lv,pv,M,row,hrow,hA⟩:=h;have hBw:B≤w.heap.size:=by have:=aK hA;omega
 have hto:=fun (E':Nat→Option Part) wz hz'=>je wz B E' R r hz' hs (by omega) hi k hk;have hsz:=eP hs k i;replace hA:=Lib.hid hA;replace hrow:=Lib.hid hrow;replace hto:=Lib.hid hto;replace hsz:=Lib.hid hsz;go_enter Tryz.func81,Tryz.ntmps81;go_wp2_with fail;refine (xH _).mono ?_;rintro e w1 ⟨rfl,hb1⟩;go_wp2_with fail;refine (hbg _).mono ?_;rintro e w2 ⟨rfl,hb2⟩;have hb3:=Lib.hid (ag (ag hb1 hb2) (aa w2 (.cells (ck f) 68)));have dh:=Lib.hid ((cT.mk (hA.out.hp.ext (ag hb1 hb2)) hA.out.good hA.out.old).jk (aa w2 (.cells (ck f) 68)) (a:=.blk w2.heap.size (ck f) 68) ⟨by have:=hb1.size;have:=hb2.size;omega,heap_alloc_new w2 _⟩ (fun g hg=>by cases hg;exact Nat.le_refl _));obtain ⟨E',gC⟩:∃ E',eL (.blk w2.heap.size (ck f) 68) E=E':=⟨_,rfl⟩
 rw [gC] at dh;have qh:E' 0=some (.blk w2.heap.size (ck f) 68):=by rw [← gC];rfl
 replace gC:=Lib.hid gC;replace qh:=Lib.hid qh;clear hb1 hb2;go_wp2_with fail;refine (hem _).mono ?_;rintro e w3 ⟨rfl,rfl⟩;go_wp2_with fail;refine (hbr _).mono ?_;rintro e w3 ⟨rfl,xw⟩;replace dh:=Lib.hid (cT.mk (dh.out.hp.ext xw) dh.out.good dh.out.old);replace hb3:=Lib.hid (ag hb3.out xw);obtain ⟨hR1,hR2,pU,_,c1,c2,c3,c4,c5,c6,_⟩:=aK dh.out;rw [h4] at c1;replace h4:=Lib.hid h4;have hown:=dh.out.hp.own (k:=.lns) rfl;obtain ⟨lA,lc,hlv,hlc⟩:=ak hown;rw [hlv] at c3 hown;obtain ⟨n,hnn⟩:∃ n,r.leaf.lines.length=n:=⟨_,rfl⟩
 have hnl:=hs.lines;rw [hnn] at c3 hown hnl;obtain ⟨cd,hcd⟩:∃ cd,r.leaf.op.ind=cd:=⟨_,rfl⟩
 rw [hcd] at c6;have hw3:B≤w3.heap.size:=by omega
 have tB:=Lib.hid ((hb3.out.mono hBw).drew);have lX:An R (.slice lA n lc) cd w3.drew:=⟨c3,c6⟩
 have wE:=Lib.hid (cT.mk (dh.out.hp.ext (bC w3)) dh.out.good dh.out.old);have vS:w3.drew.ownsRow B 9 1 (.slice lA n lc) n (aY r.leaf.lines):=hown.drew;have Ig:R<w3.drew.heap.size:=hR2;have Wc:some R≠(Value.slice lA n lc).ownBlock:=fun e=>by
  have:=dh.out.hp.apart .rd .lns _ _ R rfl rfl rfl (by rw [hlv,hnn];exact e.symm);cases this
 replace hnn:=Lib.hid hnn;replace hlv:=Lib.hid hlv;replace hcd:=Lib.hid hcd;clear hown c2 c4 c5 pU;go_wp2_with fail;refine dG 13 [(true,0),(true,1),(true,2),(true,3),(true,4),(true,5),(true,6),(false,7),(false,8),(false,9),(false,10),(false,11),(false,12)] 0 .fin (An R (.slice lA n lc) cd) lX (by kernel_rfl) (by kernel_rfl) (by kernel_rfl) (fun _ _ d _ _ h=>by cases d<;>exact h) ?_;generalize w3.drew=w5 at lX wE tB vS Ig ⊢;clear c1 c3 c6 hR2 hw3
 repeat (first | refine bS rfl ?_ | (refine aB rfl ?_;intro K hK;go_simp;refine hK _ _ _ ?_;clear hK K))
 refine b9 (.slice lA n lc) rfl rfl lX (fun u hu=>by obtain ⟨u1,u2⟩:=hu;go_simp) ?_
 repeat (first | refine bS rfl ?_ | (refine aB rfl ?_;intro K hK;go_simp;refine hK _ _ _ ?_;clear hK K))
 refine aB rfl ?_;intro K hK;go_simp;refine (pz _).mono ?_;rintro e w6 ⟨rfl,jQ⟩;have hz6:=jQ.size;have IB:An R (.slice lA n lc) cd w6:=⟨(jQ.cell (p:=⟨R,3,none⟩) Ig).trans lX.1,(jQ.cell (p:=⟨R,6,none⟩) Ig).trans lX.2⟩
 have BZ:=cT.mk (wE.out.hp.ext (ag jQ (aa w6 (.cells #[.string (bs T)] 9)))) wE.out.good wE.out.old;have BI:(w6.alloc (.cells #[.string (bs T)] 9)).ownsRow B 9 1 (.slice lA n lc) n (aY r.leaf.lines):=(bX vS jQ).alloc _;have hr6:=Row.kT w6 9 #[Value.string (bs T)] (size:=1) (n:=1) rfl rfl;have Vb:Below B w w6:=tB.out.trans (jQ.mono (by omega));have DJ:An R (.slice lA n lc) cd (w6.alloc (.cells #[.string (bs T)] 9)):=⟨((aa w6 _).cell (p:=⟨R,3,none⟩) (by show R<w6.heap.size;omega)).trans IB.1,((aa w6 _).cell (p:=⟨R,6,none⟩) (by show R<w6.heap.size;omega)).trans IB.2⟩
 have Xs:B≤(w6.alloc (.cells #[.string (bs T)] 9)).heap.size:=by have:=(aa w6 (.cells #[.string (bs T)] 9)).size;omega
 replace BZ:=Lib.hid BZ;refine aT IB (hK _ _ _ ?_);clear hK K;refine aB rfl ?_;intro K hK;go_simp;refine aT DJ (hK _ _ _ ?_);clear hK K;refine aB rfl ?_;intro K hK;unfold aD;rw [if_pos (by rfl),if_neg (by simp)];refine eG (v:=.slice lA n lc) (.tmp 87) (.tmp 90) rfl EN rfl BI rfl hr6 (by intro u hu;simp at hu;subst hu;rfl) (by omega) (by omega) Xs ?_;intro v7 w7 kQ sY eA nY;obtain ⟨vA7,vc7,rfl,Zz⟩:=ak kQ;have O2:An R (.slice lA n lc) cd w7:=⟨sY.out.cell DJ.1 Wc,sY.out.cell DJ.2 Wc⟩
 obtain ⟨Zb,hf2,hf3,hf4,Lx⟩:=xQ BZ.out T (v:=.slice vA7 (n+1) vc7) (by rw [hnn.out];exact kQ) (by rw [hlv.out,hnn.out];exact sY.out) (by rw [hlv.out,hnn.out];exact nY.out);rw [hlv.out,hnn.out] at hf3;rw [← gC.out] at Lx;have IE:=Lib.hid (⟨rv,.slice vA7 (n+1) vc7,pv,M,row,hrow.out,Lx.fP⟩:PS (w7.setCell ⟨R,3,none⟩ (.slice vA7 (n+1) vc7)) B E R { r with leaf:={ r.leaf with lines:=r.leaf.lines++[T] } });have TV:=Lib.hid (((Vb.alloc (by omega) _).trans eA).setCell (p:=⟨R,3,none⟩) Zb (.slice vA7 (n+1) vc7));clear Lx;refine aT O2 (hK _ _ _ ?_);clear hK K;refine aB rfl ?_;intro K hK;go_simp;refine aT O2 (hK _ _ _ ?_);clear hK K;refine aB rfl ?_;intro K hK;go_simp;refine aT O2 (hK _ _ _ ?_);clear hK K;refine aB rfl ?_;intro K hK;go_simp;refine aT O2 (hK _ _ _ ?_);clear hK K;refine iy rfl rfl ?_;go_simp;refine ⟨fun _=>True,trivial,aQ ?_⟩;go_wp2_with fail;go_returns;exact ⟨rfl,IE.out,TV.out⟩
theorem Ws (w:World) (B:Nat) (E:Nat→Option Part) (R:Nat) (r:Pb.Rd) (h:PS w B E R r) {N i:Nat}(hs:Pb.Sz N i r) (hN:N≤800000000) (hi:i≤100000) (ln k:Nat) (hk:1≤k) (s:List UInt8) (hn:Nat) (ht:List UInt8) (f:Fn.Op)
  (xH:∀ w,Calls Tryz.prog 120 #[.string (bs s)] w fun e w'=>e=.returned (.tuple #[.int .i64 (hn:Int),.string (bs ht),.bool false])∧Below w.heap.size w w')
  (hbg:∀ w,Calls Tryz.prog 121 #[.string (bs s)] w fun e w'=>e=.returned (.tuple #[.agg (ck f),.bool false])∧Below w.heap.size w w')
  (hem:∀ w,Calls Tryz.prog 122 #[.string (bs s)] w fun e w'=>e=.returned (.bool false)∧w=w')
  (hbr:∀ w,Calls Tryz.prog 123 #[.string (bs s)] w fun e w'=>e=.returned (.bool false)∧Below w.heap.size w w')
  (h4:r.leaf.kind≠4) (T:List UInt8) (pz:∀ w,Calls Tryz.prog 124 #[.string (bs s),.string ⟨#[32,9]⟩] w fun e w'=>e=.returned (.string (bs T))∧Below w.heap.size w w')
  : Calls Tryz.prog 81 #[Dw R,.int .i64 (ln:Int),.int .i64 (k:Int),.string (bs s)] w fun e w'=>e=.returned (.tuple #[])∧PS w' B E R ({ Pb.aI k r with leaf:=⟨4,ln,[T],Pb.qP,false⟩ })∧Below B w w':=by
 obtain ⟨rv,lv,pv,M,row,hrow,hA⟩:=h;have hBw:B≤w.heap.size:=by have:=aK hA;omega
 have hto:=fun (E':Nat→Option Part) wz hz'=>je wz B E' R r hz' hs (by omega) hi k hk;have hsz:=eP hs k i;replace hA:=Lib.hid hA;replace hrow:=Lib.hid hrow;replace hto:=Lib.hid hto;replace hsz:=Lib.hid hsz;go_enter Tryz.func81,Tryz.ntmps81;go_wp2_with fail;refine (xH _).mono ?_;rintro e w1 ⟨rfl,hb1⟩;go_wp2_with fail;refine (hbg _).mono ?_;rintro e w2 ⟨rfl,hb2⟩;have hb3:=Lib.hid (ag (ag hb1 hb2) (aa w2 (.cells (ck f) 68)));have dh:=Lib.hid ((cT.mk (hA.out.hp.ext (ag hb1 hb2)) hA.out.good hA.out.old).jk (aa w2 (.cells (ck f) 68)) (a:=.blk w2.heap.size (ck f) 68) ⟨by have:=hb1.size;have:=hb2.size;omega,heap_alloc_new w2 _⟩ (fun g hg=>by cases hg;exact Nat.le_refl _));obtain ⟨E',gC⟩:∃ E',eL (.blk w2.heap.size (ck f) 68) E=E':=⟨_,rfl⟩
 rw [gC] at dh;have qh:E' 0=some (.blk w2.heap.size (ck f) 68):=by rw [← gC];rfl
 replace gC:=Lib.hid gC;replace qh:=Lib.hid qh;clear hb1 hb2;go_wp2_with fail;refine (hem _).mono ?_;rintro e w3 ⟨rfl,rfl⟩;go_wp2_with fail;refine (hbr _).mono ?_;rintro e w3 ⟨rfl,xw⟩;replace dh:=Lib.hid (cT.mk (dh.out.hp.ext xw) dh.out.good dh.out.old);replace hb3:=Lib.hid (ag hb3.out xw);obtain ⟨hR1,hR2,pU,_,c1,_⟩:=aK dh.out;have t4:((r.leaf.kind:Int)==4)=false:=by rw [beq_eq_false_iff_ne];omega
 go_wp2_with fail;refine (hto.out E' _ ⟨rv,lv,pv,M,row,hrow.out,dh.out⟩).mono ?_;rintro e w4 ⟨rfl,Ay,hb4⟩;have hb5:=(hb3.out.mono hBw).trans hb4;obtain ⟨rv4,lv4,pv4,M4,row4,hrow4,iO⟩:=Ay;clear c1 hR2 pU hR1;replace iO:=Lib.hid iO;replace hb5:=Lib.hid hb5;replace hrow4:=Lib.hid hrow4;go_wp2_with fail;refine (pz _).mono ?_;rintro e w6 ⟨rfl,jQ⟩;have adA:B≤w4.heap.size:=by have:=aK iO.out;omega
 have hz6:=jQ.size;have Y2:=(cT.mk (iO.out.hp.ext jQ) iO.out.good iO.out.old).jk (aa w6 (.cells #[.string (bs T)] 9)) (a:=.blk w6.heap.size #[.string (bs T)] 9) ⟨by omega,heap_alloc_new w6 _⟩ (fun g hg=>by cases hg;exact Nat.le_refl _);have eA:=(hb5.out.trans (jQ.mono adA)).alloc (by omega) (.cells #[.string (bs T)] 9);have hset:=TN Y2 ⟨4,ln,[T],Pb.qP,false⟩ rfl;have BZ:=cT.mk (iO.out.hp.ext jQ) iO.out.good iO.out.old;obtain ⟨hR1,hR2,pU,c0,c1,c2,c3,c4,c5,c6,c7,c8,_⟩:=aK BZ;obtain ⟨lA4,lc4,Zq,_⟩:=ak (BZ.hp.own (k:=.lns) rfl);rw [Zq] at c3;rw [← gC.out] at hset;have qF:=nt eA hR1 (.int .i64 ((4:Nat):Int)) (.int .i64 (ln:Int)) (.slice (some ⟨w6.heap.size,0,none⟩) 1 1) (.int .u8 (Pb.qP.c.toNat:Int)) (.int .i64 (Pb.qP.n:Int)) (.int .i64 (Pb.qP.ind:Int)) (.string (bs Pb.qP.info)) (.bool false);have IE:=Lib.hid (by rw [xU _ _ hR2] at hset;exact ⟨rv4,_,pv4,M4,row4,hrow4.out,hset.fP⟩:PS ((nZ w6 R (.int .i64 ((4:Nat):Int)) (.int .i64 (ln:Int)) (.slice (some ⟨w6.heap.size,0,none⟩) 1 1) (.int .u8 (Pb.qP.c.toNat:Int)) (.int .i64 (Pb.qP.n:Int)) (.int .i64 (Pb.qP.ind:Int)) (.string (bs Pb.qP.info)) (.bool false)).alloc (.cells #[.string (bs T)] 9)) B E R { Pb.aI k r with leaf:=⟨4,ln,[T],Pb.qP,false⟩ });rw [xU _ _ hR2] at qF;replace qF:=Lib.hid qF;replace Y2:=Lib.hid Y2;replace BZ:=Lib.hid BZ;clear hset c0 eA;go_wp2_with fail;go_returns;exact ⟨rfl,IE.out,qF.out⟩
theorem ON (w:World) (B:Nat) (E:Nat→Option Part) (R:Nat) (r:Pb.Rd) (h:PS w B E R r) {N i:Nat}(hs:Pb.Sz N i r) (hN:N≤800000000) (hi:i≤100000) (ln k:Nat) (hk:1≤k) (s:List UInt8) (hl:s.length+100≤140737488355328) :
  Calls Tryz.prog 81 #[Dw R,.int .i64 (ln:Int),.int .i64 (k:Int),.string (bs s)] w fun e w'=>e=.returned (.tuple #[])∧PS w' B E R (Pb.eW ln k s r)∧Below B w w':=by
 have xH:=fun w=>NI s w hl;have hbg:=fun w=>JB s w (by omega);have hbr:=fun w=>He s w hl;have pz:=fun w=>xe s w (by omega);obtain ⟨hn,ht,ho,Yd⟩:=Ko (Lf.eM s);obtain ⟨f,fo,qF,hb1,hb2⟩:=I0 (Fn.cu s);rw [Yd] at xH;rw [qF] at hbg;unfold Pb.eW
 by_cases he:Fn.emp s=true
 ·rw [if_pos he]
  exact Qs w B E R r h hs (by omega) hi ln k hk s hn ht ho f fo xH hbg (fun w=>tN s true he w (by omega))
 ·rw [if_neg he]
  have hem:=fun w=>tN s false (by simpa using he) w (by omega);cases hh:Lf.eM s with
  | some p =>
   obtain ⟨n,t⟩:=p;rw [hh] at Yd;unfold Cf at Yd;injection Yd with e;have e1:=congrArg (fun a=>a[0]?) e;have e2:=congrArg (fun a=>a[1]?) e;have e3:=congrArg (fun a=>a[2]?) e;simp at e1 e2 e3;obtain rfl:n=hn:=by omega
   have e4:t=ht:=by have:=congrArg ByteArray.toList e2;rwa [bH,bH] at this
   subst e4;subst e3;exact J0 w B E R r h hs hN hi ln k hk s n t f fo xH hbg hem
  | none =>
   rw [hh] at Yd;unfold Cf at Yd;injection Yd with e;have e3:=congrArg (fun a=>a[2]?) e;simp at e3;subst e3;simp only
   by_cases hb:Lf.uh s=true
   ·rw [if_pos hb]
    exact SQ w B E R r h hs hN hi ln k hk s hn ht f fo xH hbg hem (by rw [hb] at hbr;exact hbr)
   ·rw [if_neg hb]
    have adJ:Lf.uh s=false:=by simpa using hb
    rw [adJ] at hbr;cases fo with
    | true =>
     rw [hb1 rfl];exact RL w B E R r h hs hN hi ln k hk s hn ht f xH hbg hem hbr
    | false =>
     rw [hb2 rfl];simp only
     by_cases h4:r.leaf.kind=4
     ·rw [if_pos h4]
      exact UK w B E R r h hs hN hi ln k hk s hn ht f xH hbg hem hbr h4 (Fn.trim s) pz
     ·rw [if_neg h4]
      exact Ws w B E R r h hs hN hi ln k hk s hn ht f xH hbg hem hbr h4 (Fn.trim s) pz
theorem NO {w:World}{B R:Nat}{E:Nat→Option Part}{rv lv pv:Value}{M:Mm}{row:List MC}{l:Pb.Of}{ps:List Bk.Pl}(h:cT w B E R rv lv pv M row l ps):cT (w.setCell ⟨R,8,none⟩ (.bool true)) B E R rv lv pv M row { l with ended:=true } ps:=by
 have m:=h.hp.CM (k:=.rd) 8 (.bool true) rfl;exact ⟨m.same fun j=>by cases j<;>rfl,h.good,h.old⟩
theorem Sh (w:World) (B:Nat) (E:Nat→Option Part) (R:Nat) (r:Pb.Rd) (h:PS w B E R r) {N i:Nat}(hs:Pb.Sz N i r) (hN:N≤800000000) (hi:i≤100000) (s:List UInt8)
  (hen:∀ w,Calls Tryz.prog 117 #[.agg (ck r.leaf.op),.string (bs s)] w fun e w'=>e=.returned (.bool true)∧Below w.heap.size w w') :
  Calls Tryz.prog 79 #[Dw R,.string (bs s)] w fun e w'=>e=.returned (.tuple #[])∧PS w' B E R (Pb.ax { r with leaf:={ r.leaf with ended:=true } })∧Below B w w':=by
 obtain ⟨rv,lv,pv,M,row,hrow,hA⟩:=h;obtain ⟨hR1,hR2,pU,_,_,_,_,c4,c5,c6,c7,_⟩:=aK hA;have hcl:=fun wz hz=>zM wz B E R { r with leaf:={ r.leaf with ended:=true } } hz (hs.leaf { r.leaf with ended:=true } hs.lines hs.text hs.line) (by omega) hi;replace hA:=Lib.hid hA;replace hrow:=Lib.hid hrow;replace hcl:=Lib.hid hcl;go_enter Tryz.func79,Tryz.ntmps79;go_wp2_with fail;refine (hen _).mono ?_;rintro e w1 ⟨rfl,hb1⟩;have oc:=cT.mk (hA.out.hp.ext hb1) hA.out.good hA.out.old;obtain ⟨_,pZ,XN,_,_,_,_,_,_,_,_,c8,_⟩:=aK oc;have Dj:=Lib.hid (⟨rv,lv,pv,M,row,hrow.out,NO oc⟩:PS (w1.setCell ⟨R,8,none⟩ (.bool true)) B E R { r with leaf:={ r.leaf with ended:=true } });have hB2:=Lib.hid ((hb1.mono (by omega:B≤w.heap.size)).setCell (p:=⟨R,8,none⟩) hR1 (.bool true));clear oc hb1 c4 c5 c6 c7;go_wp2_with fail;refine (hcl.out _ Dj.out).mono ?_;rintro e w3 ⟨rfl,XY,hb3⟩;replace XY:=Lib.hid XY;have qF:=Lib.hid (hB2.out.trans hb3);go_wp2_with fail;go_returns;exact ⟨rfl,XY.out,qF.out⟩
theorem P4 (w:World) (B:Nat) (E:Nat→Option Part) (R:Nat) (r:Pb.Rd) (h:PS w B E R r) {N i:Nat}(hs:Pb.Sz N i r) (hi:i≤100000) (s T:List UInt8)
  (hen:∀ w,Calls Tryz.prog 117 #[.agg (ck r.leaf.op),.string (bs s)] w fun e w'=>e=.returned (.bool false)∧Below w.heap.size w w')
  (pz:∀ w,Calls Tryz.prog 118 #[.string (bs s),.int .i64 (r.leaf.op.ind:Int)] w fun e w'=>e=.returned (.string (bs T))∧Below w.heap.size w w') :
  Calls Tryz.prog 79 #[Dw R,.string (bs s)] w fun e w'=>e=.returned (.tuple #[])∧PS w' B E R { r with leaf:={ r.leaf with lines:=r.leaf.lines++[T] } }∧Below B w w':=by
 obtain ⟨rv,lv,pv,M,row,hrow,OC⟩:=h;obtain ⟨agJ,agw,_,_,_,_,_,d4,d5,d6,d7,_⟩:=aK OC;replace OC:=Lib.hid OC;replace hrow:=Lib.hid hrow;go_enter Tryz.func79,Tryz.ntmps79;go_wp2_with fail;refine (hen _).mono ?_;rintro e w9 ⟨rfl,KL⟩;have hA:=cT.mk (OC.out.hp.ext KL) OC.out.good OC.out.old;have WV:=KL.mono (by omega:B≤w.heap.size);clear d4 d5 d6 d7 KL;obtain ⟨hR1,hR2,pU,_,c1,c2,c3,c4,c5,c6,_⟩:=aK hA;have hown:=hA.hp.own (k:=.lns) rfl;obtain ⟨lA,lc,hlv,hlc⟩:=ak hown;rw [hlv] at c3 hown;obtain ⟨n,hnn⟩:∃ n,r.leaf.lines.length=n:=⟨_,rfl⟩
 have hnl:=hs.lines;rw [hnn] at c3 hown hnl;obtain ⟨cd,hcd⟩:∃ cd,r.leaf.op.ind=cd:=⟨_,rfl⟩
 rw [hcd] at c6;have hw3:B≤w9.heap.size:=by omega
 have tB:=Lib.hid (WV.drew);have lX:An R (.slice lA n lc) cd w9.drew:=⟨c3,c6⟩
 have wE:=Lib.hid (cT.mk (hA.hp.ext (bC w9)) hA.good hA.old);have vS:w9.drew.ownsRow B 9 1 (.slice lA n lc) n (aY r.leaf.lines):=hown.drew;have Ig:R<w9.drew.heap.size:=hR2;have Wc:some R≠(Value.slice lA n lc).ownBlock:=fun e=>by
  have:=hA.hp.apart .rd .lns _ _ R rfl rfl rfl (by rw [hlv,hnn];exact e.symm);cases this
 replace hnn:=Lib.hid hnn;replace hlv:=Lib.hid hlv;replace hcd:=Lib.hid hcd;clear hown c2 c4 c5 pU;replace hA:=Lib.hid hA;rw [hcd.out] at pz;go_wp2_with fail;refine dG 19 [(true,0),(true,1),(true,2),(true,3),(true,4),(true,5),(true,6),(true,7),(true,8),(true,9),(true,10),(true,11),(true,12),(false,13),(false,14),(false,15),(false,16),(false,17),(false,18)] 0 .fin (An R (.slice lA n lc) cd) lX (by kernel_rfl) (by kernel_rfl) (by kernel_rfl) (fun _ _ d _ _ h=>by cases d<;>exact h) ?_;generalize w9.drew=w5 at lX wE tB vS Ig ⊢;clear c1 c3 c6 hR2 hw3
 repeat (first | refine bS rfl ?_ | (refine aB rfl ?_;intro K hK;go_simp;refine hK _ _ _ ?_;clear hK K))
 refine b9 (.slice lA n lc) rfl rfl lX (fun u hu=>by obtain ⟨u1,u2⟩:=hu;go_simp) ?_
 repeat (first | refine bS rfl ?_ | (refine aB rfl ?_;intro K hK;go_simp;refine hK _ _ _ ?_;clear hK K))
 refine b9 (.int .i64 (cd:Int)) rfl rfl lX (fun u hu=>by obtain ⟨u1,u2⟩:=hu;go_simp) ?_;refine aB rfl ?_;intro K hK;go_simp;refine (pz _).mono ?_;rintro e w6 ⟨rfl,jQ⟩;have hz6:=jQ.size;have IB:An R (.slice lA n lc) cd w6:=⟨(jQ.cell (p:=⟨R,3,none⟩) Ig).trans lX.1,(jQ.cell (p:=⟨R,6,none⟩) Ig).trans lX.2⟩
 have BZ:=cT.mk (wE.out.hp.ext (ag jQ (aa w6 (.cells #[.string (bs T)] 9)))) wE.out.good wE.out.old;have BI:(w6.alloc (.cells #[.string (bs T)] 9)).ownsRow B 9 1 (.slice lA n lc) n (aY r.leaf.lines):=(bX vS jQ).alloc _;have hr6:=Row.kT w6 9 #[Value.string (bs T)] (size:=1) (n:=1) rfl rfl;have Vb:Below B w w6:=tB.out.trans (jQ.mono (by omega));have DJ:An R (.slice lA n lc) cd (w6.alloc (.cells #[.string (bs T)] 9)):=⟨((aa w6 _).cell (p:=⟨R,3,none⟩) (by show R<w6.heap.size;omega)).trans IB.1,((aa w6 _).cell (p:=⟨R,6,none⟩) (by show R<w6.heap.size;omega)).trans IB.2⟩
 have Xs:B≤(w6.alloc (.cells #[.string (bs T)] 9)).heap.size:=by have:=(aa w6 (.cells #[.string (bs T)] 9)).size;omega
 replace BZ:=Lib.hid BZ;refine aT IB (hK _ _ _ ?_);clear hK K;refine aB rfl ?_;intro K hK;go_simp;refine aT DJ (hK _ _ _ ?_);clear hK K;refine aB rfl ?_;intro K hK;unfold aD;rw [if_pos (by rfl),if_neg (by simp)];refine eG (v:=.slice lA n lc) (.tmp 22) (.tmp 31) rfl EN rfl BI rfl hr6 (by intro u hu;simp at hu;subst hu;rfl) (by omega) (by omega) Xs ?_;intro v7 w7 kQ sY eA nY;obtain ⟨vA7,vc7,rfl,Zz⟩:=ak kQ;have O2:An R (.slice lA n lc) cd w7:=⟨sY.out.cell DJ.1 Wc,sY.out.cell DJ.2 Wc⟩
 obtain ⟨Zb,hf2,hf3,hf4,Lx⟩:=xQ BZ.out T (v:=.slice vA7 (n+1) vc7) (by rw [hnn.out];exact kQ) (by rw [hlv.out,hnn.out];exact sY.out) (by rw [hlv.out,hnn.out];exact nY.out);rw [hlv.out,hnn.out] at hf3;have IE:=Lib.hid (⟨rv,.slice vA7 (n+1) vc7,pv,M,row,hrow.out,Lx⟩:PS (w7.setCell ⟨R,3,none⟩ (.slice vA7 (n+1) vc7)) B E R { r with leaf:={ r.leaf with lines:=r.leaf.lines++[T] } });have TV:=Lib.hid (((Vb.alloc (by omega) _).trans eA).setCell (p:=⟨R,3,none⟩) Zb (.slice vA7 (n+1) vc7));clear Lx;refine aT O2 (hK _ _ _ ?_);clear hK K;refine aB rfl ?_;intro K hK;go_simp;refine aT O2 (hK _ _ _ ?_);clear hK K;refine aB rfl ?_;intro K hK;go_simp;refine aT O2 (hK _ _ _ ?_);clear hK K;refine aB rfl ?_;intro K hK;go_simp;refine aT O2 (hK _ _ _ ?_);clear hK K;refine iy rfl rfl ?_;go_simp;refine ⟨fun _=>True,trivial,aQ ?_⟩;go_wp2_with fail;go_returns;exact ⟨rfl,IE.out,TV.out⟩
def Pb.Doc (row:List Pb.Cn):Prop:=(row.map (·.kind)).getLast? = some 0
theorem EM {c:Pb.Cn}{o:List Pb.Cn}(h:o≠[]):Pb.Doc (c::o)↔Pb.Doc o:=by
 unfold Pb.Doc;cases o with
 | nil=>exact absurd rfl h
 | cons a b=>simp [List.getLast?_cons_cons]
theorem En {c c':Pb.Cn}{o:List Pb.Cn}(h:c'.kind=c.kind):Pb.Doc (c'::o)↔Pb.Doc (c::o):=by
 unfold Pb.Doc;rw [List.map_cons,List.map_cons,h]
theorem Ms (d c:Pb.Cn):(Pb.give d c).kind=c.kind:=by
 unfold Pb.give
 split
 ·unfold Pb.Cn.addItem
  split
  ·rfl
  ·split<;>rfl
 ·rfl
theorem Hr:∀ (n:Nat) (row:List Pb.Cn),n<row.length→Pb.Doc row→Pb.Doc (Pb.nW n row)
 | 0,_,_,h=>h
 | _+1,[],h,_=>by simp at h
 | _+1,[c],h,_=>by simp at h
 | n+1,d::c::o,h,hd=>Hr n (Pb.give d c::o) (by simpa using h) ((En (Ms d c)).2 ((EM (by simp)).1 hd))
theorem mq {r:Pb.Rd}(t:Bk.Tree) (h:Pb.Doc r.row):Pb.Doc (Pb.bJ t r).row:=by
 unfold Pb.bJ;cases hr:r.row with
 | nil=>simp only [hr];rw [hr] at h;exact h
 | cons c o=>rw [hr] at h;exact (En rfl).2 h
theorem qD {r:Pb.Rd}(h:Pb.Doc r.row):Pb.Doc (Pb.ax r).row:=by
 unfold Pb.ax
 split
 ·exact mq _ h
 ·split
  ·exact mq _ h
  ·exact h
theorem Al (r:Pb.Rd):(Pb.ax r).row.length=r.row.length:=by
 have ha:∀ t,(Pb.bJ t r).row.length=r.row.length:=fun t=>by
  unfold Pb.bJ;cases hr:r.row with
  | nil=>simp [hr]
  | cons c o=>simp
 unfold Pb.ax
 split
 ·exact ha _
 ·split
  ·exact ha _
  ·rfl
theorem oL {r:Pb.Rd}{k:Nat}(hk:1≤k) (hp:0<r.row.length) (h:Pb.Doc r.row):Pb.Doc (Pb.aI k r).row:=by
 have:=Al r;exact Hr _ _ (by omega) (qD h)
theorem zQ {row:List Pb.Cn}(h:Pb.Doc row):row≠[]:=fun e=>by subst e;cases h
theorem uv (ln:Nat):∀ (m k:Nat) (r:Pb.Rd) (s:List UInt8),1≤k→Pb.Doc r.row→Pb.Doc (Pb.begin ln m k r s).1.row
 | 0,_,_,_,_,h=>h
 | m+1,k,r,s,hk,h=>by
  rw [Pb.begin];cases Bk.opener s with
  | none=>exact h
  | some oq =>
   obtain ⟨o,q⟩:=oq;have hp:0<r.row.length:=by have:=zQ h;cases hr:r.row with
    | nil=>exact absurd hr this
    | cons a b=>simp
   have h2:=oL hk hp h;exact uv ln m (k+1) _ q (by omega) ((EM (zQ h2)).2 h2)
theorem rP {ln k:Nat}{s:List UInt8}{r:Pb.Rd}(hk:1≤k) (hp:0<r.row.length) (h:Pb.Doc r.row):Pb.Doc (Pb.eW ln k s r).row:=by
 have h2:=oL hk hp h;unfold Pb.eW
 split
 ·exact h2
 ·split
  ·exact mq _ h2
  ·split
   ·exact mq _ h2
   ·split
    ·exact h2
    ·split
     ·exact h
     ·exact h2
theorem vK:∀ (L:List Pb.Cn) (s:List UInt8),(Pb.take L s).1≤L.length∧(Pb.take L s).2.length≤s.length+3*L.length
 | [],s=>by simp [Pb.take]
 | c::r,s=>by
  rw [Pb.take];cases ht:c.take s with
  | none=>simp
  | some q =>
   have:=vK r q;have:=u9 ht;simp only [List.length_cons];omega
theorem EW {row:List Pb.Cn}(h:Pb.Doc row) (s:List UInt8):1≤(Pb.take row.reverse s).1:=by
 rcases List.eq_nil_or_concat row with e | ⟨r,c,e⟩
 ·exact absurd e (zQ h)
 ·rw [List.concat_eq_append] at e
  subst e;unfold Pb.Doc at h;simp only [List.map_append,List.map_cons,List.map_nil,List.getLast?_concat,Option.some.injEq] at h;rw [List.reverse_append];show 1≤(Pb.take (c::r.reverse) s).1;rw [Pb.take];have:c.take s=some s:=by unfold Pb.Cn.take;rw [if_neg (by omega),if_neg (by omega)]
  rw [this];simp only;omega
theorem iR (s:List UInt8):(Fn.trim s).length≤s.length:=by
 unfold Fn.trim;have h1:∀ l:List UInt8,(Fn.front l).length≤l.length:=fun l=>by
  induction l with
  | nil=>simp [Fn.front]
  | cons b r ih=>unfold Fn.front;split<;>simp only [List.length_cons] at *<;>omega
 have h2:∀ l:List UInt8,(Fn.back l).length≤l.length:=fun l=>by
  induction l with
  | nil=>simp [Fn.back]
  | cons b r ih=>unfold Fn.back;split<;>simp only [List.length_cons,List.length_nil] at *<;>omega
 have:=h1 s;have:=h2 (Fn.front s);omega
theorem Ep {N i:Nat}{r:Pb.Rd}(h:Pb.Sz N i r) (ln k:Nat) (wO:ln≤1000000) (s:List UInt8) (hs:s.length≤300010):Pb.Sz (N+50) (i+1) (Pb.eW ln k s r):=by
 have h2:=eP h k (i+1);have ht:=iR s;unfold Pb.eW
 split
 ·exact h2.mono (by omega) (Nat.le_refl _)
 ·split
  ·exact (pS h2 _).mono (by omega) (Nat.le_refl _)
  ·split
   ·exact (pS h2 _).mono (by omega) (Nat.le_refl _)
   ·split
    ·exact (h2.leaf ⟨7,ln,[],_,false⟩ (Nat.zero_le _) (fun s hs=>by cases hs) wO).mono (by omega) (Nat.le_refl _)
    ·split
     ·refine (h.leaf { r.leaf with lines:=r.leaf.lines++[Fn.trim s] } (i':=i+1) (by have:=h.lines;simp;omega) (fun t ht=>?_) h.line).mono (by omega) (Nat.le_refl _)
      rcases List.mem_append.1 ht with ht | ht
      ·exact h.text t ht
      ·rw [List.mem_singleton.1 ht];omega
     ·exact (h2.leaf ⟨4,ln,[Fn.trim s],Pb.qP,false⟩ (by simp) (fun t ht=>by rw [List.mem_singleton.1 ht];omega) wO).mono (by omega) (Nat.le_refl _)
theorem C5 {N i:Nat}{r:Pb.Rd}(h:Pb.Sz N i r) (s:List UInt8) (hs:s.length≤300000):Pb.Sz (N+50) (i+1) (Pb.gw s r):=by
 unfold Pb.gw
 split
 ·exact (mJ (h.leaf { r.leaf with ended:=true } h.lines h.text h.line) (i+1)).mono (by omega) (Nat.le_refl _)
 ·refine (h.leaf { r.leaf with lines:=r.leaf.lines++[Cl.strip r.leaf.op.ind s] } (i':=i+1) (by have:=h.lines;simp;omega) (fun t ht=>?_) h.line).mono (by omega) (Nat.le_refl _)
  rcases List.mem_append.1 ht with ht | ht
  ·exact h.text t ht
  ·rw [List.mem_singleton.1 ht];have:=Cl.gb (r.leaf.op.ind:Int) s;omega
theorem qy {s:List UInt8}{r:Pb.Rd}(h:Pb.Doc r.row):Pb.Doc (Pb.gw s r).row:=by
 unfold Pb.gw
 split
 ·exact qD (r:={ r with leaf:={ r.leaf with ended:=true } }) h
 ·exact h
theorem JN (w:World) (B:Nat) (E:Nat→Option Part) (R:Nat) (r:Pb.Rd) (h:PS w B E R r) {N i:Nat}(hs:Pb.Sz N i r) (hN:N≤800000000) (hi:i≤100000) (s:List UInt8) (hl:s.length+100≤140737488355328) :
  Calls Tryz.prog 79 #[Dw R,.string (bs s)] w fun e w'=>e=.returned (.tuple #[])∧PS w' B E R (Pb.gw s r)∧Below B w w':=by
 have hen:=fun w=>SG r.leaf.op.c (r.leaf.op.n:Int) (r.leaf.op.ind:Int) (bs r.leaf.op.info) s w (by omega);have pz:=fun w=>p8 s (r.leaf.op.ind:Int) w (by omega);unfold Pb.gw
 by_cases he:Fn.ends r.leaf.op.c r.leaf.op.n s=true
 ·rw [if_pos he]
  rw [he] at hen;exact Sh w B E R r h hs hN hi s hen
 ·rw [if_neg he]
  rw [show Fn.ends r.leaf.op.c r.leaf.op.n s=false by simpa using he] at hen;exact P4 w B E R r h hs hi s _ hen pz
theorem OW (w:World) (B:Nat) (E:Nat→Option Part) (R:Nat) (r:Pb.Rd) (h:PS w B E R r) {N i:Nat}(hs:Pb.Sz N i r) (hd:Pb.Doc r.row) (hN:N≤700000000) (hi:i≤100000) (ln:Nat) (wO:ln≤1000000) (s:List UInt8) (hl:s.length≤299000) :
  Calls Tryz.prog 51 #[Dw R,.int .i64 (ln:Int),.string (bs s)] w fun e w'=>e=.returned (.tuple #[])∧(PS w' B E R (Pb.fJ ln s r)∧Pb.Sz (N+2100) (i+1) (Pb.fJ ln s r)∧Pb.Doc (Pb.fJ ln s r).row)∧Below B w w':=by
 obtain ⟨rv,lv,pv,M,row,hrow,hA⟩:=h;have hrl:row.length=r.row.length:=by rw [← hrow];simp
 have hBw:B≤w.heap.size:=by have:=aK hA;omega
 have hth:=PT w B E R rv lv pv M row r.leaf r.places hA (by rw [hrl];exact hs.few) s (by omega);rw [hrow] at hth;obtain ⟨hb1,hb2⟩:=vK r.row.reverse s;have hb0:=EW hd s;rw [List.length_reverse] at hb1 hb2;have Ai:=hs.few;obtain ⟨K,hK⟩:∃ K,(Pb.take r.row.reverse s).1=K:=⟨_,rfl⟩
 obtain ⟨Q,hQ⟩:∃ Q,(Pb.take r.row.reverse s).2=Q:=⟨_,rfl⟩
 rw [hK] at hb0 hb1 hth;rw [hQ] at hb2 hth;have hQl:Q.length≤299200:=by omega
 obtain ⟨T,hT⟩:∃ T,Pb.fJ ln s r=T:=⟨_,rfl⟩
 have HQ:=hT;unfold Pb.fJ at HQ;rw [hK,hQ] at HQ;rw [hT];obtain ⟨m,hm⟩:∃ m,r.row.length=m:=⟨_,rfl⟩
 rw [hm] at HQ hb1 Ai hrl;replace hA:=Lib.hid hA;replace hrow:=Lib.hid hrow;replace hrl:=Lib.hid hrl;replace hm:=Lib.hid hm
 by_cases h7:r.leaf.kind=7∧K=m
 ·rw [if_pos h7] at HQ
  obtain ⟨h7a,h7b⟩:=h7;subst h7b;have hfl:=fun wz hz=>JN wz B E R r hz hs (by omega) hi Q (by omega);rw [HQ] at hfl;have hres:Pb.Sz (N+2100) (i+1) T∧Pb.Doc T.row:=⟨by rw [← HQ];exact (C5 hs Q (by omega)).mono (by omega) (Nat.le_refl _),by rw [← HQ];exact qy hd⟩
  replace hfl:=Lib.hid hfl;replace hres:=Lib.hid hres;replace h7a:=Lib.hid h7a;clear hT HQ hK hQ;go_enter Tryz.func51,Tryz.ntmps51;go_wp2_with fail;refine hth.mono ?_;rintro e w1 ⟨rfl,hw1⟩;have oc:=cT.mk (hA.out.hp.ext hw1) hA.out.good hA.out.old;obtain ⟨hR1,hR2,pU,c0,c1,_⟩:=aK oc;obtain ⟨rA,rc,jl,_⟩:=ak (oc.hp.own (k:=.row) rfl);rw [jl,hrl.out] at c0;rw [h7a.out] at c1;have hP1:=Lib.hid (⟨rv,lv,pv,M,row,hrow.out,oc⟩:PS w1 B E R r);replace oc:=Lib.hid oc;clear pU;go_wp2_with fail;refine (hfl.out _ hP1.out).mono ?_;rintro e w2 ⟨rfl,Dj,hb3⟩;replace Dj:=Lib.hid Dj;have qF:=Lib.hid ((hw1.mono hBw).trans hb3);go_wp2_with fail;go_returns;exact ⟨rfl,⟨Dj.out,hres.out.1,hres.out.2⟩,qF.out⟩
 ·rw [if_neg h7] at HQ
  have T3:=fun wz hz=>Y8 wz B E R r hz hs (by omega) hi ln K (by omega) (by rw [hm.out];omega) Q (by omega);obtain ⟨G,hG⟩:∃ G,Pb.begin ln (41-K) K r Q=G:=⟨_,rfl⟩
  have hgd:=uv ln (41-K) K r Q (by omega) hd;rw [hG] at HQ T3 hgd;obtain ⟨r1,k1,s1⟩:=G;simp only at HQ T3 hgd;have hnot:((r.leaf.kind:Int)==7)=false∨((((r.leaf.kind:Int)==7)=true)∧((K:Int)==(m:Int))=false):=by
   by_cases ha:r.leaf.kind=7
   ·exact .inr ⟨by rw [beq_iff_eq];omega,by rw [beq_eq_false_iff_ne];intro e;exact h7 ⟨ha,by omega⟩⟩
   ·exact .inl (by rw [beq_eq_false_iff_ne];omega)
  replace T3:=Lib.hid T3;replace hgd:=Lib.hid hgd;replace HQ:=Lib.hid HQ;clear hT hK hQ hG h7;rcases hnot with t7 | ⟨t7,tk⟩
  all_goals (
   go_enter Tryz.func51,Tryz.ntmps51;go_wp2_with fail;refine hth.mono ?_;rintro e w1 ⟨rfl,hw1⟩;have oc:=cT.mk (hA.out.hp.ext hw1) hA.out.good hA.out.old;obtain ⟨hR1,hR2,pU,c0,c1,_⟩:=aK oc;obtain ⟨rA,rc,jl,_⟩:=ak (oc.hp.own (k:=.row) rfl);rw [jl,hrl.out] at c0;have hP1:=Lib.hid (⟨rv,lv,pv,M,row,hrow.out,oc⟩:PS w1 B E R r);replace oc:=Lib.hid oc;clear pU;go_wp2_with fail;refine (T3.out _ hP1.out).mono ?_;rintro e w2 ⟨rfl,Dj,hz2,jq,hk2,hs2,hb3⟩;have rG:=fun wz hz=>ON wz B E R r1 hz hz2 (by omega) hi ln k1 jq s1 (by omega);rw [HQ.out] at rG;have hres:Pb.Sz (N+2100) (i+1) T∧Pb.Doc T.row:=⟨by rw [← HQ.out];exact (Ep hz2 ln k1 wO s1 (by omega)).mono (by omega) (Nat.le_refl _),by rw [← HQ.out];exact rP jq (by omega) hgd.out⟩
   replace Dj:=Lib.hid Dj;replace rG:=Lib.hid rG;replace hres:=Lib.hid hres;have hb4:=Lib.hid ((hw1.mono hBw).trans hb3);clear c0 c1 hz2 hk2;go_wp2_with fail;refine (rG.out _ Dj.out).mono ?_;rintro e w4 ⟨rfl,Ay,hb5⟩;replace Ay:=Lib.hid Ay;have qF:=Lib.hid (hb4.out.trans hb5);go_wp2_with fail;go_returns;exact ⟨rfl,⟨Ay.out,hres.out.1,hres.out.2⟩,qF.out⟩)
end Go.Proofs.YtddkjkockbcamaaGreatDoor
