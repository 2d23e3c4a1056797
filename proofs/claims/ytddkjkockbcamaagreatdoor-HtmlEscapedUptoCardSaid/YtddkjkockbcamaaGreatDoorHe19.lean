/- IlPt IlText IlSettle IlMath2 IlMath3 HmMath HmMem IlRow IlPlain IlReg IlStores IlMath4 IlReady IlMath5 IlFew IlStress IlPush EmKindZA EmKindZB EmKindPA EmKindPB EmKind IlWiths IlFew2 IlMass HmLen IlFine HmRef IlWithinT IlWithinF IlParse HmBlk IlFold IlRows IlHq IlPRune IlPSay IlTS IlPAll IlPNest -/
import Derived.Test.YtddkjkockbcamaaGreatDoorHe18
import Derived.Deep.DeepCutAuto
import Derived.Test.YtddkjkockbcamaaGreatDoorHe17
import Derived.Test.YtddkjkockbcamaaGreatDoorHe04
import Derived.Test.YtddkjkockbcamaaGreatDoorHe03
import Derived.Test.YtddkjkockbcamaaGreatDoorHe10
import Derived.Test.YtddkjkockbcamaaGreatDoorHe02
import Derived.Maps.OwnSet
import Derived.Maps.OwnOps
import Derived.Lib.RuneBytes
set_option maxHeartbeats 16000000
set_option maxRecDepth 100000
namespace Go.Proofs.YtddkjkockbcamaaGreatDoor
open Go.RowKit
def Il.place (l:List Il.Pt) (r:Nat):Nat:=(l.findIdx? fun p=>p.run==some r).getD 0
theorem Am {l:List Il.Pt}{r k:Nat}(hk:k<l.length) (h:l[k].run=some r) (hno:∀ p∈l.take k,p.run≠some r):Il.place l r=k:=by
 unfold Il.place;have:l.findIdx? (fun p=>p.run==some r)=some k:=by
  rw [List.findIdx?_eq_some_iff_getElem];refine ⟨hk,by simpa using h,fun j hj=>?_⟩;have hm:l[j]'(by omega)∈l.take k:=by
   have:(l.take k)[j]'(by rw [List.length_take];omega)=l[j]'(by omega):=List.getElem_take;rw [← this];exact List.getElem_mem _
  simpa using hno _ hm
 rw [this];rfl
end Go.Proofs.YtddkjkockbcamaaGreatDoor
namespace Go.Proofs.YtddkjkockbcamaaGreatDoor
open Go.RowKit
attribute [local go_sem] aD av aq
theorem It:EI Tryz.prog 33 35 4 64:=EI.mk' (z:=.agg #[.int .i64 0,.string ⟨#[]⟩,.string ⟨#[]⟩,.slice none 0 0]) Tryz.underlying33 (by kernel_rfl) rfl (by omega)
namespace Il
def eS:In→Nat
 | .mk _ t _ _=>t.length
def eA (o:List In):Nat:=(o.map eS).sum
def eF (l:List Pt):Nat:=(l.map fun p=>eS (j5 p)).sum
theorem fq (o:List In) (d:List UInt8) (ks:List In):dj o (.mk 0 [] d ks)=o:=by simp [dj]
theorem fD (o:List In) {t:List UInt8}(h:t≠[]) (t' d' d:List UInt8) (ks' ks:List In):dj (o++[.mk 0 t' d' ks']) (.mk 0 t d ks)=o++[.mk 0 (t'++t) d' ks']:=by simp [dj,h]
theorem sB (o:List In) {kd:Nat}(h:kd≠0) (t d:List UInt8) (ks:List In):dj o (.mk kd t d ks)=o++[.mk kd t d ks]:=by
 cases kd with
 | zero=>exact absurd rfl h
 | succ n=>rfl
theorem jn {t:List UInt8}(h:t≠[]) (d:List UInt8) (ks:List In):dj [] (.mk 0 t d ks)=[.mk 0 t d ks]:=by simp [dj,h]
theorem jz (o:List In) {t:List UInt8}(h:t≠[]) {kd':Nat}(hk:kd'≠0) (t' d' d:List UInt8) (ks' ks:List In):dj (o++[.mk kd' t' d' ks']) (.mk 0 t d ks)=o++[.mk kd' t' d' ks']++[.mk 0 t d ks]:=by
 cases kd' with
 | zero=>exact absurd rfl hk
 | succ n=>simp [dj,h]
theorem bp (kd:Nat) (t d:List UInt8) (ks:List In) (n:Nat) (c:UInt8):j5 ⟨.mk kd t d ks,none,n,c⟩=.mk kd t d ks:=rfl
theorem iz (kd:Nat) (t d:List UInt8) (ks:List In) (r n:Nat) (c:UInt8):j5 ⟨.mk kd t d ks,some r,n,c⟩=.mk kd (List.replicate n c) d ks:=rfl
end Il
end Go.Proofs.YtddkjkockbcamaaGreatDoor
namespace Go.Proofs.YtddkjkockbcamaaGreatDoor.Il
def rO (l:List Pt) (i s:Nat):List Pt:=l.mapIdx fun j p=>if j=i then { p with left:=p.left-s } else p
def bE (l:List Pt) (x:Nat×Nat×Nat):List Pt :=
 (rO (rO l (place l x.1) x.2.2) (place l x.2.1) x.2.2).take (place l x.1+1) ++
  [⟨.mk (if x.2.2=2 then 3 else 2) [] [] (settle ((l.take (place l x.2.1)).drop (place l x.1+1))),none,0,0⟩] ++
  (rO (rO l (place l x.1) x.2.2) (place l x.2.1) x.2.2).drop (place l x.2.1)
def dY (l:List Pt) (runs:List Em.R):List In:=settle ((Em.pairs runs).foldl bE l)
def cQ (l:List Pt):List Nat:=l.filterMap fun p=>p.run
theorem dg (a b:List Pt):cQ (a++b)=cQ a++cQ b:=by simp [cQ]
theorem fR (p:Pt) (b:List Pt):cQ (p::b)=(match p.run with | some r=>[r] | none=>[])++cQ b:=by
 unfold cQ;rw [List.filterMap_cons];cases p.run<;>rfl
theorem gy {l:List Pt}{r:Nat}:r∈cQ l↔∃ p∈l,p.run=some r:=by simp [cQ]
theorem Eb {A B:List Pt}{p:Pt}{r:Nat}(h:p.run=some r) (hA:∀ q∈A,q.run≠some r):place (A++p::B) r=A.length:=by
 refine Am (by simp) (by simp [h]) fun q hq=>?_;rw [List.take_left' rfl] at hq;exact hA q hq
theorem nD:∀ {l:List Pt}{r:Nat},r∈cQ l→∃ A p B,l=A++p::B∧p.run=some r∧∀ q∈A,q.run≠some r
 | [],r,h=>by simp [cQ] at h
 | x::l,r,h=>by
  by_cases hx:x.run=some r
  ·exact ⟨[],x,l,rfl,hx,by simp⟩
  ·have h2:r∈cQ l:=by
    obtain ⟨p,hp,hr⟩:=gy.1 h;rcases List.mem_cons.1 hp with rfl | hp
    ·exact absurd hr hx
    ·exact gy.2 ⟨p,hp,hr⟩
   obtain ⟨A,p,B,e,h3,h4⟩:=nD h2;refine ⟨x::A,p,B,by rw [e];rfl,h3,fun q hq=>?_⟩;rcases List.mem_cons.1 hq with rfl | hq
   ·exact hx
   ·exact h4 q hq
theorem jd {l:List Pt}{a b:Nat}(hs:(cQ l).Pairwise (· < ·)) (ha:a∈cQ l) (hb:b∈cQ l) (hab:a<b) :
  ∃ A p B q C,l=A++p::(B++q::C)∧p.run=some a∧q.run=some b∧place l a=A.length∧place l b=A.length+1+B.length∧(∀ x∈cQ A,x<a)∧(∀ x∈cQ B,a<x∧x<b)∧∀ x∈cQ C,b<x:=by
 obtain ⟨A,p,R,rfl,hp,hA⟩:=nD ha;have e1:cQ (A++p::R)=cQ A++(a::cQ R):=by rw [dg,fR,hp];rfl
 rw [e1] at hs hb;rw [List.pairwise_append] at hs;obtain ⟨_,s2,s3⟩:=hs;rw [List.pairwise_cons] at s2;have Yf:b∈cQ R:=by
  rcases List.mem_append.1 hb with h | h
  ·have:=s3 b h a (by simp);omega
  ·rcases List.mem_cons.1 h with h | h
   ·omega
   ·exact h
 obtain ⟨B,q,C,rfl,hq,hB⟩:=nD Yf;have e2:cQ (B++q::C)=cQ B++(b::cQ C):=by rw [dg,fR,hq];rfl
 have s4:=s2.2;have s5:=s2.1;rw [e2] at s4 s5;rw [List.pairwise_append] at s4;obtain ⟨_,s6,s7⟩:=s4;rw [List.pairwise_cons] at s6;have hAl:∀ x∈cQ A,x<a:=fun x hx=>s3 x hx a (by simp);refine ⟨A,p,B,q,C,rfl,hp,hq,Eb hp hA,?_,hAl,fun x hx=>⟨s5 x (by simp [hx]),s7 x hx b (by simp)⟩,fun x hx=>s6.1 x hx⟩;have e3:A++p::(B++q::C)=(A++p::B)++q::C:=by simp
 rw [e3,Eb hq]
 ·simp;omega
 ·intro y hy XZ
  rcases List.mem_append.1 hy with h | h
  ·have:=hAl b (gy.2 ⟨y,h,XZ⟩);omega
  ·rcases List.mem_cons.1 h with h | h
   ·subst h;rw [hp] at XZ;injection XZ with XZ;omega
   ·exact hB y h XZ
theorem yC (A R:List Pt) (p:Pt) (s:Nat):rO (A++p::R) A.length s=A++{ p with left:=p.left-s }::R:=by
 apply List.ext_getElem?;intro j;unfold rO;rw [List.getElem?_mapIdx];rcases Nat.lt_trichotomy j A.length with h | h | h
 ·rw [List.getElem?_append_left h,List.getElem?_append_left h,List.getElem?_eq_getElem h]
  simp only [Option.map_some,if_neg (show ¬ j=A.length by omega)]
 ·subst h
  rw [List.getElem?_append_right (Nat.le_refl _),List.getElem?_append_right (Nat.le_refl _),Nat.sub_self];simp
 ·rw [List.getElem?_append_right (by omega),List.getElem?_append_right (by omega)]
  obtain ⟨m,hm⟩:∃ m,j-A.length=m+1:=⟨j-A.length-1,by omega⟩
  rw [hm,List.getElem?_cons_succ,List.getElem?_cons_succ];cases R[m]? with
  | none=>rfl
  | some x=>simp only [Option.map_some,if_neg (show ¬ j=A.length by omega)]
theorem ey {A B C:List Pt}{p q:Pt}{a b s:Nat}(ha:place (A++p::(B++q::C)) a=A.length) (hb:place (A++p::(B++q::C)) b=A.length+1+B.length) :
  bE (A++p::(B++q::C)) (a,b,s)=A++{ p with left:=p.left-s }::(⟨.mk (if s=2 then 3 else 2) [] [] (settle B),none,0,0⟩::{ q with left:=q.left-s }::C):=by
 unfold bE;simp only [ha,hb];have e1:∀ p':Pt,A++p'::(B++q::C)=(A++p'::B)++q::C:=fun p'=>by simp
 have hl:∀ p':Pt,(A++p'::B).length=A.length+1+B.length:=fun p'=>by simp;omega
 rw [yC];have e2:=yC (A++{ p with left:=p.left-s }::B) C q s;rw [hl] at e2;rw [e1,e2];have e3:(A++{ p with left:=p.left-s }::B++{ q with left:=q.left-s }::C).take (A.length+1)=A++[{ p with left:=p.left-s }]:=by
  have:A++{ p with left:=p.left-s }::B++{ q with left:=q.left-s }::C=(A++[{ p with left:=p.left-s }])++(B++{ q with left:=q.left-s }::C):=by simp
  rw [this];exact List.take_left' (by simp)
 have e4:(A++{ p with left:=p.left-s }::B++{ q with left:=q.left-s }::C).drop (A.length+1+B.length)={ q with left:=q.left-s }::C:=List.drop_left' (hl _);have e5:((A++p::(B++q::C)).take (A.length+1+B.length)).drop (A.length+1)=B:=by
  rw [e1,List.take_left' (hl p)];have:A++p::B=(A++[p])++B:=by simp
  rw [this];exact List.drop_left' (by simp)
 rw [e3,e4,e5];simp
theorem p6 (p:Pt) (R:List Pt) {r:Nat}(h:p.run=some r):cQ (p::R)=r::cQ R:=by rw [fR,h];rfl
theorem CQ {l:List Pt}{a b s:Nat}(hs:(cQ l).Pairwise (· < ·)) (ha:a∈cQ l) (hb:b∈cQ l) (hab:a<b) :
  (cQ (bE l (a,b,s))).Pairwise (· < ·)∧∀ r,r∈cQ l→¬ (a<r∧r<b)→r∈cQ (bE l (a,b,s)):=by
 obtain ⟨A,p,B,q,C,rfl,hp,hq,h1,h2,h3,h4,h5⟩:=jd hs ha hb hab;rw [ey h1 h2];have e1:cQ (A++p::(B++q::C))=cQ A++(a::(cQ B++(b::cQ C))):=by rw [dg,p6 p _ hp,dg,p6 q _ hq]
 have e2:cQ (A++{ p with left:=p.left-s }::(⟨.mk (if s=2 then 3 else 2) [] [] (settle B),none,0,0⟩::{ q with left:=q.left-s }::C))=cQ A++(a::(b::cQ C)):=by
  rw [dg,p6 { p with left:=p.left-s } _ hp,fR,p6 { q with left:=q.left-s } _ hq];rfl
 rw [e1] at hs ⊢;rw [e2];constructor
 ·rw [List.pairwise_append] at hs ⊢
  obtain ⟨s1,s2,s3⟩:=hs;rw [List.pairwise_cons,List.pairwise_append] at s2;refine ⟨s1,?_,fun x hx y hy=>?_⟩
  ·rw [List.pairwise_cons]
   refine ⟨fun y hy=>?_,s2.2.2.1⟩;rcases List.mem_cons.1 hy with rfl | hy
   ·exact hab
   ·have:=h5 y hy;omega
  ·refine s3 x hx y ?_
   rcases List.mem_cons.1 hy with rfl | hy
   ·simp
   ·rcases List.mem_cons.1 hy with rfl | hy
    ·simp
    ·simp [hy]
 ·intro r hr hn
  rcases List.mem_append.1 hr with h | h
  ·exact List.mem_append.2 (.inl h)
  ·refine List.mem_append.2 (.inr ?_)
   rcases List.mem_cons.1 h with rfl | h
   ·simp
   ·rcases List.mem_append.1 h with h | h
    ·exact absurd (h4 r h) hn
    ·rcases List.mem_cons.1 h with rfl | h
     ·simp
     ·simp [h]
theorem Sy {X:List (Nat×Nat×Nat)}{l:List Pt}(h1:(cQ l).Pairwise (· < ·)) (h2:∀ x∈X,x.1∈cQ l∧x.2.1∈cQ l∧x.1<x.2.1) (h3:X.Pairwise Em.outside) :
  ∀ k,k≤X.length→(cQ ((X.take k).foldl bE l)).Pairwise (· < ·)∧∀ j (hj:j<X.length),k≤j→X[j].1∈cQ ((X.take k).foldl bE l)∧X[j].2.1∈cQ ((X.take k).foldl bE l):=by
 intro k
 induction k with
 | zero=>exact fun _=>⟨h1,fun j hj _=>⟨(h2 _ (List.getElem_mem hj)).1,(h2 _ (List.getElem_mem hj)).2.1⟩⟩
 | succ k ih =>
  intro hk;obtain ⟨i1,i2⟩:=ih (by omega);have hk':k<X.length:=by omega
  obtain ⟨j1,j2⟩:=i2 k hk' (Nat.le_refl _);rw [List.take_succ_eq_append_getElem hk',List.foldl_append];have hj:=CQ (s:=X[k].2.2) i1 j1 j2 (h2 _ (List.getElem_mem hk')).2.2;refine ⟨hj.1,fun j hjl hkj=>?_⟩;have ho:=List.pairwise_iff_getElem.1 h3 k j hk' hjl (by omega);obtain ⟨m1,m2⟩:=i2 j hjl (by omega);exact ⟨hj.2 _ m1 ho.1,hj.2 _ m2 ho.2⟩
theorem dL (a b:List Pt):eF (a++b)=eF a+eF b:=by simp [eF]
theorem dW (p:Pt) (b:List Pt):eF (p::b)=eS (j5 p)+eF b:=by simp [eF]
theorem C2 {p:Pt}{r:Nat}(h:p.run=some r) (s:Nat):eS (j5 { p with left:=p.left-s })≤eS (j5 p):=by
 obtain ⟨⟨kd,t,d,ks⟩,rn,n,c⟩:=p;simp only at h;subst h;simp only [iz,eS,List.length_replicate];omega
theorem KO {l:List Pt}{a b s:Nat}(hs:(cQ l).Pairwise (· < ·)) (ha:a∈cQ l) (hb:b∈cQ l) (hab:a<b):eF (bE l (a,b,s))≤eF l∧(bE l (a,b,s)).length≤l.length+1:=by
 obtain ⟨A,p,B,q,C,rfl,hp,hq,h1,h2,_,_,_⟩:=jd hs ha hb hab;rw [ey h1 h2];have e1:=C2 hp s;have e2:=C2 hq s;constructor
 ·rw [dL,dL,dW,dW,dW,dW,dL,dW]
  have e3:eS (j5 ⟨.mk (if s=2 then 3 else 2) [] [] (settle B),none,0,0⟩)=0:=rfl;omega
 ·simp only [List.length_append,List.length_cons];omega
end Go.Proofs.YtddkjkockbcamaaGreatDoor.Il
namespace Go.Proofs.YtddkjkockbcamaaGreatDoor.Il
open Go.Lib
structure Sc where
  l:List Pt
  runs:List Em.R
def dy (s:List UInt8) (i:Nat):Option (List UInt8×Nat×Nat) :=
  match Lk.close s (i:Int) with
  | none=>none
  | some j=>(match Lk.dest s ((j:Int)+1) with | none=>none | some (d,e)=>some (d,j,e))
def piece (link:Bool) (inner:List UInt8→List In) (s:List UInt8) (i:Nat) (st:Sc):Nat×Sc :=
  if s.getD i 0=96 then
    (match Cd.span s (i:Int) with
     | some (t,e)=>(e,⟨st.l++[⟨.mk 1 t [] [],none,0,0⟩],st.runs⟩)
     | none=>(i+Fn.run 96 (s.drop i),⟨eW st.l (mid s i (i+Fn.run 96 (s.drop i))),st.runs⟩))
  else match (if link=true then none else Lk.auto s (i:Int)) with
  | some (t,e)=>(e,⟨st.l++[⟨.mk 4 [] t [word (Ru.enc (Ru.aP t))],none,0,0⟩],st.runs⟩)
  | none=>match (if link=true then none else dy s i) with
    | some (d,j,e)=>(e,⟨st.l++[⟨.mk 4 [] d (inner (mid s (i+1) j)),none,0,0⟩],st.runs⟩)
    | none=>match Em.kind s (i:Int) with
      | some (r,e)=>(e,⟨st.l++[⟨none_,some st.runs.length,r.n.toNat,r.ch⟩],st.runs++[r]⟩)
      | none=>if s.getD i 0=10 then (i+1,⟨st.l++[⟨.mk 5 [] [] [],none,0,0⟩],st.runs⟩)
                else ((Es.next s i).2.1,⟨eW st.l (encodeRune ((Es.next s i).1:Int)),st.runs⟩)
def gC (link:Bool) (inner:List UInt8→List In):Nat→List UInt8→Nat→Sc→Sc
  | 0,_,_,st=>st
  | f+1,s,i,st=>if i<s.length then gC link inner f s (piece link inner s i st).1 (piece link inner s i st).2 else st
def scan (link:Bool) (inner:List UInt8→List In) (s:List UInt8) (i:Nat) (st:Sc):Sc:=gC link inner (s.length+1-i) s i st
def within (link:Bool) (inner:List UInt8→List In) (s:List UInt8):List In :=
  dY (scan link inner s 0 ⟨[],[]⟩).l (scan link inner s 0 ⟨[],[]⟩).runs
def inLink (s:List UInt8):List In:=within true (fun _=>[]) s
def parse (s:List UInt8):List In:=within false inLink s
theorem yh {s:List UInt8}{i:Nat}{r:Em.R}{e:Nat}(h:Em.kind s (i:Int)=some (r,e)):i<e∧e≤s.length:=by
  unfold Em.kind at h
  split at h
  · rename_i hs
    have hi:i<s.length:=by unfold Em.starts at hs;have:=(of_decide_eq_true hs).2.1;simpa using this
    rw [show ((i:Int)).toNat=i from by omega,Em.getD_at hi] at h;simp only [Option.some.injEq,Prod.mk.injEq] at h;have h1:=Em.SJ hi;have h2:=Em.aab hi s[i];omega
  · cases h
theorem yd {s:List UInt8}{k:Nat}{d:List UInt8}{e:Nat}(h:Lk.dest s (k:Int)=some (d,e)):k<e∧e≤s.length:=by
  unfold Lk.dest at h
  split at h
  · rename_i hc
    obtain ⟨j,hj,he⟩:=Option.map_eq_some_iff.1 h;injection he with _ he;have:=Lk.oP _ _ _ hj;simp only [Int.toNat_natCast] at this;omega
  · cases h
theorem dK {s:List UInt8}:∀ (f i d k:Nat),Lk.gu f s i d=some k→i≤k∧k<s.length
  | 0,_,_,_,h=>by simp [Lk.gu] at h
  | f+1,i,d,k,h=>by
    unfold Lk.gu at h
    split at h
    · rename_i hi
      have hm:=Lk.jk hi
      split at h
      · split at h
        · injection h with h;omega
        · have:=dK f _ _ k h;omega
      · have:=dK f _ _ k h;omega
    · cases h
theorem kz {s:List UInt8}{i:Nat}{d:List UInt8}{j e:Nat}(h:dy s i=some (d,j,e)):i<j∧j<e∧e≤s.length:=by
  unfold dy at h
  split at h
  · cases h
  · rename_i j' hj
    split at h
    · cases h
    · rename_i d' e' he
      simp only [Option.some.injEq,Prod.mk.injEq] at h;have h1:=yd (k:=j'+1) (by rw [Int.natCast_add];exact he);unfold Lk.close at hj
      split at hj
      · have:=dK _ _ _ _ hj
        simp only [Int.toNat_natCast] at this;omega
      · cases hj
theorem piece_more (link:Bool) (inner:List UInt8→List In) {s:List UInt8}{i:Nat}(h:i<s.length) (st:Sc):i<(piece link inner s i st).1∧(piece link inner s i st).1≤s.length:=by
  unfold piece
  by_cases jW:s.getD i 0=96
  · rw [if_pos jW]
    cases hs:Cd.span s (i:Int) with
    | some x =>
      obtain ⟨t,e⟩:=x;have:=Cd.rP hs;simp only [Int.toNat_natCast] at this ⊢;omega
    | none =>
      have hr:1≤Fn.run 96 (s.drop i):=by rw [Fn.jm h (by simpa [List.getD,List.getElem?_eq_getElem h] using jW)];omega
      have:=Fn.gq 96 (s.drop i);rw [List.length_drop] at this;simp only;omega
  · rw [if_neg jW]
    cases ha:(if link=true then none else Lk.auto s (i:Int)) with
    | some x =>
      obtain ⟨t,e⟩:=x
      split at ha
      · cases ha
      · have:=Lk.nQ ha
        simp only;omega
    | none =>
      simp only;cases hl:(if link=true then none else dy s i) with
      | some x =>
        obtain ⟨d,j,e⟩:=x
        split at hl
        · cases hl
        · have:=kz hl
          simp only;omega
      | none =>
        simp only;cases hk:Em.kind s (i:Int) with
        | some x =>
          obtain ⟨r,e⟩:=x;have:=yh hk;simp only;omega
        | none =>
          simp only;have:=Es.eP h
          split<;>simp only<;>omega
theorem wA (link:Bool) (inner:List UInt8→List In):∀ (f g:Nat) (s:List UInt8) (i:Nat) (st:Sc),s.length<f+i→s.length<g+i→gC link inner f s i st=gC link inner g s i st
  | 0,0,_,_,_,_,_=>rfl
  | 0,g+1,s,i,st,h,_=>by unfold gC;rw [if_neg (by omega)]
  | f+1,0,s,i,st,_,h=>by unfold gC;rw [if_neg (by omega)]
  | f+1,g+1,s,i,st,hf,hg=>by
    unfold gC
    by_cases hi:i<s.length
    · have hm:=piece_more link inner hi st
      rw [if_pos hi,if_pos hi,wA link inner f g s _ _ (by omega) (by omega)]
    · rw [if_neg hi,if_neg hi]
theorem Mn (link:Bool) (inner:List UInt8→List In) {s:List UInt8}{i:Nat}(h:s.length≤i) (st:Sc):scan link inner s i st=st:=by
  unfold scan;cases s.length+1-i with
  | zero=>rfl
  | succ f=>unfold gC;rw [if_neg (by omega)]
theorem Ju (link:Bool) (inner:List UInt8→List In) {s:List UInt8}{i:Nat}(h:i<s.length) (st:Sc) :
    scan link inner s i st=scan link inner s (piece link inner s i st).1 (piece link inner s i st).2:=by
  have hm:=piece_more link inner h st;unfold scan;obtain ⟨f,hf⟩:∃ f,s.length+1-i=f+1:=⟨s.length-i,by omega⟩
  rw [hf]
  conv=>lhs;unfold gC
  rw [if_pos h,wA link inner f (s.length+1-(piece link inner s i st).1) s _ _ (by omega) (by omega)]
end Go.Proofs.YtddkjkockbcamaaGreatDoor.Il
namespace Go.Proofs.YtddkjkockbcamaaGreatDoor.Hm
open Go.Lib
inductive Hi where
 | mk (kind:Int) (text dest:List UInt8) (kids:List Hi)
inductive Hb where
 | mk (kind level:Int) (text info:List UInt8) (line:Int) (kids:List Hb)
mutual
def AZ:Il.In→Hi
 | .mk k t d ks=>.mk k t d (fN ks)
def fN:List Il.In→List Hi
 | []=>[]
 | x::r=>AZ x::fN r
end
mutual
def lR:Bk.Tree→Hb
 | .mk k lv t i ln ks=>.mk k lv t i ln (wW ks)
def wW:List Bk.Tree→List Hb
 | []=>[]
 | x::r=>lR x::wW r
end
theorem ja:∀ l,(fN l).length=l.length
 | []=>rfl
 | x::r=>by simp only [fN,List.length_cons];rw [ja r]
theorem yF:∀ l,(wW l).length=l.length
 | []=>rfl
 | x::r=>by simp only [wW,List.length_cons];rw [yF r]
def tag (n:List UInt8):List UInt8:=60::(n++[62])
def shut (n:List UInt8):List UInt8:=60::47::(n++[62])
def cB:List UInt8:=[99,111,100,101]
def BP:List UInt8:=[101,109]
def cM:List UInt8:=[115,116,114,111,110,103]
def ga:List UInt8:=[98,108,111,99,107,113,117,111,116,101]
def H6:List UInt8:=[117,108]
def IS:List UInt8:=[108,105]
def nP:List UInt8:=[112]
def Fw:List UInt8:=[112,114,101]
def goes (d:List UInt8):List UInt8:=if Lk.safe d=true then d else [35]
def anchor (d:List UInt8):List UInt8:=[60,97,32,104,114,101,102,61,34]++Es.page (goes d)++[34,62]
mutual
def inl:Hi→List UInt8
 | .mk k t d ks =>
  if k=0 then Es.page t
  else if k=1 then tag cB++Es.page t++shut cB
  else if k=2 then tag BP++bz ks++shut BP
  else if k=3 then tag cM++bz ks++shut cM
  else if k=4 then anchor d++bz ks++shut [97]
  else if k=5 then [10]
  else []
def bz:List Hi→List UInt8
 | []=>[]
 | x::r=>inl x++bz r
end
def level (n:Int):Nat:=(max (min n 6) 1).toNat
def nH (n:Int):List UInt8:=[104,UInt8.ofNat (48+level n)]
def para (t:List UInt8):List UInt8:=bz (fN (Il.parse t))
mutual
def blk:Hb→List UInt8
 | .mk k lv t _ _ ks =>
  if k=0 then bS ks
  else if k=1 then tag ga++[10]++bS ks++shut ga++[10]
  else if k=2 then tag H6++[10]++bS ks++shut H6++[10]
  else if k=3 then tag IS++[10]++bS ks++shut IS++[10]
  else if k=4 then tag nP++para t++shut nP++[10]
  else if k=5 then tag (nH lv)++para t++shut (nH lv)++[10]
  else if k=6 then [60,104,114,32,47,62,10]
  else if k=7 then tag Fw++tag cB++Es.page t++shut cB++shut Fw++[10]
  else []
def bS:List Hb→List UInt8
 | []=>[]
 | x::r=>blk x++bS r
end
def upTo:List UInt8→Option (List UInt8×List UInt8)
 | []=>none
 | b::r=>if b=62 then some ([],r) else (upTo r).map fun x=>(b::x.1,x.2)
theorem vm:∀ {l a r:List UInt8},upTo l=some (a,r)→l.length=a.length+1+r.length
 | [],_,_,h=>by simp [upTo] at h
 | b::l,a,r,h=>by
  unfold upTo at h
  split at h
  ·injection h with h;injection h with h1 h2;subst h1 h2;simp;omega
  ·obtain ⟨x,hx,he⟩:=Option.map_eq_some_iff.1 h
   injection he with h1 h2;subst h1 h2;have:=vm (l:=l) (a:=x.1) (r:=x.2) (by rw [hx]);simp only [List.length_cons];omega
def name (t:List UInt8):List UInt8:=t.takeWhile (· != 32)
def turn (t:List UInt8) (st:List (List UInt8)):Option (List (List UInt8)) :=
 if t≠[]∧t.getLastD 0=47 then some st
 else if t.getD 0 0=47∧t≠[] then (match st with
  | []=>none
  | n::s=>if n=(name t).drop 1 then some s else none)
 else some (name t::st)
def A9:Nat→List UInt8→List (List UInt8)→Bool
 | 0,_,_=>false
 | _+1,[],st=>st.isEmpty
 | f+1,b::r,st =>
  if b=60 then (match upTo r with
   | none=>false
   | some (t,r')=>(match turn t st with
    | none=>false
    | some st'=>A9 f r' st'))
  else A9 f r st
def iH (l:List UInt8) (st:List (List UInt8)):Bool:=A9 (l.length+1) l st
theorem rF:∀ (f g:Nat) (l:List UInt8) (st:List (List UInt8)),l.length<f→l.length<g→A9 f l st=A9 g l st
 | 0,_,_,_,h,_=>by omega
 | _,0,_,_,_,h=>by omega
 | f+1,g+1,[],st,_,_=>rfl
 | f+1,g+1,b::r,st,hf,hg=>by
  rw [List.length_cons] at hf hg;unfold A9
  split
  ·cases hu:upTo r with
   | none=>rfl
   | some x =>
    obtain ⟨t,r'⟩:=x;have:=vm hu;simp only;cases turn t st with
    | none=>rfl
    | some st'=>exact rF f g r' st' (by omega) (by omega)
  ·exact rF f g r st (by omega) (by omega)
theorem zh {b:UInt8}(h:b≠60) (r:List UInt8) (st:List (List UInt8)):iH (b::r) st=iH r st:=by
 unfold iH;rw [List.length_cons]
 conv=>lhs;unfold A9
 rw [if_neg h]
theorem qO {t r r':List UInt8}(h:upTo r=some (t,r')) (st:List (List UInt8)):iH (60::r) st=(match turn t st with | none=>false | some st'=>iH r' st'):=by
 have hl:=vm h;unfold iH;rw [List.length_cons]
 conv=>lhs;unfold A9
 rw [if_pos rfl,h];simp only;cases turn t st with
 | none=>rfl
 | some st'=>exact rF _ _ _ _ (by omega) (by omega)
theorem QL {r:List UInt8}(h:upTo r=none) (st:List (List UInt8)):iH (60::r) st=false:=by
 unfold iH
 conv=>lhs;unfold A9
 rw [if_pos rfl,h]
theorem kI:∀ (t r:List UInt8),(∀ b∈t,b≠62)→upTo (t++62::r)=some (t,r)
 | [],r,_=>by simp [upTo]
 | b::t,r,h=>by
  rw [List.cons_append];unfold upTo;rw [if_neg (h b (by simp)),kI t r (fun c hc=>h c (by simp [hc]))];rfl
theorem bM:∀ (t r:List UInt8) (st:List (List UInt8)),(∀ b∈t,b≠60)→iH (t++r) st=iH r st
 | [],_,_,_=>rfl
 | b::t,r,st,h=>by rw [List.cons_append,zh (h b (by simp)),bM t r st (fun c hc=>h c (by simp [hc]))]
structure Nm (n:List UInt8):Prop where
 some_:n≠[]
 not_:∀ b∈n,b≠62∧b≠32∧b≠47
theorem EH {n:List UInt8}(h:∀ b∈n,b≠32):name n=n:=by
 unfold name;have:=List.takeWhile_append_of_pos (p:=(· != 32)) (l₁:=n) (l₂:=[]) (fun b hb=>by simpa using h b hb);simpa using this
theorem OV {n:List UInt8}(h:∀ b∈n,b≠47):n.getLastD 0≠47:=by
 rcases List.eq_nil_or_concat n with rfl | ⟨m,x,rfl⟩
 ·decide
 ·rw [List.concat_eq_append,List.getLastD_concat];exact h x (by simp)
theorem J2 {n:List UInt8}(h:∀ b∈n,b≠47):n.getD 0 0≠47:=by
 cases n with
 | nil=>decide
 | cons b r=>exact h b (by simp)
theorem JA {n:List UInt8}(h:Nm n) (st:List (List UInt8)):turn n st=some (n::st):=by
 unfold turn;rw [if_neg (fun hc=>OV (fun b hb=>(h.not_ b hb).2.2) hc.2),if_neg (fun hc=>J2 (fun b hb=>(h.not_ b hb).2.2) hc.1),EH (fun b hb=>(h.not_ b hb).2.1)]
theorem Lz {n:List UInt8}(h:Nm n) (st:List (List UInt8)):turn (47::n) (n::st)=some st:=by
 unfold turn;have hl:(47::n).getLastD 0≠47:=by
  rcases List.eq_nil_or_concat n with e | ⟨m,x,e⟩
  ·exact absurd e h.some_
  ·rw [e,List.concat_eq_append,← List.cons_append,List.getLastD_concat]
   exact (h.not_ x (by rw [e];simp)).2.2
 rw [if_neg (fun hc=>hl hc.2),if_pos ⟨rfl,by simp⟩];rw [EH (n:=47::n) (by
  intro b hb;rcases List.mem_cons.1 hb with rfl | hb
  ·decide
  ·exact (h.not_ b hb).2.1)]
 simp
theorem dH {n:List UInt8}(h:Nm n) (r:List UInt8) (st:List (List UInt8)):iH (tag n++r) st=iH r (n::st):=by
 unfold tag;rw [List.cons_append,List.append_assoc,List.singleton_append,qO (kI n r (fun b hb=>(h.not_ b hb).1)),JA h]
theorem cG {n:List UInt8}(h:Nm n) (r:List UInt8) (st:List (List UInt8)):iH (shut n++r) (n::st)=iH r st:=by
 unfold shut;rw [List.cons_append,List.cons_append,List.append_assoc,List.singleton_append,qO (t:=47::n) (r':=r) (by
  rw [← List.cons_append];exact kI (47::n) r (by
   intro b hb;rcases List.mem_cons.1 hb with rfl | hb
   ·decide
   ·exact (h.not_ b hb).1)),Lz h]
theorem xy (d r:List UInt8) (st:List (List UInt8)):iH (anchor d++r) st=iH r ([97]::st):=by
 have hp:=Es.nh (goes d);obtain ⟨P,hP⟩:∃ P,P=Es.page (goes d):=⟨_,rfl⟩
 unfold anchor;rw [← hP] at hp ⊢;have e:[60,97,32,104,114,101,102,61,34]++P++[34,62]++r=60::(([97,32,104,114,101,102,61,34]++(P++[34]))++62::r):=by simp
 rw [e,qO (kI _ r (by
  intro b hb;simp only [List.mem_append,List.mem_cons,List.not_mem_nil,or_false] at hb;rcases hb with hb | hb | rfl
  ·rcases hb with rfl | rfl | rfl | rfl | rfl | rfl | rfl | rfl<;>decide
  ·exact (hp b hb).2.1
  ·decide))]
 have ht:turn ([97,32,104,114,101,102,61,34]++(P++[34])) st=some ([97]::st):=by
  unfold turn;rw [if_neg (by
   rintro ⟨_,hc⟩;rw [← List.append_assoc,List.getLastD_concat] at hc;exact absurd hc (by decide)),if_neg (by
   rintro ⟨hc,_⟩;exact absurd hc (by simp))]
  rfl
 rw [ht]
theorem sw:Nm cB:=⟨by decide,by decide⟩
theorem SF:Nm BP:=⟨by decide,by decide⟩
theorem pZ:Nm cM:=⟨by decide,by decide⟩
theorem H7:Nm ga:=⟨by decide,by decide⟩
theorem Xb:Nm H6:=⟨by decide,by decide⟩
theorem Yt:Nm IS:=⟨by decide,by decide⟩
theorem nmP:Nm nP:=⟨by decide,by decide⟩
theorem Tn:Nm Fw:=⟨by decide,by decide⟩
theorem nmA:Nm [97]:=⟨by decide,by decide⟩
theorem B4 (n:Int):1≤level n∧level n≤6:=by unfold level;omega
theorem nmH (n:Int):Nm (nH n):=by
 have h:=B4 n;unfold nH;rcases (show level n=1∨level n=2∨level n=3∨level n=4∨level n=5∨level n=6 by omega) with e | e | e | e | e | e<;>rw [e]<;>exact ⟨by decide,by decide⟩
mutual
theorem Rn:∀ (x:Hi) (r:List UInt8) (st:List (List UInt8)),iH (inl x++r) st=iH r st
 | .mk k t d ks,r,st=>by
  have hp:∀ b∈Es.page t,b≠60:=fun b hb=>(Es.nh t b hb).1;unfold inl
  by_cases h0:k=0
  ·rw [if_pos h0,bM _ _ _ hp]
  rw [if_neg h0]
  by_cases h1:k=1
  ·rw [if_pos h1,List.append_assoc,List.append_assoc,dH sw,bM _ _ _ hp,cG sw]
  rw [if_neg h1]
  by_cases h2:k=2
  ·rw [if_pos h2,List.append_assoc,List.append_assoc,dH SF,mL ks,cG SF]
  rw [if_neg h2]
  by_cases h3:k=3
  ·rw [if_pos h3,List.append_assoc,List.append_assoc,dH pZ,mL ks,cG pZ]
  rw [if_neg h3]
  by_cases h4:k=4
  ·rw [if_pos h4,List.append_assoc,List.append_assoc,xy,mL ks,cG nmA]
  rw [if_neg h4]
  by_cases h5:k=5
  ·rw [if_pos h5,bM _ _ _ (by decide)]
  rw [if_neg h5];rfl
theorem mL:∀ (l:List Hi) (r:List UInt8) (st:List (List UInt8)),iH (bz l++r) st=iH r st
 | [],_,_=>by simp [bz]
 | x::l,r,st=>by
  simp only [bz];rw [List.append_assoc,Rn x,mL l]
end
theorem Q3 (l:List Hi):iH (bz l) []=true:=by
 have:=mL l [] [];rw [List.append_nil] at this;rw [this];rfl
end Go.Proofs.YtddkjkockbcamaaGreatDoor.Hm
namespace Go.Proofs.YtddkjkockbcamaaGreatDoor
open Go.RowKit
mutual
def HC (w:World) (Q:Nat→Prop):Hm.Hi→List Value→Prop
 | .mk kd tx de ks,cs=>∃ A c css,cs=[.int .i64 kd,.string (bs tx),.string (bs de),.slice A ks.length c]∧ks.length≤c∧eu w Q 4 A ks.length css.flatten∧zV w Q ks css
def zV (w:World) (Q:Nat→Prop):List Hm.Hi→List (List Value)→Prop
 | [],css=>css=[]
 | t::ts,css=>∃ c0 cr,css=c0::cr∧HC w Q t c0∧zV w Q ts cr
end
mutual
theorem B5 {w w':World}{Q Q':Nat→Prop}(hf:∀ b,Q b→w'.heap[b]? = w.heap[b]?) (hq:∀ b,Q b→Q' b):∀ {t:Hm.Hi}{cs:List Value},HC w Q t cs→HC w' Q' t cs
 | .mk ..,_,h=>by
  unfold HC at h ⊢;obtain ⟨A,c,css,h1,h2,h3,h4⟩:=h;exact ⟨A,c,css,h1,h2,h3.frame hf hq,nX hf hq h4⟩
theorem nX {w w':World}{Q Q':Nat→Prop}(hf:∀ b,Q b→w'.heap[b]? = w.heap[b]?) (hq:∀ b,Q b→Q' b):∀ {ts:List Hm.Hi}{css:List (List Value)},zV w Q ts css→zV w' Q' ts css
 | [],_,h=>by unfold zV at h ⊢;exact h
 | _::_,_,h=>by
  unfold zV at h ⊢;obtain ⟨c0,cr,h1,h2,h3⟩:=h;exact ⟨c0,cr,h1,B5 hf hq h2,nX hf hq h3⟩
end
theorem HK {w:World}{Q:Nat→Prop}:zV w Q [] []:=by unfold zV;rfl
theorem C6 {w:World}{Q:Nat→Prop}{t:Hm.Hi}{c:List Value}{ts:List Hm.Hi}{cr:List (List Value)}(h:HC w Q t c) (hr:zV w Q ts cr):zV w Q (t::ts) (c::cr):=by
 unfold zV;exact ⟨c,cr,rfl,h,hr⟩
theorem Af {w:World}{Q:Nat→Prop}{kd:Int}{tx de:List UInt8}{ks:List Hm.Hi}{cs:List Value}(h:HC w Q (.mk kd tx de ks) cs):∃ (A:Option Addr) (c:Nat) (css:List (List Value)),cs=[.int .i64 kd,.string (bs tx),.string (bs de),.slice A ks.length c]∧ks.length≤c∧eu w Q 4 A ks.length css.flatten∧zV w Q ks css:=by
 unfold HC at h;exact h
theorem Kk {w:World}{Q:Nat→Prop}{t:Hm.Hi}{cs:List Value}(h:HC w Q t cs):cs.length=4:=by
 cases t with
 | mk kd tx de ks=>obtain ⟨_,_,_,rfl,_⟩:=Af h;rfl
theorem Oo {w:World}{Q:Nat→Prop}:∀ {ts:List Hm.Hi}{css:List (List Value)},zV w Q ts css→∀ {k:Nat}(hk:k<ts.length),∃ cs,HC w Q ts[k] cs∧∀ j,j<4→css.flatten[k*4+j]? = cs[j]?
 | [],_,_,_,hk=>by simp at hk
 | t::ts,css,h,k,hk=>by
  unfold zV at h;obtain ⟨c0,cr,rfl,h1,h2⟩:=h;have hl:=Kk h1;rcases k with _ | k
  ·exact ⟨c0,h1,fun j hj=>by rw [List.flatten_cons,List.getElem?_append_left (by omega)];congr 1;omega⟩
  ·obtain ⟨cs,h3,h4⟩:=Oo h2 (k:=k) (by simpa using hk)
   refine ⟨cs,h3,fun j hj=>?_⟩;rw [List.flatten_cons,List.getElem?_append_right (by omega),hl,show (k+1)*4+j-4=k*4+j from by omega];exact h4 j hj
mutual
theorem WS {w:World}{Q:Nat→Prop}:∀ {t:Il.In}{cs:List Value},IC w Q t cs→HC w Q (Hm.AZ t) cs
 | .mk kd tx de ks,cs,h=>by
  unfold IC at h;obtain ⟨A,c,css,h1,h2,h3,h4⟩:=h;unfold Hm.AZ HC;rw [Hm.ja];exact ⟨A,c,css,h1,h2,h3,Fx h4⟩
theorem Fx {w:World}{Q:Nat→Prop}:∀ {ts:List Il.In}{css:List (List Value)},gB w Q ts css→zV w Q (Hm.fN ts) css
 | [],css,h=>by unfold gB at h;unfold Hm.fN zV;exact h
 | t::ts,css,h=>by
  unfold gB at h;obtain ⟨c0,cr,h1,h2,h3⟩:=h;unfold Hm.fN zV;exact ⟨c0,cr,h1,WS h2,Fx h3⟩
end
mutual
def HT (w:World) (Q:Nat→Prop):Hm.Hb→List Value→Prop
 | .mk kd lv tx inf ln ks,cs=>∃ A c css,cs=[.int .i64 kd,.int .i64 lv,.string (bs tx),.string (bs inf),.int .i64 ln,.slice A ks.length c]∧ks.length≤c∧eu w Q 6 A ks.length css.flatten∧BU w Q ks css
def BU (w:World) (Q:Nat→Prop):List Hm.Hb→List (List Value)→Prop
 | [],css=>css=[]
 | t::ts,css=>∃ c0 cr,css=c0::cr∧HT w Q t c0∧BU w Q ts cr
end
mutual
theorem vK {w w':World}{Q Q':Nat→Prop}(hf:∀ b,Q b→w'.heap[b]? = w.heap[b]?) (hq:∀ b,Q b→Q' b):∀ {t:Hm.Hb}{cs:List Value},HT w Q t cs→HT w' Q' t cs
 | .mk ..,_,h=>by
  unfold HT at h ⊢;obtain ⟨A,c,css,h1,h2,h3,h4⟩:=h;exact ⟨A,c,css,h1,h2,h3.frame hf hq,sE hf hq h4⟩
theorem sE {w w':World}{Q Q':Nat→Prop}(hf:∀ b,Q b→w'.heap[b]? = w.heap[b]?) (hq:∀ b,Q b→Q' b):∀ {ts:List Hm.Hb}{css:List (List Value)},BU w Q ts css→BU w' Q' ts css
 | [],_,h=>by unfold BU at h ⊢;exact h
 | _::_,_,h=>by
  unfold BU at h ⊢;obtain ⟨c0,cr,h1,h2,h3⟩:=h;exact ⟨c0,cr,h1,vK hf hq h2,sE hf hq h3⟩
end
theorem HF {w:World}{Q:Nat→Prop}:BU w Q [] []:=by unfold BU;rfl
theorem Ol {w:World}{Q:Nat→Prop}{t:Hm.Hb}{c:List Value}{ts:List Hm.Hb}{cr:List (List Value)}(h:HT w Q t c) (hr:BU w Q ts cr):BU w Q (t::ts) (c::cr):=by
 unfold BU;exact ⟨c,cr,rfl,h,hr⟩
theorem qw {w:World}{Q:Nat→Prop}{kd lv:Int}{tx inf:List UInt8}{ln:Int}{ks:List Hm.Hb}{cs:List Value}(h:HT w Q (.mk kd lv tx inf ln ks) cs):∃ (A:Option Addr) (c:Nat) (css:List (List Value)),cs=[.int .i64 kd,.int .i64 lv,.string (bs tx),.string (bs inf),.int .i64 ln,.slice A ks.length c]∧ks.length≤c∧eu w Q 6 A ks.length css.flatten∧BU w Q ks css:=by
 unfold HT at h;exact h
theorem Kb {w:World}{Q:Nat→Prop}{t:Hm.Hb}{cs:List Value}(h:HT w Q t cs):cs.length=6:=by
 cases t with
 | mk kd lv tx inf ln ks=>obtain ⟨_,_,_,rfl,_⟩:=qw h;rfl
theorem Mx {w:World}{Q:Nat→Prop}:∀ {ts:List Hm.Hb}{css:List (List Value)},BU w Q ts css→∀ {k:Nat}(hk:k<ts.length),∃ cs,HT w Q ts[k] cs∧∀ j,j<6→css.flatten[k*6+j]? = cs[j]?
 | [],_,_,_,hk=>by simp at hk
 | t::ts,css,h,k,hk=>by
  unfold BU at h;obtain ⟨c0,cr,rfl,h1,h2⟩:=h;have hl:=Kb h1;rcases k with _ | k
  ·exact ⟨c0,h1,fun j hj=>by rw [List.flatten_cons,List.getElem?_append_left (by omega)];congr 1;omega⟩
  ·obtain ⟨cs,h3,h4⟩:=Mx h2 (k:=k) (by simpa using hk)
   refine ⟨cs,h3,fun j hj=>?_⟩;rw [List.flatten_cons,List.getElem?_append_right (by omega),hl,show (k+1)*6+j-6=k*6+j from by omega];exact h4 j hj
mutual
theorem TH {w:World}{Q:Nat→Prop}:∀ {t:Bk.Tree}{cs:List Value},TC w Q t cs→HT w Q (Hm.lR t) cs
 | .mk kd lv tx inf ln ks,cs,h=>by
  unfold TC at h;obtain ⟨A,c,css,h1,h2,h3,h4⟩:=h;unfold Hm.lR HT;rw [Hm.yF];exact ⟨A,c,css,h1,h2,h3,Me h4⟩
theorem Me {w:World}{Q:Nat→Prop}:∀ {ts:List Bk.Tree}{css:List (List Value)},LN w Q ts css→BU w Q (Hm.wW ts) css
 | [],css,h=>by unfold LN at h;unfold Hm.wW BU;exact h
 | t::ts,css,h=>by
  unfold LN at h;obtain ⟨c0,cr,h1,h2,h3⟩:=h;unfold Hm.wW BU;exact ⟨c0,cr,h1,TH h2,Me h3⟩
end
inductive Hm.CA:Hm.Hi→Prop where
 | mk {k:Int}{t d:List UInt8}{ks:List Hm.Hi}:t.length≤1000000000→d.length≤1000000000→ks.length≤1000000000→(∀ x∈ks,Hm.CA x)→Hm.CA (.mk k t d ks)
end Go.Proofs.YtddkjkockbcamaaGreatDoor
namespace Go.Proofs.YtddkjkockbcamaaGreatDoor
open Go.RowKit
namespace Il
theorem N5 (s:List UInt8):eW [] s=[⟨word s,none,0,0⟩]:=rfl
theorem Jc (l:List Pt) (t d s:List UInt8) (ks:List In) (n:Nat) (c:UInt8):eW (l++[⟨.mk 0 t d ks,none,n,c⟩]) s=l++[⟨.mk 0 (t++s) d ks,none,n,c⟩]:=by simp [eW]
theorem NU (l:List Pt) (x:In) (r n:Nat) (c:UInt8) (s:List UInt8):eW (l++[⟨x,some r,n,c⟩]) s=l++[⟨x,some r,n,c⟩]++[⟨word s,none,0,0⟩]:=by simp [eW]
theorem Js (l:List Pt) {kd:Nat}(h:kd≠0) (t d:List UInt8) (ks:List In) (r:Option Nat) (n:Nat) (c:UInt8) (s:List UInt8):eW (l++[⟨.mk kd t d ks,r,n,c⟩]) s=l++[⟨.mk kd t d ks,r,n,c⟩]++[⟨word s,none,0,0⟩]:=by
 cases kd with
 | zero=>exact absurd rfl h
 | succ k=>simp [eW]
end Il
end Go.Proofs.YtddkjkockbcamaaGreatDoor
namespace Go.Proofs.YtddkjkockbcamaaGreatDoor
open Go.RowKit
attribute [local go_sem] aD av aq
end Go.Proofs.YtddkjkockbcamaaGreatDoor
namespace Go.Proofs.YtddkjkockbcamaaGreatDoor.Il
def Fh (N:Nat→Nat) (Y:List (Nat×Nat×Nat)) (l:List Pt):Prop:=∀ p∈l,∀ r,p.run=some r→p.left+Em.used Y r=N r
theorem Ji {N:Nat→Nat}{Y:List (Nat×Nat×Nat)}{l:List Pt}{a b s:Nat}(hL:Fh N Y l) (hN:∀ r,Em.used (Y++[(a,b,s)]) r≤N r) (hs:(cQ l).Pairwise (· < ·)) (ha:a∈cQ l) (hb:b∈cQ l) (hab:a<b) :
  Fh N (Y++[(a,b,s)]) (bE l (a,b,s)):=by
 obtain ⟨A,p,B,q,C,rfl,hp,hq,h1,h2,h3,h4,h5⟩:=jd hs ha hb hab;rw [ey h1 h2];have n1:=hN a;have n2:=hN b;rw [Em.iZ] at n1 n2;simp only at n1 n2;rw [if_pos trivial,if_neg (show ¬ b=a by omega)] at n1;rw [if_neg (show ¬ a=b by omega),if_pos trivial] at n2;intro x hx r hr;rw [Em.iZ];simp only;have other:∀ y∈A++p::(B++q::C),∀ r,y.run=some r→r≠a→r≠b→y.left+(Em.used Y r+((if a=r then s else 0)+if b=r then s else 0))=N r:=by
  intro y hy r hr n1 n2;have:=hL y hy r hr;rw [if_neg (Ne.symm n1),if_neg (Ne.symm n2)];omega
 rcases List.mem_append.1 hx with h | h
 ·have hm:r∈cQ A:=gy.2 ⟨x,h,hr⟩
  have:=h3 r hm;exact other x (by simp [h]) r hr (by omega) (by omega)
 ·rcases List.mem_cons.1 h with rfl | h
  ·have e:r=a:=by simp only at hr;rw [hp] at hr;exact (Option.some.inj hr).symm
   subst e;have:=hL p (by simp) r hp;rw [if_pos rfl,if_neg (by omega)];simp only;omega
  ·rcases List.mem_cons.1 h with rfl | h
   ·simp at hr
   ·rcases List.mem_cons.1 h with rfl | h
    ·have e:r=b:=by simp only at hr;rw [hq] at hr;exact (Option.some.inj hr).symm
     subst e;have:=hL q (by simp) r hq;rw [if_neg (by omega),if_pos rfl];simp only;omega
    ·have hm:r∈cQ C:=gy.2 ⟨x,h,hr⟩
     have:=h5 r hm;exact other x (by simp [h]) r hr (by omega) (by omega)
theorem og (X:List (Nat×Nat×Nat)) (k r:Nat):Em.used (X.take k) r≤Em.used X r:=by
 conv=>rhs;rw [← List.take_append_drop k X]
 unfold Em.used;rw [List.map_append,List.sum_append];omega
end Go.Proofs.YtddkjkockbcamaaGreatDoor.Il
namespace Go.Proofs.YtddkjkockbcamaaGreatDoor
open Go.RowKit
theorem vj {P:Program}{T:TypeId}(hT:P.underlying T=some (.slice (P.elem T))) (size:Nat) (hsz:∀ w,(sizeOf (P.elem T)).run P w=.ok size w) (g n c hi:Nat) {v:Int}(hv:v=(hi:Int)) (h2:hi≤c) (w:World) :
  (Instr.slice T (.slice (some ⟨g,0,none⟩) n c) none (some (.int .i64 v)) none).run P w=.ok (.slice (some ⟨g,0,none⟩) hi c) w:=by
 subst hv;rw [run_slice_h w T (some ⟨g,0,none⟩) n c hT .i64 hi (by omega) (by omega),hsz];simp [sliced,Result.andThen];intro _;unfold Addr.add
 split<;>simp_all
def Il.cnt (runs:List Em.R) (r:Nat):Nat:=(Em.get runs r).n.toNat
structure Il.Ready (l:List Il.Pt) (runs:List Em.R):Prop where
 sorted:(Il.cQ l).Pairwise (· < ·)
 all:∀ i,i<runs.length→i∈Il.cQ l
 left:∀ p∈l,∀ r,p.run=some r→p.left=Il.cnt runs r
 pos:∀ r∈runs,0≤r.n∧r.n≤1000000000
theorem Il.qD {runs:List Em.R}(hp:∀ r∈runs,0≤r.n∧r.n≤1000000000) {r:Nat}(hr:r<runs.length):Em.held (Em.get runs r).n≤Il.cnt runs r∧Il.cnt runs r≤1000000000:=by
 rw [Em.get_at hr];unfold Il.cnt;rw [Em.get_at hr];have:=hp _ (List.getElem_mem hr);unfold Em.held;omega
theorem Il.Uw {runs:List Em.R}(hp:∀ r∈runs,0≤r.n∧r.n≤1000000000) (r:Nat):Il.cnt runs r≤1000000000:=by
 rcases Nat.lt_or_ge r runs.length with h | h
 ·exact (Il.qD hp h).2
 ·unfold Il.cnt Em.get
  simp [List.getD,List.getElem?_eq_none h,Em.none_]
theorem Il.K9 {X:List (Nat×Nat×Nat)}{r:Nat}(h:∀ x∈X,x.1≠r∧x.2.1≠r):Em.used X r=0:=by
 induction X with
 | nil=>rfl
 | cons x X ih =>
  have h1:=h x (by simp);have h2:=ih (fun y hy=>h y (by simp [hy]));unfold Em.used at *;rw [List.map_cons,List.sum_cons,h2,if_neg h1.1,if_neg h1.2]
theorem Il.IU {runs:List Em.R}(hp:∀ r∈runs,0≤r.n∧r.n≤1000000000) (r:Nat):Em.used (Em.pairs runs) r≤Il.cnt runs r:=by
 have hi:=Em.oh runs;rcases Nat.lt_or_ge r runs.length with h | h
 ·have h1:=hi.sum r h
  have h2:=(Il.qD hp h).1;have h3:Em.used (Em.pairs runs) r=Em.used (Em.outer runs runs.length 0 (runs.map (fun r=>Em.held r.n),[])).2 r:=rfl;omega
 ·have h0:Em.used (Em.pairs runs) r=0:=Il.K9 fun x hx=>by
   have hg:=hi.good x hx;omega
  omega
def Il.bD (l:List Il.Pt) (X:List (Nat×Nat×Nat)) (k:Nat):List Il.Pt:=(X.take k).foldl Il.bE l
theorem Il.iy {l:List Il.Pt}{X:List (Nat×Nat×Nat)}{k:Nat}(hk:k<X.length):Il.bD l X (k+1)=Il.bE (Il.bD l X k) X[k]:=by
 unfold Il.bD;rw [List.take_succ_eq_append_getElem hk,List.foldl_append];rfl
structure Il.Holds (l:List Il.Pt) (runs:List Em.R) (X:List (Nat×Nat×Nat)) (k:Nat):Prop where
 sorted:(Il.cQ (Il.bD l X k)).Pairwise (· < ·)
 there:∀ j (hj:j<X.length),k≤j→X[j].1∈Il.cQ (Il.bD l X k)∧X[j].2.1∈Il.cQ (Il.bD l X k)
 left:Il.Fh (Il.cnt runs) (X.take k) (Il.bD l X k)
 len:(Il.bD l X k).length≤l.length+k
 eF:Il.eF (Il.bD l X k)≤Il.eF l
theorem Il.pH (runs:List Em.R):∀ x∈Em.pairs runs,x.1<x.2.1∧x.2.1<runs.length∧1≤x.2.2∧x.2.2≤2:=fun x hx=>by
 have hg:=(Em.oh runs).good x hx;exact ⟨hg.1,hg.2.2.1,hg.2.2.2.1,hg.2.2.2.2.1⟩
theorem Il.rQ {l:List Il.Pt}{runs:List Em.R}(h:Il.Ready l runs):∀ k,k≤(Em.pairs runs).length→Il.Holds l runs (Em.pairs runs) k:=by
 have hg:=Il.pH runs;have hf:=Il.Sy (X:=Em.pairs runs) (l:=l) h.sorted (fun x hx=>⟨h.all _ (by have:=hg x hx;omega),h.all _ (by have:=hg x hx;omega),(hg x hx).1⟩) (Em.oJ runs);intro k
 induction k with
 | zero =>
  intro hk;refine ⟨(hf 0 hk).1,(hf 0 hk).2,?_,by simp [Il.bD],by simp [Il.bD]⟩;intro p hp r hr;simp only [Il.bD,List.take_zero,List.foldl_nil] at hp;have:=h.left p hp r hr;simp [Em.used,this]
 | succ k ih =>
  intro hk;have hk':k<(Em.pairs runs).length:=by omega
  have i:=ih (by omega);have ht:=i.there k hk' (Nat.le_refl _);have hx:=hg _ (List.getElem_mem hk');have hn:∀ r,Em.used ((Em.pairs runs).take k++[((Em.pairs runs)[k].1,(Em.pairs runs)[k].2.1,(Em.pairs runs)[k].2.2)]) r≤Il.cnt runs r:=fun r=>by
   rw [show ((Em.pairs runs)[k].1,(Em.pairs runs)[k].2.1,(Em.pairs runs)[k].2.2)=(Em.pairs runs)[k] from rfl,← List.take_succ_eq_append_getElem hk'];exact Nat.le_trans (Il.og _ _ _) (Il.IU h.pos r)
  have hj:=Il.KO (s:=(Em.pairs runs)[k].2.2) i.sorted ht.1 ht.2 hx.1;have hl:=Il.Ji i.left hn i.sorted ht.1 ht.2 hx.1;refine ⟨(hf (k+1) hk).1,(hf (k+1) hk).2,?_,?_,?_⟩
  ·rw [Il.iy hk',List.take_succ_eq_append_getElem hk'];exact hl
  ·rw [Il.iy hk'];have:=hj.2;have:=i.len;simp only [Prod.eta] at *;omega
  ·rw [Il.iy hk'];have:=hj.1;have:=i.eF;simp only [Prod.eta] at *;omega
end Go.Proofs.YtddkjkockbcamaaGreatDoor
namespace Go.Proofs.YtddkjkockbcamaaGreatDoor.Il
open Go.Lib
theorem cZ (l:List Pt) (s:List UInt8):(∃ l' t d k n c,l=l'++[⟨.mk 0 t d k,none,n,c⟩]∧eW l s=l'++[⟨.mk 0 (t++s) d k,none,n,c⟩])∨eW l s=l++[⟨word s,none,0,0⟩]:=by
 rcases List.eq_nil_or_concat l with rfl | ⟨l',p,rfl⟩
 ·exact .inr (N5 s)
 ·rw [List.concat_eq_append]
  obtain ⟨⟨kd,t,d,ks⟩,r,n,c⟩:=p;cases r with
  | some r=>exact .inr (NU l' _ r n c s)
  | none =>
   by_cases hk:kd=0
   ·subst hk;exact .inl ⟨l',t,d,ks,n,c,rfl,Jc l' t d s ks n c⟩
   ·exact .inr (Js l' hk t d ks none n c s)
theorem Oh (l:List Pt) (s:List UInt8):cQ (eW l s)=cQ l:=by
 rcases cZ l s with ⟨l',t,d,k,n,c,rfl,h⟩ | h
 ·rw [h,dg,dg];rfl
 ·rw [h,dg,fR];simp [cQ]
theorem D2 {l:List Pt}{s:List UInt8}{p:Pt}{r:Nat}(h:p∈eW l s) (hr:p.run=some r):p∈l:=by
 rcases cZ l s with ⟨l',t,d,k,n,c,rfl,e⟩ | e
 ·rw [e] at h
  rcases List.mem_append.1 h with h | h
  ·simp [h]
  ·obtain rfl:=List.mem_singleton.1 h;cases hr
 ·rw [e] at h
  rcases List.mem_append.1 h with h | h
  ·exact h
  ·obtain rfl:=List.mem_singleton.1 h;cases hr
theorem O0 (l:List Pt) (s:List UInt8):(eW l s).length≤l.length+1:=by
 rcases cZ l s with ⟨l',t,d,k,n,c,rfl,h⟩ | h<;>rw [h]<;>simp
theorem Ls (l:List Pt) (s:List UInt8):eF (eW l s)=eF l+s.length:=by
 rcases cZ l s with ⟨l',t,d,k,n,c,rfl,h⟩ | h
 ·rw [h,dL,dL,dW,dW]
  simp only [bp,eS,List.length_append];have:eF ([]:List Pt)=0:=rfl;omega
 ·rw [h,dL,dW]
  have:eF ([]:List Pt)=0:=rfl;simp only [word,bp,eS];omega
structure fh (st:Sc) (i:Nat):Prop where
 cQ:cQ st.l=List.range st.runs.length
 left:∀ p∈st.l,∀ r,p.run=some r→p.left=cnt st.runs r
 pos:∀ r∈st.runs,0≤r.n∧r.n≤1000000000
 len:st.l.length≤i
 eF:eF st.l≤4*i
 rlen:st.runs.length≤i
theorem pI:fh ⟨[],[]⟩ 0:=⟨rfl,by simp,by simp,Nat.le_refl _,Nat.le_refl _,Nat.le_refl _⟩
theorem DZ {st:Sc}{i e:Nat}(h:fh st i) (hi:i<e) {s:List UInt8}(hs:s.length≤4*(e-i)):fh ⟨eW st.l s,st.runs⟩ e:=by
 have h1:=O0 st.l s;have h2:=Ls st.l s;have h3:=h.len;have h4:=h.eF;have h5:=h.rlen;exact ⟨by rw [Oh];exact h.cQ,fun p hp r hr=>h.left p (D2 hp hr) r hr,h.pos,by simp only;omega,by simp only;omega,by simp only;omega⟩
theorem nL {st:Sc}{i e:Nat}(h:fh st i) (hi:i<e) {x:In}(hx:eS x≤4*(e-i)):fh ⟨st.l++[⟨x,none,0,0⟩],st.runs⟩ e:=by
 have h3:=h.len;have h4:=h.eF;have h5:=h.rlen;obtain ⟨kd,t,d,ks⟩:=x;refine ⟨by rw [dg,fR];simpa [Il.cQ] using h.cQ,fun p hp r hr=>?_,h.pos,by simp only [List.length_append,List.length_singleton];omega,?_,by simp only;omega⟩
 ·rcases List.mem_append.1 hp with hp | hp
  ·exact h.left p hp r hr
  ·obtain rfl:=List.mem_singleton.1 hp;cases hr
 ·rw [dL,dW]
  have:Il.eF ([]:List Pt)=0:=rfl;simp only [bp,eS] at hx ⊢;omega
theorem OF (runs:List Em.R) (x:Em.R) {r:Nat}(hr:r<runs.length):cnt (runs++[x]) r=cnt runs r:=by
 unfold cnt;rw [Em.get_at (by simp;omega),Em.get_at hr,List.getElem_append_left hr]
theorem Qg {st:Sc}{i e:Nat}(h:fh st i) (hi:i<e) {x:Em.R}(hx:x.n=((e-i:Nat):Int)) (he:e≤1000000000):fh ⟨st.l++[⟨none_,some st.runs.length,x.n.toNat,x.ch⟩],st.runs++[x]⟩ e:=by
 have h3:=h.len;have h4:=h.eF;have h5:=h.rlen;have hm:∀ p∈st.l,∀ r,p.run=some r→r<st.runs.length:=fun p hp r hr=>by
  have:r∈Il.cQ st.l:=gy.2 ⟨p,hp,hr⟩;rw [h.cQ] at this;exact List.mem_range.1 this
 refine ⟨?_,fun p hp r hr=>?_,fun r hr=>?_,by simp only [List.length_append,List.length_singleton];omega,?_,by simp only [List.length_append,List.length_singleton];omega⟩
 ·simp only
  rw [dg,p6 ⟨none_,some st.runs.length,x.n.toNat,x.ch⟩ [] rfl,h.cQ,List.length_append,List.length_singleton,List.range_succ]
  rfl
 ·rcases List.mem_append.1 hp with hp | hp
  ·simp only
   rw [OF _ _ (hm p hp r hr)];exact h.left p hp r hr
  ·obtain rfl:=List.mem_singleton.1 hp
   obtain rfl:st.runs.length=r:=Option.some.inj hr;simp only;unfold cnt;rw [Em.get_at (by simp)];simp
 ·rcases List.mem_append.1 hr with hr | hr
  ·exact h.pos r hr
  ·obtain rfl:=List.mem_singleton.1 hr;omega
 ·simp only
  rw [dL,dW];have:Il.eF ([]:List Pt)=0:=rfl;have e1:eS (j5 ⟨none_,some st.runs.length,x.n.toNat,x.ch⟩)=x.n.toNat:=by simp [none_,iz,eS]
  omega
theorem o9 {st:Sc}{i:Nat}(h:fh st i):Ready st.l st.runs :=
 ⟨by rw [h.cQ];exact List.pairwise_lt_range,fun i hi=>by rw [h.cQ];exact List.mem_range.2 hi,h.left,h.pos⟩
theorem ng {k:Nat}(hk:k≤1000) (t d:List UInt8):ru (.mk k t d []):=.mk hk (by simp) (by simp)
theorem xu {k:Nat}{t d:List UInt8}{ks:List In}(h:ru (.mk k t d ks)) (t' d':List UInt8):ru (.mk k t' d' ks):=by
 cases h with
 | mk h1 h2 h3=>exact .mk h1 h2 h3
theorem SC {p:Pt}(h:ru p.inn):ru (j5 p):=by
 obtain ⟨⟨k,t,d,ks⟩,r,n,c⟩:=p;cases r with
 | none=>exact h
 | some r=>exact xu h _ _
theorem lI (out:List In) (x:In):dj out x=out∨(∃ o t' d' ks' t d ks,out=o++[.mk 0 t' d' ks']∧x=.mk 0 t d ks∧dj out x=o++[.mk 0 (t'++t) d' ks'])∨dj out x=out++[x]:=by
 obtain ⟨kd,t,d,ks⟩:=x
 by_cases hk:kd=0
 ·subst hk
  by_cases ht:t=[]
  ·subst ht;exact .inl (fq out d ks)
  ·rcases List.eq_nil_or_concat out with rfl | ⟨o,y,rfl⟩
   ·exact .inr (.inr (by rw [jn ht];rfl))
   ·rw [List.concat_eq_append]
    obtain ⟨kd',t',d',ks'⟩:=y
    by_cases hk':kd'=0
    ·subst hk';exact .inr (.inl ⟨o,t',d',ks',t,d,ks,rfl,rfl,fD o ht t' d' d ks' ks⟩)
    ·exact .inr (.inr (jz o ht hk' t' d' d ks' ks))
 ·exact .inr (.inr (sB out hk t d ks))
theorem NB {out:List In}{x:In}(h:∀ y∈out,ru y) (hx:ru x):(∀ y∈dj out x,ru y)∧(dj out x).length≤out.length+1∧(iN (dj out x)).length≤(iN out).length+(txt x).length:=by
 rcases lI out x with e | ⟨o,t',d',ks',t,d,ks,rfl,rfl,e⟩ | e
 ·rw [e];exact ⟨h,by omega,by omega⟩
 ·rw [e]
  refine ⟨fun y hy=>?_,by simp,?_⟩
  ·rcases List.mem_append.1 hy with hy | hy
   ·exact h y (by simp [hy])
   ·obtain rfl:=List.mem_singleton.1 hy
    exact xu (h (.mk 0 t' d' ks') (by simp)) _ _
  ·rw [r6,r6]
   simp only [txt,List.length_append];simp;omega
 ·rw [e]
  refine ⟨fun y hy=>?_,by simp,by rw [r6,List.length_append];omega⟩;rcases List.mem_append.1 hy with hy | hy
  ·exact h y hy
  ·obtain rfl:=List.mem_singleton.1 hy;exact hx
def weight (l:List Pt):Nat:=(l.map fun p=>(txt (j5 p)).length).sum
theorem cY (a b:List Pt):weight (a++b)=weight a+weight b:=by simp [weight]
theorem cz (p:Pt) (b:List Pt):weight (p::b)=(txt (j5 p)).length+weight b:=by simp [weight]
theorem DK:∀ (l:List Pt) (out:List In),(∀ y∈out,ru y)→(∀ p∈l,ru p.inn)→(∀ y∈l.foldl (fun out p=>dj out (j5 p)) out,ru y)∧(l.foldl (fun out p=>dj out (j5 p)) out).length≤out.length+l.length∧(iN (l.foldl (fun out p=>dj out (j5 p)) out)).length≤(iN out).length+weight l
 | [],out,h,_=>⟨h,by simp,by simp [weight]⟩
 | p::l,out,h,hl=>by
  obtain ⟨h1,h2,h3⟩:=NB h (SC (hl p (by simp)));obtain ⟨k1,k2,k3⟩:=DK l _ h1 (fun q hq=>hl q (by simp [hq]));rw [List.foldl_cons,cz];refine ⟨k1,by rw [List.length_cons];omega,by omega⟩
theorem wU {l:List Pt}(h:∀ p∈l,ru p.inn):(∀ y∈settle l,ru y)∧(settle l).length≤l.length∧(iN (settle l)).length≤weight l:=by
 have:=DK l [] (by simp) h;simpa [settle,iN] using this
theorem sV {p:Pt}{r:Nat}(h:p.run=some r) (s:Nat):(txt (j5 { p with left:=p.left-s })).length≤(txt (j5 p)).length:=by
 obtain ⟨⟨kd,t,d,ks⟩,rn,n,c⟩:=p;simp only at h;subst h;simp only [iz,txt,List.length_append,List.length_replicate];omega
theorem Ch {l:List Pt}{a b s:Nat}(hs:(cQ l).Pairwise (· < ·)) (ha:a∈cQ l) (hb:b∈cQ l) (hab:a<b) (hl:l.length≤1000000000) (hf:∀ p∈l,ru p.inn):(∀ p∈bE l (a,b,s),ru p.inn)∧weight (bE l (a,b,s))≤weight l:=by
 obtain ⟨A,p,B,q,C,rfl,hp,hq,h1,h2,_,_,_⟩:=jd hs ha hb hab;rw [ey h1 h2];obtain ⟨k1,k2,k3⟩:=wU (l:=B) (fun x hx=>hf x (by simp [hx]));have hBl:B.length≤1000000000:=by simp only [List.length_append,List.length_cons] at hl;omega
 constructor
 ·intro x hx
  simp only [List.mem_append,List.mem_cons] at hx;rcases hx with hx | rfl | rfl | rfl | hx
  ·exact hf x (by simp [hx])
  ·exact hf p (by simp)
  ·exact .mk (by split<;>omega) (by omega) k1
  ·exact hf q (by simp)
  ·exact hf x (by simp [hx])
 ·have e1:=sV hp s
  have e2:=sV hq s;have e3:(txt (j5 ⟨.mk (if s=2 then 3 else 2) [] [] (settle B),none,0,0⟩)).length=(iN (settle B)).length:=by
   rw [bp];have:(if s=2 then 3 else 2)≠5:=by split<;>omega
   simp [txt,this]
  rw [cY,cY,cz,cz,cz,cz,cY,cz,e3];omega
theorem FL {l:List Pt}{runs:List Em.R}(h:Ready l runs) (hf:∀ p∈l,ru p.inn) (hr:runs.length≤4000000) (hl:l.length≤500000000):(∀ y∈dY l runs,ru y)∧(dY l runs).length≤1000000000∧(iN (dY l runs)).length≤weight l:=by
 have hbd:=Em.Dc runs;have key:∀ k,k≤(Em.pairs runs).length→(∀ p∈bD l (Em.pairs runs) k,ru p.inn)∧weight (bD l (Em.pairs runs) k)≤weight l:=by
  intro k
  induction k with
  | zero=>intro _;exact ⟨by simpa [bD] using hf,by simp [bD]⟩
  | succ k ih =>
   intro hk;have hk':k<(Em.pairs runs).length:=by omega
   have i:=ih (by omega);have hh:=rQ h k (by omega);have ht:=hh.there k hk' (Nat.le_refl _);have hg:=pH runs _ (List.getElem_mem hk');have hlen:=hh.len;have:=Ch (s:=(Em.pairs runs)[k].2.2) hh.sorted ht.1 ht.2 hg.1 (by omega) i.1;rw [iy hk'];exact ⟨this.1,Nat.le_trans this.2 i.2⟩
 have e:dY l runs=settle (bD l (Em.pairs runs) (Em.pairs runs).length):=by unfold dY bD;rw [List.take_of_length_le (Nat.le_refl _)]
 obtain ⟨k1,k2⟩:=key _ (Nat.le_refl _);obtain ⟨s1,s2,s3⟩:=wU k1;have hlen:=(rQ h _ (Nat.le_refl _)).len;rw [e];exact ⟨s1,by omega,by omega⟩
end Go.Proofs.YtddkjkockbcamaaGreatDoor.Il
namespace Go.Proofs.YtddkjkockbcamaaGreatDoor
open Go.RowKit
section
variable {base:Nat}{v u:Value}{st:Il.Sc}{css:List (List Value)}{w w':World}
end
theorem Il.Fu {s:List UInt8}{i:Nat}{r:Em.R}{e:Nat}(h:Em.kind s (i:Int)=some (r,e)):r.n=((e-i:Nat):Int):=by
 unfold Em.kind at h
 split at h
 ·simp only [Int.toNat_natCast,Option.some.injEq,Prod.mk.injEq] at h
  obtain ⟨h1,h2⟩:=h;have:r.n=(Fn.run (s.getD i 0) (s.drop i):Nat):=by rw [← h1];unfold Em.qd;split<;>rfl
  rw [this];omega
 ·cases h
theorem Il.vO {s:List UInt8}{i:Nat}{t:List UInt8}{e:Nat}(h:Cd.span s (i:Int)=some (t,e)):t.length+i≤e:=by
 have hsp:=Cd.rP h;unfold Cd.span at h
 split at h
 ·obtain ⟨j,hj,he⟩:=Option.map_eq_some_iff.1 h
  injection he with h1 h2;have hc:=Cd.zq (mid s ((i:Int).toNat+Fn.run 96 (s.drop (i:Int).toNat)) j);have hm:(mid s ((i:Int).toNat+Fn.run 96 (s.drop (i:Int).toNat)) j).length≤j-((i:Int).toNat+Fn.run 96 (s.drop (i:Int).toNat)):=by unfold mid;rw [List.length_take];omega
  rw [h1] at hc;simp only [Int.toNat_natCast] at *;omega
 ·cases h
end Go.Proofs.YtddkjkockbcamaaGreatDoor
namespace Go.Proofs.YtddkjkockbcamaaGreatDoor.Il
open Go.Lib
theorem sr:∀ (n:Nat) (l:List UInt8),l.length≤n→(Ru.aP l).length≤l.length
 | 0,l,h=>by
  have:l=[]:=List.eq_nil_of_length_eq_zero (by omega);subst this;simp [Ru.gR]
 | n+1,l,h=>by
  by_cases h0:l=[]
  ·subst h0;simp [Ru.gR]
  ·have hl:0<l.length:=List.length_pos_iff.2 h0
   have hw:=decodeL_width l;have ih:=sr n (l.drop (decodeL l).2) (by rw [List.length_drop];omega);rw [Ru.dM h0,List.length_cons];rw [List.length_drop] at ih;omega
theorem uF:∀ X:List Nat,(Ru.enc X).length≤4*X.length
 | []=>by simp [Ru.uA]
 | x::X=>by
  have:=Ru.eH (x:Int);have:=uF X;rw [Ru.qW,List.length_append,List.length_cons];omega
theorem IL {s:List UInt8}{i:Nat}{t:List UInt8}{e:Nat}(h:Lk.auto s (i:Int)=some (t,e)):t.length+i≤e:=by
 have hsp:=Lk.nQ h;unfold Lk.auto at h
 split at h
 ·obtain ⟨j,hj,he⟩:=Option.map_eq_some_iff.1 h
  injection he with h1 h2;rw [← h1];unfold Go.Proofs.YtddkjkockbcamaaGreatDoor.mid;rw [List.length_take,Int.toNat_natCast];omega
 ·cases h
theorem Ce (l:List Pt) (s:List UInt8):weight (eW l s)=weight l+s.length:=by
 have h0:weight ([]:List Pt)=0:=rfl;rcases cZ l s with ⟨l',t,d,k,n,c,rfl,h⟩ | h
 ·rw [h,cY,cY,cz,cz,h0]
  simp only [bp,txt,List.length_append];omega
 ·rw [h,cY,cz,h0]
  simp only [word,bp,txt,iN,List.length_append];simp
theorem M3 {l:List Pt}{s:List UInt8}(h:∀ p∈l,ru p.inn):∀ p∈eW l s,ru p.inn:=by
 intro p hp;rcases cZ l s with ⟨l',t,d,k,n,c,rfl,e⟩ | e
 ·rw [e] at hp
  rcases List.mem_append.1 hp with hp | hp
  ·exact h p (by simp [hp])
  ·obtain rfl:=List.mem_singleton.1 hp
   exact xu (h ⟨.mk 0 t d k,none,n,c⟩ (by simp)) _ _
 ·rw [e] at hp
  rcases List.mem_append.1 hp with hp | hp
  ·exact h p hp
  ·obtain rfl:=List.mem_singleton.1 hp
   exact ng (by omega) _ _
structure xO (st:Sc) (i:Nat):Prop where
 few:∀ p∈st.l,ru p.inn
 weight:weight st.l≤4*i
theorem Co {st:Sc}{i e:Nat}(h:xO st i) {s:List UInt8}(hs:s.length+4*i≤4*e) (runs:List Em.R):xO ⟨eW st.l s,runs⟩ e :=
 ⟨M3 h.few,by have:=h.weight;rw [Ce];omega⟩
theorem kC {st:Sc}{i e:Nat}(h:xO st i) {p:Pt}(hp:ru p.inn) (hw:(txt (j5 p)).length+4*i≤4*e) (runs:List Em.R):xO ⟨st.l++[p],runs⟩ e:=by
 have h0:Il.weight ([]:List Pt)=0:=rfl;have:=h.weight;refine ⟨fun q hq=>?_,by rw [cY,cz,h0];omega⟩;rcases List.mem_append.1 hq with hq | hq
 ·exact h.few q hq
 ·obtain rfl:=List.mem_singleton.1 hq;exact hp
def jJ (inner:List UInt8→List In):Prop:=∀ t,t.length≤4000000→(∀ y∈inner t,ru y)∧(inner t).length≤1000000000∧(iN (inner t)).length≤4*t.length
theorem wC (link:Bool) (inner:List UInt8→List In) (hin:link=false→jJ inner) {s:List UInt8}(hs:s.length≤4000000) {i:Nat}(h:i<s.length) {st:Sc}(hok:fh st i) (hf:xO st i) :
  fh (piece link inner s i st).2 (piece link inner s i st).1∧xO (piece link inner s i st).2 (piece link inner s i st).1:=by
 have hm:=piece_more link inner h st;unfold piece at hm ⊢
 by_cases jW:s.getD i 0=96
 ·rw [if_pos jW] at hm ⊢
  cases hsp:Cd.span s (i:Int) with
  | some x =>
   obtain ⟨t,e⟩:=x;rw [hsp] at hm;simp only at hm ⊢;have hl:=vO hsp;exact ⟨nL hok hm.1 (by simp only [eS];omega),kC hf (ng (by omega) _ _) (by simp [bp,txt,iN];omega) _⟩
  | none =>
   rw [hsp] at hm;simp only at hm ⊢;have hml:=Go.Proofs.YtddkjkockbcamaaGreatDoor.eZ (l:=s) (lo:=i) (hi:=i+Fn.run 96 (s.drop i)) hm.2;exact ⟨DZ hok hm.1 (by omega),Co hf (by omega) _⟩
 ·rw [if_neg jW] at hm ⊢
  cases ha:(if link=true then none else Lk.auto s (i:Int)) with
  | some x =>
   obtain ⟨t,e⟩:=x;rw [ha] at hm;simp only at hm ⊢
   split at ha
   ·cases ha
   ·have hl:=IL ha
    have h1:=uF (Ru.aP t);have h2:=sr t.length t (Nat.le_refl _);exact ⟨nL hok hm.1 (by simp [eS]),kC hf (.mk (by omega) (by simp) (fun x hx=>by obtain rfl:=List.mem_singleton.1 hx;exact ng (by omega) _ _)) (by simp [bp,txt,iN,word];omega) _⟩
  | none =>
   rw [ha] at hm;simp only at hm ⊢;cases hl:(if link=true then none else dy s i) with
   | some x =>
    obtain ⟨d,j,e⟩:=x;rw [hl] at hm;simp only at hm ⊢
    split at hl
    ·cases hl
    ·rename_i hlf
     have h3:=kz hl;have hml:=Go.Proofs.YtddkjkockbcamaaGreatDoor.eZ (l:=s) (lo:=i+1) (hi:=j) (by omega);obtain ⟨f1,f2,f3⟩:=hin (by simpa using hlf) (Go.Proofs.YtddkjkockbcamaaGreatDoor.mid s (i+1) j) (by omega);exact ⟨nL hok hm.1 (by simp [eS]),kC hf (.mk (by omega) f2 f1) (by simp [bp,txt];omega) _⟩
   | none =>
    rw [hl] at hm;simp only at hm ⊢;cases hk:Em.kind s (i:Int) with
    | some x =>
     obtain ⟨r,e⟩:=x;rw [hk] at hm;simp only at hm ⊢;have hn:=Fu hk;exact ⟨Qg hok hm.1 hn (by omega),kC hf (ng (by omega) _ _) (by simp [none_,iz,txt,iN,hn];omega) _⟩
    | none =>
     rw [hk] at hm;simp only at hm ⊢
     by_cases h10:s.getD i 0=10
     ·rw [if_pos h10] at hm ⊢
      exact ⟨nL hok hm.1 (by simp [eS]),kC hf (ng (by omega) _ _) (by simp [bp,txt,iN];omega) _⟩
     ·rw [if_neg h10] at hm ⊢
      have he:=Ru.eH ((Es.next s i).1:Int);simp only at hm ⊢;exact ⟨DZ hok hm.1 (by omega),Co hf (by omega) _⟩
theorem DH (link:Bool) (inner:List UInt8→List In) (hin:link=false→jJ inner) {s:List UInt8}(hs:s.length≤4000000):∀ (f i:Nat) (st:Sc),i≤s.length→fh st i→xO st i→∃ j,j≤s.length∧fh (gC link inner f s i st) j∧xO (gC link inner f s i st) j
 | 0,i,st,hi,h1,h2=>⟨i,hi,h1,h2⟩
 | f+1,i,st,hi,h1,h2=>by
  unfold gC
  by_cases h:i<s.length
  ·rw [if_pos h]
   have hm:=piece_more link inner h st;obtain ⟨k1,k2⟩:=wC link inner hin hs h h1 h2;exact DH link inner hin hs f _ _ hm.2 k1 k2
  ·rw [if_neg h];exact ⟨i,hi,h1,h2⟩
theorem zN (link:Bool) (inner:List UInt8→List In) (hin:link=false→jJ inner):jJ (within link inner):=by
 intro s hs;obtain ⟨j,hj,h1,h2⟩:=DH link inner hin hs (s.length+1-0) 0 ⟨[],[]⟩ (Nat.zero_le _) pI ⟨by simp,by simp [weight]⟩;have hl:=h1.len;have hr:=h1.rlen;have hw:=h2.weight;obtain ⟨s1,s2,s3⟩:=FL (o9 h1) h2.few (by omega) (by omega);exact ⟨s1,s2,Nat.le_trans s3 (by omega)⟩
mutual
def ig:In→Nat
 | .mk _ t d ks=>t.length+d.length+1+bu ks
def bu:List In→Nat
 | []=>0
 | x::r=>ig x+bu r
end
theorem oH:∀ a b,bu (a++b)=bu a+bu b
 | [],b=>by simp [bu]
 | x::r,b=>by rw [List.cons_append];simp only [bu];rw [oH r b];omega
theorem mS (a:List In) (x:In):bu (a++[x])=bu a+ig x:=by rw [oH];simp [bu]
def pm (l:List Pt):Nat:=(l.map fun p=>ig (j5 p)).sum
theorem dG (a b:List Pt):pm (a++b)=pm a+pm b:=by simp [pm]
theorem eg (p:Pt) (b:List Pt):pm (p::b)=ig (j5 p)+pm b:=by simp [pm]
theorem oM:pm []=0:=rfl
theorem Jl (out:List In) (x:In):bu (dj out x)≤bu out+ig x:=by
 rcases lI out x with e | ⟨o,t',d',ks',t,d,ks,rfl,rfl,e⟩ | e
 ·rw [e];omega
 ·rw [e,mS,mS]
  simp only [ig,List.length_append];omega
 ·rw [e,mS];omega
theorem yb:∀ (l:List Pt) (out:List In),bu (l.foldl (fun out p=>dj out (j5 p)) out)≤bu out+pm l
 | [],out=>by simp [pm]
 | p::l,out=>by
  rw [List.foldl_cons,eg];have h1:=yb l (dj out (j5 p));have h2:=Jl out (j5 p);omega
theorem tf (l:List Pt):bu (settle l)≤pm l:=by
 have:=yb l [];simpa [settle,bu] using this
theorem yP (l:List Pt) (s:List UInt8):pm (eW l s)≤pm l+s.length+1:=by
 rcases cZ l s with ⟨l',t,d,k,n,c,rfl,h⟩ | h
 ·rw [h,dG,dG,eg,eg,oM]
  simp only [bp,ig,List.length_append];omega
 ·rw [h,dG,eg,oM]
  simp only [word,bp,ig,bu,List.length_nil];omega
theorem Ml {s:List UInt8}{k:Nat}{d:List UInt8}{e:Nat}(h:Lk.dest s (k:Int)=some (d,e)):d.length+4*k≤4*e:=by
 have hsp:=yd h;unfold Lk.dest at h
 split at h
 ·obtain ⟨j,hj,he⟩:=Option.map_eq_some_iff.1 h
  have hd:=Lk.oP _ _ _ hj;rw [Int.toNat_natCast] at hd he;injection he with h1 h2;have e1:=uF (Es.plain (Go.Proofs.YtddkjkockbcamaaGreatDoor.mid s (k+1) j));have e2:=Es.Kl (Go.Proofs.YtddkjkockbcamaaGreatDoor.mid s (k+1) j);rw [Go.Proofs.YtddkjkockbcamaaGreatDoor.eZ (by omega)] at e2;rw [← h1];omega
 ·cases h
def zZ (inner:List UInt8→List In) (C:Nat):Prop:=∀ t,t.length≤4000000→bu (inner t)≤C*t.length
theorem GU (link:Bool) (inner:List UInt8→List In) {C:Nat}(hC:7≤C) (hin:link=false→zZ inner C) {s:List UInt8}(hs:s.length≤4000000) {i:Nat}(h:i<s.length) {st:Sc}(hf:pm st.l≤C*i) :
  pm (piece link inner s i st).2.l≤C*(piece link inner s i st).1:=by
 have hm:=piece_more link inner h st;have lin:∀ {e x:Nat},i<e→x≤7*(e-i)→pm st.l+x≤C*e:=by
  intro e x he hx;have h1:C*e=C*i+C*(e-i):=by rw [← Nat.mul_add];congr 1;omega
  have h2:7*(e-i)≤C*(e-i):=Nat.mul_le_mul_right _ hC;omega
 unfold piece at hm ⊢
 by_cases jW:s.getD i 0=96
 ·rw [if_pos jW] at hm ⊢
  cases hsp:Cd.span s (i:Int) with
  | some x =>
   obtain ⟨t,e⟩:=x;rw [hsp] at hm;simp only at hm ⊢;have hl:=vO hsp;rw [dG,eg,oM];exact lin hm.1 (by simp only [bp,ig,bu,List.length_nil];omega)
  | none =>
   rw [hsp] at hm;simp only at hm ⊢;have hml:=Go.Proofs.YtddkjkockbcamaaGreatDoor.eZ (l:=s) (lo:=i) (hi:=i+Fn.run 96 (s.drop i)) hm.2;have:=yP st.l (Go.Proofs.YtddkjkockbcamaaGreatDoor.mid s i (i+Fn.run 96 (s.drop i)));exact Nat.le_trans (by rw [Nat.add_assoc] at this;exact this) (lin hm.1 (by omega))
 ·rw [if_neg jW] at hm ⊢
  cases ha:(if link=true then none else Lk.auto s (i:Int)) with
  | some x =>
   obtain ⟨t,e⟩:=x;rw [ha] at hm;simp only at hm ⊢
   split at ha
   ·cases ha
   ·have hl:=IL ha
    have h1:=uF (Ru.aP t);have h2:=sr t.length t (Nat.le_refl _);rw [dG,eg,oM];exact lin hm.1 (by simp only [bp,ig,bu,word,List.length_nil];omega)
  | none =>
   rw [ha] at hm;simp only at hm ⊢;cases hl:(if link=true then none else dy s i) with
   | some x =>
    obtain ⟨d,j,e⟩:=x;rw [hl] at hm;simp only at hm ⊢
    split at hl
    ·cases hl
    ·rename_i hlf
     have h3:=kz hl;have hml:=Go.Proofs.YtddkjkockbcamaaGreatDoor.eZ (l:=s) (lo:=i+1) (hi:=j) (by omega);have hI:=hin (by simpa using hlf) (Go.Proofs.YtddkjkockbcamaaGreatDoor.mid s (i+1) j) (by omega);have hd:d.length+4*(j+1)≤4*e:=by
      unfold dy at hl
      split at hl
      ·cases hl
      ·split at hl
       ·cases hl
       ·rename_i hde
        simp only [Option.some.injEq,Prod.mk.injEq] at hl;obtain ⟨rfl,rfl,rfl⟩:=hl;exact Ml (by rw [Int.natCast_add];exact hde)
     rw [hml] at hI;rw [dG,eg,oM];simp only [bp,ig,List.length_nil];have c1:C*e=C*i+C*(j-(i+1))+C*(e-(j-1)):=by
      rw [← Nat.mul_add,← Nat.mul_add];congr 1;omega
     have c2:7*(e-(j-1))≤C*(e-(j-1)):=Nat.mul_le_mul_right _ hC;omega
   | none =>
    rw [hl] at hm;simp only at hm ⊢;cases hk:Em.kind s (i:Int) with
    | some x =>
     obtain ⟨r,e⟩:=x;rw [hk] at hm;simp only at hm ⊢;have hn:=Fu hk;rw [dG,eg,oM];exact lin hm.1 (by simp only [none_,iz,ig,bu,List.length_nil,List.length_replicate];omega)
    | none =>
     rw [hk] at hm;simp only at hm ⊢
     by_cases h10:s.getD i 0=10
     ·rw [if_pos h10] at hm ⊢
      rw [dG,eg,oM];exact lin hm.1 (by simp only [bp,ig,bu,List.length_nil];omega)
     ·rw [if_neg h10] at hm ⊢
      have he:=Ru.eH ((Es.next s i).1:Int);simp only at hm ⊢;have:=yP st.l (encodeRune ((Es.next s i).1:Int));exact Nat.le_trans (by rw [Nat.add_assoc] at this;exact this) (lin hm.1 (by omega))
end Go.Proofs.YtddkjkockbcamaaGreatDoor.Il
namespace Go.Proofs.YtddkjkockbcamaaGreatDoor.Hm
mutual
theorem R6:∀ x:Il.In,(inl (AZ x)).length≤30*Il.ig x
 | .mk k t d ks=>by
  have hp:=(Es.kL t).2;have hg:(goes d).length≤d.length+1:=by unfold goes;split<;>simp
  have ha:=(Es.kL (goes d)).2;have ih:=u7 ks;simp only [AZ,inl,Il.ig]
  repeat' split
  all_goals (try simp only [tag,shut,anchor,cB,BP,cM,List.length_append,List.length_cons,List.length_nil])
  all_goals omega
theorem u7:∀ l:List Il.In,(bz (fN l)).length≤30*Il.bu l
 | []=>by simp [fN,bz]
 | x::r=>by
  have h1:=R6 x;have h2:=u7 r;simp only [fN,bz,Il.bu,List.length_append];omega
end
end Go.Proofs.YtddkjkockbcamaaGreatDoor.Hm
set_option maxHeartbeats 16000000
set_option maxRecDepth 100000
namespace Go.Proofs.YtddkjkockbcamaaGreatDoor
open Go.RowKit
namespace Hm
mutual
def im:Hi→Nat
 | .mk _ t d ks=>t.length+d.length+1+xK ks
def xK:List Hi→Nat
 | []=>0
 | x::r=>im x+xK r
end
end Hm
theorem D1 (d:List UInt8):(Hm.goes d).length≤d.length+1:=by
 unfold Hm.goes;split
 ·omega
 ·simp
mutual
theorem GI:∀ x:Hm.Hi,(Hm.inl x).length≤24*Hm.im x
 | .mk k t d ks=>by
  have h1:=mH ks;have h2:=(Es.kL t).2;have h3:=(Es.kL (Hm.goes d)).2;have h4:=D1 d;simp only [Hm.im];unfold Hm.inl
  repeat' split
  all_goals try simp only [Hm.anchor,Hm.tag,Hm.shut,Hm.cB,Hm.BP,Hm.cM,List.length_append,List.length_cons,List.length_nil]
  all_goals first | omega | exact Nat.zero_le _
theorem mH:∀ l:List Hm.Hi,(Hm.bz l).length≤24*Hm.xK l
 | []=>by simp [Hm.bz]
 | x::r=>by
  have h1:=GI x;have h2:=mH r;simp only [Hm.bz,Hm.xK,List.length_append];omega
end
end Go.Proofs.YtddkjkockbcamaaGreatDoor
namespace Go.Proofs.YtddkjkockbcamaaGreatDoor.Il
open Go.Lib
mutual
def dep:In→Nat
 | .mk _ _ _ ks=>deps ks+1
def deps:List In→Nat
 | []=>0
 | x::r=>max (dep x) (deps r)
end
theorem sW:∀ a b,deps (a++b)=max (deps a) (deps b)
 | [],b=>by simp [deps]
 | x::r,b=>by rw [List.cons_append];simp only [deps];rw [sW r b];omega
theorem rN (a:List In) (x:In):deps (a++[x])=max (deps a) (dep x):=by rw [sW];simp [deps]
def sg (p:Pt):Nat:=match p.run with | some _=>p.left | none=>0
def pd (l:List Pt):Nat:=(l.map fun p=>dep (j5 p)-1+sg p).sum
theorem cS (a b:List Pt):pd (a++b)=pd a+pd b:=by simp [pd]
theorem ek (p:Pt) (b:List Pt):pd (p::b)=dep (j5 p)-1+sg p+pd b:=by simp [pd]
theorem o7:pd []=0:=rfl
theorem U6 {l:List Pt}{p:Pt}(h:p∈l):dep (j5 p)≤1+pd l:=by
 obtain ⟨a,b,rfl⟩:=List.append_of_mem h;rw [cS,ek];omega
theorem NZ (out:List In) (x:In):deps (dj out x)≤max (deps out) (dep x):=by
 rcases lI out x with e | ⟨o,t',d',ks',t,d,ks,rfl,rfl,e⟩ | e
 ·rw [e];omega
 ·rw [e,rN,rN]
  simp only [dep];omega
 ·rw [e,rN];omega
theorem Dy (M:Nat):∀ (l:List Pt) (out:List In),deps out≤M→(∀ p∈l,dep (j5 p)≤M)→deps (l.foldl (fun out p=>dj out (j5 p)) out)≤M
 | [],_,h,_=>h
 | p::l,out,h,hl=>by
  rw [List.foldl_cons];have h2:=NZ out (j5 p);have h3:=hl p (by simp);exact Dy M l _ (by omega) (fun q hq=>hl q (by simp [hq]))
theorem uW (l:List Pt):deps (settle l)≤1+pd l:=Dy _ l [] (by simp [deps]) (fun _ h=>U6 h)
theorem DS (p:Pt) (n:Nat):dep (j5 { p with left:=n })=dep (j5 p):=by
 obtain ⟨⟨kd,t,d,ks⟩,r,k,c⟩:=p;cases r with
 | none=>rfl
 | some r=>simp only [iz,dep]
theorem yR {p:Pt}{r:Nat}(h:p.run=some r) {s:Nat}(hs:s≤p.left):ig (j5 { p with left:=p.left-s })+s=ig (j5 p):=by
 obtain ⟨⟨kd,t,d,ks⟩,rn,n,c⟩:=p;simp only at h hs;subst h;simp only [iz,ig,List.length_replicate];omega
theorem I2 {p:Pt}{r:Nat}(h:p.run=some r) (n:Nat):sg { p with left:=n }=n:=by unfold sg;simp only;rw [h]
theorem Ox {p:Pt}{r:Nat}(h:p.run=some r):sg p=p.left:=by unfold sg;rw [h]
theorem J7 {l:List Pt}{a b s:Nat}(hs:(cQ l).Pairwise (· < ·)) (ha:a∈cQ l) (hb:b∈cQ l) (hab:a<b) (h1:1≤s) (hl:∀ p∈l,∀ r,p.run=some r→r=a∨r=b→s≤p.left) :
  pd (bE l (a,b,s))≤pd l∧pm (bE l (a,b,s))≤pm l:=by
 obtain ⟨A,p,B,q,C,rfl,hp,hq,h1',h2',_,_,_⟩:=jd hs ha hb hab;have lp:=hl p (by simp) a hp (.inl rfl);have lq:=hl q (by simp) b hq (.inr rfl);rw [ey h1' h2'];have k:=tf B;have k2:=uW B;have e1:=yR hp lp;have e2:=yR hq lq;have e3:ig (j5 ⟨.mk (if s=2 then 3 else 2) [] [] (settle B),none,0,0⟩)=1+bu (settle B):=by
  rw [bp];simp [ig]
 have e4:dep (j5 ⟨.mk (if s=2 then 3 else 2) [] [] (settle B),none,0,0⟩)=deps (settle B)+1:=by rw [bp];simp only [dep]
 have e5:sg ⟨.mk (if s=2 then 3 else 2) [] [] (settle B),none,0,0⟩=0:=rfl;have g1:=I2 hp (p.left-s);have g2:=I2 hq (q.left-s);have g3:=Ox hp;have g4:=Ox hq;refine ⟨?_,?_⟩
 ·rw [cS,cS,ek,ek,ek,ek,cS,ek,DS p (p.left-s),DS q (q.left-s),e4,e5,g1,g2,g3,g4]
  omega
 ·rw [dG,dG,eg,eg,eg,eg,dG,eg,e3]
  omega
theorem Db {l:List Pt}{runs:List Em.R}(h:Ready l runs):deps (dY l runs)≤1+pd l∧bu (dY l runs)≤pm l:=by
 have key:∀ k,k≤(Em.pairs runs).length→pd (bD l (Em.pairs runs) k)≤pd l∧pm (bD l (Em.pairs runs) k)≤pm l:=by
  intro k
  induction k with
  | zero=>intro _;simp [bD]
  | succ k ih =>
   intro hk;have hk':k<(Em.pairs runs).length:=by omega
   have i:=ih (by omega);have hh:=rQ h k (by omega);have ht:=hh.there k hk' (Nat.le_refl _);have hg:=pH runs _ (List.getElem_mem hk');have hn:∀ r,Em.used ((Em.pairs runs).take k++[(Em.pairs runs)[k]]) r≤cnt runs r:=fun r=>by
    rw [← List.take_succ_eq_append_getElem hk'];exact Nat.le_trans (og _ _ _) (IU h.pos r)
   have hj:=J7 (s:=(Em.pairs runs)[k].2.2) hh.sorted ht.1 ht.2 hg.1 hg.2.2.1 (fun p hp r hr hc=>by
    have h1:=hh.left p hp r hr;have h2:=hn r;rw [Em.iZ] at h2;rcases hc with hc | hc
    ·rw [if_pos hc.symm] at h2;omega
    ·have:(if (Em.pairs runs)[k].2.1=r then (Em.pairs runs)[k].2.2 else 0)=(Em.pairs runs)[k].2.2:=if_pos hc.symm
     omega)
   rw [iy hk'];exact ⟨Nat.le_trans hj.1 i.1,Nat.le_trans hj.2 i.2⟩
 have e:dY l runs=settle (bD l (Em.pairs runs) (Em.pairs runs).length):=by unfold dY bD;rw [List.take_of_length_le (Nat.le_refl _)]
 have h1:=key _ (Nat.le_refl _);have h2:=tf (bD l (Em.pairs runs) (Em.pairs runs).length);have h3:=uW (bD l (Em.pairs runs) (Em.pairs runs).length);rw [e];omega
theorem IZ (l:List Pt) (s:List UInt8):pd (eW l s)=pd l:=by
 rcases cZ l s with ⟨l',t,d,k,n,c,rfl,h⟩ | h
 ·rw [h,cS,cS,ek,ek,o7]
  simp only [bp,dep,sg]
 ·rw [h,cS,ek,o7]
  simp only [word,bp,dep,deps,sg];omega
def Ad (inner:List UInt8→List In):Prop:=∀ t,t.length≤4000000→deps (inner t)≤1+t.length
theorem Od (link:Bool) (inner:List UInt8→List In) (hin:link=false→Ad inner) {s:List UInt8}(hs:s.length≤4000000) {i:Nat}(h:i<s.length) {st:Sc}(hf:pd st.l≤i) :
  pd (piece link inner s i st).2.l≤(piece link inner s i st).1:=by
 have hm:=piece_more link inner h st;unfold piece at hm ⊢
 by_cases jW:s.getD i 0=96
 ·rw [if_pos jW] at hm ⊢
  cases hsp:Cd.span s (i:Int) with
  | some x =>
   obtain ⟨t,e⟩:=x;rw [hsp] at hm;simp only at hm ⊢;rw [cS,ek,o7];simp only [bp,dep,deps,sg];omega
  | none =>
   rw [hsp] at hm;simp only at hm ⊢;rw [IZ];omega
 ·rw [if_neg jW] at hm ⊢
  cases ha:(if link=true then none else Lk.auto s (i:Int)) with
  | some x =>
   obtain ⟨t,e⟩:=x;rw [ha] at hm;simp only at hm ⊢;rw [cS,ek,o7];simp only [bp,dep,deps,sg,word];omega
  | none =>
   rw [ha] at hm;simp only at hm ⊢;cases hl:(if link=true then none else dy s i) with
   | some x =>
    obtain ⟨d,j,e⟩:=x;rw [hl] at hm;simp only at hm ⊢
    split at hl
    ·cases hl
    ·rename_i hlf
     have h3:=kz hl;have hml:=Go.Proofs.YtddkjkockbcamaaGreatDoor.eZ (l:=s) (lo:=i+1) (hi:=j) (by omega);have hI:=hin (by simpa using hlf) (Go.Proofs.YtddkjkockbcamaaGreatDoor.mid s (i+1) j) (by omega);rw [hml] at hI;rw [cS,ek,o7];simp only [bp,dep,sg];omega
   | none =>
    rw [hl] at hm;simp only at hm ⊢;cases hk:Em.kind s (i:Int) with
    | some x =>
     obtain ⟨r,e⟩:=x;rw [hk] at hm;simp only at hm ⊢;have hn:=Fu hk;rw [cS,ek,o7];simp only [none_,iz,dep,deps,sg];omega
    | none =>
     rw [hk] at hm;simp only at hm ⊢
     by_cases h10:s.getD i 0=10
     ·rw [if_pos h10] at hm ⊢
      rw [cS,ek,o7];simp only [bp,dep,deps,sg];omega
     ·rw [if_neg h10] at hm ⊢
      simp only at hm ⊢;rw [IZ];omega
theorem xe (link:Bool) (inner:List UInt8→List In) {C:Nat}(hC:7≤C) (hin:link=false→zZ inner C) (Sq:link=false→Ad inner) (hok:link=false→jJ inner) {s:List UInt8}(hs:s.length≤4000000):∀ (f i:Nat) (st:Sc),i≤s.length→fh st i→xO st i→pm st.l≤C*i→pd st.l≤i →
  ∃ j,j≤s.length∧fh (gC link inner f s i st) j∧pm (gC link inner f s i st).l≤C*j∧pd (gC link inner f s i st).l≤j
 | 0,i,st,hi,h1,_,h3,h4=>⟨i,hi,h1,h3,h4⟩
 | f+1,i,st,hi,h1,h2,h3,h4=>by
  unfold gC
  by_cases h:i<s.length
  ·rw [if_pos h]
   have hm:=piece_more link inner h st;obtain ⟨k1,k2⟩:=wC link inner hok hs h h1 h2;exact xe link inner hC hin Sq hok hs f _ _ hm.2 k1 k2 (GU link inner hC hin hs h h3) (Od link inner Sq hs h h4)
  ·rw [if_neg h];exact ⟨i,hi,h1,h3,h4⟩
theorem sS (link:Bool) (inner:List UInt8→List In) {C:Nat}(hC:7≤C) (hin:link=false→zZ inner C) (Sq:link=false→Ad inner) (hok:link=false→jJ inner):zZ (within link inner) C∧Ad (within link inner):=by
 have key:∀ s:List UInt8,s.length≤4000000→bu (within link inner s)≤C*s.length∧deps (within link inner s)≤1+s.length:=by
  intro s hs;obtain ⟨j,hj,h1,h2,h3⟩:=xe link inner hC hin Sq hok hs (s.length+1-0) 0 ⟨[],[]⟩ (Nat.zero_le _) pI ⟨by simp,by simp [weight]⟩ (by simp [pm]) (by simp [pd]);have h4:=Db (o9 h1);have h5:C*j≤C*s.length:=Nat.mul_le_mul_left _ hj;unfold within;show bu (dY (gC link inner (s.length+1-0) s 0 ⟨[],[]⟩).l _)≤_∧deps (dY (gC link inner (s.length+1-0) s 0 ⟨[],[]⟩).l _)≤_;exact ⟨Nat.le_trans h4.2 (by omega),Nat.le_trans h4.1 (by omega)⟩
 exact ⟨fun s hs=>(key s hs).1,fun s hs=>(key s hs).2⟩
theorem vW {s:List UInt8}(hs:s.length≤4000000):bu (parse s)≤7*s.length∧deps (parse s)≤1+s.length:=by
 have h1:=sS true (fun _=>[]) (C:=7) (by omega) (fun h=>absurd h (by decide)) (fun h=>absurd h (by decide)) (fun h=>absurd h (by decide));have h2:=sS false inLink (C:=7) (by omega) (fun _=>h1.1) (fun _=>h1.2) (fun _=>zN true (fun _=>[]) (fun h=>absurd h (by decide)));exact ⟨h2.1 s hs,h2.2 s hs⟩
end Go.Proofs.YtddkjkockbcamaaGreatDoor.Il
namespace Go.Proofs.YtddkjkockbcamaaGreatDoor.Hm
theorem yg {t:List UInt8}(h:t.length≤4000000):(para t).length≤210*t.length:=by
 have h1:=u7 (Il.parse t);have h2:=(Il.vW h).1;unfold para;omega
end Go.Proofs.YtddkjkockbcamaaGreatDoor.Hm
set_option maxHeartbeats 16000000
set_option maxRecDepth 100000
namespace Go.Proofs.YtddkjkockbcamaaGreatDoor
open Go.RowKit
attribute [local go_sem] aD av aq
end Go.Proofs.YtddkjkockbcamaaGreatDoor
namespace Go.Proofs.YtddkjkockbcamaaGreatDoor
open Go.RowKit
end Go.Proofs.YtddkjkockbcamaaGreatDoor
namespace Go.Proofs.YtddkjkockbcamaaGreatDoor
open Go.RowKit
attribute [local go_sem] aD av aq
mutual
theorem L1:∀ (x:Il.In),Il.ig x≤1000000000→Hm.CA (Hm.AZ x)
 | .mk k t d ks,h=>by
  simp only [Il.ig] at h;have hl:=oO ks;unfold Hm.AZ;exact .mk (by omega) (by omega) (by rw [Hm.ja];omega) (sj ks (by omega))
theorem sj:∀ (l:List Il.In),Il.bu l≤1000000000→∀ y∈Hm.fN l,Hm.CA y
 | [],_=>by simp [Hm.fN]
 | x::r,h=>by
  simp only [Il.bu] at h;intro y hy;unfold Hm.fN at hy;rcases List.mem_cons.1 hy with rfl | hy
  ·exact L1 x (by omega)
  ·exact sj r (by omega) y hy
theorem oO:∀ (l:List Il.In),l.length≤Il.bu l
 | []=>by simp
 | x::r=>by
  have h1:=oO r;have h2:=Mp x;simp only [Il.bu,List.length_cons];omega
theorem Mp:∀ (x:Il.In),1≤Il.ig x
 | .mk k t d ks=>by simp only [Il.ig];omega
end
end Go.Proofs.YtddkjkockbcamaaGreatDoor
namespace Go.Proofs.YtddkjkockbcamaaGreatDoor.Il
open Go.Lib
def later (y x:Nat×Nat×Nat):Prop:=y.2.1≤x.2.1
theorem qM {l:List Em.R}{c:Nat}:∀ (f:Nat) (st:Em.St),(∀ x∈st.2,x.2.1≤c)→st.2.Pairwise later→(Em.cP l c f st).2.Pairwise later∧∀ x∈(Em.cP l c f st).2,x.2.1≤c
 | 0,_,h,hp=>⟨hp,h⟩
 | f+1,st,h,hp=>by
  unfold Em.cP
  split
  ·split
   ·exact ⟨hp,h⟩
   ·rename_i o ho
    refine qM f _ (fun x hx=>?_) ?_
    ·rcases List.mem_append.1 hx with hx | hx
     ·exact h x hx
     ·obtain rfl:=List.mem_singleton.1 hx;exact Nat.le_refl _
    ·rw [List.pairwise_append]
     refine ⟨hp,List.pairwise_singleton _ _,fun y hy x hx=>?_⟩;obtain rfl:=List.mem_singleton.1 hx;exact h y hy
  ·exact ⟨hp,h⟩
theorem tC {l:List Em.R}:∀ (k c:Nat) (st:Em.St),(∀ x∈st.2,x.2.1≤c)→st.2.Pairwise later→(Em.outer l k c st).2.Pairwise later
 | 0,_,_,_,hp=>hp
 | k+1,c,st,h,hp=>by
  have:=qM (l:=l) (c:=c) (Em.lf st.1 c) st h hp;exact tC k (c+1) _ (fun x hx=>Nat.le_succ_of_le (this.2 x hx)) this.1
theorem Ea (l:List Em.R):(Em.pairs l).Pairwise later:=tC l.length 0 _ (by simp) List.Pairwise.nil
def Wd (x:In):Prop:=∀ t d ks,x=.mk 0 t d ks→d=[]∧ks=[]
theorem uy (s:List UInt8):Wd (word s):=by intro t d ks h;unfold word at h;injection h with _ _ h1 h2;exact ⟨h1.symm,h2.symm⟩
theorem H8 {k:Nat}(h:k≠0) (t d:List UInt8) (ks:List In):Wd (.mk k t d ks):=by intro t' d' ks' e;injection e with e;exact absurd e h
theorem QX {out:List In}{x:In}(h:∀ y∈out,Wd y) (hx:Wd x):∀ y∈dj out x,Wd y:=by
 intro y hy;rcases lI out x with e | ⟨o,t',d',ks',t,d,ks,rfl,rfl,e⟩ | e
 ·rw [e] at hy;exact h y hy
 ·rw [e] at hy
  rcases List.mem_append.1 hy with hy | hy
  ·exact h y (List.mem_append.2 (.inl hy))
  ·obtain rfl:=List.mem_singleton.1 hy
   obtain ⟨rfl,rfl⟩:=h (.mk 0 t' d' ks') (by simp) _ _ _ rfl;exact uy _
 ·rw [e] at hy
  rcases List.mem_append.1 hy with hy | hy
  ·exact h y hy
  ·obtain rfl:=List.mem_singleton.1 hy;exact hx
def jD (o F:List In):List In:=F.foldl dj o
theorem fL (o a b:List In):jD o (a++b)=jD (jD o a) b:=List.foldl_append
theorem mN (o:List In) (x:In):jD o [x]=dj o x:=rfl
theorem CF (P:List In) (a b:List UInt8):dj (dj P (word a)) (word b)=dj P (word (a++b)):=by
 by_cases ha:a=[]
 ·subst ha;rw [word,fq];rfl
 ·by_cases hb:b=[]
  ·subst hb;rw [word,word,fq,List.append_nil];rfl
  ·have hab:a++b≠[]:=by simp [ha]
   rcases List.eq_nil_or_concat P with rfl | ⟨o,y,rfl⟩
   ·unfold word
    rw [jn ha,jn hab];exact fD [] hb a [] [] [] []
   ·rw [List.concat_eq_append]
    obtain ⟨ky,t,d,ks⟩:=y;unfold word
    by_cases hk:ky=0
    ·subst hk
     rw [fD o ha,fD o hb,fD o hab,List.append_assoc]
    ·rw [jz o ha hk,jz o hab hk]
     exact fD _ hb a [] [] [] []
theorem J5 (O acc:List In) (x:In) (ha:∀ y∈acc,Wd y) (hx:Wd x):jD O (dj acc x)=dj (jD O acc) x:=by
 obtain ⟨kd,t,d,ks⟩:=x
 by_cases hk:kd=0
 ·subst hk
  obtain ⟨rfl,rfl⟩:=hx t d ks rfl
  by_cases ht:t=[]
  ·subst ht;rw [fq,fq]
  ·rcases List.eq_nil_or_concat acc with rfl | ⟨o,y,rfl⟩
   ·rw [jn ht];rfl
   ·rw [List.concat_eq_append] at ha ⊢
    obtain ⟨ky,t',d',ks'⟩:=y
    by_cases hky:ky=0
    ·subst hky
     obtain ⟨rfl,rfl⟩:=ha (.mk 0 t' d' ks') (by simp) _ _ _ rfl;rw [fD o ht,fL,fL,mN,mN];exact (CF _ t' t).symm
    ·rw [jz o ht hky,fL _ (o++[_]),mN]
 ·rw [sB _ hk,fL,mN]
theorem zc (O:List In):∀ (F acc:List In),(∀ y∈acc,Wd y)→(∀ y∈F,Wd y)→jD O (jD acc F)=jD (jD O acc) F
 | [],acc,_,_=>rfl
 | x::F,acc,ha,hF=>by
  have h1:=zc O F (dj acc x) (QX ha (hF x (by simp))) (fun y hy=>hF y (by simp [hy]));show jD O (jD (dj acc x) F)=jD (dj (jD O acc) x) F;rw [h1,J5 O acc x ha (hF x (by simp))]
theorem JT (O F:List In) (hF:∀ y∈F,Wd y):jD O (jD [] F)=jD O F:=zc O F [] (by simp) hF
def opn (X:List (Nat×Nat×Nat)) (r:Nat):Nat:=X.countP fun x=>x.1==r
theorem vH (x:Nat×Nat×Nat) (X:List (Nat×Nat×Nat)) (r:Nat):opn (x::X) r=opn X r+if x.1=r then 1 else 0:=by
 unfold opn;rw [List.countP_cons];simp
abbrev Sk:=List (Nat×Nat×Nat)×List (List In)
def kd (s:Nat):Nat:=if s=2 then 3 else 2
def dD (st:List (List In)) (x:In):List (List In) :=
 match st with
 | []=>[]
 | t::r=>dj t x::r
def N2 (st:List (List In)) (s:Nat):List (List In) :=
 match st with
 | k::r=>dD r (.mk (kd s) [] [] k)
 | []=>[]
def closeAll (r:Nat):List (Nat×Nat×Nat)→List (List In)→Sk
 | [],st=>([],st)
 | x::X,st=>if x.2.1=r then closeAll r X (N2 st x.2.2) else (x::X,st)
def ow (LF:Nat→Nat) (r:Nat) (ch:UInt8) (S:Sk):Sk :=
 ((closeAll r S.1 S.2).1,List.replicate (opn (closeAll r S.1 S.2).1 r) []++dD (closeAll r S.1 S.2).2 (word (List.replicate (LF r) ch)))
def fI (LF:Nat→Nat) (S:Sk) (p:Pt):Sk :=
 match p.run with
 | none=>(S.1,dD S.2 p.inn)
 | some r=>ow LF r p.ch S
def rC (LF:Nat→Nat) (S:Sk) (l:List Pt):Sk:=l.foldl (fI LF) S
theorem nC (LF:Nat→Nat) (S:Sk) (a b:List Pt):rC LF S (a++b)=rC LF (rC LF S a) b:=List.foldl_append
theorem cE (LF:Nat→Nat) (S:Sk) (p:Pt) (b:List Pt):rC LF S (p::b)=rC LF (fI LF S p) b:=rfl
theorem Et {r:Nat}{X:List (Nat×Nat×Nat)}{st:List (List In)}(h:∀ x∈X,x.2.1≠r):closeAll r X st=(X,st):=by
 cases X with
 | nil=>rfl
 | cons x X=>unfold closeAll;rw [if_neg (h x (by simp))]
theorem rH {st:List (List In)}(h:st≠[]) (x:In):dD st x≠[]:=by
 cases st with
 | nil=>exact absurd rfl h
 | cons t r=>simp [dD]
theorem qG {LF:Nat→Nat}{r:Nat}{ch:UInt8}{X:List (Nat×Nat×Nat)}{st:List (List In)}(h:∀ x∈X,x.2.1≠r):ow LF r ch (X,st)=(X,List.replicate (opn X r) []++dD st (word (List.replicate (LF r) ch))):=by
 unfold ow;rw [Et h]
theorem pJ {LF:Nat→Nat}{x:Nat×Nat×Nat}{X:List (Nat×Nat×Nat)}:∀ {A:List Pt}{st:List (List In)},st≠[]→(∀ r∈cQ A,r≠x.1∧∀ y∈x::X,y.2.1≠r)→∃ st',st'≠[]∧rC LF (x::X,st) A=(x::X,st')∧rC LF (X,st) A=(X,st')
 | [],st,hs,_=>⟨st,hs,rfl,rfl⟩
 | p::A,st,hs,h=>by
  rw [fR] at h;cases hp:p.run with
  | none =>
   obtain ⟨st',h1,h2,h3⟩:=pJ (LF:=LF) (x:=x) (X:=X) (A:=A) (rH hs p.inn) (fun r hr=>h r (by simp [hr]));refine ⟨st',h1,?_,?_⟩
   ·rw [cE];unfold fI;rw [hp];exact h2
   ·rw [cE];unfold fI;rw [hp];exact h3
  | some r =>
   rw [hp] at h;have hr:=h r (by simp);have e1:ow LF r p.ch (x::X,st)=(x::X,List.replicate (opn X r) []++dD st (word (List.replicate (LF r) p.ch))):=by
    rw [qG hr.2,vH,if_neg (Ne.symm hr.1)];rfl
   have e2:ow LF r p.ch (X,st)=(X,List.replicate (opn X r) []++dD st (word (List.replicate (LF r) p.ch))):=qG fun y hy=>hr.2 y (by simp [hy]);have hne:List.replicate (opn X r) ([]:List In)++dD st (word (List.replicate (LF r) p.ch))≠[]:=by simp [rH hs]
   obtain ⟨st',h1,h2,h3⟩:=pJ (LF:=LF) (x:=x) (X:=X) (A:=A) hne (fun r hr=>h r (by simp [hr]));refine ⟨st',h1,?_,?_⟩
   ·rw [cE];unfold fI;rw [hp];simp only [e1];exact h2
   ·rw [cE];unfold fI;rw [hp];simp only [e2];exact h3
theorem iQ {LF:Nat→Nat}{X:List (Nat×Nat×Nat)}{T:List (List In)}:∀ {B:List Pt}{t:List In},(∀ p∈B,∀ r,p.run=some r→p.left=LF r∧p.inn=none_)→(∀ r∈cQ B,∀ y∈X,y.1≠r∧y.2.1≠r)→rC LF (X,t::T) B=(X,B.foldl (fun o p=>dj o (j5 p)) t::T)
 | [],t,_,_=>rfl
 | p::B,t,hl,h=>by
  rw [fR] at h;have hl':∀ q∈B,∀ r,q.run=some r→q.left=LF r∧q.inn=none_:=fun q hq=>hl q (by simp [hq]);cases hp:p.run with
  | none =>
   have e:j5 p=p.inn:=by unfold j5;rw [hp]
   rw [cE,List.foldl_cons,e];unfold fI;rw [hp];exact iQ hl' (fun r hr=>h r (by simp [hr]))
  | some r =>
   rw [hp] at h;have hr:=h r (by simp);obtain ⟨e1,e2⟩:=hl p (by simp) r hp;have e:j5 p=word (List.replicate (LF r) p.ch):=by unfold j5;rw [hp,e2,e1];rfl
   have e3:opn X r=0:=by
    unfold opn;rw [List.countP_eq_zero];intro y hy;simp [(hr y hy).1]
   rw [cE,List.foldl_cons,e];unfold fI;rw [hp];simp only;rw [qG fun y hy=>(hr y hy).2,e3];exact iQ hl' (fun r hr=>h r (by simp [hr]))
structure Yx (LF:Nat→Nat) (l:List Pt) (X:List (Nat×Nat×Nat)):Prop where
 sorted:(cQ l).Pairwise (· < ·)
 here:∀ x∈X,x.1∈cQ l∧x.2.1∈cQ l∧x.1<x.2.1
 out:X.Pairwise Em.outside
 late:X.Pairwise later
 left:∀ p∈l,∀ r,p.run=some r→p.left=LF r+Em.used X r∧p.inn=none_
theorem kM (x:Nat×Nat×Nat) (X:List (Nat×Nat×Nat)) (i:Nat):Em.used (x::X) i=((if x.1=i then x.2.2 else 0)+if x.2.1=i then x.2.2 else 0)+Em.used X i:=by simp [Em.used]
theorem KE {X:List (Nat×Nat×Nat)}{r:Nat}(h:∀ y∈X,y.1≠r∧y.2.1≠r):Em.used X r=0:=by
 induction X with
 | nil=>rfl
 | cons x X ih=>rw [kM,if_neg (h x (by simp)).1,if_neg (h x (by simp)).2,ih fun y hy=>h y (by simp [hy])]
theorem MH {LF:Nat→Nat}{l:List Pt}{a b s:Nat}{X:List (Nat×Nat×Nat)}(h:Yx LF l ((a,b,s)::X)):Yx LF (bE l (a,b,s)) X∧∀ st,st≠[]→rC LF ((a,b,s)::X,st) l=rC LF (X,st) (bE l (a,b,s)):=by
 obtain ⟨ha,hb,hab⟩:=h.here (a,b,s) (by simp);simp only at ha hb hab;have ho:=List.pairwise_cons.1 h.out;have hlt:=List.pairwise_cons.1 h.late;have Vz:=CQ (s:=s) h.sorted ha hb hab;have hmid:∀ r,a<r→r<b→∀ y∈X,y.1≠r∧y.2.1≠r:=fun r h1 h2 y hy=>by
  have:=ho.1 y hy;unfold Em.outside at this;simp only at this;exact ⟨fun e=>this.1 (by omega),fun e=>this.2 (by omega)⟩
 obtain ⟨A,p,B,q,C,rfl,hp,hq,h1,h2,h3,h4,h5⟩:=jd h.sorted ha hb hab;have OW:∀ y∈X,b≤y.2.1:=fun y hy=>by have:=hlt.1 y hy;unfold later at this;exact this
 constructor
 ·refine ⟨Vz.1,fun x hx=>?_,ho.2,hlt.2,?_⟩
  ·have h6:=h.here x (by simp [hx])
   have h7:=ho.1 x hx;exact ⟨Vz.2 _ h6.1 h7.1,Vz.2 _ h6.2.1 h7.2,h6.2.2⟩
  ·rw [ey h1 h2]
   have old:∀ y∈A++p::(B++q::C),∀ r,y.run=some r→r≠a→r≠b→y.left=LF r+Em.used X r∧y.inn=none_:=fun y hy r hr n1 n2=>by
    have h6:=h.left y hy r hr;rw [kM,if_neg (Ne.symm n1),if_neg (Ne.symm n2),Nat.zero_add] at h6;exact h6
   intro x hx r hr;rcases List.mem_append.1 hx with hm | hm
   ·have h6:=h3 r (gy.2 ⟨x,hm,hr⟩)
    exact old x (by simp [hm]) r hr (by omega) (by omega)
   ·rcases List.mem_cons.1 hm with rfl | hm
    ·obtain rfl:a=r:=by simp only at hr;rw [hp] at hr;exact Option.some.inj hr
     have h6:=h.left p (by simp) a hp;rw [kM] at h6;simp only at h6 ⊢;rw [if_pos trivial,if_neg (by omega)] at h6;exact ⟨by omega,h6.2⟩
    ·rcases List.mem_cons.1 hm with rfl | hm
     ·simp at hr
     ·rcases List.mem_cons.1 hm with rfl | hm
      ·obtain rfl:b=r:=by simp only at hr;rw [hq] at hr;exact Option.some.inj hr
       have h6:=h.left q (by simp) b hq;rw [kM] at h6;simp only at h6 ⊢;rw [if_neg (by omega),if_pos trivial] at h6;exact ⟨by omega,h6.2⟩
      ·have h6:=h5 r (gy.2 ⟨x,hm,hr⟩)
       exact old x (by simp [hm]) r hr (by omega) (by omega)
 ·intro st hst
  rw [ey h1 h2,nC,nC];obtain ⟨s1,n1,e1,e2⟩:=pJ (LF:=LF) (x:=(a,b,s)) (X:=X) (A:=A) hst (fun r hr=>by
   have:=h3 r hr;refine ⟨by simp only;omega,fun y hy=>?_⟩;rcases List.mem_cons.1 hy with rfl | hy
   ·simp only;omega
   ·have:=OW y hy;omega)
  rw [e1,e2,cE,cE,cE,nC,cE,cE];have e3:fI LF ((a,b,s)::X,s1) p=((a,b,s)::X,[]::(List.replicate (opn X a) []++dD s1 (word (List.replicate (LF a) p.ch)))):=by
   unfold fI;rw [hp];simp only;rw [qG (fun y hy=>by
    rcases List.mem_cons.1 hy with rfl | hy
    ·simp only;omega
    ·have:=OW y hy;omega),vH,if_pos rfl,List.replicate_succ]
   rfl
  have e4:fI LF (X,s1) { p with left:=p.left-s }=(X,List.replicate (opn X a) []++dD s1 (word (List.replicate (LF a) p.ch))):=by
   unfold fI;simp only [hp];rw [qG (fun y hy=>by have:=OW y hy;omega)]
  rw [e3,e4];obtain ⟨T,hT⟩:∃ T,T=List.replicate (opn X a) ([]:List In)++dD s1 (word (List.replicate (LF a) p.ch)):=⟨_,rfl⟩
  have hTn:T≠[]:=by rw [hT];simp [rH n1]
  rw [← hT];have e5:rC LF ((a,b,s)::X,[]::T) B=((a,b,s)::X,settle B::T):=by
   refine iQ (fun y hy r hr=>?_) (fun r hr y hy=>?_)
   ·have h6:=h.left y (by simp [hy]) r hr
    have h7:=h4 r (gy.2 ⟨y,hy,hr⟩);rw [kM] at h6;simp only at h6;rw [if_neg (by omega),if_neg (by omega),KE (hmid r h7.1 h7.2)] at h6;exact ⟨by omega,h6.2⟩
   ·have h7:=h4 r hr
    rcases List.mem_cons.1 hy with rfl | hy
    ·simp only;omega
    ·exact hmid r h7.1 h7.2 y hy
  rw [e5];have e6:fI LF (X,T) ⟨.mk (if s=2 then 3 else 2) [] [] (settle B),none,0,0⟩=(X,dD T (.mk (kd s) [] [] (settle B))):=rfl;rw [e6];have e7:fI LF ((a,b,s)::X,settle B::T) q=fI LF (X,dD T (.mk (kd s) [] [] (settle B))) { q with left:=q.left-s }:=by
   unfold fI;simp only [hq];unfold ow;have e8:closeAll b ((a,b,s)::X) (settle B::T)=closeAll b X (dD T (.mk (kd s) [] [] (settle B))):=by
    conv=>lhs;unfold closeAll
    rw [if_pos rfl]
    rfl
   simp only [e8]
  rw [e7]
theorem Ew {LF:Nat→Nat}:∀ {X:List (Nat×Nat×Nat)}{l:List Pt},Yx LF l X→rC LF (X,[[]]) l=([],[settle (X.foldl bE l)])
 | [],l,h=>by
  have:=iQ (LF:=LF) (X:=[]) (T:=[]) (B:=l) (t:=[]) (fun p hp r hr=>by have:=h.left p hp r hr;simpa [Em.used] using this) (by simp);exact this
 | (a,b,s)::X,l,h=>by
  have:=MH h;rw [this.2 [[]] (by simp),Ew this.1]
  rfl
def V8 (t:List UInt8):Prop:=∃ V:List Nat,(∀ x∈V,Ru.vr x)∧t=Ru.enc V
theorem GG:V8 []:=⟨[],by simp,rfl⟩
theorem yL {a b:List UInt8}(ha:V8 a) (hb:V8 b):V8 (a++b):=by
 obtain ⟨A,h1,rfl⟩:=ha;obtain ⟨B,h2,rfl⟩:=hb;exact ⟨A++B,fun x hx=>(List.mem_append.1 hx).elim (h1 x) (h2 x),(Ru.wP A B).symm⟩
theorem CH {t:List UInt8}(h:V8 t):Ru.enc (Ru.aP t)=t:=by
 obtain ⟨V,h1,rfl⟩:=h;rw [Ru.yD h1]
theorem Pv {r:Nat}(h:Ru.vr r):V8 (encodeRune (r:Int)):=⟨[r],by simpa using h,by simp [Ru.enc]⟩
theorem OI {b:UInt8}(h:b.toNat<128) (n:Nat):V8 (List.replicate n b):=by
 induction n with
 | zero=>exact GG
 | succ n ih =>
  rw [List.replicate_succ];have:V8 [b]:=by
   have e:encodeRune ((b.toNat:Nat):Int)=[b]:=by
    unfold encodeRune;rw [encodeRuneZ_one (by omega) (by omega)];simp
   rw [← e];exact Pv (by unfold Ru.vr;omega)
  exact yL this ih
structure Rw where
 l:List In
 p:List UInt8
def Rw.full (R:Rw):List In:=R.l++if R.p=[] then [] else [word R.p]
def Rw.nil:Rw:=⟨[],[]⟩
structure Rw.ok (R:Rw):Prop where
 last:∀ o t d ks,R.l≠o++[.mk 0 t d ks]
 wd:∀ y∈R.l,Wd y
 v8:V8 R.p
 v8s:∀ t d ks,In.mk 0 t d ks∈R.l→V8 t
def Rw.say (R:Rw) (s:List UInt8):Rw:=⟨R.l,R.p++s⟩
def Rw.put (R:Rw) (x:In):Rw:=⟨R.full++[x],[]⟩
def Rw.step (R:Rw) (x:In):Rw :=
 match x with
 | .mk 0 t _ _=>R.say t
 | x=>R.put x
def Rw.join (R v:Rw):Rw:=(v.l.foldl Rw.step R).say v.p
theorem Rw.E5:Rw.nil.ok:=⟨fun o t d ks h=>by simp [Rw.nil] at h,by simp [Rw.nil],GG,by simp [Rw.nil]⟩
theorem Rw.Mi:Rw.nil.full=[]:=rfl
theorem Rw.rU (R:Rw) {k:Nat}(h:k≠0) (t d:List UInt8) (ks:List In):R.step (.mk k t d ks)=R.put (.mk k t d ks):=by
 unfold Rw.step
 split
 ·rename_i e;injection e with e;exact absurd e h
 ·rfl
section
variable {R v:Rw}
theorem Rw.qv (h:R.ok) (s:List UInt8):(R.say s).full=dj R.full (word s):=by
 unfold Rw.full Rw.say;simp only
 by_cases hs:s=[]
 ·subst hs
  rw [List.append_nil];exact (fq _ [] []).symm
 ·rw [if_neg (by simp [hs])]
  by_cases hp:R.p=[]
  ·rw [hp,if_pos rfl,List.append_nil,List.nil_append]
   rcases List.eq_nil_or_concat R.l with e | ⟨o,y,e⟩
   ·rw [e];exact (jn hs [] []).symm
   ·rw [e,List.concat_eq_append]
    obtain ⟨ky,t,d,ks⟩:=y;have hk:ky≠0:=fun hk=>by subst hk;exact h.last o t d ks (by rw [e,List.concat_eq_append])
    exact (jz o hs hk t d [] ks []).symm
  ·rw [if_neg hp]
   exact (fD R.l hs R.p [] [] [] []).symm
theorem Rw.xj (R:Rw) {k:Nat}(hk:k≠0) (t d:List UInt8) (ks:List In):(R.put (.mk k t d ks)).full=dj R.full (.mk k t d ks):=by
 rw [sB _ hk];unfold Rw.put Rw.full;simp
theorem Rw.SE (h:R.ok):∀ y∈R.full,Wd y:=by
 intro y hy;unfold Rw.full at hy;rcases List.mem_append.1 hy with hy | hy
 ·exact h.wd y hy
 ·split at hy
  ·cases hy
  ·obtain rfl:=List.mem_singleton.1 hy;exact uy _
theorem Rw.An (h:R.ok) {s:List UInt8}(hs:V8 s):(R.say s).ok:=⟨h.last,h.wd,yL h.v8 hs,h.v8s⟩
theorem Rw.GD (h:R.ok) {k:Nat}(hk:k≠0) (t d:List UInt8) (ks:List In):(R.put (.mk k t d ks)).ok:=by
 refine ⟨fun o t' d' ks' e=>?_,fun y hy=>?_,GG,fun t' d' ks' hm=>?_⟩
 ·have:=(List.append_inj' e rfl).2
  injection this with this;injection this with this;exact hk this
 ·rcases List.mem_append.1 hy with hy | hy
  ·exact Rw.SE h y hy
  ·obtain rfl:=List.mem_singleton.1 hy;exact H8 hk _ _ _
 ·rcases List.mem_append.1 hm with hm | hm
  ·unfold Rw.full at hm
   rcases List.mem_append.1 hm with hm | hm
   ·exact h.v8s _ _ _ hm
   ·split at hm
    ·cases hm
    ·have:=List.mem_singleton.1 hm
     unfold word at this;injection this with _ e;rw [e];exact h.v8
  ·have:=List.mem_singleton.1 hm
   injection this with e;exact absurd e.symm hk
theorem Rw.LY (h:R.ok) (x:In) (hx:Wd x) (hv:∀ t d ks,x=.mk 0 t d ks→V8 t):(R.step x).ok∧(R.step x).full=dj R.full x:=by
 obtain ⟨k,t,d,ks⟩:=x
 by_cases hk:k=0
 ·subst hk
  obtain ⟨rfl,rfl⟩:=hx t d ks rfl;exact ⟨Rw.An h (hv _ _ _ rfl),Rw.qv h t⟩
 ·rw [Rw.rU R hk]
  exact ⟨Rw.GD h hk t d ks,Rw.xj R hk t d ks⟩
theorem Rw.yV:∀ (F:List In) (R:Rw),R.ok→(∀ y∈F,Wd y)→(∀ t d ks,In.mk 0 t d ks∈F→V8 t)→(F.foldl Rw.step R).ok∧(F.foldl Rw.step R).full=jD R.full F
 | [],R,h,_,_=>⟨h,rfl⟩
 | x::F,R,h,hw,hv=>by
  obtain ⟨h1,h2⟩:=Rw.LY h x (hw x (by simp)) (fun t d ks e=>hv t d ks (by simp [e]));obtain ⟨h3,h4⟩:=Rw.yV F (R.step x) h1 (fun y hy=>hw y (by simp [hy])) (fun t d ks hm=>hv t d ks (by simp [hm]));exact ⟨h3,by rw [List.foldl_cons,h4,h2];rfl⟩
theorem Rw.CI (h:R.ok) (hv:v.ok):(R.join v).ok∧(R.join v).full=jD R.full v.full:=by
 obtain ⟨h1,h2⟩:=Rw.yV v.l R h hv.wd hv.v8s;refine ⟨Rw.An h1 hv.v8,?_⟩;unfold Rw.join;rw [Rw.qv h1,h2];obtain ⟨O,hO⟩:∃ O,O=R.full:=⟨_,rfl⟩
 rw [← hO];unfold Rw.full;rw [fL]
 by_cases e:v.p=[]
 ·rw [if_pos e,e]
  exact fq _ [] []
 ·rw [if_neg e];rfl
end
def Rw.wt (R:Rw):Nat:=R.l.length+R.p.length+eA R.l
theorem iS (a b:List In):eA (a++b)=eA a+eA b:=by simp [eA]
theorem Rw.rS (R:Rw) (s:List UInt8):(R.say s).wt=R.wt+s.length:=by
 unfold Rw.wt Rw.say;simp only [List.length_append];omega
theorem Rw.HA (R:Rw):R.full.length≤R.l.length+1∧eA R.full=eA R.l+R.p.length:=by
 unfold Rw.full
 split
 ·rename_i e;rw [e];simp
 ·rw [iS];simp [eA,word,eS]
theorem Rw.E7 (R:Rw) (x:In):(R.put x).wt≤R.wt+2+eS x:=by
 have:=R.HA;unfold Rw.wt Rw.put;simp only [List.length_append,List.length_singleton,List.length_nil];rw [iS];have e:eA [x]=eS x:=by simp [eA]
 omega
theorem Rw.SG (R:Rw) (x:In):(R.step x).wt≤R.wt+2+eS x:=by
 obtain ⟨k,t,d,ks⟩:=x
 by_cases hk:k=0
 ·subst hk;show (R.say t).wt≤_;rw [Rw.rS];simp only [eS];omega
 ·rw [Rw.rU R hk];exact Rw.E7 R _
theorem Rw.vX:∀ (F:List In) (R:Rw),(F.foldl Rw.step R).wt≤R.wt+2*F.length+eA F
 | [],R=>by simp [eA]
 | x::F,R=>by
  have h1:=Rw.vX F (R.step x);have h2:=Rw.SG R x;have h3:eA (x::F)=eS x+eA F:=by simp [eA]
  rw [List.foldl_cons,List.length_cons];omega
theorem Rw.RZ (R v:Rw):(R.join v).wt≤R.wt+2*v.wt:=by
 unfold Rw.join;rw [Rw.rS];have:=Rw.vX v.l R;unfold Rw.wt at this ⊢;omega
def gD (rs:List Rw):Nat:=(rs.map Rw.wt).sum
theorem eI (a b:List Rw):gD (a++b)=gD a+gD b:=by simp [gD]
theorem fV (R:Rw) (b:List Rw):gD (R::b)=R.wt+gD b:=by simp [gD]
theorem lQ:∀ {rs:List Rw}{R:Rw},R∈rs→R.wt≤gD rs
 | x::rs,R,h=>by
  rw [fV];rcases List.mem_cons.1 h with rfl | h
  ·omega
  ·have:=lQ h;omega
def aX {α:Type}(f:α→α):List α→List α
 | []=>[]
 | [x]=>[f x]
 | x::y::r=>x::aX f (y::r)
theorem bW {α:Type}(f:α→α):∀ (l:List α) (x:α),aX f (l++[x])=l++[f x]
 | [],x=>rfl
 | [y],x=>rfl
 | y::z::l,x=>by
  have:=bW f (z::l) x;show y::aX f ((z::l)++[x])=_;rw [this];rfl
theorem EK {α:Type}{f:α→α}{l:List α}(h:l≠[]):aX f l≠[]:=by
 rcases List.eq_nil_or_concat l with e | ⟨o,y,e⟩
 ·exact absurd e h
 ·rw [e,List.concat_eq_append,bW];simp
theorem kr {α:Type}(f:α→α) (l:List α):(aX f l).length=l.length:=by
 rcases List.eq_nil_or_concat l with e | ⟨o,y,e⟩
 ·rw [e];rfl
 ·rw [e,List.concat_eq_append,bW];simp
theorem K5 {α:Type}(f:α→α) {l:List α}{k:Nat}(hk:k+1=l.length) (h:k<l.length):aX f l=l.set k (f l[k]):=by
 rcases List.eq_nil_or_concat l with e | ⟨o,y,e⟩
 ·subst e;simp at h
 ·rw [List.concat_eq_append] at e
  subst e;have:k=o.length:=by simpa using hk
  subst this;rw [bW];simp
theorem rB {α β:Type}{f:α→α}{f':β→β}{g:α→β}{l:List α}(h:∀ x∈l,g (f x)=f' (g x)):(aX f l).map g=aX f' (l.map g):=by
 rcases List.eq_nil_or_concat l with e | ⟨o,y,e⟩
 ·rw [e];rfl
 ·rw [e,List.concat_eq_append] at h ⊢
  rw [bW,List.map_append,List.map_append,List.map_singleton,List.map_singleton,bW,h y (by simp)]
theorem nI {α:Type}{f:α→α}{P:α→Prop}{l:List α}(h:∀ x∈l,P x) (hf:∀ x,P x→P (f x)):∀ x∈aX f l,P x:=by
 rcases List.eq_nil_or_concat l with e | ⟨o,y,e⟩
 ·rw [e];intro x hx;cases hx
 ·rw [e,List.concat_eq_append] at h ⊢
  rw [bW];intro x hx;rcases List.mem_append.1 hx with hx | hx
  ·exact h x (by simp [hx])
  ·obtain rfl:=List.mem_singleton.1 hx;exact hf y (h y (by simp))
theorem tg {α:Type}(f g:α→α) (l:List α):aX f (aX g l)=aX (fun x=>f (g x)) l:=by
 rcases List.eq_nil_or_concat l with e | ⟨o,y,e⟩
 ·rw [e];rfl
 ·rw [e,List.concat_eq_append,bW,bW,bW]
theorem iX {f:Rw→Rw}{k:Nat}(hf:∀ R,(f R).wt≤R.wt+k) (rs:List Rw):gD (aX f rs)≤gD rs+k:=by
 rcases List.eq_nil_or_concat rs with e | ⟨o,y,e⟩
 ·rw [e];simp [aX,gD]
 ·rw [e,List.concat_eq_append,bW,eI,eI,fV,fV]
  have:=hf y;have:gD []=0:=rfl;omega
def eR:List Pt→List (List In)
 | []=>[[]]
 | p::l =>
  match p.run with
  | none=>(match eR l with | F::Fs=>(p.inn::F)::Fs | []=>[[p.inn]])
  | some _=>[]::eR l
theorem wE:∀ l,eR l≠[]
 | []=>by simp [eR]
 | p::l=>by
  unfold eR;cases p.run with
  | some r=>simp
  | none =>
   simp only
   split<;>simp
theorem zb:∀ (l:List Pt) (x:In) (n:Nat) (c:UInt8),eR (l++[⟨x,none,n,c⟩])=aX (fun F=>F++[x]) (eR l)
 | [],x,n,c=>rfl
 | p::l,x,n,c=>by
  have ih:=zb l x n c;rw [List.cons_append];unfold eR;rw [ih];have hne:=wE l;cases p.run with
  | some r =>
   simp only;cases hl:eR l with
   | nil=>exact absurd hl hne
   | cons F Fs=>rfl
  | none =>
   simp only;cases hl:eR l with
   | nil=>exact absurd hl hne
   | cons F Fs =>
    cases Fs with
    | nil=>rfl
    | cons G Gs=>rfl
theorem yM:∀ (l:List Pt) (x:In) (r n:Nat) (c:UInt8),eR (l++[⟨x,some r,n,c⟩])=eR l++[[]]
 | [],x,r,n,c=>rfl
 | p::l,x,r,n,c=>by
  have ih:=yM l x r n c;rw [List.cons_append];unfold eR;rw [ih];have hne:=wE l;cases p.run with
  | some r=>rfl
  | none =>
   simp only;cases hl:eR l with
   | nil=>exact absurd hl hne
   | cons F Fs=>rfl
def oG (l:List Pt):List (List In):=(eR l).map (jD [])
theorem nR (l:List Pt) (x:In) (n:Nat) (c:UInt8):oG (l++[⟨x,none,n,c⟩])=aX (fun F=>dj F x) (oG l):=by
 unfold oG;rw [zb];exact rB fun F _=>by rw [fL,mN]
theorem Jd (l:List Pt) (x:In) (r n:Nat) (c:UInt8):oG (l++[⟨x,some r,n,c⟩])=oG l++[[]]:=by
 unfold oG;rw [yM,List.map_append];rfl
theorem Hz {l:List Pt}(hw:∀ p∈l,Wd p.inn) (s:List UInt8):oG (eW l s)=aX (fun F=>dj F (word s)) (oG l):=by
 rcases cZ l s with ⟨l',t,d,k,n,c,rfl,h⟩ | h
 ·obtain ⟨rfl,rfl⟩:=hw ⟨.mk 0 t d k,none,n,c⟩ (by simp) t d k rfl
  rw [h,nR,nR,tg];congr 1
  funext F
  exact (CF F t s).symm
 ·rw [h,nR]
structure Rel (rs:List Rw) (st:Sc):Prop where
 rows:rs.map Rw.full=oG st.l
 ok:∀ R∈rs,R.ok
 wd:∀ p∈st.l,Wd p.inn
 runs:∀ p∈st.l,∀ r,p.run=some r→p.inn=none_∧p.ch=(Em.get st.runs r).ch
 len:rs.length=st.runs.length+1
theorem Kh:Rel [Rw.nil] ⟨[],[]⟩:=⟨rfl,by intro R hR;obtain rfl:=List.mem_singleton.1 hR;exact Rw.E5,by simp,by simp,rfl⟩
theorem Iu {rs:List Rw}{st:Sc}(h:Rel rs st) {s:List UInt8}(hs:V8 s):Rel (aX (fun R=>R.say s) rs) ⟨eW st.l s,st.runs⟩:=by
 refine ⟨?_,nI h.ok fun R hR=>Rw.An hR hs,?_,fun p hp r hr=>h.runs p (D2 hp hr) r hr,by rw [kr];exact h.len⟩
 ·rw [Hz h.wd,← h.rows]
  exact rB fun R hR=>Rw.qv (h.ok R hR) s
 ·intro p hp
  rcases cZ st.l s with ⟨l',t,d,k,n,c,e,e2⟩ | e
  ·simp only at hp
   rw [e2] at hp;rcases List.mem_append.1 hp with hp | hp
   ·exact h.wd p (by rw [e];simp [hp])
   ·obtain rfl:=List.mem_singleton.1 hp
    obtain ⟨rfl,rfl⟩:=h.wd ⟨.mk 0 t d k,none,n,c⟩ (by rw [e];simp) t d k rfl;exact uy _
  ·simp only at hp
   rw [e] at hp;rcases List.mem_append.1 hp with hp | hp
   ·exact h.wd p hp
   ·obtain rfl:=List.mem_singleton.1 hp;exact uy _
theorem R1 {rs:List Rw}{st:Sc}(h:Rel rs st) {k:Nat}(hk:k≠0) (t d:List UInt8) (ks:List In):Rel (aX (fun R=>R.put (.mk k t d ks)) rs) ⟨st.l++[⟨.mk k t d ks,none,0,0⟩],st.runs⟩:=by
 refine ⟨?_,nI h.ok fun R hR=>Rw.GD hR hk t d ks,?_,fun p hp r hr=>?_,by rw [kr];exact h.len⟩
 ·rw [nR,← h.rows]
  exact rB fun R _=>Rw.xj R hk t d ks
 ·intro p hp
  rcases List.mem_append.1 hp with hp | hp
  ·exact h.wd p hp
  ·obtain rfl:=List.mem_singleton.1 hp;exact H8 hk _ _ _
 ·rcases List.mem_append.1 hp with hp | hp
  ·exact h.runs p hp r hr
  ·obtain rfl:=List.mem_singleton.1 hp;cases hr
theorem SY {rs:List Rw}{st:Sc}(h:Rel rs st) (hr:cQ st.l=List.range st.runs.length) (x:Em.R):Rel (rs++[Rw.nil]) ⟨st.l++[⟨none_,some st.runs.length,x.n.toNat,x.ch⟩],st.runs++[x]⟩:=by
 refine ⟨?_,?_,?_,?_,by simp [h.len]⟩
 ·rw [Jd,← h.rows,List.map_append];rfl
 ·intro R hR
  rcases List.mem_append.1 hR with hR | hR
  ·exact h.ok R hR
  ·obtain rfl:=List.mem_singleton.1 hR;exact Rw.E5
 ·intro p hp
  rcases List.mem_append.1 hp with hp | hp
  ·exact h.wd p hp
  ·obtain rfl:=List.mem_singleton.1 hp
   intro t d ks e;unfold none_ at e;injection e with _ _ e1 e2;exact ⟨e1.symm,e2.symm⟩
 ·intro p hp r Tq
  rcases List.mem_append.1 hp with hp | hp
  ·have h1:=h.runs p hp r Tq
   have hm:r<st.runs.length:=by
    have:r∈cQ st.l:=gy.2 ⟨p,hp,Tq⟩;rw [hr] at this;exact List.mem_range.1 this
   refine ⟨h1.1,?_⟩;rw [h1.2,Em.get_at hm,Em.get_at (by simp;omega),List.getElem_append_left hm]
  ·obtain rfl:=List.mem_singleton.1 hp
   obtain rfl:st.runs.length=r:=Option.some.inj Tq;refine ⟨rfl,?_⟩;rw [Em.get_at (by simp)];simp
def gV (st:List (List In)) (F:List In):List (List In) :=
 match st with
 | []=>[]
 | t::r=>jD t F::r
def mP (LF:Nat→Nat) (ch:Nat→UInt8):Nat→List (List In)→Sk→Sk
 | _,[],S=>S
 | i,F::Fs,S=>mP LF ch (i+1) Fs ((ow LF i (ch i) S).1,gV (ow LF i (ch i) S).2 F)
theorem rE {LF:Nat→Nat}{ch:Nat→UInt8}:∀ (l:List Pt) (i n:Nat) (S:Sk),cQ l=List.range' i n→(∀ p∈l,∀ r,p.run=some r→p.ch=ch r) →
  ∃ F Fs,eR l=F::Fs∧rC LF S l=mP LF ch i Fs (S.1,gV S.2 F)
 | [],i,n,S,_,_=>⟨[],[],rfl,by
   have:gV S.2 []=S.2:=by unfold gV;cases S.2<;>rfl
   rw [this];rfl⟩
 | p::l,i,n,S,h,hc=>by
  have hc':∀ q∈l,∀ r,q.run=some r→q.ch=ch r:=fun q hq=>hc q (by simp [hq]);rw [fR] at h;cases hp:p.run with
  | none =>
   rw [hp] at h;obtain ⟨F,Fs,h1,h2⟩:=rE l i n (S.1,dD S.2 p.inn) h hc';refine ⟨p.inn::F,Fs,by unfold eR;rw [hp,h1],?_⟩;rw [cE];have e:fI LF S p=(S.1,dD S.2 p.inn):=by unfold fI;rw [hp]
   rw [e,h2];congr 2;unfold dD gV;cases S.2<;>rfl
  | some r =>
   rw [hp] at h;cases n with
   | zero=>simp at h
   | succ n =>
    rw [List.range'_succ] at h;injection h with hr h;subst hr;have e:fI LF S p=ow LF r (ch r) S:=by unfold fI;rw [hp,hc p (by simp) r hp]
    obtain ⟨F,Fs,h1,h2⟩:=rE l (r+1) n (ow LF r (ch r) S) (by simpa using h) hc';refine ⟨[],F::Fs,by unfold eR;rw [hp,h1],?_⟩;rw [cE,e,h2];have:gV S.2 []=S.2:=by unfold gV;cases S.2<;>rfl
    rw [this]
    rfl
theorem Na {l:List Pt}(hw:∀ p∈l,Wd p.inn):∀ F∈eR l,∀ y∈F,Wd y:=by
 induction l with
 | nil=>intro F hF;simp [eR] at hF;subst hF;simp
 | cons p l ih =>
  have ih':=ih fun q hq=>hw q (by simp [hq]);unfold eR;cases p.run with
  | some r =>
   intro F hF;rcases List.mem_cons.1 hF with rfl | hF
   ·simp
   ·exact ih' F hF
  | none =>
   simp only;cases hl:eR l with
   | nil=>exact absurd hl (wE l)
   | cons G Gs =>
    rw [hl] at ih';intro F hF y hy;rcases List.mem_cons.1 hF with rfl | hF
    ·rcases List.mem_cons.1 hy with rfl | hy
     ·exact hw p (by simp)
     ·exact ih' G (by simp) y hy
    ·exact ih' F (by simp [hF]) y hy
theorem xB {LF:Nat→Nat}{ch:Nat→UInt8}:∀ (Fs:List (List In)) (i:Nat) (S:Sk),(∀ F∈Fs,∀ y∈F,Wd y)→mP LF ch i (Fs.map (jD [])) S=mP LF ch i Fs S
 | [],_,_,_=>rfl
 | F::Fs,i,S,h=>by
  rw [List.map_cons];unfold mP;rw [xB Fs (i+1) _ fun G hG=>h G (by simp [hG])];congr 2;unfold gV;cases (ow LF i (ch i) S).2 with
  | nil=>rfl
  | cons t r=>simp only;rw [JT t F (h F (by simp))]
def pL (runs:List Em.R) (r:Nat):Nat:=cnt runs r-Em.used (Em.pairs runs) r
theorem JP {rs:List Rw}{st:Sc}{i:Nat}(h:Rel rs st) (hs:fh st i) :
  ∃ R Rs,rs=R::Rs∧mP (pL st.runs) (fun r=>(Em.get st.runs r).ch) 0 (Rs.map Rw.full) (Em.pairs st.runs,[R.full])=([],[dY st.l st.runs]):=by
 have hinv:=Em.oh st.runs;have hrd:=o9 hs;have hM:Yx (pL st.runs) st.l (Em.pairs st.runs):=by
  refine ⟨hrd.sorted,fun x hx=>?_,Em.oJ _,Ea _,fun p hp r hr=>?_⟩
  ·have:=hinv.good x hx
   exact ⟨hrd.all _ (by omega),hrd.all _ this.2.2.1,this.1⟩
  ·refine ⟨?_,(h.runs p hp r hr).1⟩
   rw [hrd.left p hp r hr];have hm:r<st.runs.length:=by
    have:r∈cQ st.l:=gy.2 ⟨p,hp,hr⟩;rw [hs.cQ] at this;exact List.mem_range.1 this
   have h1:=hinv.sum r hm;have h2:=(qD hrd.pos hm).1;have h3:Em.used (Em.pairs st.runs) r≤cnt st.runs r:=by unfold Em.pairs at *;omega
   unfold pL;omega
 have hm:=Ew hM;obtain ⟨F,Fs,h1,h2⟩:=rE (LF:=pL st.runs) (ch:=fun r=>(Em.get st.runs r).ch) st.l 0 st.runs.length (Em.pairs st.runs,[[]]) (by rw [hs.cQ,List.range_eq_range']) (fun p hp r hr=>(h.runs p hp r hr).2);have hw:=Na h.wd;rw [h1] at hw;have hr:=h.rows;unfold oG at hr;rw [h1,List.map_cons] at hr;cases rs with
 | nil=>simp at hr
 | cons R Rs =>
  rw [List.map_cons] at hr;injection hr with e1 e2;refine ⟨R,Rs,rfl,?_⟩;rw [e2,xB Fs 0 _ fun G hG=>hw G (by simp [hG]),e1];rw [h2] at hm;exact hm
end Go.Proofs.YtddkjkockbcamaaGreatDoor.Il
namespace Go.Proofs.YtddkjkockbcamaaGreatDoor
open Go.RowKit Go.Maps
inductive Pa
  | blk (g:Nat) (cs:Array Value) (t:TypeId)
  | row (e:TypeId) (size:Nat) (v:Value) (n:Nat) (xs:List Value)
  | map (g n:Nat) (D:DataW Unit)
def l5 (w:World) (g n:Nat) (D:DataW Unit):Prop:=w.ownsMap Tryz.prog 3 (plainElem Tryz.prog 3) g n D
def Pa.holds (w:World) (B:Nat):Pa→Prop
  | .blk g cs t=>B≤g∧w.heap[g]? = some (.cells cs t (0,0))
  | .row e size v n xs=>w.ownsRow B e size v n xs
  | .map g n D=>B≤g∧l5 w g n D
def Pa.block:Pa→Option Nat
  | .blk g _ _=>some g
  | .row _ _ v _ _=>v.ownBlock
  | .map g _ _=>some g
structure Hq {K:Type}(w:World) (B:Nat) (m:K→Option Pa):Prop where
  holds:∀ k a,m k=some a→a.holds w B
  apart:∀ k k' a a' g,m k=some a→m k'=some a'→a.block=some g→a'.block=some g→k=k'
theorem Pa.lt {w:World}{B:Nat}{a:Pa}(h:a.holds w B) {g:Nat}(hg:a.block=some g):B≤g∧g<w.heap.size:=by
  cases a with
  | blk g' cs t =>
    simp only [Pa.block,Option.some.injEq] at hg;subst hg;exact ⟨h.1,(Array.getElem?_eq_some_iff.1 h.2).1⟩
  | row e size v n xs=>exact World.ownsRow.lt (show w.ownsRow B e size v n xs from h) g hg
  | map g' n D =>
    simp only [Pa.block,Option.some.injEq] at hg;subst hg;exact ⟨h.1,World.ownsMap.lt h.2⟩
theorem Pa.kept {w w':World}{B:Nat}{a:Pa}(h:a.holds w B) {row:Option Nat}(hg:w.grownBy w' row) (hne:a.block=none∨a.block≠row):a.holds w' B:=by
  cases a with
  | blk g cs t =>
    refine ⟨h.1,?_⟩;rw [hg.block g (Array.getElem?_eq_some_iff.1 h.2).1 (by rcases hne with h | h;cases h;exact h)];exact h.2
  | row e size v n xs=>exact World.ownsRow.kept (show w.ownsRow B e size v n xs from h) hg hne
  | map g n D=>exact ⟨h.1,World.ownsMap.kept h.2 hg (by rcases hne with h | h;cases h;exact h)⟩
def Fr {K:Type}(w:World) (B:Nat) (m:K→Option Pa):Nat→Prop:=fun b=>B≤b∧b<w.heap.size∧∀ k a,m k=some a→a.block≠some b
structure bV {K K':Type}(B:Nat) (m:K→Option Pa) (w:World) (m':K'→Option Pa) (w':World):Prop where
  hp:Hq w' B m'
  bel:Below B w w'
  fre:∀ b,Fr w B m b→w'.heap[b]? = w.heap[b]? ∧ Fr w' B m' b
section
variable {K K' K'':Type}{w w' w'':World}{B:Nat}{m:K→Option Pa}{m':K'→Option Pa}{m'':K''→Option Pa}
theorem bV.trans (h:bV B m w m' w') (k:bV B m' w' m'' w''):bV B m w m'' w'' :=
  ⟨k.hp,h.bel.trans k.bel,fun b hb=>by
    obtain ⟨h1,h2⟩:=h.fre b hb;obtain ⟨h3,h4⟩:=k.fre b h2;exact ⟨h3.trans h1,h4⟩⟩
theorem Hq.refl (h:Hq w B m):bV B m w m w:=⟨h,Below.refl _ _,fun _ hb=>⟨rfl,hb⟩⟩
theorem bV.kids (h:bV B m w m' w') {ts:List Il.In}{css:List (List Value)}(k:gB w (Fr w B m) ts css):gB w' (Fr w' B m') ts css :=
  gP (fun b hb=>(h.fre b hb).1) (fun b hb=>(h.fre b hb).2) k
theorem bV.kid (h:bV B m w m' w') {t:Il.In}{cs:List Value}(k:IC w (Fr w B m) t cs):IC w' (Fr w' B m') t cs :=
  Cv (fun b hb=>(h.fre b hb).1) (fun b hb=>(h.fre b hb).2) k
theorem bV.gA (h:bV B m w m' w') {size n:Nat}{A:Option Addr}{xs:List Value}(k:eu w (Fr w B m) size A n xs):eu w' (Fr w' B m') size A n xs :=
  k.frame (fun b hb=>(h.fre b hb).1) (fun b hb=>(h.fre b hb).2)
theorem Hq.call (h:Hq w B m) (hB:B≤w.heap.size) (hb:Below w.heap.size w w'):bV B m w m w' :=
  ⟨⟨fun k a ha=>Pa.kept (h.holds k a ha) (JO hb (some w.heap.size)) (by
      cases Rc:a.block with
      | none=>exact .inl rfl
      | some g=>exact .inr fun e=>by have:=(Pa.lt (h.holds k a ha) Rc).2;injection e with e;omega),h.apart⟩,
    hb.mono hB,fun b hb'=>⟨hb.block b hb'.2.1,hb'.1,Nat.lt_of_lt_of_le hb'.2.1 hb.size,hb'.2.2⟩⟩
theorem Hq.new (h:Hq w B m) (hB:B≤w.heap.size) {b:Nat}(hb:w.heap.size≤b) (hb2:b<w'.heap.size):Fr w' B m b :=
  ⟨by omega,hb2,fun k a ha e=>by have:=(Pa.lt (h.holds k a ha) e).2;omega⟩
theorem Hq.MN (h:Hq w B m) (f:K'→K) (h1:∀ k a,m' k=some a→m (f k)=some a∨(a.block=none∧a.holds w B)) (h2:∀ k k' a a',m' k=some a→m' k'=some a'→a.block≠none→f k=f k'→k=k'):bV B m w m' w:=by
  refine ⟨⟨fun k a ha=>?_,fun k k' a a' g hk hk' hg hg'=>?_⟩,Below.refl _ _,fun b hb=>⟨rfl,hb.1,hb.2.1,fun k a ha=>?_⟩⟩
  · rcases h1 k a ha with e | e
    · exact h.holds _ _ e
    · exact e.2
  · rcases h1 k a hk with e | e
    · rcases h1 k' a' hk' with e' | e'
      · exact h2 k k' a a' hk hk' (by rw [hg];simp) (h.apart _ _ _ _ g e e' hg hg')
      · rw [e'.1] at hg';cases hg'
    · rw [e.1] at hg;cases hg
  · rcases h1 k a ha with e | e
    · exact hb.2.2 _ _ e
    · rw [e.1];simp
end
section
variable {K:Type} [DecidableEq K] {w w':World}{B:Nat}{m:K→Option Pa}
def uq (m:K→Option Pa) (k:K) (a:Pa):K→Option Pa:=fun j=>if j=k then some a else m j
theorem dO (m:K→Option Pa) (k:K) (a:Pa):uq m k a k=some a:=if_pos rfl
theorem aT (m:K→Option Pa) {k j:K}(a:Pa) (h:j≠k):uq m k a j=m j:=if_neg h
theorem vC (m:K→Option Pa) (k:K) (a b:Pa):uq (uq m k a) k b=uq m k b:=by
  funext j;unfold uq;split<;>rfl
theorem SM {m:K→Option Pa}{k:K}{a:Pa}(h:m k=some a):uq m k a=m:=by
  funext j;unfold uq;split
  · rename_i e;rw [e,h]
  · rfl
theorem lS (m:K→Option Pa) {k l:K}(h:k≠l) (a b:Pa):uq (uq m k a) l b=uq (uq m l b) k a:=by
  funext j;unfold uq
  by_cases h1:j=l
  · subst h1;rw [if_pos rfl,if_neg (Ne.symm h),if_pos rfl]
  · rw [if_neg h1,if_neg h1]
theorem Hq.ue (h:Hq w B m) {k:K}{a:Pa}(a':Pa) (hk:m k=some a) (hg:w.grownBy w' a.block) (ha:a'.holds w' B)
    (hat:∀ g,a'.block=some g→a.block=some g∨w.heap.size≤g) (hB:B≤w.heap.size):bV B m w (uq m k a') w':=by
  have pP:∀ b,b<B→w'.heap[b]? = w.heap[b]? := fun b hb=>hg.block b (by omega) (fun e=>by
    have:=(Pa.lt (h.holds k a hk) e.symm).1;omega)
  refine ⟨⟨fun j b hb=>?_,fun i j b c g hi hj uE Ca=>?_⟩,⟨hg.os,hg.tape,hg.output,hg.size,pP⟩,fun b hb=>⟨hg.block b hb.2.1 (fun e=>hb.2.2 k a hk e.symm),hb.1,Nat.lt_of_lt_of_le hb.2.1 hg.size,fun j c hc=>?_⟩⟩
  · by_cases hjk:j=k
    · subst hjk;rw [dO] at hb;cases hb;exact ha
    · rw [aT _ _ hjk] at hb
      refine Pa.kept (h.holds j b hb) hg ?_;cases Rc:b.block with
      | none=>exact .inl rfl
      | some g=>exact .inr fun he=>hjk (h.apart j k b a g hb hk Rc he.symm)
  · by_cases hik:i=k
    · by_cases hjk:j=k
      · rw [hik,hjk]
      · subst hik
        rw [dO] at hi;cases hi;rw [aT _ _ hjk] at hj;rcases hat g uE with h1 | h1
        · exact h.apart i j a c g hk hj h1 Ca
        · exact absurd (Pa.lt (h.holds j c hj) Ca).2 (by omega)
    · by_cases hjk:j=k
      · subst hjk
        rw [dO] at hj;cases hj;rw [aT _ _ hik] at hi;rcases hat g Ca with h1 | h1
        · exact h.apart i j b a g hi hk uE h1
        · exact absurd (Pa.lt (h.holds i b hi) uE).2 (by omega)
      · rw [aT _ _ hik] at hi;rw [aT _ _ hjk] at hj
        exact h.apart i j b c g hi hj uE Ca
  · by_cases hjk:j=k
    · subst hjk;rw [dO] at hc;cases hc
      intro e;rcases hat b e with h1 | h1
      · exact hb.2.2 _ a hk h1
      · have:=hb.2.1;omega
    · rw [aT _ _ hjk] at hc;exact hb.2.2 j c hc
theorem Hq.CP (h:Hq w B m) {k:K}(a':Pa) (hk:m k=none) (hb:Below w.heap.size w w') (ha:a'.holds w' B)
    (hat:∀ g,a'.block=some g→w.heap.size≤g) (hB:B≤w.heap.size):bV B m w (uq m k a') w':=by
  have h':=(h.call hB hb).hp;refine ⟨⟨fun j b hb=>?_,fun i j b c g hi hj uE Ca=>?_⟩,hb.mono hB,fun b hb'=>⟨hb.block b hb'.2.1,hb'.1,Nat.lt_of_lt_of_le hb'.2.1 hb.size,fun j c hc=>?_⟩⟩
  · by_cases hjk:j=k
    · subst hjk;rw [dO] at hb;cases hb;exact ha
    · rw [aT _ _ hjk] at hb;exact h'.holds j b hb
  · by_cases hik:i=k
    · by_cases hjk:j=k
      · rw [hik,hjk]
      · subst hik
        rw [dO] at hi;cases hi;rw [aT _ _ hjk] at hj;exact absurd (Pa.lt (h.holds j c hj) Ca).2 (by have:=hat g uE;omega)
    · by_cases hjk:j=k
      · subst hjk
        rw [dO] at hj;cases hj;rw [aT _ _ hik] at hi;exact absurd (Pa.lt (h.holds i b hi) uE).2 (by have:=hat g Ca;omega)
      · rw [aT _ _ hik] at hi;rw [aT _ _ hjk] at hj
        exact h.apart i j b c g hi hj uE Ca
  · by_cases hjk:j=k
    · subst hjk;rw [dO] at hc;cases hc
      intro e;have:=hat b e;have:=hb'.2.1;omega
    · rw [aT _ _ hjk] at hc;exact hb'.2.2 j c hc
end
structure Cn (g o:Nat) (C:Value→Value→Pa):Prop where
  block:∀ a b,(C a b).block=some g
  read:∀ {w B a b},(C a b).holds w B→w.cell? ⟨g,o,none⟩=some a∧w.cell? ⟨g,o+1,none⟩=some b∧∀ j,w.frozen? ⟨g,j,none⟩=false
  set0:∀ {w B a b} u,(C a b).holds w B→(C u b).holds (w.setCell ⟨g,o,none⟩ u) B
  F6:∀ {w B a b} u,(C a b).holds w B→(C a u).holds (w.setCell ⟨g,o+1,none⟩ u) B
theorem MG (g:Nat) (t:TypeId):Cn g 0 (fun a b=>.blk g #[a,b] t) :=
  ⟨fun _ _=>rfl,fun h=>⟨ah h.2 0,ah h.2 1,aW h.2⟩,
   fun {w _ a b} u h=>⟨h.1,heap_setCell_same w g 0 #[a,b] t u h.2⟩,fun {w _ a b} u h=>⟨h.1,heap_setCell_same w g 1 #[a,b] t u h.2⟩⟩
theorem VV (e:TypeId) (g n c:Nat) (pre suf:List Value) {o:Nat}(ho:pre.length=o):Cn g o (fun a b=>.row e 2 (.slice (some ⟨g,0,none⟩) n c) n (pre++a::b::suf)):=by
  subst ho;refine ⟨fun _ _=>rfl,fun {w B a b} h=>?_,fun {w B a b} u h=>?_,fun {w B a b} u h=>?_⟩
  · have h:w.ownsRow B e 2 (.slice (some ⟨g,0,none⟩) n c) n (pre++a::b::suf):=h
    exact ⟨aK h (by simp),aK h (by simp),fun j=>World.ownsRow.frozenAt h j⟩
  · have h:w.ownsRow B e 2 (.slice (some ⟨g,0,none⟩) n c) n (pre++a::b::suf):=h
    have:=(World.ownsRow.stored h pre.length u).1;show World.ownsRow _ _ _ _ _ _ _;simpa using this
  · have h:w.ownsRow B e 2 (.slice (some ⟨g,0,none⟩) n c) n (pre++a::b::suf):=h
    have:=(World.ownsRow.stored h (pre.length+1) u).1;rw [List.set_append_right _ _ (by omega),show pre.length+1-pre.length=1 by omega] at this;exact this
abbrev Ky:=Nat×Nat
structure Ks where
  g:Ky
  i:Ky
  p:Ky
structure Ks.ok (k:Ks):Prop where
  gi:k.i≠k.g
  gp:k.p≠k.g
  ip:k.p≠k.i
def kX (R:Il.Rw) (v:Value) (css:List (List Value)):Pa:=.row 35 4 v R.l.length css.flatten
def mA (R:Il.Rw) (v:Value):Pa:=.row 5 1 v R.p.length (aj R.p)
def aN (m:Ky→Option Pa) (k:Ks) (C:Value→Value→Pa) (R:Il.Rw) (vi vp:Value) (css:List (List Value)):Ky→Option Pa:=uq (uq (uq m k.g (C vi vp)) k.i (kX R vi css)) k.p (mA R vp)
section
variable {m:Ky→Option Pa}{k:Ks}{C:Value→Value→Pa}{R:Il.Rw}{vi vp:Value}{css:List (List Value)}{w w':World}{B g o:Nat}
theorem l6 (hk:k.ok):aN m k C R vi vp css k.g=some (C vi vp):=by
  unfold aN;rw [aT _ _ (Ne.symm hk.gp),aT _ _ (Ne.symm hk.gi),dO]
theorem gS (hk:k.ok):aN m k C R vi vp css k.i=some (kX R vi css):=by
  unfold aN;rw [aT _ _ (Ne.symm hk.ip),dO]
theorem vT:aN m k C R vi vp css k.p=some (mA R vp):=by unfold aN;rw [dO]
theorem G3 {j:Ky}(h1:j≠k.g) (h2:j≠k.i) (h3:j≠k.p):aN m k C R vi vp css j=m j:=by
  unfold aN;rw [aT _ _ h3,aT _ _ h2,aT _ _ h1]
theorem eE (hk:k.ok) (hC:Cn g o C) (h:Hq w B (aN m k C R vi vp css)) :
    w.cell? ⟨g,o,none⟩=some vi∧w.cell? ⟨g,o+1,none⟩=some vp∧(∀ j,w.frozen? ⟨g,j,none⟩=false)∧B≤g∧g<w.heap.size∧w.ownsRow B 35 4 vi R.l.length css.flatten∧w.ownsRow B 5 1 vp R.p.length (aj R.p)∧vi.ownBlock≠some g∧vp.ownBlock≠some g:=by
  have hg:=h.holds _ _ (l6 hk);obtain ⟨h1,h2,h3⟩:=hC.read hg;have h4:=Pa.lt hg (hC.block _ _);refine ⟨h1,h2,h3,h4.1,h4.2,h.holds _ _ (gS hk),h.holds _ _ vT,fun e=>?_,fun e=>?_⟩
  · exact hk.gi (h.apart _ _ _ _ g (gS hk) (l6 hk) e (hC.block _ _))
  · exact hk.gp (h.apart _ _ _ _ g vT (l6 hk) e (hC.block _ _))
theorem iW (hk:k.ok) (hC:Cn g o C) (h:Hq w B (aN m k C R vi vp css)) {row:Option Nat}(hg:w.grownBy w' row) (hne:row≠some g) :
    w'.cell? ⟨g,o,none⟩=some vi∧w'.cell? ⟨g,o+1,none⟩=some vp∧(∀ j,w'.frozen? ⟨g,j,none⟩=false)∧g<w'.heap.size:=by
  have hh:=Pa.kept (h.holds _ _ (l6 hk)) hg (.inr (by rw [hC.block];exact fun e=>hne e.symm));obtain ⟨h1,h2,h3⟩:=hC.read hh;exact ⟨h1,h2,h3,(Pa.lt hh (hC.block _ _)).2⟩
theorem wY (hk:k.ok) (hC:Cn g o C) (h:Hq w B (aN m k C R vi vp css)) (hB:B≤w.heap.size) {R':Il.Rw}{vp':Value}(hl:R'.l=R.l) (hg:w.grownBy w' vp.ownBlock) (ho:w'.ownsRow B 5 1 vp' R'.p.length (aj R'.p)) (hat:At w.heap.size vp vp') :
    bV B (aN m k C R vi vp css) w (aN m k C R' vi vp' css) (w'.setCell ⟨g,o+1,none⟩ vp'):=by
  have t1:=h.ue (k:=k.p) (mA R' vp') vT hg ho hat hB;have e0:uq (aN m k C R vi vp css) k.p (mA R' vp') k.g=some (C vi vp):=by rw [aT _ _ (Ne.symm hk.gp),l6 hk]
  have t2:=t1.hp.ue (k:=k.g) (w':=w'.setCell ⟨g,o+1,none⟩ vp') (C vi vp') e0 (by rw [hC.block];exact ax w' ⟨g,o+1,none⟩ vp') (hC.F6 vp' (t1.hp.holds _ _ e0)) (fun g' hg'=>.inl (by rw [hC.block] at hg' ⊢;exact hg')) (Nat.le_trans hB t1.bel.size);have t:=t1.trans t2;have e:uq (uq (aN m k C R vi vp css) k.p (mA R' vp')) k.g (C vi vp')=aN m k C R' vi vp' css:=by
    have:kX R' vi css=kX R vi css:=by unfold kX;rw [hl]
    unfold aN;rw [this,vC,lS _ hk.gp,lS (uq m k.g (C vi vp)) hk.gi,vC]
  rwa [e] at t
theorem mE (hk:k.ok) (hC:Cn g o C) (h:Hq w B (aN m k C R vi vp css)) (hB:B≤w.heap.size) {R':Il.Rw}{vi':Value}{css':List (List Value)}(hp:R'.p=R.p) (hg:w.grownBy w' vi.ownBlock) (ho:w'.ownsRow B 35 4 vi' R'.l.length css'.flatten) (hat:At w.heap.size vi vi') :
    bV B (aN m k C R vi vp css) w (aN m k C R' vi' vp css') (w'.setCell ⟨g,o,none⟩ vi'):=by
  have t1:=h.ue (k:=k.i) (kX R' vi' css') (gS hk) hg ho hat hB;have e0:uq (aN m k C R vi vp css) k.i (kX R' vi' css') k.g=some (C vi vp):=by rw [aT _ _ (Ne.symm hk.gi),l6 hk]
  have t2:=t1.hp.ue (k:=k.g) (w':=w'.setCell ⟨g,o,none⟩ vi') (C vi' vp) e0 (by rw [hC.block];exact ax w' ⟨g,o,none⟩ vi') (hC.set0 vi' (t1.hp.holds _ _ e0)) (fun g' hg'=>.inl (by rw [hC.block] at hg' ⊢;exact hg')) (Nat.le_trans hB t1.bel.size);have t:=t1.trans t2;have e:uq (uq (aN m k C R vi vp css) k.i (kX R' vi' css')) k.g (C vi' vp)=aN m k C R' vi' vp css':=by
    have:mA R' vp=mA R vp:=by unfold mA;rw [hp]
    unfold aN;rw [this,lS _ hk.ip,vC,lS _ hk.gp,lS (uq m k.g (C vi vp)) hk.gi,vC]
  rwa [e] at t
end
end Go.Proofs.YtddkjkockbcamaaGreatDoor
namespace Go.Proofs.YtddkjkockbcamaaGreatDoor
open Go.RowKit
theorem kR:EI Tryz.prog 27 5 1 1:=EI.mk' (z:=.int .u8 0) Tryz.underlying27 (by kernel_rfl) rfl (by omega)
def jO (B:Nat) (v:Value) (n:Nat) (xs:List Value) (cs:List Value) (w:World) (e:Ending) (w':World):Prop :=
 ∃ v',e=.returned v'∧w'.ownsRow B 5 1 v' (n+cs.length) (xs++cs)∧w.grownBy w' v.ownBlock∧At w.heap.size v v'∧Below B w w'
section
variable (B:Nat) (v:Value) (n:Nat) (xs:List Value) (r:Int) (w:World) (hown:w.ownsRow B 5 1 v n xs) (hlen:n≤100000000000) (hBw:B≤w.heap.size)
include hown hlen hBw in
theorem Q4 (h0:128≤r) (h1:r≤2047):Calls Tryz.prog 169 #[v,.int .i32 r] w fun e w'=>jO B v n xs [.int .u8 (192+r / 64),.int .u8 (128+r%64)] w e w':=by
 go_enter Tryz.func169,Tryz.ntmps169;go_wp2_with (at_builtin;refine bw rfl (.tmp 14) (.tmp 23) rfl kR rfl hown rfl rfl rfl (by intro u hu;simp at hu;rcases hu with rfl | rfl<;>rfl) (by omega) (by omega) hBw ?_;intro v' w2 ho hg hb hat);go_ret;exact ⟨_,rfl,ho,hg.out,hat.out,hb⟩
include hown hlen hBw in
theorem Vk (h0:2048≤r) (h1:r<55296):Calls Tryz.prog 169 #[v,.int .i32 r] w fun e w'=>jO B v n xs [.int .u8 (224+r / 4096),.int .u8 (128+r / 64%64),.int .u8 (128+r%64)] w e w':=by
 go_enter Tryz.func169,Tryz.ntmps169;go_wp2_with (at_builtin;refine bw rfl (.tmp 34) (.tmp 48) rfl kR rfl hown rfl rfl rfl (by intro u hu;simp at hu;rcases hu with rfl | rfl | rfl<;>rfl) (by omega) (by omega) hBw ?_;intro v' w2 ho hg hb hat);go_ret;exact ⟨_,rfl,ho,hg.out,hat.out,hb⟩
include hown hlen hBw in
theorem TX (h0:57343<r) (h1:r≤65535):Calls Tryz.prog 169 #[v,.int .i32 r] w fun e w'=>jO B v n xs [.int .u8 (224+r / 4096),.int .u8 (128+r / 64%64),.int .u8 (128+r%64)] w e w':=by
 go_enter Tryz.func169,Tryz.ntmps169;go_wp2_with (at_builtin;refine bw rfl (.tmp 34) (.tmp 48) rfl kR rfl hown rfl rfl rfl (by intro u hu;simp at hu;rcases hu with rfl | rfl | rfl<;>rfl) (by omega) (by omega) hBw ?_;intro v' w2 ho hg hb hat);go_ret;exact ⟨_,rfl,ho,hg.out,hat.out,hb⟩
include hown hlen hBw in
theorem Px (h0:65536≤r) (h1:r≤1114111):Calls Tryz.prog 169 #[v,.int .i32 r] w fun e w'=>jO B v n xs [.int .u8 (240+r / 262144),.int .u8 (128+r / 4096%64),.int .u8 (128+r / 64%64),.int .u8 (128+r%64)] w e w':=by
 go_enter Tryz.func169,Tryz.ntmps169;go_wp2_with (at_builtin;refine bw rfl (.tmp 57) (.tmp 76) rfl kR rfl hown rfl rfl rfl (by intro u hu;simp at hu;rcases hu with rfl | rfl | rfl | rfl<;>rfl) (by omega) (by omega) hBw ?_;intro v' w2 ho hg hb hat);go_ret;exact ⟨_,rfl,ho,hg.out,hat.out,hb⟩
include hown hlen hBw in
theorem RA (h0:0≤r) (h1:r≤127):Calls Tryz.prog 126 #[v,.int .i32 r] w fun e w'=>jO B v n xs [.int .u8 r] w e w':=by
 go_enter Tryz.func126,Tryz.ntmps126;go_wp2_with (at_builtin;refine bw rfl (.tmp 8) (.tmp 11) rfl kR rfl hown rfl rfl rfl (by intro u hu;simp at hu;rcases hu with rfl;rfl) (by omega) (by omega) hBw ?_;intro v' w2 ho hg hb hat);go_ret;exact ⟨_,rfl,ho,hg.out,hat.out,hb⟩
theorem nM (cs:List Value) (h0:128≤r) (h1:r≤1114111) (hc:∀ w1,w1.ownsRow B 5 1 v n xs→B≤w1.heap.size→Calls Tryz.prog 169 #[v,.int .i32 r] w1 fun e w'=>jO B v n xs cs w1 e w') (hown:w.ownsRow B 5 1 v n xs) (hBw:B≤w.heap.size):Calls Tryz.prog 126 #[v,.int .i32 r] w fun e w'=>jO B v n xs cs w e w':=by
 go_enter Tryz.func126,Tryz.ntmps126;go_wp2_with fail;refine (hc _ hown hBw).mono ?_;rintro e w1 ⟨v',rfl,h1,h2,h3,h4⟩;replace h1:=Lib.hid h1;replace h2:=Lib.hid h2;replace h3:=Lib.hid h3;replace h4:=Lib.hid h4;go_wp2_with fail;go_ret;exact ⟨_,rfl,h1.out,h2.out,h3.out,h4.out⟩
end
theorem Rb (B:Nat) (v:Value) (l:List UInt8) (r:Nat) (hr:Ru.vr r) (w:World) (hown:w.ownsRow B 5 1 v l.length (aj l)) (hlen:l.length≤100000000000) (hBw:B≤w.heap.size) :
  Calls Tryz.prog 126 #[v,.int .i32 (r:Int)] w fun e w'=>∃ v',e=.returned v'∧w'.ownsRow B 5 1 v' (l++Lib.encodeRune (r:Int)).length (aj (l++Lib.encodeRune (r:Int)))∧w.grownBy w' v.ownBlock∧At w.heap.size v v'∧Below B w w':=by
 have key:Calls Tryz.prog 126 #[v,.int .i32 (r:Int)] w fun e w'=>jO B v l.length (aj l) (Lib.runeCells (r:Int)) w e w':=by
  unfold Ru.vr at hr
  by_cases c0:r≤127
  ·rw [show Lib.runeCells (r:Int)=[.int .u8 (r:Int)] by simp [Lib.runeCells,Lib.encodeRuneZ_one (r:=(r:Int)) (by omega) (by omega)]]
   exact RA B v _ _ r w hown hlen hBw (by omega) (by omega)
  by_cases c1:r≤2047
  ·rw [show Lib.runeCells (r:Int)=[.int .u8 (192+(r:Int) / 64),.int .u8 (128+(r:Int)%64)] by simp [Lib.runeCells,Lib.encodeRuneZ_two (r:=(r:Int)) (by omega) (by omega)]]
   exact nM B v _ _ r w _ (by omega) (by omega) (fun w1 h1 h2=>Q4 B v _ _ r w1 h1 hlen h2 (by omega) (by omega)) hown hBw
  by_cases c2:r<55296
  ·rw [show Lib.runeCells (r:Int)=[.int .u8 (224+(r:Int) / 4096),.int .u8 (128+(r:Int) / 64%64),.int .u8 (128+(r:Int)%64)] by simp [Lib.runeCells,Lib.encodeRuneZ_three (r:=(r:Int)) (Or.inl ⟨by omega,by omega⟩)]]
   exact nM B v _ _ r w _ (by omega) (by omega) (fun w1 h1 h2=>Vk B v _ _ r w1 h1 hlen h2 (by omega) (by omega)) hown hBw
  by_cases c4:r≤65535
  ·rw [show Lib.runeCells (r:Int)=[.int .u8 (224+(r:Int) / 4096),.int .u8 (128+(r:Int) / 64%64),.int .u8 (128+(r:Int)%64)] by simp [Lib.runeCells,Lib.encodeRuneZ_three (r:=(r:Int)) (Or.inr ⟨by omega,by omega⟩)]]
   exact nM B v _ _ r w _ (by omega) (by omega) (fun w1 h1 h2=>TX B v _ _ r w1 h1 hlen h2 (by omega) (by omega)) hown hBw
  ·rw [show Lib.runeCells (r:Int)=[.int .u8 (240+(r:Int) / 262144),.int .u8 (128+(r:Int) / 4096%64),.int .u8 (128+(r:Int) / 64%64),.int .u8 (128+(r:Int)%64)] by simp [Lib.runeCells,Lib.encodeRuneZ_four (r:=(r:Int)) (by omega) (by omega)]]
   exact nM B v _ _ r w _ (by omega) (by omega) (fun w1 h1 h2=>Px B v _ _ r w1 h1 hlen h2 (by omega) (by omega)) hown hBw
 refine key.mono ?_;rintro e w' ⟨v',he,h1,h2,h3,h4⟩;refine ⟨v',he,?_,h2,h3,h4⟩;have e1:aj (l++Lib.encodeRune (r:Int))=aj l++Lib.runeCells (r:Int):=by
  rw [show Lib.runeCells (r:Int)=aj (Lib.encodeRune (r:Int)) from (Lib.byteCells_encodeRune _).symm];simp [aj]
 rw [e1,List.length_append,← Lib.runeCells_length];exact h1
theorem gT (g n c:Nat) (hn:0<n) (hn2:n≤1000000000000) (w:World):Calls Tryz.prog 197 #[.slice (some ⟨g,0,none⟩) n c] w fun e w'=>e=.returned (.pointer (some ⟨g,(n-1)*2,none⟩))∧w'=w:=by
 obtain ⟨k,rfl⟩:∃ k,n=k+1:=⟨n-1,by omega⟩
 have h1:((k+1:Nat):Int)-1=(k:Int):=by omega
 go_enter Tryz.func197,Tryz.ntmps197;go_wp2_with fail;go_ret;exact ⟨by simp,rfl⟩
section
variable {m:Ky→Option Pa}{k:Ks}{C:Value→Value→Pa}{R:Il.Rw}{vi vp:Value}{css:List (List Value)}{w:World}{B g o:Nat}
theorem iO (hk:k.ok) (hC:Cn g o C) (h:Hq w B (aN m k C R vi vp css)) (hB:B≤w.heap.size) (r:Nat) (hr:Ru.vr r) (hl:R.p.length≤100000000000) :
  Calls Tryz.prog 205 #[.pointer (some ⟨g,o,none⟩),.int .i32 (r:Int)] w fun e w'=>e=.returned (.tuple #[])∧∃ vp',bV B (aN m k C R vi vp css) w (aN m k C (R.say (Lib.encodeRune (r:Int))) vi vp' css) w':=by
 obtain ⟨c0,c1,cf,hBg,F4,oi,op,nei,nep⟩:=eE hk hC h;have hst:=Lib.hid (fun (w':World) (hg:w.grownBy w' vp.ownBlock)=>iW hk hC h hg nep);have aL:=Lib.hid (fun (w':World) (vp':Value) ho hg hat=>wY (w':=w') (R':=R.say (Lib.encodeRune (r:Int))) (vp':=vp') hk hC h hB rfl hg ho hat);have hc:=Lib.hid (Rb B vp R.p r hr w op hl hB);obtain ⟨A,c,rfl,hc3⟩:=ak op;clear h oi op nei nep c0;go_enter Tryz.func205,Tryz.ntmps205;go_wp2_with fail;refine hc.out.mono ?_;rintro e w1 ⟨v',rfl,h1,h2,h3,h4⟩;obtain ⟨d0,d1,df,adz⟩:=hst.out _ h2;have WR:=Lib.hid (aL.out _ v' h1 h2 h3);obtain ⟨A1,c1',rfl,_⟩:=ak h1;clear h1 h2 h3 h4 d0 hst aL hc;generalize (R.p++Lib.encodeRune (r:Int)).length=n1 at *;go_wp2_with fail;go_returns;exact ⟨rfl,_,WR.out⟩
end
theorem bg {P:Program}{ops:Array Oper}{Q:Exit→Act→World→Prop}{S:World→Prop}{i:Nat}{r:OT}{a:Act}{w w':World}{o:Oper}(ho:ops[i]? = some o) (hw:Region.wanted o (yielded ops a.tmps)=true)
  (hrun:(execOp a.eval o).run P w=.ok .skip w') (hS:S w') (h:th P ops Q r S (a.put o.dst undef) w'):th P ops Q (.mk i r) S a w :=
 ⟨o,ho,by
  unfold aD;rw [if_pos hw,if_neg (by simp)];unfold Oper.wp;rw [hrun];exact ⟨S,hS,fun _ h=>h,h⟩⟩
def lC (w:World) (g o:Nat) (a b c d:Value):World:=(((w.setCell ⟨g,o,none⟩ a).setCell ⟨g,o+1,none⟩ b).setCell ⟨g,o+2,none⟩ c).setCell ⟨g,o+3,none⟩ d
theorem jS {P:Program}{ev:Operand→Value}{T:TypeId}{p x:Operand}{o:Oper}{w:World}{g off:Nat}{k:Int}{s t:ByteArray}{A:Option Addr}{n c:Nat}{z0 z1 z2 z3:Value}(ho:o.op=.store T p x) (hsz:(sizeOf T).run P w=.ok 4 w) (hp:ev p=.pointer (some ⟨g,off,none⟩)) (hx:ev x=.agg #[.int .i64 k,.string s,.string t,.slice A n c])
  (h0:w.cell? ⟨g,off,none⟩=some z0) (h1:w.cell? ⟨g,off+1,none⟩=some z1) (h2:w.cell? ⟨g,off+2,none⟩=some z2) (h3:w.cell? ⟨g,off+3,none⟩=some z3) (hf:∀ j,w.frozen? ⟨g,j,none⟩=false) :
  (execOp ev o).run P w=.ok .skip (lC w g off (.int .i64 k) (.string s) (.string t) (.slice A n c)):=by
 unfold execOp lC;rw [ho];go_simp
theorem eD {P:Program}{ev:Operand→Value}{T:TypeId}{p x:Operand}{o:Oper}{w:World}{g off:Nat}{A:Option Addr}{n c:Nat}{z0:Value}(ho:o.op=.store T p x) (hsz:(sizeOf T).run P w=.ok 1 w) (hp:ev p=.pointer (some ⟨g,off,none⟩)) (hx:ev x=.slice A n c)
  (h0:w.cell? ⟨g,off,none⟩=some z0) (hf:∀ j,w.frozen? ⟨g,j,none⟩=false) :
  (execOp ev o).run P w=.ok .skip (w.setCell ⟨g,off,none⟩ (.slice A n c)):=by
 unfold execOp;rw [ho];go_simp
end Go.Proofs.YtddkjkockbcamaaGreatDoor
namespace Go.Proofs.YtddkjkockbcamaaGreatDoor
open Go.RowKit
attribute [local go_sem] aD av aq
theorem fT {w:World}{B size n:Nat}{E:TypeId}{v:Value}{xs:List Value}(h:w.ownsRow B E size v n xs) (hn:0<n):∃ g c,v=.slice (some ⟨g,0,none⟩) n c∧n≤c∧B≤g∧g<w.heap.size:=by
 rcases h.2 with ⟨_,h0⟩ | ⟨g,c,cur,rfl,hB,hg,hc,_⟩
 ·omega
 ·exact ⟨g,c,rfl,hc,hB,(Array.getElem?_eq_some_iff.1 hg).1⟩
theorem Bt {v:Value}{x:Option Nat}(h:∀ b,v.ownBlock=some b→some b≠x):v.ownBlock=none∨v.ownBlock≠x:=by
 cases hb:v.ownBlock with
 | none=>exact .inl rfl
 | some b=>exact .inr (h b hb)
theorem fK {w w':World}{g:Nat}(h:w'.heap[g]? = w.heap[g]?) (j:Nat) {v:Value}(hc:w.cell? ⟨g,j,none⟩=some v):w'.cell? ⟨g,j,none⟩=some v:=by
 rw [World.cell?_of_block (a:=⟨g,j,none⟩) h];exact hc
theorem Eg {w w':World}{g:Nat}(h:w'.heap[g]? = w.heap[g]?) (hf:∀ j,w.frozen? ⟨g,j,none⟩=false) (j:Nat):w'.frozen? ⟨g,j,none⟩=false:=by
 rw [World.frozen?_of_block (a:=⟨g,j,none⟩) h];exact hf j
theorem grown_drew {w w':World}{r:Option Nat}(h:w.drew.grownBy w' r):w.grownBy w' r:=⟨h.os,h.tape,h.output,h.size,h.block⟩
theorem lV {P:Program}{ops:Array Oper}{Q:Exit→Act→World→Prop}{S:World→Prop}{i:Nat}{r:OT}{a:Act}{w:World}{o:Oper}(ho:ops[i]? = some o) (hg:o.guard=none) (s x:Operand) {T:TypeId}
  (hop:o.op=.call { callee:=.builtin .append,args:=#[s,x],argTypes:=#[T,T] })
  {E:TypeId}{size bytes:Nat}(hE:EI P T E size bytes) {base n:Nat}{v:Value}{xs:List Value}(hs:a.eval s=v) (hown:w.ownsRow base E size v n xs)
  {B m c:Nat}{A:Option Addr}{news:List Value}(hx:a.eval x=.slice A m c) (hr:Row w B size A m news) (h1:∀ u∈news,u.oneCell'=true) (h63:n+m≤1000000000000) (hbytes:bytes≤100) (hbase:base≤w.heap.size)
  (h:∀ v' w',w'.ownsRow base E size v' (n+m) (xs++news)→Hid (w.grownBy w' v.ownBlock)→Below base w w'→Hid (At w.heap.size v v')→∃ S':World→Prop,S' w'∧(∀ u,S' u→S u)∧th P ops Q r S' (a.put o.dst v') w') :
  th P ops Q (.mk i r) S a w :=
 ⟨o,ho,by
  unfold aD;rw [if_pos (by simp [Region.wanted,hg]),if_neg (by simp)];exact dX s x hop hE hs hown hx hr h1 h63 hbytes hbase h⟩
theorem p9 {w:World}{B g n c:Nat}{E:TypeId}{xs:List Value}{z0 z1 z2 z3:Value}(ho:w.ownsRow B E 4 (.slice (some ⟨g,0,none⟩) (n+1) c) (n+1) (xs++[z0,z1,z2,z3])) (hx:xs.length=n*4) (a b c' d:Value) :
  (lC w g (n*4) a b c' d).ownsRow B E 4 (.slice (some ⟨g,0,none⟩) (n+1) c) (n+1) (xs++[a,b,c',d]):=by
 have h1:=(World.ownsRow.stored ho (n*4) a).1;have h2:=(World.ownsRow.stored h1 (n*4+1) b).1;have h3:=(World.ownsRow.stored h2 (n*4+2) c').1;have h4:=(World.ownsRow.stored h3 (n*4+3) d).1;have e:((((xs++[z0,z1,z2,z3]).set (n*4) a).set (n*4+1) b).set (n*4+2) c').set (n*4+3) d=xs++[a,b,c',d]:=by
  rw [← hx];simp
 rw [e] at h4;exact h4
theorem lU (w:World) (g o:Nat) (a b c d:Value):w.grownBy (lC w g o a b c d) (some g):=by
 have h1:=ax w ⟨g,o,none⟩ a;have h2:=ax (w.setCell ⟨g,o,none⟩ a) ⟨g,o+1,none⟩ b;have h3:=ax ((w.setCell ⟨g,o,none⟩ a).setCell ⟨g,o+1,none⟩ b) ⟨g,o+2,none⟩ c;have h4:=ax (((w.setCell ⟨g,o,none⟩ a).setCell ⟨g,o+1,none⟩ b).setCell ⟨g,o+2,none⟩ c) ⟨g,o+3,none⟩ d;refine ⟨by rw [lC,h4.os,h3.os,h2.os,h1.os],by rw [lC,h4.tape,h3.tape,h2.tape,h1.tape],by rw [lC,h4.output,h3.output,h2.output,h1.output],Nat.le_trans (Nat.le_trans (Nat.le_trans h1.size h2.size) h3.size) h4.size,fun k hk hne=>?_⟩;have z1:=h1.size;have z2:=h2.size;have z3:=h3.size;exact (h4.block k (by omega) hne).trans ((h3.block k (by omega) hne).trans ((h2.block k (by omega) hne).trans (h1.block k hk hne)))
theorem Cc {w w1 w2:World}{v v':Value}{g:Nat}(h1:w.grownBy w1 v.ownBlock) (hat:At w.heap.size v v') (hv:v'.ownBlock=some g) (h2:w1.grownBy w2 (some g)):w.grownBy w2 v.ownBlock :=
 ⟨h2.os.trans h1.os,h2.tape.trans h1.tape,h2.output.trans h1.output,Nat.le_trans h1.size h2.size,fun k hk hne=>by
  have:=h1.size;refine (h2.block k (by omega) (fun e=>?_)).trans (h1.block k hk hne);injection e with e;subst e;rcases hat k hv with e | e
  ·exact hne e.symm
  ·omega⟩
theorem AO {w:World}{o:Obj}{v v':Value}(h:At (w.drew.alloc o).heap.size v v'):At w.heap.size v v':=fun g hg=>(h g hg).imp id (fun e=>by simp at e;omega)
section
variable {m:Ky→Option Pa}{k:Ks}{C:Value→Value→Pa}{R:Il.Rw}{vi vp:Value}{css:List (List Value)}{w w':World}{B g o:Nat}
theorem zS (hk:k.ok) {R':Il.Rw}{vi':Value}{css':List (List Value)}(hp:R'.p=R.p) (hB:B≤w.heap.size) (h:Hq w B (aN m k C R vi vp css)) (hg:w.grownBy w' vi.ownBlock) (ho:w'.ownsRow B 35 4 vi' R'.l.length css'.flatten) (hv:vi'.ownBlock=vi.ownBlock) (hc:C vi' vp=C vi vp) :
  bV B (aN m k C R vi vp css) w (aN m k C R' vi' vp css') w':=by
 have t:=h.ue (k:=k.i) (kX R' vi' css') (gS hk) hg ho (fun g hg=>.inl (by
  have e:vi'.ownBlock=some g:=hg;show vi.ownBlock=some g;rw [← hv];exact e)) hB
 have e:uq (aN m k C R vi vp css) k.i (kX R' vi' css')=aN m k C R' vi' vp css':=by
  have:mA R' vp=mA R vp:=by unfold mA;rw [hp]
  unfold aN;rw [this,lS _ hk.ip,vC,hc]
 rwa [e] at t
theorem fF (hk:k.ok) (hC:Cn g o C) {A:Option Addr}{n c:Nat}(h:Hq w B (aN m k C R vi (.slice A n c) css)) (hB:B≤w.heap.size) :
  bV B (aN m k C R vi (.slice A n c) css) w (aN m k C ⟨R.l,[]⟩ vi (.slice A 0 c) css) (w.setCell ⟨g,o+1,none⟩ (.slice A 0 c)):=by
 obtain ⟨_,_,_,_,_,_,op,_,_⟩:=eE hk hC h;have ho:w.ownsRow B 5 1 (.slice A 0 c) 0 []:=by
  refine ⟨rfl,?_⟩;rcases op.2 with ⟨e,_⟩ | ⟨g',cap,cur,e,h1,h2,h3,h4,h5,h6⟩
  ·injection e with e1 e2 e3;subst e1 e3;exact .inl ⟨rfl,rfl⟩
  ·injection e with e1 e2 e3;subst e1 e3;exact .inr ⟨g',c,cur,rfl,h1,h2,Nat.zero_le _,h4,h5,by simp⟩
 refine wY hk hC h hB (R':=⟨R.l,[]⟩) rfl (World.grownBy.refl w _) ho (fun g hg=>.inl ?_);cases A with
 | none=>cases hg
 | some a=>exact hg
theorem Jq (hk:k.ok) (hC:Cn g o C) (h:Hq w B (aN m k C R vi vp css)) (hI:gB w (Fr w B (aN m k C R vi vp css)) R.l css) (hB:B≤w.heap.size) (hp:R.p≠[]) (hl:R.p.length≤100000000000) (uU:R.l.length≤100000000000) :
  Calls Tryz.prog 200 #[.pointer (some ⟨g,o,none⟩)] w fun e w'=>∃ vi',e=.returned vi'∧∃ vp' css',bV B (aN m k C R vi vp css) w (aN m k C ⟨R.full,[]⟩ vi' vp' css') w'∧gB w' (Fr w' B (aN m k C ⟨R.full,[]⟩ vi' vp' css')) R.full css':=by
 obtain ⟨c0,c1,cf,hBg,F4,oi,op,nei,nep⟩:=eE hk hC h;have hpl:0<R.p.length:=List.length_pos_iff.2 hp;have hfull:Hid (R.full=R.l++[Il.word R.p]):=Lib.hid (by unfold Il.Rw.full;rw [if_neg hp]);obtain ⟨A,c,rfl,hc3⟩:=ak op;obtain ⟨A2,c2,rfl,hc4⟩:=ak oi;have nip:∀ b,(Value.slice A R.p.length c).ownBlock=some b→(Value.slice A2 R.l.length c2).ownBlock≠some b:=fun b hb hb2=>hk.ip (h.apart _ _ _ _ b vT (gS hk) hb hb2);have hcv:=fun (u:World) (hu:u.ownsRow B 5 1 (.slice A R.p.length c) R.p.length (aj R.p))=>kO (c:=c) (Row.own hu) 27 5 9 Tryz.underlying27 (by kernel_rfl) Tryz.underlying9;have hS:(fun u:World=>u.cell? ⟨g,o+1,none⟩=some (.slice A R.p.length c)∧u.ownsRow B 5 1 (.slice A R.p.length c) R.p.length (aj R.p)) w.drew:=⟨c1,op.drew⟩
 have hS1:(fun u:World=>u.cell? ⟨g,o+1,none⟩=some (.slice A R.p.length c)∧u.ownsRow B 5 1 (.slice A R.p.length c) R.p.length (aj R.p)) (w.drew.alloc (.cells #[.int .i64 0,.string ⟨#[]⟩,.string ⟨#[]⟩,.slice none 0 0] 35)):=⟨(World.cell?_alloc_lt _ _ _ F4).trans c1,op.drew.alloc _⟩
 go_enter Tryz.func200,Tryz.ntmps200;go_upto_region 2 with fail
 refine aE (.rd 0 (.rd 1 (.rd 2 (.rd 4 (.rd 5 (.rd 6 (.rd 7 (.rd 8 (.rd 9 (.fk 3 (.rd 10 (.mk 11 (.mk 12 (.rd 13 (.rd 15 (.rd 16 (.fk 14 (.mk 17 .fin) 17 (.mk 14 .fin)))))))) 11 (.mk 3 (.rd 10 (.mk 12 (.rd 13 (.rd 15 (.rd 16 (.fk 14 (.mk 17 .fin) 17 (.mk 14 .fin)))))))))))))))))) (fun u:World=>u.cell? ⟨g,o+1,none⟩=some (.slice A R.p.length c)∧u.ownsRow B 5 1 (.slice A R.p.length c) R.p.length (aj R.p)) hS (by kernel_rfl) (by kernel_rfl) (by kernel_rfl) (fun _ _ d _ _ h=>by cases d<;>exact h) ?_
 iterate 6 (first | refine an rfl ?_ | (refine ay rfl ?_;intro K hK;go_simp;refine hK _ _ _ ?_;clear hK K))
 refine aH (.slice A R.p.length c) rfl rfl hS (fun u hu=>by have h1:=hu.1;go_simp) ?_;refine aH (.string (bs R.p)) rfl rfl hS (fun u hu=>by have h1:=hcv u hu.2;go_simp) ?_
 (first | refine an rfl ?_ | (refine ay rfl ?_;intro K hK;go_simp;refine hK _ _ _ ?_;clear hK K))
 refine iF ?wa ?wb
 case' wa =>
  refine aC rfl ?_;intro K hK;go_simp;refine ⟨_,hS,fun _ h=>h,hK _ _ _ ?_⟩;clear hK K
  (first | refine an rfl ?_ | (refine ay rfl ?_;intro K hK;go_simp;refine hK _ _ _ ?_;clear hK K))
  refine aC rfl ?_;intro K hK;go_simp;refine ⟨_,hS1,fun _ h=>h,hK _ _ _ ?_⟩;clear hK K;refine lV rfl rfl (.tmp 12) (.tmp 20) rfl It (v:=.slice A2 R.l.length c2) rfl (oi.drew.alloc _) rfl (Row.jV w.drew 35 _ rfl rfl) (by intro u hu;simp at hu;rcases hu with rfl | rfl | rfl | rfl<;>rfl) (by omega) (by omega) (by simp;omega) ?_;intro v' w' ho hg hb hat;obtain ⟨g',c',rfl,hc',Gq,Hy⟩:=fT ho (by omega);have rK:=AO (w:=w) hat.out;have kQ:w.grownBy w' (Value.slice A2 R.l.length c2).ownBlock:=jb (w0:=w) (grown_drew hg.out);have hnew:∀ b,b<w.heap.size→(Value.slice A2 R.l.length c2).ownBlock≠some b→b≠g':=fun b hb hne e=>by
   subst e;rcases rK b rfl with e | e
   ·exact hne e
   ·omega
  have Ie:g≠g':=hnew g F4 nei;obtain ⟨d0,d1,df,dz⟩:=iW hk hC h kQ (fun e=>nei e);have op2:w'.ownsRow B 5 1 (.slice A R.p.length c) R.p.length (aj R.p):=World.ownsRow.kept op kQ (Bt (fun b hb e=>nip b hb e.symm));have NQ:(Value.slice A R.p.length c).ownBlock=none∨(Value.slice A R.p.length c).ownBlock≠some g':=Bt (fun b hb e=>hnew b (World.ownsRow.lt op b hb).2 (nip b hb) (Option.some.inj e));have IW:(Value.slice A R.p.length c).ownBlock=none∨(Value.slice A R.p.length c).ownBlock≠some g:=.inr nep;have ie:(fun u:World=>u.cell? ⟨g,o+1,none⟩=some (.slice A R.p.length c)∧u.ownsRow B 5 1 (.slice A R.p.length c) R.p.length (aj R.p)) w':=⟨d1,op2⟩
  refine ⟨_,ie,fun _ h=>h,?_⟩;have ff:=fun j=>World.ownsRow.frozenAt ho j;have Zb:(0:Int)≤(R.l.length:Int):=by omega
  have hlt2:(R.l.length:Int)<(R.l.length:Int)+1:=by omega
  have hcl:=pK hI;have e0:w'.cell? ⟨g',R.l.length*4,none⟩=some (.int .i64 0):=aK ho (by rw [List.getElem?_append_right (by omega),hcl,show R.l.length*4-R.l.length*4=0 by omega];rfl);have e1:w'.cell? ⟨g',R.l.length*4+1,none⟩=some (.string ⟨#[]⟩):=aK ho (by rw [List.getElem?_append_right (by omega),hcl,show R.l.length*4+1-R.l.length*4=1 by omega];rfl);have e2:w'.cell? ⟨g',R.l.length*4+2,none⟩=some (.string ⟨#[]⟩):=aK ho (by rw [List.getElem?_append_right (by omega),hcl,show R.l.length*4+2-R.l.length*4=2 by omega];rfl);have e3:w'.cell? ⟨g',R.l.length*4+3,none⟩=some (.slice none 0 0):=aK ho (by rw [List.getElem?_append_right (by omega),hcl,show R.l.length*4+3-R.l.length*4=3 by omega];rfl)
  iterate 3 (first | refine an rfl ?_ | (refine ay rfl ?_;intro K hK;go_simp;refine hK _ _ _ ?_;clear hK K))
  have T8:=p9 ho hcl (.int .i64 0) (.string (bs R.p)) (.string ⟨#[]⟩) (.slice none 0 0);have hg4:=lU w' g' (R.l.length*4) (.int .i64 0) (.string (bs R.p)) (.string ⟨#[]⟩) (.slice none 0 0);have qn:(css++[[Value.int .i64 0,.string (bs R.p),.string ⟨#[]⟩,.slice none 0 0]]).flatten=css.flatten++[.int .i64 0,.string (bs R.p),.string ⟨#[]⟩,.slice none 0 0]:=by simp
  have hlen:(⟨R.l++[Il.word R.p],R.p⟩:Il.Rw).l.length=R.l.length+1:=by simp
  refine iF ?wc ?wd
  case' wc =>
   have eV:(fun u:World=>u.cell? ⟨g,o+1,none⟩=some (.slice A R.p.length c)∧u.ownsRow B 5 1 (.slice A R.p.length c) R.p.length (aj R.p)) (lC w' g' (R.l.length*4) (.int .i64 0) (.string (bs R.p)) (.string ⟨#[]⟩) (.slice none 0 0)):=⟨fK (hg4.block g dz (fun e=>Ie (Option.some.inj e))) _ d1,World.ownsRow.kept op2 hg4 NQ⟩
   refine bg rfl rfl (jS rfl (by kernel_rfl) rfl rfl e0 e1 e2 e3 ff) eV ?_;have t:=mE hk hC h hB (R':=⟨R.l++[Il.word R.p],R.p⟩) (css':=css++[[Value.int .i64 0,.string (bs R.p),.string ⟨#[]⟩,.slice none 0 0]]) rfl (Cc kQ rK rfl hg4) (by rw [hlen,qn];exact T8) rK;have k0:(lC w' g' (R.l.length*4) (.int .i64 0) (.string (bs R.p)) (.string ⟨#[]⟩) (.slice none 0 0)).cell? ⟨g,o,none⟩=some (.slice A2 R.l.length c2):=fK (hg4.block g dz (fun e=>Ie (Option.some.inj e))) _ d0;have kf:∀ j,(lC w' g' (R.l.length*4) (.int .i64 0) (.string (bs R.p)) (.string ⟨#[]⟩) (.slice none 0 0)).frozen? ⟨g,j,none⟩=false:=Eg (hg4.block g dz (fun e=>Ie (Option.some.inj e))) df;have x9:(fun u:World=>u.cell? ⟨g,o+1,none⟩=some (.slice A R.p.length c)∧u.ownsRow B 5 1 (.slice A R.p.length c) R.p.length (aj R.p)) ((lC w' g' (R.l.length*4) (.int .i64 0) (.string (bs R.p)) (.string ⟨#[]⟩) (.slice none 0 0)).setCell ⟨g,o,none⟩ (.slice (some ⟨g',0,none⟩) (R.l.length+1) c')):=⟨(World.cell?_setCell_other _ ⟨g,o,none⟩ ⟨g,o+1,none⟩ _ (by intro h;injection h with _ h2 _;omega)).trans eV.1,World.ownsRow.kept eV.2 (ax _ ⟨g,o,none⟩ _) IW⟩
   refine bg rfl rfl (eD rfl (by kernel_rfl) rfl rfl k0 kf) x9 ?_;clear eV x9 k0 kf;generalize World.setCell _ _ _=W at t ⊢;have mb:=ny (t:=Il.word R.p) (cs:=[Value.int .i64 0,.string (bs R.p),.string ⟨#[]⟩,.slice none 0 0]) (t.kids hI) (uG 0 R.p []);have hB2:=Nat.le_trans hB t.bel.size;obtain ⟨f0,f1,ffz,_,fgz,_,_,_,_⟩:=eE hk hC t.hp;have t3:=Lib.hid (t.trans (fF hk hC t.hp hB2));have pF:=Lib.hid ((fF hk hC t.hp hB2).kids mb);rw [← hfull.out] at t3 pF;clear t mb e0 e1 e2 e3 d0 d1 df ff ho hg hb hat kQ op2 ie T8 hg4 qn hlen hS hS1 hcv c0 c1 cf oi op h hI NQ IW nei nep nip rK hnew;refine aM ?_;go_wp2_with fail;go_ret;exact ⟨_,rfl,_,_,t3.out,pF.out⟩
  case' wd =>
   have eV:(fun u:World=>u.cell? ⟨g,o+1,none⟩=some (.slice A R.p.length c)∧u.ownsRow B 5 1 (.slice A R.p.length c) R.p.length (aj R.p)) (w'.setCell ⟨g,o,none⟩ (.slice (some ⟨g',0,none⟩) (R.l.length+1) c')):=⟨(World.cell?_setCell_other _ ⟨g,o,none⟩ ⟨g,o+1,none⟩ _ (by intro h;injection h with _ h2 _;omega)).trans d1,World.ownsRow.kept op2 (ax _ ⟨g,o,none⟩ _) IW⟩
   refine bg rfl rfl (eD rfl (by kernel_rfl) rfl rfl d0 df) eV ?_;have tz:=mE hk hC h hB (R':=⟨R.l++[Il.word R.p],R.p⟩) (css':=css++[[Value.int .i64 0,.string ⟨#[]⟩,.string ⟨#[]⟩,.slice none 0 0]]) rfl kQ (by rw [hlen];simpa using ho) rK;have gk:w'.grownBy (w'.setCell ⟨g,o,none⟩ (.slice (some ⟨g',0,none⟩) (R.l.length+1) c')) (some g):=ax _ ⟨g,o,none⟩ _;have Fo:(w'.setCell ⟨g,o,none⟩ (.slice (some ⟨g',0,none⟩) (R.l.length+1) c')).ownsRow B 35 4 (.slice (some ⟨g',0,none⟩) (R.l.length+1) c') (R.l.length+1) (css.flatten++[.int .i64 0,.string ⟨#[]⟩,.string ⟨#[]⟩,.slice none 0 0]):=World.ownsRow.kept ho gk (.inr (fun e=>Ie (Option.some.inj e).symm));have fz:=fun j=>World.ownsRow.frozenAt Fo j;have z0:(w'.setCell ⟨g,o,none⟩ (.slice (some ⟨g',0,none⟩) (R.l.length+1) c')).cell? ⟨g',R.l.length*4,none⟩=some (.int .i64 0):=aK Fo (by rw [List.getElem?_append_right (by omega),hcl,show R.l.length*4-R.l.length*4=0 by omega];rfl);have z1:(w'.setCell ⟨g,o,none⟩ (.slice (some ⟨g',0,none⟩) (R.l.length+1) c')).cell? ⟨g',R.l.length*4+1,none⟩=some (.string ⟨#[]⟩):=aK Fo (by rw [List.getElem?_append_right (by omega),hcl,show R.l.length*4+1-R.l.length*4=1 by omega];rfl);have z2:(w'.setCell ⟨g,o,none⟩ (.slice (some ⟨g',0,none⟩) (R.l.length+1) c')).cell? ⟨g',R.l.length*4+2,none⟩=some (.string ⟨#[]⟩):=aK Fo (by rw [List.getElem?_append_right (by omega),hcl,show R.l.length*4+2-R.l.length*4=2 by omega];rfl);have z3:(w'.setCell ⟨g,o,none⟩ (.slice (some ⟨g',0,none⟩) (R.l.length+1) c')).cell? ⟨g',R.l.length*4+3,none⟩=some (.slice none 0 0):=aK Fo (by rw [List.getElem?_append_right (by omega),hcl,show R.l.length*4+3-R.l.length*4=3 by omega];rfl);have xF:=lU (w'.setCell ⟨g,o,none⟩ (.slice (some ⟨g',0,none⟩) (R.l.length+1) c')) g' (R.l.length*4) (.int .i64 0) (.string (bs R.p)) (.string ⟨#[]⟩) (.slice none 0 0);have x9:(fun u:World=>u.cell? ⟨g,o+1,none⟩=some (.slice A R.p.length c)∧u.ownsRow B 5 1 (.slice A R.p.length c) R.p.length (aj R.p)) (lC (w'.setCell ⟨g,o,none⟩ (.slice (some ⟨g',0,none⟩) (R.l.length+1) c')) g' (R.l.length*4) (.int .i64 0) (.string (bs R.p)) (.string ⟨#[]⟩) (.slice none 0 0)):=⟨fK (xF.block g (Nat.lt_of_lt_of_le dz gk.size) (fun e=>Ie (Option.some.inj e))) _ eV.1,World.ownsRow.kept eV.2 xF NQ⟩
   have t:=tz.trans (zS hk (R':=⟨R.l++[Il.word R.p],R.p⟩) (css':=css++[[Value.int .i64 0,.string (bs R.p),.string ⟨#[]⟩,.slice none 0 0]]) rfl (Nat.le_trans hB tz.bel.size) tz.hp xF (by rw [hlen,qn];exact p9 Fo hcl (.int .i64 0) (.string (bs R.p)) (.string ⟨#[]⟩) (.slice none 0 0)) rfl rfl);refine bg rfl rfl (jS rfl (by kernel_rfl) rfl rfl z0 z1 z2 z3 fz) x9 ?_;clear x9 z0 z1 z2 z3 fz;generalize lC _ _ _ _ _ _ _=W at t ⊢;clear eV tz gk Fo xF;have mb:=ny (t:=Il.word R.p) (cs:=[Value.int .i64 0,.string (bs R.p),.string ⟨#[]⟩,.slice none 0 0]) (t.kids hI) (uG 0 R.p []);have hB2:=Nat.le_trans hB t.bel.size;obtain ⟨f0,f1,ffz,_,fgz,_,_,_,_⟩:=eE hk hC t.hp;have t3:=Lib.hid (t.trans (fF hk hC t.hp hB2));have pF:=Lib.hid ((fF hk hC t.hp hB2).kids mb);rw [← hfull.out] at t3 pF;clear t mb e0 e1 e2 e3 d0 d1 df ff ho hg hb hat kQ op2 ie T8 hg4 qn hlen hS hS1 hcv c0 c1 cf oi op h hI NQ IW nei nep nip rK hnew;refine aM ?_;go_wp2_with fail;go_ret;exact ⟨_,rfl,_,_,t3.out,pF.out⟩
 case' wb =>
  have c0':=(World.cell?_alloc_lt w.drew (.cells #[.int .i64 0,.string ⟨#[]⟩,.string ⟨#[]⟩,.slice none 0 0] 35) ⟨g,o,none⟩ F4).trans c0;refine aC rfl ?_;intro K hK;go_simp;refine ⟨_,hS1,fun _ h=>h,hK _ _ _ ?_⟩;clear hK K;refine aC rfl ?_;intro K hK;go_simp;refine ⟨_,hS1,fun _ h=>h,hK _ _ _ ?_⟩;clear hK K
  (first | refine an rfl ?_ | (refine ay rfl ?_;intro K hK;go_simp;refine hK _ _ _ ?_;clear hK K))
  refine lV rfl rfl (.tmp 12) (.tmp 20) rfl It (v:=.slice A2 R.l.length c2) rfl (oi.drew.alloc _) rfl (Row.jV w.drew 35 _ rfl rfl) (by intro u hu;simp at hu;rcases hu with rfl | rfl | rfl | rfl<;>rfl) (by omega) (by omega) (by simp;omega) ?_;intro v' w' ho hg hb hat;obtain ⟨g',c',rfl,hc',Gq,Hy⟩:=fT ho (by omega);have rK:=AO (w:=w) hat.out;have kQ:w.grownBy w' (Value.slice A2 R.l.length c2).ownBlock:=jb (w0:=w) (grown_drew hg.out);have hnew:∀ b,b<w.heap.size→(Value.slice A2 R.l.length c2).ownBlock≠some b→b≠g':=fun b hb hne e=>by
   subst e;rcases rK b rfl with e | e
   ·exact hne e
   ·omega
  have Ie:g≠g':=hnew g F4 nei;obtain ⟨d0,d1,df,dz⟩:=iW hk hC h kQ (fun e=>nei e);have op2:w'.ownsRow B 5 1 (.slice A R.p.length c) R.p.length (aj R.p):=World.ownsRow.kept op kQ (Bt (fun b hb e=>nip b hb e.symm));have NQ:(Value.slice A R.p.length c).ownBlock=none∨(Value.slice A R.p.length c).ownBlock≠some g':=Bt (fun b hb e=>hnew b (World.ownsRow.lt op b hb).2 (nip b hb) (Option.some.inj e));have IW:(Value.slice A R.p.length c).ownBlock=none∨(Value.slice A R.p.length c).ownBlock≠some g:=.inr nep;have ie:(fun u:World=>u.cell? ⟨g,o+1,none⟩=some (.slice A R.p.length c)∧u.ownsRow B 5 1 (.slice A R.p.length c) R.p.length (aj R.p)) w':=⟨d1,op2⟩
  refine ⟨_,ie,fun _ h=>h,?_⟩;have ff:=fun j=>World.ownsRow.frozenAt ho j;have Zb:(0:Int)≤(R.l.length:Int):=by omega
  have hlt2:(R.l.length:Int)<(R.l.length:Int)+1:=by omega
  have hcl:=pK hI;have e0:w'.cell? ⟨g',R.l.length*4,none⟩=some (.int .i64 0):=aK ho (by rw [List.getElem?_append_right (by omega),hcl,show R.l.length*4-R.l.length*4=0 by omega];rfl);have e1:w'.cell? ⟨g',R.l.length*4+1,none⟩=some (.string ⟨#[]⟩):=aK ho (by rw [List.getElem?_append_right (by omega),hcl,show R.l.length*4+1-R.l.length*4=1 by omega];rfl);have e2:w'.cell? ⟨g',R.l.length*4+2,none⟩=some (.string ⟨#[]⟩):=aK ho (by rw [List.getElem?_append_right (by omega),hcl,show R.l.length*4+2-R.l.length*4=2 by omega];rfl);have e3:w'.cell? ⟨g',R.l.length*4+3,none⟩=some (.slice none 0 0):=aK ho (by rw [List.getElem?_append_right (by omega),hcl,show R.l.length*4+3-R.l.length*4=3 by omega];rfl)
  iterate 3 (first | refine an rfl ?_ | (refine ay rfl ?_;intro K hK;go_simp;refine hK _ _ _ ?_;clear hK K))
  have T8:=p9 ho hcl (.int .i64 0) (.string (bs R.p)) (.string ⟨#[]⟩) (.slice none 0 0);have hg4:=lU w' g' (R.l.length*4) (.int .i64 0) (.string (bs R.p)) (.string ⟨#[]⟩) (.slice none 0 0);have qn:(css++[[Value.int .i64 0,.string (bs R.p),.string ⟨#[]⟩,.slice none 0 0]]).flatten=css.flatten++[.int .i64 0,.string (bs R.p),.string ⟨#[]⟩,.slice none 0 0]:=by simp
  have hlen:(⟨R.l++[Il.word R.p],R.p⟩:Il.Rw).l.length=R.l.length+1:=by simp
  refine iF ?we ?wf
  case' we =>
   have eV:(fun u:World=>u.cell? ⟨g,o+1,none⟩=some (.slice A R.p.length c)∧u.ownsRow B 5 1 (.slice A R.p.length c) R.p.length (aj R.p)) (lC w' g' (R.l.length*4) (.int .i64 0) (.string (bs R.p)) (.string ⟨#[]⟩) (.slice none 0 0)):=⟨fK (hg4.block g dz (fun e=>Ie (Option.some.inj e))) _ d1,World.ownsRow.kept op2 hg4 NQ⟩
   refine bg rfl rfl (jS rfl (by kernel_rfl) rfl rfl e0 e1 e2 e3 ff) eV ?_;have t:=mE hk hC h hB (R':=⟨R.l++[Il.word R.p],R.p⟩) (css':=css++[[Value.int .i64 0,.string (bs R.p),.string ⟨#[]⟩,.slice none 0 0]]) rfl (Cc kQ rK rfl hg4) (by rw [hlen,qn];exact T8) rK;have k0:(lC w' g' (R.l.length*4) (.int .i64 0) (.string (bs R.p)) (.string ⟨#[]⟩) (.slice none 0 0)).cell? ⟨g,o,none⟩=some (.slice A2 R.l.length c2):=fK (hg4.block g dz (fun e=>Ie (Option.some.inj e))) _ d0;have kf:∀ j,(lC w' g' (R.l.length*4) (.int .i64 0) (.string (bs R.p)) (.string ⟨#[]⟩) (.slice none 0 0)).frozen? ⟨g,j,none⟩=false:=Eg (hg4.block g dz (fun e=>Ie (Option.some.inj e))) df;have x9:(fun u:World=>u.cell? ⟨g,o+1,none⟩=some (.slice A R.p.length c)∧u.ownsRow B 5 1 (.slice A R.p.length c) R.p.length (aj R.p)) ((lC w' g' (R.l.length*4) (.int .i64 0) (.string (bs R.p)) (.string ⟨#[]⟩) (.slice none 0 0)).setCell ⟨g,o,none⟩ (.slice (some ⟨g',0,none⟩) (R.l.length+1) c')):=⟨(World.cell?_setCell_other _ ⟨g,o,none⟩ ⟨g,o+1,none⟩ _ (by intro h;injection h with _ h2 _;omega)).trans eV.1,World.ownsRow.kept eV.2 (ax _ ⟨g,o,none⟩ _) IW⟩
   refine bg rfl rfl (eD rfl (by kernel_rfl) rfl rfl k0 kf) x9 ?_;clear eV x9 k0 kf;generalize World.setCell _ _ _=W at t ⊢;have mb:=ny (t:=Il.word R.p) (cs:=[Value.int .i64 0,.string (bs R.p),.string ⟨#[]⟩,.slice none 0 0]) (t.kids hI) (uG 0 R.p []);have hB2:=Nat.le_trans hB t.bel.size;obtain ⟨f0,f1,ffz,_,fgz,_,_,_,_⟩:=eE hk hC t.hp;have t3:=Lib.hid (t.trans (fF hk hC t.hp hB2));have pF:=Lib.hid ((fF hk hC t.hp hB2).kids mb);rw [← hfull.out] at t3 pF;clear t mb e0 e1 e2 e3 d0 d1 df ff ho hg hb hat kQ op2 ie T8 hg4 qn hlen hS hS1 hcv c0 c1 cf oi op h hI NQ IW nei nep nip rK hnew;refine aM ?_;go_wp2_with fail;go_ret;exact ⟨_,rfl,_,_,t3.out,pF.out⟩
  case' wf =>
   have eV:(fun u:World=>u.cell? ⟨g,o+1,none⟩=some (.slice A R.p.length c)∧u.ownsRow B 5 1 (.slice A R.p.length c) R.p.length (aj R.p)) (w'.setCell ⟨g,o,none⟩ (.slice (some ⟨g',0,none⟩) (R.l.length+1) c')):=⟨(World.cell?_setCell_other _ ⟨g,o,none⟩ ⟨g,o+1,none⟩ _ (by intro h;injection h with _ h2 _;omega)).trans d1,World.ownsRow.kept op2 (ax _ ⟨g,o,none⟩ _) IW⟩
   refine bg rfl rfl (eD rfl (by kernel_rfl) rfl rfl d0 df) eV ?_;have tz:=mE hk hC h hB (R':=⟨R.l++[Il.word R.p],R.p⟩) (css':=css++[[Value.int .i64 0,.string ⟨#[]⟩,.string ⟨#[]⟩,.slice none 0 0]]) rfl kQ (by rw [hlen];simpa using ho) rK;have gk:w'.grownBy (w'.setCell ⟨g,o,none⟩ (.slice (some ⟨g',0,none⟩) (R.l.length+1) c')) (some g):=ax _ ⟨g,o,none⟩ _;have Fo:(w'.setCell ⟨g,o,none⟩ (.slice (some ⟨g',0,none⟩) (R.l.length+1) c')).ownsRow B 35 4 (.slice (some ⟨g',0,none⟩) (R.l.length+1) c') (R.l.length+1) (css.flatten++[.int .i64 0,.string ⟨#[]⟩,.string ⟨#[]⟩,.slice none 0 0]):=World.ownsRow.kept ho gk (.inr (fun e=>Ie (Option.some.inj e).symm));have fz:=fun j=>World.ownsRow.frozenAt Fo j;have z0:(w'.setCell ⟨g,o,none⟩ (.slice (some ⟨g',0,none⟩) (R.l.length+1) c')).cell? ⟨g',R.l.length*4,none⟩=some (.int .i64 0):=aK Fo (by rw [List.getElem?_append_right (by omega),hcl,show R.l.length*4-R.l.length*4=0 by omega];rfl);have z1:(w'.setCell ⟨g,o,none⟩ (.slice (some ⟨g',0,none⟩) (R.l.length+1) c')).cell? ⟨g',R.l.length*4+1,none⟩=some (.string ⟨#[]⟩):=aK Fo (by rw [List.getElem?_append_right (by omega),hcl,show R.l.length*4+1-R.l.length*4=1 by omega];rfl);have z2:(w'.setCell ⟨g,o,none⟩ (.slice (some ⟨g',0,none⟩) (R.l.length+1) c')).cell? ⟨g',R.l.length*4+2,none⟩=some (.string ⟨#[]⟩):=aK Fo (by rw [List.getElem?_append_right (by omega),hcl,show R.l.length*4+2-R.l.length*4=2 by omega];rfl);have z3:(w'.setCell ⟨g,o,none⟩ (.slice (some ⟨g',0,none⟩) (R.l.length+1) c')).cell? ⟨g',R.l.length*4+3,none⟩=some (.slice none 0 0):=aK Fo (by rw [List.getElem?_append_right (by omega),hcl,show R.l.length*4+3-R.l.length*4=3 by omega];rfl);have xF:=lU (w'.setCell ⟨g,o,none⟩ (.slice (some ⟨g',0,none⟩) (R.l.length+1) c')) g' (R.l.length*4) (.int .i64 0) (.string (bs R.p)) (.string ⟨#[]⟩) (.slice none 0 0);have x9:(fun u:World=>u.cell? ⟨g,o+1,none⟩=some (.slice A R.p.length c)∧u.ownsRow B 5 1 (.slice A R.p.length c) R.p.length (aj R.p)) (lC (w'.setCell ⟨g,o,none⟩ (.slice (some ⟨g',0,none⟩) (R.l.length+1) c')) g' (R.l.length*4) (.int .i64 0) (.string (bs R.p)) (.string ⟨#[]⟩) (.slice none 0 0)):=⟨fK (xF.block g (Nat.lt_of_lt_of_le dz gk.size) (fun e=>Ie (Option.some.inj e))) _ eV.1,World.ownsRow.kept eV.2 xF NQ⟩
   have t:=tz.trans (zS hk (R':=⟨R.l++[Il.word R.p],R.p⟩) (css':=css++[[Value.int .i64 0,.string (bs R.p),.string ⟨#[]⟩,.slice none 0 0]]) rfl (Nat.le_trans hB tz.bel.size) tz.hp xF (by rw [hlen,qn];exact p9 Fo hcl (.int .i64 0) (.string (bs R.p)) (.string ⟨#[]⟩) (.slice none 0 0)) rfl rfl);refine bg rfl rfl (jS rfl (by kernel_rfl) rfl rfl z0 z1 z2 z3 fz) x9 ?_;clear x9 z0 z1 z2 z3 fz;generalize lC _ _ _ _ _ _ _=W at t ⊢;clear eV tz gk Fo xF;have mb:=ny (t:=Il.word R.p) (cs:=[Value.int .i64 0,.string (bs R.p),.string ⟨#[]⟩,.slice none 0 0]) (t.kids hI) (uG 0 R.p []);have hB2:=Nat.le_trans hB t.bel.size;obtain ⟨f0,f1,ffz,_,fgz,_,_,_,_⟩:=eE hk hC t.hp;have t3:=Lib.hid (t.trans (fF hk hC t.hp hB2));have pF:=Lib.hid ((fF hk hC t.hp hB2).kids mb);rw [← hfull.out] at t3 pF;clear t mb e0 e1 e2 e3 d0 d1 df ff ho hg hb hat kQ op2 ie T8 hg4 qn hlen hS hS1 hcv c0 c1 cf oi op h hI NQ IW nei nep nip rK hnew;refine aM ?_;go_wp2_with fail;go_ret;exact ⟨_,rfl,_,_,t3.out,pF.out⟩
theorem Gu (hk:k.ok) (hC:Cn g o C) (h:Hq w B (aN m k C R vi vp css)) (hI:gB w (Fr w B (aN m k C R vi vp css)) R.l css) (hp:R.p=[]) :
  Calls Tryz.prog 200 #[.pointer (some ⟨g,o,none⟩)] w fun e w'=>∃ vi',e=.returned vi'∧∃ vp' css',bV B (aN m k C R vi vp css) w (aN m k C ⟨R.full,[]⟩ vi' vp' css') w'∧gB w' (Fr w' B (aN m k C ⟨R.full,[]⟩ vi' vp' css')) R.full css':=by
 obtain ⟨c0,c1,cf,hBg,F4,oi,op,nei,nep⟩:=eE hk hC h;obtain ⟨L,P⟩:=R;simp only at hp;subst hp;have hfull:(⟨L,[]⟩:Il.Rw).full=L:=by unfold Il.Rw.full;simp
 obtain ⟨A,c,rfl,hc3⟩:=ak op;obtain ⟨A2,c2,rfl,hc4⟩:=ak oi;simp only [List.length_nil] at c1;have aL:=Lib.hid (show bV B (aN m k C ⟨L,[]⟩ (.slice A2 L.length c2) (.slice A 0 c) css) w (aN m k C ⟨(⟨L,[]⟩:Il.Rw).full,[]⟩ (.slice A2 L.length c2) (.slice A 0 c) css) w∧gB w (Fr w B (aN m k C ⟨(⟨L,[]⟩:Il.Rw).full,[]⟩ (.slice A2 L.length c2) (.slice A 0 c) css)) (⟨L,[]⟩:Il.Rw).full css by
  rw [hfull];exact ⟨h.refl,hI⟩)
 simp only [List.length_nil] at h hI ⊢;clear h hI oi op hfull;go_enter Tryz.func200,Tryz.ntmps200;go_wp2_with fail;go_ret;exact ⟨_,rfl,_,_,aL.out.1,aL.out.2⟩
theorem j9 (hk:k.ok) (hC:Cn g o C) (h:Hq w B (aN m k C R vi vp css)) (hI:gB w (Fr w B (aN m k C R vi vp css)) R.l css) (hB:B≤w.heap.size) (hl:R.p.length≤100000000000) (uU:R.l.length≤100000000000) :
  Calls Tryz.prog 200 #[.pointer (some ⟨g,o,none⟩)] w fun e w'=>∃ vi',e=.returned vi'∧∃ vp' css',bV B (aN m k C R vi vp css) w (aN m k C ⟨R.full,[]⟩ vi' vp' css') w'∧gB w' (Fr w' B (aN m k C ⟨R.full,[]⟩ vi' vp' css')) R.full css':=by
 by_cases hp:R.p=[]
 ·exact Gu hk hC h hI hp
 ·exact Jq hk hC h hI hB hp hl uU
end
end Go.Proofs.YtddkjkockbcamaaGreatDoor
namespace Go.Proofs.YtddkjkockbcamaaGreatDoor
open Go.RowKit
abbrev V3:=Value×Value×List (List Value)
def aS (V:List V3):List Value:=V.flatMap fun x=>[x.1,x.2.1]
theorem jM (V:List V3):(aS V).length=V.length*2:=by
 induction V with
 | nil=>rfl
 | cons x V ih =>
  have:aS (x::V)=x.1::x.2.1::aS V:=rfl;rw [this];simp only [List.length_cons,ih];omega
theorem jw (a b:List V3):aS (a++b)=aS a++aS b:=by simp [aS]
theorem B2 {V:List V3}{i:Nat}(h:i<V.length) (x:V3):aS (V.set i x)=aS (V.take i)++x.1::x.2.1::aS (V.drop (i+1)):=by
 rw [List.set_eq_take_append_cons_drop,if_pos h,jw];rfl
def atR (rs:List Il.Rw) (V:List V3) (f:Il.Rw→V3→Pa) (j:Nat):Option Pa :=
 match rs[j]?,V[j]? with
 | some R,some x=>some (f R x)
 | _,_=>none
def az (m:Ky→Option Pa) (a b c:Nat) (v:Value) (rs:List Il.Rw) (V:List V3):Ky→Option Pa:=fun j =>
 if j=(a,0) then some (.row 216 2 v rs.length (aS V))
 else if j.1=b then atR rs V (fun R x=>kX R x.1 x.2.2) j.2
 else if j.1=c then atR rs V (fun R x=>mA R x.2.1) j.2
 else m j
structure VW (a b c:Nat):Prop where
 ab:b≠a
 ac:c≠a
 bc:c≠b
def mu (a b c i:Nat):Ks:=⟨(a,0),(b,i),(c,i)⟩
theorem eN {a b c:Nat}(h:VW a b c) (i:Nat):(mu a b c i).ok :=
 ⟨fun e=>h.ab (congrArg Prod.fst e),fun e=>h.ac (congrArg Prod.fst e),fun e=>h.bc (congrArg Prod.fst e)⟩
def BT (v:Value) (n:Nat) (V:List V3) (i:Nat):Value→Value→Pa:=fun x y=>.row 216 2 v n (aS (V.take i)++x::y::aS (V.drop (i+1)))
section
variable {m:Ky→Option Pa}{a b c:Nat}{v:Value}{rs:List Il.Rw}{V:List V3}{w w':World}{B:Nat}
theorem si (h:VW a b c) {i:Nat}(hi:i<rs.length) (hV:i<V.length) (R':Il.Rw) (x y:Value) (z:List (List Value)) :
  aN (az m a b c v rs V) (mu a b c i) (BT v rs.length V i) R' x y z=az m a b c v (rs.set i R') (V.set i (x,y,z)):=by
 funext j
 obtain ⟨j1,j2⟩:=j;unfold aN uq mu BT az;simp only [Prod.mk.injEq,List.length_set,B2 hV];have hab:=h.ab;have hac:=h.ac;have hbc:=h.bc;have F6:∀ f,atR (rs.set i R') (V.set i (x,y,z)) f i=some (f R' (x,y,z)):=fun f=>by
  unfold atR;rw [List.getElem?_set_self hi,List.getElem?_set_self hV]
 have wh:∀ f j,j≠i→atR (rs.set i R') (V.set i (x,y,z)) f j=atR rs V f j:=fun f j hj=>by
  unfold atR;rw [List.getElem?_set_ne (Ne.symm hj),List.getElem?_set_ne (Ne.symm hj)]
 by_cases hc:j1=c
 ·subst hc
  by_cases hj:j2=i
  ·subst hj
   simp [hac,hbc,F6]
  ·simp [hac,hbc,hj,wh]
 ·by_cases hb:j1=b
  ·subst hb
   by_cases hj:j2=i
   ·subst hj
    simp [hab,hc,F6]
   ·simp [hab,hc,hj,wh]
  ·by_cases ha:j1=a∧j2=0
   ·obtain ⟨rfl,rfl⟩:=ha
    simp [hc,hb]
   ·simp [hc,hb,ha]
theorem Gw (h:VW a b c) {i:Nat}(hi:i<rs.length) (hV:i<V.length):aN (az m a b c v rs V) (mu a b c i) (BT v rs.length V i) rs[i] V[i].1 V[i].2.1 V[i].2.2=az m a b c v rs V:=by
 rw [si h hi hV,List.set_getElem_self];have:V.set i (V[i].1,V[i].2.1,V[i].2.2)=V:=List.set_getElem_self hV;rw [this]
structure RS (w:World) (B:Nat) (m:Ky→Option Pa) (a b c:Nat) (v:Value) (rs:List Il.Rw) (V:List V3):Prop where
 hp:Hq w B (az m a b c v rs V)
 len:V.length=rs.length
 kids:∀ (i:Nat) (h:i<rs.length) (h':i<V.length),gB w (Fr w B (az m a b c v rs V)) rs[i].l V[i].2.2
theorem RS.cn (h:RS w B m a b c v rs V) {g cp:Nat}(hv:v=.slice (some ⟨g,0,none⟩) rs.length cp) {i:Nat}(hi:i<rs.length):Cn g (i*2) (BT v rs.length V i):=by
 subst hv;exact VV 216 g rs.length cp (aS (V.take i)) (aS (V.drop (i+1))) (by rw [jM,List.length_take,h.len];omega)
theorem RS.look (h:RS w B m a b c v rs V) (hA:VW a b c) {i:Nat}{R:Il.Rw}(hR:rs[i]? = some R):∃ (x y:Value) (z:List (List Value)),aN (az m a b c v rs V) (mu a b c i) (BT v rs.length V i) R x y z=az m a b c v rs V∧Hq w B (aN (az m a b c v rs V) (mu a b c i) (BT v rs.length V i) R x y z)∧gB w (Fr w B (aN (az m a b c v rs V) (mu a b c i) (BT v rs.length V i) R x y z)) R.l z:=by
 obtain ⟨hi,rfl⟩:=List.getElem?_eq_some_iff.1 hR;have hV:i<V.length:=by rw [h.len];exact hi
 have e:=Gw (m:=m) (v:=v) hA hi hV;refine ⟨V[i].1,V[i].2.1,V[i].2.2,e,?_,?_⟩
 ·rw [e];exact h.hp
 ·rw [e];exact h.kids i hi hV
theorem RS.turned (h:RS w B m a b c v rs V) (hA:VW a b c) {i:Nat}{R:Il.Rw}(hR:rs[i]? = some R) {R':Il.Rw}{x y x0 y0:Value}{z z0:List (List Value)}(he:aN (az m a b c v rs V) (mu a b c i) (BT v rs.length V i) R x0 y0 z0=az m a b c v rs V)
  (t:bV B (aN (az m a b c v rs V) (mu a b c i) (BT v rs.length V i) R x0 y0 z0) w (aN (az m a b c v rs V) (mu a b c i) (BT v rs.length V i) R' x y z) w')
  (hI:gB w' (Fr w' B (aN (az m a b c v rs V) (mu a b c i) (BT v rs.length V i) R' x y z)) R'.l z):RS w' B m a b c v (rs.set i R') (V.set i (x,y,z))∧bV B (az m a b c v rs V) w (az m a b c v (rs.set i R') (V.set i (x,y,z))) w':=by
 obtain ⟨hi,rfl⟩:=List.getElem?_eq_some_iff.1 hR;have hV:i<V.length:=by rw [h.len];exact hi
 rw [he,si hA hi hV] at t;rw [si hA hi hV] at hI;refine ⟨⟨t.hp,by rw [List.length_set,List.length_set,h.len],fun j hj hj'=>?_⟩,t⟩
 by_cases hij:i=j
 ·subst hij
  rw [List.getElem_set_self,List.getElem_set_self];exact hI
 ·rw [List.getElem_set_ne hij,List.getElem_set_ne hij]
  exact t.kids (h.kids j (by rw [List.length_set] at hj;exact hj) (by rw [List.length_set] at hj';exact hj'))
theorem RS.ext (h:RS w B m a b c v rs V) (hB:B≤w.heap.size) (hb:Below w.heap.size w w'):RS w' B m a b c v rs V :=
 ⟨(h.hp.call hB hb).hp,h.len,fun i h1 h2=>(h.hp.call hB hb).kids (h.kids i h1 h2)⟩
theorem RS.along (h:RS w B m a b c v rs V) {m':Ky→Option Pa}(t:bV B (az m a b c v rs V) w (az m' a b c v rs V) w'):RS w' B m' a b c v rs V :=
 ⟨t.hp,h.len,fun i h1 h2=>t.kids (h.kids i h1 h2)⟩
theorem nO (m:Ky→Option Pa) (a b c:Nat) (v:Value) (rs:List Il.Rw) (V:List V3):az m a b c v rs V (a,0)=some (.row 216 2 v rs.length (aS V)):=by unfold az;rw [if_pos rfl]
theorem RS.arr (h:RS w B m a b c v rs V):w.ownsRow B 216 2 v rs.length (aS V):=h.hp.holds _ _ (nO m a b c v rs V)
theorem RS.slice (h:RS w B m a b c v rs V) (hn:0<rs.length):∃ g cp,v=.slice (some ⟨g,0,none⟩) rs.length cp∧rs.length≤cp∧B≤g∧g<w.heap.size:=fT h.arr hn
theorem RS.grow (h:RS w B m a b c v rs V) (hB:B≤w.heap.size) {v':Value}{j:Nat}(hg:w.grownBy w' v.ownBlock) (ho:w'.ownsRow B 216 2 v' (rs.length+j) (aS V++aS (List.replicate j (.slice none 0 0,.slice none 0 0,[])))) (hat:At w.heap.size v v') :
  RS w' B m a b c v' (rs++List.replicate j Il.Rw.nil) (V++List.replicate j (.slice none 0 0,.slice none 0 0,[]))∧bV B (az m a b c v rs V) w (az m a b c v' (rs++List.replicate j Il.Rw.nil) (V++List.replicate j (.slice none 0 0,.slice none 0 0,[]))) w':=by
 have t1:=h.hp.ue (k:=(a,0)) (.row 216 2 v' (rs++List.replicate j Il.Rw.nil).length (aS (V++List.replicate j (.slice none 0 0,.slice none 0 0,[])))) (nO m a b c v rs V) hg (by
  show World.ownsRow _ _ _ _ _ _ _;rw [List.length_append,List.length_replicate,jw];exact ho) hat hB
 have old:∀ (f:Il.Rw→V3→Pa) (i:Nat) (x:Pa),(∀ R,R=Il.Rw.nil→(f R (.slice none 0 0,.slice none 0 0,[])).block=none∧(f R (.slice none 0 0,.slice none 0 0,[])).holds w' B)→atR (rs++List.replicate j Il.Rw.nil) (V++List.replicate j (.slice none 0 0,.slice none 0 0,[])) f i=some x→atR rs V f i=some x∨(x.block=none∧x.holds w' B):=by
  intro f i x hf he;unfold atR at he ⊢;rcases Nat.lt_or_ge i rs.length with hi | hi
  ·rw [List.getElem?_append_left hi,List.getElem?_append_left (by rw [h.len];exact hi)] at he
   exact .inl he
  ·rw [List.getElem?_append_right hi,List.getElem?_append_right (by rw [h.len];exact hi),h.len] at he
   rw [List.getElem?_replicate,List.getElem?_replicate] at he
   by_cases hj:i-rs.length<j
   ·rw [if_pos hj,if_pos hj] at he
    injection he with he;subst he;exact .inr (hf _ rfl)
   ·rw [if_neg hj,if_neg hj] at he;cases he
 have t2:bV B (uq (az m a b c v rs V) (a,0) (.row 216 2 v' (rs++List.replicate j Il.Rw.nil).length (aS (V++List.replicate j (.slice none 0 0,.slice none 0 0,[]))))) w' (az m a b c v' (rs++List.replicate j Il.Rw.nil) (V++List.replicate j (.slice none 0 0,.slice none 0 0,[]))) w':=by
  refine t1.hp.MN id (fun q x hx=>?_) (fun q q' x x' _ _ _ e=>e);obtain ⟨q1,q2⟩:=q;unfold az at hx
  by_cases ha:(q1,q2)=(a,0)
  ·rw [if_pos ha] at hx
   rw [id,ha,dO];exact .inl hx
  ·rw [if_neg ha] at hx
   rw [id,aT _ _ ha];unfold az;rw [if_neg ha];simp only at hx ⊢
   by_cases hb:q1=b
   ·rw [if_pos hb] at hx ⊢
    exact old _ _ _ (fun R hR=>by subst hR;exact ⟨rfl,World.ownsRow_nil _ _ _ _⟩) hx
   ·rw [if_neg hb] at hx ⊢
    by_cases hc:q1=c
    ·rw [if_pos hc] at hx ⊢
     exact old _ _ _ (fun R hR=>by subst hR;exact ⟨rfl,World.ownsRow_nil _ _ _ _⟩) hx
    ·rw [if_neg hc] at hx ⊢
     exact .inl hx
 have t:=t1.trans t2;refine ⟨⟨t.hp,by simp [h.len],fun i hi hi'=>?_⟩,t⟩;rcases Nat.lt_or_ge i rs.length with hl | hl
 ·rw [List.getElem_append_left hl,List.getElem_append_left (by rw [h.len];exact hl)]
  exact t.kids (h.kids i hl _)
 ·rw [List.getElem_append_right hl,List.getElem_append_right (by rw [h.len];exact hl),List.getElem_replicate,List.getElem_replicate]
  exact p4
theorem RS.pop (h:RS w B m a b c v rs V) (hA:VW a b c) (hB:B≤w.heap.size) {n g cp:Nat}(hn:rs.length=n+1) (hv:v=.slice (some ⟨g,0,none⟩) (n+1) cp) :
  RS w B m a b c (.slice (some ⟨g,0,none⟩) n cp) (rs.take n) (V.take n)∧bV B (az m a b c v rs V) w (az m a b c (.slice (some ⟨g,0,none⟩) n cp) (rs.take n) (V.take n)) w ∧
   ∀ (hi:n<rs.length) (hi':n<V.length) (A:Option Addr) (cA:Nat),V[n].1=.slice A rs[n].l.length cA→eu w (Fr w B (az m a b c (.slice (some ⟨g,0,none⟩) n cp) (rs.take n) (V.take n))) 4 A rs[n].l.length V[n].2.2.flatten∧gB w (Fr w B (az m a b c (.slice (some ⟨g,0,none⟩) n cp) (rs.take n) (V.take n))) rs[n].l V[n].2.2:=by
 subst hv;have harr:=h.arr;have YN:=h.len;have htl:(rs.take n).length=n:=by rw [List.length_take];omega
 have ho:w.ownsRow B 216 2 (.slice (some ⟨g,0,none⟩) n cp) (rs.take n).length (aS (V.take n)):=by
  rw [htl];refine ⟨by rw [jM,List.length_take];omega,?_⟩;rcases harr.2 with ⟨e,_⟩ | ⟨g',cap,cur,e,h1,h2,h3,h4,h5,h6⟩
  ·simp at e
  ·injection e with e1 e2 e3
   injection e1 with e1;injection e1 with e1;subst e1 e3;refine .inr ⟨g,cp,cur,rfl,h1,h2,by omega,h4,h5,?_⟩;have e4:aS V=aS (V.take n)++aS (V.drop n):=by rw [← jw,List.take_append_drop]
   have e5:(aS (V.take n)).length=n*2:=by rw [jM,List.length_take];omega
   have:(cur.toList.take (rs.length*2)).take (n*2)=(aS V).take (n*2):=by rw [h6]
   rw [List.take_take,show min (n*2) (rs.length*2)=n*2 by omega,e4,List.take_left' e5] at this;exact this
 have t1:=h.hp.ue (k:=(a,0)) (.row 216 2 (.slice (some ⟨g,0,none⟩) n cp) (rs.take n).length (aS (V.take n))) (nO m a b c _ rs V) (World.grownBy.refl w _) ho (fun g' hg'=>.inl hg') hB;have old:∀ (f:Il.Rw→V3→Pa) (i:Nat) (x:Pa),atR (rs.take n) (V.take n) f i=some x→atR rs V f i=some x∧i<n:=by
  intro f i x he;unfold atR at he ⊢;rw [List.getElem?_take,List.getElem?_take] at he
  by_cases hi:i<n
  ·rw [if_pos hi,if_pos hi] at he;exact ⟨he,hi⟩
  ·rw [if_neg hi,if_neg hi] at he;cases he
 have hsub:∀ q x,az m a b c (.slice (some ⟨g,0,none⟩) n cp) (rs.take n) (V.take n) q=some x→uq (az m a b c (.slice (some ⟨g,0,none⟩) (n+1) cp) rs V) (a,0) (.row 216 2 (.slice (some ⟨g,0,none⟩) n cp) (rs.take n).length (aS (V.take n))) q=some x∧q≠(b,n):=by
  intro q x hx;obtain ⟨q1,q2⟩:=q;unfold az at hx
  by_cases ha:(q1,q2)=(a,0)
  ·rw [if_pos ha] at hx
   refine ⟨by rw [ha,dO];exact hx,fun e=>?_⟩;rw [e] at ha;exact hA.ab (congrArg Prod.fst ha)
  ·rw [if_neg ha] at hx
   rw [aT _ _ ha];unfold az;rw [if_neg ha];simp only at hx ⊢
   by_cases hb:q1=b
   ·rw [if_pos hb] at hx ⊢
    obtain ⟨h1,h2⟩:=old _ _ _ hx;exact ⟨h1,fun e=>by have:=congrArg Prod.snd e;simp only at this;omega⟩
   ·rw [if_neg hb] at hx ⊢
    refine ⟨?_,fun e=>hb (congrArg Prod.fst e)⟩
    by_cases hc:q1=c
    ·rw [if_pos hc] at hx ⊢
     exact (old _ _ _ hx).1
    ·rw [if_neg hc] at hx ⊢
     exact hx
 have t2:bV B _ w (az m a b c (.slice (some ⟨g,0,none⟩) n cp) (rs.take n) (V.take n)) w:=t1.hp.MN id (fun q x hx=>.inl (hsub q x hx).1) (fun q q' x x' _ _ _ e=>e);have t:=t1.trans t2;refine ⟨⟨t.hp,by rw [htl,List.length_take];omega,fun i hi hi'=>?_⟩,t,fun hi hi' A cA hVA=>⟨?_,t.kids (h.kids n hi hi')⟩⟩
 ·rw [List.getElem_take,List.getElem_take]
  rw [htl] at hi;exact t.kids (h.kids i (by omega) (by omega))
 ·have hb:az m a b c (.slice (some ⟨g,0,none⟩) (n+1) cp) rs V (b,n)=some (kX rs[n] V[n].1 V[n].2.2):=by
   unfold az;rw [if_neg (fun e=>hA.ab (congrArg Prod.fst e)),if_pos rfl];unfold atR;rw [List.getElem?_eq_getElem hi,List.getElem?_eq_getElem hi']
  have hown:w.ownsRow B 35 4 V[n].1 rs[n].l.length V[n].2.2.flatten:=h.hp.holds _ _ hb;have hbl:=hown;rw [hVA] at hbl;have hr:=jl hbl;refine ⟨hr.1,fun hp=>?_⟩;obtain ⟨b0,o,h1,h2,h3⟩:=hr.2 hp;refine ⟨b0,o,h1,⟨h2.1,h2.2,fun q x hx e=>?_⟩,h3⟩;obtain ⟨h4,h5⟩:=hsub q x hx;have hb1:uq (az m a b c (.slice (some ⟨g,0,none⟩) (n+1) cp) rs V) (a,0) (.row 216 2 (.slice (some ⟨g,0,none⟩) n cp) (rs.take n).length (aS (V.take n))) (b,n)=some (kX rs[n] V[n].1 V[n].2.2):=by
   rw [aT _ _ (fun e=>hA.ab (congrArg Prod.fst e))];exact hb
  refine h5 (t1.hp.apart _ _ _ _ b0 h4 hb1 e ?_);show V[n].1.ownBlock=some b0;rw [hVA,h1];rfl
end
end Go.Proofs.YtddkjkockbcamaaGreatDoor
