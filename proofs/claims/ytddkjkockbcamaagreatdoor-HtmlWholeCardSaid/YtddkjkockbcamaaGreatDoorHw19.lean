/- IlPt IlText IlSettle IlMath2 IlMath3 HmMath HmMem IlRow IlPlain IlReg IlStores IlMath4 IlReady IlMath5 IlFew IlStress IlPush EmKindZA EmKindZB EmKindPA EmKindPB EmKind IlWiths IlFew2 IlMass HmLen IlFine HmRef IlWithinT IlWithinF IlParse HmBlk IlFold IlRows IlHq IlPRune IlPSay IlTS IlPAll IlPNest -/
import Derived.Test.YtddkjkockbcamaaGreatDoorHw18
import Derived.Deep.DeepCutAuto
import Derived.Test.YtddkjkockbcamaaGreatDoorHw17
import Derived.Test.YtddkjkockbcamaaGreatDoorHw04
import Derived.Test.YtddkjkockbcamaaGreatDoorHw03
import Derived.Test.YtddkjkockbcamaaGreatDoorHw10
import Derived.Test.YtddkjkockbcamaaGreatDoorHw02
import Derived.Maps.OwnSet
import Derived.Maps.OwnOps
import Derived.Lib.RuneBytes
set_option maxHeartbeats 16000000
set_option maxRecDepth 100000
namespace Go.Proofs.YtddkjkockbcamaaGreatDoor
open Go.RowKit
def Il.place (l:List Il.Pt) (r:Nat):Nat:=(l.findIdx? fun p=>p.run==some r).getD 0
theorem DO {l:List Il.Pt}{r k:Nat}(hk:k<l.length) (h:l[k].run=some r) (hno:∀ p∈l.take k,p.run≠some r):Il.place l r=k:=by
 unfold Il.place;have:l.findIdx? (fun p=>p.run==some r)=some k:=by
  rw [List.findIdx?_eq_some_iff_getElem];refine ⟨hk,by simpa using h,fun j hj=>?_⟩;have hm:l[j]'(by omega)∈l.take k:=by
   have:(l.take k)[j]'(by rw [List.length_take];omega)=l[j]'(by omega):=List.getElem_take;rw [← this];exact List.getElem_mem _
  simpa using hno _ hm
 rw [this];rfl
end Go.Proofs.YtddkjkockbcamaaGreatDoor
namespace Go.Proofs.YtddkjkockbcamaaGreatDoor
open Go.RowKit
attribute [local go_sem] aD av aq
theorem LU:EI Tryz.prog 33 35 4 64:=EI.mk' (z:=.agg #[.int .i64 0,.string ⟨#[]⟩,.string ⟨#[]⟩,.slice none 0 0]) Tryz.underlying33 (by kernel_rfl) rfl (by omega)
namespace Il
def fK:In→Nat
 | .mk _ t _ _=>t.length
def eY (o:List In):Nat:=(o.map fK).sum
def jj (l:List Pt):Nat:=(l.map fun p=>fK (kO p)).sum
theorem fT (o:List In) (d:List UInt8) (ks:List In):dM o (.mk 0 [] d ks)=o:=by simp [dM]
theorem fZ (o:List In) {t:List UInt8}(h:t≠[]) (t' d' d:List UInt8) (ks' ks:List In):dM (o++[.mk 0 t' d' ks']) (.mk 0 t d ks)=o++[.mk 0 (t'++t) d' ks']:=by simp [dM,h]
theorem uy (o:List In) {kd:Nat}(h:kd≠0) (t d:List UInt8) (ks:List In):dM o (.mk kd t d ks)=o++[.mk kd t d ks]:=by
 cases kd with
 | zero=>exact absurd rfl h
 | succ n=>rfl
theorem jX {t:List UInt8}(h:t≠[]) (d:List UInt8) (ks:List In):dM [] (.mk 0 t d ks)=[.mk 0 t d ks]:=by simp [dM,h]
theorem jT (o:List In) {t:List UInt8}(h:t≠[]) {kd':Nat}(hk:kd'≠0) (t' d' d:List UInt8) (ks' ks:List In):dM (o++[.mk kd' t' d' ks']) (.mk 0 t d ks)=o++[.mk kd' t' d' ks']++[.mk 0 t d ks]:=by
 cases kd' with
 | zero=>exact absurd rfl hk
 | succ n=>simp [dM,h]
theorem bt (kd:Nat) (t d:List UInt8) (ks:List In) (n:Nat) (c:UInt8):kO ⟨.mk kd t d ks,none,n,c⟩=.mk kd t d ks:=rfl
theorem gL (kd:Nat) (t d:List UInt8) (ks:List In) (r n:Nat) (c:UInt8):kO ⟨.mk kd t d ks,some r,n,c⟩=.mk kd (List.replicate n c) d ks:=rfl
end Il
end Go.Proofs.YtddkjkockbcamaaGreatDoor
namespace Go.Proofs.YtddkjkockbcamaaGreatDoor.Il
def tM (l:List Pt) (i s:Nat):List Pt:=l.mapIdx fun j p=>if j=i then { p with left:=p.left-s } else p
def bK (l:List Pt) (x:Nat×Nat×Nat):List Pt :=
 (tM (tM l (place l x.1) x.2.2) (place l x.2.1) x.2.2).take (place l x.1+1) ++
  [⟨.mk (if x.2.2=2 then 3 else 2) [] [] (settle ((l.take (place l x.2.1)).drop (place l x.1+1))),none,0,0⟩] ++
  (tM (tM l (place l x.1) x.2.2) (place l x.2.1) x.2.2).drop (place l x.2.1)
def cY (l:List Pt) (runs:List Em.R):List In:=settle ((Em.pairs runs).foldl bK l)
def cV (l:List Pt):List Nat:=l.filterMap fun p=>p.run
theorem dD (a b:List Pt):cV (a++b)=cV a++cV b:=by simp [cV]
theorem gO (p:Pt) (b:List Pt):cV (p::b)=(match p.run with | some r=>[r] | none=>[])++cV b:=by
 unfold cV;rw [List.filterMap_cons];cases p.run<;>rfl
theorem gG {l:List Pt}{r:Nat}:r∈cV l↔∃ p∈l,p.run=some r:=by simp [cV]
theorem Fx {A B:List Pt}{p:Pt}{r:Nat}(h:p.run=some r) (hA:∀ q∈A,q.run≠some r):place (A++p::B) r=A.length:=by
 refine DO (by simp) (by simp [h]) fun q hq=>?_;rw [List.take_left' rfl] at hq;exact hA q hq
theorem oO:∀ {l:List Pt}{r:Nat},r∈cV l→∃ A p B,l=A++p::B∧p.run=some r∧∀ q∈A,q.run≠some r
 | [],r,h=>by simp [cV] at h
 | x::l,r,h=>by
  by_cases hx:x.run=some r
  ·exact ⟨[],x,l,rfl,hx,by simp⟩
  ·have h2:r∈cV l:=by
    obtain ⟨p,hp,hr⟩:=gG.1 h;rcases List.mem_cons.1 hp with rfl | hp
    ·exact absurd hr hx
    ·exact gG.2 ⟨p,hp,hr⟩
   obtain ⟨A,p,B,e,h3,h4⟩:=oO h2;refine ⟨x::A,p,B,by rw [e];rfl,h3,fun q hq=>?_⟩;rcases List.mem_cons.1 hq with rfl | hq
   ·exact hx
   ·exact h4 q hq
theorem iu {l:List Pt}{a b:Nat}(hs:(cV l).Pairwise (· < ·)) (ha:a∈cV l) (hb:b∈cV l) (hab:a<b) :
  ∃ A p B q C,l=A++p::(B++q::C)∧p.run=some a∧q.run=some b∧place l a=A.length∧place l b=A.length+1+B.length∧(∀ x∈cV A,x<a)∧(∀ x∈cV B,a<x∧x<b)∧∀ x∈cV C,b<x:=by
 obtain ⟨A,p,R,rfl,hp,hA⟩:=oO ha;have e1:cV (A++p::R)=cV A++(a::cV R):=by rw [dD,gO,hp];rfl
 rw [e1] at hs hb;rw [List.pairwise_append] at hs;obtain ⟨_,s2,s3⟩:=hs;rw [List.pairwise_cons] at s2;have hbR:b∈cV R:=by
  rcases List.mem_append.1 hb with h | h
  ·have:=s3 b h a (by simp);omega
  ·rcases List.mem_cons.1 h with h | h
   ·omega
   ·exact h
 obtain ⟨B,q,C,rfl,hq,hB⟩:=oO hbR;have e2:cV (B++q::C)=cV B++(b::cV C):=by rw [dD,gO,hq];rfl
 have s4:=s2.2;have s5:=s2.1;rw [e2] at s4 s5;rw [List.pairwise_append] at s4;obtain ⟨_,s6,s7⟩:=s4;rw [List.pairwise_cons] at s6;have hAl:∀ x∈cV A,x<a:=fun x hx=>s3 x hx a (by simp);refine ⟨A,p,B,q,C,rfl,hp,hq,Fx hp hA,?_,hAl,fun x hx=>⟨s5 x (by simp [hx]),s7 x hx b (by simp)⟩,fun x hx=>s6.1 x hx⟩;have e3:A++p::(B++q::C)=(A++p::B)++q::C:=by simp
 rw [e3,Fx hq]
 ·simp;omega
 ·intro y hy hyr
  rcases List.mem_append.1 hy with h | h
  ·have:=hAl b (gG.2 ⟨y,h,hyr⟩);omega
  ·rcases List.mem_cons.1 h with h | h
   ·subst h;rw [hp] at hyr;injection hyr with hyr;omega
   ·exact hB y h hyr
theorem BJ (A R:List Pt) (p:Pt) (s:Nat):tM (A++p::R) A.length s=A++{ p with left:=p.left-s }::R:=by
 apply List.ext_getElem?;intro j;unfold tM;rw [List.getElem?_mapIdx];rcases Nat.lt_trichotomy j A.length with h | h | h
 ·rw [List.getElem?_append_left h,List.getElem?_append_left h,List.getElem?_eq_getElem h]
  simp only [Option.map_some,if_neg (show ¬ j=A.length by omega)]
 ·subst h
  rw [List.getElem?_append_right (Nat.le_refl _),List.getElem?_append_right (Nat.le_refl _),Nat.sub_self];simp
 ·rw [List.getElem?_append_right (by omega),List.getElem?_append_right (by omega)]
  obtain ⟨m,hm⟩:∃ m,j-A.length=m+1:=⟨j-A.length-1,by omega⟩
  rw [hm,List.getElem?_cons_succ,List.getElem?_cons_succ];cases R[m]? with
  | none=>rfl
  | some x=>simp only [Option.map_some,if_neg (show ¬ j=A.length by omega)]
theorem dY {A B C:List Pt}{p q:Pt}{a b s:Nat}(ha:place (A++p::(B++q::C)) a=A.length) (hb:place (A++p::(B++q::C)) b=A.length+1+B.length) :
  bK (A++p::(B++q::C)) (a,b,s)=A++{ p with left:=p.left-s }::(⟨.mk (if s=2 then 3 else 2) [] [] (settle B),none,0,0⟩::{ q with left:=q.left-s }::C):=by
 unfold bK;simp only [ha,hb];have e1:∀ p':Pt,A++p'::(B++q::C)=(A++p'::B)++q::C:=fun p'=>by simp
 have hl:∀ p':Pt,(A++p'::B).length=A.length+1+B.length:=fun p'=>by simp;omega
 rw [BJ];have e2:=BJ (A++{ p with left:=p.left-s }::B) C q s;rw [hl] at e2;rw [e1,e2];have e3:(A++{ p with left:=p.left-s }::B++{ q with left:=q.left-s }::C).take (A.length+1)=A++[{ p with left:=p.left-s }]:=by
  have:A++{ p with left:=p.left-s }::B++{ q with left:=q.left-s }::C=(A++[{ p with left:=p.left-s }])++(B++{ q with left:=q.left-s }::C):=by simp
  rw [this];exact List.take_left' (by simp)
 have e4:(A++{ p with left:=p.left-s }::B++{ q with left:=q.left-s }::C).drop (A.length+1+B.length)={ q with left:=q.left-s }::C:=List.drop_left' (hl _);have e5:((A++p::(B++q::C)).take (A.length+1+B.length)).drop (A.length+1)=B:=by
  rw [e1,List.take_left' (hl p)];have:A++p::B=(A++[p])++B:=by simp
  rw [this];exact List.drop_left' (by simp)
 rw [e3,e4,e5];simp
theorem r5 (p:Pt) (R:List Pt) {r:Nat}(h:p.run=some r):cV (p::R)=r::cV R:=by rw [gO,h];rfl
theorem E0 {l:List Pt}{a b s:Nat}(hs:(cV l).Pairwise (· < ·)) (ha:a∈cV l) (hb:b∈cV l) (hab:a<b) :
  (cV (bK l (a,b,s))).Pairwise (· < ·)∧∀ r,r∈cV l→¬ (a<r∧r<b)→r∈cV (bK l (a,b,s)):=by
 obtain ⟨A,p,B,q,C,rfl,hp,hq,h1,h2,h3,h4,h5⟩:=iu hs ha hb hab;rw [dY h1 h2];have e1:cV (A++p::(B++q::C))=cV A++(a::(cV B++(b::cV C))):=by rw [dD,r5 p _ hp,dD,r5 q _ hq]
 have e2:cV (A++{ p with left:=p.left-s }::(⟨.mk (if s=2 then 3 else 2) [] [] (settle B),none,0,0⟩::{ q with left:=q.left-s }::C))=cV A++(a::(b::cV C)):=by
  rw [dD,r5 { p with left:=p.left-s } _ hp,gO,r5 { q with left:=q.left-s } _ hq];rfl
 rw [e1] at hs ⊢;rw [e2];constructor
 ·rw [List.pairwise_append] at hs ⊢
  obtain ⟨s1,s2,s3⟩:=hs;rw [List.pairwise_cons,List.pairwise_append] at s2;refine ⟨s1,?_,fun x hx y hy=>?_⟩
  ·rw [List.pairwise_cons]
   refine ⟨fun y hy=>?_,s2.2.2.1⟩;rcases List.mem_cons.1 hy with rfl | hy
   ·exact hab
   ·have:=h5 y hy;omega
  ·refine s3 x hx y ?_
   rcases List.mem_cons.1 hy with rfl | hy
   ·simp
   ·rcases List.mem_cons.1 hy with rfl | hy
    ·simp
    ·simp [hy]
 ·intro r hr hn
  rcases List.mem_append.1 hr with h | h
  ·exact List.mem_append.2 (.inl h)
  ·refine List.mem_append.2 (.inr ?_)
   rcases List.mem_cons.1 h with rfl | h
   ·simp
   ·rcases List.mem_append.1 h with h | h
    ·exact absurd (h4 r h) hn
    ·rcases List.mem_cons.1 h with rfl | h
     ·simp
     ·simp [h]
theorem WD {X:List (Nat×Nat×Nat)}{l:List Pt}(h1:(cV l).Pairwise (· < ·)) (h2:∀ x∈X,x.1∈cV l∧x.2.1∈cV l∧x.1<x.2.1) (h3:X.Pairwise Em.outside) :
  ∀ k,k≤X.length→(cV ((X.take k).foldl bK l)).Pairwise (· < ·)∧∀ j (hj:j<X.length),k≤j→X[j].1∈cV ((X.take k).foldl bK l)∧X[j].2.1∈cV ((X.take k).foldl bK l):=by
 intro k
 induction k with
 | zero=>exact fun _=>⟨h1,fun j hj _=>⟨(h2 _ (List.getElem_mem hj)).1,(h2 _ (List.getElem_mem hj)).2.1⟩⟩
 | succ k ih =>
  intro hk;obtain ⟨i1,i2⟩:=ih (by omega);have hk':k<X.length:=by omega
  obtain ⟨j1,j2⟩:=i2 k hk' (Nat.le_refl _);rw [List.take_succ_eq_append_getElem hk',List.foldl_append];have hj:=E0 (s:=X[k].2.2) i1 j1 j2 (h2 _ (List.getElem_mem hk')).2.2;refine ⟨hj.1,fun j hjl hkj=>?_⟩;have ho:=List.pairwise_iff_getElem.1 h3 k j hk' hjl (by omega);obtain ⟨m1,m2⟩:=i2 j hjl (by omega);exact ⟨hj.2 _ m1 ho.1,hj.2 _ m2 ho.2⟩
theorem eg (a b:List Pt):jj (a++b)=jj a+jj b:=by simp [jj]
theorem eI (p:Pt) (b:List Pt):jj (p::b)=fK (kO p)+jj b:=by simp [jj]
theorem G3 {p:Pt}{r:Nat}(h:p.run=some r) (s:Nat):fK (kO { p with left:=p.left-s })≤fK (kO p):=by
 obtain ⟨⟨kd,t,d,ks⟩,rn,n,c⟩:=p;simp only at h;subst h;simp only [gL,fK,List.length_replicate];omega
theorem Mg {l:List Pt}{a b s:Nat}(hs:(cV l).Pairwise (· < ·)) (ha:a∈cV l) (hb:b∈cV l) (hab:a<b):jj (bK l (a,b,s))≤jj l∧(bK l (a,b,s)).length≤l.length+1:=by
 obtain ⟨A,p,B,q,C,rfl,hp,hq,h1,h2,_,_,_⟩:=iu hs ha hb hab;rw [dY h1 h2];have e1:=G3 hp s;have e2:=G3 hq s;constructor
 ·rw [eg,eg,eI,eI,eI,eI,eg,eI]
  have e3:fK (kO ⟨.mk (if s=2 then 3 else 2) [] [] (settle B),none,0,0⟩)=0:=rfl;omega
 ·simp only [List.length_append,List.length_cons];omega
end Go.Proofs.YtddkjkockbcamaaGreatDoor.Il
namespace Go.Proofs.YtddkjkockbcamaaGreatDoor.Il
open Go.Lib
structure Sc where
  l:List Pt
  runs:List Em.R
def dU (s:List UInt8) (i:Nat):Option (List UInt8×Nat×Nat) :=
  match Lk.close s (i:Int) with
  | none=>none
  | some j=>(match Lk.dest s ((j:Int)+1) with | none=>none | some (d,e)=>some (d,j,e))
def piece (link:Bool) (inner:List UInt8→List In) (s:List UInt8) (i:Nat) (st:Sc):Nat×Sc :=
  if s.getD i 0=96 then
    (match Cd.span s (i:Int) with
     | some (t,e)=>(e,⟨st.l++[⟨.mk 1 t [] [],none,0,0⟩],st.runs⟩)
     | none=>(i+Fn.run 96 (s.drop i),⟨fL st.l (mid s i (i+Fn.run 96 (s.drop i))),st.runs⟩))
  else match (if link=true then none else Lk.auto s (i:Int)) with
  | some (t,e)=>(e,⟨st.l++[⟨.mk 4 [] t [word (Ru.enc (Ru.aS t))],none,0,0⟩],st.runs⟩)
  | none=>match (if link=true then none else dU s i) with
    | some (d,j,e)=>(e,⟨st.l++[⟨.mk 4 [] d (inner (mid s (i+1) j)),none,0,0⟩],st.runs⟩)
    | none=>match Em.kind s (i:Int) with
      | some (r,e)=>(e,⟨st.l++[⟨none_,some st.runs.length,r.n.toNat,r.ch⟩],st.runs++[r]⟩)
      | none=>if s.getD i 0=10 then (i+1,⟨st.l++[⟨.mk 5 [] [] [],none,0,0⟩],st.runs⟩)
                else ((Es.next s i).2.1,⟨fL st.l (encodeRune ((Es.next s i).1:Int)),st.runs⟩)
def fC (link:Bool) (inner:List UInt8→List In):Nat→List UInt8→Nat→Sc→Sc
  | 0,_,_,st=>st
  | f+1,s,i,st=>if i<s.length then fC link inner f s (piece link inner s i st).1 (piece link inner s i st).2 else st
def scan (link:Bool) (inner:List UInt8→List In) (s:List UInt8) (i:Nat) (st:Sc):Sc:=fC link inner (s.length+1-i) s i st
def within (link:Bool) (inner:List UInt8→List In) (s:List UInt8):List In :=
  cY (scan link inner s 0 ⟨[],[]⟩).l (scan link inner s 0 ⟨[],[]⟩).runs
def inLink (s:List UInt8):List In:=within true (fun _=>[]) s
def parse (s:List UInt8):List In:=within false inLink s
theorem BC {s:List UInt8}{i:Nat}{r:Em.R}{e:Nat}(h:Em.kind s (i:Int)=some (r,e)):i<e∧e≤s.length:=by
  unfold Em.kind at h
  split at h
  · rename_i hs
    have hi:i<s.length:=by unfold Em.starts at hs;have:=(of_decide_eq_true hs).2.1;simpa using this
    rw [show ((i:Int)).toNat=i from by omega,Em.getD_at hi] at h;simp only [Option.some.injEq,Prod.mk.injEq] at h;have h1:=Em.WU hi;have h2:=Em.aaa hi s[i];omega
  · cases h
theorem Bz {s:List UInt8}{k:Nat}{d:List UInt8}{e:Nat}(h:Lk.dest s (k:Int)=some (d,e)):k<e∧e≤s.length:=by
  unfold Lk.dest at h
  split at h
  · rename_i hc
    obtain ⟨j,hj,he⟩:=Option.map_eq_some_iff.1 h;injection he with _ he;have:=Lk.rB _ _ _ hj;simp only [Int.toNat_natCast] at this;omega
  · cases h
theorem dZ {s:List UInt8}:∀ (f i d k:Nat),Lk.gM f s i d=some k→i≤k∧k<s.length
  | 0,_,_,_,h=>by simp [Lk.gM] at h
  | f+1,i,d,k,h=>by
    unfold Lk.gM at h
    split at h
    · rename_i hi
      have hm:=Lk.j0 hi
      split at h
      · split at h
        · injection h with h;omega
        · have:=dZ f _ _ k h;omega
      · have:=dZ f _ _ k h;omega
    · cases h
theorem lR {s:List UInt8}{i:Nat}{d:List UInt8}{j e:Nat}(h:dU s i=some (d,j,e)):i<j∧j<e∧e≤s.length:=by
  unfold dU at h
  split at h
  · cases h
  · rename_i j' hj
    split at h
    · cases h
    · rename_i d' e' he
      simp only [Option.some.injEq,Prod.mk.injEq] at h;have h1:=Bz (k:=j'+1) (by rw [Int.natCast_add];exact he);unfold Lk.close at hj
      split at hj
      · have:=dZ _ _ _ _ hj
        simp only [Int.toNat_natCast] at this;omega
      · cases hj
theorem piece_more (link:Bool) (inner:List UInt8→List In) {s:List UInt8}{i:Nat}(h:i<s.length) (st:Sc):i<(piece link inner s i st).1∧(piece link inner s i st).1≤s.length:=by
  unfold piece
  by_cases kV:s.getD i 0=96
  · rw [if_pos kV]
    cases hs:Cd.span s (i:Int) with
    | some x =>
      obtain ⟨t,e⟩:=x;have:=Cd.tP hs;simp only [Int.toNat_natCast] at this ⊢;omega
    | none =>
      have hr:1≤Fn.run 96 (s.drop i):=by rw [Fn.jS h (by simpa [List.getD,List.getElem?_eq_getElem h] using kV)];omega
      have:=Fn.gE 96 (s.drop i);rw [List.length_drop] at this;simp only;omega
  · rw [if_neg kV]
    cases ha:(if link=true then none else Lk.auto s (i:Int)) with
    | some x =>
      obtain ⟨t,e⟩:=x
      split at ha
      · cases ha
      · have:=Lk.pT ha
        simp only;omega
    | none =>
      simp only;cases hl:(if link=true then none else dU s i) with
      | some x =>
        obtain ⟨d,j,e⟩:=x
        split at hl
        · cases hl
        · have:=lR hl
          simp only;omega
      | none =>
        simp only;cases hk:Em.kind s (i:Int) with
        | some x =>
          obtain ⟨r,e⟩:=x;have:=BC hk;simp only;omega
        | none =>
          simp only;have:=Es.fj h
          split<;>simp only<;>omega
theorem yD (link:Bool) (inner:List UInt8→List In):∀ (f g:Nat) (s:List UInt8) (i:Nat) (st:Sc),s.length<f+i→s.length<g+i→fC link inner f s i st=fC link inner g s i st
  | 0,0,_,_,_,_,_=>rfl
  | 0,g+1,s,i,st,h,_=>by unfold fC;rw [if_neg (by omega)]
  | f+1,0,s,i,st,_,h=>by unfold fC;rw [if_neg (by omega)]
  | f+1,g+1,s,i,st,hf,hg=>by
    unfold fC
    by_cases hi:i<s.length
    · have hm:=piece_more link inner hi st
      rw [if_pos hi,if_pos hi,yD link inner f g s _ _ (by omega) (by omega)]
    · rw [if_neg hi,if_neg hi]
theorem RZ (link:Bool) (inner:List UInt8→List In) {s:List UInt8}{i:Nat}(h:s.length≤i) (st:Sc):scan link inner s i st=st:=by
  unfold scan;cases s.length+1-i with
  | zero=>rfl
  | succ f=>unfold fC;rw [if_neg (by omega)]
theorem Nr (link:Bool) (inner:List UInt8→List In) {s:List UInt8}{i:Nat}(h:i<s.length) (st:Sc) :
    scan link inner s i st=scan link inner s (piece link inner s i st).1 (piece link inner s i st).2:=by
  have hm:=piece_more link inner h st;unfold scan;obtain ⟨f,hf⟩:∃ f,s.length+1-i=f+1:=⟨s.length-i,by omega⟩
  rw [hf]
  conv=>lhs;unfold fC
  rw [if_pos h,yD link inner f (s.length+1-(piece link inner s i st).1) s _ _ (by omega) (by omega)]
end Go.Proofs.YtddkjkockbcamaaGreatDoor.Il
namespace Go.Proofs.YtddkjkockbcamaaGreatDoor.Hm
open Go.Lib
inductive Hi where
 | mk (kind:Int) (text dest:List UInt8) (kids:List Hi)
inductive Hb where
 | mk (kind level:Int) (text info:List UInt8) (line:Int) (kids:List Hb)
mutual
def C1:Il.In→Hi
 | .mk k t d ks=>.mk k t d (gu ks)
def gu:List Il.In→List Hi
 | []=>[]
 | x::r=>C1 x::gu r
end
mutual
def gQ:Bk.Tree→Hb
 | .mk k lv t i ln ks=>.mk k lv t i ln (iZ ks)
def iZ:List Bk.Tree→List Hb
 | []=>[]
 | x::r=>gQ x::iZ r
end
theorem jO:∀ l,(gu l).length=l.length
 | []=>rfl
 | x::r=>by simp only [gu,List.length_cons];rw [jO r]
theorem Cq:∀ l,(iZ l).length=l.length
 | []=>rfl
 | x::r=>by simp only [iZ,List.length_cons];rw [Cq r]
def tag (n:List UInt8):List UInt8:=60::(n++[62])
def shut (n:List UInt8):List UInt8:=60::47::(n++[62])
def di:List UInt8:=[99,111,100,101]
def HK:List UInt8:=[101,109]
def dN:List UInt8:=[115,116,114,111,110,103]
def fE:List UInt8:=[98,108,111,99,107,113,117,111,116,101]
def HG:List UInt8:=[117,108]
def HM:List UInt8:=[108,105]
def nP:List UInt8:=[112]
def Hh:List UInt8:=[112,114,101]
def goes (d:List UInt8):List UInt8:=if Lk.safe d=true then d else [35]
def anchor (d:List UInt8):List UInt8:=[60,97,32,104,114,101,102,61,34]++Es.page (goes d)++[34,62]
mutual
def inl:Hi→List UInt8
 | .mk k t d ks =>
  if k=0 then Es.page t
  else if k=1 then tag di++Es.page t++shut di
  else if k=2 then tag HK++dm ks++shut HK
  else if k=3 then tag dN++dm ks++shut dN
  else if k=4 then anchor d++dm ks++shut [97]
  else if k=5 then [10]
  else []
def dm:List Hi→List UInt8
 | []=>[]
 | x::r=>inl x++dm r
end
def level (n:Int):Nat:=(max (min n 6) 1).toNat
def nH (n:Int):List UInt8:=[104,UInt8.ofNat (48+level n)]
def para (t:List UInt8):List UInt8:=dm (gu (Il.parse t))
mutual
def blk:Hb→List UInt8
 | .mk k lv t _ _ ks =>
  if k=0 then bL ks
  else if k=1 then tag fE++[10]++bL ks++shut fE++[10]
  else if k=2 then tag HG++[10]++bL ks++shut HG++[10]
  else if k=3 then tag HM++[10]++bL ks++shut HM++[10]
  else if k=4 then tag nP++para t++shut nP++[10]
  else if k=5 then tag (nH lv)++para t++shut (nH lv)++[10]
  else if k=6 then [60,104,114,32,47,62,10]
  else if k=7 then tag Hh++tag di++Es.page t++shut di++shut Hh++[10]
  else []
def bL:List Hb→List UInt8
 | []=>[]
 | x::r=>blk x++bL r
end
def upTo:List UInt8→Option (List UInt8×List UInt8)
 | []=>none
 | b::r=>if b=62 then some ([],r) else (upTo r).map fun x=>(b::x.1,x.2)
theorem x6:∀ {l a r:List UInt8},upTo l=some (a,r)→l.length=a.length+1+r.length
 | [],_,_,h=>by simp [upTo] at h
 | b::l,a,r,h=>by
  unfold upTo at h
  split at h
  ·injection h with h;injection h with h1 h2;subst h1 h2;simp;omega
  ·obtain ⟨x,hx,he⟩:=Option.map_eq_some_iff.1 h
   injection he with h1 h2;subst h1 h2;have:=x6 (l:=l) (a:=x.1) (r:=x.2) (by rw [hx]);simp only [List.length_cons];omega
def name (t:List UInt8):List UInt8:=t.takeWhile (· != 32)
def turn (t:List UInt8) (st:List (List UInt8)):Option (List (List UInt8)) :=
 if t≠[]∧t.getLastD 0=47 then some st
 else if t.getD 0 0=47∧t≠[] then (match st with
  | []=>none
  | n::s=>if n=(name t).drop 1 then some s else none)
 else some (name t::st)
def Dk:Nat→List UInt8→List (List UInt8)→Bool
 | 0,_,_=>false
 | _+1,[],st=>st.isEmpty
 | f+1,b::r,st =>
  if b=60 then (match upTo r with
   | none=>false
   | some (t,r')=>(match turn t st with
    | none=>false
    | some st'=>Dk f r' st'))
  else Dk f r st
def fS (l:List UInt8) (st:List (List UInt8)):Bool:=Dk (l.length+1) l st
theorem uJ:∀ (f g:Nat) (l:List UInt8) (st:List (List UInt8)),l.length<f→l.length<g→Dk f l st=Dk g l st
 | 0,_,_,_,h,_=>by omega
 | _,0,_,_,_,h=>by omega
 | f+1,g+1,[],st,_,_=>rfl
 | f+1,g+1,b::r,st,hf,hg=>by
  rw [List.length_cons] at hf hg;unfold Dk
  split
  ·cases hu:upTo r with
   | none=>rfl
   | some x =>
    obtain ⟨t,r'⟩:=x;have:=x6 hu;simp only;cases turn t st with
    | none=>rfl
    | some st'=>exact uJ f g r' st' (by omega) (by omega)
  ·exact uJ f g r st (by omega) (by omega)
theorem VZ (st:List (List UInt8)):fS [] st=st.isEmpty:=rfl
theorem ux {b:UInt8}(h:b≠60) (r:List UInt8) (st:List (List UInt8)):fS (b::r) st=fS r st:=by
 unfold fS;rw [List.length_cons]
 conv=>lhs;unfold Dk
 rw [if_neg h]
theorem pY {t r r':List UInt8}(h:upTo r=some (t,r')) (st:List (List UInt8)):fS (60::r) st=(match turn t st with | none=>false | some st'=>fS r' st'):=by
 have hl:=x6 h;unfold fS;rw [List.length_cons]
 conv=>lhs;unfold Dk
 rw [if_pos rfl,h];simp only;cases turn t st with
 | none=>rfl
 | some st'=>exact uJ _ _ _ _ (by omega) (by omega)
theorem Lu {r:List UInt8}(h:upTo r=none) (st:List (List UInt8)):fS (60::r) st=false:=by
 unfold fS
 conv=>lhs;unfold Dk
 rw [if_pos rfl,h]
theorem jU:∀ (t r:List UInt8),(∀ b∈t,b≠62)→upTo (t++62::r)=some (t,r)
 | [],r,_=>by simp [upTo]
 | b::t,r,h=>by
  rw [List.cons_append];unfold upTo;rw [if_neg (h b (by simp)),jU t r (fun c hc=>h c (by simp [hc]))];rfl
theorem cO:∀ (t r:List UInt8) (st:List (List UInt8)),(∀ b∈t,b≠60)→fS (t++r) st=fS r st
 | [],_,_,_=>rfl
 | b::t,r,st,h=>by rw [List.cons_append,ux (h b (by simp)),cO t r st (fun c hc=>h c (by simp [hc]))]
structure Nm (n:List UInt8):Prop where
 some_:n≠[]
 not_:∀ b∈n,b≠62∧b≠32∧b≠47
theorem Ed {n:List UInt8}(h:∀ b∈n,b≠32):name n=n:=by
 unfold name;have:=List.takeWhile_append_of_pos (p:=(· != 32)) (l₁:=n) (l₂:=[]) (fun b hb=>by simpa using h b hb);simpa using this
theorem SV {n:List UInt8}(h:∀ b∈n,b≠47):n.getLastD 0≠47:=by
 rcases List.eq_nil_or_concat n with rfl | ⟨m,x,rfl⟩
 ·decide
 ·rw [List.concat_eq_append,List.getLastD_concat];exact h x (by simp)
theorem MI {n:List UInt8}(h:∀ b∈n,b≠47):n.getD 0 0≠47:=by
 cases n with
 | nil=>decide
 | cons b r=>exact h b (by simp)
theorem MT {n:List UInt8}(h:Nm n) (st:List (List UInt8)):turn n st=some (n::st):=by
 unfold turn;rw [if_neg (fun hc=>SV (fun b hb=>(h.not_ b hb).2.2) hc.2),if_neg (fun hc=>MI (fun b hb=>(h.not_ b hb).2.2) hc.1),Ed (fun b hb=>(h.not_ b hb).2.1)]
theorem NU {n:List UInt8}(h:Nm n) (st:List (List UInt8)):turn (47::n) (n::st)=some st:=by
 unfold turn;have hl:(47::n).getLastD 0≠47:=by
  rcases List.eq_nil_or_concat n with e | ⟨m,x,e⟩
  ·exact absurd e h.some_
  ·rw [e,List.concat_eq_append,← List.cons_append,List.getLastD_concat]
   exact (h.not_ x (by rw [e];simp)).2.2
 rw [if_neg (fun hc=>hl hc.2),if_pos ⟨rfl,by simp⟩];rw [Ed (n:=47::n) (by
  intro b hb;rcases List.mem_cons.1 hb with rfl | hb
  ·decide
  ·exact (h.not_ b hb).2.1)]
 simp
theorem fH {n:List UInt8}(h:Nm n) (r:List UInt8) (st:List (List UInt8)):fS (tag n++r) st=fS r (n::st):=by
 unfold tag;rw [List.cons_append,List.append_assoc,List.singleton_append,pY (jU n r (fun b hb=>(h.not_ b hb).1)),MT h]
theorem eZ {n:List UInt8}(h:Nm n) (r:List UInt8) (st:List (List UInt8)):fS (shut n++r) (n::st)=fS r st:=by
 unfold shut;rw [List.cons_append,List.cons_append,List.append_assoc,List.singleton_append,pY (t:=47::n) (r':=r) (by
  rw [← List.cons_append];exact jU (47::n) r (by
   intro b hb;rcases List.mem_cons.1 hb with rfl | hb
   ·decide
   ·exact (h.not_ b hb).1)),NU h]
theorem Ja (d r:List UInt8) (st:List (List UInt8)):fS (anchor d++r) st=fS r ([97]::st):=by
 have hp:=Es.xO (goes d);obtain ⟨P,hP⟩:∃ P,P=Es.page (goes d):=⟨_,rfl⟩
 unfold anchor;rw [← hP] at hp ⊢;have e:[60,97,32,104,114,101,102,61,34]++P++[34,62]++r=60::(([97,32,104,114,101,102,61,34]++(P++[34]))++62::r):=by simp
 rw [e,pY (jU _ r (by
  intro b hb;simp only [List.mem_append,List.mem_cons,List.not_mem_nil,or_false] at hb;rcases hb with hb | hb | rfl
  ·rcases hb with rfl | rfl | rfl | rfl | rfl | rfl | rfl | rfl<;>decide
  ·exact (hp b hb).2.1
  ·decide))]
 have ht:turn ([97,32,104,114,101,102,61,34]++(P++[34])) st=some ([97]::st):=by
  unfold turn;rw [if_neg (by
   rintro ⟨_,hc⟩;rw [← List.append_assoc,List.getLastD_concat] at hc;exact absurd hc (by decide)),if_neg (by
   rintro ⟨hc,_⟩;exact absurd hc (by simp))]
  rfl
 rw [ht]
theorem Dg:Nm di:=⟨by decide,by decide⟩
theorem ab9:Nm HK:=⟨by decide,by decide⟩
theorem F9:Nm dN:=⟨by decide,by decide⟩
theorem KJ:Nm fE:=⟨by decide,by decide⟩
theorem abl:Nm HG:=⟨by decide,by decide⟩
theorem abB:Nm HM:=⟨by decide,by decide⟩
theorem nmP:Nm nP:=⟨by decide,by decide⟩
theorem Xc:Nm Hh:=⟨by decide,by decide⟩
theorem nmA:Nm [97]:=⟨by decide,by decide⟩
theorem EX (n:Int):1≤level n∧level n≤6:=by unfold level;omega
theorem nmH (n:Int):Nm (nH n):=by
 have h:=EX n;unfold nH;rcases (show level n=1∨level n=2∨level n=3∨level n=4∨level n=5∨level n=6 by omega) with e | e | e | e | e | e<;>rw [e]<;>exact ⟨by decide,by decide⟩
end Go.Proofs.YtddkjkockbcamaaGreatDoor.Hm
namespace Go.Proofs.YtddkjkockbcamaaGreatDoor
open Go.RowKit
mutual
def HC (w:World) (Q:Nat→Prop):Hm.Hi→List Value→Prop
 | .mk kd tx de ks,cs=>∃ A c css,cs=[.int .i64 kd,.string (bs tx),.string (bs de),.slice A ks.length c]∧ks.length≤c∧e9 w Q 4 A ks.length css.flatten∧LA w Q ks css
def LA (w:World) (Q:Nat→Prop):List Hm.Hi→List (List Value)→Prop
 | [],css=>css=[]
 | t::ts,css=>∃ c0 cr,css=c0::cr∧HC w Q t c0∧LA w Q ts cr
end
mutual
theorem Ht {w w':World}{Q Q':Nat→Prop}(hf:∀ b,Q b→w'.heap[b]? = w.heap[b]?) (hq:∀ b,Q b→Q' b):∀ {t:Hm.Hi}{cs:List Value},HC w Q t cs→HC w' Q' t cs
 | .mk ..,_,h=>by
  unfold HC at h ⊢;obtain ⟨A,c,css,h1,h2,h3,h4⟩:=h;exact ⟨A,c,css,h1,h2,h3.frame hf hq,pV hf hq h4⟩
theorem pV {w w':World}{Q Q':Nat→Prop}(hf:∀ b,Q b→w'.heap[b]? = w.heap[b]?) (hq:∀ b,Q b→Q' b):∀ {ts:List Hm.Hi}{css:List (List Value)},LA w Q ts css→LA w' Q' ts css
 | [],_,h=>by unfold LA at h ⊢;exact h
 | _::_,_,h=>by
  unfold LA at h ⊢;obtain ⟨c0,cr,h1,h2,h3⟩:=h;exact ⟨c0,cr,h1,Ht hf hq h2,pV hf hq h3⟩
end
theorem DW {w:World}{Q:Nat→Prop}{kd:Int}{tx de:List UInt8}{ks:List Hm.Hi}{cs:List Value}(h:HC w Q (.mk kd tx de ks) cs):∃ (A:Option Addr) (c:Nat) (css:List (List Value)),cs=[.int .i64 kd,.string (bs tx),.string (bs de),.slice A ks.length c]∧ks.length≤c∧e9 w Q 4 A ks.length css.flatten∧LA w Q ks css:=by
 unfold HC at h;exact h
theorem O5 {w:World}{Q:Nat→Prop}{t:Hm.Hi}{cs:List Value}(h:HC w Q t cs):cs.length=4:=by
 cases t with
 | mk kd tx de ks=>obtain ⟨_,_,_,rfl,_⟩:=DW h;rfl
theorem R2 {w:World}{Q:Nat→Prop}:∀ {ts:List Hm.Hi}{css:List (List Value)},LA w Q ts css→∀ {k:Nat}(hk:k<ts.length),∃ cs,HC w Q ts[k] cs∧∀ j,j<4→css.flatten[k*4+j]? = cs[j]?
 | [],_,_,_,hk=>by simp at hk
 | t::ts,css,h,k,hk=>by
  unfold LA at h;obtain ⟨c0,cr,rfl,h1,h2⟩:=h;have hl:=O5 h1;rcases k with _ | k
  ·exact ⟨c0,h1,fun j hj=>by rw [List.flatten_cons,List.getElem?_append_left (by omega)];congr 1;omega⟩
  ·obtain ⟨cs,h3,h4⟩:=R2 h2 (k:=k) (by simpa using hk)
   refine ⟨cs,h3,fun j hj=>?_⟩;rw [List.flatten_cons,List.getElem?_append_right (by omega),hl,show (k+1)*4+j-4=k*4+j from by omega];exact h4 j hj
mutual
theorem abP {w:World}{Q:Nat→Prop}:∀ {t:Il.In}{cs:List Value},IC w Q t cs→HC w Q (Hm.C1 t) cs
 | .mk kd tx de ks,cs,h=>by
  unfold IC at h;obtain ⟨A,c,css,h1,h2,h3,h4⟩:=h;unfold Hm.C1 HC;rw [Hm.jO];exact ⟨A,c,css,h1,h2,h3,KG h4⟩
theorem KG {w:World}{Q:Nat→Prop}:∀ {ts:List Il.In}{css:List (List Value)},iq w Q ts css→LA w Q (Hm.gu ts) css
 | [],css,h=>by unfold iq at h;unfold Hm.gu LA;exact h
 | t::ts,css,h=>by
  unfold iq at h;obtain ⟨c0,cr,h1,h2,h3⟩:=h;unfold Hm.gu LA;exact ⟨c0,cr,h1,abP h2,KG h3⟩
end
mutual
def HT (w:World) (Q:Nat→Prop):Hm.Hb→List Value→Prop
 | .mk kd lv tx inf ln ks,cs=>∃ A c css,cs=[.int .i64 kd,.int .i64 lv,.string (bs tx),.string (bs inf),.int .i64 ln,.slice A ks.length c]∧ks.length≤c∧e9 w Q 6 A ks.length css.flatten∧D7 w Q ks css
def D7 (w:World) (Q:Nat→Prop):List Hm.Hb→List (List Value)→Prop
 | [],css=>css=[]
 | t::ts,css=>∃ c0 cr,css=c0::cr∧HT w Q t c0∧D7 w Q ts cr
end
mutual
theorem xY {w w':World}{Q Q':Nat→Prop}(hf:∀ b,Q b→w'.heap[b]? = w.heap[b]?) (hq:∀ b,Q b→Q' b):∀ {t:Hm.Hb}{cs:List Value},HT w Q t cs→HT w' Q' t cs
 | .mk ..,_,h=>by
  unfold HT at h ⊢;obtain ⟨A,c,css,h1,h2,h3,h4⟩:=h;exact ⟨A,c,css,h1,h2,h3.frame hf hq,tW hf hq h4⟩
theorem tW {w w':World}{Q Q':Nat→Prop}(hf:∀ b,Q b→w'.heap[b]? = w.heap[b]?) (hq:∀ b,Q b→Q' b):∀ {ts:List Hm.Hb}{css:List (List Value)},D7 w Q ts css→D7 w' Q' ts css
 | [],_,h=>by unfold D7 at h ⊢;exact h
 | _::_,_,h=>by
  unfold D7 at h ⊢;obtain ⟨c0,cr,h1,h2,h3⟩:=h;exact ⟨c0,cr,h1,xY hf hq h2,tW hf hq h3⟩
end
theorem VR {w:World}{Q:Nat→Prop}:D7 w Q [] []:=by unfold D7;rfl
theorem SB {w:World}{Q:Nat→Prop}{t:Hm.Hb}{c:List Value}{ts:List Hm.Hb}{cr:List (List Value)}(h:HT w Q t c) (hr:D7 w Q ts cr):D7 w Q (t::ts) (c::cr):=by
 unfold D7;exact ⟨c,cr,rfl,h,hr⟩
theorem tg {w:World}{Q:Nat→Prop}{kd lv:Int}{tx inf:List UInt8}{ln:Int}{ks:List Hm.Hb}{cs:List Value}(h:HT w Q (.mk kd lv tx inf ln ks) cs):∃ (A:Option Addr) (c:Nat) (css:List (List Value)),cs=[.int .i64 kd,.int .i64 lv,.string (bs tx),.string (bs inf),.int .i64 ln,.slice A ks.length c]∧ks.length≤c∧e9 w Q 6 A ks.length css.flatten∧D7 w Q ks css:=by
 unfold HT at h;exact h
theorem OG {w:World}{Q:Nat→Prop}{t:Hm.Hb}{cs:List Value}(h:HT w Q t cs):cs.length=6:=by
 cases t with
 | mk kd lv tx inf ln ks=>obtain ⟨_,_,_,rfl,_⟩:=tg h;rfl
theorem P3 {w:World}{Q:Nat→Prop}:∀ {ts:List Hm.Hb}{css:List (List Value)},D7 w Q ts css→∀ {k:Nat}(hk:k<ts.length),∃ cs,HT w Q ts[k] cs∧∀ j,j<6→css.flatten[k*6+j]? = cs[j]?
 | [],_,_,_,hk=>by simp at hk
 | t::ts,css,h,k,hk=>by
  unfold D7 at h;obtain ⟨c0,cr,rfl,h1,h2⟩:=h;have hl:=OG h1;rcases k with _ | k
  ·exact ⟨c0,h1,fun j hj=>by rw [List.flatten_cons,List.getElem?_append_left (by omega)];congr 1;omega⟩
  ·obtain ⟨cs,h3,h4⟩:=P3 h2 (k:=k) (by simpa using hk)
   refine ⟨cs,h3,fun j hj=>?_⟩;rw [List.flatten_cons,List.getElem?_append_right (by omega),hl,show (k+1)*6+j-6=k*6+j from by omega];exact h4 j hj
mutual
theorem Xn {w:World}{Q:Nat→Prop}:∀ {t:Bk.Tree}{cs:List Value},TC w Q t cs→HT w Q (Hm.gQ t) cs
 | .mk kd lv tx inf ln ks,cs,h=>by
  unfold TC at h;obtain ⟨A,c,css,h1,h2,h3,h4⟩:=h;unfold Hm.gQ HT;rw [Hm.Cq];exact ⟨A,c,css,h1,h2,h3,Q6 h4⟩
theorem Q6 {w:World}{Q:Nat→Prop}:∀ {ts:List Bk.Tree}{css:List (List Value)},Pk w Q ts css→D7 w Q (Hm.iZ ts) css
 | [],css,h=>by unfold Pk at h;unfold Hm.iZ D7;exact h
 | t::ts,css,h=>by
  unfold Pk at h;obtain ⟨c0,cr,h1,h2,h3⟩:=h;unfold Hm.iZ D7;exact ⟨c0,cr,h1,Xn h2,Q6 h3⟩
end
inductive Hm.FF:Hm.Hi→Prop where
 | mk {k:Int}{t d:List UInt8}{ks:List Hm.Hi}:t.length≤1000000000→d.length≤1000000000→ks.length≤1000000000→(∀ x∈ks,Hm.FF x)→Hm.FF (.mk k t d ks)
end Go.Proofs.YtddkjkockbcamaaGreatDoor
namespace Go.Proofs.YtddkjkockbcamaaGreatDoor
open Go.RowKit
namespace Il
theorem SA (s:List UInt8):fL [] s=[⟨word s,none,0,0⟩]:=rfl
theorem NY (l:List Pt) (t d s:List UInt8) (ks:List In) (n:Nat) (c:UInt8):fL (l++[⟨.mk 0 t d ks,none,n,c⟩]) s=l++[⟨.mk 0 (t++s) d ks,none,n,c⟩]:=by simp [fL]
theorem RW (l:List Pt) (x:In) (r n:Nat) (c:UInt8) (s:List UInt8):fL (l++[⟨x,some r,n,c⟩]) s=l++[⟨x,some r,n,c⟩]++[⟨word s,none,0,0⟩]:=by simp [fL]
theorem N2 (l:List Pt) {kd:Nat}(h:kd≠0) (t d:List UInt8) (ks:List In) (r:Option Nat) (n:Nat) (c:UInt8) (s:List UInt8):fL (l++[⟨.mk kd t d ks,r,n,c⟩]) s=l++[⟨.mk kd t d ks,r,n,c⟩]++[⟨word s,none,0,0⟩]:=by
 cases kd with
 | zero=>exact absurd rfl h
 | succ k=>simp [fL]
end Il
end Go.Proofs.YtddkjkockbcamaaGreatDoor
namespace Go.Proofs.YtddkjkockbcamaaGreatDoor
open Go.RowKit
attribute [local go_sem] aD av aq
end Go.Proofs.YtddkjkockbcamaaGreatDoor
namespace Go.Proofs.YtddkjkockbcamaaGreatDoor.Il
def Jn (N:Nat→Nat) (Y:List (Nat×Nat×Nat)) (l:List Pt):Prop:=∀ p∈l,∀ r,p.run=some r→p.left+Em.used Y r=N r
theorem OJ {N:Nat→Nat}{Y:List (Nat×Nat×Nat)}{l:List Pt}{a b s:Nat}(hL:Jn N Y l) (hN:∀ r,Em.used (Y++[(a,b,s)]) r≤N r) (hs:(cV l).Pairwise (· < ·)) (ha:a∈cV l) (hb:b∈cV l) (hab:a<b) :
  Jn N (Y++[(a,b,s)]) (bK l (a,b,s)):=by
 obtain ⟨A,p,B,q,C,rfl,hp,hq,h1,h2,h3,h4,h5⟩:=iu hs ha hb hab;rw [dY h1 h2];have n1:=hN a;have n2:=hN b;rw [Em.jM] at n1 n2;simp only at n1 n2;rw [if_pos trivial,if_neg (show ¬ b=a by omega)] at n1;rw [if_neg (show ¬ a=b by omega),if_pos trivial] at n2;intro x hx r hr;rw [Em.jM];simp only;have other:∀ y∈A++p::(B++q::C),∀ r,y.run=some r→r≠a→r≠b→y.left+(Em.used Y r+((if a=r then s else 0)+if b=r then s else 0))=N r:=by
  intro y hy r hr n1 n2;have:=hL y hy r hr;rw [if_neg (Ne.symm n1),if_neg (Ne.symm n2)];omega
 rcases List.mem_append.1 hx with h | h
 ·have hm:r∈cV A:=gG.2 ⟨x,h,hr⟩
  have:=h3 r hm;exact other x (by simp [h]) r hr (by omega) (by omega)
 ·rcases List.mem_cons.1 h with rfl | h
  ·have e:r=a:=by simp only at hr;rw [hp] at hr;exact (Option.some.inj hr).symm
   subst e;have:=hL p (by simp) r hp;rw [if_pos rfl,if_neg (by omega)];simp only;omega
  ·rcases List.mem_cons.1 h with rfl | h
   ·simp at hr
   ·rcases List.mem_cons.1 h with rfl | h
    ·have e:r=b:=by simp only at hr;rw [hq] at hr;exact (Option.some.inj hr).symm
     subst e;have:=hL q (by simp) r hq;rw [if_neg (by omega),if_pos rfl];simp only;omega
    ·have hm:r∈cV C:=gG.2 ⟨x,h,hr⟩
     have:=h5 r hm;exact other x (by simp [h]) r hr (by omega) (by omega)
theorem pJ (X:List (Nat×Nat×Nat)) (k r:Nat):Em.used (X.take k) r≤Em.used X r:=by
 conv=>rhs;rw [← List.take_append_drop k X]
 unfold Em.used;rw [List.map_append,List.sum_append];omega
end Go.Proofs.YtddkjkockbcamaaGreatDoor.Il
namespace Go.Proofs.YtddkjkockbcamaaGreatDoor
open Go.RowKit
theorem zF {P:Program}{T:TypeId}(hT:P.underlying T=some (.slice (P.elem T))) (size:Nat) (hsz:∀ w,(sizeOf (P.elem T)).run P w=.ok size w) (g n c hi:Nat) {v:Int}(hv:v=(hi:Int)) (h2:hi≤c) (w:World) :
  (Instr.slice T (.slice (some ⟨g,0,none⟩) n c) none (some (.int .i64 v)) none).run P w=.ok (.slice (some ⟨g,0,none⟩) hi c) w:=by
 subst hv;rw [run_slice_h w T (some ⟨g,0,none⟩) n c hT .i64 hi (by omega) (by omega),hsz];simp [sliced,Result.andThen];intro _;unfold Addr.add
 split<;>simp_all
def Il.cnt (runs:List Em.R) (r:Nat):Nat:=(Em.get runs r).n.toNat
structure Il.Ready (l:List Il.Pt) (runs:List Em.R):Prop where
 sorted:(Il.cV l).Pairwise (· < ·)
 all:∀ i,i<runs.length→i∈Il.cV l
 left:∀ p∈l,∀ r,p.run=some r→p.left=Il.cnt runs r
 pos:∀ r∈runs,0≤r.n∧r.n≤1000000000
theorem Il.sw {runs:List Em.R}(hp:∀ r∈runs,0≤r.n∧r.n≤1000000000) {r:Nat}(hr:r<runs.length):Em.held (Em.get runs r).n≤Il.cnt runs r∧Il.cnt runs r≤1000000000:=by
 rw [Em.get_at hr];unfold Il.cnt;rw [Em.get_at hr];have:=hp _ (List.getElem_mem hr);unfold Em.held;omega
theorem Il.Zx {runs:List Em.R}(hp:∀ r∈runs,0≤r.n∧r.n≤1000000000) (r:Nat):Il.cnt runs r≤1000000000:=by
 rcases Nat.lt_or_ge r runs.length with h | h
 ·exact (Il.sw hp h).2
 ·unfold Il.cnt Em.get
  simp [List.getD,List.getElem?_eq_none h,Em.none_]
theorem Il.NA {X:List (Nat×Nat×Nat)}{r:Nat}(h:∀ x∈X,x.1≠r∧x.2.1≠r):Em.used X r=0:=by
 induction X with
 | nil=>rfl
 | cons x X ih =>
  have h1:=h x (by simp);have h2:=ih (fun y hy=>h y (by simp [hy]));unfold Em.used at *;rw [List.map_cons,List.sum_cons,h2,if_neg h1.1,if_neg h1.2]
theorem Il.LK {runs:List Em.R}(hp:∀ r∈runs,0≤r.n∧r.n≤1000000000) (r:Nat):Em.used (Em.pairs runs) r≤Il.cnt runs r:=by
 have hi:=Em.pW runs;rcases Nat.lt_or_ge r runs.length with h | h
 ·have h1:=hi.sum r h
  have h2:=(Il.sw hp h).1;have h3:Em.used (Em.pairs runs) r=Em.used (Em.outer runs runs.length 0 (runs.map (fun r=>Em.held r.n),[])).2 r:=rfl;omega
 ·have h0:Em.used (Em.pairs runs) r=0:=Il.NA fun x hx=>by
   have hg:=hi.good x hx;omega
  omega
def Il.bu (l:List Il.Pt) (X:List (Nat×Nat×Nat)) (k:Nat):List Il.Pt:=(X.take k).foldl Il.bK l
theorem Il.gB {l:List Il.Pt}{X:List (Nat×Nat×Nat)}{k:Nat}(hk:k<X.length):Il.bu l X (k+1)=Il.bK (Il.bu l X k) X[k]:=by
 unfold Il.bu;rw [List.take_succ_eq_append_getElem hk,List.foldl_append];rfl
structure Il.Holds (l:List Il.Pt) (runs:List Em.R) (X:List (Nat×Nat×Nat)) (k:Nat):Prop where
 sorted:(Il.cV (Il.bu l X k)).Pairwise (· < ·)
 there:∀ j (hj:j<X.length),k≤j→X[j].1∈Il.cV (Il.bu l X k)∧X[j].2.1∈Il.cV (Il.bu l X k)
 left:Il.Jn (Il.cnt runs) (X.take k) (Il.bu l X k)
 len:(Il.bu l X k).length≤l.length+k
 jj:Il.jj (Il.bu l X k)≤Il.jj l
theorem Il.mH (runs:List Em.R):∀ x∈Em.pairs runs,x.1<x.2.1∧x.2.1<runs.length∧1≤x.2.2∧x.2.2≤2:=fun x hx=>by
 have hg:=(Em.pW runs).good x hx;exact ⟨hg.1,hg.2.2.1,hg.2.2.2.1,hg.2.2.2.2.1⟩
theorem Il.pR {l:List Il.Pt}{runs:List Em.R}(h:Il.Ready l runs):∀ k,k≤(Em.pairs runs).length→Il.Holds l runs (Em.pairs runs) k:=by
 have hg:=Il.mH runs;have hf:=Il.WD (X:=Em.pairs runs) (l:=l) h.sorted (fun x hx=>⟨h.all _ (by have:=hg x hx;omega),h.all _ (by have:=hg x hx;omega),(hg x hx).1⟩) (Em.qE runs);intro k
 induction k with
 | zero =>
  intro hk;refine ⟨(hf 0 hk).1,(hf 0 hk).2,?_,by simp [Il.bu],by simp [Il.bu]⟩;intro p hp r hr;simp only [Il.bu,List.take_zero,List.foldl_nil] at hp;have:=h.left p hp r hr;simp [Em.used,this]
 | succ k ih =>
  intro hk;have hk':k<(Em.pairs runs).length:=by omega
  have i:=ih (by omega);have ht:=i.there k hk' (Nat.le_refl _);have hx:=hg _ (List.getElem_mem hk');have hn:∀ r,Em.used ((Em.pairs runs).take k++[((Em.pairs runs)[k].1,(Em.pairs runs)[k].2.1,(Em.pairs runs)[k].2.2)]) r≤Il.cnt runs r:=fun r=>by
   rw [show ((Em.pairs runs)[k].1,(Em.pairs runs)[k].2.1,(Em.pairs runs)[k].2.2)=(Em.pairs runs)[k] from rfl,← List.take_succ_eq_append_getElem hk'];exact Nat.le_trans (Il.pJ _ _ _) (Il.LK h.pos r)
  have hj:=Il.Mg (s:=(Em.pairs runs)[k].2.2) i.sorted ht.1 ht.2 hx.1;have hl:=Il.OJ i.left hn i.sorted ht.1 ht.2 hx.1;refine ⟨(hf (k+1) hk).1,(hf (k+1) hk).2,?_,?_,?_⟩
  ·rw [Il.gB hk',List.take_succ_eq_append_getElem hk'];exact hl
  ·rw [Il.gB hk'];have:=hj.2;have:=i.len;simp only [Prod.eta] at *;omega
  ·rw [Il.gB hk'];have:=hj.1;have:=i.jj;simp only [Prod.eta] at *;omega
end Go.Proofs.YtddkjkockbcamaaGreatDoor
namespace Go.Proofs.YtddkjkockbcamaaGreatDoor.Il
open Go.Lib
theorem dL (l:List Pt) (s:List UInt8):(∃ l' t d k n c,l=l'++[⟨.mk 0 t d k,none,n,c⟩]∧fL l s=l'++[⟨.mk 0 (t++s) d k,none,n,c⟩])∨fL l s=l++[⟨word s,none,0,0⟩]:=by
 rcases List.eq_nil_or_concat l with rfl | ⟨l',p,rfl⟩
 ·exact .inr (SA s)
 ·rw [List.concat_eq_append]
  obtain ⟨⟨kd,t,d,ks⟩,r,n,c⟩:=p;cases r with
  | some r=>exact .inr (RW l' _ r n c s)
  | none =>
   by_cases hk:kd=0
   ·subst hk;exact .inl ⟨l',t,d,ks,n,c,rfl,NY l' t d s ks n c⟩
   ·exact .inr (N2 l' hk t d ks none n c s)
theorem R8 (l:List Pt) (s:List UInt8):cV (fL l s)=cV l:=by
 rcases dL l s with ⟨l',t,d,k,n,c,rfl,h⟩ | h
 ·rw [h,dD,dD];rfl
 ·rw [h,dD,gO];simp [cV]
theorem ES {l:List Pt}{s:List UInt8}{p:Pt}{r:Nat}(h:p∈fL l s) (hr:p.run=some r):p∈l:=by
 rcases dL l s with ⟨l',t,d,k,n,c,rfl,e⟩ | e
 ·rw [e] at h
  rcases List.mem_append.1 h with h | h
  ·simp [h]
  ·obtain rfl:=List.mem_singleton.1 h;cases hr
 ·rw [e] at h
  rcases List.mem_append.1 h with h | h
  ·exact h
  ·obtain rfl:=List.mem_singleton.1 h;cases hr
theorem Re (l:List Pt) (s:List UInt8):(fL l s).length≤l.length+1:=by
 rcases dL l s with ⟨l',t,d,k,n,c,rfl,h⟩ | h<;>rw [h]<;>simp
theorem OI (l:List Pt) (s:List UInt8):jj (fL l s)=jj l+s.length:=by
 rcases dL l s with ⟨l',t,d,k,n,c,rfl,h⟩ | h
 ·rw [h,eg,eg,eI,eI]
  simp only [bt,fK,List.length_append];have:jj ([]:List Pt)=0:=rfl;omega
 ·rw [h,eg,eI]
  have:jj ([]:List Pt)=0:=rfl;simp only [word,bt,fK];omega
structure fF (st:Sc) (i:Nat):Prop where
 cV:cV st.l=List.range st.runs.length
 left:∀ p∈st.l,∀ r,p.run=some r→p.left=cnt st.runs r
 pos:∀ r∈st.runs,0≤r.n∧r.n≤1000000000
 len:st.l.length≤i
 jj:jj st.l≤4*i
 rlen:st.runs.length≤i
theorem mG:fF ⟨[],[]⟩ 0:=⟨rfl,by simp,by simp,Nat.le_refl _,Nat.le_refl _,Nat.le_refl _⟩
theorem F2 {st:Sc}{i e:Nat}(h:fF st i) (hi:i<e) {s:List UInt8}(hs:s.length≤4*(e-i)):fF ⟨fL st.l s,st.runs⟩ e:=by
 have h1:=Re st.l s;have h2:=OI st.l s;have h3:=h.len;have h4:=h.jj;have h5:=h.rlen;exact ⟨by rw [R8];exact h.cV,fun p hp r hr=>h.left p (ES hp hr) r hr,h.pos,by simp only;omega,by simp only;omega,by simp only;omega⟩
theorem pO {st:Sc}{i e:Nat}(h:fF st i) (hi:i<e) {x:In}(hx:fK x≤4*(e-i)):fF ⟨st.l++[⟨x,none,0,0⟩],st.runs⟩ e:=by
 have h3:=h.len;have h4:=h.jj;have h5:=h.rlen;obtain ⟨kd,t,d,ks⟩:=x;refine ⟨by rw [dD,gO];simpa [Il.cV] using h.cV,fun p hp r hr=>?_,h.pos,by simp only [List.length_append,List.length_singleton];omega,?_,by simp only;omega⟩
 ·rcases List.mem_append.1 hp with hp | hp
  ·exact h.left p hp r hr
  ·obtain rfl:=List.mem_singleton.1 hp;cases hr
 ·rw [eg,eI]
  have:Il.jj ([]:List Pt)=0:=rfl;simp only [bt,fK] at hx ⊢;omega
theorem Q3 (runs:List Em.R) (x:Em.R) {r:Nat}(hr:r<runs.length):cnt (runs++[x]) r=cnt runs r:=by
 unfold cnt;rw [Em.get_at (by simp;omega),Em.get_at hr,List.getElem_append_left hr]
theorem QT {st:Sc}{i e:Nat}(h:fF st i) (hi:i<e) {x:Em.R}(hx:x.n=((e-i:Nat):Int)) (he:e≤1000000000):fF ⟨st.l++[⟨none_,some st.runs.length,x.n.toNat,x.ch⟩],st.runs++[x]⟩ e:=by
 have h3:=h.len;have h4:=h.jj;have h5:=h.rlen;have hm:∀ p∈st.l,∀ r,p.run=some r→r<st.runs.length:=fun p hp r hr=>by
  have:r∈Il.cV st.l:=gG.2 ⟨p,hp,hr⟩;rw [h.cV] at this;exact List.mem_range.1 this
 refine ⟨?_,fun p hp r hr=>?_,fun r hr=>?_,by simp only [List.length_append,List.length_singleton];omega,?_,by simp only [List.length_append,List.length_singleton];omega⟩
 ·simp only
  rw [dD,r5 ⟨none_,some st.runs.length,x.n.toNat,x.ch⟩ [] rfl,h.cV,List.length_append,List.length_singleton,List.range_succ]
  rfl
 ·rcases List.mem_append.1 hp with hp | hp
  ·simp only
   rw [Q3 _ _ (hm p hp r hr)];exact h.left p hp r hr
  ·obtain rfl:=List.mem_singleton.1 hp
   obtain rfl:st.runs.length=r:=Option.some.inj hr;simp only;unfold cnt;rw [Em.get_at (by simp)];simp
 ·rcases List.mem_append.1 hr with hr | hr
  ·exact h.pos r hr
  ·obtain rfl:=List.mem_singleton.1 hr;omega
 ·simp only
  rw [eg,eI];have:Il.jj ([]:List Pt)=0:=rfl;have e1:fK (kO ⟨none_,some st.runs.length,x.n.toNat,x.ch⟩)=x.n.toNat:=by simp [none_,gL,fK]
  omega
theorem mT {st:Sc}{i:Nat}(h:fF st i):Ready st.l st.runs :=
 ⟨by rw [h.cV];exact List.pairwise_lt_range,fun i hi=>by rw [h.cV];exact List.mem_range.2 hi,h.left,h.pos⟩
theorem ot {k:Nat}(hk:k≤1000) (t d:List UInt8):tC (.mk k t d []):=.mk hk (by simp) (by simp)
theorem yA {k:Nat}{t d:List UInt8}{ks:List In}(h:tC (.mk k t d ks)) (t' d':List UInt8):tC (.mk k t' d' ks):=by
 cases h with
 | mk h1 h2 h3=>exact .mk h1 h2 h3
theorem UQ {p:Pt}(h:tC p.inn):tC (kO p):=by
 obtain ⟨⟨k,t,d,ks⟩,r,n,c⟩:=p;cases r with
 | none=>exact h
 | some r=>exact yA h _ _
theorem mZ (out:List In) (x:In):dM out x=out∨(∃ o t' d' ks' t d ks,out=o++[.mk 0 t' d' ks']∧x=.mk 0 t d ks∧dM out x=o++[.mk 0 (t'++t) d' ks'])∨dM out x=out++[x]:=by
 obtain ⟨kd,t,d,ks⟩:=x
 by_cases hk:kd=0
 ·subst hk
  by_cases ht:t=[]
  ·subst ht;exact .inl (fT out d ks)
  ·rcases List.eq_nil_or_concat out with rfl | ⟨o,y,rfl⟩
   ·exact .inr (.inr (by rw [jX ht];rfl))
   ·rw [List.concat_eq_append]
    obtain ⟨kd',t',d',ks'⟩:=y
    by_cases hk':kd'=0
    ·subst hk';exact .inr (.inl ⟨o,t',d',ks',t,d,ks,rfl,rfl,fZ o ht t' d' d ks' ks⟩)
    ·exact .inr (.inr (jT o ht hk' t' d' d ks' ks))
 ·exact .inr (.inr (uy out hk t d ks))
theorem P1 {out:List In}{x:In}(h:∀ y∈out,tC y) (hx:tC x):(∀ y∈dM out x,tC y)∧(dM out x).length≤out.length+1∧(jB (dM out x)).length≤(jB out).length+(txt x).length:=by
 rcases mZ out x with e | ⟨o,t',d',ks',t,d,ks,rfl,rfl,e⟩ | e
 ·rw [e];exact ⟨h,by omega,by omega⟩
 ·rw [e]
  refine ⟨fun y hy=>?_,by simp,?_⟩
  ·rcases List.mem_append.1 hy with hy | hy
   ·exact h y (by simp [hy])
   ·obtain rfl:=List.mem_singleton.1 hy
    exact yA (h (.mk 0 t' d' ks') (by simp)) _ _
  ·rw [uo,uo]
   simp only [txt,List.length_append];simp;omega
 ·rw [e]
  refine ⟨fun y hy=>?_,by simp,by rw [uo,List.length_append];omega⟩;rcases List.mem_append.1 hy with hy | hy
  ·exact h y hy
  ·obtain rfl:=List.mem_singleton.1 hy;exact hx
def weight (l:List Pt):Nat:=(l.map fun p=>(txt (kO p)).length).sum
theorem dK (a b:List Pt):weight (a++b)=weight a+weight b:=by simp [weight]
theorem cQ (p:Pt) (b:List Pt):weight (p::b)=(txt (kO p)).length+weight b:=by simp [weight]
theorem GW:∀ (l:List Pt) (out:List In),(∀ y∈out,tC y)→(∀ p∈l,tC p.inn)→(∀ y∈l.foldl (fun out p=>dM out (kO p)) out,tC y)∧(l.foldl (fun out p=>dM out (kO p)) out).length≤out.length+l.length∧(jB (l.foldl (fun out p=>dM out (kO p)) out)).length≤(jB out).length+weight l
 | [],out,h,_=>⟨h,by simp,by simp [weight]⟩
 | p::l,out,h,hl=>by
  obtain ⟨h1,h2,h3⟩:=P1 h (UQ (hl p (by simp)));obtain ⟨k1,k2,k3⟩:=GW l _ h1 (fun q hq=>hl q (by simp [hq]));rw [List.foldl_cons,cQ];refine ⟨k1,by rw [List.length_cons];omega,by omega⟩
theorem yE {l:List Pt}(h:∀ p∈l,tC p.inn):(∀ y∈settle l,tC y)∧(settle l).length≤l.length∧(jB (settle l)).length≤weight l:=by
 have:=GW l [] (by simp) h;simpa [settle,jB] using this
theorem vU {p:Pt}{r:Nat}(h:p.run=some r) (s:Nat):(txt (kO { p with left:=p.left-s })).length≤(txt (kO p)).length:=by
 obtain ⟨⟨kd,t,d,ks⟩,rn,n,c⟩:=p;simp only at h;subst h;simp only [gL,txt,List.length_append,List.length_replicate];omega
theorem Fp {l:List Pt}{a b s:Nat}(hs:(cV l).Pairwise (· < ·)) (ha:a∈cV l) (hb:b∈cV l) (hab:a<b) (hl:l.length≤1000000000) (hf:∀ p∈l,tC p.inn):(∀ p∈bK l (a,b,s),tC p.inn)∧weight (bK l (a,b,s))≤weight l:=by
 obtain ⟨A,p,B,q,C,rfl,hp,hq,h1,h2,_,_,_⟩:=iu hs ha hb hab;rw [dY h1 h2];obtain ⟨k1,k2,k3⟩:=yE (l:=B) (fun x hx=>hf x (by simp [hx]));have hBl:B.length≤1000000000:=by simp only [List.length_append,List.length_cons] at hl;omega
 constructor
 ·intro x hx
  simp only [List.mem_append,List.mem_cons] at hx;rcases hx with hx | rfl | rfl | rfl | hx
  ·exact hf x (by simp [hx])
  ·exact hf p (by simp)
  ·exact .mk (by split<;>omega) (by omega) k1
  ·exact hf q (by simp)
  ·exact hf x (by simp [hx])
 ·have e1:=vU hp s
  have e2:=vU hq s;have e3:(txt (kO ⟨.mk (if s=2 then 3 else 2) [] [] (settle B),none,0,0⟩)).length=(jB (settle B)).length:=by
   rw [bt];have:(if s=2 then 3 else 2)≠5:=by split<;>omega
   simp [txt,this]
  rw [dK,dK,cQ,cQ,cQ,cQ,dK,cQ,e3];omega
theorem JG {l:List Pt}{runs:List Em.R}(h:Ready l runs) (hf:∀ p∈l,tC p.inn) (hr:runs.length≤4000000) (hl:l.length≤500000000):(∀ y∈cY l runs,tC y)∧(cY l runs).length≤1000000000∧(jB (cY l runs)).length≤weight l:=by
 have hbd:=Em.xI runs;have key:∀ k,k≤(Em.pairs runs).length→(∀ p∈bu l (Em.pairs runs) k,tC p.inn)∧weight (bu l (Em.pairs runs) k)≤weight l:=by
  intro k
  induction k with
  | zero=>intro _;exact ⟨by simpa [bu] using hf,by simp [bu]⟩
  | succ k ih =>
   intro hk;have hk':k<(Em.pairs runs).length:=by omega
   have i:=ih (by omega);have hh:=pR h k (by omega);have ht:=hh.there k hk' (Nat.le_refl _);have hg:=mH runs _ (List.getElem_mem hk');have hlen:=hh.len;have:=Fp (s:=(Em.pairs runs)[k].2.2) hh.sorted ht.1 ht.2 hg.1 (by omega) i.1;rw [gB hk'];exact ⟨this.1,Nat.le_trans this.2 i.2⟩
 have e:cY l runs=settle (bu l (Em.pairs runs) (Em.pairs runs).length):=by unfold cY bu;rw [List.take_of_length_le (Nat.le_refl _)]
 obtain ⟨k1,k2⟩:=key _ (Nat.le_refl _);obtain ⟨s1,s2,s3⟩:=yE k1;have hlen:=(pR h _ (Nat.le_refl _)).len;rw [e];exact ⟨s1,by omega,by omega⟩
end Go.Proofs.YtddkjkockbcamaaGreatDoor.Il
namespace Go.Proofs.YtddkjkockbcamaaGreatDoor
open Go.RowKit
section
variable {base:Nat}{v u:Value}{st:Il.Sc}{css:List (List Value)}{w w':World}
end
theorem Il.Iz {s:List UInt8}{i:Nat}{r:Em.R}{e:Nat}(h:Em.kind s (i:Int)=some (r,e)):r.n=((e-i:Nat):Int):=by
 unfold Em.kind at h
 split at h
 ·simp only [Int.toNat_natCast,Option.some.injEq,Prod.mk.injEq] at h
  obtain ⟨h1,h2⟩:=h;have:r.n=(Fn.run (s.getD i 0) (s.drop i):Nat):=by rw [← h1];unfold Em.qv;split<;>rfl
  rw [this];omega
 ·cases h
theorem Il.yj {s:List UInt8}{i:Nat}{t:List UInt8}{e:Nat}(h:Cd.span s (i:Int)=some (t,e)):t.length+i≤e:=by
 have hsp:=Cd.tP h;unfold Cd.span at h
 split at h
 ·obtain ⟨j,hj,he⟩:=Option.map_eq_some_iff.1 h
  injection he with h1 h2;have hc:=Cd.Ci (mid s ((i:Int).toNat+Fn.run 96 (s.drop (i:Int).toNat)) j);have hm:(mid s ((i:Int).toNat+Fn.run 96 (s.drop (i:Int).toNat)) j).length≤j-((i:Int).toNat+Fn.run 96 (s.drop (i:Int).toNat)):=by unfold mid;rw [List.length_take];omega
  rw [h1] at hc;simp only [Int.toNat_natCast] at *;omega
 ·cases h
end Go.Proofs.YtddkjkockbcamaaGreatDoor
namespace Go.Proofs.YtddkjkockbcamaaGreatDoor.Il
open Go.Lib
theorem uH:∀ (n:Nat) (l:List UInt8),l.length≤n→(Ru.aS l).length≤l.length
 | 0,l,h=>by
  have:l=[]:=List.eq_nil_of_length_eq_zero (by omega);subst this;simp [Ru.iC]
 | n+1,l,h=>by
  by_cases h0:l=[]
  ·subst h0;simp [Ru.iC]
  ·have hl:0<l.length:=List.length_pos_iff.2 h0
   have hw:=decodeL_width l;have ih:=uH n (l.drop (decodeL l).2) (by rw [List.length_drop];omega);rw [Ru.eB h0,List.length_cons];rw [List.length_drop] at ih;omega
theorem wV:∀ X:List Nat,(Ru.enc X).length≤4*X.length
 | []=>by simp [Ru.rM]
 | x::X=>by
  have:=Ru.dS (x:Int);have:=wV X;rw [Ru.oZ,List.length_append,List.length_cons];omega
theorem LD {s:List UInt8}{i:Nat}{t:List UInt8}{e:Nat}(h:Lk.auto s (i:Int)=some (t,e)):t.length+i≤e:=by
 have hsp:=Lk.pT h;unfold Lk.auto at h
 split at h
 ·obtain ⟨j,hj,he⟩:=Option.map_eq_some_iff.1 h
  injection he with h1 h2;rw [← h1];unfold Go.Proofs.YtddkjkockbcamaaGreatDoor.mid;rw [List.length_take,Int.toNat_natCast];omega
 ·cases h
theorem GI (l:List Pt) (s:List UInt8):weight (fL l s)=weight l+s.length:=by
 have h0:weight ([]:List Pt)=0:=rfl;rcases dL l s with ⟨l',t,d,k,n,c,rfl,h⟩ | h
 ·rw [h,dK,dK,cQ,cQ,h0]
  simp only [bt,txt,List.length_append];omega
 ·rw [h,dK,cQ,h0]
  simp only [word,bt,txt,jB,List.length_append];simp
theorem SK {l:List Pt}{s:List UInt8}(h:∀ p∈l,tC p.inn):∀ p∈fL l s,tC p.inn:=by
 intro p hp;rcases dL l s with ⟨l',t,d,k,n,c,rfl,e⟩ | e
 ·rw [e] at hp
  rcases List.mem_append.1 hp with hp | hp
  ·exact h p (by simp [hp])
  ·obtain rfl:=List.mem_singleton.1 hp
   exact yA (h ⟨.mk 0 t d k,none,n,c⟩ (by simp)) _ _
 ·rw [e] at hp
  rcases List.mem_append.1 hp with hp | hp
  ·exact h p hp
  ·obtain rfl:=List.mem_singleton.1 hp
   exact ot (by omega) _ _
structure zm (st:Sc) (i:Nat):Prop where
 few:∀ p∈st.l,tC p.inn
 weight:weight st.l≤4*i
theorem F0 {st:Sc}{i e:Nat}(h:zm st i) {s:List UInt8}(hs:s.length+4*i≤4*e) (runs:List Em.R):zm ⟨fL st.l s,runs⟩ e :=
 ⟨SK h.few,by have:=h.weight;rw [GI];omega⟩
theorem lC {st:Sc}{i e:Nat}(h:zm st i) {p:Pt}(hp:tC p.inn) (hw:(txt (kO p)).length+4*i≤4*e) (runs:List Em.R):zm ⟨st.l++[p],runs⟩ e:=by
 have h0:Il.weight ([]:List Pt)=0:=rfl;have:=h.weight;refine ⟨fun q hq=>?_,by rw [dK,cQ,h0];omega⟩;rcases List.mem_append.1 hq with hq | hq
 ·exact h.few q hq
 ·obtain rfl:=List.mem_singleton.1 hq;exact hp
def iN (inner:List UInt8→List In):Prop:=∀ t,t.length≤4000000→(∀ y∈inner t,tC y)∧(inner t).length≤1000000000∧(jB (inner t)).length≤4*t.length
theorem rW (link:Bool) (inner:List UInt8→List In) (hin:link=false→iN inner) {s:List UInt8}(hs:s.length≤4000000) {i:Nat}(h:i<s.length) {st:Sc}(hok:fF st i) (hf:zm st i) :
  fF (piece link inner s i st).2 (piece link inner s i st).1∧zm (piece link inner s i st).2 (piece link inner s i st).1:=by
 have hm:=piece_more link inner h st;unfold piece at hm ⊢
 by_cases kV:s.getD i 0=96
 ·rw [if_pos kV] at hm ⊢
  cases hsp:Cd.span s (i:Int) with
  | some x =>
   obtain ⟨t,e⟩:=x;rw [hsp] at hm;simp only at hm ⊢;have hl:=yj hsp;exact ⟨pO hok hm.1 (by simp only [fK];omega),lC hf (ot (by omega) _ _) (by simp [bt,txt,jB];omega) _⟩
  | none =>
   rw [hsp] at hm;simp only at hm ⊢;have hml:=Go.Proofs.YtddkjkockbcamaaGreatDoor.ep (l:=s) (lo:=i) (hi:=i+Fn.run 96 (s.drop i)) hm.2;exact ⟨F2 hok hm.1 (by omega),F0 hf (by omega) _⟩
 ·rw [if_neg kV] at hm ⊢
  cases ha:(if link=true then none else Lk.auto s (i:Int)) with
  | some x =>
   obtain ⟨t,e⟩:=x;rw [ha] at hm;simp only at hm ⊢
   split at ha
   ·cases ha
   ·have hl:=LD ha
    have h1:=wV (Ru.aS t);have h2:=uH t.length t (Nat.le_refl _);exact ⟨pO hok hm.1 (by simp [fK]),lC hf (.mk (by omega) (by simp) (fun x hx=>by obtain rfl:=List.mem_singleton.1 hx;exact ot (by omega) _ _)) (by simp [bt,txt,jB,word];omega) _⟩
  | none =>
   rw [ha] at hm;simp only at hm ⊢;cases hl:(if link=true then none else dU s i) with
   | some x =>
    obtain ⟨d,j,e⟩:=x;rw [hl] at hm;simp only at hm ⊢
    split at hl
    ·cases hl
    ·rename_i hlf
     have h3:=lR hl;have hml:=Go.Proofs.YtddkjkockbcamaaGreatDoor.ep (l:=s) (lo:=i+1) (hi:=j) (by omega);obtain ⟨f1,f2,f3⟩:=hin (by simpa using hlf) (Go.Proofs.YtddkjkockbcamaaGreatDoor.mid s (i+1) j) (by omega);exact ⟨pO hok hm.1 (by simp [fK]),lC hf (.mk (by omega) f2 f1) (by simp [bt,txt];omega) _⟩
   | none =>
    rw [hl] at hm;simp only at hm ⊢;cases hk:Em.kind s (i:Int) with
    | some x =>
     obtain ⟨r,e⟩:=x;rw [hk] at hm;simp only at hm ⊢;have hn:=Iz hk;exact ⟨QT hok hm.1 hn (by omega),lC hf (ot (by omega) _ _) (by simp [none_,gL,txt,jB,hn];omega) _⟩
    | none =>
     rw [hk] at hm;simp only at hm ⊢
     by_cases h10:s.getD i 0=10
     ·rw [if_pos h10] at hm ⊢
      exact ⟨pO hok hm.1 (by simp [fK]),lC hf (ot (by omega) _ _) (by simp [bt,txt,jB];omega) _⟩
     ·rw [if_neg h10] at hm ⊢
      have he:=Ru.dS ((Es.next s i).1:Int);simp only at hm ⊢;exact ⟨F2 hok hm.1 (by omega),F0 hf (by omega) _⟩
theorem Gv (link:Bool) (inner:List UInt8→List In) (hin:link=false→iN inner) {s:List UInt8}(hs:s.length≤4000000):∀ (f i:Nat) (st:Sc),i≤s.length→fF st i→zm st i→∃ j,j≤s.length∧fF (fC link inner f s i st) j∧zm (fC link inner f s i st) j
 | 0,i,st,hi,h1,h2=>⟨i,hi,h1,h2⟩
 | f+1,i,st,hi,h1,h2=>by
  unfold fC
  by_cases h:i<s.length
  ·rw [if_pos h]
   have hm:=piece_more link inner h st;obtain ⟨k1,k2⟩:=rW link inner hin hs h h1 h2;exact Gv link inner hin hs f _ _ hm.2 k1 k2
  ·rw [if_neg h];exact ⟨i,hi,h1,h2⟩
theorem ue (link:Bool) (inner:List UInt8→List In) (hin:link=false→iN inner):iN (within link inner):=by
 intro s hs;obtain ⟨j,hj,h1,h2⟩:=Gv link inner hin hs (s.length+1-0) 0 ⟨[],[]⟩ (Nat.zero_le _) mG ⟨by simp,by simp [weight]⟩;have hl:=h1.len;have hr:=h1.rlen;have hw:=h2.weight;obtain ⟨s1,s2,s3⟩:=JG (mT h1) h2.few (by omega) (by omega);exact ⟨s1,s2,Nat.le_trans s3 (by omega)⟩
mutual
def fV:In→Nat
 | .mk _ t d ks=>t.length+d.length+1+bq ks
def bq:List In→Nat
 | []=>0
 | x::r=>fV x+bq r
end
theorem qn:∀ a b,bq (a++b)=bq a+bq b
 | [],b=>by simp [bq]
 | x::r,b=>by rw [List.cons_append];simp only [bq];rw [qn r b];omega
theorem oQ (a:List In) (x:In):bq (a++[x])=bq a+fV x:=by rw [qn];simp [bq]
def pm (l:List Pt):Nat:=(l.map fun p=>fV (kO p)).sum
theorem cC (a b:List Pt):pm (a++b)=pm a+pm b:=by simp [pm]
theorem cP (p:Pt) (b:List Pt):pm (p::b)=fV (kO p)+pm b:=by simp [pm]
theorem rq:pm []=0:=rfl
theorem OY (out:List In) (x:In):bq (dM out x)≤bq out+fV x:=by
 rcases mZ out x with e | ⟨o,t',d',ks',t,d,ks,rfl,rfl,e⟩ | e
 ·rw [e];omega
 ·rw [e,oQ,oQ]
  simp only [fV,List.length_append];omega
 ·rw [e,oQ];omega
theorem Bs:∀ (l:List Pt) (out:List In),bq (l.foldl (fun out p=>dM out (kO p)) out)≤bq out+pm l
 | [],out=>by simp [pm]
 | p::l,out=>by
  rw [List.foldl_cons,cP];have h1:=Bs l (dM out (kO p));have h2:=OY out (kO p);omega
theorem kB (l:List Pt):bq (settle l)≤pm l:=by
 have:=Bs l [];simpa [settle,bq] using this
theorem BR {p:Pt}{r:Nat}(h:p.run=some r) (s:Nat):fV (kO { p with left:=p.left-s })≤fV (kO p):=by
 obtain ⟨⟨kd,t,d,ks⟩,rn,n,c⟩:=p;simp only at h;subst h;simp only [gL,fV,List.length_replicate];omega
theorem Oe {l:List Pt}{a b s:Nat}(hs:(cV l).Pairwise (· < ·)) (ha:a∈cV l) (hb:b∈cV l) (hab:a<b):pm (bK l (a,b,s))≤pm l+1:=by
 obtain ⟨A,p,B,q,C,rfl,hp,hq,h1,h2,_,_,_⟩:=iu hs ha hb hab;rw [dY h1 h2];have k:=kB B;have e1:=BR hp s;have e2:=BR hq s;have e3:fV (kO ⟨.mk (if s=2 then 3 else 2) [] [] (settle B),none,0,0⟩)=1+bq (settle B):=by
  rw [bt];simp [fV]
 rw [cC,cC,cP,cP,cP,cP,cC,cP,e3];omega
theorem E3 {l:List Pt}{runs:List Em.R}(h:Ready l runs):bq (cY l runs)≤pm l+100*runs.length:=by
 have hbd:=Em.xI runs;have key:∀ k,k≤(Em.pairs runs).length→pm (bu l (Em.pairs runs) k)≤pm l+k:=by
  intro k
  induction k with
  | zero=>intro _;simp [bu]
  | succ k ih =>
   intro hk;have hk':k<(Em.pairs runs).length:=by omega
   have i:=ih (by omega);have hh:=pR h k (by omega);have ht:=hh.there k hk' (Nat.le_refl _);have hg:=mH runs _ (List.getElem_mem hk');have:=Oe (s:=(Em.pairs runs)[k].2.2) hh.sorted ht.1 ht.2 hg.1;rw [gB hk'];exact Nat.le_trans this (by omega)
 have e:cY l runs=settle (bu l (Em.pairs runs) (Em.pairs runs).length):=by unfold cY bu;rw [List.take_of_length_le (Nat.le_refl _)]
 have h1:=key _ (Nat.le_refl _);have h2:=kB (bu l (Em.pairs runs) (Em.pairs runs).length);rw [e];omega
theorem AW (l:List Pt) (s:List UInt8):pm (fL l s)≤pm l+s.length+1:=by
 rcases dL l s with ⟨l',t,d,k,n,c,rfl,h⟩ | h
 ·rw [h,cC,cC,cP,cP,rq]
  simp only [bt,fV,List.length_append];omega
 ·rw [h,cC,cP,rq]
  simp only [word,bt,fV,bq,List.length_nil];omega
theorem Q7 {s:List UInt8}{k:Nat}{d:List UInt8}{e:Nat}(h:Lk.dest s (k:Int)=some (d,e)):d.length+4*k≤4*e:=by
 have hsp:=Bz h;unfold Lk.dest at h
 split at h
 ·obtain ⟨j,hj,he⟩:=Option.map_eq_some_iff.1 h
  have hd:=Lk.rB _ _ _ hj;rw [Int.toNat_natCast] at hd he;injection he with h1 h2;have e1:=wV (Es.plain (Go.Proofs.YtddkjkockbcamaaGreatDoor.mid s (k+1) j));have e2:=Es.OL (Go.Proofs.YtddkjkockbcamaaGreatDoor.mid s (k+1) j);rw [Go.Proofs.YtddkjkockbcamaaGreatDoor.ep (by omega)] at e2;rw [← h1];omega
 ·cases h
def qO (inner:List UInt8→List In) (C:Nat):Prop:=∀ t,t.length≤4000000→bq (inner t)≤C*t.length
theorem zi (link:Bool) (inner:List UInt8→List In) {C:Nat}(hC:7≤C) (hin:link=false→qO inner C) {s:List UInt8}(hs:s.length≤4000000) {i:Nat}(h:i<s.length) {st:Sc}(hf:pm st.l≤C*i) :
  pm (piece link inner s i st).2.l≤C*(piece link inner s i st).1:=by
 have hm:=piece_more link inner h st;have lin:∀ {e x:Nat},i<e→x≤7*(e-i)→pm st.l+x≤C*e:=by
  intro e x he hx;have h1:C*e=C*i+C*(e-i):=by rw [← Nat.mul_add];congr 1;omega
  have h2:7*(e-i)≤C*(e-i):=Nat.mul_le_mul_right _ hC;omega
 unfold piece at hm ⊢
 by_cases kV:s.getD i 0=96
 ·rw [if_pos kV] at hm ⊢
  cases hsp:Cd.span s (i:Int) with
  | some x =>
   obtain ⟨t,e⟩:=x;rw [hsp] at hm;simp only at hm ⊢;have hl:=yj hsp;rw [cC,cP,rq];exact lin hm.1 (by simp only [bt,fV,bq,List.length_nil];omega)
  | none =>
   rw [hsp] at hm;simp only at hm ⊢;have hml:=Go.Proofs.YtddkjkockbcamaaGreatDoor.ep (l:=s) (lo:=i) (hi:=i+Fn.run 96 (s.drop i)) hm.2;have:=AW st.l (Go.Proofs.YtddkjkockbcamaaGreatDoor.mid s i (i+Fn.run 96 (s.drop i)));exact Nat.le_trans (by rw [Nat.add_assoc] at this;exact this) (lin hm.1 (by omega))
 ·rw [if_neg kV] at hm ⊢
  cases ha:(if link=true then none else Lk.auto s (i:Int)) with
  | some x =>
   obtain ⟨t,e⟩:=x;rw [ha] at hm;simp only at hm ⊢
   split at ha
   ·cases ha
   ·have hl:=LD ha
    have h1:=wV (Ru.aS t);have h2:=uH t.length t (Nat.le_refl _);rw [cC,cP,rq];exact lin hm.1 (by simp only [bt,fV,bq,word,List.length_nil];omega)
  | none =>
   rw [ha] at hm;simp only at hm ⊢;cases hl:(if link=true then none else dU s i) with
   | some x =>
    obtain ⟨d,j,e⟩:=x;rw [hl] at hm;simp only at hm ⊢
    split at hl
    ·cases hl
    ·rename_i hlf
     have h3:=lR hl;have hml:=Go.Proofs.YtddkjkockbcamaaGreatDoor.ep (l:=s) (lo:=i+1) (hi:=j) (by omega);have hI:=hin (by simpa using hlf) (Go.Proofs.YtddkjkockbcamaaGreatDoor.mid s (i+1) j) (by omega);have hd:d.length+4*(j+1)≤4*e:=by
      unfold dU at hl
      split at hl
      ·cases hl
      ·split at hl
       ·cases hl
       ·rename_i hde
        simp only [Option.some.injEq,Prod.mk.injEq] at hl;obtain ⟨rfl,rfl,rfl⟩:=hl;exact Q7 (by rw [Int.natCast_add];exact hde)
     rw [hml] at hI;rw [cC,cP,rq];simp only [bt,fV,List.length_nil];have c1:C*e=C*i+C*(j-(i+1))+C*(e-(j-1)):=by
      rw [← Nat.mul_add,← Nat.mul_add];congr 1;omega
     have c2:7*(e-(j-1))≤C*(e-(j-1)):=Nat.mul_le_mul_right _ hC;omega
   | none =>
    rw [hl] at hm;simp only at hm ⊢;cases hk:Em.kind s (i:Int) with
    | some x =>
     obtain ⟨r,e⟩:=x;rw [hk] at hm;simp only at hm ⊢;have hn:=Iz hk;rw [cC,cP,rq];exact lin hm.1 (by simp only [none_,gL,fV,bq,List.length_nil,List.length_replicate];omega)
    | none =>
     rw [hk] at hm;simp only at hm ⊢
     by_cases h10:s.getD i 0=10
     ·rw [if_pos h10] at hm ⊢
      rw [cC,cP,rq];exact lin hm.1 (by simp only [bt,fV,bq,List.length_nil];omega)
     ·rw [if_neg h10] at hm ⊢
      have he:=Ru.dS ((Es.next s i).1:Int);simp only at hm ⊢;have:=AW st.l (encodeRune ((Es.next s i).1:Int));exact Nat.le_trans (by rw [Nat.add_assoc] at this;exact this) (lin hm.1 (by omega))
theorem za (link:Bool) (inner:List UInt8→List In) {C:Nat}(hC:7≤C) (hin:link=false→qO inner C) (hok:link=false→iN inner) {s:List UInt8}(hs:s.length≤4000000):∀ (f i:Nat) (st:Sc),i≤s.length→fF st i→zm st i→pm st.l≤C*i →
  ∃ j,j≤s.length∧fF (fC link inner f s i st) j∧pm (fC link inner f s i st).l≤C*j
 | 0,i,st,hi,h1,_,h3=>⟨i,hi,h1,h3⟩
 | f+1,i,st,hi,h1,h2,h3=>by
  unfold fC
  by_cases h:i<s.length
  ·rw [if_pos h]
   have hm:=piece_more link inner h st;obtain ⟨k1,k2⟩:=rW link inner hok hs h h1 h2;exact za link inner hC hin hok hs f _ _ hm.2 k1 k2 (zi link inner hC hin hs h h3)
  ·rw [if_neg h];exact ⟨i,hi,h1,h3⟩
theorem vm (link:Bool) (inner:List UInt8→List In) {C:Nat}(hC:7≤C) (hin:link=false→qO inner C) (hok:link=false→iN inner):qO (within link inner) (C+100):=by
 intro s hs;obtain ⟨j,hj,h1,h2⟩:=za link inner hC hin hok hs (s.length+1-0) 0 ⟨[],[]⟩ (Nat.zero_le _) mG ⟨by simp,by simp [weight]⟩ (by simp [pm]);have hr:=h1.rlen;have h3:=E3 (mT h1);have h4:C*j≤C*s.length:=Nat.mul_le_mul_left _ hj;have h5:(C+100)*s.length=C*s.length+100*s.length:=Nat.add_mul _ _ _;unfold within;show bq (cY (fC link inner (s.length+1-0) s 0 ⟨[],[]⟩).l _)≤_;exact Nat.le_trans h3 (by omega)
theorem IP {s:List UInt8}(hs:s.length≤4000000):bq (parse s)≤207*s.length :=
 vm false inLink (C:=107) (by omega) (fun _=>vm true (fun _=>[]) (C:=7) (by omega) (fun h=>absurd h (by decide)) (fun h=>absurd h (by decide))) (fun _=>ue true (fun _=>[]) (fun h=>absurd h (by decide))) s hs
end Go.Proofs.YtddkjkockbcamaaGreatDoor.Il
namespace Go.Proofs.YtddkjkockbcamaaGreatDoor.Hm
mutual
theorem VS:∀ x:Il.In,(inl (C1 x)).length≤30*Il.fV x
 | .mk k t d ks=>by
  have hp:=(Es.iY t).2;have hg:(goes d).length≤d.length+1:=by unfold goes;split<;>simp
  have ha:=(Es.iY (goes d)).2;have ih:=rI ks;simp only [C1,inl,Il.fV]
  repeat' split
  all_goals (try simp only [tag,shut,anchor,di,HK,dN,List.length_append,List.length_cons,List.length_nil])
  all_goals omega
theorem rI:∀ l:List Il.In,(dm (gu l)).length≤30*Il.bq l
 | []=>by simp [gu,dm]
 | x::r=>by
  have h1:=VS x;have h2:=rI r;simp only [gu,dm,Il.bq,List.length_append];omega
end
theorem r7 {t:List UInt8}(h:t.length≤4000000):(para t).length≤6210*t.length:=by
 have h1:=rI (Il.parse t);have h2:=Il.IP h;unfold para;omega
end Go.Proofs.YtddkjkockbcamaaGreatDoor.Hm
set_option maxHeartbeats 16000000
set_option maxRecDepth 100000
namespace Go.Proofs.YtddkjkockbcamaaGreatDoor
open Go.RowKit
namespace Hm
mutual
def im:Hi→Nat
 | .mk _ t d ks=>t.length+d.length+1+Ni ks
def Ni:List Hi→Nat
 | []=>0
 | x::r=>im x+Ni r
end
end Hm
end Go.Proofs.YtddkjkockbcamaaGreatDoor
namespace Go.Proofs.YtddkjkockbcamaaGreatDoor.Il
open Go.Lib
mutual
def dep:In→Nat
 | .mk _ _ _ ks=>deps ks+1
def deps:List In→Nat
 | []=>0
 | x::r=>max (dep x) (deps r)
end
theorem vj:∀ a b,deps (a++b)=max (deps a) (deps b)
 | [],b=>by simp [deps]
 | x::r,b=>by rw [List.cons_append];simp only [deps];rw [vj r b];omega
theorem uc (a:List In) (x:In):deps (a++[x])=max (deps a) (dep x):=by rw [vj];simp [deps]
def sg (p:Pt):Nat:=match p.run with | some _=>p.left | none=>0
def pd (l:List Pt):Nat:=(l.map fun p=>dep (kO p)-1+sg p).sum
theorem dg (a b:List Pt):pd (a++b)=pd a+pd b:=by simp [pd]
theorem eN (p:Pt) (b:List Pt):pd (p::b)=dep (kO p)-1+sg p+pd b:=by simp [pd]
theorem qS:pd []=0:=rfl
theorem Zg {l:List Pt}{p:Pt}(h:p∈l):dep (kO p)≤1+pd l:=by
 obtain ⟨a,b,rfl⟩:=List.append_of_mem h;rw [dg,eN];omega
theorem Ty (out:List In) (x:In):deps (dM out x)≤max (deps out) (dep x):=by
 rcases mZ out x with e | ⟨o,t',d',ks',t,d,ks,rfl,rfl,e⟩ | e
 ·rw [e];omega
 ·rw [e,uc,uc]
  simp only [dep];omega
 ·rw [e,uc];omega
theorem Fq (M:Nat):∀ (l:List Pt) (out:List In),deps out≤M→(∀ p∈l,dep (kO p)≤M)→deps (l.foldl (fun out p=>dM out (kO p)) out)≤M
 | [],_,h,_=>h
 | p::l,out,h,hl=>by
  rw [List.foldl_cons];have h2:=Ty out (kO p);have h3:=hl p (by simp);exact Fq M l _ (by omega) (fun q hq=>hl q (by simp [hq]))
theorem zG (l:List Pt):deps (settle l)≤1+pd l:=Fq _ l [] (by simp [deps]) (fun _ h=>Zg h)
theorem E5 (p:Pt) (n:Nat):dep (kO { p with left:=n })=dep (kO p):=by
 obtain ⟨⟨kd,t,d,ks⟩,r,k,c⟩:=p;cases r with
 | none=>rfl
 | some r=>simp only [gL,dep]
theorem Bv {p:Pt}{r:Nat}(h:p.run=some r) {s:Nat}(hs:s≤p.left):fV (kO { p with left:=p.left-s })+s=fV (kO p):=by
 obtain ⟨⟨kd,t,d,ks⟩,rn,n,c⟩:=p;simp only at h hs;subst h;simp only [gL,fV,List.length_replicate];omega
theorem LP {p:Pt}{r:Nat}(h:p.run=some r) (n:Nat):sg { p with left:=n }=n:=by unfold sg;simp only;rw [h]
theorem Qi {p:Pt}{r:Nat}(h:p.run=some r):sg p=p.left:=by unfold sg;rw [h]
theorem Ob {l:List Pt}{a b s:Nat}(hs:(cV l).Pairwise (· < ·)) (ha:a∈cV l) (hb:b∈cV l) (hab:a<b) (h1:1≤s) (hl:∀ p∈l,∀ r,p.run=some r→r=a∨r=b→s≤p.left) :
  pd (bK l (a,b,s))≤pd l∧pm (bK l (a,b,s))≤pm l:=by
 obtain ⟨A,p,B,q,C,rfl,hp,hq,h1',h2',_,_,_⟩:=iu hs ha hb hab;have lp:=hl p (by simp) a hp (.inl rfl);have lq:=hl q (by simp) b hq (.inr rfl);rw [dY h1' h2'];have k:=kB B;have k2:=zG B;have e1:=Bv hp lp;have e2:=Bv hq lq;have e3:fV (kO ⟨.mk (if s=2 then 3 else 2) [] [] (settle B),none,0,0⟩)=1+bq (settle B):=by
  rw [bt];simp [fV]
 have e4:dep (kO ⟨.mk (if s=2 then 3 else 2) [] [] (settle B),none,0,0⟩)=deps (settle B)+1:=by rw [bt];simp only [dep]
 have e5:sg ⟨.mk (if s=2 then 3 else 2) [] [] (settle B),none,0,0⟩=0:=rfl;have g1:=LP hp (p.left-s);have g2:=LP hq (q.left-s);have g3:=Qi hp;have g4:=Qi hq;refine ⟨?_,?_⟩
 ·rw [dg,dg,eN,eN,eN,eN,dg,eN,E5 p (p.left-s),E5 q (q.left-s),e4,e5,g1,g2,g3,g4]
  omega
 ·rw [cC,cC,cP,cP,cP,cP,cC,cP,e3]
  omega
theorem Fw {l:List Pt}{runs:List Em.R}(h:Ready l runs):deps (cY l runs)≤1+pd l∧bq (cY l runs)≤pm l:=by
 have key:∀ k,k≤(Em.pairs runs).length→pd (bu l (Em.pairs runs) k)≤pd l∧pm (bu l (Em.pairs runs) k)≤pm l:=by
  intro k
  induction k with
  | zero=>intro _;simp [bu]
  | succ k ih =>
   intro hk;have hk':k<(Em.pairs runs).length:=by omega
   have i:=ih (by omega);have hh:=pR h k (by omega);have ht:=hh.there k hk' (Nat.le_refl _);have hg:=mH runs _ (List.getElem_mem hk');have hn:∀ r,Em.used ((Em.pairs runs).take k++[(Em.pairs runs)[k]]) r≤cnt runs r:=fun r=>by
    rw [← List.take_succ_eq_append_getElem hk'];exact Nat.le_trans (pJ _ _ _) (LK h.pos r)
   have hj:=Ob (s:=(Em.pairs runs)[k].2.2) hh.sorted ht.1 ht.2 hg.1 hg.2.2.1 (fun p hp r hr hc=>by
    have h1:=hh.left p hp r hr;have h2:=hn r;rw [Em.jM] at h2;rcases hc with hc | hc
    ·rw [if_pos hc.symm] at h2;omega
    ·have:(if (Em.pairs runs)[k].2.1=r then (Em.pairs runs)[k].2.2 else 0)=(Em.pairs runs)[k].2.2:=if_pos hc.symm
     omega)
   rw [gB hk'];exact ⟨Nat.le_trans hj.1 i.1,Nat.le_trans hj.2 i.2⟩
 have e:cY l runs=settle (bu l (Em.pairs runs) (Em.pairs runs).length):=by unfold cY bu;rw [List.take_of_length_le (Nat.le_refl _)]
 have h1:=key _ (Nat.le_refl _);have h2:=kB (bu l (Em.pairs runs) (Em.pairs runs).length);have h3:=zG (bu l (Em.pairs runs) (Em.pairs runs).length);rw [e];omega
theorem L4 (l:List Pt) (s:List UInt8):pd (fL l s)=pd l:=by
 rcases dL l s with ⟨l',t,d,k,n,c,rfl,h⟩ | h
 ·rw [h,dg,dg,eN,eN,qS]
  simp only [bt,dep,sg]
 ·rw [h,dg,eN,qS]
  simp only [word,bt,dep,deps,sg];omega
def CQ (inner:List UInt8→List In):Prop:=∀ t,t.length≤4000000→deps (inner t)≤1+t.length
theorem TA (link:Bool) (inner:List UInt8→List In) (hin:link=false→CQ inner) {s:List UInt8}(hs:s.length≤4000000) {i:Nat}(h:i<s.length) {st:Sc}(hf:pd st.l≤i) :
  pd (piece link inner s i st).2.l≤(piece link inner s i st).1:=by
 have hm:=piece_more link inner h st;unfold piece at hm ⊢
 by_cases kV:s.getD i 0=96
 ·rw [if_pos kV] at hm ⊢
  cases hsp:Cd.span s (i:Int) with
  | some x =>
   obtain ⟨t,e⟩:=x;rw [hsp] at hm;simp only at hm ⊢;rw [dg,eN,qS];simp only [bt,dep,deps,sg];omega
  | none =>
   rw [hsp] at hm;simp only at hm ⊢;rw [L4];omega
 ·rw [if_neg kV] at hm ⊢
  cases ha:(if link=true then none else Lk.auto s (i:Int)) with
  | some x =>
   obtain ⟨t,e⟩:=x;rw [ha] at hm;simp only at hm ⊢;rw [dg,eN,qS];simp only [bt,dep,deps,sg,word];omega
  | none =>
   rw [ha] at hm;simp only at hm ⊢;cases hl:(if link=true then none else dU s i) with
   | some x =>
    obtain ⟨d,j,e⟩:=x;rw [hl] at hm;simp only at hm ⊢
    split at hl
    ·cases hl
    ·rename_i hlf
     have h3:=lR hl;have hml:=Go.Proofs.YtddkjkockbcamaaGreatDoor.ep (l:=s) (lo:=i+1) (hi:=j) (by omega);have hI:=hin (by simpa using hlf) (Go.Proofs.YtddkjkockbcamaaGreatDoor.mid s (i+1) j) (by omega);rw [hml] at hI;rw [dg,eN,qS];simp only [bt,dep,sg];omega
   | none =>
    rw [hl] at hm;simp only at hm ⊢;cases hk:Em.kind s (i:Int) with
    | some x =>
     obtain ⟨r,e⟩:=x;rw [hk] at hm;simp only at hm ⊢;have hn:=Iz hk;rw [dg,eN,qS];simp only [none_,gL,dep,deps,sg];omega
    | none =>
     rw [hk] at hm;simp only at hm ⊢
     by_cases h10:s.getD i 0=10
     ·rw [if_pos h10] at hm ⊢
      rw [dg,eN,qS];simp only [bt,dep,deps,sg];omega
     ·rw [if_neg h10] at hm ⊢
      simp only at hm ⊢;rw [L4];omega
theorem zl (link:Bool) (inner:List UInt8→List In) {C:Nat}(hC:7≤C) (hin:link=false→qO inner C) (Wa:link=false→CQ inner) (hok:link=false→iN inner) {s:List UInt8}(hs:s.length≤4000000):∀ (f i:Nat) (st:Sc),i≤s.length→fF st i→zm st i→pm st.l≤C*i→pd st.l≤i →
  ∃ j,j≤s.length∧fF (fC link inner f s i st) j∧pm (fC link inner f s i st).l≤C*j∧pd (fC link inner f s i st).l≤j
 | 0,i,st,hi,h1,_,h3,h4=>⟨i,hi,h1,h3,h4⟩
 | f+1,i,st,hi,h1,h2,h3,h4=>by
  unfold fC
  by_cases h:i<s.length
  ·rw [if_pos h]
   have hm:=piece_more link inner h st;obtain ⟨k1,k2⟩:=rW link inner hok hs h h1 h2;exact zl link inner hC hin Wa hok hs f _ _ hm.2 k1 k2 (zi link inner hC hin hs h h3) (TA link inner Wa hs h h4)
  ·rw [if_neg h];exact ⟨i,hi,h1,h3,h4⟩
theorem vD (link:Bool) (inner:List UInt8→List In) {C:Nat}(hC:7≤C) (hin:link=false→qO inner C) (Wa:link=false→CQ inner) (hok:link=false→iN inner):qO (within link inner) C∧CQ (within link inner):=by
 have key:∀ s:List UInt8,s.length≤4000000→bq (within link inner s)≤C*s.length∧deps (within link inner s)≤1+s.length:=by
  intro s hs;obtain ⟨j,hj,h1,h2,h3⟩:=zl link inner hC hin Wa hok hs (s.length+1-0) 0 ⟨[],[]⟩ (Nat.zero_le _) mG ⟨by simp,by simp [weight]⟩ (by simp [pm]) (by simp [pd]);have h4:=Fw (mT h1);have h5:C*j≤C*s.length:=Nat.mul_le_mul_left _ hj;unfold within;show bq (cY (fC link inner (s.length+1-0) s 0 ⟨[],[]⟩).l _)≤_∧deps (cY (fC link inner (s.length+1-0) s 0 ⟨[],[]⟩).l _)≤_;exact ⟨Nat.le_trans h4.2 (by omega),Nat.le_trans h4.1 (by omega)⟩
 exact ⟨fun s hs=>(key s hs).1,fun s hs=>(key s hs).2⟩
theorem xj {s:List UInt8}(hs:s.length≤4000000):bq (parse s)≤7*s.length∧deps (parse s)≤1+s.length:=by
 have h1:=vD true (fun _=>[]) (C:=7) (by omega) (fun h=>absurd h (by decide)) (fun h=>absurd h (by decide)) (fun h=>absurd h (by decide));have h2:=vD false inLink (C:=7) (by omega) (fun _=>h1.1) (fun _=>h1.2) (fun _=>ue true (fun _=>[]) (fun h=>absurd h (by decide)));exact ⟨h2.1 s hs,h2.2 s hs⟩
end Go.Proofs.YtddkjkockbcamaaGreatDoor.Il
namespace Go.Proofs.YtddkjkockbcamaaGreatDoor.Hm
theorem B4 {t:List UInt8}(h:t.length≤4000000):(para t).length≤210*t.length:=by
 have h1:=rI (Il.parse t);have h2:=(Il.xj h).1;unfold para;omega
end Go.Proofs.YtddkjkockbcamaaGreatDoor.Hm
set_option maxHeartbeats 16000000
set_option maxRecDepth 100000
namespace Go.Proofs.YtddkjkockbcamaaGreatDoor
open Go.RowKit
attribute [local go_sem] aD av aq
end Go.Proofs.YtddkjkockbcamaaGreatDoor
namespace Go.Proofs.YtddkjkockbcamaaGreatDoor
open Go.RowKit
end Go.Proofs.YtddkjkockbcamaaGreatDoor
namespace Go.Proofs.YtddkjkockbcamaaGreatDoor
open Go.RowKit
attribute [local go_sem] aD av aq
mutual
theorem Ri:∀ (x:Il.In),Il.fV x≤1000000000→Hm.FF (Hm.C1 x)
 | .mk k t d ks,h=>by
  simp only [Il.fV] at h;have hl:=rC ks;unfold Hm.C1;exact .mk (by omega) (by omega) (by rw [Hm.jO];omega) (tK ks (by omega))
theorem tK:∀ (l:List Il.In),Il.bq l≤1000000000→∀ y∈Hm.gu l,Hm.FF y
 | [],_=>by simp [Hm.gu]
 | x::r,h=>by
  simp only [Il.bq] at h;intro y hy;unfold Hm.gu at hy;rcases List.mem_cons.1 hy with rfl | hy
  ·exact Ri x (by omega)
  ·exact tK r (by omega) y hy
theorem rC:∀ (l:List Il.In),l.length≤Il.bq l
 | []=>by simp
 | x::r=>by
  have h1:=rC r;have h2:=PK x;simp only [Il.bq,List.length_cons];omega
theorem PK:∀ (x:Il.In),1≤Il.fV x
 | .mk k t d ks=>by simp only [Il.fV];omega
end
end Go.Proofs.YtddkjkockbcamaaGreatDoor
namespace Go.Proofs.YtddkjkockbcamaaGreatDoor.Il
open Go.Lib
def later (y x:Nat×Nat×Nat):Prop:=y.2.1≤x.2.1
theorem sx {l:List Em.R}{c:Nat}:∀ (f:Nat) (st:Em.St),(∀ x∈st.2,x.2.1≤c)→st.2.Pairwise later→(Em.cZ l c f st).2.Pairwise later∧∀ x∈(Em.cZ l c f st).2,x.2.1≤c
 | 0,_,h,hp=>⟨hp,h⟩
 | f+1,st,h,hp=>by
  unfold Em.cZ
  split
  ·split
   ·exact ⟨hp,h⟩
   ·rename_i o ho
    refine sx f _ (fun x hx=>?_) ?_
    ·rcases List.mem_append.1 hx with hx | hx
     ·exact h x hx
     ·obtain rfl:=List.mem_singleton.1 hx;exact Nat.le_refl _
    ·rw [List.pairwise_append]
     refine ⟨hp,List.pairwise_singleton _ _,fun y hy x hx=>?_⟩;obtain rfl:=List.mem_singleton.1 hx;exact h y hy
  ·exact ⟨hp,h⟩
theorem vO {l:List Em.R}:∀ (k c:Nat) (st:Em.St),(∀ x∈st.2,x.2.1≤c)→st.2.Pairwise later→(Em.outer l k c st).2.Pairwise later
 | 0,_,_,_,hp=>hp
 | k+1,c,st,h,hp=>by
  have:=sx (l:=l) (c:=c) (Em.lf st.1 c) st h hp;exact vO k (c+1) _ (fun x hx=>Nat.le_succ_of_le (this.2 x hx)) this.1
theorem Fm (l:List Em.R):(Em.pairs l).Pairwise later:=vO l.length 0 _ (by simp) List.Pairwise.nil
def Wd (x:In):Prop:=∀ t d ks,x=.mk 0 t d ks→d=[]∧ks=[]
theorem xb (s:List UInt8):Wd (word s):=by intro t d ks h;unfold word at h;injection h with _ _ h1 h2;exact ⟨h1.symm,h2.symm⟩
theorem KN {k:Nat}(h:k≠0) (t d:List UInt8) (ks:List In):Wd (.mk k t d ks):=by intro t' d' ks' e;injection e with e;exact absurd e h
theorem U9 {out:List In}{x:In}(h:∀ y∈out,Wd y) (hx:Wd x):∀ y∈dM out x,Wd y:=by
 intro y hy;rcases mZ out x with e | ⟨o,t',d',ks',t,d,ks,rfl,rfl,e⟩ | e
 ·rw [e] at hy;exact h y hy
 ·rw [e] at hy
  rcases List.mem_append.1 hy with hy | hy
  ·exact h y (List.mem_append.2 (.inl hy))
  ·obtain rfl:=List.mem_singleton.1 hy
   obtain ⟨rfl,rfl⟩:=h (.mk 0 t' d' ks') (by simp) _ _ _ rfl;exact xb _
 ·rw [e] at hy
  rcases List.mem_append.1 hy with hy | hy
  ·exact h y hy
  ·obtain rfl:=List.mem_singleton.1 hy;exact hx
def ko (o F:List In):List In:=F.foldl dM o
theorem gA (o a b:List In):ko o (a++b)=ko (ko o a) b:=List.foldl_append
theorem od (o:List In) (x:In):ko o [x]=dM o x:=rfl
theorem Eb (P:List In) (a b:List UInt8):dM (dM P (word a)) (word b)=dM P (word (a++b)):=by
 by_cases ha:a=[]
 ·subst ha;rw [word,fT];rfl
 ·by_cases hb:b=[]
  ·subst hb;rw [word,word,fT,List.append_nil];rfl
  ·have hab:a++b≠[]:=by simp [ha]
   rcases List.eq_nil_or_concat P with rfl | ⟨o,y,rfl⟩
   ·unfold word
    rw [jX ha,jX hab];exact fZ [] hb a [] [] [] []
   ·rw [List.concat_eq_append]
    obtain ⟨ky,t,d,ks⟩:=y;unfold word
    by_cases hk:ky=0
    ·subst hk
     rw [fZ o ha,fZ o hb,fZ o hab,List.append_assoc]
    ·rw [jT o ha hk,jT o hab hk]
     exact fZ _ hb a [] [] [] []
theorem Mq (O acc:List In) (x:In) (ha:∀ y∈acc,Wd y) (hx:Wd x):ko O (dM acc x)=dM (ko O acc) x:=by
 obtain ⟨kd,t,d,ks⟩:=x
 by_cases hk:kd=0
 ·subst hk
  obtain ⟨rfl,rfl⟩:=hx t d ks rfl
  by_cases ht:t=[]
  ·subst ht;rw [fT,fT]
  ·rcases List.eq_nil_or_concat acc with rfl | ⟨o,y,rfl⟩
   ·rw [jX ht];rfl
   ·rw [List.concat_eq_append] at ha ⊢
    obtain ⟨ky,t',d',ks'⟩:=y
    by_cases hky:ky=0
    ·subst hky
     obtain ⟨rfl,rfl⟩:=ha (.mk 0 t' d' ks') (by simp) _ _ _ rfl;rw [fZ o ht,gA,gA,od,od];exact (Eb _ t' t).symm
    ·rw [jT o ht hky,gA _ (o++[_]),od]
 ·rw [uy _ hk,gA,od]
theorem AN (O:List In):∀ (F acc:List In),(∀ y∈acc,Wd y)→(∀ y∈F,Wd y)→ko O (ko acc F)=ko (ko O acc) F
 | [],acc,_,_=>rfl
 | x::F,acc,ha,hF=>by
  have h1:=AN O F (dM acc x) (U9 ha (hF x (by simp))) (fun y hy=>hF y (by simp [hy]));show ko O (ko (dM acc x) F)=ko (dM (ko O acc) x) F;rw [h1,Mq O acc x ha (hF x (by simp))]
theorem OH (O F:List In) (hF:∀ y∈F,Wd y):ko O (ko [] F)=ko O F:=AN O F [] (by simp) hF
def opn (X:List (Nat×Nat×Nat)) (r:Nat):Nat:=X.countP fun x=>x.1==r
theorem zy (x:Nat×Nat×Nat) (X:List (Nat×Nat×Nat)) (r:Nat):opn (x::X) r=opn X r+if x.1=r then 1 else 0:=by
 unfold opn;rw [List.countP_cons];simp
abbrev Sk:=List (Nat×Nat×Nat)×List (List In)
def kd (s:Nat):Nat:=if s=2 then 3 else 2
def dW (st:List (List In)) (x:In):List (List In) :=
 match st with
 | []=>[]
 | t::r=>dM t x::r
def Tf (st:List (List In)) (s:Nat):List (List In) :=
 match st with
 | k::r=>dW r (.mk (kd s) [] [] k)
 | []=>[]
def closeAll (r:Nat):List (Nat×Nat×Nat)→List (List In)→Sk
 | [],st=>([],st)
 | x::X,st=>if x.2.1=r then closeAll r X (Tf st x.2.2) else (x::X,st)
def qj (LF:Nat→Nat) (r:Nat) (ch:UInt8) (S:Sk):Sk :=
 ((closeAll r S.1 S.2).1,List.replicate (opn (closeAll r S.1 S.2).1 r) []++dW (closeAll r S.1 S.2).2 (word (List.replicate (LF r) ch)))
def gy (LF:Nat→Nat) (S:Sk) (p:Pt):Sk :=
 match p.run with
 | none=>(S.1,dW S.2 p.inn)
 | some r=>qj LF r p.ch S
def uL (LF:Nat→Nat) (S:Sk) (l:List Pt):Sk:=l.foldl (gy LF) S
theorem pq (LF:Nat→Nat) (S:Sk) (a b:List Pt):uL LF S (a++b)=uL LF (uL LF S a) b:=List.foldl_append
theorem cS (LF:Nat→Nat) (S:Sk) (p:Pt) (b:List Pt):uL LF S (p::b)=uL LF (gy LF S p) b:=rfl
theorem Fc {r:Nat}{X:List (Nat×Nat×Nat)}{st:List (List In)}(h:∀ x∈X,x.2.1≠r):closeAll r X st=(X,st):=by
 cases X with
 | nil=>rfl
 | cons x X=>unfold closeAll;rw [if_neg (h x (by simp))]
theorem uQ {st:List (List In)}(h:st≠[]) (x:In):dW st x≠[]:=by
 cases st with
 | nil=>exact absurd rfl h
 | cons t r=>simp [dW]
theorem sM {LF:Nat→Nat}{r:Nat}{ch:UInt8}{X:List (Nat×Nat×Nat)}{st:List (List In)}(h:∀ x∈X,x.2.1≠r):qj LF r ch (X,st)=(X,List.replicate (opn X r) []++dW st (word (List.replicate (LF r) ch))):=by
 unfold qj;rw [Fc h]
theorem qT {LF:Nat→Nat}{x:Nat×Nat×Nat}{X:List (Nat×Nat×Nat)}:∀ {A:List Pt}{st:List (List In)},st≠[]→(∀ r∈cV A,r≠x.1∧∀ y∈x::X,y.2.1≠r)→∃ st',st'≠[]∧uL LF (x::X,st) A=(x::X,st')∧uL LF (X,st) A=(X,st')
 | [],st,hs,_=>⟨st,hs,rfl,rfl⟩
 | p::A,st,hs,h=>by
  rw [gO] at h;cases hp:p.run with
  | none =>
   obtain ⟨st',h1,h2,h3⟩:=qT (LF:=LF) (x:=x) (X:=X) (A:=A) (uQ hs p.inn) (fun r hr=>h r (by simp [hr]));refine ⟨st',h1,?_,?_⟩
   ·rw [cS];unfold gy;rw [hp];exact h2
   ·rw [cS];unfold gy;rw [hp];exact h3
  | some r =>
   rw [hp] at h;have hr:=h r (by simp);have e1:qj LF r p.ch (x::X,st)=(x::X,List.replicate (opn X r) []++dW st (word (List.replicate (LF r) p.ch))):=by
    rw [sM hr.2,zy,if_neg (Ne.symm hr.1)];rfl
   have e2:qj LF r p.ch (X,st)=(X,List.replicate (opn X r) []++dW st (word (List.replicate (LF r) p.ch))):=sM fun y hy=>hr.2 y (by simp [hy]);have hne:List.replicate (opn X r) ([]:List In)++dW st (word (List.replicate (LF r) p.ch))≠[]:=by simp [uQ hs]
   obtain ⟨st',h1,h2,h3⟩:=qT (LF:=LF) (x:=x) (X:=X) (A:=A) hne (fun r hr=>h r (by simp [hr]));refine ⟨st',h1,?_,?_⟩
   ·rw [cS];unfold gy;rw [hp];simp only [e1];exact h2
   ·rw [cS];unfold gy;rw [hp];simp only [e2];exact h3
theorem ju {LF:Nat→Nat}{X:List (Nat×Nat×Nat)}{T:List (List In)}:∀ {B:List Pt}{t:List In},(∀ p∈B,∀ r,p.run=some r→p.left=LF r∧p.inn=none_)→(∀ r∈cV B,∀ y∈X,y.1≠r∧y.2.1≠r)→uL LF (X,t::T) B=(X,B.foldl (fun o p=>dM o (kO p)) t::T)
 | [],t,_,_=>rfl
 | p::B,t,hl,h=>by
  rw [gO] at h;have hl':∀ q∈B,∀ r,q.run=some r→q.left=LF r∧q.inn=none_:=fun q hq=>hl q (by simp [hq]);cases hp:p.run with
  | none =>
   have e:kO p=p.inn:=by unfold kO;rw [hp]
   rw [cS,List.foldl_cons,e];unfold gy;rw [hp];exact ju hl' (fun r hr=>h r (by simp [hr]))
  | some r =>
   rw [hp] at h;have hr:=h r (by simp);obtain ⟨e1,e2⟩:=hl p (by simp) r hp;have e:kO p=word (List.replicate (LF r) p.ch):=by unfold kO;rw [hp,e2,e1];rfl
   have e3:opn X r=0:=by
    unfold opn;rw [List.countP_eq_zero];intro y hy;simp [(hr y hy).1]
   rw [cS,List.foldl_cons,e];unfold gy;rw [hp];simp only;rw [sM fun y hy=>(hr y hy).2,e3];exact ju hl' (fun r hr=>h r (by simp [hr]))
structure MOK (LF:Nat→Nat) (l:List Pt) (X:List (Nat×Nat×Nat)):Prop where
 sorted:(cV l).Pairwise (· < ·)
 here:∀ x∈X,x.1∈cV l∧x.2.1∈cV l∧x.1<x.2.1
 out:X.Pairwise Em.outside
 late:X.Pairwise later
 left:∀ p∈l,∀ r,p.run=some r→p.left=LF r+Em.used X r∧p.inn=none_
theorem lN (x:Nat×Nat×Nat) (X:List (Nat×Nat×Nat)) (i:Nat):Em.used (x::X) i=((if x.1=i then x.2.2 else 0)+if x.2.1=i then x.2.2 else 0)+Em.used X i:=by simp [Em.used]
theorem Nb {X:List (Nat×Nat×Nat)}{r:Nat}(h:∀ y∈X,y.1≠r∧y.2.1≠r):Em.used X r=0:=by
 induction X with
 | nil=>rfl
 | cons x X ih=>rw [lN,if_neg (h x (by simp)).1,if_neg (h x (by simp)).2,ih fun y hy=>h y (by simp [hy])]
theorem Su {LF:Nat→Nat}{l:List Pt}{a b s:Nat}{X:List (Nat×Nat×Nat)}(h:MOK LF l ((a,b,s)::X)):MOK LF (bK l (a,b,s)) X∧∀ st,st≠[]→uL LF ((a,b,s)::X,st) l=uL LF (X,st) (bK l (a,b,s)):=by
 obtain ⟨ha,hb,hab⟩:=h.here (a,b,s) (by simp);simp only at ha hb hab;have ho:=List.pairwise_cons.1 h.out;have hlt:=List.pairwise_cons.1 h.late;have ZJ:=E0 (s:=s) h.sorted ha hb hab;have hmid:∀ r,a<r→r<b→∀ y∈X,y.1≠r∧y.2.1≠r:=fun r h1 h2 y hy=>by
  have:=ho.1 y hy;unfold Em.outside at this;simp only at this;exact ⟨fun e=>this.1 (by omega),fun e=>this.2 (by omega)⟩
 obtain ⟨A,p,B,q,C,rfl,hp,hq,h1,h2,h3,h4,h5⟩:=iu h.sorted ha hb hab;have Sv:∀ y∈X,b≤y.2.1:=fun y hy=>by have:=hlt.1 y hy;unfold later at this;exact this
 constructor
 ·refine ⟨ZJ.1,fun x hx=>?_,ho.2,hlt.2,?_⟩
  ·have h6:=h.here x (by simp [hx])
   have h7:=ho.1 x hx;exact ⟨ZJ.2 _ h6.1 h7.1,ZJ.2 _ h6.2.1 h7.2,h6.2.2⟩
  ·rw [dY h1 h2]
   have old:∀ y∈A++p::(B++q::C),∀ r,y.run=some r→r≠a→r≠b→y.left=LF r+Em.used X r∧y.inn=none_:=fun y hy r hr n1 n2=>by
    have h6:=h.left y hy r hr;rw [lN,if_neg (Ne.symm n1),if_neg (Ne.symm n2),Nat.zero_add] at h6;exact h6
   intro x hx r hr;rcases List.mem_append.1 hx with hm | hm
   ·have h6:=h3 r (gG.2 ⟨x,hm,hr⟩)
    exact old x (by simp [hm]) r hr (by omega) (by omega)
   ·rcases List.mem_cons.1 hm with rfl | hm
    ·obtain rfl:a=r:=by simp only at hr;rw [hp] at hr;exact Option.some.inj hr
     have h6:=h.left p (by simp) a hp;rw [lN] at h6;simp only at h6 ⊢;rw [if_pos trivial,if_neg (by omega)] at h6;exact ⟨by omega,h6.2⟩
    ·rcases List.mem_cons.1 hm with rfl | hm
     ·simp at hr
     ·rcases List.mem_cons.1 hm with rfl | hm
      ·obtain rfl:b=r:=by simp only at hr;rw [hq] at hr;exact Option.some.inj hr
       have h6:=h.left q (by simp) b hq;rw [lN] at h6;simp only at h6 ⊢;rw [if_neg (by omega),if_pos trivial] at h6;exact ⟨by omega,h6.2⟩
      ·have h6:=h5 r (gG.2 ⟨x,hm,hr⟩)
       exact old x (by simp [hm]) r hr (by omega) (by omega)
 ·intro st hst
  rw [dY h1 h2,pq,pq];obtain ⟨s1,n1,e1,e2⟩:=qT (LF:=LF) (x:=(a,b,s)) (X:=X) (A:=A) hst (fun r hr=>by
   have:=h3 r hr;refine ⟨by simp only;omega,fun y hy=>?_⟩;rcases List.mem_cons.1 hy with rfl | hy
   ·simp only;omega
   ·have:=Sv y hy;omega)
  rw [e1,e2,cS,cS,cS,pq,cS,cS];have e3:gy LF ((a,b,s)::X,s1) p=((a,b,s)::X,[]::(List.replicate (opn X a) []++dW s1 (word (List.replicate (LF a) p.ch)))):=by
   unfold gy;rw [hp];simp only;rw [sM (fun y hy=>by
    rcases List.mem_cons.1 hy with rfl | hy
    ·simp only;omega
    ·have:=Sv y hy;omega),zy,if_pos rfl,List.replicate_succ]
   rfl
  have e4:gy LF (X,s1) { p with left:=p.left-s }=(X,List.replicate (opn X a) []++dW s1 (word (List.replicate (LF a) p.ch))):=by
   unfold gy;simp only [hp];rw [sM (fun y hy=>by have:=Sv y hy;omega)]
  rw [e3,e4];obtain ⟨T,hT⟩:∃ T,T=List.replicate (opn X a) ([]:List In)++dW s1 (word (List.replicate (LF a) p.ch)):=⟨_,rfl⟩
  have hTn:T≠[]:=by rw [hT];simp [uQ n1]
  rw [← hT];have e5:uL LF ((a,b,s)::X,[]::T) B=((a,b,s)::X,settle B::T):=by
   refine ju (fun y hy r hr=>?_) (fun r hr y hy=>?_)
   ·have h6:=h.left y (by simp [hy]) r hr
    have h7:=h4 r (gG.2 ⟨y,hy,hr⟩);rw [lN] at h6;simp only at h6;rw [if_neg (by omega),if_neg (by omega),Nb (hmid r h7.1 h7.2)] at h6;exact ⟨by omega,h6.2⟩
   ·have h7:=h4 r hr
    rcases List.mem_cons.1 hy with rfl | hy
    ·simp only;omega
    ·exact hmid r h7.1 h7.2 y hy
  rw [e5];have e6:gy LF (X,T) ⟨.mk (if s=2 then 3 else 2) [] [] (settle B),none,0,0⟩=(X,dW T (.mk (kd s) [] [] (settle B))):=rfl;rw [e6];have e7:gy LF ((a,b,s)::X,settle B::T) q=gy LF (X,dW T (.mk (kd s) [] [] (settle B))) { q with left:=q.left-s }:=by
   unfold gy;simp only [hq];unfold qj;have e8:closeAll b ((a,b,s)::X) (settle B::T)=closeAll b X (dW T (.mk (kd s) [] [] (settle B))):=by
    conv=>lhs;unfold closeAll
    rw [if_pos rfl]
    rfl
   simp only [e8]
  rw [e7]
theorem Ee {LF:Nat→Nat}:∀ {X:List (Nat×Nat×Nat)}{l:List Pt},MOK LF l X→uL LF (X,[[]]) l=([],[settle (X.foldl bK l)])
 | [],l,h=>by
  have:=ju (LF:=LF) (X:=[]) (T:=[]) (B:=l) (t:=[]) (fun p hp r hr=>by have:=h.left p hp r hr;simpa [Em.used] using this) (by simp);exact this
 | (a,b,s)::X,l,h=>by
  have:=Su h;rw [this.2 [[]] (by simp),Ee this.1]
  rfl
def V8 (t:List UInt8):Prop:=∃ V:List Nat,(∀ x∈V,Ru.vr x)∧t=Ru.enc V
theorem Kg:V8 []:=⟨[],by simp,rfl⟩
theorem AL {a b:List UInt8}(ha:V8 a) (hb:V8 b):V8 (a++b):=by
 obtain ⟨A,h1,rfl⟩:=ha;obtain ⟨B,h2,rfl⟩:=hb;exact ⟨A++B,fun x hx=>(List.mem_append.1 hx).elim (h1 x) (h2 x),(Ru.xp A B).symm⟩
theorem EA {t:List UInt8}(h:V8 t):Ru.enc (Ru.aS t)=t:=by
 obtain ⟨V,h1,rfl⟩:=h;rw [Ru.BD h1]
theorem S0 {r:Nat}(h:Ru.vr r):V8 (encodeRune (r:Int)):=⟨[r],by simpa using h,by simp [Ru.enc]⟩
theorem QD {b:UInt8}(h:b.toNat<128) (n:Nat):V8 (List.replicate n b):=by
 induction n with
 | zero=>exact Kg
 | succ n ih =>
  rw [List.replicate_succ];have:V8 [b]:=by
   have e:encodeRune ((b.toNat:Nat):Int)=[b]:=by
    unfold encodeRune;rw [encodeRuneZ_one (by omega) (by omega)];simp
   rw [← e];exact S0 (by unfold Ru.vr;omega)
  exact AL this ih
structure Rw where
 l:List In
 p:List UInt8
def Rw.full (R:Rw):List In:=R.l++if R.p=[] then [] else [word R.p]
def Rw.nil:Rw:=⟨[],[]⟩
structure Rw.ok (R:Rw):Prop where
 last:∀ o t d ks,R.l≠o++[.mk 0 t d ks]
 wd:∀ y∈R.l,Wd y
 v8:V8 R.p
 v8s:∀ t d ks,In.mk 0 t d ks∈R.l→V8 t
def Rw.say (R:Rw) (s:List UInt8):Rw:=⟨R.l,R.p++s⟩
def Rw.put (R:Rw) (x:In):Rw:=⟨R.full++[x],[]⟩
def Rw.step (R:Rw) (x:In):Rw :=
 match x with
 | .mk 0 t _ _=>R.say t
 | x=>R.put x
def Rw.join (R v:Rw):Rw:=(v.l.foldl Rw.step R).say v.p
theorem Rw.Kl:Rw.nil.ok:=⟨fun o t d ks h=>by simp [Rw.nil] at h,by simp [Rw.nil],Kg,by simp [Rw.nil]⟩
theorem Rw.S6:Rw.nil.full=[]:=rfl
theorem Rw.uz (R:Rw) {k:Nat}(h:k≠0) (t d:List UInt8) (ks:List In):R.step (.mk k t d ks)=R.put (.mk k t d ks):=by
 unfold Rw.step
 split
 ·rename_i e;injection e with e;exact absurd e h
 ·rfl
section
variable {R v:Rw}
theorem Rw.rO (h:R.ok) (s:List UInt8):(R.say s).full=dM R.full (word s):=by
 unfold Rw.full Rw.say;simp only
 by_cases hs:s=[]
 ·subst hs
  rw [List.append_nil];exact (fT _ [] []).symm
 ·rw [if_neg (by simp [hs])]
  by_cases hp:R.p=[]
  ·rw [hp,if_pos rfl,List.append_nil,List.nil_append]
   rcases List.eq_nil_or_concat R.l with e | ⟨o,y,e⟩
   ·rw [e];exact (jX hs [] []).symm
   ·rw [e,List.concat_eq_append]
    obtain ⟨ky,t,d,ks⟩:=y;have hk:ky≠0:=fun hk=>by subst hk;exact h.last o t d ks (by rw [e,List.concat_eq_append])
    exact (jT o hs hk t d [] ks []).symm
  ·rw [if_neg hp]
   exact (fZ R.l hs R.p [] [] [] []).symm
theorem Rw.xN (R:Rw) {k:Nat}(hk:k≠0) (t d:List UInt8) (ks:List In):(R.put (.mk k t d ks)).full=dM R.full (.mk k t d ks):=by
 rw [uy _ hk];unfold Rw.put Rw.full;simp
theorem Rw.Ue (h:R.ok):∀ y∈R.full,Wd y:=by
 intro y hy;unfold Rw.full at hy;rcases List.mem_append.1 hy with hy | hy
 ·exact h.wd y hy
 ·split at hy
  ·cases hy
  ·obtain rfl:=List.mem_singleton.1 hy;exact xb _
theorem Rw.Cw (h:R.ok) {s:List UInt8}(hs:V8 s):(R.say s).ok:=⟨h.last,h.wd,AL h.v8 hs,h.v8s⟩
theorem Rw.Iq (h:R.ok) {k:Nat}(hk:k≠0) (t d:List UInt8) (ks:List In):(R.put (.mk k t d ks)).ok:=by
 refine ⟨fun o t' d' ks' e=>?_,fun y hy=>?_,Kg,fun t' d' ks' hm=>?_⟩
 ·have:=(List.append_inj' e rfl).2
  injection this with this;injection this with this;exact hk this
 ·rcases List.mem_append.1 hy with hy | hy
  ·exact Rw.Ue h y hy
  ·obtain rfl:=List.mem_singleton.1 hy;exact KN hk _ _ _
 ·rcases List.mem_append.1 hm with hm | hm
  ·unfold Rw.full at hm
   rcases List.mem_append.1 hm with hm | hm
   ·exact h.v8s _ _ _ hm
   ·split at hm
    ·cases hm
    ·have:=List.mem_singleton.1 hm
     unfold word at this;injection this with _ e;rw [e];exact h.v8
  ·have:=List.mem_singleton.1 hm
   injection this with e;exact absurd e.symm hk
theorem Rw.Rl (h:R.ok) (x:In) (hx:Wd x) (hv:∀ t d ks,x=.mk 0 t d ks→V8 t):(R.step x).ok∧(R.step x).full=dM R.full x:=by
 obtain ⟨k,t,d,ks⟩:=x
 by_cases hk:k=0
 ·subst hk
  obtain ⟨rfl,rfl⟩:=hx t d ks rfl;exact ⟨Rw.Cw h (hv _ _ _ rfl),Rw.rO h t⟩
 ·rw [Rw.uz R hk]
  exact ⟨Rw.Iq h hk t d ks,Rw.xN R hk t d ks⟩
theorem Rw.BH:∀ (F:List In) (R:Rw),R.ok→(∀ y∈F,Wd y)→(∀ t d ks,In.mk 0 t d ks∈F→V8 t)→(F.foldl Rw.step R).ok∧(F.foldl Rw.step R).full=ko R.full F
 | [],R,h,_,_=>⟨h,rfl⟩
 | x::F,R,h,hw,hv=>by
  obtain ⟨h1,h2⟩:=Rw.Rl h x (hw x (by simp)) (fun t d ks e=>hv t d ks (by simp [e]));obtain ⟨h3,h4⟩:=Rw.BH F (R.step x) h1 (fun y hy=>hw y (by simp [hy])) (fun t d ks hm=>hv t d ks (by simp [hm]));exact ⟨h3,by rw [List.foldl_cons,h4,h2];rfl⟩
theorem Rw.EF (h:R.ok) (hv:v.ok):(R.join v).ok∧(R.join v).full=ko R.full v.full:=by
 obtain ⟨h1,h2⟩:=Rw.BH v.l R h hv.wd hv.v8s;refine ⟨Rw.Cw h1 hv.v8,?_⟩;unfold Rw.join;rw [Rw.rO h1,h2];obtain ⟨O,hO⟩:∃ O,O=R.full:=⟨_,rfl⟩
 rw [← hO];unfold Rw.full;rw [gA]
 by_cases e:v.p=[]
 ·rw [if_pos e,e]
  exact fT _ [] []
 ·rw [if_neg e];rfl
end
def Rw.wt (R:Rw):Nat:=R.l.length+R.p.length+eY R.l
theorem jr (a b:List In):eY (a++b)=eY a+eY b:=by simp [eY]
theorem Rw.uu (R:Rw) (s:List UInt8):(R.say s).wt=R.wt+s.length:=by
 unfold Rw.wt Rw.say;simp only [List.length_append];omega
theorem Rw.La (R:Rw):R.full.length≤R.l.length+1∧eY R.full=eY R.l+R.p.length:=by
 unfold Rw.full
 split
 ·rename_i e;rw [e];simp
 ·rw [jr];simp [eY,word,fK]
theorem Rw.Kc (R:Rw) (x:In):(R.put x).wt≤R.wt+2+fK x:=by
 have:=R.La;unfold Rw.wt Rw.put;simp only [List.length_append,List.length_singleton,List.length_nil];rw [jr];have e:eY [x]=fK x:=by simp [eY]
 omega
theorem Rw.Vy (R:Rw) (x:In):(R.step x).wt≤R.wt+2+fK x:=by
 obtain ⟨k,t,d,ks⟩:=x
 by_cases hk:k=0
 ·subst hk;show (R.say t).wt≤_;rw [Rw.uu];simp only [fK];omega
 ·rw [Rw.uz R hk];exact Rw.Kc R _
theorem Rw.zb:∀ (F:List In) (R:Rw),(F.foldl Rw.step R).wt≤R.wt+2*F.length+eY F
 | [],R=>by simp [eY]
 | x::F,R=>by
  have h1:=Rw.zb F (R.step x);have h2:=Rw.Vy R x;have h3:eY (x::F)=fK x+eY F:=by simp [eY]
  rw [List.foldl_cons,List.length_cons];omega
theorem Rw.Vu (R v:Rw):(R.join v).wt≤R.wt+2*v.wt:=by
 unfold Rw.join;rw [Rw.uu];have:=Rw.zb v.l R;unfold Rw.wt at this ⊢;omega
def ij (rs:List Rw):Nat:=(rs.map Rw.wt).sum
theorem eS (a b:List Rw):ij (a++b)=ij a+ij b:=by simp [ij]
theorem gS (R:Rw) (b:List Rw):ij (R::b)=R.wt+ij b:=by simp [ij]
theorem mC:∀ {rs:List Rw}{R:Rw},R∈rs→R.wt≤ij rs
 | x::rs,R,h=>by
  rw [gS];rcases List.mem_cons.1 h with rfl | h
  ·omega
  ·have:=mC h;omega
def bg {α:Type}(f:α→α):List α→List α
 | []=>[]
 | [x]=>[f x]
 | x::y::r=>x::bg f (y::r)
theorem b8 {α:Type}(f:α→α):∀ (l:List α) (x:α),bg f (l++[x])=l++[f x]
 | [],x=>rfl
 | [y],x=>rfl
 | y::z::l,x=>by
  have:=b8 f (z::l) x;show y::bg f ((z::l)++[x])=_;rw [this];rfl
theorem Fg {α:Type}{f:α→α}{l:List α}(h:l≠[]):bg f l≠[]:=by
 rcases List.eq_nil_or_concat l with e | ⟨o,y,e⟩
 ·exact absurd e h
 ·rw [e,List.concat_eq_append,b8];simp
theorem mg {α:Type}(f:α→α) (l:List α):(bg f l).length=l.length:=by
 rcases List.eq_nil_or_concat l with e | ⟨o,y,e⟩
 ·rw [e];rfl
 ·rw [e,List.concat_eq_append,b8];simp
theorem MK {α:Type}(f:α→α) {l:List α}{k:Nat}(hk:k+1=l.length) (h:k<l.length):bg f l=l.set k (f l[k]):=by
 rcases List.eq_nil_or_concat l with e | ⟨o,y,e⟩
 ·subst e;simp at h
 ·rw [List.concat_eq_append] at e
  subst e;have:k=o.length:=by simpa using hk
  subst this;rw [b8];simp
theorem tZ {α β:Type}{f:α→α}{f':β→β}{g:α→β}{l:List α}(h:∀ x∈l,g (f x)=f' (g x)):(bg f l).map g=bg f' (l.map g):=by
 rcases List.eq_nil_or_concat l with e | ⟨o,y,e⟩
 ·rw [e];rfl
 ·rw [e,List.concat_eq_append] at h ⊢
  rw [b8,List.map_append,List.map_append,List.map_singleton,List.map_singleton,b8,h y (by simp)]
theorem p9 {α:Type}{f:α→α}{P:α→Prop}{l:List α}(h:∀ x∈l,P x) (hf:∀ x,P x→P (f x)):∀ x∈bg f l,P x:=by
 rcases List.eq_nil_or_concat l with e | ⟨o,y,e⟩
 ·rw [e];intro x hx;cases hx
 ·rw [e,List.concat_eq_append] at h ⊢
  rw [b8];intro x hx;rcases List.mem_append.1 hx with hx | hx
  ·exact h x (by simp [hx])
  ·obtain rfl:=List.mem_singleton.1 hx;exact hf y (h y (by simp))
theorem vI {α:Type}(f g:α→α) (l:List α):bg f (bg g l)=bg (fun x=>f (g x)) l:=by
 rcases List.eq_nil_or_concat l with e | ⟨o,y,e⟩
 ·rw [e];rfl
 ·rw [e,List.concat_eq_append,b8,b8,b8]
theorem jG {f:Rw→Rw}{k:Nat}(hf:∀ R,(f R).wt≤R.wt+k) (rs:List Rw):ij (bg f rs)≤ij rs+k:=by
 rcases List.eq_nil_or_concat rs with e | ⟨o,y,e⟩
 ·rw [e];simp [bg,ij]
 ·rw [e,List.concat_eq_append,b8,eS,eS,gS,gS]
  have:=hf y;have:ij []=0:=rfl;omega
def fD:List Pt→List (List In)
 | []=>[[]]
 | p::l =>
  match p.run with
  | none=>(match fD l with | F::Fs=>(p.inn::F)::Fs | []=>[[p.inn]])
  | some _=>[]::fD l
theorem zj:∀ l,fD l≠[]
 | []=>by simp [fD]
 | p::l=>by
  unfold fD;cases p.run with
  | some r=>simp
  | none =>
   simp only
   split<;>simp
theorem Bw:∀ (l:List Pt) (x:In) (n:Nat) (c:UInt8),fD (l++[⟨x,none,n,c⟩])=bg (fun F=>F++[x]) (fD l)
 | [],x,n,c=>rfl
 | p::l,x,n,c=>by
  have ih:=Bw l x n c;rw [List.cons_append];unfold fD;rw [ih];have hne:=zj l;cases p.run with
  | some r =>
   simp only;cases hl:fD l with
   | nil=>exact absurd hl hne
   | cons F Fs=>rfl
  | none =>
   simp only;cases hl:fD l with
   | nil=>exact absurd hl hne
   | cons F Fs =>
    cases Fs with
    | nil=>rfl
    | cons G Gs=>rfl
theorem Bl:∀ (l:List Pt) (x:In) (r n:Nat) (c:UInt8),fD (l++[⟨x,some r,n,c⟩])=fD l++[[]]
 | [],x,r,n,c=>rfl
 | p::l,x,r,n,c=>by
  have ih:=Bl l x r n c;rw [List.cons_append];unfold fD;rw [ih];have hne:=zj l;cases p.run with
  | some r=>rfl
  | none =>
   simp only;cases hl:fD l with
   | nil=>exact absurd hl hne
   | cons F Fs=>rfl
def qC (l:List Pt):List (List In):=(fD l).map (ko [])
theorem qd (l:List Pt) (x:In) (n:Nat) (c:UInt8):qC (l++[⟨x,none,n,c⟩])=bg (fun F=>dM F x) (qC l):=by
 unfold qC;rw [Bw];exact tZ fun F _=>by rw [gA,od]
theorem OM (l:List Pt) (x:In) (r n:Nat) (c:UInt8):qC (l++[⟨x,some r,n,c⟩])=qC l++[[]]:=by
 unfold qC;rw [Bl,List.map_append];rfl
theorem Iw {l:List Pt}(hw:∀ p∈l,Wd p.inn) (s:List UInt8):qC (fL l s)=bg (fun F=>dM F (word s)) (qC l):=by
 rcases dL l s with ⟨l',t,d,k,n,c,rfl,h⟩ | h
 ·obtain ⟨rfl,rfl⟩:=hw ⟨.mk 0 t d k,none,n,c⟩ (by simp) t d k rfl
  rw [h,qd,qd,vI];congr 1
  funext F
  exact (Eb F t s).symm
 ·rw [h,qd]
structure Rel (rs:List Rw) (st:Sc):Prop where
 rows:rs.map Rw.full=qC st.l
 ok:∀ R∈rs,R.ok
 wd:∀ p∈st.l,Wd p.inn
 runs:∀ p∈st.l,∀ r,p.run=some r→p.inn=none_∧p.ch=(Em.get st.runs r).ch
 len:rs.length=st.runs.length+1
theorem My:Rel [Rw.nil] ⟨[],[]⟩:=⟨rfl,by intro R hR;obtain rfl:=List.mem_singleton.1 hR;exact Rw.Kl,by simp,by simp,rfl⟩
theorem KK {rs:List Rw}{st:Sc}(h:Rel rs st) {s:List UInt8}(hs:V8 s):Rel (bg (fun R=>R.say s) rs) ⟨fL st.l s,st.runs⟩:=by
 refine ⟨?_,p9 h.ok fun R hR=>Rw.Cw hR hs,?_,fun p hp r hr=>h.runs p (ES hp hr) r hr,by rw [mg];exact h.len⟩
 ·rw [Iw h.wd,← h.rows]
  exact tZ fun R hR=>Rw.rO (h.ok R hR) s
 ·intro p hp
  rcases dL st.l s with ⟨l',t,d,k,n,c,e,e2⟩ | e
  ·simp only at hp
   rw [e2] at hp;rcases List.mem_append.1 hp with hp | hp
   ·exact h.wd p (by rw [e];simp [hp])
   ·obtain rfl:=List.mem_singleton.1 hp
    obtain ⟨rfl,rfl⟩:=h.wd ⟨.mk 0 t d k,none,n,c⟩ (by rw [e];simp) t d k rfl;exact xb _
  ·simp only at hp
   rw [e] at hp;rcases List.mem_append.1 hp with hp | hp
   ·exact h.wd p hp
   ·obtain rfl:=List.mem_singleton.1 hp;exact xb _
theorem Vo {rs:List Rw}{st:Sc}(h:Rel rs st) {k:Nat}(hk:k≠0) (t d:List UInt8) (ks:List In):Rel (bg (fun R=>R.put (.mk k t d ks)) rs) ⟨st.l++[⟨.mk k t d ks,none,0,0⟩],st.runs⟩:=by
 refine ⟨?_,p9 h.ok fun R hR=>Rw.Iq hR hk t d ks,?_,fun p hp r hr=>?_,by rw [mg];exact h.len⟩
 ·rw [qd,← h.rows]
  exact tZ fun R _=>Rw.xN R hk t d ks
 ·intro p hp
  rcases List.mem_append.1 hp with hp | hp
  ·exact h.wd p hp
  ·obtain rfl:=List.mem_singleton.1 hp;exact KN hk _ _ _
 ·rcases List.mem_append.1 hp with hp | hp
  ·exact h.runs p hp r hr
  ·obtain rfl:=List.mem_singleton.1 hp;cases hr
theorem VH {rs:List Rw}{st:Sc}(h:Rel rs st) (hr:cV st.l=List.range st.runs.length) (x:Em.R):Rel (rs++[Rw.nil]) ⟨st.l++[⟨none_,some st.runs.length,x.n.toNat,x.ch⟩],st.runs++[x]⟩:=by
 refine ⟨?_,?_,?_,?_,by simp [h.len]⟩
 ·rw [OM,← h.rows,List.map_append];rfl
 ·intro R hR
  rcases List.mem_append.1 hR with hR | hR
  ·exact h.ok R hR
  ·obtain rfl:=List.mem_singleton.1 hR;exact Rw.Kl
 ·intro p hp
  rcases List.mem_append.1 hp with hp | hp
  ·exact h.wd p hp
  ·obtain rfl:=List.mem_singleton.1 hp
   intro t d ks e;unfold none_ at e;injection e with _ _ e1 e2;exact ⟨e1.symm,e2.symm⟩
 ·intro p hp r Xt
  rcases List.mem_append.1 hp with hp | hp
  ·have h1:=h.runs p hp r Xt
   have hm:r<st.runs.length:=by
    have:r∈cV st.l:=gG.2 ⟨p,hp,Xt⟩;rw [hr] at this;exact List.mem_range.1 this
   refine ⟨h1.1,?_⟩;rw [h1.2,Em.get_at hm,Em.get_at (by simp;omega),List.getElem_append_left hm]
  ·obtain rfl:=List.mem_singleton.1 hp
   obtain rfl:st.runs.length=r:=Option.some.inj Xt;refine ⟨rfl,?_⟩;rw [Em.get_at (by simp)];simp
def iQ (st:List (List In)) (F:List In):List (List In) :=
 match st with
 | []=>[]
 | t::r=>ko t F::r
def oI (LF:Nat→Nat) (ch:Nat→UInt8):Nat→List (List In)→Sk→Sk
 | _,[],S=>S
 | i,F::Fs,S=>oI LF ch (i+1) Fs ((qj LF i (ch i) S).1,iQ (qj LF i (ch i) S).2 F)
theorem tE {LF:Nat→Nat}{ch:Nat→UInt8}:∀ (l:List Pt) (i n:Nat) (S:Sk),cV l=List.range' i n→(∀ p∈l,∀ r,p.run=some r→p.ch=ch r) →
  ∃ F Fs,fD l=F::Fs∧uL LF S l=oI LF ch i Fs (S.1,iQ S.2 F)
 | [],i,n,S,_,_=>⟨[],[],rfl,by
   have:iQ S.2 []=S.2:=by unfold iQ;cases S.2<;>rfl
   rw [this];rfl⟩
 | p::l,i,n,S,h,hc=>by
  have hc':∀ q∈l,∀ r,q.run=some r→q.ch=ch r:=fun q hq=>hc q (by simp [hq]);rw [gO] at h;cases hp:p.run with
  | none =>
   rw [hp] at h;obtain ⟨F,Fs,h1,h2⟩:=tE l i n (S.1,dW S.2 p.inn) h hc';refine ⟨p.inn::F,Fs,by unfold fD;rw [hp,h1],?_⟩;rw [cS];have e:gy LF S p=(S.1,dW S.2 p.inn):=by unfold gy;rw [hp]
   rw [e,h2];congr 2;unfold dW iQ;cases S.2<;>rfl
  | some r =>
   rw [hp] at h;cases n with
   | zero=>simp at h
   | succ n =>
    rw [List.range'_succ] at h;injection h with hr h;subst hr;have e:gy LF S p=qj LF r (ch r) S:=by unfold gy;rw [hp,hc p (by simp) r hp]
    obtain ⟨F,Fs,h1,h2⟩:=tE l (r+1) n (qj LF r (ch r) S) (by simpa using h) hc';refine ⟨[],F::Fs,by unfold fD;rw [hp,h1],?_⟩;rw [cS,e,h2];have:iQ S.2 []=S.2:=by unfold iQ;cases S.2<;>rfl
    rw [this]
    rfl
theorem QH {l:List Pt}(hw:∀ p∈l,Wd p.inn):∀ F∈fD l,∀ y∈F,Wd y:=by
 induction l with
 | nil=>intro F hF;simp [fD] at hF;subst hF;simp
 | cons p l ih =>
  have ih':=ih fun q hq=>hw q (by simp [hq]);unfold fD;cases p.run with
  | some r =>
   intro F hF;rcases List.mem_cons.1 hF with rfl | hF
   ·simp
   ·exact ih' F hF
  | none =>
   simp only;cases hl:fD l with
   | nil=>exact absurd hl (zj l)
   | cons G Gs =>
    rw [hl] at ih';intro F hF y hy;rcases List.mem_cons.1 hF with rfl | hF
    ·rcases List.mem_cons.1 hy with rfl | hy
     ·exact hw p (by simp)
     ·exact ih' G (by simp) y hy
    ·exact ih' F (by simp [hF]) y hy
theorem xK {LF:Nat→Nat}{ch:Nat→UInt8}:∀ (Fs:List (List In)) (i:Nat) (S:Sk),(∀ F∈Fs,∀ y∈F,Wd y)→oI LF ch i (Fs.map (ko [])) S=oI LF ch i Fs S
 | [],_,_,_=>rfl
 | F::Fs,i,S,h=>by
  rw [List.map_cons];unfold oI;rw [xK Fs (i+1) _ fun G hG=>h G (by simp [hG])];congr 2;unfold iQ;cases (qj LF i (ch i) S).2 with
  | nil=>rfl
  | cons t r=>simp only;rw [OH t F (h F (by simp))]
def qI (runs:List Em.R) (r:Nat):Nat:=cnt runs r-Em.used (Em.pairs runs) r
theorem Mx {rs:List Rw}{st:Sc}{i:Nat}(h:Rel rs st) (hs:fF st i) :
  ∃ R Rs,rs=R::Rs∧oI (qI st.runs) (fun r=>(Em.get st.runs r).ch) 0 (Rs.map Rw.full) (Em.pairs st.runs,[R.full])=([],[cY st.l st.runs]):=by
 have hinv:=Em.pW st.runs;have hrd:=mT hs;have hM:MOK (qI st.runs) st.l (Em.pairs st.runs):=by
  refine ⟨hrd.sorted,fun x hx=>?_,Em.qE _,Fm _,fun p hp r hr=>?_⟩
  ·have:=hinv.good x hx
   exact ⟨hrd.all _ (by omega),hrd.all _ this.2.2.1,this.1⟩
  ·refine ⟨?_,(h.runs p hp r hr).1⟩
   rw [hrd.left p hp r hr];have hm:r<st.runs.length:=by
    have:r∈cV st.l:=gG.2 ⟨p,hp,hr⟩;rw [hs.cV] at this;exact List.mem_range.1 this
   have h1:=hinv.sum r hm;have h2:=(sw hrd.pos hm).1;have h3:Em.used (Em.pairs st.runs) r≤cnt st.runs r:=by unfold Em.pairs at *;omega
   unfold qI;omega
 have hm:=Ee hM;obtain ⟨F,Fs,h1,h2⟩:=tE (LF:=qI st.runs) (ch:=fun r=>(Em.get st.runs r).ch) st.l 0 st.runs.length (Em.pairs st.runs,[[]]) (by rw [hs.cV,List.range_eq_range']) (fun p hp r hr=>(h.runs p hp r hr).2);have hw:=QH h.wd;rw [h1] at hw;have hr:=h.rows;unfold qC at hr;rw [h1,List.map_cons] at hr;cases rs with
 | nil=>simp at hr
 | cons R Rs =>
  rw [List.map_cons] at hr;injection hr with e1 e2;refine ⟨R,Rs,rfl,?_⟩;rw [e2,xK Fs 0 _ fun G hG=>hw G (by simp [hG]),e1];rw [h2] at hm;exact hm
end Go.Proofs.YtddkjkockbcamaaGreatDoor.Il
namespace Go.Proofs.YtddkjkockbcamaaGreatDoor
open Go.RowKit Go.Maps
inductive Pa
  | blk (g:Nat) (cs:Array Value) (t:TypeId)
  | row (e:TypeId) (size:Nat) (v:Value) (n:Nat) (xs:List Value)
  | map (g n:Nat) (D:DataW Unit)
def nE (w:World) (g n:Nat) (D:DataW Unit):Prop:=w.ownsMap Tryz.prog 3 (plainElem Tryz.prog 3) g n D
def Pa.holds (w:World) (B:Nat):Pa→Prop
  | .blk g cs t=>B≤g∧w.heap[g]? = some (.cells cs t (0,0))
  | .row e size v n xs=>w.ownsRow B e size v n xs
  | .map g n D=>B≤g∧nE w g n D
def Pa.block:Pa→Option Nat
  | .blk g _ _=>some g
  | .row _ _ v _ _=>v.ownBlock
  | .map g _ _=>some g
structure Hq {K:Type}(w:World) (B:Nat) (m:K→Option Pa):Prop where
  holds:∀ k a,m k=some a→a.holds w B
  apart:∀ k k' a a' g,m k=some a→m k'=some a'→a.block=some g→a'.block=some g→k=k'
theorem Pa.lt {w:World}{B:Nat}{a:Pa}(h:a.holds w B) {g:Nat}(hg:a.block=some g):B≤g∧g<w.heap.size:=by
  cases a with
  | blk g' cs t =>
    simp only [Pa.block,Option.some.injEq] at hg;subst hg;exact ⟨h.1,(Array.getElem?_eq_some_iff.1 h.2).1⟩
  | row e size v n xs=>exact World.ownsRow.lt (show w.ownsRow B e size v n xs from h) g hg
  | map g' n D =>
    simp only [Pa.block,Option.some.injEq] at hg;subst hg;exact ⟨h.1,World.ownsMap.lt h.2⟩
theorem Pa.kept {w w':World}{B:Nat}{a:Pa}(h:a.holds w B) {row:Option Nat}(hg:w.grownBy w' row) (hne:a.block=none∨a.block≠row):a.holds w' B:=by
  cases a with
  | blk g cs t =>
    refine ⟨h.1,?_⟩;rw [hg.block g (Array.getElem?_eq_some_iff.1 h.2).1 (by rcases hne with h | h;cases h;exact h)];exact h.2
  | row e size v n xs=>exact World.ownsRow.kept (show w.ownsRow B e size v n xs from h) hg hne
  | map g n D=>exact ⟨h.1,World.ownsMap.kept h.2 hg (by rcases hne with h | h;cases h;exact h)⟩
def Fr {K:Type}(w:World) (B:Nat) (m:K→Option Pa):Nat→Prop:=fun b=>B≤b∧b<w.heap.size∧∀ k a,m k=some a→a.block≠some b
structure b7 {K K':Type}(B:Nat) (m:K→Option Pa) (w:World) (m':K'→Option Pa) (w':World):Prop where
  hp:Hq w' B m'
  bel:Below B w w'
  fre:∀ b,Fr w B m b→w'.heap[b]? = w.heap[b]? ∧ Fr w' B m' b
section
variable {K K' K'':Type}{w w' w'':World}{B:Nat}{m:K→Option Pa}{m':K'→Option Pa}{m'':K''→Option Pa}
theorem b7.trans (h:b7 B m w m' w') (k:b7 B m' w' m'' w''):b7 B m w m'' w'' :=
  ⟨k.hp,h.bel.trans k.bel,fun b hb=>by
    obtain ⟨h1,h2⟩:=h.fre b hb;obtain ⟨h3,h4⟩:=k.fre b h2;exact ⟨h3.trans h1,h4⟩⟩
theorem Hq.refl (h:Hq w B m):b7 B m w m w:=⟨h,Below.refl _ _,fun _ hb=>⟨rfl,hb⟩⟩
theorem b7.kids (h:b7 B m w m' w') {ts:List Il.In}{css:List (List Value)}(k:iq w (Fr w B m) ts css):iq w' (Fr w' B m') ts css :=
  iw (fun b hb=>(h.fre b hb).1) (fun b hb=>(h.fre b hb).2) k
theorem b7.kid (h:b7 B m w m' w') {t:Il.In}{cs:List Value}(k:IC w (Fr w B m) t cs):IC w' (Fr w' B m') t cs :=
  Hu (fun b hb=>(h.fre b hb).1) (fun b hb=>(h.fre b hb).2) k
theorem b7.gY (h:b7 B m w m' w') {size n:Nat}{A:Option Addr}{xs:List Value}(k:e9 w (Fr w B m) size A n xs):e9 w' (Fr w' B m') size A n xs :=
  k.frame (fun b hb=>(h.fre b hb).1) (fun b hb=>(h.fre b hb).2)
theorem Hq.call (h:Hq w B m) (hB:B≤w.heap.size) (hb:Below w.heap.size w w'):b7 B m w m w' :=
  ⟨⟨fun k a ha=>Pa.kept (h.holds k a ha) (MG hb (some w.heap.size)) (by
      cases VF:a.block with
      | none=>exact .inl rfl
      | some g=>exact .inr fun e=>by have:=(Pa.lt (h.holds k a ha) VF).2;injection e with e;omega),h.apart⟩,
    hb.mono hB,fun b hb'=>⟨hb.block b hb'.2.1,hb'.1,Nat.lt_of_lt_of_le hb'.2.1 hb.size,hb'.2.2⟩⟩
theorem Hq.new (h:Hq w B m) (hB:B≤w.heap.size) {b:Nat}(hb:w.heap.size≤b) (hb2:b<w'.heap.size):Fr w' B m b :=
  ⟨by omega,hb2,fun k a ha e=>by have:=(Pa.lt (h.holds k a ha) e).2;omega⟩
theorem Hq.Py (h:Hq w B m) (f:K'→K) (h1:∀ k a,m' k=some a→m (f k)=some a∨(a.block=none∧a.holds w B)) (h2:∀ k k' a a',m' k=some a→m' k'=some a'→a.block≠none→f k=f k'→k=k'):b7 B m w m' w:=by
  refine ⟨⟨fun k a ha=>?_,fun k k' a a' g hk hk' hg hg'=>?_⟩,Below.refl _ _,fun b hb=>⟨rfl,hb.1,hb.2.1,fun k a ha=>?_⟩⟩
  · rcases h1 k a ha with e | e
    · exact h.holds _ _ e
    · exact e.2
  · rcases h1 k a hk with e | e
    · rcases h1 k' a' hk' with e' | e'
      · exact h2 k k' a a' hk hk' (by rw [hg];simp) (h.apart _ _ _ _ g e e' hg hg')
      · rw [e'.1] at hg';cases hg'
    · rw [e.1] at hg;cases hg
  · rcases h1 k a ha with e | e
    · exact hb.2.2 _ _ e
    · rw [e.1];simp
end
section
variable {K:Type} [DecidableEq K] {w w':World}{B:Nat}{m:K→Option Pa}
def uq (m:K→Option Pa) (k:K) (a:Pa):K→Option Pa:=fun j=>if j=k then some a else m j
theorem ez (m:K→Option Pa) (k:K) (a:Pa):uq m k a k=some a:=if_pos rfl
theorem aX (m:K→Option Pa) {k j:K}(a:Pa) (h:j≠k):uq m k a j=m j:=if_neg h
theorem xJ (m:K→Option Pa) (k:K) (a b:Pa):uq (uq m k a) k b=uq m k b:=by
  funext j;unfold uq;split<;>rfl
theorem Wt {m:K→Option Pa}{k:K}{a:Pa}(h:m k=some a):uq m k a=m:=by
  funext j;unfold uq;split
  · rename_i e;rw [e,h]
  · rfl
theorem nA (m:K→Option Pa) {k l:K}(h:k≠l) (a b:Pa):uq (uq m k a) l b=uq (uq m l b) k a:=by
  funext j;unfold uq
  by_cases h1:j=l
  · subst h1;rw [if_pos rfl,if_neg (Ne.symm h),if_pos rfl]
  · rw [if_neg h1,if_neg h1]
theorem Hq.wH (h:Hq w B m) {k:K}{a:Pa}(a':Pa) (hk:m k=some a) (hg:w.grownBy w' a.block) (ha:a'.holds w' B)
    (hat:∀ g,a'.block=some g→a.block=some g∨w.heap.size≤g) (hB:B≤w.heap.size):b7 B m w (uq m k a') w':=by
  have q9:∀ b,b<B→w'.heap[b]? = w.heap[b]? := fun b hb=>hg.block b (by omega) (fun e=>by
    have:=(Pa.lt (h.holds k a hk) e.symm).1;omega)
  refine ⟨⟨fun j b hb=>?_,fun i j b c g hi hj xd EV=>?_⟩,⟨hg.os,hg.tape,hg.output,hg.size,q9⟩,fun b hb=>⟨hg.block b hb.2.1 (fun e=>hb.2.2 k a hk e.symm),hb.1,Nat.lt_of_lt_of_le hb.2.1 hg.size,fun j c hc=>?_⟩⟩
  · by_cases hjk:j=k
    · subst hjk;rw [ez] at hb;cases hb;exact ha
    · rw [aX _ _ hjk] at hb
      refine Pa.kept (h.holds j b hb) hg ?_;cases VF:b.block with
      | none=>exact .inl rfl
      | some g=>exact .inr fun he=>hjk (h.apart j k b a g hb hk VF he.symm)
  · by_cases hik:i=k
    · by_cases hjk:j=k
      · rw [hik,hjk]
      · subst hik
        rw [ez] at hi;cases hi;rw [aX _ _ hjk] at hj;rcases hat g xd with h1 | h1
        · exact h.apart i j a c g hk hj h1 EV
        · exact absurd (Pa.lt (h.holds j c hj) EV).2 (by omega)
    · by_cases hjk:j=k
      · subst hjk
        rw [ez] at hj;cases hj;rw [aX _ _ hik] at hi;rcases hat g EV with h1 | h1
        · exact h.apart i j b a g hi hk xd h1
        · exact absurd (Pa.lt (h.holds i b hi) xd).2 (by omega)
      · rw [aX _ _ hik] at hi;rw [aX _ _ hjk] at hj
        exact h.apart i j b c g hi hj xd EV
  · by_cases hjk:j=k
    · subst hjk;rw [ez] at hc;cases hc
      intro e;rcases hat b e with h1 | h1
      · exact hb.2.2 _ a hk h1
      · have:=hb.2.1;omega
    · rw [aX _ _ hjk] at hc;exact hb.2.2 j c hc
theorem Hq.Ev (h:Hq w B m) {k:K}(a':Pa) (hk:m k=none) (hb:Below w.heap.size w w') (ha:a'.holds w' B)
    (hat:∀ g,a'.block=some g→w.heap.size≤g) (hB:B≤w.heap.size):b7 B m w (uq m k a') w':=by
  have h':=(h.call hB hb).hp;refine ⟨⟨fun j b hb=>?_,fun i j b c g hi hj xd EV=>?_⟩,hb.mono hB,fun b hb'=>⟨hb.block b hb'.2.1,hb'.1,Nat.lt_of_lt_of_le hb'.2.1 hb.size,fun j c hc=>?_⟩⟩
  · by_cases hjk:j=k
    · subst hjk;rw [ez] at hb;cases hb;exact ha
    · rw [aX _ _ hjk] at hb;exact h'.holds j b hb
  · by_cases hik:i=k
    · by_cases hjk:j=k
      · rw [hik,hjk]
      · subst hik
        rw [ez] at hi;cases hi;rw [aX _ _ hjk] at hj;exact absurd (Pa.lt (h.holds j c hj) EV).2 (by have:=hat g xd;omega)
    · by_cases hjk:j=k
      · subst hjk
        rw [ez] at hj;cases hj;rw [aX _ _ hik] at hi;exact absurd (Pa.lt (h.holds i b hi) xd).2 (by have:=hat g EV;omega)
      · rw [aX _ _ hik] at hi;rw [aX _ _ hjk] at hj
        exact h.apart i j b c g hi hj xd EV
  · by_cases hjk:j=k
    · subst hjk;rw [ez] at hc;cases hc
      intro e;have:=hat b e;have:=hb'.2.1;omega
    · rw [aX _ _ hjk] at hc;exact hb'.2.2 j c hc
end
structure Cn (g o:Nat) (C:Value→Value→Pa):Prop where
  block:∀ a b,(C a b).block=some g
  read:∀ {w B a b},(C a b).holds w B→w.cell? ⟨g,o,none⟩=some a∧w.cell? ⟨g,o+1,none⟩=some b∧∀ j,w.frozen? ⟨g,j,none⟩=false
  set0:∀ {w B a b} u,(C a b).holds w B→(C u b).holds (w.setCell ⟨g,o,none⟩ u) B
  Kq:∀ {w B a b} u,(C a b).holds w B→(C a u).holds (w.setCell ⟨g,o+1,none⟩ u) B
theorem TK (g:Nat) (t:TypeId):Cn g 0 (fun a b=>.blk g #[a,b] t) :=
  ⟨fun _ _=>rfl,fun h=>⟨ah h.2 0,ah h.2 1,bf h.2⟩,
   fun {w _ a b} u h=>⟨h.1,heap_setCell_same w g 0 #[a,b] t u h.2⟩,fun {w _ a b} u h=>⟨h.1,heap_setCell_same w g 1 #[a,b] t u h.2⟩⟩
theorem YB (e:TypeId) (g n c:Nat) (pre suf:List Value) {o:Nat}(ho:pre.length=o):Cn g o (fun a b=>.row e 2 (.slice (some ⟨g,0,none⟩) n c) n (pre++a::b::suf)):=by
  subst ho;refine ⟨fun _ _=>rfl,fun {w B a b} h=>?_,fun {w B a b} u h=>?_,fun {w B a b} u h=>?_⟩
  · have h:w.ownsRow B e 2 (.slice (some ⟨g,0,none⟩) n c) n (pre++a::b::suf):=h
    exact ⟨aN h (by simp),aN h (by simp),fun j=>World.ownsRow.frozenAt h j⟩
  · have h:w.ownsRow B e 2 (.slice (some ⟨g,0,none⟩) n c) n (pre++a::b::suf):=h
    have:=(World.ownsRow.stored h pre.length u).1;show World.ownsRow _ _ _ _ _ _ _;simpa using this
  · have h:w.ownsRow B e 2 (.slice (some ⟨g,0,none⟩) n c) n (pre++a::b::suf):=h
    have:=(World.ownsRow.stored h (pre.length+1) u).1;rw [List.set_append_right _ _ (by omega),show pre.length+1-pre.length=1 by omega] at this;exact this
abbrev Ky:=Nat×Nat
structure Ks where
  g:Ky
  i:Ky
  p:Ky
structure Ks.ok (k:Ks):Prop where
  gi:k.i≠k.g
  gp:k.p≠k.g
  ip:k.p≠k.i
def mu (R:Il.Rw) (v:Value) (css:List (List Value)):Pa:=.row 35 4 v R.l.length css.flatten
def n9 (R:Il.Rw) (v:Value):Pa:=.row 5 1 v R.p.length (ai R.p)
def aR (m:Ky→Option Pa) (k:Ks) (C:Value→Value→Pa) (R:Il.Rw) (vi vp:Value) (css:List (List Value)):Ky→Option Pa:=uq (uq (uq m k.g (C vi vp)) k.i (mu R vi css)) k.p (n9 R vp)
section
variable {m:Ky→Option Pa}{k:Ks}{C:Value→Value→Pa}{R:Il.Rw}{vi vp:Value}{css:List (List Value)}{w w':World}{B g o:Nat}
theorem mV (hk:k.ok):aR m k C R vi vp css k.g=some (C vi vp):=by
  unfold aR;rw [aX _ _ (Ne.symm hk.gp),aX _ _ (Ne.symm hk.gi),ez]
theorem iB (hk:k.ok):aR m k C R vi vp css k.i=some (mu R vi css):=by
  unfold aR;rw [aX _ _ (Ne.symm hk.ip),ez]
theorem xF:aR m k C R vi vp css k.p=some (n9 R vp):=by unfold aR;rw [ez]
theorem HR {j:Ky}(h1:j≠k.g) (h2:j≠k.i) (h3:j≠k.p):aR m k C R vi vp css j=m j:=by
  unfold aR;rw [aX _ _ h3,aX _ _ h2,aX _ _ h1]
theorem eT (hk:k.ok) (hC:Cn g o C) (h:Hq w B (aR m k C R vi vp css)) :
    w.cell? ⟨g,o,none⟩=some vi∧w.cell? ⟨g,o+1,none⟩=some vp∧(∀ j,w.frozen? ⟨g,j,none⟩=false)∧B≤g∧g<w.heap.size∧w.ownsRow B 35 4 vi R.l.length css.flatten∧w.ownsRow B 5 1 vp R.p.length (ai R.p)∧vi.ownBlock≠some g∧vp.ownBlock≠some g:=by
  have hg:=h.holds _ _ (mV hk);obtain ⟨h1,h2,h3⟩:=hC.read hg;have h4:=Pa.lt hg (hC.block _ _);refine ⟨h1,h2,h3,h4.1,h4.2,h.holds _ _ (iB hk),h.holds _ _ xF,fun e=>?_,fun e=>?_⟩
  · exact hk.gi (h.apart _ _ _ _ g (iB hk) (mV hk) e (hC.block _ _))
  · exact hk.gp (h.apart _ _ _ _ g xF (mV hk) e (hC.block _ _))
theorem jI (hk:k.ok) (hC:Cn g o C) (h:Hq w B (aR m k C R vi vp css)) {row:Option Nat}(hg:w.grownBy w' row) (hne:row≠some g) :
    w'.cell? ⟨g,o,none⟩=some vi∧w'.cell? ⟨g,o+1,none⟩=some vp∧(∀ j,w'.frozen? ⟨g,j,none⟩=false)∧g<w'.heap.size:=by
  have hh:=Pa.kept (h.holds _ _ (mV hk)) hg (.inr (by rw [hC.block];exact fun e=>hne e.symm));obtain ⟨h1,h2,h3⟩:=hC.read hh;exact ⟨h1,h2,h3,(Pa.lt hh (hC.block _ _)).2⟩
theorem zx (hk:k.ok) (hC:Cn g o C) (h:Hq w B (aR m k C R vi vp css)) (hB:B≤w.heap.size) {R':Il.Rw}{vp':Value}(hl:R'.l=R.l) (hg:w.grownBy w' vp.ownBlock) (ho:w'.ownsRow B 5 1 vp' R'.p.length (ai R'.p)) (hat:At w.heap.size vp vp') :
    b7 B (aR m k C R vi vp css) w (aR m k C R' vi vp' css) (w'.setCell ⟨g,o+1,none⟩ vp'):=by
  have t1:=h.wH (k:=k.p) (n9 R' vp') xF hg ho hat hB;have e0:uq (aR m k C R vi vp css) k.p (n9 R' vp') k.g=some (C vi vp):=by rw [aX _ _ (Ne.symm hk.gp),mV hk]
  have t2:=t1.hp.wH (k:=k.g) (w':=w'.setCell ⟨g,o+1,none⟩ vp') (C vi vp') e0 (by rw [hC.block];exact ay w' ⟨g,o+1,none⟩ vp') (hC.Kq vp' (t1.hp.holds _ _ e0)) (fun g' hg'=>.inl (by rw [hC.block] at hg' ⊢;exact hg')) (Nat.le_trans hB t1.bel.size);have t:=t1.trans t2;have e:uq (uq (aR m k C R vi vp css) k.p (n9 R' vp')) k.g (C vi vp')=aR m k C R' vi vp' css:=by
    have:mu R' vi css=mu R vi css:=by unfold mu;rw [hl]
    unfold aR;rw [this,xJ,nA _ hk.gp,nA (uq m k.g (C vi vp)) hk.gi,xJ]
  rwa [e] at t
theorem oX (hk:k.ok) (hC:Cn g o C) (h:Hq w B (aR m k C R vi vp css)) (hB:B≤w.heap.size) {R':Il.Rw}{vi':Value}{css':List (List Value)}(hp:R'.p=R.p) (hg:w.grownBy w' vi.ownBlock) (ho:w'.ownsRow B 35 4 vi' R'.l.length css'.flatten) (hat:At w.heap.size vi vi') :
    b7 B (aR m k C R vi vp css) w (aR m k C R' vi' vp css') (w'.setCell ⟨g,o,none⟩ vi'):=by
  have t1:=h.wH (k:=k.i) (mu R' vi' css') (iB hk) hg ho hat hB;have e0:uq (aR m k C R vi vp css) k.i (mu R' vi' css') k.g=some (C vi vp):=by rw [aX _ _ (Ne.symm hk.gi),mV hk]
  have t2:=t1.hp.wH (k:=k.g) (w':=w'.setCell ⟨g,o,none⟩ vi') (C vi' vp) e0 (by rw [hC.block];exact ay w' ⟨g,o,none⟩ vi') (hC.set0 vi' (t1.hp.holds _ _ e0)) (fun g' hg'=>.inl (by rw [hC.block] at hg' ⊢;exact hg')) (Nat.le_trans hB t1.bel.size);have t:=t1.trans t2;have e:uq (uq (aR m k C R vi vp css) k.i (mu R' vi' css')) k.g (C vi' vp)=aR m k C R' vi' vp css':=by
    have:n9 R' vp=n9 R vp:=by unfold n9;rw [hp]
    unfold aR;rw [this,nA _ hk.ip,xJ,nA _ hk.gp,nA (uq m k.g (C vi vp)) hk.gi,xJ]
  rwa [e] at t
end
end Go.Proofs.YtddkjkockbcamaaGreatDoor
namespace Go.Proofs.YtddkjkockbcamaaGreatDoor
open Go.RowKit
theorem nG:EI Tryz.prog 27 5 1 1:=EI.mk' (z:=.int .u8 0) Tryz.underlying27 (by kernel_rfl) rfl (by omega)
def kP (B:Nat) (v:Value) (n:Nat) (xs:List Value) (cs:List Value) (w:World) (e:Ending) (w':World):Prop :=
 ∃ v',e=.returned v'∧w'.ownsRow B 5 1 v' (n+cs.length) (xs++cs)∧w.grownBy w' v.ownBlock∧At w.heap.size v v'∧Below B w w'
section
variable (B:Nat) (v:Value) (n:Nat) (xs:List Value) (r:Int) (w:World) (hown:w.ownsRow B 5 1 v n xs) (hlen:n≤100000000000) (hBw:B≤w.heap.size)
include hown hlen hBw in
theorem VX (h0:128≤r) (h1:r≤2047):Calls Tryz.prog 169 #[v,.int .i32 r] w fun e w'=>kP B v n xs [.int .u8 (192+r / 64),.int .u8 (128+r%64)] w e w':=by
 go_enter Tryz.func169,Tryz.ntmps169;go_wp2_with (at_builtin;refine bE rfl (.tmp 14) (.tmp 23) rfl nG rfl hown rfl rfl rfl (by intro u hu;simp at hu;rcases hu with rfl | rfl<;>rfl) (by omega) (by omega) hBw ?_;intro v' w2 ho hg hb hat);go_ret;exact ⟨_,rfl,ho,hg.out,hat.out,hb⟩
include hown hlen hBw in
theorem ZH (h0:2048≤r) (h1:r<55296):Calls Tryz.prog 169 #[v,.int .i32 r] w fun e w'=>kP B v n xs [.int .u8 (224+r / 4096),.int .u8 (128+r / 64%64),.int .u8 (128+r%64)] w e w':=by
 go_enter Tryz.func169,Tryz.ntmps169;go_wp2_with (at_builtin;refine bE rfl (.tmp 34) (.tmp 48) rfl nG rfl hown rfl rfl rfl (by intro u hu;simp at hu;rcases hu with rfl | rfl | rfl<;>rfl) (by omega) (by omega) hBw ?_;intro v' w2 ho hg hb hat);go_ret;exact ⟨_,rfl,ho,hg.out,hat.out,hb⟩
include hown hlen hBw in
theorem X6 (h0:57343<r) (h1:r≤65535):Calls Tryz.prog 169 #[v,.int .i32 r] w fun e w'=>kP B v n xs [.int .u8 (224+r / 4096),.int .u8 (128+r / 64%64),.int .u8 (128+r%64)] w e w':=by
 go_enter Tryz.func169,Tryz.ntmps169;go_wp2_with (at_builtin;refine bE rfl (.tmp 34) (.tmp 48) rfl nG rfl hown rfl rfl rfl (by intro u hu;simp at hu;rcases hu with rfl | rfl | rfl<;>rfl) (by omega) (by omega) hBw ?_;intro v' w2 ho hg hb hat);go_ret;exact ⟨_,rfl,ho,hg.out,hat.out,hb⟩
include hown hlen hBw in
theorem RE (h0:65536≤r) (h1:r≤1114111):Calls Tryz.prog 169 #[v,.int .i32 r] w fun e w'=>kP B v n xs [.int .u8 (240+r / 262144),.int .u8 (128+r / 4096%64),.int .u8 (128+r / 64%64),.int .u8 (128+r%64)] w e w':=by
 go_enter Tryz.func169,Tryz.ntmps169;go_wp2_with (at_builtin;refine bE rfl (.tmp 57) (.tmp 76) rfl nG rfl hown rfl rfl rfl (by intro u hu;simp at hu;rcases hu with rfl | rfl | rfl | rfl<;>rfl) (by omega) (by omega) hBw ?_;intro v' w2 ho hg hb hat);go_ret;exact ⟨_,rfl,ho,hg.out,hat.out,hb⟩
include hown hlen hBw in
theorem Vp (h0:0≤r) (h1:r≤127):Calls Tryz.prog 126 #[v,.int .i32 r] w fun e w'=>kP B v n xs [.int .u8 r] w e w':=by
 go_enter Tryz.func126,Tryz.ntmps126;go_wp2_with (at_builtin;refine bE rfl (.tmp 8) (.tmp 11) rfl nG rfl hown rfl rfl rfl (by intro u hu;simp at hu;rcases hu with rfl;rfl) (by omega) (by omega) hBw ?_;intro v' w2 ho hg hb hat);go_ret;exact ⟨_,rfl,ho,hg.out,hat.out,hb⟩
theorem qc (cs:List Value) (h0:128≤r) (h1:r≤1114111) (hc:∀ w1,w1.ownsRow B 5 1 v n xs→B≤w1.heap.size→Calls Tryz.prog 169 #[v,.int .i32 r] w1 fun e w'=>kP B v n xs cs w1 e w') (hown:w.ownsRow B 5 1 v n xs) (hBw:B≤w.heap.size):Calls Tryz.prog 126 #[v,.int .i32 r] w fun e w'=>kP B v n xs cs w e w':=by
 go_enter Tryz.func126,Tryz.ntmps126;go_wp2_with fail;refine (hc _ hown hBw).mono ?_;rintro e w1 ⟨v',rfl,h1,h2,h3,h4⟩;replace h1:=Lib.hid h1;replace h2:=Lib.hid h2;replace h3:=Lib.hid h3;replace h4:=Lib.hid h4;go_wp2_with fail;go_ret;exact ⟨_,rfl,h1.out,h2.out,h3.out,h4.out⟩
end
theorem VP (B:Nat) (v:Value) (l:List UInt8) (r:Nat) (hr:Ru.vr r) (w:World) (hown:w.ownsRow B 5 1 v l.length (ai l)) (hlen:l.length≤100000000000) (hBw:B≤w.heap.size) :
  Calls Tryz.prog 126 #[v,.int .i32 (r:Int)] w fun e w'=>∃ v',e=.returned v'∧w'.ownsRow B 5 1 v' (l++Lib.encodeRune (r:Int)).length (ai (l++Lib.encodeRune (r:Int)))∧w.grownBy w' v.ownBlock∧At w.heap.size v v'∧Below B w w':=by
 have key:Calls Tryz.prog 126 #[v,.int .i32 (r:Int)] w fun e w'=>kP B v l.length (ai l) (Lib.runeCells (r:Int)) w e w':=by
  unfold Ru.vr at hr
  by_cases c0:r≤127
  ·rw [show Lib.runeCells (r:Int)=[.int .u8 (r:Int)] by simp [Lib.runeCells,Lib.encodeRuneZ_one (r:=(r:Int)) (by omega) (by omega)]]
   exact Vp B v _ _ r w hown hlen hBw (by omega) (by omega)
  by_cases c1:r≤2047
  ·rw [show Lib.runeCells (r:Int)=[.int .u8 (192+(r:Int) / 64),.int .u8 (128+(r:Int)%64)] by simp [Lib.runeCells,Lib.encodeRuneZ_two (r:=(r:Int)) (by omega) (by omega)]]
   exact qc B v _ _ r w _ (by omega) (by omega) (fun w1 h1 h2=>VX B v _ _ r w1 h1 hlen h2 (by omega) (by omega)) hown hBw
  by_cases c2:r<55296
  ·rw [show Lib.runeCells (r:Int)=[.int .u8 (224+(r:Int) / 4096),.int .u8 (128+(r:Int) / 64%64),.int .u8 (128+(r:Int)%64)] by simp [Lib.runeCells,Lib.encodeRuneZ_three (r:=(r:Int)) (Or.inl ⟨by omega,by omega⟩)]]
   exact qc B v _ _ r w _ (by omega) (by omega) (fun w1 h1 h2=>ZH B v _ _ r w1 h1 hlen h2 (by omega) (by omega)) hown hBw
  by_cases c4:r≤65535
  ·rw [show Lib.runeCells (r:Int)=[.int .u8 (224+(r:Int) / 4096),.int .u8 (128+(r:Int) / 64%64),.int .u8 (128+(r:Int)%64)] by simp [Lib.runeCells,Lib.encodeRuneZ_three (r:=(r:Int)) (Or.inr ⟨by omega,by omega⟩)]]
   exact qc B v _ _ r w _ (by omega) (by omega) (fun w1 h1 h2=>X6 B v _ _ r w1 h1 hlen h2 (by omega) (by omega)) hown hBw
  ·rw [show Lib.runeCells (r:Int)=[.int .u8 (240+(r:Int) / 262144),.int .u8 (128+(r:Int) / 4096%64),.int .u8 (128+(r:Int) / 64%64),.int .u8 (128+(r:Int)%64)] by simp [Lib.runeCells,Lib.encodeRuneZ_four (r:=(r:Int)) (by omega) (by omega)]]
   exact qc B v _ _ r w _ (by omega) (by omega) (fun w1 h1 h2=>RE B v _ _ r w1 h1 hlen h2 (by omega) (by omega)) hown hBw
 refine key.mono ?_;rintro e w' ⟨v',he,h1,h2,h3,h4⟩;refine ⟨v',he,?_,h2,h3,h4⟩;have e1:ai (l++Lib.encodeRune (r:Int))=ai l++Lib.runeCells (r:Int):=by
  rw [show Lib.runeCells (r:Int)=ai (Lib.encodeRune (r:Int)) from (Lib.byteCells_encodeRune _).symm];simp [ai]
 rw [e1,List.length_append,← Lib.runeCells_length];exact h1
theorem iz (g n c:Nat) (hn:0<n) (hn2:n≤1000000000000) (w:World):Calls Tryz.prog 197 #[.slice (some ⟨g,0,none⟩) n c] w fun e w'=>e=.returned (.pointer (some ⟨g,(n-1)*2,none⟩))∧w'=w:=by
 obtain ⟨k,rfl⟩:∃ k,n=k+1:=⟨n-1,by omega⟩
 have h1:((k+1:Nat):Int)-1=(k:Int):=by omega
 go_enter Tryz.func197,Tryz.ntmps197;go_wp2_with fail;go_ret;exact ⟨by simp,rfl⟩
section
variable {m:Ky→Option Pa}{k:Ks}{C:Value→Value→Pa}{R:Il.Rw}{vi vp:Value}{css:List (List Value)}{w:World}{B g o:Nat}
theorem jv (hk:k.ok) (hC:Cn g o C) (h:Hq w B (aR m k C R vi vp css)) (hB:B≤w.heap.size) (r:Nat) (hr:Ru.vr r) (hl:R.p.length≤100000000000) :
  Calls Tryz.prog 205 #[.pointer (some ⟨g,o,none⟩),.int .i32 (r:Int)] w fun e w'=>e=.returned (.tuple #[])∧∃ vp',b7 B (aR m k C R vi vp css) w (aR m k C (R.say (Lib.encodeRune (r:Int))) vi vp' css) w':=by
 obtain ⟨c0,c1,cf,hBg,JZ,oi,op,nei,nep⟩:=eT hk hC h;have hst:=Lib.hid (fun (w':World) (hg:w.grownBy w' vp.ownBlock)=>jI hk hC h hg nep);have aP:=Lib.hid (fun (w':World) (vp':Value) ho hg hat=>zx (w':=w') (R':=R.say (Lib.encodeRune (r:Int))) (vp':=vp') hk hC h hB rfl hg ho hat);have hc:=Lib.hid (VP B vp R.p r hr w op hl hB);obtain ⟨A,c,rfl,hc3⟩:=ak op;clear h oi op nei nep c0;go_enter Tryz.func205,Tryz.ntmps205;go_wp2_with fail;refine hc.out.mono ?_;rintro e w1 ⟨v',rfl,h1,h2,h3,h4⟩;obtain ⟨d0,d1,df,af1⟩:=hst.out _ h2;have aa3:=Lib.hid (aP.out _ v' h1 h2 h3);obtain ⟨A1,c1',rfl,_⟩:=ak h1;clear h1 h2 h3 h4 d0 hst aP hc;generalize (R.p++Lib.encodeRune (r:Int)).length=n1 at *;go_wp2_with fail;go_returns;exact ⟨rfl,_,aa3.out⟩
end
theorem bw {P:Program}{ops:Array Oper}{Q:Exit→Act→World→Prop}{S:World→Prop}{i:Nat}{r:OT}{a:Act}{w w':World}{o:Oper}(ho:ops[i]? = some o) (hw:Region.wanted o (yielded ops a.tmps)=true)
  (hrun:(execOp a.eval o).run P w=.ok .skip w') (hS:S w') (h:vH P ops Q r S (a.put o.dst undef) w'):vH P ops Q (.mk i r) S a w :=
 ⟨o,ho,by
  unfold aD;rw [if_pos hw,if_neg (by simp)];unfold Oper.wp;rw [hrun];exact ⟨S,hS,fun _ h=>h,h⟩⟩
def mO (w:World) (g o:Nat) (a b c d:Value):World:=(((w.setCell ⟨g,o,none⟩ a).setCell ⟨g,o+1,none⟩ b).setCell ⟨g,o+2,none⟩ c).setCell ⟨g,o+3,none⟩ d
theorem kM {P:Program}{ev:Operand→Value}{T:TypeId}{p x:Operand}{o:Oper}{w:World}{g off:Nat}{k:Int}{s t:ByteArray}{A:Option Addr}{n c:Nat}{z0 z1 z2 z3:Value}(ho:o.op=.store T p x) (hsz:(sizeOf T).run P w=.ok 4 w) (hp:ev p=.pointer (some ⟨g,off,none⟩)) (hx:ev x=.agg #[.int .i64 k,.string s,.string t,.slice A n c])
  (h0:w.cell? ⟨g,off,none⟩=some z0) (h1:w.cell? ⟨g,off+1,none⟩=some z1) (h2:w.cell? ⟨g,off+2,none⟩=some z2) (h3:w.cell? ⟨g,off+3,none⟩=some z3) (hf:∀ j,w.frozen? ⟨g,j,none⟩=false) :
  (execOp ev o).run P w=.ok .skip (mO w g off (.int .i64 k) (.string s) (.string t) (.slice A n c)):=by
 unfold execOp mO;rw [ho];go_simp
theorem eX {P:Program}{ev:Operand→Value}{T:TypeId}{p x:Operand}{o:Oper}{w:World}{g off:Nat}{A:Option Addr}{n c:Nat}{z0:Value}(ho:o.op=.store T p x) (hsz:(sizeOf T).run P w=.ok 1 w) (hp:ev p=.pointer (some ⟨g,off,none⟩)) (hx:ev x=.slice A n c)
  (h0:w.cell? ⟨g,off,none⟩=some z0) (hf:∀ j,w.frozen? ⟨g,j,none⟩=false) :
  (execOp ev o).run P w=.ok .skip (w.setCell ⟨g,off,none⟩ (.slice A n c)):=by
 unfold execOp;rw [ho];go_simp
end Go.Proofs.YtddkjkockbcamaaGreatDoor
namespace Go.Proofs.YtddkjkockbcamaaGreatDoor
open Go.RowKit
attribute [local go_sem] aD av aq
theorem gU {w:World}{B size n:Nat}{E:TypeId}{v:Value}{xs:List Value}(h:w.ownsRow B E size v n xs) (hn:0<n):∃ g c,v=.slice (some ⟨g,0,none⟩) n c∧n≤c∧B≤g∧g<w.heap.size:=by
 rcases h.2 with ⟨_,h0⟩ | ⟨g,c,cur,rfl,hB,hg,hc,_⟩
 ·omega
 ·exact ⟨g,c,rfl,hc,hB,(Array.getElem?_eq_some_iff.1 hg).1⟩
theorem Cr {v:Value}{x:Option Nat}(h:∀ b,v.ownBlock=some b→some b≠x):v.ownBlock=none∨v.ownBlock≠x:=by
 cases hb:v.ownBlock with
 | none=>exact .inl rfl
 | some b=>exact .inr (h b hb)
theorem gj {w w':World}{g:Nat}(h:w'.heap[g]? = w.heap[g]?) (j:Nat) {v:Value}(hc:w.cell? ⟨g,j,none⟩=some v):w'.cell? ⟨g,j,none⟩=some v:=by
 rw [World.cell?_of_block (a:=⟨g,j,none⟩) h];exact hc
theorem Ff {w w':World}{g:Nat}(h:w'.heap[g]? = w.heap[g]?) (hf:∀ j,w.frozen? ⟨g,j,none⟩=false) (j:Nat):w'.frozen? ⟨g,j,none⟩=false:=by
 rw [World.frozen?_of_block (a:=⟨g,j,none⟩) h];exact hf j
theorem grown_drew {w w':World}{r:Option Nat}(h:w.drew.grownBy w' r):w.grownBy w' r:=⟨h.os,h.tape,h.output,h.size,h.block⟩
theorem mP {P:Program}{ops:Array Oper}{Q:Exit→Act→World→Prop}{S:World→Prop}{i:Nat}{r:OT}{a:Act}{w:World}{o:Oper}(ho:ops[i]? = some o) (hg:o.guard=none) (s x:Operand) {T:TypeId}
  (hop:o.op=.call { callee:=.builtin .append,args:=#[s,x],argTypes:=#[T,T] })
  {E:TypeId}{size bytes:Nat}(hE:EI P T E size bytes) {base n:Nat}{v:Value}{xs:List Value}(hs:a.eval s=v) (hown:w.ownsRow base E size v n xs)
  {B m c:Nat}{A:Option Addr}{news:List Value}(hx:a.eval x=.slice A m c) (hr:Row w B size A m news) (h1:∀ u∈news,u.oneCell'=true) (h63:n+m≤1000000000000) (hbytes:bytes≤100) (hbase:base≤w.heap.size)
  (h:∀ v' w',w'.ownsRow base E size v' (n+m) (xs++news)→Hid (w.grownBy w' v.ownBlock)→Below base w w'→Hid (At w.heap.size v v')→∃ S':World→Prop,S' w'∧(∀ u,S' u→S u)∧vH P ops Q r S' (a.put o.dst v') w') :
  vH P ops Q (.mk i r) S a w :=
 ⟨o,ho,by
  unfold aD;rw [if_pos (by simp [Region.wanted,hg]),if_neg (by simp)];exact eG s x hop hE hs hown hx hr h1 h63 hbytes hbase h⟩
theorem rU {w:World}{B g n c:Nat}{E:TypeId}{xs:List Value}{z0 z1 z2 z3:Value}(ho:w.ownsRow B E 4 (.slice (some ⟨g,0,none⟩) (n+1) c) (n+1) (xs++[z0,z1,z2,z3])) (hx:xs.length=n*4) (a b c' d:Value) :
  (mO w g (n*4) a b c' d).ownsRow B E 4 (.slice (some ⟨g,0,none⟩) (n+1) c) (n+1) (xs++[a,b,c',d]):=by
 have h1:=(World.ownsRow.stored ho (n*4) a).1;have h2:=(World.ownsRow.stored h1 (n*4+1) b).1;have h3:=(World.ownsRow.stored h2 (n*4+2) c').1;have h4:=(World.ownsRow.stored h3 (n*4+3) d).1;have e:((((xs++[z0,z1,z2,z3]).set (n*4) a).set (n*4+1) b).set (n*4+2) c').set (n*4+3) d=xs++[a,b,c',d]:=by
  rw [← hx];simp
 rw [e] at h4;exact h4
theorem mN (w:World) (g o:Nat) (a b c d:Value):w.grownBy (mO w g o a b c d) (some g):=by
 have h1:=ay w ⟨g,o,none⟩ a;have h2:=ay (w.setCell ⟨g,o,none⟩ a) ⟨g,o+1,none⟩ b;have h3:=ay ((w.setCell ⟨g,o,none⟩ a).setCell ⟨g,o+1,none⟩ b) ⟨g,o+2,none⟩ c;have h4:=ay (((w.setCell ⟨g,o,none⟩ a).setCell ⟨g,o+1,none⟩ b).setCell ⟨g,o+2,none⟩ c) ⟨g,o+3,none⟩ d;refine ⟨by rw [mO,h4.os,h3.os,h2.os,h1.os],by rw [mO,h4.tape,h3.tape,h2.tape,h1.tape],by rw [mO,h4.output,h3.output,h2.output,h1.output],Nat.le_trans (Nat.le_trans (Nat.le_trans h1.size h2.size) h3.size) h4.size,fun k hk hne=>?_⟩;have z1:=h1.size;have z2:=h2.size;have z3:=h3.size;exact (h4.block k (by omega) hne).trans ((h3.block k (by omega) hne).trans ((h2.block k (by omega) hne).trans (h1.block k hk hne)))
theorem E2 {w w1 w2:World}{v v':Value}{g:Nat}(h1:w.grownBy w1 v.ownBlock) (hat:At w.heap.size v v') (hv:v'.ownBlock=some g) (h2:w1.grownBy w2 (some g)):w.grownBy w2 v.ownBlock :=
 ⟨h2.os.trans h1.os,h2.tape.trans h1.tape,h2.output.trans h1.output,Nat.le_trans h1.size h2.size,fun k hk hne=>by
  have:=h1.size;refine (h2.block k (by omega) (fun e=>?_)).trans (h1.block k hk hne);injection e with e;subst e;rcases hat k hv with e | e
  ·exact hne e.symm
  ·omega⟩
theorem Dh {w:World}{o:Obj}{v v':Value}(h:At (w.drew.alloc o).heap.size v v'):At w.heap.size v v':=fun g hg=>(h g hg).imp id (fun e=>by simp at e;omega)
section
variable {m:Ky→Option Pa}{k:Ks}{C:Value→Value→Pa}{R:Il.Rw}{vi vp:Value}{css:List (List Value)}{w w':World}{B g o:Nat}
theorem Bp (hk:k.ok) {R':Il.Rw}{vi':Value}{css':List (List Value)}(hp:R'.p=R.p) (hB:B≤w.heap.size) (h:Hq w B (aR m k C R vi vp css)) (hg:w.grownBy w' vi.ownBlock) (ho:w'.ownsRow B 35 4 vi' R'.l.length css'.flatten) (hv:vi'.ownBlock=vi.ownBlock) (hc:C vi' vp=C vi vp) :
  b7 B (aR m k C R vi vp css) w (aR m k C R' vi' vp css') w':=by
 have t:=h.wH (k:=k.i) (mu R' vi' css') (iB hk) hg ho (fun g hg=>.inl (by
  have e:vi'.ownBlock=some g:=hg;show vi.ownBlock=some g;rw [← hv];exact e)) hB
 have e:uq (aR m k C R vi vp css) k.i (mu R' vi' css')=aR m k C R' vi' vp css':=by
  have:n9 R' vp=n9 R vp:=by unfold n9;rw [hp]
  unfold aR;rw [this,nA _ hk.ip,xJ,hc]
 rwa [e] at t
theorem fX (hk:k.ok) (hC:Cn g o C) {A:Option Addr}{n c:Nat}(h:Hq w B (aR m k C R vi (.slice A n c) css)) (hB:B≤w.heap.size) :
  b7 B (aR m k C R vi (.slice A n c) css) w (aR m k C ⟨R.l,[]⟩ vi (.slice A 0 c) css) (w.setCell ⟨g,o+1,none⟩ (.slice A 0 c)):=by
 obtain ⟨_,_,_,_,_,_,op,_,_⟩:=eT hk hC h;have ho:w.ownsRow B 5 1 (.slice A 0 c) 0 []:=by
  refine ⟨rfl,?_⟩;rcases op.2 with ⟨e,_⟩ | ⟨g',cap,cur,e,h1,h2,h3,h4,h5,h6⟩
  ·injection e with e1 e2 e3;subst e1 e3;exact .inl ⟨rfl,rfl⟩
  ·injection e with e1 e2 e3;subst e1 e3;exact .inr ⟨g',c,cur,rfl,h1,h2,Nat.zero_le _,h4,h5,by simp⟩
 refine zx hk hC h hB (R':=⟨R.l,[]⟩) rfl (World.grownBy.refl w _) ho (fun g hg=>.inl ?_);cases A with
 | none=>cases hg
 | some a=>exact hg
theorem Na (hk:k.ok) (hC:Cn g o C) (h:Hq w B (aR m k C R vi vp css)) (hI:iq w (Fr w B (aR m k C R vi vp css)) R.l css) (hB:B≤w.heap.size) (hp:R.p≠[]) (hl:R.p.length≤100000000000) (rG:R.l.length≤100000000000) :
  Calls Tryz.prog 200 #[.pointer (some ⟨g,o,none⟩)] w fun e w'=>∃ vi',e=.returned vi'∧∃ vp' css',b7 B (aR m k C R vi vp css) w (aR m k C ⟨R.full,[]⟩ vi' vp' css') w'∧iq w' (Fr w' B (aR m k C ⟨R.full,[]⟩ vi' vp' css')) R.full css':=by
 obtain ⟨c0,c1,cf,hBg,JZ,oi,op,nei,nep⟩:=eT hk hC h;have hpl:0<R.p.length:=List.length_pos_iff.2 hp;have hfull:Hid (R.full=R.l++[Il.word R.p]):=Lib.hid (by unfold Il.Rw.full;rw [if_neg hp]);obtain ⟨A,c,rfl,hc3⟩:=ak op;obtain ⟨A2,c2,rfl,hc4⟩:=ak oi;have nip:∀ b,(Value.slice A R.p.length c).ownBlock=some b→(Value.slice A2 R.l.length c2).ownBlock≠some b:=fun b hb hb2=>hk.ip (h.apart _ _ _ _ b xF (iB hk) hb hb2);have hcv:=fun (u:World) (hu:u.ownsRow B 5 1 (.slice A R.p.length c) R.p.length (ai R.p))=>me (c:=c) (Row.own hu) 27 5 9 Tryz.underlying27 (by kernel_rfl) Tryz.underlying9;have hS:(fun u:World=>u.cell? ⟨g,o+1,none⟩=some (.slice A R.p.length c)∧u.ownsRow B 5 1 (.slice A R.p.length c) R.p.length (ai R.p)) w.drew:=⟨c1,op.drew⟩
 have hS1:(fun u:World=>u.cell? ⟨g,o+1,none⟩=some (.slice A R.p.length c)∧u.ownsRow B 5 1 (.slice A R.p.length c) R.p.length (ai R.p)) (w.drew.alloc (.cells #[.int .i64 0,.string ⟨#[]⟩,.string ⟨#[]⟩,.slice none 0 0] 35)):=⟨(World.cell?_alloc_lt _ _ _ JZ).trans c1,op.drew.alloc _⟩
 go_enter Tryz.func200,Tryz.ntmps200;go_upto_region 2 with fail
 refine aF (.rd 0 (.rd 1 (.rd 2 (.rd 4 (.rd 5 (.rd 6 (.rd 7 (.rd 8 (.rd 9 (.fk 3 (.rd 10 (.mk 11 (.mk 12 (.rd 13 (.rd 15 (.rd 16 (.fk 14 (.mk 17 .fin) 17 (.mk 14 .fin)))))))) 11 (.mk 3 (.rd 10 (.mk 12 (.rd 13 (.rd 15 (.rd 16 (.fk 14 (.mk 17 .fin) 17 (.mk 14 .fin)))))))))))))))))) (fun u:World=>u.cell? ⟨g,o+1,none⟩=some (.slice A R.p.length c)∧u.ownsRow B 5 1 (.slice A R.p.length c) R.p.length (ai R.p)) hS (by kernel_rfl) (by kernel_rfl) (by kernel_rfl) (fun _ _ d _ _ h=>by cases d<;>exact h) ?_
 iterate 6 (first | refine an rfl ?_ | (refine az rfl ?_;intro K hK;go_simp;refine hK _ _ _ ?_;clear hK K))
 refine aJ (.slice A R.p.length c) rfl rfl hS (fun u hu=>by have h1:=hu.1;go_simp) ?_;refine aJ (.string (bs R.p)) rfl rfl hS (fun u hu=>by have h1:=hcv u hu.2;go_simp) ?_
 (first | refine an rfl ?_ | (refine az rfl ?_;intro K hK;go_simp;refine hK _ _ _ ?_;clear hK K))
 refine jh ?wa ?wb
 case' wa =>
  refine aE rfl ?_;intro K hK;go_simp;refine ⟨_,hS,fun _ h=>h,hK _ _ _ ?_⟩;clear hK K
  (first | refine an rfl ?_ | (refine az rfl ?_;intro K hK;go_simp;refine hK _ _ _ ?_;clear hK K))
  refine aE rfl ?_;intro K hK;go_simp;refine ⟨_,hS1,fun _ h=>h,hK _ _ _ ?_⟩;clear hK K;refine mP rfl rfl (.tmp 12) (.tmp 20) rfl LU (v:=.slice A2 R.l.length c2) rfl (oi.drew.alloc _) rfl (Row.kT w.drew 35 _ rfl rfl) (by intro u hu;simp at hu;rcases hu with rfl | rfl | rfl | rfl<;>rfl) (by omega) (by omega) (by simp;omega) ?_;intro v' w' ho hg hb hat;obtain ⟨g',c',rfl,hc',J1,IV⟩:=gU ho (by omega);have tH:=Dh (w:=w) hat.out;have mh:w.grownBy w' (Value.slice A2 R.l.length c2).ownBlock:=jL (w0:=w) (grown_drew hg.out);have hnew:∀ b,b<w.heap.size→(Value.slice A2 R.l.length c2).ownBlock≠some b→b≠g':=fun b hb hne e=>by
   subst e;rcases tH b rfl with e | e
   ·exact hne e
   ·omega
  have Hg:g≠g':=hnew g JZ nei;obtain ⟨d0,d1,df,dz⟩:=jI hk hC h mh (fun e=>nei e);have op2:w'.ownsRow B 5 1 (.slice A R.p.length c) R.p.length (ai R.p):=World.ownsRow.kept op mh (Cr (fun b hb e=>nip b hb e.symm));have Vj:(Value.slice A R.p.length c).ownBlock=none∨(Value.slice A R.p.length c).ownBlock≠some g':=Cr (fun b hb e=>hnew b (World.ownsRow.lt op b hb).2 (nip b hb) (Option.some.inj e));have KO:(Value.slice A R.p.length c).ownBlock=none∨(Value.slice A R.p.length c).ownBlock≠some g:=.inr nep;have iU:(fun u:World=>u.cell? ⟨g,o+1,none⟩=some (.slice A R.p.length c)∧u.ownsRow B 5 1 (.slice A R.p.length c) R.p.length (ai R.p)) w':=⟨d1,op2⟩
  refine ⟨_,iU,fun _ h=>h,?_⟩;have ff:=fun j=>World.ownsRow.frozenAt ho j;have aeo:(0:Int)≤(R.l.length:Int):=by omega
  have hlt2:(R.l.length:Int)<(R.l.length:Int)+1:=by omega
  have hcl:=qU hI;have e0:w'.cell? ⟨g',R.l.length*4,none⟩=some (.int .i64 0):=aN ho (by rw [List.getElem?_append_right (by omega),hcl,show R.l.length*4-R.l.length*4=0 by omega];rfl);have e1:w'.cell? ⟨g',R.l.length*4+1,none⟩=some (.string ⟨#[]⟩):=aN ho (by rw [List.getElem?_append_right (by omega),hcl,show R.l.length*4+1-R.l.length*4=1 by omega];rfl);have e2:w'.cell? ⟨g',R.l.length*4+2,none⟩=some (.string ⟨#[]⟩):=aN ho (by rw [List.getElem?_append_right (by omega),hcl,show R.l.length*4+2-R.l.length*4=2 by omega];rfl);have e3:w'.cell? ⟨g',R.l.length*4+3,none⟩=some (.slice none 0 0):=aN ho (by rw [List.getElem?_append_right (by omega),hcl,show R.l.length*4+3-R.l.length*4=3 by omega];rfl)
  iterate 3 (first | refine an rfl ?_ | (refine az rfl ?_;intro K hK;go_simp;refine hK _ _ _ ?_;clear hK K))
  have XU:=rU ho hcl (.int .i64 0) (.string (bs R.p)) (.string ⟨#[]⟩) (.slice none 0 0);have hg4:=mN w' g' (R.l.length*4) (.int .i64 0) (.string (bs R.p)) (.string ⟨#[]⟩) (.slice none 0 0);have jm:(css++[[Value.int .i64 0,.string (bs R.p),.string ⟨#[]⟩,.slice none 0 0]]).flatten=css.flatten++[.int .i64 0,.string (bs R.p),.string ⟨#[]⟩,.slice none 0 0]:=by simp
  have hlen:(⟨R.l++[Il.word R.p],R.p⟩:Il.Rw).l.length=R.l.length+1:=by simp
  refine jh ?wc ?wd
  case' wc =>
   have fG:(fun u:World=>u.cell? ⟨g,o+1,none⟩=some (.slice A R.p.length c)∧u.ownsRow B 5 1 (.slice A R.p.length c) R.p.length (ai R.p)) (mO w' g' (R.l.length*4) (.int .i64 0) (.string (bs R.p)) (.string ⟨#[]⟩) (.slice none 0 0)):=⟨gj (hg4.block g dz (fun e=>Hg (Option.some.inj e))) _ d1,World.ownsRow.kept op2 hg4 Vj⟩
   refine bw rfl rfl (kM rfl (by kernel_rfl) rfl rfl e0 e1 e2 e3 ff) fG ?_;have t:=oX hk hC h hB (R':=⟨R.l++[Il.word R.p],R.p⟩) (css':=css++[[Value.int .i64 0,.string (bs R.p),.string ⟨#[]⟩,.slice none 0 0]]) rfl (E2 mh tH rfl hg4) (by rw [hlen,jm];exact XU) tH;have k0:(mO w' g' (R.l.length*4) (.int .i64 0) (.string (bs R.p)) (.string ⟨#[]⟩) (.slice none 0 0)).cell? ⟨g,o,none⟩=some (.slice A2 R.l.length c2):=gj (hg4.block g dz (fun e=>Hg (Option.some.inj e))) _ d0;have kf:∀ j,(mO w' g' (R.l.length*4) (.int .i64 0) (.string (bs R.p)) (.string ⟨#[]⟩) (.slice none 0 0)).frozen? ⟨g,j,none⟩=false:=Ff (hg4.block g dz (fun e=>Hg (Option.some.inj e))) df;have Af:(fun u:World=>u.cell? ⟨g,o+1,none⟩=some (.slice A R.p.length c)∧u.ownsRow B 5 1 (.slice A R.p.length c) R.p.length (ai R.p)) ((mO w' g' (R.l.length*4) (.int .i64 0) (.string (bs R.p)) (.string ⟨#[]⟩) (.slice none 0 0)).setCell ⟨g,o,none⟩ (.slice (some ⟨g',0,none⟩) (R.l.length+1) c')):=⟨(World.cell?_setCell_other _ ⟨g,o,none⟩ ⟨g,o+1,none⟩ _ (by intro h;injection h with _ h2 _;omega)).trans fG.1,World.ownsRow.kept fG.2 (ay _ ⟨g,o,none⟩ _) KO⟩
   refine bw rfl rfl (eX rfl (by kernel_rfl) rfl rfl k0 kf) Af ?_;clear fG Af k0 kf;generalize World.setCell _ _ _=W at t ⊢;have nU:=oY (t:=Il.word R.p) (cs:=[Value.int .i64 0,.string (bs R.p),.string ⟨#[]⟩,.slice none 0 0]) (t.kids hI) (wS 0 R.p []);have hB2:=Nat.le_trans hB t.bel.size;obtain ⟨f0,f1,ffz,_,fgz,_,_,_,_⟩:=eT hk hC t.hp;have t3:=Lib.hid (t.trans (fX hk hC t.hp hB2));have qZ:=Lib.hid ((fX hk hC t.hp hB2).kids nU);rw [← hfull.out] at t3 qZ;clear t nU e0 e1 e2 e3 d0 d1 df ff ho hg hb hat mh op2 iU XU hg4 jm hlen hS hS1 hcv c0 c1 cf oi op h hI Vj KO nei nep nip tH hnew;refine aQ ?_;go_wp2_with fail;go_ret;exact ⟨_,rfl,_,_,t3.out,qZ.out⟩
  case' wd =>
   have fG:(fun u:World=>u.cell? ⟨g,o+1,none⟩=some (.slice A R.p.length c)∧u.ownsRow B 5 1 (.slice A R.p.length c) R.p.length (ai R.p)) (w'.setCell ⟨g,o,none⟩ (.slice (some ⟨g',0,none⟩) (R.l.length+1) c')):=⟨(World.cell?_setCell_other _ ⟨g,o,none⟩ ⟨g,o+1,none⟩ _ (by intro h;injection h with _ h2 _;omega)).trans d1,World.ownsRow.kept op2 (ay _ ⟨g,o,none⟩ _) KO⟩
   refine bw rfl rfl (eX rfl (by kernel_rfl) rfl rfl d0 df) fG ?_;have tz:=oX hk hC h hB (R':=⟨R.l++[Il.word R.p],R.p⟩) (css':=css++[[Value.int .i64 0,.string ⟨#[]⟩,.string ⟨#[]⟩,.slice none 0 0]]) rfl mh (by rw [hlen];simpa using ho) tH;have gk:w'.grownBy (w'.setCell ⟨g,o,none⟩ (.slice (some ⟨g',0,none⟩) (R.l.length+1) c')) (some g):=ay _ ⟨g,o,none⟩ _;have Ij:(w'.setCell ⟨g,o,none⟩ (.slice (some ⟨g',0,none⟩) (R.l.length+1) c')).ownsRow B 35 4 (.slice (some ⟨g',0,none⟩) (R.l.length+1) c') (R.l.length+1) (css.flatten++[.int .i64 0,.string ⟨#[]⟩,.string ⟨#[]⟩,.slice none 0 0]):=World.ownsRow.kept ho gk (.inr (fun e=>Hg (Option.some.inj e).symm));have fz:=fun j=>World.ownsRow.frozenAt Ij j;have z0:(w'.setCell ⟨g,o,none⟩ (.slice (some ⟨g',0,none⟩) (R.l.length+1) c')).cell? ⟨g',R.l.length*4,none⟩=some (.int .i64 0):=aN Ij (by rw [List.getElem?_append_right (by omega),hcl,show R.l.length*4-R.l.length*4=0 by omega];rfl);have z1:(w'.setCell ⟨g,o,none⟩ (.slice (some ⟨g',0,none⟩) (R.l.length+1) c')).cell? ⟨g',R.l.length*4+1,none⟩=some (.string ⟨#[]⟩):=aN Ij (by rw [List.getElem?_append_right (by omega),hcl,show R.l.length*4+1-R.l.length*4=1 by omega];rfl);have z2:(w'.setCell ⟨g,o,none⟩ (.slice (some ⟨g',0,none⟩) (R.l.length+1) c')).cell? ⟨g',R.l.length*4+2,none⟩=some (.string ⟨#[]⟩):=aN Ij (by rw [List.getElem?_append_right (by omega),hcl,show R.l.length*4+2-R.l.length*4=2 by omega];rfl);have z3:(w'.setCell ⟨g,o,none⟩ (.slice (some ⟨g',0,none⟩) (R.l.length+1) c')).cell? ⟨g',R.l.length*4+3,none⟩=some (.slice none 0 0):=aN Ij (by rw [List.getElem?_append_right (by omega),hcl,show R.l.length*4+3-R.l.length*4=3 by omega];rfl);have zS:=mN (w'.setCell ⟨g,o,none⟩ (.slice (some ⟨g',0,none⟩) (R.l.length+1) c')) g' (R.l.length*4) (.int .i64 0) (.string (bs R.p)) (.string ⟨#[]⟩) (.slice none 0 0);have Af:(fun u:World=>u.cell? ⟨g,o+1,none⟩=some (.slice A R.p.length c)∧u.ownsRow B 5 1 (.slice A R.p.length c) R.p.length (ai R.p)) (mO (w'.setCell ⟨g,o,none⟩ (.slice (some ⟨g',0,none⟩) (R.l.length+1) c')) g' (R.l.length*4) (.int .i64 0) (.string (bs R.p)) (.string ⟨#[]⟩) (.slice none 0 0)):=⟨gj (zS.block g (Nat.lt_of_lt_of_le dz gk.size) (fun e=>Hg (Option.some.inj e))) _ fG.1,World.ownsRow.kept fG.2 zS Vj⟩
   have t:=tz.trans (Bp hk (R':=⟨R.l++[Il.word R.p],R.p⟩) (css':=css++[[Value.int .i64 0,.string (bs R.p),.string ⟨#[]⟩,.slice none 0 0]]) rfl (Nat.le_trans hB tz.bel.size) tz.hp zS (by rw [hlen,jm];exact rU Ij hcl (.int .i64 0) (.string (bs R.p)) (.string ⟨#[]⟩) (.slice none 0 0)) rfl rfl);refine bw rfl rfl (kM rfl (by kernel_rfl) rfl rfl z0 z1 z2 z3 fz) Af ?_;clear Af z0 z1 z2 z3 fz;generalize mO _ _ _ _ _ _ _=W at t ⊢;clear fG tz gk Ij zS;have nU:=oY (t:=Il.word R.p) (cs:=[Value.int .i64 0,.string (bs R.p),.string ⟨#[]⟩,.slice none 0 0]) (t.kids hI) (wS 0 R.p []);have hB2:=Nat.le_trans hB t.bel.size;obtain ⟨f0,f1,ffz,_,fgz,_,_,_,_⟩:=eT hk hC t.hp;have t3:=Lib.hid (t.trans (fX hk hC t.hp hB2));have qZ:=Lib.hid ((fX hk hC t.hp hB2).kids nU);rw [← hfull.out] at t3 qZ;clear t nU e0 e1 e2 e3 d0 d1 df ff ho hg hb hat mh op2 iU XU hg4 jm hlen hS hS1 hcv c0 c1 cf oi op h hI Vj KO nei nep nip tH hnew;refine aQ ?_;go_wp2_with fail;go_ret;exact ⟨_,rfl,_,_,t3.out,qZ.out⟩
 case' wb =>
  have c0':=(World.cell?_alloc_lt w.drew (.cells #[.int .i64 0,.string ⟨#[]⟩,.string ⟨#[]⟩,.slice none 0 0] 35) ⟨g,o,none⟩ JZ).trans c0;refine aE rfl ?_;intro K hK;go_simp;refine ⟨_,hS1,fun _ h=>h,hK _ _ _ ?_⟩;clear hK K;refine aE rfl ?_;intro K hK;go_simp;refine ⟨_,hS1,fun _ h=>h,hK _ _ _ ?_⟩;clear hK K
  (first | refine an rfl ?_ | (refine az rfl ?_;intro K hK;go_simp;refine hK _ _ _ ?_;clear hK K))
  refine mP rfl rfl (.tmp 12) (.tmp 20) rfl LU (v:=.slice A2 R.l.length c2) rfl (oi.drew.alloc _) rfl (Row.kT w.drew 35 _ rfl rfl) (by intro u hu;simp at hu;rcases hu with rfl | rfl | rfl | rfl<;>rfl) (by omega) (by omega) (by simp;omega) ?_;intro v' w' ho hg hb hat;obtain ⟨g',c',rfl,hc',J1,IV⟩:=gU ho (by omega);have tH:=Dh (w:=w) hat.out;have mh:w.grownBy w' (Value.slice A2 R.l.length c2).ownBlock:=jL (w0:=w) (grown_drew hg.out);have hnew:∀ b,b<w.heap.size→(Value.slice A2 R.l.length c2).ownBlock≠some b→b≠g':=fun b hb hne e=>by
   subst e;rcases tH b rfl with e | e
   ·exact hne e
   ·omega
  have Hg:g≠g':=hnew g JZ nei;obtain ⟨d0,d1,df,dz⟩:=jI hk hC h mh (fun e=>nei e);have op2:w'.ownsRow B 5 1 (.slice A R.p.length c) R.p.length (ai R.p):=World.ownsRow.kept op mh (Cr (fun b hb e=>nip b hb e.symm));have Vj:(Value.slice A R.p.length c).ownBlock=none∨(Value.slice A R.p.length c).ownBlock≠some g':=Cr (fun b hb e=>hnew b (World.ownsRow.lt op b hb).2 (nip b hb) (Option.some.inj e));have KO:(Value.slice A R.p.length c).ownBlock=none∨(Value.slice A R.p.length c).ownBlock≠some g:=.inr nep;have iU:(fun u:World=>u.cell? ⟨g,o+1,none⟩=some (.slice A R.p.length c)∧u.ownsRow B 5 1 (.slice A R.p.length c) R.p.length (ai R.p)) w':=⟨d1,op2⟩
  refine ⟨_,iU,fun _ h=>h,?_⟩;have ff:=fun j=>World.ownsRow.frozenAt ho j;have aeo:(0:Int)≤(R.l.length:Int):=by omega
  have hlt2:(R.l.length:Int)<(R.l.length:Int)+1:=by omega
  have hcl:=qU hI;have e0:w'.cell? ⟨g',R.l.length*4,none⟩=some (.int .i64 0):=aN ho (by rw [List.getElem?_append_right (by omega),hcl,show R.l.length*4-R.l.length*4=0 by omega];rfl);have e1:w'.cell? ⟨g',R.l.length*4+1,none⟩=some (.string ⟨#[]⟩):=aN ho (by rw [List.getElem?_append_right (by omega),hcl,show R.l.length*4+1-R.l.length*4=1 by omega];rfl);have e2:w'.cell? ⟨g',R.l.length*4+2,none⟩=some (.string ⟨#[]⟩):=aN ho (by rw [List.getElem?_append_right (by omega),hcl,show R.l.length*4+2-R.l.length*4=2 by omega];rfl);have e3:w'.cell? ⟨g',R.l.length*4+3,none⟩=some (.slice none 0 0):=aN ho (by rw [List.getElem?_append_right (by omega),hcl,show R.l.length*4+3-R.l.length*4=3 by omega];rfl)
  iterate 3 (first | refine an rfl ?_ | (refine az rfl ?_;intro K hK;go_simp;refine hK _ _ _ ?_;clear hK K))
  have XU:=rU ho hcl (.int .i64 0) (.string (bs R.p)) (.string ⟨#[]⟩) (.slice none 0 0);have hg4:=mN w' g' (R.l.length*4) (.int .i64 0) (.string (bs R.p)) (.string ⟨#[]⟩) (.slice none 0 0);have jm:(css++[[Value.int .i64 0,.string (bs R.p),.string ⟨#[]⟩,.slice none 0 0]]).flatten=css.flatten++[.int .i64 0,.string (bs R.p),.string ⟨#[]⟩,.slice none 0 0]:=by simp
  have hlen:(⟨R.l++[Il.word R.p],R.p⟩:Il.Rw).l.length=R.l.length+1:=by simp
  refine jh ?we ?wf
  case' we =>
   have fG:(fun u:World=>u.cell? ⟨g,o+1,none⟩=some (.slice A R.p.length c)∧u.ownsRow B 5 1 (.slice A R.p.length c) R.p.length (ai R.p)) (mO w' g' (R.l.length*4) (.int .i64 0) (.string (bs R.p)) (.string ⟨#[]⟩) (.slice none 0 0)):=⟨gj (hg4.block g dz (fun e=>Hg (Option.some.inj e))) _ d1,World.ownsRow.kept op2 hg4 Vj⟩
   refine bw rfl rfl (kM rfl (by kernel_rfl) rfl rfl e0 e1 e2 e3 ff) fG ?_;have t:=oX hk hC h hB (R':=⟨R.l++[Il.word R.p],R.p⟩) (css':=css++[[Value.int .i64 0,.string (bs R.p),.string ⟨#[]⟩,.slice none 0 0]]) rfl (E2 mh tH rfl hg4) (by rw [hlen,jm];exact XU) tH;have k0:(mO w' g' (R.l.length*4) (.int .i64 0) (.string (bs R.p)) (.string ⟨#[]⟩) (.slice none 0 0)).cell? ⟨g,o,none⟩=some (.slice A2 R.l.length c2):=gj (hg4.block g dz (fun e=>Hg (Option.some.inj e))) _ d0;have kf:∀ j,(mO w' g' (R.l.length*4) (.int .i64 0) (.string (bs R.p)) (.string ⟨#[]⟩) (.slice none 0 0)).frozen? ⟨g,j,none⟩=false:=Ff (hg4.block g dz (fun e=>Hg (Option.some.inj e))) df;have Af:(fun u:World=>u.cell? ⟨g,o+1,none⟩=some (.slice A R.p.length c)∧u.ownsRow B 5 1 (.slice A R.p.length c) R.p.length (ai R.p)) ((mO w' g' (R.l.length*4) (.int .i64 0) (.string (bs R.p)) (.string ⟨#[]⟩) (.slice none 0 0)).setCell ⟨g,o,none⟩ (.slice (some ⟨g',0,none⟩) (R.l.length+1) c')):=⟨(World.cell?_setCell_other _ ⟨g,o,none⟩ ⟨g,o+1,none⟩ _ (by intro h;injection h with _ h2 _;omega)).trans fG.1,World.ownsRow.kept fG.2 (ay _ ⟨g,o,none⟩ _) KO⟩
   refine bw rfl rfl (eX rfl (by kernel_rfl) rfl rfl k0 kf) Af ?_;clear fG Af k0 kf;generalize World.setCell _ _ _=W at t ⊢;have nU:=oY (t:=Il.word R.p) (cs:=[Value.int .i64 0,.string (bs R.p),.string ⟨#[]⟩,.slice none 0 0]) (t.kids hI) (wS 0 R.p []);have hB2:=Nat.le_trans hB t.bel.size;obtain ⟨f0,f1,ffz,_,fgz,_,_,_,_⟩:=eT hk hC t.hp;have t3:=Lib.hid (t.trans (fX hk hC t.hp hB2));have qZ:=Lib.hid ((fX hk hC t.hp hB2).kids nU);rw [← hfull.out] at t3 qZ;clear t nU e0 e1 e2 e3 d0 d1 df ff ho hg hb hat mh op2 iU XU hg4 jm hlen hS hS1 hcv c0 c1 cf oi op h hI Vj KO nei nep nip tH hnew;refine aQ ?_;go_wp2_with fail;go_ret;exact ⟨_,rfl,_,_,t3.out,qZ.out⟩
  case' wf =>
   have fG:(fun u:World=>u.cell? ⟨g,o+1,none⟩=some (.slice A R.p.length c)∧u.ownsRow B 5 1 (.slice A R.p.length c) R.p.length (ai R.p)) (w'.setCell ⟨g,o,none⟩ (.slice (some ⟨g',0,none⟩) (R.l.length+1) c')):=⟨(World.cell?_setCell_other _ ⟨g,o,none⟩ ⟨g,o+1,none⟩ _ (by intro h;injection h with _ h2 _;omega)).trans d1,World.ownsRow.kept op2 (ay _ ⟨g,o,none⟩ _) KO⟩
   refine bw rfl rfl (eX rfl (by kernel_rfl) rfl rfl d0 df) fG ?_;have tz:=oX hk hC h hB (R':=⟨R.l++[Il.word R.p],R.p⟩) (css':=css++[[Value.int .i64 0,.string ⟨#[]⟩,.string ⟨#[]⟩,.slice none 0 0]]) rfl mh (by rw [hlen];simpa using ho) tH;have gk:w'.grownBy (w'.setCell ⟨g,o,none⟩ (.slice (some ⟨g',0,none⟩) (R.l.length+1) c')) (some g):=ay _ ⟨g,o,none⟩ _;have Ij:(w'.setCell ⟨g,o,none⟩ (.slice (some ⟨g',0,none⟩) (R.l.length+1) c')).ownsRow B 35 4 (.slice (some ⟨g',0,none⟩) (R.l.length+1) c') (R.l.length+1) (css.flatten++[.int .i64 0,.string ⟨#[]⟩,.string ⟨#[]⟩,.slice none 0 0]):=World.ownsRow.kept ho gk (.inr (fun e=>Hg (Option.some.inj e).symm));have fz:=fun j=>World.ownsRow.frozenAt Ij j;have z0:(w'.setCell ⟨g,o,none⟩ (.slice (some ⟨g',0,none⟩) (R.l.length+1) c')).cell? ⟨g',R.l.length*4,none⟩=some (.int .i64 0):=aN Ij (by rw [List.getElem?_append_right (by omega),hcl,show R.l.length*4-R.l.length*4=0 by omega];rfl);have z1:(w'.setCell ⟨g,o,none⟩ (.slice (some ⟨g',0,none⟩) (R.l.length+1) c')).cell? ⟨g',R.l.length*4+1,none⟩=some (.string ⟨#[]⟩):=aN Ij (by rw [List.getElem?_append_right (by omega),hcl,show R.l.length*4+1-R.l.length*4=1 by omega];rfl);have z2:(w'.setCell ⟨g,o,none⟩ (.slice (some ⟨g',0,none⟩) (R.l.length+1) c')).cell? ⟨g',R.l.length*4+2,none⟩=some (.string ⟨#[]⟩):=aN Ij (by rw [List.getElem?_append_right (by omega),hcl,show R.l.length*4+2-R.l.length*4=2 by omega];rfl);have z3:(w'.setCell ⟨g,o,none⟩ (.slice (some ⟨g',0,none⟩) (R.l.length+1) c')).cell? ⟨g',R.l.length*4+3,none⟩=some (.slice none 0 0):=aN Ij (by rw [List.getElem?_append_right (by omega),hcl,show R.l.length*4+3-R.l.length*4=3 by omega];rfl);have zS:=mN (w'.setCell ⟨g,o,none⟩ (.slice (some ⟨g',0,none⟩) (R.l.length+1) c')) g' (R.l.length*4) (.int .i64 0) (.string (bs R.p)) (.string ⟨#[]⟩) (.slice none 0 0);have Af:(fun u:World=>u.cell? ⟨g,o+1,none⟩=some (.slice A R.p.length c)∧u.ownsRow B 5 1 (.slice A R.p.length c) R.p.length (ai R.p)) (mO (w'.setCell ⟨g,o,none⟩ (.slice (some ⟨g',0,none⟩) (R.l.length+1) c')) g' (R.l.length*4) (.int .i64 0) (.string (bs R.p)) (.string ⟨#[]⟩) (.slice none 0 0)):=⟨gj (zS.block g (Nat.lt_of_lt_of_le dz gk.size) (fun e=>Hg (Option.some.inj e))) _ fG.1,World.ownsRow.kept fG.2 zS Vj⟩
   have t:=tz.trans (Bp hk (R':=⟨R.l++[Il.word R.p],R.p⟩) (css':=css++[[Value.int .i64 0,.string (bs R.p),.string ⟨#[]⟩,.slice none 0 0]]) rfl (Nat.le_trans hB tz.bel.size) tz.hp zS (by rw [hlen,jm];exact rU Ij hcl (.int .i64 0) (.string (bs R.p)) (.string ⟨#[]⟩) (.slice none 0 0)) rfl rfl);refine bw rfl rfl (kM rfl (by kernel_rfl) rfl rfl z0 z1 z2 z3 fz) Af ?_;clear Af z0 z1 z2 z3 fz;generalize mO _ _ _ _ _ _ _=W at t ⊢;clear fG tz gk Ij zS;have nU:=oY (t:=Il.word R.p) (cs:=[Value.int .i64 0,.string (bs R.p),.string ⟨#[]⟩,.slice none 0 0]) (t.kids hI) (wS 0 R.p []);have hB2:=Nat.le_trans hB t.bel.size;obtain ⟨f0,f1,ffz,_,fgz,_,_,_,_⟩:=eT hk hC t.hp;have t3:=Lib.hid (t.trans (fX hk hC t.hp hB2));have qZ:=Lib.hid ((fX hk hC t.hp hB2).kids nU);rw [← hfull.out] at t3 qZ;clear t nU e0 e1 e2 e3 d0 d1 df ff ho hg hb hat mh op2 iU XU hg4 jm hlen hS hS1 hcv c0 c1 cf oi op h hI Vj KO nei nep nip tH hnew;refine aQ ?_;go_wp2_with fail;go_ret;exact ⟨_,rfl,_,_,t3.out,qZ.out⟩
theorem IJ (hk:k.ok) (hC:Cn g o C) (h:Hq w B (aR m k C R vi vp css)) (hI:iq w (Fr w B (aR m k C R vi vp css)) R.l css) (hp:R.p=[]) :
  Calls Tryz.prog 200 #[.pointer (some ⟨g,o,none⟩)] w fun e w'=>∃ vi',e=.returned vi'∧∃ vp' css',b7 B (aR m k C R vi vp css) w (aR m k C ⟨R.full,[]⟩ vi' vp' css') w'∧iq w' (Fr w' B (aR m k C ⟨R.full,[]⟩ vi' vp' css')) R.full css':=by
 obtain ⟨c0,c1,cf,hBg,JZ,oi,op,nei,nep⟩:=eT hk hC h;obtain ⟨L,P⟩:=R;simp only at hp;subst hp;have hfull:(⟨L,[]⟩:Il.Rw).full=L:=by unfold Il.Rw.full;simp
 obtain ⟨A,c,rfl,hc3⟩:=ak op;obtain ⟨A2,c2,rfl,hc4⟩:=ak oi;simp only [List.length_nil] at c1;have aP:=Lib.hid (show b7 B (aR m k C ⟨L,[]⟩ (.slice A2 L.length c2) (.slice A 0 c) css) w (aR m k C ⟨(⟨L,[]⟩:Il.Rw).full,[]⟩ (.slice A2 L.length c2) (.slice A 0 c) css) w∧iq w (Fr w B (aR m k C ⟨(⟨L,[]⟩:Il.Rw).full,[]⟩ (.slice A2 L.length c2) (.slice A 0 c) css)) (⟨L,[]⟩:Il.Rw).full css by
  rw [hfull];exact ⟨h.refl,hI⟩)
 simp only [List.length_nil] at h hI ⊢;clear h hI oi op hfull;go_enter Tryz.func200,Tryz.ntmps200;go_wp2_with fail;go_ret;exact ⟨_,rfl,_,_,aP.out.1,aP.out.2⟩
theorem lB (hk:k.ok) (hC:Cn g o C) (h:Hq w B (aR m k C R vi vp css)) (hI:iq w (Fr w B (aR m k C R vi vp css)) R.l css) (hB:B≤w.heap.size) (hl:R.p.length≤100000000000) (rG:R.l.length≤100000000000) :
  Calls Tryz.prog 200 #[.pointer (some ⟨g,o,none⟩)] w fun e w'=>∃ vi',e=.returned vi'∧∃ vp' css',b7 B (aR m k C R vi vp css) w (aR m k C ⟨R.full,[]⟩ vi' vp' css') w'∧iq w' (Fr w' B (aR m k C ⟨R.full,[]⟩ vi' vp' css')) R.full css':=by
 by_cases hp:R.p=[]
 ·exact IJ hk hC h hI hp
 ·exact Na hk hC h hI hB hp hl rG
end
end Go.Proofs.YtddkjkockbcamaaGreatDoor
namespace Go.Proofs.YtddkjkockbcamaaGreatDoor
open Go.RowKit
abbrev V3:=Value×Value×List (List Value)
def aV (V:List V3):List Value:=V.flatMap fun x=>[x.1,x.2.1]
theorem kE (V:List V3):(aV V).length=V.length*2:=by
 induction V with
 | nil=>rfl
 | cons x V ih =>
  have:aV (x::V)=x.1::x.2.1::aV V:=rfl;rw [this];simp only [List.length_cons,ih];omega
theorem j5 (a b:List V3):aV (a++b)=aV a++aV b:=by simp [aV]
theorem GM {V:List V3}{i:Nat}(h:i<V.length) (x:V3):aV (V.set i x)=aV (V.take i)++x.1::x.2.1::aV (V.drop (i+1)):=by
 rw [List.set_eq_take_append_cons_drop,if_pos h,j5];rfl
def atR (rs:List Il.Rw) (V:List V3) (f:Il.Rw→V3→Pa) (j:Nat):Option Pa :=
 match rs[j]?,V[j]? with
 | some R,some x=>some (f R x)
 | _,_=>none
def aA (m:Ky→Option Pa) (a b c:Nat) (v:Value) (rs:List Il.Rw) (V:List V3):Ky→Option Pa:=fun j =>
 if j=(a,0) then some (.row 216 2 v rs.length (aV V))
 else if j.1=b then atR rs V (fun R x=>mu R x.1 x.2.2) j.2
 else if j.1=c then atR rs V (fun R x=>n9 R x.2.1) j.2
 else m j
structure YA (a b c:Nat):Prop where
 ab:b≠a
 ac:c≠a
 bc:c≠b
def n8 (a b c i:Nat):Ks:=⟨(a,0),(b,i),(c,i)⟩
theorem fh {a b c:Nat}(h:YA a b c) (i:Nat):(n8 a b c i).ok :=
 ⟨fun e=>h.ab (congrArg Prod.fst e),fun e=>h.ac (congrArg Prod.fst e),fun e=>h.bc (congrArg Prod.fst e)⟩
def D6 (v:Value) (n:Nat) (V:List V3) (i:Nat):Value→Value→Pa:=fun x y=>.row 216 2 v n (aV (V.take i)++x::y::aV (V.drop (i+1)))
section
variable {m:Ky→Option Pa}{a b c:Nat}{v:Value}{rs:List Il.Rw}{V:List V3}{w w':World}{B:Nat}
theorem ud (h:YA a b c) {i:Nat}(hi:i<rs.length) (hV:i<V.length) (R':Il.Rw) (x y:Value) (z:List (List Value)) :
  aR (aA m a b c v rs V) (n8 a b c i) (D6 v rs.length V i) R' x y z=aA m a b c v (rs.set i R') (V.set i (x,y,z)):=by
 funext j
 obtain ⟨j1,j2⟩:=j;unfold aR uq n8 D6 aA;simp only [Prod.mk.injEq,List.length_set,GM hV];have hab:=h.ab;have hac:=h.ac;have hbc:=h.bc;have Kq:∀ f,atR (rs.set i R') (V.set i (x,y,z)) f i=some (f R' (x,y,z)):=fun f=>by
  unfold atR;rw [List.getElem?_set_self hi,List.getElem?_set_self hV]
 have zC:∀ f j,j≠i→atR (rs.set i R') (V.set i (x,y,z)) f j=atR rs V f j:=fun f j hj=>by
  unfold atR;rw [List.getElem?_set_ne (Ne.symm hj),List.getElem?_set_ne (Ne.symm hj)]
 by_cases hc:j1=c
 ·subst hc
  by_cases hj:j2=i
  ·subst hj
   simp [hac,hbc,Kq]
  ·simp [hac,hbc,hj,zC]
 ·by_cases hb:j1=b
  ·subst hb
   by_cases hj:j2=i
   ·subst hj
    simp [hab,hc,Kq]
   ·simp [hab,hc,hj,zC]
  ·by_cases ha:j1=a∧j2=0
   ·obtain ⟨rfl,rfl⟩:=ha
    simp [hc,hb]
   ·simp [hc,hb,ha]
theorem J7 (h:YA a b c) {i:Nat}(hi:i<rs.length) (hV:i<V.length):aR (aA m a b c v rs V) (n8 a b c i) (D6 v rs.length V i) rs[i] V[i].1 V[i].2.1 V[i].2.2=aA m a b c v rs V:=by
 rw [ud h hi hV,List.set_getElem_self];have:V.set i (V[i].1,V[i].2.1,V[i].2.2)=V:=List.set_getElem_self hV;rw [this]
structure RS (w:World) (B:Nat) (m:Ky→Option Pa) (a b c:Nat) (v:Value) (rs:List Il.Rw) (V:List V3):Prop where
 hp:Hq w B (aA m a b c v rs V)
 len:V.length=rs.length
 kids:∀ (i:Nat) (h:i<rs.length) (h':i<V.length),iq w (Fr w B (aA m a b c v rs V)) rs[i].l V[i].2.2
theorem RS.cn (h:RS w B m a b c v rs V) {g cp:Nat}(hv:v=.slice (some ⟨g,0,none⟩) rs.length cp) {i:Nat}(hi:i<rs.length):Cn g (i*2) (D6 v rs.length V i):=by
 subst hv;exact YB 216 g rs.length cp (aV (V.take i)) (aV (V.drop (i+1))) (by rw [kE,List.length_take,h.len];omega)
theorem RS.look (h:RS w B m a b c v rs V) (hA:YA a b c) {i:Nat}{R:Il.Rw}(hR:rs[i]? = some R):∃ (x y:Value) (z:List (List Value)),aR (aA m a b c v rs V) (n8 a b c i) (D6 v rs.length V i) R x y z=aA m a b c v rs V∧Hq w B (aR (aA m a b c v rs V) (n8 a b c i) (D6 v rs.length V i) R x y z)∧iq w (Fr w B (aR (aA m a b c v rs V) (n8 a b c i) (D6 v rs.length V i) R x y z)) R.l z:=by
 obtain ⟨hi,rfl⟩:=List.getElem?_eq_some_iff.1 hR;have hV:i<V.length:=by rw [h.len];exact hi
 have e:=J7 (m:=m) (v:=v) hA hi hV;refine ⟨V[i].1,V[i].2.1,V[i].2.2,e,?_,?_⟩
 ·rw [e];exact h.hp
 ·rw [e];exact h.kids i hi hV
theorem RS.turned (h:RS w B m a b c v rs V) (hA:YA a b c) {i:Nat}{R:Il.Rw}(hR:rs[i]? = some R) {R':Il.Rw}{x y x0 y0:Value}{z z0:List (List Value)}(he:aR (aA m a b c v rs V) (n8 a b c i) (D6 v rs.length V i) R x0 y0 z0=aA m a b c v rs V)
  (t:b7 B (aR (aA m a b c v rs V) (n8 a b c i) (D6 v rs.length V i) R x0 y0 z0) w (aR (aA m a b c v rs V) (n8 a b c i) (D6 v rs.length V i) R' x y z) w')
  (hI:iq w' (Fr w' B (aR (aA m a b c v rs V) (n8 a b c i) (D6 v rs.length V i) R' x y z)) R'.l z):RS w' B m a b c v (rs.set i R') (V.set i (x,y,z))∧b7 B (aA m a b c v rs V) w (aA m a b c v (rs.set i R') (V.set i (x,y,z))) w':=by
 obtain ⟨hi,rfl⟩:=List.getElem?_eq_some_iff.1 hR;have hV:i<V.length:=by rw [h.len];exact hi
 rw [he,ud hA hi hV] at t;rw [ud hA hi hV] at hI;refine ⟨⟨t.hp,by rw [List.length_set,List.length_set,h.len],fun j hj hj'=>?_⟩,t⟩
 by_cases hij:i=j
 ·subst hij
  rw [List.getElem_set_self,List.getElem_set_self];exact hI
 ·rw [List.getElem_set_ne hij,List.getElem_set_ne hij]
  exact t.kids (h.kids j (by rw [List.length_set] at hj;exact hj) (by rw [List.length_set] at hj';exact hj'))
theorem RS.ext (h:RS w B m a b c v rs V) (hB:B≤w.heap.size) (hb:Below w.heap.size w w'):RS w' B m a b c v rs V :=
 ⟨(h.hp.call hB hb).hp,h.len,fun i h1 h2=>(h.hp.call hB hb).kids (h.kids i h1 h2)⟩
theorem RS.along (h:RS w B m a b c v rs V) {m':Ky→Option Pa}(t:b7 B (aA m a b c v rs V) w (aA m' a b c v rs V) w'):RS w' B m' a b c v rs V :=
 ⟨t.hp,h.len,fun i h1 h2=>t.kids (h.kids i h1 h2)⟩
theorem pL (m:Ky→Option Pa) (a b c:Nat) (v:Value) (rs:List Il.Rw) (V:List V3):aA m a b c v rs V (a,0)=some (.row 216 2 v rs.length (aV V)):=by unfold aA;rw [if_pos rfl]
theorem RS.arr (h:RS w B m a b c v rs V):w.ownsRow B 216 2 v rs.length (aV V):=h.hp.holds _ _ (pL m a b c v rs V)
theorem RS.slice (h:RS w B m a b c v rs V) (hn:0<rs.length):∃ g cp,v=.slice (some ⟨g,0,none⟩) rs.length cp∧rs.length≤cp∧B≤g∧g<w.heap.size:=gU h.arr hn
theorem RS.grow (h:RS w B m a b c v rs V) (hB:B≤w.heap.size) {v':Value}{j:Nat}(hg:w.grownBy w' v.ownBlock) (ho:w'.ownsRow B 216 2 v' (rs.length+j) (aV V++aV (List.replicate j (.slice none 0 0,.slice none 0 0,[])))) (hat:At w.heap.size v v') :
  RS w' B m a b c v' (rs++List.replicate j Il.Rw.nil) (V++List.replicate j (.slice none 0 0,.slice none 0 0,[]))∧b7 B (aA m a b c v rs V) w (aA m a b c v' (rs++List.replicate j Il.Rw.nil) (V++List.replicate j (.slice none 0 0,.slice none 0 0,[]))) w':=by
 have t1:=h.hp.wH (k:=(a,0)) (.row 216 2 v' (rs++List.replicate j Il.Rw.nil).length (aV (V++List.replicate j (.slice none 0 0,.slice none 0 0,[])))) (pL m a b c v rs V) hg (by
  show World.ownsRow _ _ _ _ _ _ _;rw [List.length_append,List.length_replicate,j5];exact ho) hat hB
 have old:∀ (f:Il.Rw→V3→Pa) (i:Nat) (x:Pa),(∀ R,R=Il.Rw.nil→(f R (.slice none 0 0,.slice none 0 0,[])).block=none∧(f R (.slice none 0 0,.slice none 0 0,[])).holds w' B)→atR (rs++List.replicate j Il.Rw.nil) (V++List.replicate j (.slice none 0 0,.slice none 0 0,[])) f i=some x→atR rs V f i=some x∨(x.block=none∧x.holds w' B):=by
  intro f i x hf he;unfold atR at he ⊢;rcases Nat.lt_or_ge i rs.length with hi | hi
  ·rw [List.getElem?_append_left hi,List.getElem?_append_left (by rw [h.len];exact hi)] at he
   exact .inl he
  ·rw [List.getElem?_append_right hi,List.getElem?_append_right (by rw [h.len];exact hi),h.len] at he
   rw [List.getElem?_replicate,List.getElem?_replicate] at he
   by_cases hj:i-rs.length<j
   ·rw [if_pos hj,if_pos hj] at he
    injection he with he;subst he;exact .inr (hf _ rfl)
   ·rw [if_neg hj,if_neg hj] at he;cases he
 have t2:b7 B (uq (aA m a b c v rs V) (a,0) (.row 216 2 v' (rs++List.replicate j Il.Rw.nil).length (aV (V++List.replicate j (.slice none 0 0,.slice none 0 0,[]))))) w' (aA m a b c v' (rs++List.replicate j Il.Rw.nil) (V++List.replicate j (.slice none 0 0,.slice none 0 0,[]))) w':=by
  refine t1.hp.Py id (fun q x hx=>?_) (fun q q' x x' _ _ _ e=>e);obtain ⟨q1,q2⟩:=q;unfold aA at hx
  by_cases ha:(q1,q2)=(a,0)
  ·rw [if_pos ha] at hx
   rw [id,ha,ez];exact .inl hx
  ·rw [if_neg ha] at hx
   rw [id,aX _ _ ha];unfold aA;rw [if_neg ha];simp only at hx ⊢
   by_cases hb:q1=b
   ·rw [if_pos hb] at hx ⊢
    exact old _ _ _ (fun R hR=>by subst hR;exact ⟨rfl,World.ownsRow_nil _ _ _ _⟩) hx
   ·rw [if_neg hb] at hx ⊢
    by_cases hc:q1=c
    ·rw [if_pos hc] at hx ⊢
     exact old _ _ _ (fun R hR=>by subst hR;exact ⟨rfl,World.ownsRow_nil _ _ _ _⟩) hx
    ·rw [if_neg hc] at hx ⊢
     exact .inl hx
 have t:=t1.trans t2;refine ⟨⟨t.hp,by simp [h.len],fun i hi hi'=>?_⟩,t⟩;rcases Nat.lt_or_ge i rs.length with hl | hl
 ·rw [List.getElem_append_left hl,List.getElem_append_left (by rw [h.len];exact hl)]
  exact t.kids (h.kids i hl _)
 ·rw [List.getElem_append_right hl,List.getElem_append_right (by rw [h.len];exact hl),List.getElem_replicate,List.getElem_replicate]
  exact rJ
theorem RS.pop (h:RS w B m a b c v rs V) (hA:YA a b c) (hB:B≤w.heap.size) {n g cp:Nat}(hn:rs.length=n+1) (hv:v=.slice (some ⟨g,0,none⟩) (n+1) cp) :
  RS w B m a b c (.slice (some ⟨g,0,none⟩) n cp) (rs.take n) (V.take n)∧b7 B (aA m a b c v rs V) w (aA m a b c (.slice (some ⟨g,0,none⟩) n cp) (rs.take n) (V.take n)) w ∧
   ∀ (hi:n<rs.length) (hi':n<V.length) (A:Option Addr) (cA:Nat),V[n].1=.slice A rs[n].l.length cA→e9 w (Fr w B (aA m a b c (.slice (some ⟨g,0,none⟩) n cp) (rs.take n) (V.take n))) 4 A rs[n].l.length V[n].2.2.flatten∧iq w (Fr w B (aA m a b c (.slice (some ⟨g,0,none⟩) n cp) (rs.take n) (V.take n))) rs[n].l V[n].2.2:=by
 subst hv;have harr:=h.arr;have hVl:=h.len;have htl:(rs.take n).length=n:=by rw [List.length_take];omega
 have ho:w.ownsRow B 216 2 (.slice (some ⟨g,0,none⟩) n cp) (rs.take n).length (aV (V.take n)):=by
  rw [htl];refine ⟨by rw [kE,List.length_take];omega,?_⟩;rcases harr.2 with ⟨e,_⟩ | ⟨g',cap,cur,e,h1,h2,h3,h4,h5,h6⟩
  ·simp at e
  ·injection e with e1 e2 e3
   injection e1 with e1;injection e1 with e1;subst e1 e3;refine .inr ⟨g,cp,cur,rfl,h1,h2,by omega,h4,h5,?_⟩;have e4:aV V=aV (V.take n)++aV (V.drop n):=by rw [← j5,List.take_append_drop]
   have e5:(aV (V.take n)).length=n*2:=by rw [kE,List.length_take];omega
   have:(cur.toList.take (rs.length*2)).take (n*2)=(aV V).take (n*2):=by rw [h6]
   rw [List.take_take,show min (n*2) (rs.length*2)=n*2 by omega,e4,List.take_left' e5] at this;exact this
 have t1:=h.hp.wH (k:=(a,0)) (.row 216 2 (.slice (some ⟨g,0,none⟩) n cp) (rs.take n).length (aV (V.take n))) (pL m a b c _ rs V) (World.grownBy.refl w _) ho (fun g' hg'=>.inl hg') hB;have old:∀ (f:Il.Rw→V3→Pa) (i:Nat) (x:Pa),atR (rs.take n) (V.take n) f i=some x→atR rs V f i=some x∧i<n:=by
  intro f i x he;unfold atR at he ⊢;rw [List.getElem?_take,List.getElem?_take] at he
  by_cases hi:i<n
  ·rw [if_pos hi,if_pos hi] at he;exact ⟨he,hi⟩
  ·rw [if_neg hi,if_neg hi] at he;cases he
 have hsub:∀ q x,aA m a b c (.slice (some ⟨g,0,none⟩) n cp) (rs.take n) (V.take n) q=some x→uq (aA m a b c (.slice (some ⟨g,0,none⟩) (n+1) cp) rs V) (a,0) (.row 216 2 (.slice (some ⟨g,0,none⟩) n cp) (rs.take n).length (aV (V.take n))) q=some x∧q≠(b,n):=by
  intro q x hx;obtain ⟨q1,q2⟩:=q;unfold aA at hx
  by_cases ha:(q1,q2)=(a,0)
  ·rw [if_pos ha] at hx
   refine ⟨by rw [ha,ez];exact hx,fun e=>?_⟩;rw [e] at ha;exact hA.ab (congrArg Prod.fst ha)
  ·rw [if_neg ha] at hx
   rw [aX _ _ ha];unfold aA;rw [if_neg ha];simp only at hx ⊢
   by_cases hb:q1=b
   ·rw [if_pos hb] at hx ⊢
    obtain ⟨h1,h2⟩:=old _ _ _ hx;exact ⟨h1,fun e=>by have:=congrArg Prod.snd e;simp only at this;omega⟩
   ·rw [if_neg hb] at hx ⊢
    refine ⟨?_,fun e=>hb (congrArg Prod.fst e)⟩
    by_cases hc:q1=c
    ·rw [if_pos hc] at hx ⊢
     exact (old _ _ _ hx).1
    ·rw [if_neg hc] at hx ⊢
     exact hx
 have t2:b7 B _ w (aA m a b c (.slice (some ⟨g,0,none⟩) n cp) (rs.take n) (V.take n)) w:=t1.hp.Py id (fun q x hx=>.inl (hsub q x hx).1) (fun q q' x x' _ _ _ e=>e);have t:=t1.trans t2;refine ⟨⟨t.hp,by rw [htl,List.length_take];omega,fun i hi hi'=>?_⟩,t,fun hi hi' A cA hVA=>⟨?_,t.kids (h.kids n hi hi')⟩⟩
 ·rw [List.getElem_take,List.getElem_take]
  rw [htl] at hi;exact t.kids (h.kids i (by omega) (by omega))
 ·have hb:aA m a b c (.slice (some ⟨g,0,none⟩) (n+1) cp) rs V (b,n)=some (mu rs[n] V[n].1 V[n].2.2):=by
   unfold aA;rw [if_neg (fun e=>hA.ab (congrArg Prod.fst e)),if_pos rfl];unfold atR;rw [List.getElem?_eq_getElem hi,List.getElem?_eq_getElem hi']
  have hown:w.ownsRow B 35 4 V[n].1 rs[n].l.length V[n].2.2.flatten:=h.hp.holds _ _ hb;have hbl:=hown;rw [hVA] at hbl;have hr:=j6 hbl;refine ⟨hr.1,fun hp=>?_⟩;obtain ⟨b0,o,h1,h2,h3⟩:=hr.2 hp;refine ⟨b0,o,h1,⟨h2.1,h2.2,fun q x hx e=>?_⟩,h3⟩;obtain ⟨h4,h5⟩:=hsub q x hx;have hb1:uq (aA m a b c (.slice (some ⟨g,0,none⟩) (n+1) cp) rs V) (a,0) (.row 216 2 (.slice (some ⟨g,0,none⟩) n cp) (rs.take n).length (aV (V.take n))) (b,n)=some (mu rs[n] V[n].1 V[n].2.2):=by
   rw [aX _ _ (fun e=>hA.ab (congrArg Prod.fst e))];exact hb
  refine h5 (t1.hp.apart _ _ _ _ b0 h4 hb1 e ?_);show V[n].1.ownBlock=some b0;rw [hVA,h1];rfl
end
end Go.Proofs.YtddkjkockbcamaaGreatDoor
