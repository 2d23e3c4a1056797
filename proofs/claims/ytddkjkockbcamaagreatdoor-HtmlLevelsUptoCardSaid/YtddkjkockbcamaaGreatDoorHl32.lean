/- BkRun BkMass BkRef BkDeep HmPage HmPg PgMem PgTakes PgPut PgInl -/
import Derived.Test.YtddkjkockbcamaaGreatDoorHl27
import Derived.Test.YtddkjkockbcamaaGreatDoorHl05
import Derived.Test.YtddkjkockbcamaaGreatDoorHl08
import Derived.Test.YtddkjkockbcamaaGreatDoorHl17
import Derived.Test.YtddkjkockbcamaaGreatDoorHl03
import Derived.Test.YtddkjkockbcamaaGreatDoorHl19
import Derived.Test.YtddkjkockbcamaaGreatDoorHl22
import Derived.Test.YtddkjkockbcamaaGreatDoorHl21
import Derived.Deep.DeepCutAuto
import Derived.Test.YtddkjkockbcamaaGreatDoorHl30
set_option maxHeartbeats 16000000
set_option maxRecDepth 100000
namespace Go.Proofs.YtddkjkockbcamaaGreatDoor
open Go.RowKit
attribute [local go_sem] aD av aq
def Bk.bh (l:List UInt8):List (List UInt8):=(Ln.texts (l.take 65536) 0).map Ru.text
theorem yN {ts:List (List UInt8)} {k:Nat} (h:¬ k<ts.length) (st:Bk.St):Bk.lines ((ts.drop k).map Ru.text) k st=st:=by
 rw [List.drop_eq_nil_of_le (by omega)]; rfl
end Go.Proofs.YtddkjkockbcamaaGreatDoor

set_option maxHeartbeats 16000000
set_option maxRecDepth 100000
namespace Go.Proofs.YtddkjkockbcamaaGreatDoor
end Go.Proofs.YtddkjkockbcamaaGreatDoor

set_option maxHeartbeats 16000000
set_option maxRecDepth 100000
namespace Go.Proofs.YtddkjkockbcamaaGreatDoor
open Go.RowKit
def Bk.MD (l:List UInt8):Bk.Tree:=Bk.XS (Bk.run (Bk.bh l)).ns 0
end Go.Proofs.YtddkjkockbcamaaGreatDoor

set_option maxHeartbeats 16000000
set_option maxRecDepth 100000
namespace Go.Proofs.YtddkjkockbcamaaGreatDoor
namespace Bk
end Bk
end Go.Proofs.YtddkjkockbcamaaGreatDoor

set_option maxHeartbeats 16000000
set_option maxRecDepth 100000
namespace Go.Proofs.YtddkjkockbcamaaGreatDoor
open Go.RowKit
attribute [local go_sem] aD av aq
mutual
def Bk.tx (N:Nat):Bk.Tree→Prop
 | .mk _ _ t _ _ ks=>t.length≤N∧Bk.txs N ks
def Bk.txs (N:Nat):List Bk.Tree→Prop
 | []=>True
 | x::r=>Bk.tx N x∧Bk.txs N r
end
def Hm.page (l:List UInt8):List UInt8:=Hm.blk (Hm.k9 (Bk.MD l))
end Go.Proofs.YtddkjkockbcamaaGreatDoor

set_option maxHeartbeats 16000000
set_option maxRecDepth 100000
namespace Go.Proofs.YtddkjkockbcamaaGreatDoor.Pg
open Go.Lib
structure St where
 t:List UInt8
 read:Nat
 full:Bool
def start:St:=⟨[],0,false⟩
def takes (n deep:Nat) (s:St):St:=⟨s.t,s.read+(1+n),((s.full || decide (65536<deep)) || decide (2147483647<s.read+(1+n))) || decide (2147483647<s.t.length)⟩
def put (l:List UInt8) (s:St):St:=⟨s.t++l,s.read,s.full⟩
def own:Hm.Hi→Nat
 | .mk _ t d _=>t.length+d.length
mutual
def inl:Hm.Hi→Nat→St→St
 | .mk k t d ks,deep,s =>
  if k=0 then put (Es.page t) s
  else if k=1 then put (Hm.shut Hm.dB) (put (Es.page t) (put (Hm.tag Hm.dB) s))
  else if k=2 then put (Hm.shut Hm.C5) (b9 ks (deep+1) (put (Hm.tag Hm.C5) s))
  else if k=3 then put (Hm.shut Hm.cS) (b9 ks (deep+1) (put (Hm.tag Hm.cS) s))
  else if k=4 then put (Hm.shut [97]) (b9 ks (deep+1) (put (Hm.anchor d) s))
  else if k=5 then put [10] s
  else s
def b9:List Hm.Hi→Nat→St→St
 | [],_,s=>s
 | x::r,deep,s=>if (takes (own x) deep s).full=true then takes (own x) deep s else b9 r deep (inl x deep (takes (own x) deep s))
end
mutual
theorem wv:∀ (x:Hm.Hi) (deep:Nat) (s:St),∃ P,(inl x deep s).t=s.t++P∧P.length≤(Hm.inl x).length∧(inl x deep s).read+(1+own x)≤s.read+Hm.im x∧∀ r st,Hm.jx (P++r) st=Hm.jx r st
 | .mk k t d ks,deep,s=>by
  have hp:∀ b∈Es.page t,b≠60:=fun b hb=>(Es.wD t b hb).1;unfold inl Hm.inl;simp only [own,Hm.im]
  by_cases h0:k=0
  ·rw [if_pos h0,if_pos h0]
   exact ⟨Es.page t,rfl,Nat.le_refl _,by simp only [put]; omega,fun r st=>Hm.cy _ _ _ hp⟩
  rw [if_neg h0,if_neg h0]
  by_cases h1:k=1
  ·rw [if_pos h1,if_pos h1]
   refine ⟨Hm.tag Hm.dB++Es.page t++Hm.shut Hm.dB,by simp only [put,List.append_assoc],Nat.le_refl _,by simp only [put]; omega,fun r st=>?_⟩;rw [List.append_assoc,List.append_assoc,Hm.eV Hm.Bo,Hm.cy _ _ _ hp,Hm.eA Hm.Bo]
  rw [if_neg h1,if_neg h1]
  by_cases h2:k=2
  ·rw [if_pos h2,if_pos h2]
   obtain ⟨P,e1,e2,e3,e4⟩:=dV ks (deep+1) (put (Hm.tag Hm.C5) s);refine ⟨Hm.tag Hm.C5++P++Hm.shut Hm.C5,?_,?_,?_,fun r st=>?_⟩
   ·simp only [put] at e1 ⊢; rw [e1]; simp only [List.append_assoc]
   ·simp only [List.length_append]; omega
   ·simp only [put] at e3 ⊢; omega
   ·rw [List.append_assoc,List.append_assoc,Hm.eV Hm.X7,e4,Hm.eA Hm.X7]
  rw [if_neg h2,if_neg h2]
  by_cases h3:k=3
  ·rw [if_pos h3,if_pos h3]
   obtain ⟨P,e1,e2,e3,e4⟩:=dV ks (deep+1) (put (Hm.tag Hm.cS) s);refine ⟨Hm.tag Hm.cS++P++Hm.shut Hm.cS,?_,?_,?_,fun r st=>?_⟩
   ·simp only [put] at e1 ⊢; rw [e1]; simp only [List.append_assoc]
   ·simp only [List.length_append]; omega
   ·simp only [put] at e3 ⊢; omega
   ·rw [List.append_assoc,List.append_assoc,Hm.eV Hm.CO,e4,Hm.eA Hm.CO]
  rw [if_neg h3,if_neg h3]
  by_cases h4:k=4
  ·rw [if_pos h4,if_pos h4]
   obtain ⟨P,e1,e2,e3,e4⟩:=dV ks (deep+1) (put (Hm.anchor d) s);refine ⟨Hm.anchor d++P++Hm.shut [97],?_,?_,?_,fun r st=>?_⟩
   ·simp only [put] at e1 ⊢; rw [e1]; simp only [List.append_assoc]
   ·simp only [List.length_append]; omega
   ·simp only [put] at e3 ⊢; omega
   ·rw [List.append_assoc,List.append_assoc,Hm.Ft,e4,Hm.eA Hm.nmA]
  rw [if_neg h4,if_neg h4]
  by_cases h5:k=5
  ·rw [if_pos h5,if_pos h5]
   exact ⟨[10],rfl,Nat.le_refl _,by simp only [put]; omega,fun r st=>Hm.cy _ _ _ (by decide)⟩
  rw [if_neg h5,if_neg h5];exact ⟨[],by simp,by simp,by omega,fun r st=>rfl⟩
theorem dV:∀ (l:List Hm.Hi) (deep:Nat) (s:St),∃ P,(b9 l deep s).t=s.t++P∧P.length≤(Hm.b9 l).length∧(b9 l deep s).read≤s.read+Hm.F8 l∧∀ r st,Hm.jx (P++r) st=Hm.jx r st
 | [],_,s=>⟨[],by simp [b9],by simp,by simp [b9],fun r st=>rfl⟩
 | x::l,deep,s=>by
  unfold b9;simp only [Hm.b9,Hm.F8,List.length_append];have hx:1+own x≤Hm.im x:=by obtain ⟨k,t,d,ks⟩:=x; simp only [own,Hm.im]; omega
  split
  ·refine ⟨[],by simp [takes],by simp,by simp only [takes]; omega,fun r st=>rfl⟩
  ·obtain ⟨P,e1,e2,e3,e4⟩:=wv x deep (takes (own x) deep s)
   obtain ⟨P2,f1,f2,f3,f4⟩:=dV l deep (inl x deep (takes (own x) deep s));refine ⟨P++P2,?_,?_,?_,fun r st=>?_⟩
   ·rw [f1,e1]; simp [takes]
   ·rw [List.length_append]; omega
   ·simp only [takes] at e3 f3; simp only [takes]; omega
   ·rw [List.append_assoc,e4,f4]
end
mutual
def F9:Hm.Hi→Nat
 | .mk _ _ _ ks=>zO ks+1
def zO:List Hm.Hi→Nat
 | []=>0
 | x::r=>max (F9 x) (zO r)
end
theorem Dl {n deep:Nat} {s:St} (h1:s.full=false) (h2:deep≤65536) (h3:s.read+(1+n)≤2147483647) (h4:s.t.length≤2147483647):takes n deep s=⟨s.t,s.read+(1+n),false⟩:=by
 unfold takes;rw [h1,decide_eq_false (by omega:¬ 65536<deep),decide_eq_false (by omega:¬ 2147483647<s.read+(1+n)),decide_eq_false (by omega:¬ 2147483647<s.t.length)]
 rfl
mutual
theorem R6:∀ (x:Hm.Hi) (deep:Nat) (s:St),s.full=false→deep+F9 x≤65537→s.read+Hm.im x≤2147483647+(1+own x)→s.t.length+(Hm.inl x).length≤2147483647→(inl x deep s).full=false∧(inl x deep s).t=s.t++Hm.inl x
 | .mk k t d ks,deep,s,hf,hd,hr,hl=>by
  simp only [F9] at hd;simp only [own,Hm.im] at hr;unfold Hm.inl at hl;unfold inl Hm.inl
  by_cases h0:k=0
  ·rw [if_pos h0,if_pos h0]; exact ⟨hf,rfl⟩
  rw [if_neg h0] at hl;rw [if_neg h0,if_neg h0]
  by_cases h1:k=1
  ·rw [if_pos h1,if_pos h1]; exact ⟨hf,by simp only [put,List.append_assoc]⟩
  rw [if_neg h1] at hl;rw [if_neg h1,if_neg h1]
  by_cases h2:k=2
  ·rw [if_pos h2] at hl
   rw [if_pos h2,if_pos h2];simp only [List.length_append] at hl;obtain ⟨e1,e2⟩:=nu ks (deep+1) (put (Hm.tag Hm.C5) s) hf (by omega) (by simp only [put]; omega) (by simp only [put,List.length_append]; omega);exact ⟨e1,by simp only [put] at e2 ⊢; rw [e2]; simp only [List.append_assoc]⟩
  rw [if_neg h2] at hl;rw [if_neg h2,if_neg h2]
  by_cases h3:k=3
  ·rw [if_pos h3] at hl
   rw [if_pos h3,if_pos h3];simp only [List.length_append] at hl;obtain ⟨e1,e2⟩:=nu ks (deep+1) (put (Hm.tag Hm.cS) s) hf (by omega) (by simp only [put]; omega) (by simp only [put,List.length_append]; omega);exact ⟨e1,by simp only [put] at e2 ⊢; rw [e2]; simp only [List.append_assoc]⟩
  rw [if_neg h3] at hl;rw [if_neg h3,if_neg h3]
  by_cases h4:k=4
  ·rw [if_pos h4] at hl
   rw [if_pos h4,if_pos h4];simp only [List.length_append] at hl;obtain ⟨e1,e2⟩:=nu ks (deep+1) (put (Hm.anchor d) s) hf (by omega) (by simp only [put]; omega) (by simp only [put,List.length_append]; omega);exact ⟨e1,by simp only [put] at e2 ⊢; rw [e2]; simp only [List.append_assoc]⟩
  rw [if_neg h4,if_neg h4]
  by_cases h5:k=5
  ·rw [if_pos h5,if_pos h5]; exact ⟨hf,rfl⟩
  rw [if_neg h5,if_neg h5]; exact ⟨hf,by simp⟩
theorem nu:∀ (l:List Hm.Hi) (deep:Nat) (s:St),s.full=false→deep+zO l≤65537→s.read+Hm.F8 l≤2147483647→s.t.length+(Hm.b9 l).length≤2147483647→(b9 l deep s).full=false∧(b9 l deep s).t=s.t++Hm.b9 l
 | [],_,s,hf,_,_,_=>by simp [b9,Hm.b9,hf]
 | x::l,deep,s,hf,hd,hr,hl=>by
  have hx:1+own x≤Hm.im x:=by obtain ⟨k,t,d,ks⟩:=x; simp only [own,Hm.im]; omega
  have hx1:1≤F9 x:=by obtain ⟨k,t,d,ks⟩:=x; simp only [F9]; omega
  simp only [zO] at hd;simp only [Hm.F8] at hr;simp only [Hm.b9,List.length_append] at hl;have ht:=Dl (n:=own x) hf (deep:=deep) (by omega) (by omega) (by omega);unfold b9;rw [ht,if_neg (by simp)];obtain ⟨e1,e2⟩:=R6 x deep ⟨s.t,s.read+(1+own x),false⟩ rfl (by omega) (by simp only; omega) (by simp only; omega);obtain ⟨P,g1,g2,g3,_⟩:=wv x deep ⟨s.t,s.read+(1+own x),false⟩;simp only at e2 g3;obtain ⟨f1,f2⟩:=nu l deep _ e1 (by omega) (by omega) (by rw [e2,List.length_append]; omega);refine ⟨f1,?_⟩;rw [f2,e2]; simp only [Hm.b9,List.append_assoc]
end
mutual
theorem RP:∀ x:Il.In,F9 (Hm.wN x)=Il.dep x
 | .mk _ _ _ ks=>by simp only [Hm.wN,F9,Il.dep]; rw [vM ks]
theorem vM:∀ l:List Il.In,zO (Hm.ey l)=Il.deps l
 | []=>rfl
 | x::r=>by simp only [Hm.ey,zO,Il.deps]; rw [RP x,vM r]
end
mutual
theorem WR:∀ x:Il.In,Hm.im (Hm.wN x)=Il.ir x
 | .mk _ _ _ ks=>by simp only [Hm.wN,Hm.im,Il.ir]; rw [AZ ks]
theorem AZ:∀ l:List Il.In,Hm.F8 (Hm.ey l)=Il.bt l
 | []=>rfl
 | x::r=>by simp only [Hm.ey,Hm.F8,Il.bt]; rw [WR x,AZ r]
end
def para (t:List UInt8):List UInt8:=(b9 (Hm.ey (Il.parse t)) 1 start).t
theorem Ed (t r:List UInt8) (st:List (List UInt8)):Hm.jx (para t++r) st=Hm.jx r st:=by
 obtain ⟨P,e1,_,_,e4⟩:=dV (Hm.ey (Il.parse t)) 1 start;unfold para;rw [e1];exact e4 r st
theorem Cb {t:List UInt8} (h:t.length≤4000000):(para t).length≤210*t.length:=by
 obtain ⟨P,e1,e2,_,_⟩:=dV (Hm.ey (Il.parse t)) 1 start;have h2:=Hm.sL h;unfold para;unfold Hm.para at h2;rw [e1];simp only [start,List.nil_append];omega
theorem Qz {t:List UInt8} (h:t.length≤65535):para t=Hm.para t:=by
 have h1:=Il.oX (s:=t) (by omega);have h2:=Hm.sL (t:=t) (by omega);unfold Hm.para at h2;have h3:=nu (Hm.ey (Il.parse t)) 1 start rfl (by rw [vM]; omega) (by rw [AZ]; simp only [start]; omega) (by simp only [start,List.length_nil]; omega);unfold para Hm.para;rw [h3.2]; simp only [start,List.nil_append]
mutual
def blk:Hm.Hb→List UInt8
 | .mk k lv t _ _ ks =>
  if k=0 then bG ks
  else if k=1 then Hm.tag Hm.fB++[10]++bG ks++Hm.shut Hm.fB++[10]
  else if k=2 then Hm.tag Hm.E6++[10]++bG ks++Hm.shut Hm.E6++[10]
  else if k=3 then Hm.tag Hm.GF++[10]++bG ks++Hm.shut Hm.GF++[10]
  else if k=4 then Hm.tag Hm.nP++para t++Hm.shut Hm.nP++[10]
  else if k=5 then Hm.tag (Hm.nH lv)++para t++Hm.shut (Hm.nH lv)++[10]
  else if k=6 then [60,104,114,32,47,62,10]
  else if k=7 then Hm.tag Hm.JZ++Hm.tag Hm.dB++Es.page t++Hm.shut Hm.dB++Hm.shut Hm.JZ++[10]
  else []
def bG:List Hm.Hb→List UInt8
 | []=>[]
 | x::r=>blk x++bG r
end
theorem nG:∀ a b,bG (a++b)=bG a++bG b
 | [],b=>by simp [bG]
 | x::r,b=>by rw [List.cons_append]; simp only [bG]; rw [nG r b,List.append_assoc]
theorem J4 (a:List Hm.Hb) (x:Hm.Hb):bG (a++[x])=bG a++blk x:=by rw [nG]; simp [bG]
theorem zw {l:List Hm.Hb} {k:Nat} (h:k<l.length):bG (l.take (k+1))=bG (l.take k)++blk l[k]:=by rw [List.take_succ_eq_append_getElem h,J4]
theorem Lz (l:List Hm.Hb) (k:Nat):(bG (l.take k)).length≤(bG l).length:=by
 conv=>rhs; rw [← List.take_append_drop k l,nG,List.length_append]
 omega
theorem PY {l:List Hm.Hb} {k:Nat} (h:k<l.length):(blk l[k]).length+(bG (l.take k)).length≤(bG l).length:=by
 have:=Lz l (k+1);rw [zw h,List.length_append] at this;omega
mutual
theorem IB:∀ (x:Hm.Hb) (r:List UInt8) (st:List (List UInt8)),Hm.jx (blk x++r) st=Hm.jx r st
 | .mk k lv t inf ln ks,r,st=>by
  have hp:∀ b∈Es.page t,b≠60:=fun b hb=>(Es.wD t b hb).1;have hn:∀ b∈([10]:List UInt8),b≠60:=by decide
  unfold blk
  by_cases h0:k=0
  ·rw [if_pos h0,mN ks]
  rw [if_neg h0]
  by_cases h1:k=1
  ·rw [if_pos h1]; simp only [List.append_assoc]; rw [Hm.eV Hm.Im,Hm.cy _ _ _ hn,mN ks,Hm.eA Hm.Im,Hm.cy _ _ _ hn]
  rw [if_neg h1]
  by_cases h2:k=2
  ·rw [if_pos h2]; simp only [List.append_assoc]; rw [Hm.eV Hm.Yd,Hm.cy _ _ _ hn,mN ks,Hm.eA Hm.Yd,Hm.cy _ _ _ hn]
  rw [if_neg h2]
  by_cases h3:k=3
  ·rw [if_pos h3]; simp only [List.append_assoc]; rw [Hm.eV Hm.WL,Hm.cy _ _ _ hn,mN ks,Hm.eA Hm.WL,Hm.cy _ _ _ hn]
  rw [if_neg h3]
  by_cases h4:k=4
  ·rw [if_pos h4]; simp only [List.append_assoc]; rw [Hm.eV Hm.nmP,Ed,Hm.eA Hm.nmP,Hm.cy _ _ _ hn]
  rw [if_neg h4]
  by_cases h5:k=5
  ·rw [if_pos h5]; simp only [List.append_assoc]; rw [Hm.eV (Hm.nmH lv),Ed,Hm.eA (Hm.nmH lv),Hm.cy _ _ _ hn]
  rw [if_neg h5]
  by_cases h6:k=6
  ·rw [if_pos h6]
   show Hm.jx (60::([104,114,32,47]++62::(10::r))) st=_;rw [Hm.ql (Hm.kM [104,114,32,47] (10::r) (by decide))];show Hm.jx (10::r) st=_;exact Hm.yq (by decide) r st
  rw [if_neg h6]
  by_cases h7:k=7
  ·rw [if_pos h7]; simp only [List.append_assoc]; rw [Hm.eV Hm.Tx,Hm.eV Hm.Bo,Hm.cy _ _ _ hp,Hm.eA Hm.Bo,Hm.eA Hm.Tx,Hm.cy _ _ _ hn]
  rw [if_neg h7]; rfl
theorem mN:∀ (l:List Hm.Hb) (r:List UInt8) (st:List (List UInt8)),Hm.jx (bG l++r) st=Hm.jx r st
 | [],_,_=>by simp [bG]
 | x::l,r,st=>by
  simp only [bG];rw [List.append_assoc,IB x,mN l]
end
theorem CP (x:Hm.Hb):Hm.jx (blk x) []=true:=by
 have:=IB x [] [];rw [List.append_nil] at this;rw [this]; rfl
inductive kS (N:Nat):Hm.Hb→Prop where
 | mk {k lv:Int} {t inf:List UInt8} {ln:Int} {ks:List Hm.Hb}:t.length≤N→(∀ x∈ks,kS N x)→kS N (.mk k lv t inf ln ks)
mutual
def ou:Hm.Hb→Nat
 | .mk _ _ _ _ _ ks=>oL ks+1
def oL:List Hm.Hb→Nat
 | []=>0
 | x::r=>max (ou x) (oL r)
end
def QM:Hm.Hb→Nat
 | .mk _ _ t _ _ _=>t.length
mutual
def bn:Hm.Hb→Nat
 | .mk _ _ t _ _ ks=>t.length+1+pX ks
def pX:List Hm.Hb→Nat
 | []=>0
 | x::r=>bn x+pX r
end
def page (l:List UInt8):List UInt8:=blk (Hm.k9 (Bk.MD l))
end Go.Proofs.YtddkjkockbcamaaGreatDoor.Pg

set_option maxHeartbeats 16000000
set_option maxRecDepth 100000
namespace Go.Proofs.YtddkjkockbcamaaGreatDoor
open Go.RowKit
def Nr (B b:Nat) (p:Value) (l:List UInt8) (rd:Nat) (fu:Bool) (w:World):Prop :=
 B≤b∧∃ v,w.heap[b]?=some (.cells #[p,v,.int .i64 (rd:Int),.int .i64 2147483647,.bool fu] 56 (0,0))∧w.ownsRow B 5 1 v l.length (aj l)
def Tr (B b:Nat) (l:List UInt8) (rd:Nat) (fu:Bool) (w:World):Prop:=Nr B b (.pointer none) l rd fu w∨Nr B b (.pointer (some ⟨b,0,none⟩)) l rd fu w
def eK (B b:Nat) (s:Pg.St) (w:World):Prop:=Tr B b s.t s.read s.full w
theorem sV {w:World} {B size n g:Nat} {E:TypeId} {v:Value} {xs:List Value} (h:w.ownsRow B E size v n xs) (hv:v.ownBlock=some g):∃ cur fr,w.heap[g]?=some (.cells cur E fr):=by
 rcases h.2 with ⟨rfl,_⟩ | ⟨g',cap,cur,rfl,_,hg,_⟩
 ·cases hv
 ·simp [Value.ownBlock] at hv
  subst hv;exact ⟨_,_,hg⟩
section
variable {w w':World} {B b rd:Nat} {fu:Bool} {p:Value} {l:List UInt8}
theorem qL {v:Value} {xs:List Value} {n:Nat} {cs:Array Value} (hb:w.heap[b]?=some (.cells cs 56 (0,0))) (h:w.ownsRow B 5 1 v n xs):v.ownBlock≠some b:=fun e=>by
 obtain ⟨cur,fr,hg⟩:=sV h e;rw [hb] at hg;injection hg with hg;injection hg with _ hg _;exact absurd hg (by decide)
theorem Uj:liesAt Tryz.prog Tryz.prog.depth 56 (5 / Tryz.prog.cellsOf 56) 0 54 1=true:=by kernel_rfl
theorem Og (b:Nat) (w:World) (h0:w.cell? ⟨b,0,none⟩=some (.pointer none)) (hsh:w.shape? b=some (56,5)) (hfz:w.frozen? ⟨b,0,none⟩=false) :
  Calls Tryz.prog 125 #[.pointer (some ⟨b,0,none⟩)] w fun e w'=>e=.returned (.tuple #[])∧w'=w.setCell ⟨b,0,none⟩ (.pointer (some ⟨b,0,none⟩)):=by
 obtain ⟨j,hj,hjs⟩:=Option.map_eq_some_iff.1 AN;go_enter Tryz.func125,Tryz.ntmps125;go_wp2;rw [Lib.run_to_unsafe w ⟨b,0,none⟩ Tryz.underlying52 Tryz.underlying209 hj (by rw [hjs]; decide) hsh (Nat.zero_lt_succ 4)];simp only [Result.andThen];rw [Oper.upon_value];go_wp2;rw [run_callFunc_extern Tryz.func168 (by kernel_rfl) (by kernel_rfl) (by kernel_rfl) (e:=Extern.AbiNoEscape.same) (by kernel_rfl)];rw [Lib.run_noEscape];simp only [Result.andThen];rw [Oper.upon_value];go_wp2;rw [Lib.run_from_unsafe w ⟨b,0,none⟩ Tryz.underlying209 Tryz.underlying52 hj hsh Uj];simp only [Result.andThen];rw [Oper.upon_value];go_wp2;go_end0;exact ⟨rfl,rfl⟩
theorem NI (h:Tr B b l rd fu w) :
  Calls Tryz.prog 125 #[.pointer (some ⟨b,0,none⟩)] w fun e w'=>e=.returned (.tuple #[])∧(Nr B b (.pointer (some ⟨b,0,none⟩)) l rd fu w'∧Below B w w'∧Lib.OthersKept 5 (some b) w w'):=by
 rcases h with ⟨hB,v,hb,ho⟩ | h
 ·refine (Og b w (ah hb 0) (by simp [World.shape?,hb]) (aW hb 0)).mono ?_
  rintro e w' ⟨rfl,rfl⟩;exact ⟨rfl,⟨hB,v,heap_setCell_same w b 0 _ _ _ hb,World.ownsRow.kept ho (ax w ⟨b,0,none⟩ _) (.inr (qL hb ho))⟩,(Below.refl B w).setCell (p:=⟨b,0,none⟩) hB _,(Lib.OthersKept.refl _ _ w).setCell ⟨b,0,none⟩ rfl _⟩
 ·have hc:w.cell? ⟨b,0,none⟩=some (.pointer (some ⟨b,0,none⟩)):=by obtain ⟨_,v,hb,_⟩:=h; exact ah hb 0
  refine (uZ b w hc).mono ?_;rintro e w' ⟨rfl,rfl⟩;exact ⟨rfl,h,Below.refl B _,Lib.OthersKept.refl _ _ _⟩
theorem We {v v':Value} {l':List UInt8} (hB:B≤b) (hb:w.heap[b]?=some (.cells #[p,v,.int .i64 (rd:Int),.int .i64 2147483647,.bool fu] 56 (0,0))) (ho:w.ownsRow B 5 1 v' l'.length (aj l')):Nr B b p l' rd fu (w.setCell ⟨b,1,none⟩ v') :=
 ⟨hB,v',heap_setCell_same w b 1 #[p,v,.int .i64 (rd:Int),.int .i64 2147483647,.bool fu] _ v' hb,World.ownsRow.kept ho (ax w ⟨b,1,none⟩ _) (.inr (qL hb ho))⟩
theorem UT (h:Tr B b l rd fu w) (t:List UInt8) (hlen:l.length+t.length≤1000000000000) (hBw:B≤w.heap.size) :
  Calls Tryz.prog 98 #[.pointer (some ⟨b,0,none⟩),.string (bs t)] w fun e w'=>(∃ v,e=.returned v)∧(Tr B b (l++t) rd fu w'∧Below B w w'∧Lib.OthersKept 5 (some b) w w'):=by
 have hsz:=au t;go_enter Tryz.func98,Tryz.ntmps98;go_wp2_with (go_at_call 125; refine (NI h).mono ?_);rintro e w1 ⟨rfl,h1,hb1,pT⟩;obtain ⟨hB,v,hbk,hown⟩:=h1;have c0:w1.cell? ⟨b,0,none⟩=some (.pointer (some ⟨b,0,none⟩)):=ah hbk 0;have c1:w1.cell? ⟨b,1,none⟩=some v:=ah hbk 1;have hne:=qL hbk hown;have hB1:=Nat.le_trans hBw hb1.size;have hlt:b<w1.heap.size:=(Array.getElem?_eq_some_iff.1 hbk).1;go_wp2_with (at_builtin; refine iH rfl _ _ rfl lF (by kernel_rfl) Tryz.underlying9 rfl hown rfl (by omega) hB1 ?_);intro v' w2 ho hg jD;have hb2:=(hg.out.block b hlt (fun e=>hne e.symm)).trans hbk;have d0:w2.cell? ⟨b,0,none⟩=some (.pointer (some ⟨b,0,none⟩)):=ah hb2 0;have d1:w2.cell? ⟨b,1,none⟩=some v:=ah hb2 1;have f1:w2.frozen? ⟨b,1,none⟩=false:=aW hb2 1;obtain ⟨A',cp,rfl,T0⟩:=ak ho;have hgr:=Lib.hid hg.out;have aL:=We (l':=l++t) hB hb2 (by rw [List.length_append]; exact ho);replace aL:=Lib.hid aL;have hown':=Lib.hid hown;clear ho hg hown;go_wp2;go_ret2;exact ⟨⟨_,rfl⟩,Or.inr aL.out,(hb1.trans jD).setCell (p:=⟨b,1,none⟩) hB _,(pT.grown hgr.out (Lib.ownsRowF_kind (World.ownsRowF_of hown'.out))).setCell ⟨b,1,none⟩ rfl _⟩
end
theorem Ia {B b g0:Nat} {w:World} (p:Value) (r1 r2 r3:Value) (A:Option Addr) (c:Nat) (hBw:B≤w.heap.size) (hbk:w.heap[b]?=some (.cells #[p,.slice A 0 c,r1,r2,r3] 56 (0,0))) (hA:A=none∧c=0∨∃ g cur,A=some ⟨g,0,none⟩∧w.heap[g]?=some (.cells cur 5 (0,0))) (_:g0=0) :
  Calls Tryz.prog 27 #[.pointer (some ⟨b,0,none⟩)] w fun e w'=>e=.returned (.string ⟨#[]⟩)∧Below B w w':=by
 have mixed:Tryz.prog.follows .mixedOrders=true:=by kernel_rfl
 have hUS:=fun (W:World) (q:Option Addr)=>Lib.run_unsafeString_none (P:=Tryz.prog) W 90 3 9 q;have hlt:b<w.heap.size:=(Array.getElem?_eq_some_iff.1 hbk).1;have c1:w.drew.cell? ⟨b,1,none⟩=some (.slice A 0 c):=ah (w1:=w.drew) hbk 1;rcases hA with ⟨rfl,rfl⟩ | ⟨g,cur,rfl,hg⟩
 ·have Zm:(Builtin.unsafeSliceData_ #[27] 90 #[.slice none 0 0]).run Tryz.prog w.drew=.ok (.pointer none) w.drew:=rfl
  go_enter Tryz.func27,Tryz.ntmps27;go_wp2
  go_region_o
  all_goals (go_wp2; go_ret; exact ⟨rfl,Below.drew (Below.refl B w)⟩)
 ·by_cases hc0:c=0
  ·subst hc0
   have Zm:(Builtin.unsafeSliceData_ #[27] 90 #[.slice (some ⟨g,0,none⟩) 0 0]).run Tryz.prog w.drew=.ok (.pointer (some ⟨w.drew.heap.size,0,none⟩)) (w.drew.alloc (.view ⟨g,0,none⟩ 5)) :=
    Lib.run_unsafeSliceData_zero w.drew _ _ 5 Tryz.underlying90 ⟨g,0,none⟩ 0 (5,cur.size) (by have hg':w.drew.heap[g]?=some (.cells cur 5 (0,0)):=hg; simp [World.shape?,hg'])
   have c2:(w.drew.alloc (.view ⟨g,0,none⟩ 5)).cell? ⟨b,1,none⟩=some (.slice (some ⟨g,0,none⟩) 0 0):=by
    have:(w.drew.alloc (.view ⟨g,0,none⟩ 5)).heap[b]?=_:=(Lib.alloc_old w.drew _ b hlt).trans hbk;exact ah this 1
   have c3:(w.alloc (.view ⟨g,0,none⟩ 5)).drew.cell? ⟨b,1,none⟩=some (.slice (some ⟨g,0,none⟩) 0 0):=c2;have c0:w.cell? ⟨b,1,none⟩=some (.slice (some ⟨g,0,none⟩) 0 0):=c1;go_enter Tryz.func27,Tryz.ntmps27;go_wp2
   go_region_o
   all_goals (go_wp2; go_ret; exact ⟨rfl,(Below.drew (Below.refl B w)).alloc hBw _⟩)
  ·have Zm:(Builtin.unsafeSliceData_ #[27] 90 #[.slice (some ⟨g,0,none⟩) 0 c]).run Tryz.prog w.drew=.ok (.pointer (some ⟨g,0,none⟩)) w.drew :=
    Lib.run_unsafeSliceData_row _ _ _ _ _ _ hc0
   clear hc0;go_enter Tryz.func27,Tryz.ntmps27;go_wp2
   go_region_o
   all_goals (go_wp2; go_ret; exact ⟨rfl,Below.drew (Below.refl B w)⟩)
theorem Re {B b:Nat} {w:World} {p r1 r2 r3:Value} {l:List UInt8} {g cap:Nat} (_:B≤b) (h0:l≠[]) (hbk:w.heap[b]?=some (.cells #[p,.slice (some ⟨g,0,none⟩) l.length cap,r1,r2,r3] 56 (0,0))) (hown:w.ownsRow B 5 1 (.slice (some ⟨g,0,none⟩) l.length cap) l.length (aj l)) (hlen:l.length≤1000000000000) :
  Calls Tryz.prog 27 #[.pointer (some ⟨b,0,none⟩)] w fun e w'=>e=.returned (.string (bs l))∧Below B w w':=by
 have hl0:l.length≠0:=by simpa using h0
 obtain ⟨hBg,Fb⟩:=World.ownsRow.lt hown g rfl;obtain ⟨cur,fr,hg⟩:=sV hown rfl;have hcap:l.length≤cap∧l.length≤cur.size:=by
  rcases hown.2 with ⟨e,_⟩ | ⟨g',cap',cur',e,_,hg',h3,h4,h5,h6⟩
  ·cases e
  ·injection e with e1 e2 e3
   injection e1 with e1;injection e1 with e1;subst e1 e3;rw [hg] at hg';injection hg' with hg';injection hg' with hg' _ _;subst hg';omega
 have c1:w.drew.cell? ⟨b,1,none⟩=some (.slice (some ⟨g,0,none⟩) l.length cap):=ah (w1:=w.drew) hbk 1;have Zm:(Builtin.unsafeSliceData_ #[27] 90 #[.slice (some ⟨g,0,none⟩) l.length cap]).run Tryz.prog w.drew=.ok (.pointer (some ⟨g,0,none⟩)) w.drew :=
  Lib.run_unsafeSliceData_row _ _ _ _ _ _ (by omega)
 have hUS:(Builtin.unsafeString_ #[90,3] 9 #[.pointer (some ⟨g,0,none⟩),.int .i64 l.length]).run Tryz.prog w.drew=.ok (.string (bs l)) (w.drew.freeze ⟨g,0,none⟩ l.length):=by
  refine Lib.run_unsafeString_row w.drew 90 3 9 5 Tryz.underlying90 (by kernel_rfl) g cur.size (by have hg':w.drew.heap[g]?=some (.cells cur 5 fr):=hg; simp [World.shape?,hg']) l h0 hcap.2 (by omega) ?_;intro j x hx;exact World.ownsRow.cells hown (g:=g) rfl j (.int .u8 x.toNat) (by simp [aj,bv,hx])
 have mixed:Tryz.prog.follows .mixedOrders=true:=by kernel_rfl
 clear hl0 hcap;go_enter Tryz.func27,Tryz.ntmps27;go_wp2
 go_region_o
 all_goals (go_wp2; go_ret; exact ⟨rfl,Lib.below_freeze (Below.drew (Below.refl B w)) (p:=⟨g,0,none⟩) hBg _⟩)
theorem yl {B b rd:Nat} {fu:Bool} {l:List UInt8} {w:World} (h:Tr B b l rd fu w) (hlen:l.length≤1000000000000) (hBw:B≤w.heap.size) :
  Calls Tryz.prog 27 #[.pointer (some ⟨b,0,none⟩)] w fun e w'=>e=.returned (.string (bs l))∧Below B w w':=by
 obtain ⟨p,hB,v,hbk,hown⟩:∃ p,Nr B b p l rd fu w:=by rcases h with h | h<;>exact ⟨_,h⟩
 by_cases h0:l=[]
 ·subst h0
  have ho:=hown;rcases hown.2 with ⟨rfl,_⟩ | ⟨g,cap,cur,rfl,_,hg,_⟩
  ·exact Ia (g0:=0) p _ _ _ none 0 hBw hbk (.inl ⟨rfl,rfl⟩) rfl
  ·exact Ia (g0:=0) p _ _ _ (some ⟨g,0,none⟩) cap hBw hbk (.inr ⟨g,cur,rfl,hg⟩) rfl
 ·obtain ⟨g,cp,rfl,_,_,_⟩:=gu hown (List.length_pos_iff.2 h0)
  exact Re hB h0 hbk hown hlen
end Go.Proofs.YtddkjkockbcamaaGreatDoor

set_option maxHeartbeats 16000000
set_option maxRecDepth 100000
namespace Go.Proofs.YtddkjkockbcamaaGreatDoor
open Go.RowKit
attribute [local go_sem] aD av aq
theorem lz {B b rd:Nat} {fu:Bool} {l:List UInt8} {w:World} (h:Tr B b l rd fu w):∃ p v,(p=.pointer none∨p=.pointer (some ⟨b,0,none⟩))∧B≤b∧w.heap[b]?=some (.cells #[p,v,.int .i64 (rd:Int),.int .i64 2147483647,.bool fu] 56 (0,0))∧w.ownsRow B 5 1 v l.length (aj l):=by
 rcases h with ⟨hB,v,hb,ho⟩ | ⟨hB,v,hb,ho⟩
 ·exact ⟨_,v,.inl rfl,hB,hb,ho⟩
 ·exact ⟨_,v,.inr rfl,hB,hb,ho⟩
theorem tG {B b rd:Nat} {fu:Bool} {l:List UInt8} {w:World} {p v:Value} (hp:p=.pointer none∨p=.pointer (some ⟨b,0,none⟩)) (hB:B≤b) (hb:w.heap[b]?=some (.cells #[p,v,.int .i64 (rd:Int),.int .i64 2147483647,.bool fu] 56 (0,0))) (ho:w.ownsRow B 5 1 v l.length (aj l)):Tr B b l rd fu w:=by
 rcases hp with rfl | rfl
 ·exact .inl ⟨hB,v,hb,ho⟩
 ·exact .inr ⟨hB,v,hb,ho⟩
theorem eJ (w:World) (a:Addr) (k:Nat) (u:Value) (h:k≠a.block):(w.setCell a u).heap[k]?=w.heap[k]?:=Below.heap_setCell w a u k h
def XD (b:Nat) (p:Value) (A:Option Addr) (n c rd:Nat) (u:World):Prop:=∃ y:Bool,u.heap[b]?=some (.cells #[p,.slice A n c,.int .i64 (rd:Int),.int .i64 2147483647,.bool y] 56 (0,0))
theorem kG {P:Program} {ev:Operand→Value} {T:TypeId} {p x:Operand} {o:Oper} {w:World} {g off:Nat} {y:Bool} {z0:Value} (ho:o.op=.store T p x) (hsz:(sizeOf T).run P w=.ok 1 w) (hp:ev p=.pointer (some ⟨g,off,none⟩)) (hx:ev x=.bool y)
  (h0:w.cell? ⟨g,off,none⟩=some z0) (hf:∀ j,w.frozen? ⟨g,j,none⟩=false) :
  (execOp ev o).run P w=.ok .skip (w.setCell ⟨g,off,none⟩ (.bool y)):=by
 unfold execOp;rw [ho];go_simp
theorem Vg {B b rd:Nat} {fu:Bool} {l:List UInt8} {w:World} (h:Tr B b l rd fu w) (_:l.length≤1000000000000) :
  Calls Tryz.prog 58 #[.pointer (some ⟨b,0,none⟩)] w fun e w'=>e=.returned (.int .i64 (l.length:Int))∧w'=w:=by
 obtain ⟨p,v,_,_,hb,ho⟩:=lz h;obtain ⟨A,c,rfl,hc⟩:=ak ho;have c1:w.cell? ⟨b,1,none⟩=some (.slice A l.length c):=ah hb 1;clear h hb ho;go_enter Tryz.func58,Tryz.ntmps58;go_wp2;go_ret;exact ⟨rfl,rfl⟩
theorem C3 {B b:Nat} {s:Pg.St} {w:World} (h:eK B b s w) (n deep:Nat) {x:Int} (hx:x=(n:Int)) (hn:n≤1000000000000) (hd:deep≤1000000000000) (hr:s.read≤1000000000000) (hl:s.t.length≤1000000000000) :
  Calls Tryz.prog 43 #[.pointer (some ⟨b,0,none⟩),.int .i64 x,.int .i64 (deep:Int)] w fun e w'=>e=.returned (.bool (!(Pg.takes n deep s).full))∧eK B b (Pg.takes n deep s) w'∧Below B w w'∧∀ g,g≠b→w'.heap[g]?=w.heap[g]?:=by
 subst hx;obtain ⟨l,rd,fu⟩:=s;simp only at hr hl;unfold eK at h ⊢;simp only at h;obtain ⟨p,v,hp,hB,hb,ho⟩:=lz h;obtain ⟨A,c,rfl,hc⟩:=ak ho;have z2:w.cell? ⟨b,2,none⟩=some (.int .i64 (rd:Int)):=ah hb 2;have f2:w.frozen? ⟨b,2,none⟩=false:=aW hb 2;obtain ⟨rd2,hrd⟩:∃ rd2,rd2=rd+(1+n):=⟨_,rfl⟩
 have hrd2:rd2≤3000000000000:=by omega
 have hri:(rd:Int)+(1+(n:Int))=(rd2:Int):=by omega
 unfold Pg.takes;simp only;rw [← hrd];obtain ⟨F,hF⟩:∃ F,F=(((fu || decide (65536<deep)) || decide (2147483647<rd2)) || decide (2147483647<l.length)):=⟨_,rfl⟩
 rw [← hF];replace hF:=Lib.hid hF;have hw1':∃ w1,w1=w.setCell ⟨b,2,none⟩ (.int .i64 (rd2:Int)):=⟨_,rfl⟩
 obtain ⟨w1,hw1⟩:=hw1';have mI:w1.heap[b]?=some (.cells #[p,.slice A l.length c,.int .i64 (rd2:Int),.int .i64 2147483647,.bool fu] 56 (0,0)):=by rw [hw1]; exact heap_setCell_same w b 2 _ _ _ hb
 have hb1:w1.drew.heap[b]?=some (.cells #[p,.slice A l.length c,.int .i64 (rd2:Int),.int .i64 2147483647,.bool fu] 56 (0,0)):=mI;have ho1:w1.drew.ownsRow B 5 1 (.slice A l.length c) l.length (aj l):=by
  have h9:w1.ownsRow B 5 1 (.slice A l.length c) l.length (aj l):=by rw [hw1]; exact World.ownsRow.kept ho (ax w ⟨b,2,none⟩ _) (.inr (qL hb ho))
  exact h9
 have mw:Below B w w1:=by rw [hw1]; exact (Below.refl B w).setCell (p:=⟨b,2,none⟩) hB _
 have EU:∀ g,g≠b→w1.heap[g]?=w.heap[g]?:=by intro g hg; rw [hw1]; exact eJ w ⟨b,2,none⟩ g _ hg
 have hlen:=Lib.hid (Vg (tG hp hB hb1 ho1) hl);replace hrd:=Lib.hid hrd;clear h hb ho;go_enter Tryz.func43,Tryz.ntmps43;go_upto_region 2 with fail
 try rw [hri]
 rw [← hw1];clear hw1 z2 f2 hri;cases fu with
 | true =>
  obtain rfl:F=true:=by rw [hF.out]; simp
  clear hF;refine aE (.rd 0 (.rd 1 (.rd 2 (.rd 3 (.mk 4 (.rd 5 (.rd 6 (.rd 7 (.rd 8 (.rd 9 (.rd 10 (.rd 11 (.rd 12 (.rd 13 (.rd 14 (.rd 15 (.rd 16 (.rd 17 (.rd 18 (.rd 19 (.rd 20 (.rd 21 (.rd 22 (.rd 23 (.rd 25 (.rd 26 (.rd 27 (.rd 28 (.mk 24 (.rd 29 (.rd 30 (.rd 31 (.rd 32 (.mk 33 .fin)))))))))))))))))))))))))))))))))) (XD b p A l.length c rd2) ⟨_,hb1⟩ (by kernel_rfl) (by kernel_rfl) (by kernel_rfl) (fun _ _ d _ _ h=>by cases d<;>exact h) ?_;have z4:w1.drew.cell? ⟨b,4,none⟩=some (.bool true):=ah hb1 4
  iterate 4 (first | refine an rfl ?_ | (refine ay rfl ?_; intro K hK; go_simp; refine hK _ _ _ ?_; clear hK K))
  refine aC rfl ?_;intro K hK;go_simp;refine ⟨_,⟨_,hb1⟩,fun _ h=>h,hK _ _ _ ?_⟩;clear hK K
  iterate 23 (first | refine an rfl ?_ | (refine ay rfl ?_; intro K hK; go_simp; refine hK _ _ _ ?_; clear hK K))
  refine aC rfl ?_; intro K hK; go_simp; refine hK _ _ _ ?_; clear hK K
  iterate 4 (first | refine an rfl ?_ | (refine ay rfl ?_; intro K hK; go_simp; refine hK _ _ _ ?_; clear hK K))
  refine bf rfl rfl (kG (y:=true) rfl (by kernel_rfl) rfl rfl (ah hb1 4) (fun j=>aW hb1 j)) ⟨true,heap_setCell_same _ b 4 _ _ _ hb1⟩ ?_;refine aM ?_;have hb2:=heap_setCell_same w1.drew b 4 _ _ (.bool true) hb1;have ho2:=World.ownsRow.kept ho1 (ax w1.drew ⟨b,4,none⟩ (.bool true)) (.inr (qL hb1 ho1));have iz:=(mw.drew).setCell (p:=⟨b,4,none⟩) hB (.bool true);have iP:∀ g,g≠b→(w1.drew.setCell ⟨b,4,none⟩ (.bool true)).heap[g]?=w.heap[g]?:=fun g hg=>(eJ _ ⟨b,4,none⟩ g _ hg).trans (EU g hg);generalize w1.drew.setCell ⟨b,4,none⟩ (.bool true)=W5 at hb2 ho2 iz iP ⊢;have c4:W5.cell? ⟨b,4,none⟩=some (.bool true):=ah hb2 4;have aL:=Lib.hid (tG hp hB hb2 ho2);replace iz:=Lib.hid iz;replace iP:=Lib.hid iP;clear hlen mw EU hb1 ho1 hb2 ho2 z4;go_wp2_with fail;go_ret;exact ⟨rfl,aL.out,iz.out,iP.out⟩
 | false =>
  by_cases h1:65536<deep
  ·have t1:(65536:Int)<(deep:Int):=by omega
   obtain rfl:F=true:=by rw [hF.out,decide_eq_true h1]; simp
   clear hF;refine aE (.rd 0 (.rd 1 (.rd 2 (.rd 3 (.mk 4 (.rd 5 (.rd 6 (.rd 7 (.rd 8 (.rd 9 (.rd 10 (.rd 11 (.rd 12 (.rd 13 (.rd 14 (.rd 15 (.rd 16 (.rd 17 (.rd 18 (.rd 19 (.rd 20 (.rd 21 (.rd 22 (.rd 23 (.rd 25 (.rd 26 (.rd 27 (.rd 28 (.mk 24 (.rd 29 (.rd 30 (.rd 31 (.rd 32 (.mk 33 .fin)))))))))))))))))))))))))))))))))) (XD b p A l.length c rd2) ⟨_,hb1⟩ (by kernel_rfl) (by kernel_rfl) (by kernel_rfl) (fun _ _ d _ _ h=>by cases d<;>exact h) ?_;have z4:w1.drew.cell? ⟨b,4,none⟩=some (.bool false):=ah hb1 4
   iterate 4 (first | refine an rfl ?_ | (refine ay rfl ?_; intro K hK; go_simp; refine hK _ _ _ ?_; clear hK K))
   refine aC rfl ?_;intro K hK;go_simp;refine ⟨_,⟨_,hb1⟩,fun _ h=>h,hK _ _ _ ?_⟩;clear hK K
   iterate 23 (first | refine an rfl ?_ | (refine ay rfl ?_; intro K hK; go_simp; refine hK _ _ _ ?_; clear hK K))
   refine aC rfl ?_; intro K hK; go_simp; refine hK _ _ _ ?_; clear hK K
   iterate 4 (first | refine an rfl ?_ | (refine ay rfl ?_; intro K hK; go_simp; refine hK _ _ _ ?_; clear hK K))
   refine bf rfl rfl (kG (y:=true) rfl (by kernel_rfl) rfl rfl (ah hb1 4) (fun j=>aW hb1 j)) ⟨true,heap_setCell_same _ b 4 _ _ _ hb1⟩ ?_;refine aM ?_;have hb2:=heap_setCell_same w1.drew b 4 _ _ (.bool true) hb1;have ho2:=World.ownsRow.kept ho1 (ax w1.drew ⟨b,4,none⟩ (.bool true)) (.inr (qL hb1 ho1));have iz:=(mw.drew).setCell (p:=⟨b,4,none⟩) hB (.bool true);have iP:∀ g,g≠b→(w1.drew.setCell ⟨b,4,none⟩ (.bool true)).heap[g]?=w.heap[g]?:=fun g hg=>(eJ _ ⟨b,4,none⟩ g _ hg).trans (EU g hg);generalize w1.drew.setCell ⟨b,4,none⟩ (.bool true)=W5 at hb2 ho2 iz iP ⊢;have c4:W5.cell? ⟨b,4,none⟩=some (.bool true):=ah hb2 4;have aL:=Lib.hid (tG hp hB hb2 ho2);replace iz:=Lib.hid iz;replace iP:=Lib.hid iP;clear hlen mw EU hb1 ho1 hb2 ho2 z4;go_wp2_with fail;go_ret;exact ⟨rfl,aL.out,iz.out,iP.out⟩
  ·have t1:¬ (65536:Int)<(deep:Int):=by omega
   by_cases h2:2147483647<rd2
   ·have t2:(2147483647:Int)<(rd2:Int):=by omega
    obtain rfl:F=true:=by rw [hF.out,decide_eq_true h2]; simp
    clear hF;refine aE (.rd 0 (.rd 1 (.rd 2 (.rd 3 (.mk 4 (.rd 5 (.rd 6 (.rd 7 (.rd 8 (.rd 9 (.rd 10 (.rd 11 (.rd 12 (.rd 13 (.rd 14 (.rd 15 (.rd 16 (.rd 17 (.rd 18 (.rd 19 (.rd 20 (.rd 21 (.rd 22 (.rd 23 (.rd 25 (.rd 26 (.rd 27 (.rd 28 (.mk 24 (.rd 29 (.rd 30 (.rd 31 (.rd 32 (.mk 33 .fin)))))))))))))))))))))))))))))))))) (XD b p A l.length c rd2) ⟨_,hb1⟩ (by kernel_rfl) (by kernel_rfl) (by kernel_rfl) (fun _ _ d _ _ h=>by cases d<;>exact h) ?_;have z4:w1.drew.cell? ⟨b,4,none⟩=some (.bool false):=ah hb1 4
    iterate 4 (first | refine an rfl ?_ | (refine ay rfl ?_; intro K hK; go_simp; refine hK _ _ _ ?_; clear hK K))
    refine aC rfl ?_;intro K hK;go_simp;refine ⟨_,⟨_,hb1⟩,fun _ h=>h,hK _ _ _ ?_⟩;clear hK K
    iterate 8 (first | refine an rfl ?_ | (refine ay rfl ?_; intro K hK; go_simp; refine hK _ _ _ ?_; clear hK K))
    refine aH (.int .i64 (rd2:Int)) rfl rfl ⟨_,hb1⟩ (fun u hu=>by obtain ⟨y,hu⟩:=hu; have u1:u.cell? ⟨b,2,none⟩=some (.int .i64 (rd2:Int)):=ah hu 2; go_simp) ?_
    iterate 3 (first | refine an rfl ?_ | (refine ay rfl ?_; intro K hK; go_simp; refine hK _ _ _ ?_; clear hK K))
    refine aH (.int .i64 2147483647) rfl rfl ⟨_,hb1⟩ (fun u hu=>by obtain ⟨y,hu⟩:=hu; have u1:u.cell? ⟨b,3,none⟩=some (.int .i64 2147483647):=ah hu 3; go_simp) ?_
    iterate 10 (first | refine an rfl ?_ | (refine ay rfl ?_; intro K hK; go_simp; refine hK _ _ _ ?_; clear hK K))
    refine aC rfl ?_; intro K hK; go_simp; refine hK _ _ _ ?_; clear hK K
    iterate 4 (first | refine an rfl ?_ | (refine ay rfl ?_; intro K hK; go_simp; refine hK _ _ _ ?_; clear hK K))
    refine bf rfl rfl (kG (y:=true) rfl (by kernel_rfl) rfl rfl (ah hb1 4) (fun j=>aW hb1 j)) ⟨true,heap_setCell_same _ b 4 _ _ _ hb1⟩ ?_;refine aM ?_;have hb2:=heap_setCell_same w1.drew b 4 _ _ (.bool true) hb1;have ho2:=World.ownsRow.kept ho1 (ax w1.drew ⟨b,4,none⟩ (.bool true)) (.inr (qL hb1 ho1));have iz:=(mw.drew).setCell (p:=⟨b,4,none⟩) hB (.bool true);have iP:∀ g,g≠b→(w1.drew.setCell ⟨b,4,none⟩ (.bool true)).heap[g]?=w.heap[g]?:=fun g hg=>(eJ _ ⟨b,4,none⟩ g _ hg).trans (EU g hg);generalize w1.drew.setCell ⟨b,4,none⟩ (.bool true)=W5 at hb2 ho2 iz iP ⊢;have c4:W5.cell? ⟨b,4,none⟩=some (.bool true):=ah hb2 4;have aL:=Lib.hid (tG hp hB hb2 ho2);replace iz:=Lib.hid iz;replace iP:=Lib.hid iP;clear hlen mw EU hb1 ho1 hb2 ho2 z4;go_wp2_with fail;go_ret;exact ⟨rfl,aL.out,iz.out,iP.out⟩
   ·have t2:¬ (2147483647:Int)<(rd2:Int):=by omega
    by_cases h3:2147483647<l.length
    ·have t3:(2147483647:Int)<(l.length:Int):=by omega
     obtain rfl:F=true:=by rw [hF.out,decide_eq_true h3]; simp
     clear hF;refine aE (.rd 0 (.rd 1 (.rd 2 (.rd 3 (.mk 4 (.rd 5 (.rd 6 (.rd 7 (.rd 8 (.rd 9 (.rd 10 (.rd 11 (.rd 12 (.rd 13 (.rd 14 (.rd 15 (.rd 16 (.rd 17 (.rd 18 (.rd 19 (.rd 20 (.rd 21 (.rd 22 (.rd 23 (.rd 25 (.rd 26 (.rd 27 (.rd 28 (.mk 24 (.rd 29 (.rd 30 (.rd 31 (.rd 32 (.mk 33 .fin)))))))))))))))))))))))))))))))))) (XD b p A l.length c rd2) ⟨_,hb1⟩ (by kernel_rfl) (by kernel_rfl) (by kernel_rfl) (fun _ _ d _ _ h=>by cases d<;>exact h) ?_;have z4:w1.drew.cell? ⟨b,4,none⟩=some (.bool false):=ah hb1 4
     iterate 4 (first | refine an rfl ?_ | (refine ay rfl ?_; intro K hK; go_simp; refine hK _ _ _ ?_; clear hK K))
     refine aC rfl ?_;intro K hK;go_simp;refine ⟨_,⟨_,hb1⟩,fun _ h=>h,hK _ _ _ ?_⟩;clear hK K
     iterate 8 (first | refine an rfl ?_ | (refine ay rfl ?_; intro K hK; go_simp; refine hK _ _ _ ?_; clear hK K))
     refine aH (.int .i64 (rd2:Int)) rfl rfl ⟨_,hb1⟩ (fun u hu=>by obtain ⟨y,hu⟩:=hu; have u1:u.cell? ⟨b,2,none⟩=some (.int .i64 (rd2:Int)):=ah hu 2; go_simp) ?_
     iterate 3 (first | refine an rfl ?_ | (refine ay rfl ?_; intro K hK; go_simp; refine hK _ _ _ ?_; clear hK K))
     refine aH (.int .i64 2147483647) rfl rfl ⟨_,hb1⟩ (fun u hu=>by obtain ⟨y,hu⟩:=hu; have u1:u.cell? ⟨b,3,none⟩=some (.int .i64 2147483647):=ah hu 3; go_simp) ?_
     iterate 9 (first | refine an rfl ?_ | (refine ay rfl ?_; intro K hK; go_simp; refine hK _ _ _ ?_; clear hK K))
     refine aH (.int .i64 2147483647) rfl rfl ⟨_,hb1⟩ (fun u hu=>by obtain ⟨y,hu⟩:=hu; have u1:u.cell? ⟨b,3,none⟩=some (.int .i64 2147483647):=ah hu 3; go_simp) ?_;refine aC rfl ?_;intro K hK;go_simp;refine hlen.out.mono ?_;rintro e w7 ⟨rfl,rfl⟩;refine ⟨_,⟨_,hb1⟩,fun _ h=>h,hK _ _ _ ?_⟩;clear hK K
     iterate 4 (first | refine an rfl ?_ | (refine ay rfl ?_; intro K hK; go_simp; refine hK _ _ _ ?_; clear hK K))
     refine bf rfl rfl (kG (y:=true) rfl (by kernel_rfl) rfl rfl (ah hb1 4) (fun j=>aW hb1 j)) ⟨true,heap_setCell_same _ b 4 _ _ _ hb1⟩ ?_;refine aM ?_;have hb2:=heap_setCell_same w1.drew b 4 _ _ (.bool true) hb1;have ho2:=World.ownsRow.kept ho1 (ax w1.drew ⟨b,4,none⟩ (.bool true)) (.inr (qL hb1 ho1));have iz:=(mw.drew).setCell (p:=⟨b,4,none⟩) hB (.bool true);have iP:∀ g,g≠b→(w1.drew.setCell ⟨b,4,none⟩ (.bool true)).heap[g]?=w.heap[g]?:=fun g hg=>(eJ _ ⟨b,4,none⟩ g _ hg).trans (EU g hg);generalize w1.drew.setCell ⟨b,4,none⟩ (.bool true)=W5 at hb2 ho2 iz iP ⊢;have c4:W5.cell? ⟨b,4,none⟩=some (.bool true):=ah hb2 4;have aL:=Lib.hid (tG hp hB hb2 ho2);replace iz:=Lib.hid iz;replace iP:=Lib.hid iP;clear hlen mw EU hb1 ho1 hb2 ho2 z4;go_wp2_with fail;go_ret;exact ⟨rfl,aL.out,iz.out,iP.out⟩
    ·have t3:¬ (2147483647:Int)<(l.length:Int):=by omega
     obtain rfl:F=false:=by rw [hF.out,decide_eq_false h1,decide_eq_false h2,decide_eq_false h3]; rfl
     clear hF;refine aE (.rd 0 (.rd 1 (.rd 2 (.rd 3 (.mk 4 (.rd 5 (.rd 6 (.rd 7 (.rd 8 (.rd 9 (.rd 10 (.rd 11 (.rd 12 (.rd 13 (.rd 14 (.rd 15 (.rd 16 (.rd 17 (.rd 18 (.rd 19 (.rd 20 (.rd 21 (.rd 22 (.rd 23 (.rd 25 (.rd 26 (.rd 27 (.rd 28 (.mk 24 (.rd 29 (.rd 30 (.rd 31 (.rd 32 (.mk 33 .fin)))))))))))))))))))))))))))))))))) (XD b p A l.length c rd2) ⟨_,hb1⟩ (by kernel_rfl) (by kernel_rfl) (by kernel_rfl) (fun _ _ d _ _ h=>by cases d<;>exact h) ?_;have z4:w1.drew.cell? ⟨b,4,none⟩=some (.bool false):=ah hb1 4
     iterate 4 (first | refine an rfl ?_ | (refine ay rfl ?_; intro K hK; go_simp; refine hK _ _ _ ?_; clear hK K))
     refine aC rfl ?_;intro K hK;go_simp;refine ⟨_,⟨_,hb1⟩,fun _ h=>h,hK _ _ _ ?_⟩;clear hK K
     iterate 8 (first | refine an rfl ?_ | (refine ay rfl ?_; intro K hK; go_simp; refine hK _ _ _ ?_; clear hK K))
     refine aH (.int .i64 (rd2:Int)) rfl rfl ⟨_,hb1⟩ (fun u hu=>by obtain ⟨y,hu⟩:=hu; have u1:u.cell? ⟨b,2,none⟩=some (.int .i64 (rd2:Int)):=ah hu 2; go_simp) ?_
     iterate 3 (first | refine an rfl ?_ | (refine ay rfl ?_; intro K hK; go_simp; refine hK _ _ _ ?_; clear hK K))
     refine aH (.int .i64 2147483647) rfl rfl ⟨_,hb1⟩ (fun u hu=>by obtain ⟨y,hu⟩:=hu; have u1:u.cell? ⟨b,3,none⟩=some (.int .i64 2147483647):=ah hu 3; go_simp) ?_
     iterate 9 (first | refine an rfl ?_ | (refine ay rfl ?_; intro K hK; go_simp; refine hK _ _ _ ?_; clear hK K))
     refine aH (.int .i64 2147483647) rfl rfl ⟨_,hb1⟩ (fun u hu=>by obtain ⟨y,hu⟩:=hu; have u1:u.cell? ⟨b,3,none⟩=some (.int .i64 2147483647):=ah hu 3; go_simp) ?_;refine aC rfl ?_;intro K hK;go_simp;refine hlen.out.mono ?_;rintro e w7 ⟨rfl,rfl⟩;refine ⟨_,⟨_,hb1⟩,fun _ h=>h,hK _ _ _ ?_⟩;clear hK K
     iterate 4 (first | refine an rfl ?_ | (refine ay rfl ?_; intro K hK; go_simp; refine hK _ _ _ ?_; clear hK K))
     refine bf rfl rfl (kG (y:=false) rfl (by kernel_rfl) rfl rfl (ah hb1 4) (fun j=>aW hb1 j)) ⟨false,heap_setCell_same _ b 4 _ _ _ hb1⟩ ?_;refine aM ?_;have hb2:=heap_setCell_same w1.drew b 4 _ _ (.bool false) hb1;have ho2:=World.ownsRow.kept ho1 (ax w1.drew ⟨b,4,none⟩ (.bool false)) (.inr (qL hb1 ho1));have iz:=(mw.drew).setCell (p:=⟨b,4,none⟩) hB (.bool false);have iP:∀ g,g≠b→(w1.drew.setCell ⟨b,4,none⟩ (.bool false)).heap[g]?=w.heap[g]?:=fun g hg=>(eJ _ ⟨b,4,none⟩ g _ hg).trans (EU g hg);generalize w1.drew.setCell ⟨b,4,none⟩ (.bool false)=W5 at hb2 ho2 iz iP ⊢;have c4:W5.cell? ⟨b,4,none⟩=some (.bool false):=ah hb2 4;have aL:=Lib.hid (tG hp hB hb2 ho2);replace iz:=Lib.hid iz;replace iP:=Lib.hid iP;clear hlen mw EU hb1 ho1 hb2 ho2 z4;go_wp2_with fail;go_ret;exact ⟨rfl,aL.out,iz.out,iP.out⟩
end Go.Proofs.YtddkjkockbcamaaGreatDoor

set_option maxHeartbeats 16000000
set_option maxRecDepth 100000
namespace Go.Proofs.YtddkjkockbcamaaGreatDoor
open Go.RowKit
attribute [local go_sem] aD av aq
theorem nV {L:List (List UInt8)} {k:Nat} (h:k<L.length):(L.take (k+1)).flatten=(L.take k).flatten++L[k]:=by
 rw [List.take_succ_eq_append_getElem h,List.flatten_append]; simp
theorem JB (L:List (List UInt8)) (k:Nat):(L.take k).flatten.length≤L.flatten.length:=by
 conv=>rhs; rw [← List.take_append_drop k L,List.flatten_append,List.length_append]
 omega
theorem Qx (L:List (List UInt8)) {B b g:Nat} {s:Pg.St} {w:World} (h:eK B b s w) (hBw:B≤w.heap.size) (hgb:g≠b) (hg:w.heap[g]?=some (.cells (L.map fun t=>Value.string (bs t)).toArray 9 (0,0))) (hL:L.length≤1000) (hl:s.t.length+L.flatten.length≤1000000000000) {n c:Nat} (hn:n=L.length) :
  Calls Tryz.prog 62 #[.pointer (some ⟨b,0,none⟩),.slice (some ⟨g,0,none⟩) n c] w fun e w'=>e=.returned (.tuple #[])∧eK B b (Pg.put L.flatten s) w'∧Below B w w':=by
 subst hn;replace h:=Lib.hid h;replace hg:=Lib.hid hg;obtain ⟨T,hT⟩:∃ T,T=eK B b (Pg.put L.flatten s):=⟨_,rfl⟩
 rw [← hT];replace hT:=Lib.hid hT;go_enter Tryz.func62,Tryz.ntmps62;go_wp2_with fail
 go_loopw [8] (fun u wr=>∃ k:Nat,k≤L.length∧u=.int .i64 (k:Int)∧Hid (eK B b (Pg.put (L.take k).flatten s) wr)∧Hid (Below B w wr)∧Hid (wr.heap[g]?=some (.cells (L.map fun t=>Value.string (bs t)).toArray 9 (0,0)))) (fun u _=>L.length - (intOf u).toNat)
 case atStart=>exact ⟨0,by omega,rfl,Lib.hid (by simpa [Pg.put] using h.out),Lib.hid (Below.refl _ _),hg⟩
 case round =>
  obtain ⟨k,hk,rfl,hP,hb,JC⟩:=hrel;rcases Nat.lt_or_eq_of_le hk with hlt | yb
  ·have x0:wr.cell? ⟨g,k,none⟩=some (.string (bs L[k])):=by
    have:=ah JC.out k;simpa [hlt] using this
   have hst:=nV hlt;have JR:=JB L (k+1);rw [hst,List.length_append] at JR;have ug:=Nat.le_trans hBw hb.out.size;have aG:=UT (l:=(Pg.put (L.take k).flatten s).t) hP.out L[k] (by simp only [Pg.put,List.length_append]; omega) ug;replace aG:=Lib.hid aG;have hsz:=au L[k];obtain ⟨X,hX⟩:∃ X,X=L[k]:=⟨_,rfl⟩
   rw [← hX] at x0 hst aG hsz;clear hP JR hX;go_wp2_with fail;refine aG.out.mono ?_;rintro e w5 ⟨⟨v5,rfl⟩,YW,hb5,hk5⟩;have xK:=hk5 g _ JC.out (fun e=>hgb (Option.some.inj e)) (by intro c fz e; injection e with _ e _; exact absurd e (by decide));have Nc:Hid (eK B b (Pg.put (L.take (k+1)).flatten s) w5):=Lib.hid (by rw [hst]; unfold eK; simpa only [Pg.put,List.append_assoc] using YW);have iV:=Lib.hid (hb.out.trans hb5);clear YW hb5 hk5;go_wp2_with fail
   go_roundw
   case rel=>exact ⟨k+1,by omega,by go_num,Nc,iV,Lib.hid xK⟩
   case measure=>simp [intOf]; omega
  ·subst yb
   have Nc:Hid (T wr):=Lib.hid (by rw [hT.out]; have:=hP.out; rwa [List.take_length] at this);go_wp2_with fail;go_end0;exact ⟨rfl,Nc.out,hb.out⟩
theorem bQ (L:List (List UInt8)) (cs:Array Value) (hcs:cs=(L.map fun t=>Value.string (bs t)).toArray) {B b:Nat} {s:Pg.St} {w:World} (h:eK B b s w) (hBw:B≤w.heap.size) (hL:L.length≤1000) (hl:s.t.length+L.flatten.length≤1000000000000) {n c:Nat} (hn:n=L.length) :
  Calls Tryz.prog 62 #[.pointer (some ⟨b,0,none⟩),.slice (some ⟨w.heap.size,0,none⟩) n c] (w.alloc (.cells cs 9)) fun e w'=>e=.returned (.tuple #[])∧eK B b (Pg.put L.flatten s) w'∧Below B w w':=by
 have hbl:b<w.heap.size:=by
  unfold eK at h;obtain ⟨_,_,_,_,hb,_⟩:=lz h;exact (Array.getElem?_eq_some_iff.1 hb).1
 have hba:Below w.heap.size w (w.alloc (.cells cs 9)):=aa _ _;have hP:eK B b s (w.alloc (.cells cs 9)):=by
  unfold eK at h ⊢;obtain ⟨p,v,hp,hB,hb,ho⟩:=lz h;exact tG hp hB (keep hb hba).1 (bO ho hba)
 refine (Qx L hP (Nat.le_trans hBw hba.size) (by omega) (by rw [heap_alloc_new,hcs]) hL hl hn).mono ?_;rintro e w' ⟨rfl,h1,h2⟩;exact ⟨rfl,h1,(hba.mono hBw).trans h2⟩
theorem zY (n:List UInt8) (hn:n.length≤100) {B b:Nat} {s S2:Pg.St} {w:World} (h:eK B b s w) (hBw:B≤w.heap.size) (A2:Option Addr) (k2 c2 deep:Nat) (hd:deep≤1000000) (hl:s.t.length+1000≤1000000000000) (hl2:S2.t.length+1000≤1000000000000)
  (hin:∀ w',eK B b (Pg.put (Hm.tag n) s) w'→Below B w w'→Calls Tryz.prog 32 #[.pointer (some ⟨b,0,none⟩),.slice A2 k2 c2,.int .i64 ((deep+1:Nat):Int)] w' fun e w''=>e=.returned (.tuple #[])∧eK B b S2 w''∧Below B w' w'') :
  Calls Tryz.prog 74 #[.pointer (some ⟨b,0,none⟩),.string (bs n),.slice A2 k2 c2,.int .i64 (deep:Int)] w fun e w'=>e=.returned (.tuple #[])∧eK B b (Pg.put (Hm.shut n) S2) w'∧Below B w w':=by
 have e1:[[60],n,[62]].flatten=Hm.tag n:=by simp [Hm.tag]
 have e2:[[60,47],n,[62]].flatten=Hm.shut n:=by simp [Hm.shut]
 have t1:(Hm.tag n).length=n.length+2:=by simp [Hm.tag]
 have t2:(Hm.shut n).length=n.length+3:=by simp [Hm.shut]
 have q1:=bQ [[60],n,[62]] #[.string ⟨#[60]⟩,.string (bs n),.string ⟨#[62]⟩] rfl h hBw (by simp) (by rw [e1,t1]; omega) (n:=3) (c:=3) rfl;have q2:=fun (w':World) (h':eK B b S2 w') (Sh:B≤w'.heap.size)=>bQ [[60,47],n,[62]] #[.string ⟨#[60,47]⟩,.string (bs n),.string ⟨#[62]⟩] rfl h' Sh (by simp) (by rw [e2,t2]; omega) (n:=3) (c:=3) rfl;rw [e1] at q1;simp only [e2] at q2;replace q1:=Lib.hid q1;replace q2:=Lib.hid q2;replace hin:=Lib.hid hin;clear h e1 e2 t1 t2;go_enter Tryz.func74,Tryz.ntmps74;go_wp2_with fail;refine q1.out.mono ?_;rintro e w1 ⟨rfl,h1,hb1⟩;have q3:=hin.out w1 h1 hb1;rw [show ((deep+1:Nat):Int)=(deep:Int)+1 from by omega] at q3;replace q3:=Lib.hid q3;replace hb1:=Lib.hid hb1;clear h1 q1 hin;go_wp2_with fail;refine q3.out.mono ?_;rintro e w2 ⟨rfl,h2,hb2⟩;have q4:=Lib.hid (q2.out w2 h2 (Nat.le_trans hBw (hb1.out.trans hb2).size));have hb3:=Lib.hid (hb1.out.trans hb2);clear h2 hb2 q2 q3;go_wp2_with fail;refine q4.out.mono ?_;rintro e w3 ⟨rfl,h3,hb4⟩;have hb5:=Lib.hid (hb3.out.trans hb4);replace h3:=Lib.hid h3;clear hb4 q4;go_wp2_with fail;go_end0;exact ⟨rfl,h3.out,hb5.out⟩
theorem lG (n:List UInt8) (hn:n.length≤100) {B b:Nat} {s:Pg.St} (Pr:Pg.St→Prop) {w:World} (h:eK B b s w) (hBw:B≤w.heap.size) (A2:Option Addr) (k2 c2 deep:Nat) (hd:deep≤1000000) (hl:s.t.length+1000≤1000000000000) (hl2:∀ S2,Pr S2→S2.t.length+1000≤1000000000000)
  (hin:∀ w',eK B b (Pg.put (Hm.tag n++[10]) s) w'→Below B w w'→Calls Tryz.prog 26 #[.pointer (some ⟨b,0,none⟩),.slice A2 k2 c2,.int .i64 ((deep+1:Nat):Int)] w' fun e w''=>e=.returned (.tuple #[])∧(∃ S2,Pr S2∧eK B b S2 w'')∧Below B w' w'') :
  Calls Tryz.prog 59 #[.pointer (some ⟨b,0,none⟩),.string (bs n),.slice A2 k2 c2,.int .i64 (deep:Int)] w fun e w'=>e=.returned (.tuple #[])∧(∃ S2,Pr S2∧eK B b (Pg.put (Hm.shut n++[10]) S2) w')∧Below B w w':=by
 have e1:[[60],n,[62,10]].flatten=Hm.tag n++[10]:=by simp [Hm.tag]
 have e2:[[60,47],n,[62,10]].flatten=Hm.shut n++[10]:=by simp [Hm.shut]
 have t1:(Hm.tag n++[10]).length=n.length+3:=by simp [Hm.tag]
 have t2:(Hm.shut n++[10]).length=n.length+4:=by simp [Hm.shut]
 have q1:=bQ [[60],n,[62,10]] #[.string ⟨#[60]⟩,.string (bs n),.string ⟨#[62,10]⟩] rfl h hBw (by simp) (by rw [e1,t1]; omega) (n:=3) (c:=3) rfl;have q2:=fun (S2:Pg.St) (ij:Pr S2) (w':World) (h':eK B b S2 w') (Sh:B≤w'.heap.size)=>bQ [[60,47],n,[62,10]] #[.string ⟨#[60,47]⟩,.string (bs n),.string ⟨#[62,10]⟩] rfl h' Sh (by simp) (by have:=hl2 S2 ij; rw [e2,t2]; omega) (n:=3) (c:=3) rfl;rw [e1] at q1;simp only [e2] at q2;replace q1:=Lib.hid q1;replace q2:=Lib.hid q2;replace hin:=Lib.hid hin;clear h e1 e2 t1 t2;go_enter Tryz.func59,Tryz.ntmps59;go_wp2_with fail;refine q1.out.mono ?_;rintro e w1 ⟨rfl,h1,hb1⟩;have q3:=hin.out w1 h1 hb1;rw [show ((deep+1:Nat):Int)=(deep:Int)+1 from by omega] at q3;replace q3:=Lib.hid q3;replace hb1:=Lib.hid hb1;clear h1 q1 hin;go_wp2_with fail;refine q3.out.mono ?_;rintro e w2 ⟨rfl,⟨S2,ij,h2⟩,hb2⟩;have q4:=Lib.hid (q2.out S2 ij w2 h2 (Nat.le_trans hBw (hb1.out.trans hb2).size));have hb3:=Lib.hid (hb1.out.trans hb2);clear h2 hb2 q2 q3;go_wp2_with fail;refine q4.out.mono ?_;rintro e w3 ⟨rfl,h3,hb4⟩;have hb5:=Lib.hid (hb3.out.trans hb4);replace h3:=Lib.hid h3;clear hb4 q4;go_wp2_with fail;go_end0;exact ⟨rfl,⟨S2,ij,h3.out⟩,hb5.out⟩
theorem AY (d:List UInt8) (w:World) (hd:d.length≤1000000000) :
  Calls Tryz.prog 75 #[.string (bs d)] w fun e w'=>e=.returned (.string (bs (Es.page (Hm.goes d))))∧Below w.heap.size w w':=by
 have q1:=fun w=>Jk d hd w;have q2:=fun w=>sG d w hd trivial;have hgo:(Lk.safe d=true∧Hm.goes d=d)∨(Lk.safe d=false∧Hm.goes d=[35]):=by
  unfold Hm.goes;cases Lk.safe d with
  | true=>exact .inl ⟨rfl,by rw [if_pos rfl]⟩
  | false=>exact .inr ⟨rfl,by rw [if_neg (by decide)]⟩
 rcases hgo with ⟨hs1,hs2⟩ | ⟨hs1,hs2⟩
 ·rw [hs1] at q1
  rw [hs2];clear hs1 hs2;obtain ⟨G,hG⟩:∃ G,G=Es.page d:=⟨_,rfl⟩
  rw [← hG] at q2 ⊢;clear hG;go_enter Tryz.func75,Tryz.ntmps75;go_wp2_with fail;refine (q1 _).mono ?_;rintro e w1 ⟨rfl,hb1⟩;replace hb1:=Lib.hid hb1;go_wp2_with fail;refine (q2 _).mono ?_;rintro e w2 ⟨rfl,hb2⟩;have hb3:=Lib.hid (ag hb1.out hb2);clear hb2;go_wp2_with fail;go_ret;exact ⟨rfl,hb3.out⟩
 ·rw [hs1] at q1
  rw [hs2];have e35:Es.page [35]=[35]:=by decide
  rw [e35];clear hs1 hs2 e35 q2;go_enter Tryz.func75,Tryz.ntmps75;go_wp2_with fail;refine (q1 _).mono ?_;rintro e w1 ⟨rfl,hb1⟩;replace hb1:=Lib.hid hb1;go_wp2_with fail;go_ret;exact ⟨rfl,hb1.out⟩
end Go.Proofs.YtddkjkockbcamaaGreatDoor

set_option maxHeartbeats 16000000
set_option maxRecDepth 100000
namespace Go.Proofs.YtddkjkockbcamaaGreatDoor
open Go.RowKit
attribute [local go_sem] aD av aq
theorem fe {B b:Nat} {s:Pg.St} {w w':World} (h:eK B b s w) (hba:Below w.heap.size w w'):eK B b s w':=by
 unfold eK at h ⊢;obtain ⟨p,v,hp,hB,hb,ho⟩:=lz h;exact tG hp hB (keep hb hba).1 (bO ho hba)
def By (N:Nat):Prop:=∀ (ts:List Hm.Hi) (_:SizeOf.sizeOf ts≤N) (_:∀ t∈ts,Hm.B1 t) (_:ts.length≤1000000000) (A:Option Addr) (c:Nat) (css:List (List Value)) (w:World) (Q:Nat→Prop) (B b:Nat) (s:Pg.St) (deep:Nat)
  (_:∀ q,Q q→q<B) (_:B≤w.heap.size) (_:ec w Q 4 A ts.length css.flatten) (_:Iw w Q ts css) (_:eK B b s w) (_:deep≤65537) (_:s.read+Hm.F8 ts≤500000000000) (_:s.t.length+(Hm.b9 ts).length≤500000000000),
  Calls Tryz.prog 32 #[.pointer (some ⟨b,0,none⟩),.slice A ts.length c,.int .i64 (deep:Int)] w fun e w'=>e=.returned (.tuple #[])∧eK B b (Pg.b9 ts deep s) w'∧Below B w w'
def Fk (N:Nat):Prop:=∀ (x:Hm.Hi) (_:SizeOf.sizeOf x≤N) (_:Hm.B1 x) (cs:List Value) (w:World) (Q:Nat→Prop) (B b g o:Nat) (s:Pg.St) (deep:Nat)
  (_:∀ q,Q q→q<B) (_:B≤w.heap.size) (_:HC w Q x cs) (_:∀ j,j<4→w.cell? ⟨g,o+j,none⟩=cs[j]?) (_:g<B) (_:eK B b s w) (_:deep≤65536) (_:s.read+Hm.im x≤500000000000+(1+Pg.own x)) (_:s.t.length+(Hm.inl x).length≤500000000000),
  Calls Tryz.prog 46 #[.pointer (some ⟨b,0,none⟩),.pointer (some ⟨g,o,none⟩),.int .i64 (deep:Int)] w fun e w'=>e=.returned (.tuple #[])∧eK B b (Pg.inl x deep s) w'∧Below B w w'
theorem I9 (N:Nat) (ih:By N):Fk (N+1):=by
 intro x hN hF cs w Q B b g o s deep hQ hB hI hcell hgB hP hd hr hl;obtain ⟨kd,tx,ds,ks⟩:=x;obtain ⟨A2,c2,css2,rfl,hc2,hR2,j8⟩:=BP hI;obtain ⟨Vc,Bm,hF2,SU⟩:tx.length≤1000000000∧ds.length≤1000000000∧ks.length≤1000000000∧∀ x∈ks,Hm.B1 x:=by cases hF with | mk a b c d=>exact ⟨a,b,c,d⟩
 simp only [Hm.Hi.mk.sizeOf_spec] at hN;simp only [Hm.im,Pg.own] at hr;have x0:w.cell? ⟨g,o,none⟩=some (.int .i64 kd):=hcell 0 (by omega);have x1:w.cell? ⟨g,o+1,none⟩=some (.string (bs tx)):=hcell 1 (by omega);have x2:w.cell? ⟨g,o+2,none⟩=some (.string (bs ds)):=hcell 2 (by omega);have x3:w.cell? ⟨g,o+3,none⟩=some (.slice A2 ks.length c2):=hcell 3 (by omega);have aG:=fun (w':World) (hb':Below B w w') (s':Pg.St) (Wf:eK B b s' w') (q1:s'.read+Hm.F8 ks≤500000000000) (q2:s'.t.length+(Hm.b9 ks).length≤500000000000) =>
  ih ks (by omega) SU hF2 A2 c2 css2 w' Q B b s' (deep+1) hQ (Nat.le_trans hB hb'.size) (hR2.frame (fun b h=>hb'.block b (hQ b h)) (fun _ h=>h)) (om (fun b h=>hb'.block b (hQ b h)) (fun _ h=>h) j8) Wf (by omega) q1 q2
 replace aG:=Lib.hid aG;obtain ⟨T,hT⟩:∃ T,T=eK B b (Pg.inl (.mk kd tx ds ks) deep s):=⟨_,rfl⟩
 rw [← hT];have QG:=fun w=>sG tx w Vc trivial;clear ih hI hcell hR2 j8 hF SU
 by_cases h0:kd=0
 ·subst h0
  have e:Pg.inl (.mk 0 tx ds ks) deep s=Pg.put (Es.page tx) s:=by unfold Pg.inl; rw [if_pos rfl]
  have e':Hm.inl (.mk 0 tx ds ks)=Es.page tx:=by unfold Hm.inl; rw [if_pos rfl]
  rw [e] at hT;rw [e'] at hl;obtain ⟨G,hG⟩:∃ G,G=Es.page tx:=⟨_,rfl⟩
  rw [← hG] at QG hT hl;have q1:=fun (w1:World) (h1:eK B b s w1) (hB1:B≤w1.heap.size)=>bQ [G] #[.string (bs G)] rfl h1 hB1 (by simp) (by simp; omega) (n:=1) (c:=1) rfl;simp only [List.flatten_cons,List.flatten_nil,List.append_nil] at q1;rw [← hT] at q1;replace q1:=Lib.hid q1;replace hP:=Lib.hid hP;clear hT hG e e' aG;go_enter Tryz.func46,Tryz.ntmps46;go_wp2_with fail;refine (QG _).mono ?_;rintro e w1 ⟨rfl,hb1⟩;have q2:=Lib.hid (q1.out w1 (fe hP.out hb1) (Nat.le_trans hB hb1.size));have hb2:=Lib.hid (hb1.mono hB);clear hb1 q1;go_wp2_with fail;refine q2.out.mono ?_;rintro e w2 ⟨rfl,h2,hb3⟩;have hb4:=Lib.hid (hb2.out.trans hb3);replace h2:=Lib.hid h2;clear hb3 q2;go_wp2_with fail;go_end0;exact ⟨rfl,h2.out,hb4.out⟩
 by_cases h1:kd=1
 ·subst h1
  have e:Pg.inl (.mk 1 tx ds ks) deep s=Pg.put (Hm.shut Hm.dB) (Pg.put (Es.page tx) (Pg.put (Hm.tag Hm.dB) s)):=by unfold Pg.inl; rw [if_neg (by decide),if_pos rfl]
  have e':Hm.inl (.mk 1 tx ds ks)=Hm.tag Hm.dB++Es.page tx++Hm.shut Hm.dB:=by unfold Hm.inl; rw [if_neg (by decide),if_pos rfl]
  rw [e] at hT;rw [e'] at hl;simp only [List.length_append] at hl;obtain ⟨G,hG⟩:∃ G,G=Es.page tx:=⟨_,rfl⟩
  rw [← hG] at QG hT hl;have ef:[Hm.tag Hm.dB,G,Hm.shut Hm.dB].flatten=Hm.tag Hm.dB++(G++Hm.shut Hm.dB):=by simp
  have es:Pg.put (Hm.tag Hm.dB++(G++Hm.shut Hm.dB)) s=Pg.put (Hm.shut Hm.dB) (Pg.put G (Pg.put (Hm.tag Hm.dB) s)):=by simp only [Pg.put,List.append_assoc]
  have q1:=fun (w1:World) (h1:eK B b s w1) (hB1:B≤w1.heap.size)=>bQ [Hm.tag Hm.dB,G,Hm.shut Hm.dB] #[.string ⟨#[60,99,111,100,101,62]⟩,.string (bs G),.string ⟨#[60,47,99,111,100,101,62]⟩] rfl h1 hB1 (by simp) (by rw [ef,List.length_append,List.length_append]; omega) (n:=3) (c:=3) rfl;simp only [ef,es] at q1;rw [← hT] at q1;replace q1:=Lib.hid q1;replace hP:=Lib.hid hP;clear hT hG e e' aG ef es;go_enter Tryz.func46,Tryz.ntmps46;go_wp2_with fail;refine (QG _).mono ?_;rintro e w1 ⟨rfl,hb1⟩;have q2:=Lib.hid (q1.out w1 (fe hP.out hb1) (Nat.le_trans hB hb1.size));have hb2:=Lib.hid (hb1.mono hB);clear hb1 q1;go_wp2_with fail;refine q2.out.mono ?_;rintro e w2 ⟨rfl,h2,hb3⟩;have hb4:=Lib.hid (hb2.out.trans hb3);replace h2:=Lib.hid h2;clear hb3 q2;go_wp2_with fail;go_end0;exact ⟨rfl,h2.out,hb4.out⟩
 by_cases h2:kd=2
 ·subst h2
  have e:Pg.inl (.mk 2 tx ds ks) deep s=Pg.put (Hm.shut Hm.C5) (Pg.b9 ks (deep+1) (Pg.put (Hm.tag Hm.C5) s)):=by unfold Pg.inl; rw [if_neg (by decide),if_neg (by decide),if_pos rfl]
  have e':Hm.inl (.mk 2 tx ds ks)=Hm.tag Hm.C5++Hm.b9 ks++Hm.shut Hm.C5:=by unfold Hm.inl; rw [if_neg (by decide),if_neg (by decide),if_pos rfl]
  rw [e] at hT;rw [e'] at hl;simp only [List.length_append] at hl;obtain ⟨P,g1,g2,_,_⟩:=Pg.dV ks (deep+1) (Pg.put (Hm.tag Hm.C5) s);have g3:(Pg.b9 ks (deep+1) (Pg.put (Hm.tag Hm.C5) s)).t.length+1000≤1000000000000:=by rw [g1]; simp only [Pg.put,List.length_append]; omega
  have q1:=zY Hm.C5 (by decide) hP hB A2 ks.length c2 deep (by omega) (by omega) g3 (fun w' h' hb'=>aG.out w' hb' _ h' (by simp only [Pg.put]; omega) (by simp only [Pg.put,List.length_append]; omega));rw [← hT] at q1;replace q1:=Lib.hid q1;clear hT e e' aG g1 g2 g3 QG hP;go_enter Tryz.func46,Tryz.ntmps46;go_wp2_with fail;refine q1.out.mono ?_;rintro e w2 ⟨rfl,h2,hb3⟩;replace hb3:=Lib.hid hb3;replace h2:=Lib.hid h2;go_wp2_with fail;go_end0;exact ⟨rfl,h2.out,hb3.out⟩
 by_cases h3:kd=3
 ·subst h3
  have e:Pg.inl (.mk 3 tx ds ks) deep s=Pg.put (Hm.shut Hm.cS) (Pg.b9 ks (deep+1) (Pg.put (Hm.tag Hm.cS) s)):=by unfold Pg.inl; rw [if_neg (by decide),if_neg (by decide),if_neg (by decide),if_pos rfl]
  have e':Hm.inl (.mk 3 tx ds ks)=Hm.tag Hm.cS++Hm.b9 ks++Hm.shut Hm.cS:=by unfold Hm.inl; rw [if_neg (by decide),if_neg (by decide),if_neg (by decide),if_pos rfl]
  rw [e] at hT;rw [e'] at hl;simp only [List.length_append] at hl;obtain ⟨P,g1,g2,_,_⟩:=Pg.dV ks (deep+1) (Pg.put (Hm.tag Hm.cS) s);have g3:(Pg.b9 ks (deep+1) (Pg.put (Hm.tag Hm.cS) s)).t.length+1000≤1000000000000:=by rw [g1]; simp only [Pg.put,List.length_append]; omega
  have q1:=zY Hm.cS (by decide) hP hB A2 ks.length c2 deep (by omega) (by omega) g3 (fun w' h' hb'=>aG.out w' hb' _ h' (by simp only [Pg.put]; omega) (by simp only [Pg.put,List.length_append]; omega));rw [← hT] at q1;replace q1:=Lib.hid q1;clear hT e e' aG g1 g2 g3 QG hP;go_enter Tryz.func46,Tryz.ntmps46;go_wp2_with fail;refine q1.out.mono ?_;rintro e w2 ⟨rfl,h2,hb3⟩;replace hb3:=Lib.hid hb3;replace h2:=Lib.hid h2;go_wp2_with fail;go_end0;exact ⟨rfl,h2.out,hb3.out⟩
 by_cases h4:kd=4
 ·subst h4
  have e:Pg.inl (.mk 4 tx ds ks) deep s=Pg.put (Hm.shut [97]) (Pg.b9 ks (deep+1) (Pg.put (Hm.anchor ds) s)):=by unfold Pg.inl; rw [if_neg (by decide),if_neg (by decide),if_neg (by decide),if_neg (by decide),if_pos rfl]
  have e':Hm.inl (.mk 4 tx ds ks)=Hm.anchor ds++Hm.b9 ks++Hm.shut [97]:=by unfold Hm.inl; rw [if_neg (by decide),if_neg (by decide),if_neg (by decide),if_neg (by decide),if_pos rfl]
  rw [e] at hT;rw [e'] at hl;simp only [List.length_append] at hl;obtain ⟨P,g1,g2,_,_⟩:=Pg.dV ks (deep+1) (Pg.put (Hm.anchor ds) s);have g3:(Pg.b9 ks (deep+1) (Pg.put (Hm.anchor ds) s)).t.length+1000≤1000000000000:=by rw [g1]; simp only [Pg.put,List.length_append]; omega
  have q0:=fun w=>AY ds w Bm;have ea:[[60,97,32,104,114,101,102,61,34],Es.page (Hm.goes ds),[34,62]].flatten=Hm.anchor ds:=by simp [Hm.anchor]
  obtain ⟨G,hG⟩:∃ G,G=Es.page (Hm.goes ds):=⟨_,rfl⟩
  rw [← hG] at q0 ea;have q1:=fun (w1:World) (h1:eK B b s w1) (hB1:B≤w1.heap.size)=>bQ [[60,97,32,104,114,101,102,61,34],G,[34,62]] #[.string ⟨#[60,97,32,104,114,101,102,61,34]⟩,.string (bs G),.string ⟨#[34,62]⟩] rfl h1 hB1 (by simp) (by rw [ea]; omega) (n:=3) (c:=3) rfl;simp only [ea] at q1;have q2:=fun (w1:World) (h1:eK B b (Pg.put (Hm.anchor ds) s) w1) (hb1:Below B w w1)=>aG.out w1 hb1 _ h1 (by simp only [Pg.put]; omega) (by simp only [Pg.put,List.length_append]; omega);have eb:[[60,47,97,62]].flatten=Hm.shut [97]:=by simp [Hm.shut]
  obtain ⟨S2,ij⟩:∃ S2,S2=Pg.b9 ks (deep+1) (Pg.put (Hm.anchor ds) s):=⟨_,rfl⟩
  rw [← ij] at q2 g3 hT;have q3:=fun (w1:World) (h1:eK B b S2 w1) (hB1:B≤w1.heap.size)=>bQ [[60,47,97,62]] #[.string ⟨#[60,47,97,62]⟩] rfl h1 hB1 (by simp) (by simp; omega) (n:=1) (c:=1) rfl;simp only [eb] at q3;rw [← hT] at q3;rw [show ((deep+1:Nat):Int)=(deep:Int)+1 from by omega] at q2;have hx3:Hid (∀ w',Below B w w'→w'.cell? ⟨g,o+3,none⟩=some (.slice A2 ks.length c2)):=Lib.hid (fun w' hb'=>(hb'.cell (p:=⟨g,o+3,none⟩) hgB).trans x3);replace q1:=Lib.hid q1;replace q2:=Lib.hid q2;replace q3:=Lib.hid q3;replace hP:=Lib.hid hP;clear hT e e' aG g1 g2 g3 QG hG ij ea eb x1 x3;go_enter Tryz.func46,Tryz.ntmps46;go_wp2_with fail;refine (q0 _).mono ?_;rintro e w1 ⟨rfl,hb1⟩;have q4:=Lib.hid (q1.out w1 (fe hP.out hb1) (Nat.le_trans hB hb1.size));have hb2:=Lib.hid (hb1.mono hB);clear hb1 q1 q0 x0 x2;go_wp2_with fail;refine q4.out.mono ?_;rintro e w2 ⟨rfl,h2,hb3⟩;have hb4:=Lib.hid (hb2.out.trans hb3);have y3:=hx3.out w2 hb4.out;have q5:=Lib.hid (q2.out w2 h2 hb4.out);clear hb3 q4 q2 h2;go_wp2_with fail;refine q5.out.mono ?_;rintro e w3 ⟨rfl,h3,hb5⟩;have iV:=Lib.hid (hb4.out.trans hb5);have q6:=Lib.hid (q3.out w3 h3 (Nat.le_trans hB iV.out.size));clear hb5 q5 q3 h3 y3;go_wp2_with fail;refine q6.out.mono ?_;rintro e w4 ⟨rfl,h4,dI⟩;have mu:=Lib.hid (iV.out.trans dI);replace h4:=Lib.hid h4;clear dI q6;go_wp2_with fail;go_end0;exact ⟨rfl,h4.out,mu.out⟩
 by_cases h5:kd=5
 ·subst h5
  have e:Pg.inl (.mk 5 tx ds ks) deep s=Pg.put [10] s:=by unfold Pg.inl; rw [if_neg (by decide),if_neg (by decide),if_neg (by decide),if_neg (by decide),if_neg (by decide),if_pos rfl]
  have e':Hm.inl (.mk 5 tx ds ks)=[10]:=by unfold Hm.inl; rw [if_neg (by decide),if_neg (by decide),if_neg (by decide),if_neg (by decide),if_neg (by decide),if_pos rfl]
  rw [e] at hT;rw [e'] at hl;simp only [List.length_singleton] at hl;have q1:=bQ [[10]] #[.string ⟨#[10]⟩] rfl hP hB (by simp) (by simp; omega) (n:=1) (c:=1) rfl;have eb:[[(10:UInt8)]].flatten=[10]:=rfl;rw [eb,← hT] at q1;replace q1:=Lib.hid q1;clear hT e e' aG QG hP eb;go_enter Tryz.func46,Tryz.ntmps46;go_wp2_with fail;refine q1.out.mono ?_;rintro e w2 ⟨rfl,h2,hb3⟩;replace hb3:=Lib.hid hb3;replace h2:=Lib.hid h2;go_wp2_with fail;go_end0;exact ⟨rfl,h2.out,hb3.out⟩
 have e:Pg.inl (.mk kd tx ds ks) deep s=s:=by unfold Pg.inl; rw [if_neg h0,if_neg h1,if_neg h2,if_neg h3,if_neg h4,if_neg h5]
 rw [e] at hT;have uH:Hid (T w):=Lib.hid (by rw [hT]; exact hP);have n0:(kd==0)=false:=by rw [beq_eq_false_iff_ne]; exact h0
 have n1:(kd==1)=false:=by rw [beq_eq_false_iff_ne]; exact h1
 have n2:(kd==2)=false:=by rw [beq_eq_false_iff_ne]; exact h2
 have n3:(kd==3)=false:=by rw [beq_eq_false_iff_ne]; exact h3
 have n4:(kd==4)=false:=by rw [beq_eq_false_iff_ne]; exact h4
 have n5:(kd==5)=false:=by rw [beq_eq_false_iff_ne]; exact h5
 clear hT e aG QG hP h0 h1 h2 h3 h4 h5;go_enter Tryz.func46,Tryz.ntmps46;go_wp2_with fail;go_end0;exact ⟨rfl,uH.out,Below.refl _ _⟩
theorem GY (N:Nat) (ih:Fk N):By (N+1):=by
 intro ts hN hF hl A c css w Q B b s deep hQ hB hR hI hP hd hr hx;have ZK:=Lib.hid hR;have hI':=Lib.hid hI;have Wf:=Lib.hid hP;have hF':=Lib.hid hF;have ih':=Lib.hid ih;obtain ⟨R,IF⟩:∃ R,R=Pg.b9 ts deep s:=⟨_,rfl⟩
 rw [← IF];replace IF:=Lib.hid IF;clear ih hR hI hP hF;go_enter Tryz.func32,Tryz.ntmps32;go_wp2_with fail
 go_loopw [10] (fun u wr=>∃ (k:Nat) (st:Pg.St),k≤ts.length∧u=.int .i64 (k:Int)∧Hid (R=Pg.b9 (ts.drop k) deep st)∧Hid (st.read+Hm.F8 (ts.drop k)≤500000000000)∧Hid (st.t.length+(Hm.b9 (ts.drop k)).length≤500000000000)∧Hid (eK B b st wr)∧Hid (Below B w wr)) (fun u _=>ts.length - (intOf u).toNat)
 case atStart=>exact ⟨0,s,by omega,rfl,IF,Lib.hid (by simpa using hr),Lib.hid (by simpa using hx),Wf,Lib.hid (Below.refl _ _)⟩
 case round =>
  obtain ⟨k,st,hk,rfl,YX,TI,W7,TU,hb⟩:=hrel;clear IF;rcases Nat.lt_or_eq_of_le hk with hlt | yb
  ·obtain ⟨cs,i1,i2⟩:=Oc hI'.out hlt
   obtain ⟨bA,o,rfl,EM,hcell⟩:=ZK.out.2 (by omega);have V0:=hF'.out ts[k] (List.getElem_mem hlt);have X2:SizeOf.sizeOf ts[k]≤N:=by have:=List.sizeOf_lt_of_mem (List.getElem_mem hlt); omega
   have qz:=YX.out;have F3:=TI.out;have V1:=W7.out;rw [List.drop_eq_getElem_cons hlt] at qz F3 V1;simp only [Pg.b9] at qz;simp only [Hm.F8] at F3;simp only [Hm.b9,List.length_append] at V1;clear YX TI W7;generalize ts[k]=t at *;have hi1:=i1;obtain ⟨kd,tx,ds,ks⟩:=t;obtain ⟨A2,c2,css2,rfl,hc2,hR2,j8⟩:=BP i1;have hbl:=hQ _ EM;have mw:=hb.out;have hcl:∀ j,j<4→wr.cell? ⟨bA,o+k*4+j,none⟩=([.int .i64 kd,.string (bs tx),.string (bs ds),.slice A2 ks.length c2]:List Value)[j]?:=fun j hj=>by
    have h9:=(mw.cell (p:=⟨bA,o+(k*4+j),none⟩) hbl).trans (hcell _ _ ((i2 j hj).trans (by
     rcases (show j=0∨j=1∨j=2∨j=3 by omega) with rfl | rfl | rfl | rfl<;>rfl):css.flatten[k*4+j]?=some (([.int .i64 kd,.string (bs tx),.string (bs ds),.slice A2 ks.length c2]:List Value).getD j default)))
    rw [Nat.add_assoc,h9];rcases (show j=0∨j=1∨j=2∨j=3 by omega) with rfl | rfl | rfl | rfl<;>rfl
   have x1:wr.cell? ⟨bA,o+k*4+1,none⟩=some (.string (bs tx)):=hcl 1 (by omega);have x2:wr.cell? ⟨bA,o+k*4+2,none⟩=some (.string (bs ds)):=hcl 2 (by omega);obtain ⟨Vc,Bm,hF2⟩:tx.length≤1000000000∧ds.length≤1000000000∧ks.length≤1000000000:=by cases V0 with | mk a b c d=>exact ⟨a,b,c⟩
   have hz1:=au tx;have hz2:=au ds;have him:Hm.im (.mk kd tx ds ks)=tx.length+ds.length+1+Hm.F8 ks:=by simp only [Hm.im]
   have how:Pg.own (.mk kd tx ds ks)=tx.length+ds.length:=rfl;rw [how] at qz;have wY:bA≠b:=by
    have h9:=TU.out;unfold eK at h9;obtain ⟨_,_,_,WW,_,_⟩:=lz h9;omega
   have htk:=C3 (fe TU.out (bq wr)) (tx.length+ds.length) deep (x:=(tx.length:Int)+(ds.length:Int)) (by omega) (by omega) (by omega) (by omega) (by omega);have ug:=Nat.le_trans hB mw.size;have pU:(Pg.takes (tx.length+ds.length) deep st).read=st.read+(1+(tx.length+ds.length)):=rfl;have Qj:(Pg.takes (tx.length+ds.length) deep st).t=st.t:=rfl;have aG:=fun (w':World) (hb':Below B wr w') (h':eK B b (Pg.takes (tx.length+ds.length) deep st) w') (hd':deep≤65536) =>
    ih'.out (.mk kd tx ds ks) X2 V0 _ w' Q B b bA (o+k*4) _ deep hQ (Nat.le_trans ug hb'.size) (EA (fun b h=>(mw.trans hb').block b (hQ b h)) (fun _ h=>h) hi1) (fun j hj=>(hb'.cell (p:=⟨bA,o+k*4+j,none⟩) hbl).trans (hcl j hj)) hbl h' hd' (by rw [pU,how]; omega) (by rw [Qj]; omega)
   obtain ⟨P,g1,g2,g3,_⟩:=Pg.wv (.mk kd tx ds ks) deep (Pg.takes (tx.length+ds.length) deep st);rw [pU,how] at g3;rw [Qj] at g1;have Tt:(Pg.takes (tx.length+ds.length) deep st).full=false→deep≤65536:=by
    intro h9;simp only [Pg.takes,Bool.or_eq_false_iff,decide_eq_false_iff_not] at h9;omega
   have MN:(Pg.inl (.mk kd tx ds ks) deep (Pg.takes (tx.length+ds.length) deep st)).read+Hm.F8 (ts.drop (k+1))≤500000000000:=by omega
   have XK:(Pg.inl (.mk kd tx ds ks) deep (Pg.takes (tx.length+ds.length) deep st)).t.length+(Hm.b9 (ts.drop (k+1))).length≤500000000000:=by rw [g1,List.length_append]; omega
   obtain ⟨S1,hS1⟩:∃ S1,S1=Pg.takes (tx.length+ds.length) deep st:=⟨_,rfl⟩
   rw [← hS1] at qz htk aG Tt MN XK;obtain ⟨S2,ij⟩:∃ S2,S2=Pg.inl (.mk kd tx ds ks) deep S1:=⟨_,rfl⟩
   rw [← ij] at qz aG MN XK;replace htk:=Lib.hid htk;replace aG:=Lib.hid aG;replace MN:=Lib.hid MN;replace XK:=Lib.hid XK;clear g1 g2 g3 hS1 ij pU Qj hcl hcell i1 i2 hi1 hR2 j8 V0 X2 F3 V1 him how;obtain ⟨fl,hfl⟩:∃ fl,fl=S1.full:=⟨_,rfl⟩
   rw [← hfl] at qz htk Tt;have hw1:IntKind.i64.wrap ((tx.length:Int)+(ds.length:Int))=(tx.length:Int)+(ds.length:Int):=by rw [IntKind.wrap_i64]; omega
   cases fl with
   | true =>
    rw [if_pos rfl] at qz;clear aG Tt hfl;replace qz:=Lib.hid qz;replace hQ:=Lib.hid hQ;replace EM:=Lib.hid EM;go_upto_region 4 with fail
    refine aE (.rd 0 (.rd 1 (.rd 2 (.rd 3 (.rd 4 (.rd 5 (.rd 6 (.rd 7 (.rd 8 (.rd 9 (.rd 10 (.rd 11 (.rd 12 (.mk 13 (.rd 14 .fin))))))))))))))) (fun u:World=>u.cell? ⟨bA,o+k*4+1,none⟩=some (.string (bs tx))∧u.cell? ⟨bA,o+k*4+2,none⟩=some (.string (bs ds))) ⟨x1,x2⟩ (by kernel_rfl) (by kernel_rfl) (by kernel_rfl) (fun _ _ d _ _ h=>by cases d<;>exact h) ?_
    iterate 4 (first | refine an rfl ?_ | (refine ay rfl ?_; intro K hK; go_simp; refine hK _ _ _ ?_; clear hK K))
    refine aH (.string (bs tx)) rfl rfl ⟨x1,x2⟩ (fun u hu=>by have u1:=hu.1; go_simp) ?_
    iterate 4 (first | refine an rfl ?_ | (refine ay rfl ?_; intro K hK; go_simp; refine hK _ _ _ ?_; clear hK K))
    refine aH (.string (bs ds)) rfl rfl ⟨x1,x2⟩ (fun u hu=>by have u1:=hu.2; go_simp) ?_
    (first | refine an rfl ?_ | (refine ay rfl ?_; intro K hK; go_simp; refine hK _ _ _ ?_; clear hK K))
    refine aH (.int .i64 ((tx.length:Int)+(ds.length:Int))) rfl rfl ⟨x1,x2⟩ (fun u _=>by go_simp<;>first | exact hw1 | rw [hw1]) ?_
    (first | refine an rfl ?_ | (refine ay rfl ?_; intro K hK; go_simp; refine hK _ _ _ ?_; clear hK K))
    refine aC rfl ?_;intro K hK;go_simp;refine htk.out.mono ?_;rintro e w7 ⟨rfl,h7,dI,WG⟩;refine ⟨_,⟨(dI.cell (p:=⟨bA,o+k*4+1,none⟩) hbl).trans x1,(dI.cell (p:=⟨bA,o+k*4+2,none⟩) hbl).trans x2⟩,fun _ h=>h,hK _ _ _ ?_⟩;clear hK K
    (first | refine an rfl ?_ | (refine ay rfl ?_; intro K hK; go_simp; refine hK _ _ _ ?_; clear hK K))
    refine aM ?_;have mu:Below B wr w7:=(Below.drew (Below.refl B wr)).trans dI;have uH:Hid (eK B b R w7):=Lib.hid (by rw [qz.out]; exact h7);have Bj:=Lib.hid (hb.out.trans mu);clear dI mu WG h7 htk;go_wp2_with fail;exact bodyPost_ret (results_none rfl ..) rfl ⟨rfl,uH.out,Bj.out⟩
   | false =>
    rw [if_neg (by decide)] at qz;have hd6:=Tt rfl;clear Tt hfl;replace qz:=Lib.hid qz;replace hQ:=Lib.hid hQ;replace EM:=Lib.hid EM;go_upto_region 4 with fail
    refine aE (.rd 0 (.rd 1 (.rd 2 (.rd 3 (.rd 4 (.rd 5 (.rd 6 (.rd 7 (.rd 8 (.rd 9 (.rd 10 (.rd 11 (.rd 12 (.mk 13 (.rd 14 .fin))))))))))))))) (fun u:World=>u.cell? ⟨bA,o+k*4+1,none⟩=some (.string (bs tx))∧u.cell? ⟨bA,o+k*4+2,none⟩=some (.string (bs ds))) ⟨x1,x2⟩ (by kernel_rfl) (by kernel_rfl) (by kernel_rfl) (fun _ _ d _ _ h=>by cases d<;>exact h) ?_
    iterate 4 (first | refine an rfl ?_ | (refine ay rfl ?_; intro K hK; go_simp; refine hK _ _ _ ?_; clear hK K))
    refine aH (.string (bs tx)) rfl rfl ⟨x1,x2⟩ (fun u hu=>by have u1:=hu.1; go_simp) ?_
    iterate 4 (first | refine an rfl ?_ | (refine ay rfl ?_; intro K hK; go_simp; refine hK _ _ _ ?_; clear hK K))
    refine aH (.string (bs ds)) rfl rfl ⟨x1,x2⟩ (fun u hu=>by have u1:=hu.2; go_simp) ?_
    (first | refine an rfl ?_ | (refine ay rfl ?_; intro K hK; go_simp; refine hK _ _ _ ?_; clear hK K))
    refine aH (.int .i64 ((tx.length:Int)+(ds.length:Int))) rfl rfl ⟨x1,x2⟩ (fun u _=>by go_simp<;>first | exact hw1 | rw [hw1]) ?_
    (first | refine an rfl ?_ | (refine ay rfl ?_; intro K hK; go_simp; refine hK _ _ _ ?_; clear hK K))
    refine aC rfl ?_;intro K hK;go_simp;refine htk.out.mono ?_;rintro e w7 ⟨rfl,h7,dI,WG⟩;refine ⟨_,⟨(dI.cell (p:=⟨bA,o+k*4+1,none⟩) hbl).trans x1,(dI.cell (p:=⟨bA,o+k*4+2,none⟩) hbl).trans x2⟩,fun _ h=>h,hK _ _ _ ?_⟩;clear hK K
    (first | refine an rfl ?_ | (refine ay rfl ?_; intro K hK; go_simp; refine hK _ _ _ ?_; clear hK K))
    refine aM ?_;have mu:Below B wr w7:=(Below.drew (Below.refl B wr)).trans dI;have q1:=Lib.hid (aG.out w7 mu h7 hd6);have Bj:=Lib.hid (hb.out.trans mu);clear dI mu WG h7 htk aG x1 x2 mw;go_wp2_with fail;refine q1.out.mono ?_;rintro e w8 ⟨rfl,h8,uO⟩;have VR:=Lib.hid (Bj.out.trans uO);replace h8:=Lib.hid h8;clear uO q1;go_wp2_with fail
    go_roundw
    case rel=>exact ⟨k+1,S2,by omega,by go_num,qz,MN,XK,h8,VR⟩
    case measure=>simp [intOf]; omega
  ·subst yb
   have uH:Hid (eK B b R wr):=Lib.hid (by rw [YX.out,List.drop_length]; exact TU.out);clear YX TI W7;go_wp2_with fail;go_end0;exact ⟨rfl,uH.out,hb.out⟩
end Go.Proofs.YtddkjkockbcamaaGreatDoor
