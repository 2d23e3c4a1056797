/- BkRun BkMass BkRef BkDeep HmPage HmPg PgMem PgTakes PgPut PgInl -/
import Derived.Test.YtddkjkockbcamaaGreatDoorHe27
import Derived.Test.YtddkjkockbcamaaGreatDoorHe05
import Derived.Test.YtddkjkockbcamaaGreatDoorHe08
import Derived.Test.YtddkjkockbcamaaGreatDoorHe17
import Derived.Test.YtddkjkockbcamaaGreatDoorHe03
import Derived.Test.YtddkjkockbcamaaGreatDoorHe19
import Derived.Test.YtddkjkockbcamaaGreatDoorHe22
import Derived.Test.YtddkjkockbcamaaGreatDoorHe21
import Derived.Deep.DeepCutAuto
import Derived.Test.YtddkjkockbcamaaGreatDoorHe30
set_option maxHeartbeats 16000000
set_option maxRecDepth 100000
namespace Go.Proofs.YtddkjkockbcamaaGreatDoor
open Go.RowKit
attribute [local go_sem] aD av aq
def Bk.bh (l:List UInt8):List (List UInt8):=(Ln.texts (l.take 65536) 0).map Ru.text
theorem yB {ts:List (List UInt8)}{k:Nat}(h:¬ k<ts.length) (st:Bk.St):Bk.lines ((ts.drop k).map Ru.text) k st=st:=by
 rw [List.drop_eq_nil_of_le (by omega)];rfl
end Go.Proofs.YtddkjkockbcamaaGreatDoor
namespace Go.Proofs.YtddkjkockbcamaaGreatDoor
end Go.Proofs.YtddkjkockbcamaaGreatDoor
namespace Go.Proofs.YtddkjkockbcamaaGreatDoor
open Go.RowKit
def Bk.Pu (l:List UInt8):Bk.Tree:=Bk.Yl (Bk.run (Bk.bh l)).ns 0
end Go.Proofs.YtddkjkockbcamaaGreatDoor
namespace Go.Proofs.YtddkjkockbcamaaGreatDoor
namespace Bk
end Bk
end Go.Proofs.YtddkjkockbcamaaGreatDoor
namespace Go.Proofs.YtddkjkockbcamaaGreatDoor
open Go.RowKit
attribute [local go_sem] aD av aq
mutual
def Bk.tx (N:Nat):Bk.Tree→Prop
 | .mk _ _ t _ _ ks=>t.length≤N∧Bk.txs N ks
def Bk.txs (N:Nat):List Bk.Tree→Prop
 | []=>True
 | x::r=>Bk.tx N x∧Bk.txs N r
end
def Hm.page (l:List UInt8):List UInt8:=Hm.blk (Hm.lR (Bk.Pu l))
end Go.Proofs.YtddkjkockbcamaaGreatDoor
namespace Go.Proofs.YtddkjkockbcamaaGreatDoor.Pg
open Go.Lib
structure St where
 t:List UInt8
 read:Nat
 full:Bool
def start:St:=⟨[],0,false⟩
def takes (n deep:Nat) (s:St):St:=⟨s.t,s.read+(1+n),((s.full||decide (65536<deep))||decide (2147483647<s.read+(1+n)))||decide (2147483647<s.t.length)⟩
def put (l:List UInt8) (s:St):St:=⟨s.t++l,s.read,s.full⟩
def own:Hm.Hi→Nat
 | .mk _ t d _=>t.length+d.length
mutual
def inl:Hm.Hi→Nat→St→St
 | .mk k t d ks,deep,s =>
  if k=0 then put (Es.page t) s
  else if k=1 then put (Hm.shut Hm.cB) (put (Es.page t) (put (Hm.tag Hm.cB) s))
  else if k=2 then put (Hm.shut Hm.BP) (bz ks (deep+1) (put (Hm.tag Hm.BP) s))
  else if k=3 then put (Hm.shut Hm.cM) (bz ks (deep+1) (put (Hm.tag Hm.cM) s))
  else if k=4 then put (Hm.shut [97]) (bz ks (deep+1) (put (Hm.anchor d) s))
  else if k=5 then put [10] s
  else s
def bz:List Hm.Hi→Nat→St→St
 | [],_,s=>s
 | x::r,deep,s=>if (takes (own x) deep s).full=true then takes (own x) deep s else bz r deep (inl x deep (takes (own x) deep s))
end
mutual
theorem vt:∀ (x:Hm.Hi) (deep:Nat) (s:St),∃ P,(inl x deep s).t=s.t++P∧P.length≤(Hm.inl x).length∧(inl x deep s).read+(1+own x)≤s.read+Hm.im x∧∀ r st,Hm.iH (P++r) st=Hm.iH r st
 | .mk k t d ks,deep,s=>by
  have hp:∀ b∈Es.page t,b≠60:=fun b hb=>(Es.nh t b hb).1;unfold inl Hm.inl;simp only [own,Hm.im]
  by_cases h0:k=0
  ·rw [if_pos h0,if_pos h0]
   exact ⟨Es.page t,rfl,Nat.le_refl _,by simp only [put];omega,fun r st=>Hm.bM _ _ _ hp⟩
  rw [if_neg h0,if_neg h0]
  by_cases h1:k=1
  ·rw [if_pos h1,if_pos h1]
   refine ⟨Hm.tag Hm.cB++Es.page t++Hm.shut Hm.cB,by simp only [put,List.append_assoc],Nat.le_refl _,by simp only [put];omega,fun r st=>?_⟩;rw [List.append_assoc,List.append_assoc,Hm.dH Hm.sw,Hm.bM _ _ _ hp,Hm.cG Hm.sw]
  rw [if_neg h1,if_neg h1]
  by_cases h2:k=2
  ·rw [if_pos h2,if_pos h2]
   obtain ⟨P,e1,e2,e3,e4⟩:=dU ks (deep+1) (put (Hm.tag Hm.BP) s);refine ⟨Hm.tag Hm.BP++P++Hm.shut Hm.BP,?_,?_,?_,fun r st=>?_⟩
   ·simp only [put] at e1 ⊢;rw [e1];simp only [List.append_assoc]
   ·simp only [List.length_append];omega
   ·simp only [put] at e3 ⊢;omega
   ·rw [List.append_assoc,List.append_assoc,Hm.dH Hm.SF,e4,Hm.cG Hm.SF]
  rw [if_neg h2,if_neg h2]
  by_cases h3:k=3
  ·rw [if_pos h3,if_pos h3]
   obtain ⟨P,e1,e2,e3,e4⟩:=dU ks (deep+1) (put (Hm.tag Hm.cM) s);refine ⟨Hm.tag Hm.cM++P++Hm.shut Hm.cM,?_,?_,?_,fun r st=>?_⟩
   ·simp only [put] at e1 ⊢;rw [e1];simp only [List.append_assoc]
   ·simp only [List.length_append];omega
   ·simp only [put] at e3 ⊢;omega
   ·rw [List.append_assoc,List.append_assoc,Hm.dH Hm.pZ,e4,Hm.cG Hm.pZ]
  rw [if_neg h3,if_neg h3]
  by_cases h4:k=4
  ·rw [if_pos h4,if_pos h4]
   obtain ⟨P,e1,e2,e3,e4⟩:=dU ks (deep+1) (put (Hm.anchor d) s);refine ⟨Hm.anchor d++P++Hm.shut [97],?_,?_,?_,fun r st=>?_⟩
   ·simp only [put] at e1 ⊢;rw [e1];simp only [List.append_assoc]
   ·simp only [List.length_append];omega
   ·simp only [put] at e3 ⊢;omega
   ·rw [List.append_assoc,List.append_assoc,Hm.xy,e4,Hm.cG Hm.nmA]
  rw [if_neg h4,if_neg h4]
  by_cases h5:k=5
  ·rw [if_pos h5,if_pos h5]
   exact ⟨[10],rfl,Nat.le_refl _,by simp only [put];omega,fun r st=>Hm.bM _ _ _ (by decide)⟩
  rw [if_neg h5,if_neg h5];exact ⟨[],by simp,by simp,by omega,fun r st=>rfl⟩
theorem dU:∀ (l:List Hm.Hi) (deep:Nat) (s:St),∃ P,(bz l deep s).t=s.t++P∧P.length≤(Hm.bz l).length∧(bz l deep s).read≤s.read+Hm.xK l∧∀ r st,Hm.iH (P++r) st=Hm.iH r st
 | [],_,s=>⟨[],by simp [bz],by simp,by simp [bz],fun r st=>rfl⟩
 | x::l,deep,s=>by
  unfold bz;simp only [Hm.bz,Hm.xK,List.length_append];have hx:1+own x≤Hm.im x:=by obtain ⟨k,t,d,ks⟩:=x;simp only [own,Hm.im];omega
  split
  ·refine ⟨[],by simp [takes],by simp,by simp only [takes];omega,fun r st=>rfl⟩
  ·obtain ⟨P,e1,e2,e3,e4⟩:=vt x deep (takes (own x) deep s)
   obtain ⟨P2,f1,f2,f3,f4⟩:=dU l deep (inl x deep (takes (own x) deep s));refine ⟨P++P2,?_,?_,?_,fun r st=>?_⟩
   ·rw [f1,e1];simp [takes]
   ·rw [List.length_append];omega
   ·simp only [takes] at e3 f3;simp only [takes];omega
   ·rw [List.append_assoc,e4,f4]
end
mutual
def JZ:Hm.Hi→Nat
 | .mk _ _ _ ks=>D5 ks+1
def D5:List Hm.Hi→Nat
 | []=>0
 | x::r=>max (JZ x) (D5 r)
end
theorem DV {n deep:Nat}{s:St}(h1:s.full=false) (h2:deep≤65536) (h3:s.read+(1+n)≤2147483647) (h4:s.t.length≤2147483647):takes n deep s=⟨s.t,s.read+(1+n),false⟩:=by
 unfold takes;rw [h1,decide_eq_false (by omega:¬ 65536<deep),decide_eq_false (by omega:¬ 2147483647<s.read+(1+n)),decide_eq_false (by omega:¬ 2147483647<s.t.length)]
 rfl
mutual
theorem Ta:∀ (x:Hm.Hi) (deep:Nat) (s:St),s.full=false→deep+JZ x≤65537→s.read+Hm.im x≤2147483647+(1+own x)→s.t.length+(Hm.inl x).length≤2147483647→(inl x deep s).full=false∧(inl x deep s).t=s.t++Hm.inl x
 | .mk k t d ks,deep,s,hf,hd,hr,hl=>by
  simp only [JZ] at hd;simp only [own,Hm.im] at hr;unfold Hm.inl at hl;unfold inl Hm.inl
  by_cases h0:k=0
  ·rw [if_pos h0,if_pos h0];exact ⟨hf,rfl⟩
  rw [if_neg h0] at hl;rw [if_neg h0,if_neg h0]
  by_cases h1:k=1
  ·rw [if_pos h1,if_pos h1];exact ⟨hf,by simp only [put,List.append_assoc]⟩
  rw [if_neg h1] at hl;rw [if_neg h1,if_neg h1]
  by_cases h2:k=2
  ·rw [if_pos h2] at hl
   rw [if_pos h2,if_pos h2];simp only [List.length_append] at hl;obtain ⟨e1,e2⟩:=mJ ks (deep+1) (put (Hm.tag Hm.BP) s) hf (by omega) (by simp only [put];omega) (by simp only [put,List.length_append];omega);exact ⟨e1,by simp only [put] at e2 ⊢;rw [e2];simp only [List.append_assoc]⟩
  rw [if_neg h2] at hl;rw [if_neg h2,if_neg h2]
  by_cases h3:k=3
  ·rw [if_pos h3] at hl
   rw [if_pos h3,if_pos h3];simp only [List.length_append] at hl;obtain ⟨e1,e2⟩:=mJ ks (deep+1) (put (Hm.tag Hm.cM) s) hf (by omega) (by simp only [put];omega) (by simp only [put,List.length_append];omega);exact ⟨e1,by simp only [put] at e2 ⊢;rw [e2];simp only [List.append_assoc]⟩
  rw [if_neg h3] at hl;rw [if_neg h3,if_neg h3]
  by_cases h4:k=4
  ·rw [if_pos h4] at hl
   rw [if_pos h4,if_pos h4];simp only [List.length_append] at hl;obtain ⟨e1,e2⟩:=mJ ks (deep+1) (put (Hm.anchor d) s) hf (by omega) (by simp only [put];omega) (by simp only [put,List.length_append];omega);exact ⟨e1,by simp only [put] at e2 ⊢;rw [e2];simp only [List.append_assoc]⟩
  rw [if_neg h4,if_neg h4]
  by_cases h5:k=5
  ·rw [if_pos h5,if_pos h5];exact ⟨hf,rfl⟩
  rw [if_neg h5,if_neg h5];exact ⟨hf,by simp⟩
theorem mJ:∀ (l:List Hm.Hi) (deep:Nat) (s:St),s.full=false→deep+D5 l≤65537→s.read+Hm.xK l≤2147483647→s.t.length+(Hm.bz l).length≤2147483647→(bz l deep s).full=false∧(bz l deep s).t=s.t++Hm.bz l
 | [],_,s,hf,_,_,_=>by simp [bz,Hm.bz,hf]
 | x::l,deep,s,hf,hd,hr,hl=>by
  have hx:1+own x≤Hm.im x:=by obtain ⟨k,t,d,ks⟩:=x;simp only [own,Hm.im];omega
  have hx1:1≤JZ x:=by obtain ⟨k,t,d,ks⟩:=x;simp only [JZ];omega
  simp only [D5] at hd;simp only [Hm.xK] at hr;simp only [Hm.bz,List.length_append] at hl;have ht:=DV (n:=own x) hf (deep:=deep) (by omega) (by omega) (by omega);unfold bz;rw [ht,if_neg (by simp)];obtain ⟨e1,e2⟩:=Ta x deep ⟨s.t,s.read+(1+own x),false⟩ rfl (by omega) (by simp only;omega) (by simp only;omega);obtain ⟨P,g1,g2,g3,_⟩:=vt x deep ⟨s.t,s.read+(1+own x),false⟩;simp only at e2 g3;obtain ⟨f1,f2⟩:=mJ l deep _ e1 (by omega) (by omega) (by rw [e2,List.length_append];omega);refine ⟨f1,?_⟩;rw [f2,e2];simp only [Hm.bz,List.append_assoc]
end
mutual
theorem XY:∀ x:Il.In,Hm.im (Hm.AZ x)=Il.ig x
 | .mk _ _ _ ks=>by simp only [Hm.AZ,Hm.im,Il.ig];rw [Gn ks]
theorem Gn:∀ l:List Il.In,Hm.xK (Hm.fN l)=Il.bu l
 | []=>rfl
 | x::r=>by simp only [Hm.fN,Hm.xK,Il.bu];rw [XY x,Gn r]
end
def para (t:List UInt8):List UInt8:=(bz (Hm.fN (Il.parse t)) 1 start).t
theorem Dr (t r:List UInt8) (st:List (List UInt8)):Hm.iH (para t++r) st=Hm.iH r st:=by
 obtain ⟨P,e1,_,_,e4⟩:=dU (Hm.fN (Il.parse t)) 1 start;unfold para;rw [e1];exact e4 r st
theorem L5 {t:List UInt8}(h:t.length≤4000000):(para t).length≤210*t.length:=by
 obtain ⟨P,e1,e2,_,_⟩:=dU (Hm.fN (Il.parse t)) 1 start;have h2:=Hm.yg h;unfold para;unfold Hm.para at h2;rw [e1];simp only [start,List.nil_append];omega
mutual
def blk:Hm.Hb→List UInt8
 | .mk k lv t _ _ ks =>
  if k=0 then bS ks
  else if k=1 then Hm.tag Hm.ga++[10]++bS ks++Hm.shut Hm.ga++[10]
  else if k=2 then Hm.tag Hm.H6++[10]++bS ks++Hm.shut Hm.H6++[10]
  else if k=3 then Hm.tag Hm.IS++[10]++bS ks++Hm.shut Hm.IS++[10]
  else if k=4 then Hm.tag Hm.nP++para t++Hm.shut Hm.nP++[10]
  else if k=5 then Hm.tag (Hm.nH lv)++para t++Hm.shut (Hm.nH lv)++[10]
  else if k=6 then [60,104,114,32,47,62,10]
  else if k=7 then Hm.tag Hm.Fw++Hm.tag Hm.cB++Es.page t++Hm.shut Hm.cB++Hm.shut Hm.Fw++[10]
  else []
def bS:List Hm.Hb→List UInt8
 | []=>[]
 | x::r=>blk x++bS r
end
theorem mO:∀ a b,bS (a++b)=bS a++bS b
 | [],b=>by simp [bS]
 | x::r,b=>by rw [List.cons_append];simp only [bS];rw [mO r b,List.append_assoc]
theorem J1 (a:List Hm.Hb) (x:Hm.Hb):bS (a++[x])=bS a++blk x:=by rw [mO];simp [bS]
theorem yS {l:List Hm.Hb}{k:Nat}(h:k<l.length):bS (l.take (k+1))=bS (l.take k)++blk l[k]:=by rw [List.take_succ_eq_append_getElem h,J1]
theorem JQ (l:List Hm.Hb) (k:Nat):(bS (l.take k)).length≤(bS l).length:=by
 conv=>rhs;rw [← List.take_append_drop k l,mO,List.length_append]
 omega
theorem Nl {l:List Hm.Hb}{k:Nat}(h:k<l.length):(blk l[k]).length+(bS (l.take k)).length≤(bS l).length:=by
 have:=JQ l (k+1);rw [yS h,List.length_append] at this;omega
mutual
theorem HR:∀ (x:Hm.Hb) (r:List UInt8) (st:List (List UInt8)),Hm.iH (blk x++r) st=Hm.iH r st
 | .mk k lv t inf ln ks,r,st=>by
  have hp:∀ b∈Es.page t,b≠60:=fun b hb=>(Es.nh t b hb).1;have hn:∀ b∈([10]:List UInt8),b≠60:=by decide
  unfold blk
  by_cases h0:k=0
  ·rw [if_pos h0,mY ks]
  rw [if_neg h0]
  by_cases h1:k=1
  ·rw [if_pos h1];simp only [List.append_assoc];rw [Hm.dH Hm.H7,Hm.bM _ _ _ hn,mY ks,Hm.cG Hm.H7,Hm.bM _ _ _ hn]
  rw [if_neg h1]
  by_cases h2:k=2
  ·rw [if_pos h2];simp only [List.append_assoc];rw [Hm.dH Hm.Xb,Hm.bM _ _ _ hn,mY ks,Hm.cG Hm.Xb,Hm.bM _ _ _ hn]
  rw [if_neg h2]
  by_cases h3:k=3
  ·rw [if_pos h3];simp only [List.append_assoc];rw [Hm.dH Hm.Yt,Hm.bM _ _ _ hn,mY ks,Hm.cG Hm.Yt,Hm.bM _ _ _ hn]
  rw [if_neg h3]
  by_cases h4:k=4
  ·rw [if_pos h4];simp only [List.append_assoc];rw [Hm.dH Hm.nmP,Dr,Hm.cG Hm.nmP,Hm.bM _ _ _ hn]
  rw [if_neg h4]
  by_cases h5:k=5
  ·rw [if_pos h5];simp only [List.append_assoc];rw [Hm.dH (Hm.nmH lv),Dr,Hm.cG (Hm.nmH lv),Hm.bM _ _ _ hn]
  rw [if_neg h5]
  by_cases h6:k=6
  ·rw [if_pos h6]
   show Hm.iH (60::([104,114,32,47]++62::(10::r))) st=_;rw [Hm.qO (Hm.kI [104,114,32,47] (10::r) (by decide))];show Hm.iH (10::r) st=_;exact Hm.zh (by decide) r st
  rw [if_neg h6]
  by_cases h7:k=7
  ·rw [if_pos h7];simp only [List.append_assoc];rw [Hm.dH Hm.Tn,Hm.dH Hm.sw,Hm.bM _ _ _ hp,Hm.cG Hm.sw,Hm.cG Hm.Tn,Hm.bM _ _ _ hn]
  rw [if_neg h7];rfl
theorem mY:∀ (l:List Hm.Hb) (r:List UInt8) (st:List (List UInt8)),Hm.iH (bS l++r) st=Hm.iH r st
 | [],_,_=>by simp [bS]
 | x::l,r,st=>by
  simp only [bS];rw [List.append_assoc,HR x,mY l]
end
theorem CW (x:Hm.Hb):Hm.iH (blk x) []=true:=by
 have:=HR x [] [];rw [List.append_nil] at this;rw [this];rfl
inductive oE (N:Nat):Hm.Hb→Prop where
 | mk {k lv:Int}{t inf:List UInt8}{ln:Int}{ks:List Hm.Hb}:t.length≤N→(∀ x∈ks,oE N x)→oE N (.mk k lv t inf ln ks)
mutual
def rD:Hm.Hb→Nat
 | .mk _ _ _ _ _ ks=>vE ks+1
def vE:List Hm.Hb→Nat
 | []=>0
 | x::r=>max (rD x) (vE r)
end
def SB:Hm.Hb→Nat
 | .mk _ _ t _ _ _=>t.length
mutual
def bn:Hm.Hb→Nat
 | .mk _ _ t _ _ ks=>t.length+1+sY ks
def sY:List Hm.Hb→Nat
 | []=>0
 | x::r=>bn x+sY r
end
def page (l:List UInt8):List UInt8:=blk (Hm.lR (Bk.Pu l))
end Go.Proofs.YtddkjkockbcamaaGreatDoor.Pg
namespace Go.Proofs.YtddkjkockbcamaaGreatDoor
open Go.RowKit
def Nv (B b:Nat) (p:Value) (l:List UInt8) (rd:Nat) (fu:Bool) (w:World):Prop :=
 B≤b∧∃ v,w.heap[b]? = some (.cells #[p,v,.int .i64 (rd:Int),.int .i64 2147483647,.bool fu] 56 (0,0))∧w.ownsRow B 5 1 v l.length (aj l)
def Tv (B b:Nat) (l:List UInt8) (rd:Nat) (fu:Bool) (w:World):Prop:=Nv B b (.pointer none) l rd fu w∨Nv B b (.pointer (some ⟨b,0,none⟩)) l rd fu w
def eJ (B b:Nat) (s:Pg.St) (w:World):Prop:=Tv B b s.t s.read s.full w
theorem tw {w:World}{B size n g:Nat}{E:TypeId}{v:Value}{xs:List Value}(h:w.ownsRow B E size v n xs) (hv:v.ownBlock=some g):∃ cur fr,w.heap[g]? = some (.cells cur E fr):=by
 rcases h.2 with ⟨rfl,_⟩ | ⟨g',cap,cur,rfl,_,hg,_⟩
 ·cases hv
 ·simp [Value.ownBlock] at hv
  subst hv;exact ⟨_,_,hg⟩
section
variable {w w':World}{B b rd:Nat}{fu:Bool}{p:Value}{l:List UInt8}
theorem qm {v:Value}{xs:List Value}{n:Nat}{cs:Array Value}(hb:w.heap[b]? = some (.cells cs 56 (0,0))) (h:w.ownsRow B 5 1 v n xs):v.ownBlock≠some b:=fun e=>by
 obtain ⟨cur,fr,hg⟩:=tw h e;rw [hb] at hg;injection hg with hg;injection hg with _ hg _;exact absurd hg (by decide)
theorem Vu:liesAt Tryz.prog Tryz.prog.depth 56 (5 / Tryz.prog.cellsOf 56) 0 54 1=true:=by kernel_rfl
theorem MS (b:Nat) (w:World) (h0:w.cell? ⟨b,0,none⟩=some (.pointer none)) (hsh:w.shape? b=some (56,5)) (hfz:w.frozen? ⟨b,0,none⟩=false) :
  Calls Tryz.prog 125 #[.pointer (some ⟨b,0,none⟩)] w fun e w'=>e=.returned (.tuple #[])∧w'=w.setCell ⟨b,0,none⟩ (.pointer (some ⟨b,0,none⟩)):=by
 obtain ⟨j,hj,hjs⟩:=Option.map_eq_some_iff.1 BK;go_enter Tryz.func125,Tryz.ntmps125;go_wp2;rw [Lib.run_to_unsafe w ⟨b,0,none⟩ Tryz.underlying52 Tryz.underlying209 hj (by rw [hjs];decide) hsh (Nat.zero_lt_succ 4)];simp only [Result.andThen];rw [Oper.upon_value];go_wp2;rw [run_callFunc_extern Tryz.func168 (by kernel_rfl) (by kernel_rfl) (by kernel_rfl) (e:=Extern.AbiNoEscape.same) (by kernel_rfl)];rw [Lib.run_noEscape];simp only [Result.andThen];rw [Oper.upon_value];go_wp2;rw [Lib.run_from_unsafe w ⟨b,0,none⟩ Tryz.underlying209 Tryz.underlying52 hj hsh Vu];simp only [Result.andThen];rw [Oper.upon_value];go_wp2;go_end0;exact ⟨rfl,rfl⟩
theorem MI (h:Tv B b l rd fu w) :
  Calls Tryz.prog 125 #[.pointer (some ⟨b,0,none⟩)] w fun e w'=>e=.returned (.tuple #[])∧(Nv B b (.pointer (some ⟨b,0,none⟩)) l rd fu w'∧Below B w w'∧Lib.OthersKept 5 (some b) w w'):=by
 rcases h with ⟨hB,v,hb,ho⟩ | h
 ·refine (MS b w (ah hb 0) (by simp [World.shape?,hb]) (aW hb 0)).mono ?_
  rintro e w' ⟨rfl,rfl⟩;exact ⟨rfl,⟨hB,v,heap_setCell_same w b 0 _ _ _ hb,World.ownsRow.kept ho (ax w ⟨b,0,none⟩ _) (.inr (qm hb ho))⟩,(Below.refl B w).setCell (p:=⟨b,0,none⟩) hB _,(Lib.OthersKept.refl _ _ w).setCell ⟨b,0,none⟩ rfl _⟩
 ·have hc:w.cell? ⟨b,0,none⟩=some (.pointer (some ⟨b,0,none⟩)):=by obtain ⟨_,v,hb,_⟩:=h;exact ah hb 0
  refine (xg b w hc).mono ?_;rintro e w' ⟨rfl,rfl⟩;exact ⟨rfl,h,Below.refl B _,Lib.OthersKept.refl _ _ _⟩
theorem U7 {v v':Value}{l':List UInt8}(hB:B≤b) (hb:w.heap[b]? = some (.cells #[p,v,.int .i64 (rd:Int),.int .i64 2147483647,.bool fu] 56 (0,0))) (ho:w.ownsRow B 5 1 v' l'.length (aj l')):Nv B b p l' rd fu (w.setCell ⟨b,1,none⟩ v') :=
 ⟨hB,v',heap_setCell_same w b 1 #[p,v,.int .i64 (rd:Int),.int .i64 2147483647,.bool fu] _ v' hb,World.ownsRow.kept ho (ax w ⟨b,1,none⟩ _) (.inr (qm hb ho))⟩
theorem U9 (h:Tv B b l rd fu w) (t:List UInt8) (hlen:l.length+t.length≤1000000000000) (hBw:B≤w.heap.size) :
  Calls Tryz.prog 98 #[.pointer (some ⟨b,0,none⟩),.string (bs t)] w fun e w'=>(∃ v,e=.returned v)∧(Tv B b (l++t) rd fu w'∧Below B w w'∧Lib.OthersKept 5 (some b) w w'):=by
 have hsz:=au t;go_enter Tryz.func98,Tryz.ntmps98;go_wp2_with (go_at_call 125;refine (MI h).mono ?_);rintro e w1 ⟨rfl,h1,hb1,oZ⟩;obtain ⟨hB,v,hbk,hown⟩:=h1;have c0:w1.cell? ⟨b,0,none⟩=some (.pointer (some ⟨b,0,none⟩)):=ah hbk 0;have c1:w1.cell? ⟨b,1,none⟩=some v:=ah hbk 1;have hne:=qm hbk hown;have hB1:=Nat.le_trans hBw hb1.size;have hlt:b<w1.heap.size:=(Array.getElem?_eq_some_iff.1 hbk).1;go_wp2_with (at_builtin;refine iC rfl _ _ rfl kR (by kernel_rfl) Tryz.underlying9 rfl hown rfl (by omega) hB1 ?_);intro v' w2 ho hg jB;have hb2:=(hg.out.block b hlt (fun e=>hne e.symm)).trans hbk;have d0:w2.cell? ⟨b,0,none⟩=some (.pointer (some ⟨b,0,none⟩)):=ah hb2 0;have d1:w2.cell? ⟨b,1,none⟩=some v:=ah hb2 1;have f1:w2.frozen? ⟨b,1,none⟩=false:=aW hb2 1;obtain ⟨A',cp,rfl,Vp⟩:=ak ho;have hgr:=Lib.hid hg.out;have aL:=U7 (l':=l++t) hB hb2 (by rw [List.length_append];exact ho);replace aL:=Lib.hid aL;have hown':=Lib.hid hown;clear ho hg hown;go_wp2;go_ret2;exact ⟨⟨_,rfl⟩,Or.inr aL.out,(hb1.trans jB).setCell (p:=⟨b,1,none⟩) hB _,(oZ.grown hgr.out (Lib.ownsRowF_kind (World.ownsRowF_of hown'.out))).setCell ⟨b,1,none⟩ rfl _⟩
end
theorem IN {B b g0:Nat}{w:World}(p:Value) (r1 r2 r3:Value) (A:Option Addr) (c:Nat) (hBw:B≤w.heap.size) (hbk:w.heap[b]? = some (.cells #[p,.slice A 0 c,r1,r2,r3] 56 (0,0))) (hA:A=none∧c=0∨∃ g cur,A=some ⟨g,0,none⟩∧w.heap[g]? = some (.cells cur 5 (0,0))) (_:g0=0) :
  Calls Tryz.prog 27 #[.pointer (some ⟨b,0,none⟩)] w fun e w'=>e=.returned (.string ⟨#[]⟩)∧Below B w w':=by
 have mixed:Tryz.prog.follows .mixedOrders=true:=by kernel_rfl
 have hUS:=fun (W:World) (q:Option Addr)=>Lib.run_unsafeString_none (P:=Tryz.prog) W 90 3 9 q;have hlt:b<w.heap.size:=(Array.getElem?_eq_some_iff.1 hbk).1;have c1:w.drew.cell? ⟨b,1,none⟩=some (.slice A 0 c):=ah (w1:=w.drew) hbk 1;rcases hA with ⟨rfl,rfl⟩ | ⟨g,cur,rfl,hg⟩
 ·have Zl:(Builtin.unsafeSliceData_ #[27] 90 #[.slice none 0 0]).run Tryz.prog w.drew=.ok (.pointer none) w.drew:=rfl
  go_enter Tryz.func27,Tryz.ntmps27;go_wp2
  go_region_o
  all_goals (go_wp2;go_ret;exact ⟨rfl,Below.drew (Below.refl B w)⟩)
 ·by_cases hc0:c=0
  ·subst hc0
   have Zl:(Builtin.unsafeSliceData_ #[27] 90 #[.slice (some ⟨g,0,none⟩) 0 0]).run Tryz.prog w.drew=.ok (.pointer (some ⟨w.drew.heap.size,0,none⟩)) (w.drew.alloc (.view ⟨g,0,none⟩ 5)) :=
    Lib.run_unsafeSliceData_zero w.drew _ _ 5 Tryz.underlying90 ⟨g,0,none⟩ 0 (5,cur.size) (by have hg':w.drew.heap[g]? = some (.cells cur 5 (0,0)):=hg;simp [World.shape?,hg'])
   have c2:(w.drew.alloc (.view ⟨g,0,none⟩ 5)).cell? ⟨b,1,none⟩=some (.slice (some ⟨g,0,none⟩) 0 0):=by
    have:(w.drew.alloc (.view ⟨g,0,none⟩ 5)).heap[b]? = _:=(Lib.alloc_old w.drew _ b hlt).trans hbk;exact ah this 1
   have c3:(w.alloc (.view ⟨g,0,none⟩ 5)).drew.cell? ⟨b,1,none⟩=some (.slice (some ⟨g,0,none⟩) 0 0):=c2;have c0:w.cell? ⟨b,1,none⟩=some (.slice (some ⟨g,0,none⟩) 0 0):=c1;go_enter Tryz.func27,Tryz.ntmps27;go_wp2
   go_region_o
   all_goals (go_wp2;go_ret;exact ⟨rfl,(Below.drew (Below.refl B w)).alloc hBw _⟩)
  ·have Zl:(Builtin.unsafeSliceData_ #[27] 90 #[.slice (some ⟨g,0,none⟩) 0 c]).run Tryz.prog w.drew=.ok (.pointer (some ⟨g,0,none⟩)) w.drew :=
    Lib.run_unsafeSliceData_row _ _ _ _ _ _ hc0
   clear hc0;go_enter Tryz.func27,Tryz.ntmps27;go_wp2
   go_region_o
   all_goals (go_wp2;go_ret;exact ⟨rfl,Below.drew (Below.refl B w)⟩)
theorem QZ {B b:Nat}{w:World}{p r1 r2 r3:Value}{l:List UInt8}{g cap:Nat}(_:B≤b) (h0:l≠[]) (hbk:w.heap[b]? = some (.cells #[p,.slice (some ⟨g,0,none⟩) l.length cap,r1,r2,r3] 56 (0,0))) (hown:w.ownsRow B 5 1 (.slice (some ⟨g,0,none⟩) l.length cap) l.length (aj l)) (hlen:l.length≤1000000000000) :
  Calls Tryz.prog 27 #[.pointer (some ⟨b,0,none⟩)] w fun e w'=>e=.returned (.string (bs l))∧Below B w w':=by
 have hl0:l.length≠0:=by simpa using h0
 obtain ⟨hBg,F4⟩:=World.ownsRow.lt hown g rfl;obtain ⟨cur,fr,hg⟩:=tw hown rfl;have hcap:l.length≤cap∧l.length≤cur.size:=by
  rcases hown.2 with ⟨e,_⟩ | ⟨g',cap',cur',e,_,hg',h3,h4,h5,h6⟩
  ·cases e
  ·injection e with e1 e2 e3
   injection e1 with e1;injection e1 with e1;subst e1 e3;rw [hg] at hg';injection hg' with hg';injection hg' with hg' _ _;subst hg';omega
 have c1:w.drew.cell? ⟨b,1,none⟩=some (.slice (some ⟨g,0,none⟩) l.length cap):=ah (w1:=w.drew) hbk 1;have Zl:(Builtin.unsafeSliceData_ #[27] 90 #[.slice (some ⟨g,0,none⟩) l.length cap]).run Tryz.prog w.drew=.ok (.pointer (some ⟨g,0,none⟩)) w.drew :=
  Lib.run_unsafeSliceData_row _ _ _ _ _ _ (by omega)
 have hUS:(Builtin.unsafeString_ #[90,3] 9 #[.pointer (some ⟨g,0,none⟩),.int .i64 l.length]).run Tryz.prog w.drew=.ok (.string (bs l)) (w.drew.freeze ⟨g,0,none⟩ l.length):=by
  refine Lib.run_unsafeString_row w.drew 90 3 9 5 Tryz.underlying90 (by kernel_rfl) g cur.size (by have hg':w.drew.heap[g]? = some (.cells cur 5 fr):=hg;simp [World.shape?,hg']) l h0 hcap.2 (by omega) ?_;intro j x hx;exact World.ownsRow.cells hown (g:=g) rfl j (.int .u8 x.toNat) (by simp [aj,bv,hx])
 have mixed:Tryz.prog.follows .mixedOrders=true:=by kernel_rfl
 clear hl0 hcap;go_enter Tryz.func27,Tryz.ntmps27;go_wp2
 go_region_o
 all_goals (go_wp2;go_ret;exact ⟨rfl,Lib.below_freeze (Below.drew (Below.refl B w)) (p:=⟨g,0,none⟩) hBg _⟩)
theorem zL {B b rd:Nat}{fu:Bool}{l:List UInt8}{w:World}(h:Tv B b l rd fu w) (hlen:l.length≤1000000000000) (hBw:B≤w.heap.size) :
  Calls Tryz.prog 27 #[.pointer (some ⟨b,0,none⟩)] w fun e w'=>e=.returned (.string (bs l))∧Below B w w':=by
 obtain ⟨p,hB,v,hbk,hown⟩:∃ p,Nv B b p l rd fu w:=by rcases h with h | h<;>exact ⟨_,h⟩
 by_cases h0:l=[]
 ·subst h0
  have ho:=hown;rcases hown.2 with ⟨rfl,_⟩ | ⟨g,cap,cur,rfl,_,hg,_⟩
  ·exact IN (g0:=0) p _ _ _ none 0 hBw hbk (.inl ⟨rfl,rfl⟩) rfl
  ·exact IN (g0:=0) p _ _ _ (some ⟨g,0,none⟩) cap hBw hbk (.inr ⟨g,cur,rfl,hg⟩) rfl
 ·obtain ⟨g,cp,rfl,_,_,_⟩:=fT hown (List.length_pos_iff.2 h0)
  exact QZ hB h0 hbk hown hlen
end Go.Proofs.YtddkjkockbcamaaGreatDoor
namespace Go.Proofs.YtddkjkockbcamaaGreatDoor
open Go.RowKit
attribute [local go_sem] aD av aq
theorem lz {B b rd:Nat}{fu:Bool}{l:List UInt8}{w:World}(h:Tv B b l rd fu w):∃ p v,(p=.pointer none∨p=.pointer (some ⟨b,0,none⟩))∧B≤b∧w.heap[b]? = some (.cells #[p,v,.int .i64 (rd:Int),.int .i64 2147483647,.bool fu] 56 (0,0))∧w.ownsRow B 5 1 v l.length (aj l):=by
 rcases h with ⟨hB,v,hb,ho⟩ | ⟨hB,v,hb,ho⟩
 ·exact ⟨_,v,.inl rfl,hB,hb,ho⟩
 ·exact ⟨_,v,.inr rfl,hB,hb,ho⟩
theorem sJ {B b rd:Nat}{fu:Bool}{l:List UInt8}{w:World}{p v:Value}(hp:p=.pointer none∨p=.pointer (some ⟨b,0,none⟩)) (hB:B≤b) (hb:w.heap[b]? = some (.cells #[p,v,.int .i64 (rd:Int),.int .i64 2147483647,.bool fu] 56 (0,0))) (ho:w.ownsRow B 5 1 v l.length (aj l)):Tv B b l rd fu w:=by
 rcases hp with rfl | rfl
 ·exact .inl ⟨hB,v,hb,ho⟩
 ·exact .inr ⟨hB,v,hb,ho⟩
theorem eL (w:World) (a:Addr) (k:Nat) (u:Value) (h:k≠a.block):(w.setCell a u).heap[k]? = w.heap[k]? := Below.heap_setCell w a u k h
def Xh (b:Nat) (p:Value) (A:Option Addr) (n c rd:Nat) (u:World):Prop:=∃ y:Bool,u.heap[b]? = some (.cells #[p,.slice A n c,.int .i64 (rd:Int),.int .i64 2147483647,.bool y] 56 (0,0))
theorem kN {P:Program}{ev:Operand→Value}{T:TypeId}{p x:Operand}{o:Oper}{w:World}{g off:Nat}{y:Bool}{z0:Value}(ho:o.op=.store T p x) (hsz:(sizeOf T).run P w=.ok 1 w) (hp:ev p=.pointer (some ⟨g,off,none⟩)) (hx:ev x=.bool y)
  (h0:w.cell? ⟨g,off,none⟩=some z0) (hf:∀ j,w.frozen? ⟨g,j,none⟩=false) :
  (execOp ev o).run P w=.ok .skip (w.setCell ⟨g,off,none⟩ (.bool y)):=by
 unfold execOp;rw [ho];go_simp
theorem US {B b rd:Nat}{fu:Bool}{l:List UInt8}{w:World}(h:Tv B b l rd fu w) (_:l.length≤1000000000000) :
  Calls Tryz.prog 58 #[.pointer (some ⟨b,0,none⟩)] w fun e w'=>e=.returned (.int .i64 (l.length:Int))∧w'=w:=by
 obtain ⟨p,v,_,_,hb,ho⟩:=lz h;obtain ⟨A,c,rfl,hc⟩:=ak ho;have c1:w.cell? ⟨b,1,none⟩=some (.slice A l.length c):=ah hb 1;clear h hb ho;go_enter Tryz.func58,Tryz.ntmps58;go_wp2;go_ret;exact ⟨rfl,rfl⟩
theorem EE {B b:Nat}{s:Pg.St}{w:World}(h:eJ B b s w) (n deep:Nat) {x:Int}(hx:x=(n:Int)) (hn:n≤1000000000000) (hd:deep≤1000000000000) (hr:s.read≤1000000000000) (hl:s.t.length≤1000000000000) :
  Calls Tryz.prog 43 #[.pointer (some ⟨b,0,none⟩),.int .i64 x,.int .i64 (deep:Int)] w fun e w'=>e=.returned (.bool (!(Pg.takes n deep s).full))∧eJ B b (Pg.takes n deep s) w'∧Below B w w'∧∀ g,g≠b→w'.heap[g]? = w.heap[g]? := by
 subst hx;obtain ⟨l,rd,fu⟩:=s;simp only at hr hl;unfold eJ at h ⊢;simp only at h;obtain ⟨p,v,hp,hB,hb,ho⟩:=lz h;obtain ⟨A,c,rfl,hc⟩:=ak ho;have z2:w.cell? ⟨b,2,none⟩=some (.int .i64 (rd:Int)):=ah hb 2;have f2:w.frozen? ⟨b,2,none⟩=false:=aW hb 2;obtain ⟨rd2,hrd⟩:∃ rd2,rd2=rd+(1+n):=⟨_,rfl⟩
 have ach:rd2≤3000000000000:=by omega
 have hri:(rd:Int)+(1+(n:Int))=(rd2:Int):=by omega
 unfold Pg.takes;simp only;rw [← hrd];obtain ⟨F,hF⟩:∃ F,F=(((fu||decide (65536<deep))||decide (2147483647<rd2))||decide (2147483647<l.length)):=⟨_,rfl⟩
 rw [← hF];replace hF:=Lib.hid hF;have Zs:∃ w1,w1=w.setCell ⟨b,2,none⟩ (.int .i64 (rd2:Int)):=⟨_,rfl⟩
 obtain ⟨w1,hw1⟩:=Zs;have mX:w1.heap[b]? = some (.cells #[p,.slice A l.length c,.int .i64 (rd2:Int),.int .i64 2147483647,.bool fu] 56 (0,0)):=by rw [hw1];exact heap_setCell_same w b 2 _ _ _ hb
 have hb1:w1.drew.heap[b]? = some (.cells #[p,.slice A l.length c,.int .i64 (rd2:Int),.int .i64 2147483647,.bool fu] 56 (0,0)):=mX;have ho1:w1.drew.ownsRow B 5 1 (.slice A l.length c) l.length (aj l):=by
  have h9:w1.ownsRow B 5 1 (.slice A l.length c) l.length (aj l):=by rw [hw1];exact World.ownsRow.kept ho (ax w ⟨b,2,none⟩ _) (.inr (qm hb ho))
  exact h9
 have oa:Below B w w1:=by rw [hw1];exact (Below.refl B w).setCell (p:=⟨b,2,none⟩) hB _
 have EP:∀ g,g≠b→w1.heap[g]? = w.heap[g]? := by intro g hg;rw [hw1];exact eL w ⟨b,2,none⟩ g _ hg
 have hlen:=Lib.hid (US (sJ hp hB hb1 ho1) hl);replace hrd:=Lib.hid hrd;clear h hb ho;go_enter Tryz.func43,Tryz.ntmps43;go_upto_region 2 with fail
 try rw [hri]
 rw [← hw1];clear hw1 z2 f2 hri;cases fu with
 | true =>
  obtain rfl:F=true:=by rw [hF.out];simp
  clear hF;refine aE (.rd 0 (.rd 1 (.rd 2 (.rd 3 (.mk 4 (.rd 5 (.rd 6 (.rd 7 (.rd 8 (.rd 9 (.rd 10 (.rd 11 (.rd 12 (.rd 13 (.rd 14 (.rd 15 (.rd 16 (.rd 17 (.rd 18 (.rd 19 (.rd 20 (.rd 21 (.rd 22 (.rd 23 (.rd 25 (.rd 26 (.rd 27 (.rd 28 (.mk 24 (.rd 29 (.rd 30 (.rd 31 (.rd 32 (.mk 33 .fin)))))))))))))))))))))))))))))))))) (Xh b p A l.length c rd2) ⟨_,hb1⟩ (by kernel_rfl) (by kernel_rfl) (by kernel_rfl) (fun _ _ d _ _ h=>by cases d<;>exact h) ?_;have z4:w1.drew.cell? ⟨b,4,none⟩=some (.bool true):=ah hb1 4
  iterate 4 (first | refine an rfl ?_ | (refine ay rfl ?_;intro K hK;go_simp;refine hK _ _ _ ?_;clear hK K))
  refine aC rfl ?_;intro K hK;go_simp;refine ⟨_,⟨_,hb1⟩,fun _ h=>h,hK _ _ _ ?_⟩;clear hK K
  iterate 23 (first | refine an rfl ?_ | (refine ay rfl ?_;intro K hK;go_simp;refine hK _ _ _ ?_;clear hK K))
  refine aC rfl ?_;intro K hK;go_simp;refine hK _ _ _ ?_;clear hK K
  iterate 4 (first | refine an rfl ?_ | (refine ay rfl ?_;intro K hK;go_simp;refine hK _ _ _ ?_;clear hK K))
  refine bg rfl rfl (kN (y:=true) rfl (by kernel_rfl) rfl rfl (ah hb1 4) (fun j=>aW hb1 j)) ⟨true,heap_setCell_same _ b 4 _ _ _ hb1⟩ ?_;refine aM ?_;have hb2:=heap_setCell_same w1.drew b 4 _ _ (.bool true) hb1;have ho2:=World.ownsRow.kept ho1 (ax w1.drew ⟨b,4,none⟩ (.bool true)) (.inr (qm hb1 ho1));have iq:=(oa.drew).setCell (p:=⟨b,4,none⟩) hB (.bool true);have iL:∀ g,g≠b→(w1.drew.setCell ⟨b,4,none⟩ (.bool true)).heap[g]? = w.heap[g]? := fun g hg=>(eL _ ⟨b,4,none⟩ g _ hg).trans (EP g hg);generalize w1.drew.setCell ⟨b,4,none⟩ (.bool true)=W5 at hb2 ho2 iq iL ⊢;have c4:W5.cell? ⟨b,4,none⟩=some (.bool true):=ah hb2 4;have aL:=Lib.hid (sJ hp hB hb2 ho2);replace iq:=Lib.hid iq;replace iL:=Lib.hid iL;clear hlen oa EP hb1 ho1 hb2 ho2 z4;go_wp2_with fail;go_ret;exact ⟨rfl,aL.out,iq.out,iL.out⟩
 | false =>
  by_cases h1:65536<deep
  ·have t1:(65536:Int)<(deep:Int):=by omega
   obtain rfl:F=true:=by rw [hF.out,decide_eq_true h1];simp
   clear hF;refine aE (.rd 0 (.rd 1 (.rd 2 (.rd 3 (.mk 4 (.rd 5 (.rd 6 (.rd 7 (.rd 8 (.rd 9 (.rd 10 (.rd 11 (.rd 12 (.rd 13 (.rd 14 (.rd 15 (.rd 16 (.rd 17 (.rd 18 (.rd 19 (.rd 20 (.rd 21 (.rd 22 (.rd 23 (.rd 25 (.rd 26 (.rd 27 (.rd 28 (.mk 24 (.rd 29 (.rd 30 (.rd 31 (.rd 32 (.mk 33 .fin)))))))))))))))))))))))))))))))))) (Xh b p A l.length c rd2) ⟨_,hb1⟩ (by kernel_rfl) (by kernel_rfl) (by kernel_rfl) (fun _ _ d _ _ h=>by cases d<;>exact h) ?_;have z4:w1.drew.cell? ⟨b,4,none⟩=some (.bool false):=ah hb1 4
   iterate 4 (first | refine an rfl ?_ | (refine ay rfl ?_;intro K hK;go_simp;refine hK _ _ _ ?_;clear hK K))
   refine aC rfl ?_;intro K hK;go_simp;refine ⟨_,⟨_,hb1⟩,fun _ h=>h,hK _ _ _ ?_⟩;clear hK K
   iterate 23 (first | refine an rfl ?_ | (refine ay rfl ?_;intro K hK;go_simp;refine hK _ _ _ ?_;clear hK K))
   refine aC rfl ?_;intro K hK;go_simp;refine hK _ _ _ ?_;clear hK K
   iterate 4 (first | refine an rfl ?_ | (refine ay rfl ?_;intro K hK;go_simp;refine hK _ _ _ ?_;clear hK K))
   refine bg rfl rfl (kN (y:=true) rfl (by kernel_rfl) rfl rfl (ah hb1 4) (fun j=>aW hb1 j)) ⟨true,heap_setCell_same _ b 4 _ _ _ hb1⟩ ?_;refine aM ?_;have hb2:=heap_setCell_same w1.drew b 4 _ _ (.bool true) hb1;have ho2:=World.ownsRow.kept ho1 (ax w1.drew ⟨b,4,none⟩ (.bool true)) (.inr (qm hb1 ho1));have iq:=(oa.drew).setCell (p:=⟨b,4,none⟩) hB (.bool true);have iL:∀ g,g≠b→(w1.drew.setCell ⟨b,4,none⟩ (.bool true)).heap[g]? = w.heap[g]? := fun g hg=>(eL _ ⟨b,4,none⟩ g _ hg).trans (EP g hg);generalize w1.drew.setCell ⟨b,4,none⟩ (.bool true)=W5 at hb2 ho2 iq iL ⊢;have c4:W5.cell? ⟨b,4,none⟩=some (.bool true):=ah hb2 4;have aL:=Lib.hid (sJ hp hB hb2 ho2);replace iq:=Lib.hid iq;replace iL:=Lib.hid iL;clear hlen oa EP hb1 ho1 hb2 ho2 z4;go_wp2_with fail;go_ret;exact ⟨rfl,aL.out,iq.out,iL.out⟩
  ·have t1:¬ (65536:Int)<(deep:Int):=by omega
   by_cases h2:2147483647<rd2
   ·have t2:(2147483647:Int)<(rd2:Int):=by omega
    obtain rfl:F=true:=by rw [hF.out,decide_eq_true h2];simp
    clear hF;refine aE (.rd 0 (.rd 1 (.rd 2 (.rd 3 (.mk 4 (.rd 5 (.rd 6 (.rd 7 (.rd 8 (.rd 9 (.rd 10 (.rd 11 (.rd 12 (.rd 13 (.rd 14 (.rd 15 (.rd 16 (.rd 17 (.rd 18 (.rd 19 (.rd 20 (.rd 21 (.rd 22 (.rd 23 (.rd 25 (.rd 26 (.rd 27 (.rd 28 (.mk 24 (.rd 29 (.rd 30 (.rd 31 (.rd 32 (.mk 33 .fin)))))))))))))))))))))))))))))))))) (Xh b p A l.length c rd2) ⟨_,hb1⟩ (by kernel_rfl) (by kernel_rfl) (by kernel_rfl) (fun _ _ d _ _ h=>by cases d<;>exact h) ?_;have z4:w1.drew.cell? ⟨b,4,none⟩=some (.bool false):=ah hb1 4
    iterate 4 (first | refine an rfl ?_ | (refine ay rfl ?_;intro K hK;go_simp;refine hK _ _ _ ?_;clear hK K))
    refine aC rfl ?_;intro K hK;go_simp;refine ⟨_,⟨_,hb1⟩,fun _ h=>h,hK _ _ _ ?_⟩;clear hK K
    iterate 8 (first | refine an rfl ?_ | (refine ay rfl ?_;intro K hK;go_simp;refine hK _ _ _ ?_;clear hK K))
    refine aH (.int .i64 (rd2:Int)) rfl rfl ⟨_,hb1⟩ (fun u hu=>by obtain ⟨y,hu⟩:=hu;have u1:u.cell? ⟨b,2,none⟩=some (.int .i64 (rd2:Int)):=ah hu 2;go_simp) ?_
    iterate 3 (first | refine an rfl ?_ | (refine ay rfl ?_;intro K hK;go_simp;refine hK _ _ _ ?_;clear hK K))
    refine aH (.int .i64 2147483647) rfl rfl ⟨_,hb1⟩ (fun u hu=>by obtain ⟨y,hu⟩:=hu;have u1:u.cell? ⟨b,3,none⟩=some (.int .i64 2147483647):=ah hu 3;go_simp) ?_
    iterate 10 (first | refine an rfl ?_ | (refine ay rfl ?_;intro K hK;go_simp;refine hK _ _ _ ?_;clear hK K))
    refine aC rfl ?_;intro K hK;go_simp;refine hK _ _ _ ?_;clear hK K
    iterate 4 (first | refine an rfl ?_ | (refine ay rfl ?_;intro K hK;go_simp;refine hK _ _ _ ?_;clear hK K))
    refine bg rfl rfl (kN (y:=true) rfl (by kernel_rfl) rfl rfl (ah hb1 4) (fun j=>aW hb1 j)) ⟨true,heap_setCell_same _ b 4 _ _ _ hb1⟩ ?_;refine aM ?_;have hb2:=heap_setCell_same w1.drew b 4 _ _ (.bool true) hb1;have ho2:=World.ownsRow.kept ho1 (ax w1.drew ⟨b,4,none⟩ (.bool true)) (.inr (qm hb1 ho1));have iq:=(oa.drew).setCell (p:=⟨b,4,none⟩) hB (.bool true);have iL:∀ g,g≠b→(w1.drew.setCell ⟨b,4,none⟩ (.bool true)).heap[g]? = w.heap[g]? := fun g hg=>(eL _ ⟨b,4,none⟩ g _ hg).trans (EP g hg);generalize w1.drew.setCell ⟨b,4,none⟩ (.bool true)=W5 at hb2 ho2 iq iL ⊢;have c4:W5.cell? ⟨b,4,none⟩=some (.bool true):=ah hb2 4;have aL:=Lib.hid (sJ hp hB hb2 ho2);replace iq:=Lib.hid iq;replace iL:=Lib.hid iL;clear hlen oa EP hb1 ho1 hb2 ho2 z4;go_wp2_with fail;go_ret;exact ⟨rfl,aL.out,iq.out,iL.out⟩
   ·have t2:¬ (2147483647:Int)<(rd2:Int):=by omega
    by_cases h3:2147483647<l.length
    ·have t3:(2147483647:Int)<(l.length:Int):=by omega
     obtain rfl:F=true:=by rw [hF.out,decide_eq_true h3];simp
     clear hF;refine aE (.rd 0 (.rd 1 (.rd 2 (.rd 3 (.mk 4 (.rd 5 (.rd 6 (.rd 7 (.rd 8 (.rd 9 (.rd 10 (.rd 11 (.rd 12 (.rd 13 (.rd 14 (.rd 15 (.rd 16 (.rd 17 (.rd 18 (.rd 19 (.rd 20 (.rd 21 (.rd 22 (.rd 23 (.rd 25 (.rd 26 (.rd 27 (.rd 28 (.mk 24 (.rd 29 (.rd 30 (.rd 31 (.rd 32 (.mk 33 .fin)))))))))))))))))))))))))))))))))) (Xh b p A l.length c rd2) ⟨_,hb1⟩ (by kernel_rfl) (by kernel_rfl) (by kernel_rfl) (fun _ _ d _ _ h=>by cases d<;>exact h) ?_;have z4:w1.drew.cell? ⟨b,4,none⟩=some (.bool false):=ah hb1 4
     iterate 4 (first | refine an rfl ?_ | (refine ay rfl ?_;intro K hK;go_simp;refine hK _ _ _ ?_;clear hK K))
     refine aC rfl ?_;intro K hK;go_simp;refine ⟨_,⟨_,hb1⟩,fun _ h=>h,hK _ _ _ ?_⟩;clear hK K
     iterate 8 (first | refine an rfl ?_ | (refine ay rfl ?_;intro K hK;go_simp;refine hK _ _ _ ?_;clear hK K))
     refine aH (.int .i64 (rd2:Int)) rfl rfl ⟨_,hb1⟩ (fun u hu=>by obtain ⟨y,hu⟩:=hu;have u1:u.cell? ⟨b,2,none⟩=some (.int .i64 (rd2:Int)):=ah hu 2;go_simp) ?_
     iterate 3 (first | refine an rfl ?_ | (refine ay rfl ?_;intro K hK;go_simp;refine hK _ _ _ ?_;clear hK K))
     refine aH (.int .i64 2147483647) rfl rfl ⟨_,hb1⟩ (fun u hu=>by obtain ⟨y,hu⟩:=hu;have u1:u.cell? ⟨b,3,none⟩=some (.int .i64 2147483647):=ah hu 3;go_simp) ?_
     iterate 9 (first | refine an rfl ?_ | (refine ay rfl ?_;intro K hK;go_simp;refine hK _ _ _ ?_;clear hK K))
     refine aH (.int .i64 2147483647) rfl rfl ⟨_,hb1⟩ (fun u hu=>by obtain ⟨y,hu⟩:=hu;have u1:u.cell? ⟨b,3,none⟩=some (.int .i64 2147483647):=ah hu 3;go_simp) ?_;refine aC rfl ?_;intro K hK;go_simp;refine hlen.out.mono ?_;rintro e w7 ⟨rfl,rfl⟩;refine ⟨_,⟨_,hb1⟩,fun _ h=>h,hK _ _ _ ?_⟩;clear hK K
     iterate 4 (first | refine an rfl ?_ | (refine ay rfl ?_;intro K hK;go_simp;refine hK _ _ _ ?_;clear hK K))
     refine bg rfl rfl (kN (y:=true) rfl (by kernel_rfl) rfl rfl (ah hb1 4) (fun j=>aW hb1 j)) ⟨true,heap_setCell_same _ b 4 _ _ _ hb1⟩ ?_;refine aM ?_;have hb2:=heap_setCell_same w1.drew b 4 _ _ (.bool true) hb1;have ho2:=World.ownsRow.kept ho1 (ax w1.drew ⟨b,4,none⟩ (.bool true)) (.inr (qm hb1 ho1));have iq:=(oa.drew).setCell (p:=⟨b,4,none⟩) hB (.bool true);have iL:∀ g,g≠b→(w1.drew.setCell ⟨b,4,none⟩ (.bool true)).heap[g]? = w.heap[g]? := fun g hg=>(eL _ ⟨b,4,none⟩ g _ hg).trans (EP g hg);generalize w1.drew.setCell ⟨b,4,none⟩ (.bool true)=W5 at hb2 ho2 iq iL ⊢;have c4:W5.cell? ⟨b,4,none⟩=some (.bool true):=ah hb2 4;have aL:=Lib.hid (sJ hp hB hb2 ho2);replace iq:=Lib.hid iq;replace iL:=Lib.hid iL;clear hlen oa EP hb1 ho1 hb2 ho2 z4;go_wp2_with fail;go_ret;exact ⟨rfl,aL.out,iq.out,iL.out⟩
    ·have t3:¬ (2147483647:Int)<(l.length:Int):=by omega
     obtain rfl:F=false:=by rw [hF.out,decide_eq_false h1,decide_eq_false h2,decide_eq_false h3];rfl
     clear hF;refine aE (.rd 0 (.rd 1 (.rd 2 (.rd 3 (.mk 4 (.rd 5 (.rd 6 (.rd 7 (.rd 8 (.rd 9 (.rd 10 (.rd 11 (.rd 12 (.rd 13 (.rd 14 (.rd 15 (.rd 16 (.rd 17 (.rd 18 (.rd 19 (.rd 20 (.rd 21 (.rd 22 (.rd 23 (.rd 25 (.rd 26 (.rd 27 (.rd 28 (.mk 24 (.rd 29 (.rd 30 (.rd 31 (.rd 32 (.mk 33 .fin)))))))))))))))))))))))))))))))))) (Xh b p A l.length c rd2) ⟨_,hb1⟩ (by kernel_rfl) (by kernel_rfl) (by kernel_rfl) (fun _ _ d _ _ h=>by cases d<;>exact h) ?_;have z4:w1.drew.cell? ⟨b,4,none⟩=some (.bool false):=ah hb1 4
     iterate 4 (first | refine an rfl ?_ | (refine ay rfl ?_;intro K hK;go_simp;refine hK _ _ _ ?_;clear hK K))
     refine aC rfl ?_;intro K hK;go_simp;refine ⟨_,⟨_,hb1⟩,fun _ h=>h,hK _ _ _ ?_⟩;clear hK K
     iterate 8 (first | refine an rfl ?_ | (refine ay rfl ?_;intro K hK;go_simp;refine hK _ _ _ ?_;clear hK K))
     refine aH (.int .i64 (rd2:Int)) rfl rfl ⟨_,hb1⟩ (fun u hu=>by obtain ⟨y,hu⟩:=hu;have u1:u.cell? ⟨b,2,none⟩=some (.int .i64 (rd2:Int)):=ah hu 2;go_simp) ?_
     iterate 3 (first | refine an rfl ?_ | (refine ay rfl ?_;intro K hK;go_simp;refine hK _ _ _ ?_;clear hK K))
     refine aH (.int .i64 2147483647) rfl rfl ⟨_,hb1⟩ (fun u hu=>by obtain ⟨y,hu⟩:=hu;have u1:u.cell? ⟨b,3,none⟩=some (.int .i64 2147483647):=ah hu 3;go_simp) ?_
     iterate 9 (first | refine an rfl ?_ | (refine ay rfl ?_;intro K hK;go_simp;refine hK _ _ _ ?_;clear hK K))
     refine aH (.int .i64 2147483647) rfl rfl ⟨_,hb1⟩ (fun u hu=>by obtain ⟨y,hu⟩:=hu;have u1:u.cell? ⟨b,3,none⟩=some (.int .i64 2147483647):=ah hu 3;go_simp) ?_;refine aC rfl ?_;intro K hK;go_simp;refine hlen.out.mono ?_;rintro e w7 ⟨rfl,rfl⟩;refine ⟨_,⟨_,hb1⟩,fun _ h=>h,hK _ _ _ ?_⟩;clear hK K
     iterate 4 (first | refine an rfl ?_ | (refine ay rfl ?_;intro K hK;go_simp;refine hK _ _ _ ?_;clear hK K))
     refine bg rfl rfl (kN (y:=false) rfl (by kernel_rfl) rfl rfl (ah hb1 4) (fun j=>aW hb1 j)) ⟨false,heap_setCell_same _ b 4 _ _ _ hb1⟩ ?_;refine aM ?_;have hb2:=heap_setCell_same w1.drew b 4 _ _ (.bool false) hb1;have ho2:=World.ownsRow.kept ho1 (ax w1.drew ⟨b,4,none⟩ (.bool false)) (.inr (qm hb1 ho1));have iq:=(oa.drew).setCell (p:=⟨b,4,none⟩) hB (.bool false);have iL:∀ g,g≠b→(w1.drew.setCell ⟨b,4,none⟩ (.bool false)).heap[g]? = w.heap[g]? := fun g hg=>(eL _ ⟨b,4,none⟩ g _ hg).trans (EP g hg);generalize w1.drew.setCell ⟨b,4,none⟩ (.bool false)=W5 at hb2 ho2 iq iL ⊢;have c4:W5.cell? ⟨b,4,none⟩=some (.bool false):=ah hb2 4;have aL:=Lib.hid (sJ hp hB hb2 ho2);replace iq:=Lib.hid iq;replace iL:=Lib.hid iL;clear hlen oa EP hb1 ho1 hb2 ho2 z4;go_wp2_with fail;go_ret;exact ⟨rfl,aL.out,iq.out,iL.out⟩
theorem oo {L:List (List UInt8)}{k:Nat}(h:k<L.length):(L.take (k+1)).flatten=(L.take k).flatten++L[k]:=by
 rw [List.take_succ_eq_append_getElem h,List.flatten_append];simp
theorem Jt (L:List (List UInt8)) (k:Nat):(L.take k).flatten.length≤L.flatten.length:=by
 conv=>rhs;rw [← List.take_append_drop k L,List.flatten_append,List.length_append]
 omega
theorem QB (L:List (List UInt8)) {B b g:Nat}{s:Pg.St}{w:World}(h:eJ B b s w) (hBw:B≤w.heap.size) (hgb:g≠b) (hg:w.heap[g]? = some (.cells (L.map fun t=>Value.string (bs t)).toArray 9 (0,0))) (hL:L.length≤1000) (hl:s.t.length+L.flatten.length≤1000000000000) {n c:Nat}(hn:n=L.length) :
  Calls Tryz.prog 62 #[.pointer (some ⟨b,0,none⟩),.slice (some ⟨g,0,none⟩) n c] w fun e w'=>e=.returned (.tuple #[])∧eJ B b (Pg.put L.flatten s) w'∧Below B w w':=by
 subst hn;replace h:=Lib.hid h;replace hg:=Lib.hid hg;obtain ⟨T,hT⟩:∃ T,T=eJ B b (Pg.put L.flatten s):=⟨_,rfl⟩
 rw [← hT];replace hT:=Lib.hid hT;go_enter Tryz.func62,Tryz.ntmps62;go_wp2_with fail
 go_loopw [8] (fun u wr=>∃ k:Nat,k≤L.length∧u=.int .i64 (k:Int)∧Hid (eJ B b (Pg.put (L.take k).flatten s) wr)∧Hid (Below B w wr)∧Hid (wr.heap[g]? = some (.cells (L.map fun t=>Value.string (bs t)).toArray 9 (0,0)))) (fun u _=>L.length-(intOf u).toNat)
 case atStart=>exact ⟨0,by omega,rfl,Lib.hid (by simpa [Pg.put] using h.out),Lib.hid (Below.refl _ _),hg⟩
 case round =>
  obtain ⟨k,hk,rfl,hP,hb,Ya⟩:=hrel;rcases Nat.lt_or_eq_of_le hk with hlt | AM
  ·have x0:wr.cell? ⟨g,k,none⟩=some (.string (bs L[k])):=by
    have:=ah Ya.out k;simpa [hlt] using this
   have hst:=oo hlt;have KF:=Jt L (k+1);rw [hst,List.length_append] at KF;have ug:=Nat.le_trans hBw hb.out.size;have aG:=U9 (l:=(Pg.put (L.take k).flatten s).t) hP.out L[k] (by simp only [Pg.put,List.length_append];omega) ug;replace aG:=Lib.hid aG;have hsz:=au L[k];obtain ⟨X,hX⟩:∃ X,X=L[k]:=⟨_,rfl⟩
   rw [← hX] at x0 hst aG hsz;clear hP KF hX;go_wp2_with fail;refine aG.out.mono ?_;rintro e w5 ⟨⟨v5,rfl⟩,YX,hb5,hk5⟩;have xF:=hk5 g _ Ya.out (fun e=>hgb (Option.some.inj e)) (by intro c fz e;injection e with _ e _;exact absurd e (by decide));have N1:Hid (eJ B b (Pg.put (L.take (k+1)).flatten s) w5):=Lib.hid (by rw [hst];unfold eJ;simpa only [Pg.put,List.append_assoc] using YX);have jA:=Lib.hid (hb.out.trans hb5);clear YX hb5 hk5;go_wp2_with fail
   go_roundw
   case rel=>exact ⟨k+1,by omega,by go_num,N1,jA,Lib.hid xF⟩
   case measure=>simp [intOf];omega
  ·subst AM
   have N1:Hid (T wr):=Lib.hid (by rw [hT.out];have:=hP.out;rwa [List.take_length] at this);go_wp2_with fail;go_end0;exact ⟨rfl,N1.out,hb.out⟩
theorem bT (L:List (List UInt8)) (cs:Array Value) (hcs:cs=(L.map fun t=>Value.string (bs t)).toArray) {B b:Nat}{s:Pg.St}{w:World}(h:eJ B b s w) (hBw:B≤w.heap.size) (hL:L.length≤1000) (hl:s.t.length+L.flatten.length≤1000000000000) {n c:Nat}(hn:n=L.length) :
  Calls Tryz.prog 62 #[.pointer (some ⟨b,0,none⟩),.slice (some ⟨w.heap.size,0,none⟩) n c] (w.alloc (.cells cs 9)) fun e w'=>e=.returned (.tuple #[])∧eJ B b (Pg.put L.flatten s) w'∧Below B w w':=by
 have hbl:b<w.heap.size:=by
  unfold eJ at h;obtain ⟨_,_,_,_,hb,_⟩:=lz h;exact (Array.getElem?_eq_some_iff.1 hb).1
 have hba:Below w.heap.size w (w.alloc (.cells cs 9)):=aa _ _;have hP:eJ B b s (w.alloc (.cells cs 9)):=by
  unfold eJ at h ⊢;obtain ⟨p,v,hp,hB,hb,ho⟩:=lz h;exact sJ hp hB (keep hb hba).1 (bQ ho hba)
 refine (QB L hP (Nat.le_trans hBw hba.size) (by omega) (by rw [heap_alloc_new,hcs]) hL hl hn).mono ?_;rintro e w' ⟨rfl,h1,h2⟩;exact ⟨rfl,h1,(hba.mono hBw).trans h2⟩
theorem zG (n:List UInt8) (hn:n.length≤100) {B b:Nat}{s S2:Pg.St}{w:World}(h:eJ B b s w) (hBw:B≤w.heap.size) (A2:Option Addr) (k2 c2 deep:Nat) (hd:deep≤1000000) (hl:s.t.length+1000≤1000000000000) (hl2:S2.t.length+1000≤1000000000000)
  (hin:∀ w',eJ B b (Pg.put (Hm.tag n) s) w'→Below B w w'→Calls Tryz.prog 32 #[.pointer (some ⟨b,0,none⟩),.slice A2 k2 c2,.int .i64 ((deep+1:Nat):Int)] w' fun e w''=>e=.returned (.tuple #[])∧eJ B b S2 w''∧Below B w' w'') :
  Calls Tryz.prog 74 #[.pointer (some ⟨b,0,none⟩),.string (bs n),.slice A2 k2 c2,.int .i64 (deep:Int)] w fun e w'=>e=.returned (.tuple #[])∧eJ B b (Pg.put (Hm.shut n) S2) w'∧Below B w w':=by
 have e1:[[60],n,[62]].flatten=Hm.tag n:=by simp [Hm.tag]
 have e2:[[60,47],n,[62]].flatten=Hm.shut n:=by simp [Hm.shut]
 have t1:(Hm.tag n).length=n.length+2:=by simp [Hm.tag]
 have t2:(Hm.shut n).length=n.length+3:=by simp [Hm.shut]
 have q1:=bT [[60],n,[62]] #[.string ⟨#[60]⟩,.string (bs n),.string ⟨#[62]⟩] rfl h hBw (by simp) (by rw [e1,t1];omega) (n:=3) (c:=3) rfl;have q2:=fun (w':World) (h':eJ B b S2 w') (QO:B≤w'.heap.size)=>bT [[60,47],n,[62]] #[.string ⟨#[60,47]⟩,.string (bs n),.string ⟨#[62]⟩] rfl h' QO (by simp) (by rw [e2,t2];omega) (n:=3) (c:=3) rfl;rw [e1] at q1;simp only [e2] at q2;replace q1:=Lib.hid q1;replace q2:=Lib.hid q2;replace hin:=Lib.hid hin;clear h e1 e2 t1 t2;go_enter Tryz.func74,Tryz.ntmps74;go_wp2_with fail;refine q1.out.mono ?_;rintro e w1 ⟨rfl,h1,hb1⟩;have q3:=hin.out w1 h1 hb1;rw [show ((deep+1:Nat):Int)=(deep:Int)+1 from by omega] at q3;replace q3:=Lib.hid q3;replace hb1:=Lib.hid hb1;clear h1 q1 hin;go_wp2_with fail;refine q3.out.mono ?_;rintro e w2 ⟨rfl,h2,hb2⟩;have q4:=Lib.hid (q2.out w2 h2 (Nat.le_trans hBw (hb1.out.trans hb2).size));have hb3:=Lib.hid (hb1.out.trans hb2);clear h2 hb2 q2 q3;go_wp2_with fail;refine q4.out.mono ?_;rintro e w3 ⟨rfl,h3,hb4⟩;have hb5:=Lib.hid (hb3.out.trans hb4);replace h3:=Lib.hid h3;clear hb4 q4;go_wp2_with fail;go_end0;exact ⟨rfl,h3.out,hb5.out⟩
theorem lE (n:List UInt8) (hn:n.length≤100) {B b:Nat}{s:Pg.St}(Pr:Pg.St→Prop) {w:World}(h:eJ B b s w) (hBw:B≤w.heap.size) (A2:Option Addr) (k2 c2 deep:Nat) (hd:deep≤1000000) (hl:s.t.length+1000≤1000000000000) (hl2:∀ S2,Pr S2→S2.t.length+1000≤1000000000000)
  (hin:∀ w',eJ B b (Pg.put (Hm.tag n++[10]) s) w'→Below B w w'→Calls Tryz.prog 26 #[.pointer (some ⟨b,0,none⟩),.slice A2 k2 c2,.int .i64 ((deep+1:Nat):Int)] w' fun e w''=>e=.returned (.tuple #[])∧(∃ S2,Pr S2∧eJ B b S2 w'')∧Below B w' w'') :
  Calls Tryz.prog 59 #[.pointer (some ⟨b,0,none⟩),.string (bs n),.slice A2 k2 c2,.int .i64 (deep:Int)] w fun e w'=>e=.returned (.tuple #[])∧(∃ S2,Pr S2∧eJ B b (Pg.put (Hm.shut n++[10]) S2) w')∧Below B w w':=by
 have e1:[[60],n,[62,10]].flatten=Hm.tag n++[10]:=by simp [Hm.tag]
 have e2:[[60,47],n,[62,10]].flatten=Hm.shut n++[10]:=by simp [Hm.shut]
 have t1:(Hm.tag n++[10]).length=n.length+3:=by simp [Hm.tag]
 have t2:(Hm.shut n++[10]).length=n.length+4:=by simp [Hm.shut]
 have q1:=bT [[60],n,[62,10]] #[.string ⟨#[60]⟩,.string (bs n),.string ⟨#[62,10]⟩] rfl h hBw (by simp) (by rw [e1,t1];omega) (n:=3) (c:=3) rfl;have q2:=fun (S2:Pg.St) (ie:Pr S2) (w':World) (h':eJ B b S2 w') (QO:B≤w'.heap.size)=>bT [[60,47],n,[62,10]] #[.string ⟨#[60,47]⟩,.string (bs n),.string ⟨#[62,10]⟩] rfl h' QO (by simp) (by have:=hl2 S2 ie;rw [e2,t2];omega) (n:=3) (c:=3) rfl;rw [e1] at q1;simp only [e2] at q2;replace q1:=Lib.hid q1;replace q2:=Lib.hid q2;replace hin:=Lib.hid hin;clear h e1 e2 t1 t2;go_enter Tryz.func59,Tryz.ntmps59;go_wp2_with fail;refine q1.out.mono ?_;rintro e w1 ⟨rfl,h1,hb1⟩;have q3:=hin.out w1 h1 hb1;rw [show ((deep+1:Nat):Int)=(deep:Int)+1 from by omega] at q3;replace q3:=Lib.hid q3;replace hb1:=Lib.hid hb1;clear h1 q1 hin;go_wp2_with fail;refine q3.out.mono ?_;rintro e w2 ⟨rfl,⟨S2,ie,h2⟩,hb2⟩;have q4:=Lib.hid (q2.out S2 ie w2 h2 (Nat.le_trans hBw (hb1.out.trans hb2).size));have hb3:=Lib.hid (hb1.out.trans hb2);clear h2 hb2 q2 q3;go_wp2_with fail;refine q4.out.mono ?_;rintro e w3 ⟨rfl,h3,hb4⟩;have hb5:=Lib.hid (hb3.out.trans hb4);replace h3:=Lib.hid h3;clear hb4 q4;go_wp2_with fail;go_end0;exact ⟨rfl,⟨S2,ie,h3.out⟩,hb5.out⟩
theorem AH (d:List UInt8) (w:World) (hd:d.length≤1000000000) :
  Calls Tryz.prog 75 #[.string (bs d)] w fun e w'=>e=.returned (.string (bs (Es.page (Hm.goes d))))∧Below w.heap.size w w':=by
 have q1:=fun w=>Jh d hd w;have q2:=fun w=>so d w hd trivial;have hgo:(Lk.safe d=true∧Hm.goes d=d)∨(Lk.safe d=false∧Hm.goes d=[35]):=by
  unfold Hm.goes;cases Lk.safe d with
  | true=>exact .inl ⟨rfl,by rw [if_pos rfl]⟩
  | false=>exact .inr ⟨rfl,by rw [if_neg (by decide)]⟩
 rcases hgo with ⟨hs1,hs2⟩ | ⟨hs1,hs2⟩
 ·rw [hs1] at q1
  rw [hs2];clear hs1 hs2;obtain ⟨G,hG⟩:∃ G,G=Es.page d:=⟨_,rfl⟩
  rw [← hG] at q2 ⊢;clear hG;go_enter Tryz.func75,Tryz.ntmps75;go_wp2_with fail;refine (q1 _).mono ?_;rintro e w1 ⟨rfl,hb1⟩;replace hb1:=Lib.hid hb1;go_wp2_with fail;refine (q2 _).mono ?_;rintro e w2 ⟨rfl,hb2⟩;have hb3:=Lib.hid (ag hb1.out hb2);clear hb2;go_wp2_with fail;go_ret;exact ⟨rfl,hb3.out⟩
 ·rw [hs1] at q1
  rw [hs2];have e35:Es.page [35]=[35]:=by decide
  rw [e35];clear hs1 hs2 e35 q2;go_enter Tryz.func75,Tryz.ntmps75;go_wp2_with fail;refine (q1 _).mono ?_;rintro e w1 ⟨rfl,hb1⟩;replace hb1:=Lib.hid hb1;go_wp2_with fail;go_ret;exact ⟨rfl,hb1.out⟩
theorem fe {B b:Nat}{s:Pg.St}{w w':World}(h:eJ B b s w) (hba:Below w.heap.size w w'):eJ B b s w':=by
 unfold eJ at h ⊢;obtain ⟨p,v,hp,hB,hb,ho⟩:=lz h;exact sJ hp hB (keep hb hba).1 (bQ ho hba)
def Bw (N:Nat):Prop:=∀ (ts:List Hm.Hi) (_:SizeOf.sizeOf ts≤N) (_:∀ t∈ts,Hm.CA t) (_:ts.length≤1000000000) (A:Option Addr) (c:Nat) (css:List (List Value)) (w:World) (Q:Nat→Prop) (B b:Nat) (s:Pg.St) (deep:Nat)
  (_:∀ q,Q q→q<B) (_:B≤w.heap.size) (_:eu w Q 4 A ts.length css.flatten) (_:zV w Q ts css) (_:eJ B b s w) (_:deep≤65537) (_:s.read+Hm.xK ts≤500000000000) (_:s.t.length+(Hm.bz ts).length≤500000000000),
  Calls Tryz.prog 32 #[.pointer (some ⟨b,0,none⟩),.slice A ts.length c,.int .i64 (deep:Int)] w fun e w'=>e=.returned (.tuple #[])∧eJ B b (Pg.bz ts deep s) w'∧Below B w w'
def E8 (N:Nat):Prop:=∀ (x:Hm.Hi) (_:SizeOf.sizeOf x≤N) (_:Hm.CA x) (cs:List Value) (w:World) (Q:Nat→Prop) (B b g o:Nat) (s:Pg.St) (deep:Nat)
  (_:∀ q,Q q→q<B) (_:B≤w.heap.size) (_:HC w Q x cs) (_:∀ j,j<4→w.cell? ⟨g,o+j,none⟩=cs[j]?) (_:g<B) (_:eJ B b s w) (_:deep≤65536) (_:s.read+Hm.im x≤500000000000+(1+Pg.own x)) (_:s.t.length+(Hm.inl x).length≤500000000000),
  Calls Tryz.prog 46 #[.pointer (some ⟨b,0,none⟩),.pointer (some ⟨g,o,none⟩),.int .i64 (deep:Int)] w fun e w'=>e=.returned (.tuple #[])∧eJ B b (Pg.inl x deep s) w'∧Below B w w'
theorem JB (N:Nat) (ih:Bw N):E8 (N+1):=by
 intro x hN hF cs w Q B b g o s deep hQ hB hI hcell hgB hP hd hr hl;obtain ⟨kd,tx,ds,ks⟩:=x;obtain ⟨A2,c2,css2,rfl,hc2,hR2,mb⟩:=Af hI;obtain ⟨Vt,AX,hF2,S3⟩:tx.length≤1000000000∧ds.length≤1000000000∧ks.length≤1000000000∧∀ x∈ks,Hm.CA x:=by cases hF with | mk a b c d=>exact ⟨a,b,c,d⟩
 simp only [Hm.Hi.mk.sizeOf_spec] at hN;simp only [Hm.im,Pg.own] at hr;have x0:w.cell? ⟨g,o,none⟩=some (.int .i64 kd):=hcell 0 (by omega);have x1:w.cell? ⟨g,o+1,none⟩=some (.string (bs tx)):=hcell 1 (by omega);have x2:w.cell? ⟨g,o+2,none⟩=some (.string (bs ds)):=hcell 2 (by omega);have x3:w.cell? ⟨g,o+3,none⟩=some (.slice A2 ks.length c2):=hcell 3 (by omega);have aG:=fun (w':World) (hb':Below B w w') (s':Pg.St) (VY:eJ B b s' w') (q1:s'.read+Hm.xK ks≤500000000000) (q2:s'.t.length+(Hm.bz ks).length≤500000000000) =>
  ih ks (by omega) S3 hF2 A2 c2 css2 w' Q B b s' (deep+1) hQ (Nat.le_trans hB hb'.size) (hR2.frame (fun b h=>hb'.block b (hQ b h)) (fun _ h=>h)) (nX (fun b h=>hb'.block b (hQ b h)) (fun _ h=>h) mb) VY (by omega) q1 q2
 replace aG:=Lib.hid aG;obtain ⟨T,hT⟩:∃ T,T=eJ B b (Pg.inl (.mk kd tx ds ks) deep s):=⟨_,rfl⟩
 rw [← hT];have Sf:=fun w=>so tx w Vt trivial;clear ih hI hcell hR2 mb hF S3
 by_cases h0:kd=0
 ·subst h0
  have e:Pg.inl (.mk 0 tx ds ks) deep s=Pg.put (Es.page tx) s:=by unfold Pg.inl;rw [if_pos rfl]
  have e':Hm.inl (.mk 0 tx ds ks)=Es.page tx:=by unfold Hm.inl;rw [if_pos rfl]
  rw [e] at hT;rw [e'] at hl;obtain ⟨G,hG⟩:∃ G,G=Es.page tx:=⟨_,rfl⟩
  rw [← hG] at Sf hT hl;have q1:=fun (w1:World) (h1:eJ B b s w1) (hB1:B≤w1.heap.size)=>bT [G] #[.string (bs G)] rfl h1 hB1 (by simp) (by simp;omega) (n:=1) (c:=1) rfl;simp only [List.flatten_cons,List.flatten_nil,List.append_nil] at q1;rw [← hT] at q1;replace q1:=Lib.hid q1;replace hP:=Lib.hid hP;clear hT hG e e' aG;go_enter Tryz.func46,Tryz.ntmps46;go_wp2_with fail;refine (Sf _).mono ?_;rintro e w1 ⟨rfl,hb1⟩;have q2:=Lib.hid (q1.out w1 (fe hP.out hb1) (Nat.le_trans hB hb1.size));have hb2:=Lib.hid (hb1.mono hB);clear hb1 q1;go_wp2_with fail;refine q2.out.mono ?_;rintro e w2 ⟨rfl,h2,hb3⟩;have hb4:=Lib.hid (hb2.out.trans hb3);replace h2:=Lib.hid h2;clear hb3 q2;go_wp2_with fail;go_end0;exact ⟨rfl,h2.out,hb4.out⟩
 by_cases h1:kd=1
 ·subst h1
  have e:Pg.inl (.mk 1 tx ds ks) deep s=Pg.put (Hm.shut Hm.cB) (Pg.put (Es.page tx) (Pg.put (Hm.tag Hm.cB) s)):=by unfold Pg.inl;rw [if_neg (by decide),if_pos rfl]
  have e':Hm.inl (.mk 1 tx ds ks)=Hm.tag Hm.cB++Es.page tx++Hm.shut Hm.cB:=by unfold Hm.inl;rw [if_neg (by decide),if_pos rfl]
  rw [e] at hT;rw [e'] at hl;simp only [List.length_append] at hl;obtain ⟨G,hG⟩:∃ G,G=Es.page tx:=⟨_,rfl⟩
  rw [← hG] at Sf hT hl;have ef:[Hm.tag Hm.cB,G,Hm.shut Hm.cB].flatten=Hm.tag Hm.cB++(G++Hm.shut Hm.cB):=by simp
  have es:Pg.put (Hm.tag Hm.cB++(G++Hm.shut Hm.cB)) s=Pg.put (Hm.shut Hm.cB) (Pg.put G (Pg.put (Hm.tag Hm.cB) s)):=by simp only [Pg.put,List.append_assoc]
  have q1:=fun (w1:World) (h1:eJ B b s w1) (hB1:B≤w1.heap.size)=>bT [Hm.tag Hm.cB,G,Hm.shut Hm.cB] #[.string ⟨#[60,99,111,100,101,62]⟩,.string (bs G),.string ⟨#[60,47,99,111,100,101,62]⟩] rfl h1 hB1 (by simp) (by rw [ef,List.length_append,List.length_append];omega) (n:=3) (c:=3) rfl;simp only [ef,es] at q1;rw [← hT] at q1;replace q1:=Lib.hid q1;replace hP:=Lib.hid hP;clear hT hG e e' aG ef es;go_enter Tryz.func46,Tryz.ntmps46;go_wp2_with fail;refine (Sf _).mono ?_;rintro e w1 ⟨rfl,hb1⟩;have q2:=Lib.hid (q1.out w1 (fe hP.out hb1) (Nat.le_trans hB hb1.size));have hb2:=Lib.hid (hb1.mono hB);clear hb1 q1;go_wp2_with fail;refine q2.out.mono ?_;rintro e w2 ⟨rfl,h2,hb3⟩;have hb4:=Lib.hid (hb2.out.trans hb3);replace h2:=Lib.hid h2;clear hb3 q2;go_wp2_with fail;go_end0;exact ⟨rfl,h2.out,hb4.out⟩
 by_cases h2:kd=2
 ·subst h2
  have e:Pg.inl (.mk 2 tx ds ks) deep s=Pg.put (Hm.shut Hm.BP) (Pg.bz ks (deep+1) (Pg.put (Hm.tag Hm.BP) s)):=by unfold Pg.inl;rw [if_neg (by decide),if_neg (by decide),if_pos rfl]
  have e':Hm.inl (.mk 2 tx ds ks)=Hm.tag Hm.BP++Hm.bz ks++Hm.shut Hm.BP:=by unfold Hm.inl;rw [if_neg (by decide),if_neg (by decide),if_pos rfl]
  rw [e] at hT;rw [e'] at hl;simp only [List.length_append] at hl;obtain ⟨P,g1,g2,_,_⟩:=Pg.dU ks (deep+1) (Pg.put (Hm.tag Hm.BP) s);have g3:(Pg.bz ks (deep+1) (Pg.put (Hm.tag Hm.BP) s)).t.length+1000≤1000000000000:=by rw [g1];simp only [Pg.put,List.length_append];omega
  have q1:=zG Hm.BP (by decide) hP hB A2 ks.length c2 deep (by omega) (by omega) g3 (fun w' h' hb'=>aG.out w' hb' _ h' (by simp only [Pg.put];omega) (by simp only [Pg.put,List.length_append];omega));rw [← hT] at q1;replace q1:=Lib.hid q1;clear hT e e' aG g1 g2 g3 Sf hP;go_enter Tryz.func46,Tryz.ntmps46;go_wp2_with fail;refine q1.out.mono ?_;rintro e w2 ⟨rfl,h2,hb3⟩;replace hb3:=Lib.hid hb3;replace h2:=Lib.hid h2;go_wp2_with fail;go_end0;exact ⟨rfl,h2.out,hb3.out⟩
 by_cases h3:kd=3
 ·subst h3
  have e:Pg.inl (.mk 3 tx ds ks) deep s=Pg.put (Hm.shut Hm.cM) (Pg.bz ks (deep+1) (Pg.put (Hm.tag Hm.cM) s)):=by unfold Pg.inl;rw [if_neg (by decide),if_neg (by decide),if_neg (by decide),if_pos rfl]
  have e':Hm.inl (.mk 3 tx ds ks)=Hm.tag Hm.cM++Hm.bz ks++Hm.shut Hm.cM:=by unfold Hm.inl;rw [if_neg (by decide),if_neg (by decide),if_neg (by decide),if_pos rfl]
  rw [e] at hT;rw [e'] at hl;simp only [List.length_append] at hl;obtain ⟨P,g1,g2,_,_⟩:=Pg.dU ks (deep+1) (Pg.put (Hm.tag Hm.cM) s);have g3:(Pg.bz ks (deep+1) (Pg.put (Hm.tag Hm.cM) s)).t.length+1000≤1000000000000:=by rw [g1];simp only [Pg.put,List.length_append];omega
  have q1:=zG Hm.cM (by decide) hP hB A2 ks.length c2 deep (by omega) (by omega) g3 (fun w' h' hb'=>aG.out w' hb' _ h' (by simp only [Pg.put];omega) (by simp only [Pg.put,List.length_append];omega));rw [← hT] at q1;replace q1:=Lib.hid q1;clear hT e e' aG g1 g2 g3 Sf hP;go_enter Tryz.func46,Tryz.ntmps46;go_wp2_with fail;refine q1.out.mono ?_;rintro e w2 ⟨rfl,h2,hb3⟩;replace hb3:=Lib.hid hb3;replace h2:=Lib.hid h2;go_wp2_with fail;go_end0;exact ⟨rfl,h2.out,hb3.out⟩
 by_cases h4:kd=4
 ·subst h4
  have e:Pg.inl (.mk 4 tx ds ks) deep s=Pg.put (Hm.shut [97]) (Pg.bz ks (deep+1) (Pg.put (Hm.anchor ds) s)):=by unfold Pg.inl;rw [if_neg (by decide),if_neg (by decide),if_neg (by decide),if_neg (by decide),if_pos rfl]
  have e':Hm.inl (.mk 4 tx ds ks)=Hm.anchor ds++Hm.bz ks++Hm.shut [97]:=by unfold Hm.inl;rw [if_neg (by decide),if_neg (by decide),if_neg (by decide),if_neg (by decide),if_pos rfl]
  rw [e] at hT;rw [e'] at hl;simp only [List.length_append] at hl;obtain ⟨P,g1,g2,_,_⟩:=Pg.dU ks (deep+1) (Pg.put (Hm.anchor ds) s);have g3:(Pg.bz ks (deep+1) (Pg.put (Hm.anchor ds) s)).t.length+1000≤1000000000000:=by rw [g1];simp only [Pg.put,List.length_append];omega
  have q0:=fun w=>AH ds w AX;have ea:[[60,97,32,104,114,101,102,61,34],Es.page (Hm.goes ds),[34,62]].flatten=Hm.anchor ds:=by simp [Hm.anchor]
  obtain ⟨G,hG⟩:∃ G,G=Es.page (Hm.goes ds):=⟨_,rfl⟩
  rw [← hG] at q0 ea;have q1:=fun (w1:World) (h1:eJ B b s w1) (hB1:B≤w1.heap.size)=>bT [[60,97,32,104,114,101,102,61,34],G,[34,62]] #[.string ⟨#[60,97,32,104,114,101,102,61,34]⟩,.string (bs G),.string ⟨#[34,62]⟩] rfl h1 hB1 (by simp) (by rw [ea];omega) (n:=3) (c:=3) rfl;simp only [ea] at q1;have q2:=fun (w1:World) (h1:eJ B b (Pg.put (Hm.anchor ds) s) w1) (hb1:Below B w w1)=>aG.out w1 hb1 _ h1 (by simp only [Pg.put];omega) (by simp only [Pg.put,List.length_append];omega);have eb:[[60,47,97,62]].flatten=Hm.shut [97]:=by simp [Hm.shut]
  obtain ⟨S2,ie⟩:∃ S2,S2=Pg.bz ks (deep+1) (Pg.put (Hm.anchor ds) s):=⟨_,rfl⟩
  rw [← ie] at q2 g3 hT;have q3:=fun (w1:World) (h1:eJ B b S2 w1) (hB1:B≤w1.heap.size)=>bT [[60,47,97,62]] #[.string ⟨#[60,47,97,62]⟩] rfl h1 hB1 (by simp) (by simp;omega) (n:=1) (c:=1) rfl;simp only [eb] at q3;rw [← hT] at q3;rw [show ((deep+1:Nat):Int)=(deep:Int)+1 from by omega] at q2;have hx3:Hid (∀ w',Below B w w'→w'.cell? ⟨g,o+3,none⟩=some (.slice A2 ks.length c2)):=Lib.hid (fun w' hb'=>(hb'.cell (p:=⟨g,o+3,none⟩) hgB).trans x3);replace q1:=Lib.hid q1;replace q2:=Lib.hid q2;replace q3:=Lib.hid q3;replace hP:=Lib.hid hP;clear hT e e' aG g1 g2 g3 Sf hG ie ea eb x1 x3;go_enter Tryz.func46,Tryz.ntmps46;go_wp2_with fail;refine (q0 _).mono ?_;rintro e w1 ⟨rfl,hb1⟩;have q4:=Lib.hid (q1.out w1 (fe hP.out hb1) (Nat.le_trans hB hb1.size));have hb2:=Lib.hid (hb1.mono hB);clear hb1 q1 q0 x0 x2;go_wp2_with fail;refine q4.out.mono ?_;rintro e w2 ⟨rfl,h2,hb3⟩;have hb4:=Lib.hid (hb2.out.trans hb3);have y3:=hx3.out w2 hb4.out;have q5:=Lib.hid (q2.out w2 h2 hb4.out);clear hb3 q4 q2 h2;go_wp2_with fail;refine q5.out.mono ?_;rintro e w3 ⟨rfl,h3,hb5⟩;have jA:=Lib.hid (hb4.out.trans hb5);have q6:=Lib.hid (q3.out w3 h3 (Nat.le_trans hB jA.out.size));clear hb5 q5 q3 h3 y3;go_wp2_with fail;refine q6.out.mono ?_;rintro e w4 ⟨rfl,h4,dI⟩;have mg:=Lib.hid (jA.out.trans dI);replace h4:=Lib.hid h4;clear dI q6;go_wp2_with fail;go_end0;exact ⟨rfl,h4.out,mg.out⟩
 by_cases h5:kd=5
 ·subst h5
  have e:Pg.inl (.mk 5 tx ds ks) deep s=Pg.put [10] s:=by unfold Pg.inl;rw [if_neg (by decide),if_neg (by decide),if_neg (by decide),if_neg (by decide),if_neg (by decide),if_pos rfl]
  have e':Hm.inl (.mk 5 tx ds ks)=[10]:=by unfold Hm.inl;rw [if_neg (by decide),if_neg (by decide),if_neg (by decide),if_neg (by decide),if_neg (by decide),if_pos rfl]
  rw [e] at hT;rw [e'] at hl;simp only [List.length_singleton] at hl;have q1:=bT [[10]] #[.string ⟨#[10]⟩] rfl hP hB (by simp) (by simp;omega) (n:=1) (c:=1) rfl;have eb:[[(10:UInt8)]].flatten=[10]:=rfl;rw [eb,← hT] at q1;replace q1:=Lib.hid q1;clear hT e e' aG Sf hP eb;go_enter Tryz.func46,Tryz.ntmps46;go_wp2_with fail;refine q1.out.mono ?_;rintro e w2 ⟨rfl,h2,hb3⟩;replace hb3:=Lib.hid hb3;replace h2:=Lib.hid h2;go_wp2_with fail;go_end0;exact ⟨rfl,h2.out,hb3.out⟩
 have e:Pg.inl (.mk kd tx ds ks) deep s=s:=by unfold Pg.inl;rw [if_neg h0,if_neg h1,if_neg h2,if_neg h3,if_neg h4,if_neg h5]
 rw [e] at hT;have uD:Hid (T w):=Lib.hid (by rw [hT];exact hP);have n0:(kd==0)=false:=by rw [beq_eq_false_iff_ne];exact h0
 have n1:(kd==1)=false:=by rw [beq_eq_false_iff_ne];exact h1
 have n2:(kd==2)=false:=by rw [beq_eq_false_iff_ne];exact h2
 have n3:(kd==3)=false:=by rw [beq_eq_false_iff_ne];exact h3
 have n4:(kd==4)=false:=by rw [beq_eq_false_iff_ne];exact h4
 have n5:(kd==5)=false:=by rw [beq_eq_false_iff_ne];exact h5
 clear hT e aG Sf hP h0 h1 h2 h3 h4 h5;go_enter Tryz.func46,Tryz.ntmps46;go_wp2_with fail;go_end0;exact ⟨rfl,uD.out,Below.refl _ _⟩
theorem Hx (N:Nat) (ih:E8 N):Bw (N+1):=by
 intro ts hN hF hl A c css w Q B b s deep hQ hB hR hI hP hd hr hx;have hR':=Lib.hid hR;have hI':=Lib.hid hI;have VY:=Lib.hid hP;have hF':=Lib.hid hF;have ih':=Lib.hid ih;obtain ⟨R,HE⟩:∃ R,R=Pg.bz ts deep s:=⟨_,rfl⟩
 rw [← HE];replace HE:=Lib.hid HE;clear ih hR hI hP hF;go_enter Tryz.func32,Tryz.ntmps32;go_wp2_with fail
 go_loopw [10] (fun u wr=>∃ (k:Nat) (st:Pg.St),k≤ts.length∧u=.int .i64 (k:Int)∧Hid (R=Pg.bz (ts.drop k) deep st)∧Hid (st.read+Hm.xK (ts.drop k)≤500000000000)∧Hid (st.t.length+(Hm.bz (ts.drop k)).length≤500000000000)∧Hid (eJ B b st wr)∧Hid (Below B w wr)) (fun u _=>ts.length-(intOf u).toNat)
 case atStart=>exact ⟨0,s,by omega,rfl,HE,Lib.hid (by simpa using hr),Lib.hid (by simpa using hx),VY,Lib.hid (Below.refl _ _)⟩
 case round =>
  obtain ⟨k,st,hk,rfl,YV,TB,XW,Td,hb⟩:=hrel;clear HE;rcases Nat.lt_or_eq_of_le hk with hlt | AM
  ·obtain ⟨cs,i1,i2⟩:=Oo hI'.out hlt
   obtain ⟨bA,o,rfl,Dx,hcell⟩:=hR'.out.2 (by omega);have VN:=hF'.out ts[k] (List.getElem_mem hlt);have W9:SizeOf.sizeOf ts[k]≤N:=by have:=List.sizeOf_lt_of_mem (List.getElem_mem hlt);omega
   have qR:=YV.out;have Hv:=TB.out;have Ux:=XW.out;rw [List.drop_eq_getElem_cons hlt] at qR Hv Ux;simp only [Pg.bz] at qR;simp only [Hm.xK] at Hv;simp only [Hm.bz,List.length_append] at Ux;clear YV TB XW;generalize ts[k]=t at *;have hi1:=i1;obtain ⟨kd,tx,ds,ks⟩:=t;obtain ⟨A2,c2,css2,rfl,hc2,hR2,mb⟩:=Af i1;have hbl:=hQ _ Dx;have oa:=hb.out;have hcl:∀ j,j<4→wr.cell? ⟨bA,o+k*4+j,none⟩=([.int .i64 kd,.string (bs tx),.string (bs ds),.slice A2 ks.length c2]:List Value)[j]? := fun j hj=>by
    have h9:=(oa.cell (p:=⟨bA,o+(k*4+j),none⟩) hbl).trans (hcell _ _ ((i2 j hj).trans (by
     rcases (show j=0∨j=1∨j=2∨j=3 by omega) with rfl | rfl | rfl | rfl<;>rfl):css.flatten[k*4+j]? = some (([.int .i64 kd,.string (bs tx),.string (bs ds),.slice A2 ks.length c2]:List Value).getD j default)))
    rw [Nat.add_assoc,h9];rcases (show j=0∨j=1∨j=2∨j=3 by omega) with rfl | rfl | rfl | rfl<;>rfl
   have x1:wr.cell? ⟨bA,o+k*4+1,none⟩=some (.string (bs tx)):=hcl 1 (by omega);have x2:wr.cell? ⟨bA,o+k*4+2,none⟩=some (.string (bs ds)):=hcl 2 (by omega);obtain ⟨Vt,AX,hF2⟩:tx.length≤1000000000∧ds.length≤1000000000∧ks.length≤1000000000:=by cases VN with | mk a b c d=>exact ⟨a,b,c⟩
   have hz1:=au tx;have hz2:=au ds;have him:Hm.im (.mk kd tx ds ks)=tx.length+ds.length+1+Hm.xK ks:=by simp only [Hm.im]
   have how:Pg.own (.mk kd tx ds ks)=tx.length+ds.length:=rfl;rw [how] at qR;have uS:bA≠b:=by
    have h9:=Td.out;unfold eJ at h9;obtain ⟨_,_,_,WT,_,_⟩:=lz h9;omega
   have htk:=EE (fe Td.out (bq wr)) (tx.length+ds.length) deep (x:=(tx.length:Int)+(ds.length:Int)) (by omega) (by omega) (by omega) (by omega) (by omega);have ug:=Nat.le_trans hB oa.size;have pT:(Pg.takes (tx.length+ds.length) deep st).read=st.read+(1+(tx.length+ds.length)):=rfl;have Ql:(Pg.takes (tx.length+ds.length) deep st).t=st.t:=rfl;have aG:=fun (w':World) (hb':Below B wr w') (h':eJ B b (Pg.takes (tx.length+ds.length) deep st) w') (hd':deep≤65536) =>
    ih'.out (.mk kd tx ds ks) W9 VN _ w' Q B b bA (o+k*4) _ deep hQ (Nat.le_trans ug hb'.size) (B5 (fun b h=>(oa.trans hb').block b (hQ b h)) (fun _ h=>h) hi1) (fun j hj=>(hb'.cell (p:=⟨bA,o+k*4+j,none⟩) hbl).trans (hcl j hj)) hbl h' hd' (by rw [pT,how];omega) (by rw [Ql];omega)
   obtain ⟨P,g1,g2,g3,_⟩:=Pg.vt (.mk kd tx ds ks) deep (Pg.takes (tx.length+ds.length) deep st);rw [pT,how] at g3;rw [Ql] at g1;have TF:(Pg.takes (tx.length+ds.length) deep st).full=false→deep≤65536:=by
    intro h9;simp only [Pg.takes,Bool.or_eq_false_iff,decide_eq_false_iff_not] at h9;omega
   have Qd:(Pg.inl (.mk kd tx ds ks) deep (Pg.takes (tx.length+ds.length) deep st)).read+Hm.xK (ts.drop (k+1))≤500000000000:=by omega
   have Xz:(Pg.inl (.mk kd tx ds ks) deep (Pg.takes (tx.length+ds.length) deep st)).t.length+(Hm.bz (ts.drop (k+1))).length≤500000000000:=by rw [g1,List.length_append];omega
   obtain ⟨S1,hS1⟩:∃ S1,S1=Pg.takes (tx.length+ds.length) deep st:=⟨_,rfl⟩
   rw [← hS1] at qR htk aG TF Qd Xz;obtain ⟨S2,ie⟩:∃ S2,S2=Pg.inl (.mk kd tx ds ks) deep S1:=⟨_,rfl⟩
   rw [← ie] at qR aG Qd Xz;replace htk:=Lib.hid htk;replace aG:=Lib.hid aG;replace Qd:=Lib.hid Qd;replace Xz:=Lib.hid Xz;clear g1 g2 g3 hS1 ie pT Ql hcl hcell i1 i2 hi1 hR2 mb VN W9 Hv Ux him how;obtain ⟨fl,hfl⟩:∃ fl,fl=S1.full:=⟨_,rfl⟩
   rw [← hfl] at qR htk TF;have hw1:IntKind.i64.wrap ((tx.length:Int)+(ds.length:Int))=(tx.length:Int)+(ds.length:Int):=by rw [IntKind.wrap_i64];omega
   cases fl with
   | true =>
    rw [if_pos rfl] at qR;clear aG TF hfl;replace qR:=Lib.hid qR;replace hQ:=Lib.hid hQ;replace Dx:=Lib.hid Dx;go_upto_region 4 with fail
    refine aE (.rd 0 (.rd 1 (.rd 2 (.rd 3 (.rd 4 (.rd 5 (.rd 6 (.rd 7 (.rd 8 (.rd 9 (.rd 10 (.rd 11 (.rd 12 (.mk 13 (.rd 14 .fin))))))))))))))) (fun u:World=>u.cell? ⟨bA,o+k*4+1,none⟩=some (.string (bs tx))∧u.cell? ⟨bA,o+k*4+2,none⟩=some (.string (bs ds))) ⟨x1,x2⟩ (by kernel_rfl) (by kernel_rfl) (by kernel_rfl) (fun _ _ d _ _ h=>by cases d<;>exact h) ?_
    iterate 4 (first | refine an rfl ?_ | (refine ay rfl ?_;intro K hK;go_simp;refine hK _ _ _ ?_;clear hK K))
    refine aH (.string (bs tx)) rfl rfl ⟨x1,x2⟩ (fun u hu=>by have u1:=hu.1;go_simp) ?_
    iterate 4 (first | refine an rfl ?_ | (refine ay rfl ?_;intro K hK;go_simp;refine hK _ _ _ ?_;clear hK K))
    refine aH (.string (bs ds)) rfl rfl ⟨x1,x2⟩ (fun u hu=>by have u1:=hu.2;go_simp) ?_
    (first | refine an rfl ?_ | (refine ay rfl ?_;intro K hK;go_simp;refine hK _ _ _ ?_;clear hK K))
    refine aH (.int .i64 ((tx.length:Int)+(ds.length:Int))) rfl rfl ⟨x1,x2⟩ (fun u _=>by go_simp<;>first | exact hw1 | rw [hw1]) ?_
    (first | refine an rfl ?_ | (refine ay rfl ?_;intro K hK;go_simp;refine hK _ _ _ ?_;clear hK K))
    refine aC rfl ?_;intro K hK;go_simp;refine htk.out.mono ?_;rintro e w7 ⟨rfl,h7,dI,Wn⟩;refine ⟨_,⟨(dI.cell (p:=⟨bA,o+k*4+1,none⟩) hbl).trans x1,(dI.cell (p:=⟨bA,o+k*4+2,none⟩) hbl).trans x2⟩,fun _ h=>h,hK _ _ _ ?_⟩;clear hK K
    (first | refine an rfl ?_ | (refine ay rfl ?_;intro K hK;go_simp;refine hK _ _ _ ?_;clear hK K))
    refine aM ?_;have mg:Below B wr w7:=(Below.drew (Below.refl B wr)).trans dI;have uD:Hid (eJ B b R w7):=Lib.hid (by rw [qR.out];exact h7);have DC:=Lib.hid (hb.out.trans mg);clear dI mg Wn h7 htk;go_wp2_with fail;exact bodyPost_ret (results_none rfl ..) rfl ⟨rfl,uD.out,DC.out⟩
   | false =>
    rw [if_neg (by decide)] at qR;have hd6:=TF rfl;clear TF hfl;replace qR:=Lib.hid qR;replace hQ:=Lib.hid hQ;replace Dx:=Lib.hid Dx;go_upto_region 4 with fail
    refine aE (.rd 0 (.rd 1 (.rd 2 (.rd 3 (.rd 4 (.rd 5 (.rd 6 (.rd 7 (.rd 8 (.rd 9 (.rd 10 (.rd 11 (.rd 12 (.mk 13 (.rd 14 .fin))))))))))))))) (fun u:World=>u.cell? ⟨bA,o+k*4+1,none⟩=some (.string (bs tx))∧u.cell? ⟨bA,o+k*4+2,none⟩=some (.string (bs ds))) ⟨x1,x2⟩ (by kernel_rfl) (by kernel_rfl) (by kernel_rfl) (fun _ _ d _ _ h=>by cases d<;>exact h) ?_
    iterate 4 (first | refine an rfl ?_ | (refine ay rfl ?_;intro K hK;go_simp;refine hK _ _ _ ?_;clear hK K))
    refine aH (.string (bs tx)) rfl rfl ⟨x1,x2⟩ (fun u hu=>by have u1:=hu.1;go_simp) ?_
    iterate 4 (first | refine an rfl ?_ | (refine ay rfl ?_;intro K hK;go_simp;refine hK _ _ _ ?_;clear hK K))
    refine aH (.string (bs ds)) rfl rfl ⟨x1,x2⟩ (fun u hu=>by have u1:=hu.2;go_simp) ?_
    (first | refine an rfl ?_ | (refine ay rfl ?_;intro K hK;go_simp;refine hK _ _ _ ?_;clear hK K))
    refine aH (.int .i64 ((tx.length:Int)+(ds.length:Int))) rfl rfl ⟨x1,x2⟩ (fun u _=>by go_simp<;>first | exact hw1 | rw [hw1]) ?_
    (first | refine an rfl ?_ | (refine ay rfl ?_;intro K hK;go_simp;refine hK _ _ _ ?_;clear hK K))
    refine aC rfl ?_;intro K hK;go_simp;refine htk.out.mono ?_;rintro e w7 ⟨rfl,h7,dI,Wn⟩;refine ⟨_,⟨(dI.cell (p:=⟨bA,o+k*4+1,none⟩) hbl).trans x1,(dI.cell (p:=⟨bA,o+k*4+2,none⟩) hbl).trans x2⟩,fun _ h=>h,hK _ _ _ ?_⟩;clear hK K
    (first | refine an rfl ?_ | (refine ay rfl ?_;intro K hK;go_simp;refine hK _ _ _ ?_;clear hK K))
    refine aM ?_;have mg:Below B wr w7:=(Below.drew (Below.refl B wr)).trans dI;have q1:=Lib.hid (aG.out w7 mg h7 hd6);have DC:=Lib.hid (hb.out.trans mg);clear dI mg Wn h7 htk aG x1 x2 oa;go_wp2_with fail;refine q1.out.mono ?_;rintro e w8 ⟨rfl,h8,AD⟩;have U0:=Lib.hid (DC.out.trans AD);replace h8:=Lib.hid h8;clear AD q1;go_wp2_with fail
    go_roundw
    case rel=>exact ⟨k+1,S2,by omega,by go_num,qR,Qd,Xz,h8,U0⟩
    case measure=>simp [intOf];omega
  ·subst AM
   have uD:Hid (eJ B b R wr):=Lib.hid (by rw [YV.out,List.drop_length];exact Td.out);clear YV TB XW;go_wp2_with fail;go_end0;exact ⟨rfl,uD.out,hb.out⟩
end Go.Proofs.YtddkjkockbcamaaGreatDoor
