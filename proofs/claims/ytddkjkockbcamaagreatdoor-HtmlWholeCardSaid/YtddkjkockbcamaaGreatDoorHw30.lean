/- LkPSch LkPSafe LkPAuto LkPClose LkPDest LkProg IlPBr IlPBr2 -/
import Derived.Test.YtddkjkockbcamaaGreatDoorHw28
import Derived.Test.YtddkjkockbcamaaGreatDoorHw29
import Derived.Test.YtddkjkockbcamaaGreatDoorHw05
import Derived.Test.YtddkjkockbcamaaGreatDoorHw03
import Derived.Test.YtddkjkockbcamaaGreatDoorHw17
set_option maxHeartbeats 16000000
set_option maxRecDepth 100000
namespace Go.Proofs.YtddkjkockbcamaaGreatDoor
open Go.RowKit
def stand (l:List UInt8) (at_:Int) (c:UInt8):Bool:=decide (0≤at_∧at_.toNat<l.length∧l.getD at_.toNat 0=c)
theorem Ot {l:List UInt8}{at_:Int}{c:UInt8}(h:at_<0):stand l at_ c=false:=by unfold stand;exact decide_eq_false (by omega)
theorem MR {l:List UInt8}{at_:Int}{c:UInt8}(h:(l.length:Int)≤at_):stand l at_ c=false:=by unfold stand;exact decide_eq_false (by omega)
theorem oC {l:List UInt8}{at_:Int}{c:UInt8}(h0:0≤at_) (h:at_.toNat<l.length):stand l at_ c=(l[at_.toNat]==c):=by
 unfold stand;have e:l.getD at_.toNat 0=l[at_.toNat]:=by rw [List.getD_eq_getElem?_getD,List.getElem?_eq_getElem h];rfl
 rw [Bool.eq_iff_iff,decide_eq_true_iff,beq_iff_eq,e];exact ⟨fun x=>x.2.2,fun x=>⟨h0,h,x⟩⟩
theorem Co {l:List UInt8}{at_:Int}{c:UInt8}(h:stand l at_ c=true):∃ k:Nat,at_=(k:Int)∧∃ hk:k<l.length,l[k]=c:=by
 unfold stand at h;obtain ⟨h0,h1,h2⟩:=of_decide_eq_true h;refine ⟨at_.toNat,by omega,h1,?_⟩;rw [List.getD_eq_getElem?_getD,List.getElem?_eq_getElem h1] at h2;exact h2
theorem mz (l:List UInt8) (at_:Int) (c:UInt8) (v:Int) (hv:v=(c.toNat:Int)) (_hs:l.length≤1000000000) (w:World) :
  Calls Tryz.prog 234 #[.string (bs l),.int .i64 at_,.int .u8 v] w fun e w'=>e=.returned (.bool (stand l at_ c))∧w=w':=by
 have hsz:=au l
 by_cases h:at_<0
 ·rw [Ot h]
  go_enter Tryz.func234,Tryz.ntmps234;go_wp2;go_ret;exact ⟨rfl,rfl⟩
 ·by_cases h2:(l.length:Int)≤at_
  ·rw [MR h2]
   go_enter Tryz.func234,Tryz.ntmps234;go_wp2;go_ret;exact ⟨rfl,rfl⟩
  ·have hk:at_.toNat<l.length:=by omega
   rw [oC (by omega) hk];have hix:=ec (i:=at_.toNat) (v:=at_) (S:=l) hk (by omega) w;have T3:((l[at_.toNat].toNat:Int)==v)=(l[at_.toNat]==c):=by
    subst hv;rw [Bool.eq_iff_iff,beq_iff_eq,beq_iff_eq];exact ⟨fun h=>UInt8.toNat_inj.1 (by omega),fun h=>by rw [h]⟩
   obtain ⟨V,hV⟩:∃ V,V=(l[at_.toNat]==c):=⟨_,rfl⟩
   rw [← hV] at T3 ⊢;clear hV hv;go_enter Tryz.func234,Tryz.ntmps234;go_wp2;go_ret;exact ⟨rfl,rfl⟩
theorem mK (r:Int) (w:World) :
  Calls Tryz.prog 180 #[.int .i32 r] w fun e w'=>e=.returned (.bool (decide (97≤r∧r≤122)))∧w=w':=by
 go_enter Tryz.func180,Tryz.ntmps180;go_wp2
 all_goals go_ret
 all_goals (refine ⟨sN ?_,rfl⟩;rw [Bool.eq_iff_iff];simp;omega)
def j8 (l:List UInt8):Bool:=decide (2≤Lk.letters l∧Lk.letters l≤12∧l.getD (Lk.letters l) 0=58)
theorem getD_at {l:List UInt8}{i:Nat}(h:i<l.length):l.getD i 0=l[i]:=by rw [List.getD_eq_getElem?_getD,List.getElem?_eq_getElem h];rfl
theorem Fe {l:List UInt8}{i:Nat}(h:¬ i<l.length):l.getD i 0=0:=by rw [List.getD_eq_getElem?_getD,List.getElem?_eq_none (by omega)];rfl
theorem Jp (l:List UInt8) (w:World) (hs:l.length≤1000000000) :
  Calls Tryz.prog 235 #[.string (bs l)] w fun e w'=>(∃ m:Nat,e=.returned (.tuple #[.int .i64 (m:Int),.bool (j8 l)])∧(j8 l=true→m=Lk.letters l+1))∧Below w.heap.size w w':=by
 have hsz:=au l;obtain ⟨R,hR⟩:∃ R,R=j8 l:=⟨_,rfl⟩
 obtain ⟨n,hn⟩:∃ n,n=Lk.letters l:=⟨_,rfl⟩
 have hR2:Hid (R=decide (2≤n∧n≤12∧l.getD n 0=58)):=Lib.hid (by rw [hR,hn];rfl);rw [← hR,← hn];replace hn:=Lib.hid hn;clear hR;go_enter Tryz.func235,Tryz.ntmps235;go_wp2
 go_loopw [] (fun wr=>∃ pos:Nat,pos≤l.length∧pos≤12∧Hid (wr.heap[w.heap.size]? = some (.stringIter (bs l) pos))∧Hid (pos+Lk.letters (l.drop pos)=n)∧Below w.heap.size w wr)
  (fun wr=>l.length-wr.iterPos w.heap.size)
 case atStart=>exact ⟨0,by omega,by omega,Lib.hid (j9 _ _ _ rfl),Lib.hid (by rw [hn.out];simp),aa _ _⟩
 case round =>
  obtain ⟨pos,HI,aeE,hit,hf,hb⟩:=hrel
  by_cases hp:pos<l.length
  ·obtain ⟨x,k,hk,hkl,hd,FY,HA,hc⟩:=eo hp
   have j7:=bQ hit.out hp hd;have gZ:=Lib.hid (Lib.iterAt_heap wr w.heap.size (bs l) pos (pos+k) hit.out);have hb2:=Lib.below_iterAt hb (k:=w.heap.size) (Nat.le_refl _) (bs l) (pos+k);have hpos:Hid (wr.iterPos w.heap.size=pos):=Lib.hid (by simp only [World.iterPos,hit.out]);have eC:Hid ((wr.iterAt w.heap.size (bs l) (pos+k)).iterPos w.heap.size=pos+k):=Lib.hid (by simp only [World.iterPos,gZ.out]);replace hd:=Lib.hid hd;replace HA:=Lib.hid HA
   by_cases ER:x=58
   ·have J4:l[pos]=58:=by
     rcases hc with ⟨_,h2,_⟩ | ⟨_,h2,_⟩
     ·exact UInt8.toNat_inj.1 (by rw [← h2,ER];rfl)
     ·omega
    have F5:pos=n:=by have:=hf.out;rw [Lk.ze hp (by rw [J4];decide)] at this;omega
    have hres:Hid (R=decide ((2:Int)≤(pos:Int))):=Lib.hid (by
     rw [hR2.out,← F5,getD_at hp,J4,Bool.eq_iff_iff,decide_eq_true_iff,decide_eq_true_iff];exact ⟨fun h=>by omega,fun h=>⟨by omega,aeE,rfl⟩⟩)
    replace F5:=Lib.hid F5;have t:((x:Int)==58)=true:=by simp [ER]
    replace ER:=Lib.hid ER;replace J4:=Lib.hid J4;replace hc:=Lib.hid hc;go_wp2;go_ret2;exact ⟨⟨pos+1,by rw [hres.out];rfl,fun _=>by have:=F5.out;omega⟩,hb2⟩
   ·have t:((x:Int)==58)=false:=by rw [beq_eq_false_iff_ne];omega
    by_cases hsm:97≤x∧x≤122
    ·have hq:x=l[pos].toNat∧k=1:=by
      rcases hc with ⟨_,h2,h3⟩ | ⟨_,h2,_⟩
      ·exact ⟨h2,h3⟩
      ·omega
     have hls:Lk.small l[pos]=true:=(Lk.pX _).2 (by omega);have hf2:Hid (pos+1+Lk.letters (l.drop (pos+1))=n):=Lib.hid (by have:=hf.out;rw [Lk.Im hp hls] at this;omega);have jq:k=1:=hq.2;clear hq hls hc;subst jq;have hds:(decide (97≤(x:Int)∧(x:Int)≤122))=true:=decide_eq_true (by omega)
     by_cases h12:pos=12
     ·have hres:R=false:=by
       rw [hR2.out];refine decide_eq_false ?_;have:=hf2.out;omega
      have hge:12≤pos:=by omega
      subst hres;replace h12:=Lib.hid h12;replace hsm:=Lib.hid hsm;go_wp2_with (go_at_call 180;refine (mK _ _).mono ?_;rintro e w1 ⟨rfl,rfl⟩;rw [hds]);go_ret2;exact ⟨⟨0,rfl,fun h=>by cases h⟩,hb2⟩
     ·have hlt:pos<12:=by omega
      replace h12:=Lib.hid h12;replace hsm:=Lib.hid hsm;go_wp2_with (go_at_call 180;refine (mK _ _).mono ?_;rintro e w1 ⟨rfl,rfl⟩;rw [hds])
      go_roundw
      case rel=>exact ⟨pos+1,by omega,by omega,gZ,hf2,hb2⟩
      case measure=>rw [hpos.out,eC.out];omega
    ·have hds:(decide (97≤(x:Int)∧(x:Int)≤122))=false:=decide_eq_false (by omega)
     have hls:Lk.small l[pos]=false:=by
      rw [← Bool.not_eq_true,Lk.pX];rcases hc with ⟨_,h2,_⟩ | ⟨h2,_,_⟩<;>omega
     have F5:pos=n:=by have:=hf.out;rw [Lk.ze hp hls] at this;omega
     have J4:l[pos]≠58:=by
      intro he;rw [he] at hc;rcases hc with ⟨_,h2,_⟩ | ⟨h2,_,_⟩
      ·exact ER h2
      ·exact absurd h2 (by decide)
     have hres:R=false:=by
      rw [hR2.out,← F5,getD_at hp];exact decide_eq_false fun h=>J4 h.2.2
     subst hres;clear F5 hls J4 hc;replace hsm:=Lib.hid hsm;replace ER:=Lib.hid ER;go_wp2_with (go_at_call 180;refine (mK _ _).mono ?_;rintro e w1 ⟨rfl,rfl⟩;rw [hds]);go_ret2;exact ⟨⟨0,rfl,fun h=>by cases h⟩,hb2⟩
  ·have j7:=cq hit.out hp
   have F5:pos=n:=by have:=hf.out;rw [Lk.GZ hp] at this;omega
   have hres:R=false:=by
    rw [hR2.out,← F5,Fe hp];exact decide_eq_false fun h=>absurd h.2.2 (by decide)
   subst hres;clear F5;go_wp2;go_ret2;exact ⟨⟨0,rfl,fun h=>by cases h⟩,hb⟩
theorem Iv (x:Nat):decide (97≤(x:Int)∧(x:Int)≤122)=bZ x:=by
 unfold bZ;rw [Bool.eq_iff_iff,decide_eq_true_iff,decide_eq_true_iff];omega
theorem wJ {D:List Nat}{x:Nat}(h:bZ x=true):(D++[x]).filter bZ=D.filter bZ++[x]:=by rw [List.filter_append];simp [h]
theorem zL {D:List Nat}{x:Nat}(h:bZ x=false):(D++[x]).filter bZ=D.filter bZ:=by rw [List.filter_append];simp [h]
theorem Dy (l:List UInt8) (w:World) (hs:l.length≤1000000000) :
  Calls Tryz.prog 144 #[.string (bs l)] w fun e w'=>e=.returned (.string (bs (Lk.word l)))∧Below w.heap.size w w':=by
 have hsz:=au l;have qf:=fun w=>IG l w hs;have hfl:(Ru.enc (Ru.fold (Ru.aS l))).length≤4000000000:=by
  have h1:=(Ru.gJ (Ru.fold (Ru.aS l))).2;have h2:=Ru.R6 (Ru.aS l);have h3:=Ru.lU l;omega
 have hrf:Ru.aS (Ru.enc (Ru.fold (Ru.aS l)))=Ru.fold (Ru.aS l):=Ru.BD (Ru.WR (Ru.PZ l));have hwf:=Mv l;rw [← hrf] at hwf;obtain ⟨F,hF⟩:∃ F,F=Ru.enc (Ru.fold (Ru.aS l)):=⟨_,rfl⟩
 rw [← hF] at qf hfl hwf;rw [← hwf];clear hrf hF hwf;have hFs:=au F;go_enter Tryz.func144,Tryz.ntmps144;go_wp2_with fail;refine (qf _).mono ?_;rintro e w1 ⟨rfl,hb1⟩;have J3:k9 w.heap.size w.heap.size (ai []) w1:=Bx (qi w) hb1;have ow:Below w.heap.size w w1:=ag (aa _ _) hb1;have hz1:w.heap.size<w1.heap.size:=by
  have h1:=ZI J3;omega
 clear hb1;go_wp2_with fail
 go_loopw [] (fun wr=>∃ (pos:Nat) (D:List Nat),k9 w.heap.size w.heap.size (ai (Ru.enc (D.filter bZ))) wr∧Hid (wr.heap[w1.heap.size]? = some (.stringIter (bs F) pos))∧Hid (D++Ru.aS (F.drop pos)=Ru.aS F)∧Below w.heap.size w wr)
  (fun wr=>F.length-wr.iterPos w1.heap.size)
 case atStart=>exact ⟨0,[],J3.alloc _,Lib.hid (j9 _ _ _ rfl),Lib.hid rfl,ow.alloc ow.size _⟩
 case round =>
  obtain ⟨pos,D,hI,hit,hD,hb⟩:=hrel;have hdl:=nK hD.out;have hfD:(D.filter bZ).length≤D.length:=List.length_filter_le _ _
  by_cases hp:pos<F.length
  ·obtain ⟨x,k,hk,hv,hd,vf⟩:=dx hp hD.out
   have j7:=bQ hit.out hp hd;replace vf:=Lib.hid vf;replace hd:=Lib.hid hd;have gZ:=Lib.hid (Lib.iterAt_heap wr w1.heap.size (bs F) pos (pos+k) hit.out);have hb2:=Lib.below_iterAt hb (k:=w1.heap.size) (by omega) (bs F) (pos+k);have nU:k9 _ _ _ _:=hI.iterAt hit.out (pos+k);have hpos:Hid (wr.iterPos w1.heap.size=pos):=Lib.hid (by simp only [World.iterPos,hit.out]);have hz2:w.heap.size≤(wr.iterAt w1.heap.size (bs F) (pos+k)).heap.size:=by rw [Lib.iterAt_size];have:=hb.size;omega
   have hl4:=(Ru.gJ (D.filter bZ)).2;have FY:x≤1114111:=by unfold Ru.vr at hv;omega
   have hlen:(ai (Ru.enc (D.filter bZ))).length+4≤140737488355328:=by rw [fW];omega
   have qs:=fun w=>mK (x:Int) w;rw [Iv] at qs;clear hl4 hv;cases hsm:bZ x with
   | true =>
    rw [hsm] at qs;have hfy:=Lib.hid (wJ (D:=D) hsm);clear hsm;obtain ⟨Y,hY⟩:∃ Y,Y=D.filter bZ:=⟨_,rfl⟩
    rw [← hY] at hI nU hlen hfy;clear hY;go_wp2_with (go_at_call 180;refine (qs _).mono ?_;rintro e w' ⟨rfl,rfl⟩);refine (dF w.heap.size w.heap.size _ (x:Int) (by omega) (by omega) _ nU hlen hz2).mono ?_;rintro e w3 ⟨⟨v,rfl⟩,h2,b2,k2⟩;have rV:=Lib.hid (k2.iter gZ.out (by omega));have eC:Hid (w3.iterPos w1.heap.size=pos+k):=Lib.hid (by simp only [World.iterPos,rV.out]);have h2':=gW h2;clear h2;go_wp2
    go_roundw
    case rel=>exact ⟨pos+k,D++[x],by rw [hfy.out];exact h2',rV,vf,hb2.trans b2⟩
    case measure=>rw [hpos.out,eC.out];omega
   | false =>
    rw [hsm] at qs;have hfy:=Lib.hid (zL (D:=D) hsm);clear hsm;go_wp2_with (go_at_call 180;refine (qs _).mono ?_;rintro e w' ⟨rfl,rfl⟩);have eC:Hid ((wr.iterAt w1.heap.size (bs F) (pos+k)).iterPos w1.heap.size=pos+k):=Lib.hid (by simp only [World.iterPos,gZ.out])
    go_roundw
    case rel=>exact ⟨pos+k,D++[x],by rw [hfy.out];exact nU,gZ,vf,hb2⟩
    case measure=>rw [hpos.out,eC.out];omega
  ·have j7:=cq hit.out hp
   have Wz:=nJ hp hD.out;subst Wz;clear hD;have hz:w.heap.size≤wr.heap.size:=hb.size;go_wp2_with fail;refine (ny w.heap.size w.heap.size _ _ hI hz).mono ?_;rintro e w3 ⟨rfl,b3⟩;go_wp2;go_ret;exact ⟨rfl,hb.trans b3⟩
theorem NT (l:List UInt8) (hs:l.length≤1000000000) (w:World) :
  Calls Tryz.prog 110 #[.string (bs l)] w fun e w'=>e=.returned (.bool (Lk.safe l))∧Below w.heap.size w w':=by
 have hsz:=au l;have q1:=fun w=>lP l 35 (by decide) w;have q2:=fun w=>VW l 58 (by omega) w;obtain ⟨R,hR⟩:∃ R,R=Lk.safe l:=⟨_,rfl⟩
 rw [← hR];unfold Lk.safe Lk.head at hR;cases XR:l.getD 0 0==35 with
 | true =>
  have hres:R=false:=by rw [hR];simp only [bne,XR];rfl
  rw [XR] at q1;subst hres;clear hR XR;go_enter Tryz.func110,Tryz.ntmps110;go_wp2_with fail;refine (q1 _).mono ?_;rintro e w1 ⟨rfl,rfl⟩;go_wp2;go_ret;exact ⟨rfl,Below.refl _ _⟩
 | false =>
  simp only [bne,XR] at hR;rw [XR] at q1;cases hc:l.contains 58 with
  | false =>
   have hres:R=true:=by rw [hR];simp only [hc];rfl
   rw [hc] at q2;subst hres;clear hR XR hc;obtain ⟨H,hH⟩:∃ H,H=l.takeWhile (· != 58):=⟨_,rfl⟩
   rw [← hH] at q2;clear hH;go_enter Tryz.func110,Tryz.ntmps110;go_wp2_with fail;refine (q1 _).mono ?_;rintro e w1 ⟨rfl,rfl⟩;go_wp2_with fail;refine (q2 _).mono ?_;rintro e w2 ⟨⟨a,rfl⟩,hb2⟩;go_wp2;go_ret;exact ⟨rfl,hb2⟩
  | true =>
   rw [hc] at q2;simp only [hc,if_true] at hR;have hHl:(l.takeWhile (· != 58)).length≤l.length:=(List.takeWhile_sublist _).length_le;have q3:=fun w=>Dy (l.takeWhile (· != 58)) w (by omega);have hR2:R=(!(Lk.word (l.takeWhile (· != 58))==Lk.js)&&!(Lk.word (l.takeWhile (· != 58))==Lk.data)):=by rw [hR];simp only [bne,Bool.not_false,Bool.true_and]
   clear hR;obtain ⟨H,hH⟩:∃ H,H=l.takeWhile (· != 58):=⟨_,rfl⟩
   rw [← hH] at q2 q3 hR2 hHl;obtain ⟨D,hD⟩:∃ D,D=Lk.word H:=⟨_,rfl⟩
   rw [← hD] at q3 hR2;have hDs:=au D;clear hH hD XR hc
   by_cases f1:D=Lk.js
   ·have e1:((bs D).toList==[106,97,118,97,115,99,114,105,112,116])=true:=by rw [bH,f1];rfl
    rw [f1] at hR2;simp only [beq_self_eq_true,Bool.not_true,Bool.false_and] at hR2;subst hR2;clear f1;go_enter Tryz.func110,Tryz.ntmps110;go_wp2_with fail;refine (q1 _).mono ?_;rintro e w1 ⟨rfl,rfl⟩;go_wp2_with fail;refine (q2 _).mono ?_;rintro e w2 ⟨⟨a,rfl⟩,hb2⟩;go_wp2_with fail;refine (q3 _).mono ?_;rintro e w3 ⟨rfl,hb3⟩;replace hb3:=ag hb2 hb3;go_wp2;go_ret;exact ⟨rfl,hb3⟩
   ·have e1:=vv f1
    unfold Lk.js at e1;have f1':(D==Lk.js)=false:=by simpa using f1
    rw [f1'] at hR2;simp only [Bool.not_false,Bool.true_and] at hR2;clear f1 f1'
    by_cases f2:D=Lk.data
    ·have e2:((bs D).toList==[100,97,116,97])=true:=by rw [bH,f2];rfl
     rw [f2] at hR2;simp only [beq_self_eq_true,Bool.not_true] at hR2;subst hR2;clear f2;go_enter Tryz.func110,Tryz.ntmps110;go_wp2_with fail;refine (q1 _).mono ?_;rintro e w1 ⟨rfl,rfl⟩;go_wp2_with fail;refine (q2 _).mono ?_;rintro e w2 ⟨⟨a,rfl⟩,hb2⟩;go_wp2_with fail;refine (q3 _).mono ?_;rintro e w3 ⟨rfl,hb3⟩;replace hb3:=ag hb2 hb3;go_wp2;go_ret;exact ⟨rfl,hb3⟩
    ·have e2:=vv f2
     unfold Lk.data at e2;have f2':(D==Lk.data)=false:=by simpa using f2
     rw [f2'] at hR2;simp only [Bool.not_false] at hR2;subst hR2;clear f2 f2';go_enter Tryz.func110,Tryz.ntmps110;go_wp2_with fail;refine (q1 _).mono ?_;rintro e w1 ⟨rfl,rfl⟩;go_wp2_with fail;refine (q2 _).mono ?_;rintro e w2 ⟨⟨a,rfl⟩,hb2⟩;go_wp2_with fail;refine (q3 _).mono ?_;rintro e w3 ⟨rfl,hb3⟩;replace hb3:=ag hb2 hb3;go_wp2;go_ret;exact ⟨rfl,hb3⟩
theorem As {l:List UInt8}{k:Nat}(hk:k<l.length) (fR:l[k]=60):Lk.starts l k=j8 (l.drop (k+1)):=by
 unfold Lk.starts j8;have e:(l.drop (k+1)).getD (Lk.letters (l.drop (k+1))) 0=l.getD (k+1+Lk.letters (l.drop (k+1))) 0:=by
  rw [List.getD_eq_getElem?_getD,List.getD_eq_getElem?_getD,List.getElem?_drop]
 rw [Bool.eq_iff_iff,decide_eq_true_iff,decide_eq_true_iff,e,getD_at hk];exact ⟨fun h=>h.2.2,fun h=>⟨hk,fR,h⟩⟩
theorem HY {l:List UInt8}{i:Nat}(h:i<l.length) (ER:l[i]=58):Lk.ends l i=Lk.ends l (i+1):=by
 have hd:Lib.decodeL (l.drop i)=(58,1):=by
  rw [List.drop_eq_getElem_cons h,Es.kI (by rw [ER];decide),ER];rfl
 rw [Lk.A8 h,hd,if_neg (by decide),if_neg (by decide)]
theorem RO (l:List UInt8) (k:Nat) (hk:k<l.length) (hs:l.length≤1000000000) (fR:l[k]=60) (w:World) :
  Calls Tryz.prog 221 #[.string (bs l),.int .i64 (k:Int)] w fun e w'=>e=.returned (gq (Lk.auto l (k:Int)))∧Below w.heap.size w w':=by
 have hsz:=au l;have qst:=fun w=>mz l (k:Int) 60 60 rfl hs w;rw [show stand l (k:Int) 60=true from by rw [oC (by omega) (by simpa using hk)];simpa using fR] at qst;have hfr:=fun w=>iS (S:=l) (i:=k+1) (v:=(k:Int)+1) (by omega) (by omega) w;have YP:=As hk fR;have hon:=fun h=>Lk.Cy (l:=l) (k:=k) h rfl;have hoff:=fun h=>Lk.oP (l:=l) (k:=k) h;rw [YP] at hon hoff;obtain ⟨R,hR⟩:∃ R,R=Lk.auto l (k:Int):=⟨_,rfl⟩
 rw [← hR] at hon hoff ⊢;have hlen:(l.drop (k+1)).length=l.length-(k+1):=by rw [List.length_drop]
 have qsc:=fun w=>Jp (l.drop (k+1)) w (by omega);have ER:j8 (l.drop (k+1))=true→k+1+Lk.letters (l.drop (k+1))<l.length∧Lk.ends l (k+1+Lk.letters (l.drop (k+1)))=Lk.ends l (k+1+(Lk.letters (l.drop (k+1))+1)):=by
  intro h;have h3:=(of_decide_eq_true h).2.2;have hlt:Lk.letters (l.drop (k+1))<(l.drop (k+1)).length:=by
   by_cases hc:Lk.letters (l.drop (k+1))<(l.drop (k+1)).length
   ·exact hc
   ·rw [Fe hc] at h3;exact absurd h3 (by decide)
  rw [getD_at hlt,List.getElem_drop] at h3;exact ⟨by omega,HY (by omega) h3⟩
 obtain ⟨n,hn⟩:∃ n,n=Lk.letters (l.drop (k+1)):=⟨_,rfl⟩
 rw [← hn] at hon ER qsc;obtain ⟨o,ho⟩:∃ o,o=j8 (l.drop (k+1)):=⟨_,rfl⟩
 rw [← ho] at hon hoff ER qsc;obtain ⟨T,hT⟩:∃ T,T=l.drop (k+1):=⟨_,rfl⟩
 rw [← hT] at hfr qsc hlen;replace hon:=Lib.hid hon;replace hoff:=Lib.hid hoff;replace ER:=Lib.hid ER;replace hT:=Lib.hid hT;clear hR YP fR hn ho;have hTs:=au T;cases o with
 | false =>
  have hres:R=none:=hoff.out rfl;subst hres;go_enter Tryz.func221,Tryz.ntmps221;go_wp2_with fail;refine (qst _).mono ?_;rintro e w0 ⟨rfl,rfl⟩;go_wp2_with fail;refine (qsc _).mono ?_;rintro e w1 ⟨⟨m,rfl,_⟩,hb1⟩;go_wp2;go_ret3;exact ⟨rfl,hb1⟩
 | true =>
  obtain ⟨hlt,hen⟩:=ER.out rfl;obtain ⟨b,hbd⟩:∃ b,b=k+1+(n+1):=⟨_,rfl⟩
  have hR2:Hid (R=(Lk.ends l b).map fun j=>(mid l (k+1) j,j+1)):=Lib.hid (by rw [hon.out rfl,hen,hbd]);have hbl:b≤l.length:=by omega
  have hfr2:=fun w=>iS (S:=l) (i:=b) (v:=(n:Int)+1+((k:Int)+1)) hbl (by omega) w;obtain ⟨U,hU⟩:∃ U,U=l.drop b:=⟨_,rfl⟩
  have hUl:U.length=l.length-b:=by rw [hU,List.length_drop]
  have hUs:=au U;have hUd:Hid (∀ q,Utf8.decode (bs U) q=Lib.decodeL (l.drop (b+q))):=Lib.hid (by
   intro q;rw [← dx.decodeL_drop' U q,hU,List.drop_drop])
  rw [← hU] at hfr2;have xd:(b:Int)=(n:Int)+1+((k:Int)+1):=by omega
  replace hbd:=Lib.hid hbd;replace hU:=Lib.hid hU;clear hon hoff ER hen;go_enter Tryz.func221,Tryz.ntmps221;go_wp2_with fail;refine (qst _).mono ?_;rintro e w0 ⟨rfl,rfl⟩;go_wp2_with fail;refine (qsc _).mono ?_;rintro e w1 ⟨⟨m,rfl,hm⟩,hb1⟩;have hmn:(m:Int)=(n:Int)+1:=by have:=hm (by trivial);omega
  rw [hmn];clear hm hmn;have agu:=hb1.size;go_wp2_with fail
  go_loopw [] (fun wr=>∃ pos:Nat,pos≤U.length∧Hid (wr.heap[w1.heap.size]? = some (.stringIter (bs U) pos))∧Hid (Lk.ends l b=Lk.ends l (b+pos))∧Below w.heap.size w wr)
   (fun wr=>U.length-wr.iterPos w1.heap.size)
  case atStart=>exact ⟨0,by omega,Lib.hid (j9 _ _ _ rfl),Lib.hid rfl,hb1.alloc hb1.size _⟩
  case round =>
   obtain ⟨pos,HI,hit,he,hb⟩:=hrel
   by_cases hp:pos<U.length
   ·obtain ⟨x,q,hq,hql,hd,FY,HA,hc⟩:=eo hp
    have hst:=Lk.A8 (l:=l) (i:=b+pos) (by omega);rw [← hUd.out pos,hd,← he.out] at hst;simp only at hst;have j7:=bQ hit.out hp hd;have gZ:=Lib.hid (Lib.iterAt_heap wr w1.heap.size (bs U) pos (pos+q) hit.out);have hb2:=Lib.below_iterAt hb (k:=w1.heap.size) (by omega) (bs U) (pos+q);have hpos:Hid (wr.iterPos w1.heap.size=pos):=Lib.hid (by simp only [World.iterPos,hit.out]);have eC:Hid ((wr.iterAt w1.heap.size (bs U) (pos+q)).iterPos w1.heap.size=pos+q):=Lib.hid (by simp only [World.iterPos,gZ.out]);replace hd:=Lib.hid hd;replace HA:=Lib.hid HA;replace hc:=Lib.hid hc
    by_cases mm:x=62
    ·have hres:R=some (mid l (k+1) (b+pos),b+pos+1):=by rw [hR2.out,hst,if_pos mm];rfl
     have t:((x:Int)==62)=true:=by simp [mm]
     have hcut:=fun w=>iG (S:=l) (i:=k+1) (j:=b+pos) (v:=(k:Int)+1) (u:=(n:Int)+1+((k:Int)+1)+(pos:Int)) (by omega) (by omega) (by omega) (by omega) w;have hml:(mid l (k+1) (b+pos)).length≤140737488355328:=by rw [ep (by omega)];omega
     have qcl:=fun w=>CW (mid l (k+1) (b+pos)) w hml;obtain ⟨M,hM⟩:∃ M,M=mid l (k+1) (b+pos):=⟨_,rfl⟩
     rw [← hM] at hcut qcl hres;have hsp:gq (some (M,b+pos+1))=.tuple #[.string (bs M),.int .i64 ((n:Int)+1+((k:Int)+1)+(pos:Int)+1),.bool true]:=by
      show Value.tuple #[.string (bs M),.int .i64 ((b+pos+1:Nat):Int),.bool true]=_;rw [show ((b+pos+1:Nat):Int)=(n:Int)+1+((k:Int)+1)+(pos:Int)+1 by omega]
     subst hres;replace hsp:=Lib.hid hsp;replace mm:=Lib.hid mm;clear hst he hR2 hM hml;go_wp2_with fail;refine (qcl _).mono ?_;rintro e w4 ⟨rfl,hb4⟩;replace hb4:=ag hb2 hb4;go_wp2;go_ret3;exact ⟨congrArg Ending.returned hsp.out.symm,hb4⟩
    ·have t:((x:Int)==62)=false:=by rw [beq_eq_false_iff_ne];omega
     rw [if_neg mm] at hst
     by_cases fR:x=60
     ·have hres:R=none:=by rw [hR2.out,hst,if_pos (.inl fR)];rfl
      have t2:((x:Int)==60)=true:=by simp [fR]
      subst hres;replace mm:=Lib.hid mm;replace fR:=Lib.hid fR;clear hst he hR2;go_wp2;go_ret3;exact ⟨rfl,hb2⟩
     ·have t2:((x:Int)==60)=false:=by rw [beq_eq_false_iff_ne];omega
      have qb:=fun w=>fA (x:Int) w;cases hbl:dP (x:Int) with
      | true =>
       have hres:R=none:=by rw [hR2.out,hst,if_pos (.inr hbl)];rfl
       rw [hbl] at qb;subst hres;replace mm:=Lib.hid mm;replace fR:=Lib.hid fR;clear hst he hR2 hbl;go_wp2_with (go_at_call 212;refine (qb _).mono ?_;rintro e w4 ⟨rfl,rfl⟩);go_ret3;exact ⟨rfl,hb2⟩
      | false =>
       rw [if_neg (by rw [hbl];simp [fR])] at hst;rw [hbl] at qb;have Pf:Hid (Lk.ends l b=Lk.ends l (b+(pos+q))):=Lib.hid (by rw [hst,Nat.add_assoc]);replace mm:=Lib.hid mm;replace fR:=Lib.hid fR;clear hst he hbl;go_wp2_with (go_at_call 212;refine (qb _).mono ?_;rintro e w4 ⟨rfl,rfl⟩)
       go_roundw
       case rel=>exact ⟨pos+q,by omega,gZ,Pf,hb2⟩
       case measure=>rw [hpos.out,eC.out];omega
   ·have j7:=cq hit.out hp
    have hres:R=none:=by rw [hR2.out,he.out,Lk.P0 (by omega)];rfl
    subst hres;clear he hR2;go_wp2;go_ret3;exact ⟨rfl,hb⟩
theorem ug (l:List UInt8) (at_:Int) (hs:l.length≤1000000000) (w:World) :
  Calls Tryz.prog 221 #[.string (bs l),.int .i64 at_] w fun e w'=>e=.returned (gq (Lk.auto l at_))∧Below w.heap.size w w':=by
 cases h:stand l at_ 60 with
 | true =>
  obtain ⟨k,rfl,hk,fR⟩:=Co h;exact RO l k hk hs fR w
 | false =>
  have hno:Lk.auto l at_=none:=by
   apply V6
   by_cases h1:at_<0
   ·exact .inl h1
   ·by_cases h2:(l.length:Int)≤at_
    ·exact .inr (.inl ⟨by omega,h2⟩)
    ·refine .inr (.inr ⟨by omega,by omega,?_⟩)
     rw [oC (by omega) (by omega)] at h;simpa using h
  have qst:=fun w=>mz l at_ 60 60 rfl hs w;rw [h] at qst;rw [hno];clear h hno;go_enter Tryz.func221,Tryz.ntmps221;go_wp2_with fail;refine (qst _).mono ?_;rintro e w0 ⟨rfl,rfl⟩;go_wp2;go_ret3;exact ⟨rfl,Below.refl _ _⟩
def S8 (l:List UInt8) (k:Nat):Nat:=match Lk.auto l (k:Int) with | some x=>x.2 | none=>k+1
def acm (l:List UInt8) (k:Nat):Nat:=match Cd.span l (k:Int) with | some x=>x.2 | none=>k+Fn.run 96 (l.drop k)
theorem NG {l:List UInt8}{k:Nat}{t:List UInt8}{e:Nat}(h:Lk.auto l (k:Int)=some (t,e)):S8 l k=e:=by unfold S8;rw [h]
theorem Mf {l:List UInt8}{k:Nat}(h:Lk.auto l (k:Int)=none):S8 l k=k+1:=by unfold S8;rw [h]
theorem EK {l:List UInt8}{i:Nat}(h:i<l.length) (ho:(Es.next l i).2.2=true):l[i]=92:=by
 rw [Es.jt h] at ho;simp only at ho;cases hes:Es.dR (l.drop i) with
 | true =>
  rw [List.drop_eq_getElem_cons h] at hes
  by_cases EE:l[i]=92
  ·exact EE
  ·rw [Es.xX EE] at hes;cases hes
 | false=>rw [Es.kG hes] at ho;cases ho
theorem sn {l:List UInt8}{i:Nat}(h:i<l.length) (ho:(Es.next l i).2.2=false) :
  (l[i].toNat<128∧(Es.next l i).1=l[i].toNat∧(Es.next l i).2.1=i+1)∨(128≤l[i].toNat∧128≤(Es.next l i).1):=by
 rw [Es.jt h] at ho ⊢;simp only at ho ⊢;cases hes:Es.dR (l.drop i) with
 | true=>rw [Es.lS hes] at ho;cases ho
 | false =>
  rw [Es.kG hes];obtain ⟨x,k,_,_,_,_,HA,hc⟩:=eo h;rw [HA];rcases hc with ⟨h1,h2,h3⟩ | ⟨h1,h2,_⟩
  ·exact .inl ⟨h1,h2,by simp only [h3]⟩
  ·exact .inr ⟨h1,h2⟩
theorem jN {l:List UInt8}{i:Nat}{c:UInt8}(h:i<l.length) (ho:(Es.next l i).2.2=false) (hc:c.toNat<128):(Es.next l i).1=c.toNat↔l[i]=c:=by
 rcases sn h ho with ⟨h1,h2,_⟩ | ⟨h1,h2⟩
 ·rw [h2];exact ⟨fun e=>UInt8.toNat_inj.1 e,fun e=>by rw [e]⟩
 ·exact ⟨fun e=>by omega,fun e=>by rw [e] at h1;omega⟩
theorem nF {l:List UInt8}{i:Nat}(h:i<l.length) (fR:l[i]≠60):Lk.auto l (i:Int)=none:=by
 cases ha:Lk.auto l (i:Int) with
 | none=>rfl
 | some x =>
  obtain ⟨t,e⟩:=x;have:=(Lk.pT ha).2.2;rw [getD_at h] at this;exact absurd this fR
theorem qV {l:List UInt8}{i:Nat}(h:i<l.length) :
  ((Es.next l i).2.2=true→Lk.hop l i=(Es.next l i).2.1∧Lk.sign l i=0) ∧
  ((Es.next l i).2.2=false →
   ((Es.next l i).1=96→Lk.hop l i=acm l i∧Lk.sign l i=0) ∧
   ((Es.next l i).1=60→Lk.hop l i=S8 l i∧Lk.sign l i≠91∧Lk.sign l i≠93) ∧
   ((Es.next l i).1≠96→(Es.next l i).1≠60→Lk.hop l i=(Es.next l i).2.1∧Lk.sign l i=(Es.next l i).1)):=by
 have hg:=getD_at h;refine ⟨fun ho=>?_,fun ho=>⟨fun kV=>?_,fun fR=>?_,fun kV fR=>?_⟩⟩
 ·have EE:=EK h ho
  have:=Lk.oM (l:=l) (i:=i) (by rw [hg,EE];decide) (nF h (by rw [EE];decide));rw [ho,if_pos rfl] at this;exact this
 ·have hl:l[i]=96:=(jN (c:=96) h ho (by decide)).1 kV
  unfold Lk.hop Lk.sign acm;rw [if_pos (by rw [hg,hl]),if_pos (by rw [hg,hl])];exact ⟨rfl,rfl⟩
 ·have hl:l[i]=60:=(jN (c:=60) h ho (by decide)).1 fR
  have hne:l.getD i 0≠96:=by rw [hg,hl];decide
  cases ha:Lk.auto l (i:Int) with
  | some x =>
   obtain ⟨t,e⟩:=x;obtain ⟨j1,j2⟩:=Lk.xy hne ha;exact ⟨j1.trans (NG ha).symm,by rw [j2];decide,by rw [j2];decide⟩
  | none =>
   obtain ⟨j1,j2⟩:=Lk.oM hne ha;rw [ho,if_neg (by decide),fR] at j2;refine ⟨?_,by rw [j2];decide,by rw [j2];decide⟩;rw [j1,Mf ha];rcases sn h ho with ⟨_,_,h3⟩ | ⟨h1,_⟩
   ·exact h3
   ·rw [hl] at h1;exact absurd h1 (by decide)
 ·have aee:l[i]≠96:=fun e=>kV ((jN (c:=96) h ho (by decide)).2 e)
  have ac8:l[i]≠60:=fun e=>fR ((jN (c:=60) h ho (by decide)).2 e);have:=Lk.oM (l:=l) (i:=i) (by rw [hg];exact aee) (nF h ac8);rw [ho,if_neg (by decide)] at this;exact this
theorem zz {l:List UInt8}{i:Nat}(h:i<l.length) (ho:(Es.next l i).2.2=true):dP ((Es.next l i).1:Int)=false:=by
 rw [Es.jt h] at ho ⊢;simp only at ho ⊢;cases hes:Es.dR (l.drop i) with
 | false=>rw [Es.kG hes] at ho;cases ho
 | true =>
  rw [Es.lS hes];have ha:=(Es.KX _).1 (Es.B8 hes);rw [← Bool.not_eq_true];intro hb;have:=(Ru.J2 _).1 hb;omega
theorem QZ (l:List UInt8) (k:Nat) (hk:k<l.length) (hs:l.length≤1000000000) (Pe:l[k]=40) (w:World) :
  Calls Tryz.prog 223 #[.string (bs l),.int .i64 (k:Int)] w fun e w'=>e=.returned (gq (Lk.dest l (k:Int)))∧Below w.heap.size w w':=by
 have hsz:=au l;have qst:=fun w=>mz l (k:Int) 40 40 rfl hs w;rw [show stand l (k:Int) 40=true from by rw [oC (by omega) (by simpa using hk)];simpa using Pe] at qst;have hcl:=Lk.UH hk (by rw [getD_at hk];exact Pe);obtain ⟨R,hR⟩:∃ R,R=Lk.dest l (k:Int):=⟨_,rfl⟩
 rw [← hR] at hcl ⊢;clear hR Pe;replace hcl:=Lib.hid hcl;go_enter Tryz.func223,Tryz.ntmps223;go_wp2_with fail;refine (qst _).mono ?_;rintro e w0 ⟨rfl,rfl⟩;go_wp2_with fail
 go_loopw [8] (fun u wr=>∃ i:Nat,k+1≤i∧i≤l.length∧u=.int .i64 i∧Hid (Lk.lK l (k+1)=Lk.lK l i)∧Below w.heap.size w wr) (fun u _=>l.length-(intOf u).toNat)
 case atStart=>exact ⟨k+1,by omega,by omega,by go_num,Lib.hid rfl,Below.refl _ _⟩
 case round =>
  obtain ⟨i,hi1,hi2,rfl,he,hb⟩:=hrel
  by_cases hil:i<l.length
  ·have hst:=Lk.IN hil
   have hmo:=Es.fj hil;rw [← he.out] at hst;have q2:=fun w=>pM l (i:Int) hs w trivial;rw [Int.toNat_natCast] at q2;unfold nN at q2;have Ma:=zz hil;have jY:=fun h=>jN (c:=41) hil h (by decide);have AX:=sn hil;obtain ⟨⟨r,nx,its⟩,hN⟩:∃ x,x=Es.next l i:=⟨_,rfl⟩
   rw [← hN] at q2 hst hmo Ma jY AX;simp only at q2 hst hmo Ma jY AX;clear hN;cases its with
   | true =>
    have Pf:Hid (Lk.lK l (k+1)=Lk.lK l nx):=Lib.hid (by rw [hst,if_neg (by simp),if_neg (by simp)]);have qb:=fun w=>fA (r:Int) w;rw [Ma rfl] at qb;clear he hst Ma jY AX;go_wp2_with fail;refine (q2 _).mono ?_;rintro e w2 ⟨rfl,hb2⟩;replace hb2:=ag hb hb2;go_wp2_with fail;refine (qb _).mono ?_;rintro e w3 ⟨rfl,rfl⟩;go_wp2_with fail
    go_roundw
    case rel=>exact ⟨nx,by omega,by omega,rfl,Pf,hb2⟩
    case measure=>simp [intOf];omega
   | false =>
    by_cases Xl:r=41
    ·have j7:(nx:Int)=(i:Int)+1:=by
      have hl:l[i]=41:=(jY rfl).1 (by rw [Xl];rfl);rcases AX rfl with ⟨_,_,h3⟩ | ⟨h1,_⟩
      ·omega
      ·rw [hl] at h1;exact absurd h1 (by decide)
     have hres:R=some (Ru.enc (Es.plain (mid l (k+1) i)),i+1):=by rw [hcl.out,hst,if_pos ⟨rfl,Xl⟩];rfl
     have t1:(((r:Nat):Int)==41)=true:=by simp [Xl]
     have hcut:=fun w=>iG (S:=l) (i:=k+1) (j:=i) (v:=(k:Int)+1) (u:=(i:Int)) (by omega) (by omega) (by omega) rfl w;have q3:=fun w=>JX (mid l (k+1) i) w (by rw [ep (by omega)];omega) trivial;clear he hst Xl hcl Ma jY AX;obtain ⟨T,hT⟩:∃ T,T=Ru.enc (Es.plain (mid l (k+1) i)):=⟨_,rfl⟩
     rw [← hT] at q3 hres;clear hT;have hsp:gq (some (T,i+1))=.tuple #[.string (bs T),.int .i64 (nx:Int),.bool true]:=by
      show Value.tuple #[.string (bs T),.int .i64 ((i+1:Nat):Int),.bool true]=_;rw [j7];rfl
     subst hres;replace j7:=Lib.hid j7;replace hsp:=Lib.hid hsp;go_wp2_with fail;refine (q2 _).mono ?_;rintro e w2 ⟨rfl,hb2⟩;replace hb2:=ag hb hb2;have afh:=hcut w2;go_wp2_with fail;refine (q3 _).mono ?_;rintro e w3 ⟨rfl,hb3⟩;replace hb3:=ag hb2 hb3;go_wp2;go_ret3;exact ⟨congrArg Ending.returned hsp.out.symm,hb3⟩
    ·have t1:(((r:Nat):Int)==41)=false:=by rw [beq_eq_false_iff_ne];omega
     rw [if_neg (fun h=>Xl h.2)] at hst;clear Ma jY AX
     by_cases Pe:r=40
     ·have hres:R=none:=by rw [hcl.out,hst,if_pos ⟨rfl,.inl Pe⟩];rfl
      have t2:(((r:Nat):Int)==40)=true:=by simp [Pe]
      subst hres;clear he hst Xl hcl Pe;go_wp2_with fail;refine (q2 _).mono ?_;rintro e w2 ⟨rfl,hb2⟩;replace hb2:=ag hb hb2;go_wp2;go_ret3;exact ⟨rfl,hb2⟩
     ·have t2:(((r:Nat):Int)==40)=false:=by rw [beq_eq_false_iff_ne];omega
      have qb:=fun w=>fA (r:Int) w;cases hbl:dP (r:Int) with
      | true =>
       have hres:R=none:=by rw [hcl.out,hst,if_pos ⟨rfl,.inr hbl⟩];rfl
       rw [hbl] at qb;subst hres;clear he hst Xl hcl Pe hbl;go_wp2_with fail;refine (q2 _).mono ?_;rintro e w2 ⟨rfl,hb2⟩;replace hb2:=ag hb hb2;go_wp2_with fail;refine (qb _).mono ?_;rintro e w3 ⟨rfl,rfl⟩;go_wp2;go_ret3;exact ⟨rfl,hb2⟩
      | false =>
       have Pf:Hid (Lk.lK l (k+1)=Lk.lK l nx):=Lib.hid (by rw [hst,if_neg (by rw [hbl];simp [Pe])]);rw [hbl] at qb;clear he hst Xl Pe hbl;go_wp2_with fail;refine (q2 _).mono ?_;rintro e w2 ⟨rfl,hb2⟩;replace hb2:=ag hb hb2;go_wp2_with fail;refine (qb _).mono ?_;rintro e w3 ⟨rfl,rfl⟩;go_wp2_with fail
       go_roundw
       case rel=>exact ⟨nx,by omega,by omega,rfl,Pf,hb2⟩
       case measure=>simp [intOf];omega
  ·have hres:R=none:=by rw [hcl.out,he.out,Lk.NN (by omega)];rfl
   subst hres;clear hcl he;go_wp2;go_ret3;exact ⟨rfl,hb⟩
theorem Ce (l:List UInt8) (at_:Int) (hs:l.length≤1000000000) (w:World) :
  Calls Tryz.prog 223 #[.string (bs l),.int .i64 at_] w fun e w'=>e=.returned (gq (Lk.dest l at_))∧Below w.heap.size w w':=by
 cases h:stand l at_ 40 with
 | true =>
  obtain ⟨k,rfl,hk,Pe⟩:=Co h;exact QZ l k hk hs Pe w
 | false =>
  have hno:Lk.dest l at_=none:=by
   apply UR
   by_cases h1:at_<0
   ·exact .inl h1
   ·by_cases h2:(l.length:Int)≤at_
    ·exact .inr (.inl ⟨by omega,h2⟩)
    ·refine .inr (.inr ⟨by omega,by omega,?_⟩)
     rw [oC (by omega) (by omega)] at h;simpa using h
  have qst:=fun w=>mz l at_ 40 40 rfl hs w;rw [h] at qst;rw [hno];clear h hno;go_enter Tryz.func223,Tryz.ntmps223;go_wp2_with fail;refine (qst _).mono ?_;rintro e w0 ⟨rfl,rfl⟩;go_wp2;go_ret3;exact ⟨rfl,Below.refl _ _⟩
def CJ (s:List UInt8) (i:Nat):Nat :=
 match Cd.span s (i:Int) with
 | some x=>x.2
 | none=>match Lk.auto s (i:Int) with
  | some x=>x.2
  | none=>i+max (Fn.run 96 (s.drop i)) 1
theorem Ez (g o:Nat) (s:List UInt8) (i:Nat) (hi:i<s.length) (hs:s.length≤4000000) (w:World) (h0:w.cell? ⟨g,o,none⟩=some (.string (bs s))) (hg:g<w.heap.size) :
  Calls Tryz.prog 245 #[.pointer (some ⟨g,o,none⟩),.int .i64 (i:Int)] w fun e w'=>e=.returned (.int .i64 (CJ s i:Int))∧Below w.heap.size w w':=by
 have hsp:=Lib.hid (uI s (i:Int) (by omega) w);have zT:=Lib.hid (fun w=>ug s (i:Int) (by omega) w);have hrl:=Fn.gE 96 (s.drop i);rw [List.length_drop] at hrl;have hrun:=Lib.hid (fun w=>sK s (i:Int) 96 w (by omega));rw [kL] at hrun;unfold CJ;cases h1:Cd.span s (i:Int) with
 | some x =>
  obtain ⟨t,n⟩:=x;rw [h1] at hsp;unfold gq at hsp;clear h1 zT hrun;simp only;go_enter Tryz.func245,Tryz.ntmps245;go_wp2_with fail;refine hsp.out.mono ?_;rintro e w1 ⟨rfl,hb1⟩;replace hb1:=Lib.hid hb1;clear hsp h0;go_wp2;go_ret;exact ⟨rfl,hb1.out⟩
 | none =>
  rw [h1] at hsp;unfold gq at hsp;clear h1;cases h2:Lk.auto s (i:Int) with
  | some x =>
   obtain ⟨t,n⟩:=x;rw [h2] at zT;unfold gq at zT;clear h2 hrun;simp only;go_enter Tryz.func245,Tryz.ntmps245;go_wp2_with fail;refine hsp.out.mono ?_;rintro e w1 ⟨rfl,hb1⟩;have k0:=(hb1.cell (p:=⟨g,o,none⟩) hg).trans h0;replace hb1:=Lib.hid hb1;clear hsp h0;go_wp2_with fail;refine (zT.out _).mono ?_;rintro e w2 ⟨rfl,hb2⟩;have hb:=Lib.hid (ag hb1.out hb2);clear zT hb2 k0;go_wp2;go_ret;exact ⟨rfl,hb.out⟩
  | none =>
   rw [h2] at zT;unfold gq at zT;clear h2;simp only;obtain ⟨n,hn⟩:∃ n,n=Fn.run 96 (s.drop i):=⟨_,rfl⟩
   rw [← hn] at hrun hrl ⊢;clear hn;go_enter Tryz.func245,Tryz.ntmps245;go_wp2_with fail;refine hsp.out.mono ?_;rintro e w1 ⟨rfl,hb1⟩;have k0:=(hb1.cell (p:=⟨g,o,none⟩) hg).trans h0;have hz1:=hb1.size;replace hb1:=Lib.hid hb1;clear hsp h0;go_wp2_with fail;refine (zT.out _).mono ?_;rintro e w2 ⟨rfl,hb2⟩;have k1:=(hb2.cell (p:=⟨g,o,none⟩) (Nat.lt_of_lt_of_le hg hz1)).trans k0;have hb:=Lib.hid (ag hb1.out hb2);clear zT hb2 k0;go_wp2_with fail;refine (hrun.out _).mono ?_;rintro e w3 ⟨rfl,rfl⟩;clear hrun
   by_cases uR:n=0
   ·subst uR
    go_wp2;go_ret;exact ⟨by simp;omega,hb.out⟩
   ·have hn2:1≤n:=by omega
    go_wp2;go_ret;exact ⟨by rw [show max n 1=n by omega];simp;omega,hb.out⟩
end Go.Proofs.YtddkjkockbcamaaGreatDoor
namespace Go.Proofs.YtddkjkockbcamaaGreatDoor
theorem OZ {s:List UInt8}{i:Nat}(hi:i<s.length) (hb:s[i]=96):CJ s i=Lk.hop s i∧Lk.sign s i=0:=by
 have hg:s.getD i 0=96:=by rw [Em.getD_at hi];exact hb
 unfold CJ;cases hs:Cd.span s (i:Int) with
 | some x =>
  obtain ⟨t,e⟩:=x;have:=Lk.GX hg hs;exact ⟨this.1.symm,this.2⟩
 | none =>
  have ha:Lk.auto s (i:Int)=none:=nF hi (by rw [hb];decide);have h1:=Lk.Lv hg hs;have h2:1≤Fn.run 96 (s.drop i):=by rw [Fn.jS hi hb];omega
  rw [ha,h1.1];exact ⟨by simp only;omega,h1.2⟩
theorem Ml {s:List UInt8}{i:Nat}(hi:i<s.length) (hb:s[i]=60) {t:List UInt8}{e:Nat}(ha:Lk.auto s (i:Int)=some (t,e)):CJ s i=Lk.hop s i∧Lk.sign s i=0:=by
 have hg:s.getD i 0≠96:=by rw [Em.getD_at hi,hb];decide
 have hs:Cd.span s (i:Int)=none:=Cd.jW (l5 (.inr (.inr (.inl ⟨by rw [Int.toNat_natCast];exact hi,by simp only [Int.toNat_natCast];rw [hb];decide⟩))));have h1:=Lk.xy hg ha;unfold CJ;rw [hs,ha];exact ⟨h1.1.symm,h1.2⟩
theorem HZ {s:List UInt8}{i:Nat}(hi:i<s.length) {b:UInt8}(hb:s[i]=b) (hl:b.toNat<128) (EE:b≠92):Es.next s i=(b.toNat,i+1,false):=by
 rw [Es.jt hi,List.drop_eq_getElem_cons hi,hb];have he:Es.dR (b::s.drop (i+1))=false:=by
  cases s.drop (i+1) with
  | nil=>rfl
  | cons c r=>show (b==92&&Es.O8 c)=false;rw [show (b==92)=false from by simpa using EE];rfl
 rw [Es.kG he,Es.kI hl]
theorem N9 {s:List UInt8}{i:Nat}(hi:i<s.length) (hb:s[i]=60) (ha:Lk.auto s (i:Int)=none):CJ s i=Lk.hop s i∧Lk.sign s i=60:=by
 have hg:s.getD i 0≠96:=by rw [Em.getD_at hi,hb];decide
 have hs:Cd.span s (i:Int)=none:=Cd.jW (l5 (.inr (.inr (.inl ⟨by rw [Int.toNat_natCast];exact hi,by simp only [Int.toNat_natCast];rw [hb];decide⟩))));have h1:=Lk.oM hg ha;have h2:Fn.run 96 (s.drop i)=0:=Fn.qM hi (by rw [hb];decide);have h3:=HZ hi hb (by decide) (by decide);rw [h3] at h1;unfold CJ;rw [hs,ha,h2];exact ⟨by rw [h1.1];simp only;omega,by rw [h1.2];simp⟩
end Go.Proofs.YtddkjkockbcamaaGreatDoor
