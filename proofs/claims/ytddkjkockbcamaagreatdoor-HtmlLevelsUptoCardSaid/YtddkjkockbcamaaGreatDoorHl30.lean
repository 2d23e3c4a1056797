/- LkPSch LkPSafe LkPAuto LkPClose LkPDest LkProg IlPBr IlPBr2 -/
import Derived.Test.YtddkjkockbcamaaGreatDoorHl28
import Derived.Test.YtddkjkockbcamaaGreatDoorHl29
import Derived.Test.YtddkjkockbcamaaGreatDoorHl05
import Derived.Test.YtddkjkockbcamaaGreatDoorHl03
import Derived.Test.YtddkjkockbcamaaGreatDoorHl17
set_option maxHeartbeats 16000000
set_option maxRecDepth 100000
namespace Go.Proofs.YtddkjkockbcamaaGreatDoor
open Go.RowKit
def stand (l:List UInt8) (at_:Int) (c:UInt8):Bool:=decide (0≤at_∧at_.toNat<l.length∧l.getD at_.toNat 0=c)
theorem JJ {l:List UInt8} {at_:Int} {c:UInt8} (h:at_<0):stand l at_ c=false:=by unfold stand; exact decide_eq_false (by omega)
theorem Jc {l:List UInt8} {at_:Int} {c:UInt8} (h:(l.length:Int)≤at_):stand l at_ c=false:=by unfold stand; exact decide_eq_false (by omega)
theorem nc {l:List UInt8} {at_:Int} {c:UInt8} (h0:0≤at_) (h:at_.toNat<l.length):stand l at_ c=(l[at_.toNat]==c):=by
 unfold stand;have e:l.getD at_.toNat 0=l[at_.toNat]:=by rw [List.getD_eq_getElem?_getD,List.getElem?_eq_getElem h]; rfl
 rw [Bool.eq_iff_iff,decide_eq_true_iff,beq_iff_eq,e];exact ⟨fun x=>x.2.2,fun x=>⟨h0,h,x⟩⟩
theorem yP {l:List UInt8} {at_:Int} {c:UInt8} (h:stand l at_ c=true):∃ k:Nat,at_=(k:Int)∧∃ hk:k<l.length,l[k]=c:=by
 unfold stand at h;obtain ⟨h0,h1,h2⟩:=of_decide_eq_true h;refine ⟨at_.toNat,by omega,h1,?_⟩;rw [List.getD_eq_getElem?_getD,List.getElem?_eq_getElem h1] at h2;exact h2
theorem l6 (l:List UInt8) (at_:Int) (c:UInt8) (v:Int) (hv:v=(c.toNat:Int)) (_hs:l.length≤1000000000) (w:World) :
  Calls Tryz.prog 234 #[.string (bs l),.int .i64 at_,.int .u8 v] w fun e w'=>e=.returned (.bool (stand l at_ c))∧w=w':=by
 have hsz:=au l
 by_cases h:at_<0
 ·rw [JJ h]
  go_enter Tryz.func234,Tryz.ntmps234;go_wp2;go_ret;exact ⟨rfl,rfl⟩
 ·by_cases h2:(l.length:Int)≤at_
  ·rw [Jc h2]
   go_enter Tryz.func234,Tryz.ntmps234;go_wp2;go_ret;exact ⟨rfl,rfl⟩
  ·have hk:at_.toNat<l.length:=by omega
   rw [nc (by omega) hk];have hix:=fF (i:=at_.toNat) (v:=at_) (S:=l) hk (by omega) w;have Qw:((l[at_.toNat].toNat:Int)==v)=(l[at_.toNat]==c):=by
    subst hv;rw [Bool.eq_iff_iff,beq_iff_eq,beq_iff_eq];exact ⟨fun h=>UInt8.toNat_inj.1 (by omega),fun h=>by rw [h]⟩
   obtain ⟨V,hV⟩:∃ V,V=(l[at_.toNat]==c):=⟨_,rfl⟩
   rw [← hV] at Qw ⊢;clear hV hv;go_enter Tryz.func234,Tryz.ntmps234;go_wp2;go_ret;exact ⟨rfl,rfl⟩
theorem lu (r:Int) (w:World) :
  Calls Tryz.prog 180 #[.int .i32 r] w fun e w'=>e=.returned (.bool (decide (97≤r∧r≤122)))∧w=w':=by
 go_enter Tryz.func180,Tryz.ntmps180;go_wp2
 all_goals go_ret
 all_goals (refine ⟨ry ?_,rfl⟩; rw [Bool.eq_iff_iff]; simp; omega)
def ju (l:List UInt8):Bool:=decide (2≤Lk.letters l∧Lk.letters l≤12∧l.getD (Lk.letters l) 0=58)
theorem getD_at {l:List UInt8} {i:Nat} (h:i<l.length):l.getD i 0=l[i]:=by rw [List.getD_eq_getElem?_getD,List.getElem?_eq_getElem h]; rfl
theorem CR {l:List UInt8} {i:Nat} (h:¬ i<l.length):l.getD i 0=0:=by rw [List.getD_eq_getElem?_getD,List.getElem?_eq_none (by omega)]; rfl
theorem G4 (l:List UInt8) (w:World) (hs:l.length≤1000000000) :
  Calls Tryz.prog 235 #[.string (bs l)] w fun e w'=>(∃ m:Nat,e=.returned (.tuple #[.int .i64 (m:Int),.bool (ju l)])∧(ju l=true→m=Lk.letters l+1))∧Below w.heap.size w w':=by
 have hsz:=au l;obtain ⟨R,hR⟩:∃ R,R=ju l:=⟨_,rfl⟩
 obtain ⟨n,hn⟩:∃ n,n=Lk.letters l:=⟨_,rfl⟩
 have hR2:Hid (R=decide (2≤n∧n≤12∧l.getD n 0=58)):=Lib.hid (by rw [hR,hn]; rfl);rw [← hR,← hn];replace hn:=Lib.hid hn;clear hR;go_enter Tryz.func235,Tryz.ntmps235;go_wp2
 go_loopw [] (fun wr=>∃ pos:Nat,pos≤l.length∧pos≤12∧Hid (wr.heap[w.heap.size]?=some (.stringIter (bs l) pos))∧Hid (pos+Lk.letters (l.drop pos)=n)∧Below w.heap.size w wr)
  (fun wr=>l.length - wr.iterPos w.heap.size)
 case atStart=>exact ⟨0,by omega,by omega,Lib.hid (jj _ _ _ rfl),Lib.hid (by rw [hn.out]; simp),aa _ _⟩
 case round =>
  obtain ⟨pos,JR,ZE,hit,hf,hb⟩:=hrel
  by_cases hp:pos<l.length
  ·obtain ⟨x,k,hk,hkl,hd,Cv,Er,hc⟩:=dS hp
   have jk:=bK hit.out hp hd;have gy:=Lib.hid (Lib.iterAt_heap wr w.heap.size (bs l) pos (pos+k) hit.out);have hb2:=Lib.below_iterAt hb (k:=w.heap.size) (Nat.le_refl _) (bs l) (pos+k);have hpos:Hid (wr.iterPos w.heap.size=pos):=Lib.hid (by simp only [World.iterPos,hit.out]);have dU:Hid ((wr.iterAt w.heap.size (bs l) (pos+k)).iterPos w.heap.size=pos+k):=Lib.hid (by simp only [World.iterPos,gy.out]);replace hd:=Lib.hid hd;replace Er:=Lib.hid Er
   by_cases DN:x=58
   ·have EX:l[pos]=58:=by
     rcases hc with ⟨_,h2,_⟩ | ⟨_,h2,_⟩
     ·exact UInt8.toNat_inj.1 (by rw [← h2,DN]; rfl)
     ·omega
    have DT:pos=n:=by have:=hf.out; rw [Lk.vT hp (by rw [EX]; decide)] at this; omega
    have hres:Hid (R=decide ((2:Int)≤(pos:Int))):=Lib.hid (by
     rw [hR2.out,← DT,getD_at hp,EX,Bool.eq_iff_iff,decide_eq_true_iff,decide_eq_true_iff];exact ⟨fun h=>by omega,fun h=>⟨by omega,ZE,rfl⟩⟩)
    replace DT:=Lib.hid DT;have t:((x:Int)==58)=true:=by simp [DN]
    replace DN:=Lib.hid DN;replace EX:=Lib.hid EX;replace hc:=Lib.hid hc;go_wp2;go_ret2;exact ⟨⟨pos+1,by rw [hres.out]; rfl,fun _=>by have:=DT.out; omega⟩,hb2⟩
   ·have t:((x:Int)==58)=false:=by rw [beq_eq_false_iff_ne]; omega
    by_cases hsm:97≤x∧x≤122
    ·have hq:x=l[pos].toNat∧k=1:=by
      rcases hc with ⟨_,h2,h3⟩ | ⟨_,h2,_⟩
      ·exact ⟨h2,h3⟩
      ·omega
     have hls:Lk.small l[pos]=true:=(Lk.oh _).2 (by omega);have hf2:Hid (pos+1+Lk.letters (l.drop (pos+1))=n):=Lib.hid (by have:=hf.out; rw [Lk.HF hp hls] at this; omega);have pT:k=1:=hq.2;clear hq hls hc;subst pT;have hds:(decide (97≤(x:Int)∧(x:Int)≤122))=true:=decide_eq_true (by omega)
     by_cases h12:pos=12
     ·have hres:R=false:=by
       rw [hR2.out]; refine decide_eq_false ?_;have:=hf2.out;omega
      have hge:12≤pos:=by omega
      subst hres;replace h12:=Lib.hid h12;replace hsm:=Lib.hid hsm;go_wp2_with (go_at_call 180; refine (lu _ _).mono ?_; rintro e w1 ⟨rfl,rfl⟩; rw [hds]);go_ret2;exact ⟨⟨0,rfl,fun h=>by cases h⟩,hb2⟩
     ·have hlt:pos<12:=by omega
      replace h12:=Lib.hid h12;replace hsm:=Lib.hid hsm;go_wp2_with (go_at_call 180; refine (lu _ _).mono ?_; rintro e w1 ⟨rfl,rfl⟩; rw [hds])
      go_roundw
      case rel=>exact ⟨pos+1,by omega,by omega,gy,hf2,hb2⟩
      case measure=>rw [hpos.out,dU.out]; omega
    ·have hds:(decide (97≤(x:Int)∧(x:Int)≤122))=false:=decide_eq_false (by omega)
     have hls:Lk.small l[pos]=false:=by
      rw [← Bool.not_eq_true,Lk.oh];rcases hc with ⟨_,h2,_⟩ | ⟨h2,_,_⟩<;>omega
     have DT:pos=n:=by have:=hf.out; rw [Lk.vT hp hls] at this; omega
     have EX:l[pos]≠58:=by
      intro he;rw [he] at hc;rcases hc with ⟨_,h2,_⟩ | ⟨h2,_,_⟩
      ·exact DN h2
      ·exact absurd h2 (by decide)
     have hres:R=false:=by
      rw [hR2.out,← DT,getD_at hp]; exact decide_eq_false fun h=>EX h.2.2
     subst hres;clear DT hls EX hc;replace hsm:=Lib.hid hsm;replace DN:=Lib.hid DN;go_wp2_with (go_at_call 180; refine (lu _ _).mono ?_; rintro e w1 ⟨rfl,rfl⟩; rw [hds]);go_ret2;exact ⟨⟨0,rfl,fun h=>by cases h⟩,hb2⟩
  ·have jk:=bX hit.out hp
   have DT:pos=n:=by have:=hf.out; rw [Lk.D3 hp] at this; omega
   have hres:R=false:=by
    rw [hR2.out,← DT,CR hp]; exact decide_eq_false fun h=>absurd h.2.2 (by decide)
   subst hres;clear DT;go_wp2;go_ret2;exact ⟨⟨0,rfl,fun h=>by cases h⟩,hb⟩
end Go.Proofs.YtddkjkockbcamaaGreatDoor

set_option maxHeartbeats 16000000
set_option maxRecDepth 100000
namespace Go.Proofs.YtddkjkockbcamaaGreatDoor
open Go.RowKit
theorem Fl (x:Nat):decide (97≤(x:Int)∧(x:Int)≤122)=bS x:=by
 unfold bS; rw [Bool.eq_iff_iff,decide_eq_true_iff,decide_eq_true_iff]; omega
theorem ux {D:List Nat} {x:Nat} (h:bS x=true):(D++[x]).filter bS=D.filter bS++[x]:=by rw [List.filter_append]; simp [h]
theorem xq {D:List Nat} {x:Nat} (h:bS x=false):(D++[x]).filter bS=D.filter bS:=by rw [List.filter_append]; simp [h]
theorem BE (l:List UInt8) (w:World) (hs:l.length≤1000000000) :
  Calls Tryz.prog 144 #[.string (bs l)] w fun e w'=>e=.returned (.string (bs (Lk.word l)))∧Below w.heap.size w w':=by
 have hsz:=au l;have qf:=fun w=>FW l w hs;have hfl:(Ru.enc (Ru.fold (Ru.aP l))).length≤4000000000:=by
  have h1:=(Ru.fT (Ru.fold (Ru.aP l))).2;have h2:=Ru.LY (Ru.aP l);have h3:=Ru.nY l;omega
 have hrf:Ru.aP (Ru.enc (Ru.fold (Ru.aP l)))=Ru.fold (Ru.aP l):=Ru.zB (Ru.S0 (Ru.Mv l));have hwf:=LA l;rw [← hrf] at hwf;obtain ⟨F,hF⟩:∃ F,F=Ru.enc (Ru.fold (Ru.aP l)):=⟨_,rfl⟩
 rw [← hF] at qf hfl hwf;rw [← hwf];clear hrf hF hwf;have hFs:=au F;go_enter Tryz.func144,Tryz.ntmps144;go_wp2_with fail;refine (qf _).mono ?_;rintro e w1 ⟨rfl,hb1⟩;have Gx:j3 w.heap.size w.heap.size (aj []) w1:=ym (n8 w) hb1;have mI:Below w.heap.size w w1:=ag (aa _ _) hb1;have hz1:w.heap.size<w1.heap.size:=by
  have h1:=VB Gx;omega
 clear hb1;go_wp2_with fail
 go_loopw [] (fun wr=>∃ (pos:Nat) (D:List Nat),j3 w.heap.size w.heap.size (aj (Ru.enc (D.filter bS))) wr∧Hid (wr.heap[w1.heap.size]?=some (.stringIter (bs F) pos))∧Hid (D++Ru.aP (F.drop pos)=Ru.aP F)∧Below w.heap.size w wr)
  (fun wr=>F.length - wr.iterPos w1.heap.size)
 case atStart=>exact ⟨0,[],Gx.alloc _,Lib.hid (jj _ _ _ rfl),Lib.hid rfl,mI.alloc mI.size _⟩
 case round =>
  obtain ⟨pos,D,hI,hit,hD,hb⟩:=hrel;have hdl:=kZ hD.out;have hfD:(D.filter bS).length≤D.length:=List.length_filter_le _ _
  by_cases hp:pos<F.length
  ·obtain ⟨x,k,hk,hv,hd,tI⟩:=cX hp hD.out
   have jk:=bK hit.out hp hd;replace tI:=Lib.hid tI;replace hd:=Lib.hid hd;have gy:=Lib.hid (Lib.iterAt_heap wr w1.heap.size (bs F) pos (pos+k) hit.out);have hb2:=Lib.below_iterAt hb (k:=w1.heap.size) (by omega) (bs F) (pos+k);have j8:j3 _ _ _ _:=hI.iterAt hit.out (pos+k);have hpos:Hid (wr.iterPos w1.heap.size=pos):=Lib.hid (by simp only [World.iterPos,hit.out]);have hz2:w.heap.size≤(wr.iterAt w1.heap.size (bs F) (pos+k)).heap.size:=by rw [Lib.iterAt_size]; have:=hb.size; omega
   have hl4:=(Ru.fT (D.filter bS)).2;have Cv:x≤1114111:=by unfold Ru.vr at hv; omega
   have hlen:(aj (Ru.enc (D.filter bS))).length+4≤140737488355328:=by rw [fm]; omega
   have qs:=fun w=>lu (x:Int) w;rw [Fl] at qs;clear hl4 hv;cases hsm:bS x with
   | true =>
    rw [hsm] at qs;have Y7:=Lib.hid (ux (D:=D) hsm);clear hsm;obtain ⟨Y,hY⟩:∃ Y,Y=D.filter bS:=⟨_,rfl⟩
    rw [← hY] at hI j8 hlen Y7;clear hY;go_wp2_with (go_at_call 180; refine (qs _).mono ?_; rintro e w' ⟨rfl,rfl⟩);refine (cY w.heap.size w.heap.size _ (x:Int) (by omega) (by omega) _ j8 hlen hz2).mono ?_;rintro e w3 ⟨⟨v,rfl⟩,h2,b2,k2⟩;have qg:=Lib.hid (k2.iter gy.out (by omega));have dU:Hid (w3.iterPos w1.heap.size=pos+k):=Lib.hid (by simp only [World.iterPos,qg.out]);have h2':=gf h2;clear h2;go_wp2
    go_roundw
    case rel=>exact ⟨pos+k,D++[x],by rw [Y7.out]; exact h2',qg,tI,hb2.trans b2⟩
    case measure=>rw [hpos.out,dU.out]; omega
   | false =>
    rw [hsm] at qs;have Y7:=Lib.hid (xq (D:=D) hsm);clear hsm;go_wp2_with (go_at_call 180; refine (qs _).mono ?_; rintro e w' ⟨rfl,rfl⟩);have dU:Hid ((wr.iterAt w1.heap.size (bs F) (pos+k)).iterPos w1.heap.size=pos+k):=Lib.hid (by simp only [World.iterPos,gy.out])
    go_roundw
    case rel=>exact ⟨pos+k,D++[x],by rw [Y7.out]; exact j8,gy,tI,hb2⟩
    case measure=>rw [hpos.out,dU.out]; omega
  ·have jk:=bX hit.out hp
   have Q1:=lN hp hD.out;subst Q1;clear hD;have hz:w.heap.size≤wr.heap.size:=hb.size;go_wp2_with fail;refine (lT w.heap.size w.heap.size _ _ hI hz).mono ?_;rintro e w3 ⟨rfl,b3⟩;go_wp2;go_ret;exact ⟨rfl,hb.trans b3⟩
theorem Jk (l:List UInt8) (hs:l.length≤1000000000) (w:World) :
  Calls Tryz.prog 110 #[.string (bs l)] w fun e w'=>e=.returned (.bool (Lk.safe l))∧Below w.heap.size w w':=by
 have hsz:=au l;have q1:=fun w=>kN l 35 (by decide) w;have q2:=fun w=>SR l 58 (by omega) w;obtain ⟨R,hR⟩:∃ R,R=Lk.safe l:=⟨_,rfl⟩
 rw [← hR];unfold Lk.safe Lk.head at hR;cases VI:l.getD 0 0==35 with
 | true =>
  have hres:R=false:=by rw [hR]; simp only [bne,VI]; rfl
  rw [VI] at q1;subst hres;clear hR VI;go_enter Tryz.func110,Tryz.ntmps110;go_wp2_with fail;refine (q1 _).mono ?_;rintro e w1 ⟨rfl,rfl⟩;go_wp2;go_ret;exact ⟨rfl,Below.refl _ _⟩
 | false =>
  simp only [bne,VI] at hR;rw [VI] at q1;cases hc:l.contains 58 with
  | false =>
   have hres:R=true:=by rw [hR]; simp only [hc]; rfl
   rw [hc] at q2;subst hres;clear hR VI hc;obtain ⟨H,hH⟩:∃ H,H=l.takeWhile (· != 58):=⟨_,rfl⟩
   rw [← hH] at q2;clear hH;go_enter Tryz.func110,Tryz.ntmps110;go_wp2_with fail;refine (q1 _).mono ?_;rintro e w1 ⟨rfl,rfl⟩;go_wp2_with fail;refine (q2 _).mono ?_;rintro e w2 ⟨⟨a,rfl⟩,hb2⟩;go_wp2;go_ret;exact ⟨rfl,hb2⟩
  | true =>
   rw [hc] at q2;simp only [hc,if_true] at hR;have hHl:(l.takeWhile (· != 58)).length≤l.length:=(List.takeWhile_sublist _).length_le;have q3:=fun w=>BE (l.takeWhile (· != 58)) w (by omega);have hR2:R=(!(Lk.word (l.takeWhile (· != 58))==Lk.js)&&!(Lk.word (l.takeWhile (· != 58))==Lk.data)):=by rw [hR]; simp only [bne,Bool.not_false,Bool.true_and]
   clear hR;obtain ⟨H,hH⟩:∃ H,H=l.takeWhile (· != 58):=⟨_,rfl⟩
   rw [← hH] at q2 q3 hR2 hHl;obtain ⟨D,hD⟩:∃ D,D=Lk.word H:=⟨_,rfl⟩
   rw [← hD] at q3 hR2;have hDs:=au D;clear hH hD VI hc
   by_cases f1:D=Lk.js
   ·have e1:((bs D).toList==[106,97,118,97,115,99,114,105,112,116])=true:=by rw [bD,f1]; rfl
    rw [f1] at hR2;simp only [beq_self_eq_true,Bool.not_true,Bool.false_and] at hR2;subst hR2;clear f1;go_enter Tryz.func110,Tryz.ntmps110;go_wp2_with fail;refine (q1 _).mono ?_;rintro e w1 ⟨rfl,rfl⟩;go_wp2_with fail;refine (q2 _).mono ?_;rintro e w2 ⟨⟨a,rfl⟩,hb2⟩;go_wp2_with fail;refine (q3 _).mono ?_;rintro e w3 ⟨rfl,hb3⟩;replace hb3:=ag hb2 hb3;go_wp2;go_ret;exact ⟨rfl,hb3⟩
   ·have e1:=tv f1
    unfold Lk.js at e1;have f1':(D==Lk.js)=false:=by simpa using f1
    rw [f1'] at hR2;simp only [Bool.not_false,Bool.true_and] at hR2;clear f1 f1'
    by_cases f2:D=Lk.data
    ·have e2:((bs D).toList==[100,97,116,97])=true:=by rw [bD,f2]; rfl
     rw [f2] at hR2;simp only [beq_self_eq_true,Bool.not_true] at hR2;subst hR2;clear f2;go_enter Tryz.func110,Tryz.ntmps110;go_wp2_with fail;refine (q1 _).mono ?_;rintro e w1 ⟨rfl,rfl⟩;go_wp2_with fail;refine (q2 _).mono ?_;rintro e w2 ⟨⟨a,rfl⟩,hb2⟩;go_wp2_with fail;refine (q3 _).mono ?_;rintro e w3 ⟨rfl,hb3⟩;replace hb3:=ag hb2 hb3;go_wp2;go_ret;exact ⟨rfl,hb3⟩
    ·have e2:=tv f2
     unfold Lk.data at e2;have f2':(D==Lk.data)=false:=by simpa using f2
     rw [f2'] at hR2;simp only [Bool.not_false] at hR2;subst hR2;clear f2 f2';go_enter Tryz.func110,Tryz.ntmps110;go_wp2_with fail;refine (q1 _).mono ?_;rintro e w1 ⟨rfl,rfl⟩;go_wp2_with fail;refine (q2 _).mono ?_;rintro e w2 ⟨⟨a,rfl⟩,hb2⟩;go_wp2_with fail;refine (q3 _).mono ?_;rintro e w3 ⟨rfl,hb3⟩;replace hb3:=ag hb2 hb3;go_wp2;go_ret;exact ⟨rfl,hb3⟩
end Go.Proofs.YtddkjkockbcamaaGreatDoor

set_option maxHeartbeats 16000000
set_option maxRecDepth 100000
namespace Go.Proofs.YtddkjkockbcamaaGreatDoor
open Go.RowKit
theorem yd {l:List UInt8} {k:Nat} (hk:k<l.length) (gZ:l[k]=60):Lk.starts l k=ju (l.drop (k+1)):=by
 unfold Lk.starts ju;have e:(l.drop (k+1)).getD (Lk.letters (l.drop (k+1))) 0=l.getD (k+1+Lk.letters (l.drop (k+1))) 0:=by
  rw [List.getD_eq_getElem?_getD,List.getD_eq_getElem?_getD,List.getElem?_drop]
 rw [Bool.eq_iff_iff,decide_eq_true_iff,decide_eq_true_iff,e,getD_at hk];exact ⟨fun h=>h.2.2,fun h=>⟨hk,gZ,h⟩⟩
theorem GJ {l:List UInt8} {i:Nat} (h:i<l.length) (DN:l[i]=58):Lk.ends l i=Lk.ends l (i+1):=by
 have hd:Lib.decodeL (l.drop i)=(58,1):=by
  rw [List.drop_eq_getElem_cons h,Es.jP (by rw [DN]; decide),DN]; rfl
 rw [Lk.zy h,hd,if_neg (by decide),if_neg (by decide)]
theorem MO (l:List UInt8) (k:Nat) (hk:k<l.length) (hs:l.length≤1000000000) (gZ:l[k]=60) (w:World) :
  Calls Tryz.prog 221 #[.string (bs l),.int .i64 (k:Int)] w fun e w'=>e=.returned (fL (Lk.auto l (k:Int)))∧Below w.heap.size w w':=by
 have hsz:=au l;have qst:=fun w=>l6 l (k:Int) 60 60 rfl hs w;rw [show stand l (k:Int) 60=true from by rw [nc (by omega) (by simpa using hk)]; simpa using gZ] at qst;have hfr:=fun w=>ie (S:=l) (i:=k+1) (v:=(k:Int)+1) (by omega) (by omega) w;have UB:=yd hk gZ;have hon:=fun h=>Lk.BV (l:=l) (k:=k) h rfl;have hoff:=fun h=>Lk.mJ (l:=l) (k:=k) h;rw [UB] at hon hoff;obtain ⟨R,hR⟩:∃ R,R=Lk.auto l (k:Int):=⟨_,rfl⟩
 rw [← hR] at hon hoff ⊢;have hlen:(l.drop (k+1)).length=l.length - (k+1):=by rw [List.length_drop]
 have qsc:=fun w=>G4 (l.drop (k+1)) w (by omega);have DN:ju (l.drop (k+1))=true→k+1+Lk.letters (l.drop (k+1))<l.length∧Lk.ends l (k+1+Lk.letters (l.drop (k+1)))=Lk.ends l (k+1+(Lk.letters (l.drop (k+1))+1)):=by
  intro h;have h3:=(of_decide_eq_true h).2.2;have hlt:Lk.letters (l.drop (k+1))<(l.drop (k+1)).length:=by
   by_cases hc:Lk.letters (l.drop (k+1))<(l.drop (k+1)).length
   ·exact hc
   ·rw [CR hc] at h3; exact absurd h3 (by decide)
  rw [getD_at hlt,List.getElem_drop] at h3;exact ⟨by omega,GJ (by omega) h3⟩
 obtain ⟨n,hn⟩:∃ n,n=Lk.letters (l.drop (k+1)):=⟨_,rfl⟩
 rw [← hn] at hon DN qsc;obtain ⟨o,ho⟩:∃ o,o=ju (l.drop (k+1)):=⟨_,rfl⟩
 rw [← ho] at hon hoff DN qsc;obtain ⟨T,hT⟩:∃ T,T=l.drop (k+1):=⟨_,rfl⟩
 rw [← hT] at hfr qsc hlen;replace hon:=Lib.hid hon;replace hoff:=Lib.hid hoff;replace DN:=Lib.hid DN;replace hT:=Lib.hid hT;clear hR UB gZ hn ho;have YU:=au T;cases o with
 | false =>
  have hres:R=none:=hoff.out rfl;subst hres;go_enter Tryz.func221,Tryz.ntmps221;go_wp2_with fail;refine (qst _).mono ?_;rintro e w0 ⟨rfl,rfl⟩;go_wp2_with fail;refine (qsc _).mono ?_;rintro e w1 ⟨⟨m,rfl,_⟩,hb1⟩;go_wp2;go_ret3;exact ⟨rfl,hb1⟩
 | true =>
  obtain ⟨hlt,hen⟩:=DN.out rfl;obtain ⟨b,hbd⟩:∃ b,b=k+1+(n+1):=⟨_,rfl⟩
  have hR2:Hid (R=(Lk.ends l b).map fun j=>(mid l (k+1) j,j+1)):=Lib.hid (by rw [hon.out rfl,hen,hbd]);have hbl:b≤l.length:=by omega
  have hfr2:=fun w=>ie (S:=l) (i:=b) (v:=(n:Int)+1+((k:Int)+1)) hbl (by omega) w;obtain ⟨U,hU⟩:∃ U,U=l.drop b:=⟨_,rfl⟩
  have hUl:U.length=l.length - b:=by rw [hU,List.length_drop]
  have hUs:=au U;have hUd:Hid (∀ q,Utf8.decode (bs U) q=Lib.decodeL (l.drop (b+q))):=Lib.hid (by
   intro q;rw [← cX.decodeL_drop' U q,hU,List.drop_drop])
  rw [← hU] at hfr2;have uB:(b:Int)=(n:Int)+1+((k:Int)+1):=by omega
  replace hbd:=Lib.hid hbd;replace hU:=Lib.hid hU;clear hon hoff DN hen;go_enter Tryz.func221,Tryz.ntmps221;go_wp2_with fail;refine (qst _).mono ?_;rintro e w0 ⟨rfl,rfl⟩;go_wp2_with fail;refine (qsc _).mono ?_;rintro e w1 ⟨⟨m,rfl,hm⟩,hb1⟩;have hmn:(m:Int)=(n:Int)+1:=by have:=hm (by trivial); omega
  rw [hmn];clear hm hmn;have hb1z:=hb1.size;go_wp2_with fail
  go_loopw [] (fun wr=>∃ pos:Nat,pos≤U.length∧Hid (wr.heap[w1.heap.size]?=some (.stringIter (bs U) pos))∧Hid (Lk.ends l b=Lk.ends l (b+pos))∧Below w.heap.size w wr)
   (fun wr=>U.length - wr.iterPos w1.heap.size)
  case atStart=>exact ⟨0,by omega,Lib.hid (jj _ _ _ rfl),Lib.hid rfl,hb1.alloc hb1.size _⟩
  case round =>
   obtain ⟨pos,JR,hit,he,hb⟩:=hrel
   by_cases hp:pos<U.length
   ·obtain ⟨x,q,hq,hql,hd,Cv,Er,hc⟩:=dS hp
    have hst:=Lk.zy (l:=l) (i:=b+pos) (by omega);rw [← hUd.out pos,hd,← he.out] at hst;simp only at hst;have jk:=bK hit.out hp hd;have gy:=Lib.hid (Lib.iterAt_heap wr w1.heap.size (bs U) pos (pos+q) hit.out);have hb2:=Lib.below_iterAt hb (k:=w1.heap.size) (by omega) (bs U) (pos+q);have hpos:Hid (wr.iterPos w1.heap.size=pos):=Lib.hid (by simp only [World.iterPos,hit.out]);have dU:Hid ((wr.iterAt w1.heap.size (bs U) (pos+q)).iterPos w1.heap.size=pos+q):=Lib.hid (by simp only [World.iterPos,gy.out]);replace hd:=Lib.hid hd;replace Er:=Lib.hid Er;replace hc:=Lib.hid hc
    by_cases tF:x=62
    ·have hres:R=some (mid l (k+1) (b+pos),b+pos+1):=by rw [hR2.out,hst,if_pos tF]; rfl
     have t:((x:Int)==62)=true:=by simp [tF]
     have hcut:=fun w=>gQ (S:=l) (i:=k+1) (j:=b+pos) (v:=(k:Int)+1) (u:=(n:Int)+1+((k:Int)+1)+(pos:Int)) (by omega) (by omega) (by omega) (by omega) w;have hml:(mid l (k+1) (b+pos)).length≤140737488355328:=by rw [fh (by omega)]; omega
     have qcl:=fun w=>AE (mid l (k+1) (b+pos)) w hml;obtain ⟨M,hM⟩:∃ M,M=mid l (k+1) (b+pos):=⟨_,rfl⟩
     rw [← hM] at hcut qcl hres;have hsp:fL (some (M,b+pos+1))=.tuple #[.string (bs M),.int .i64 ((n:Int)+1+((k:Int)+1)+(pos:Int)+1),.bool true]:=by
      show Value.tuple #[.string (bs M),.int .i64 ((b+pos+1:Nat):Int),.bool true]=_;rw [show ((b+pos+1:Nat):Int)=(n:Int)+1+((k:Int)+1)+(pos:Int)+1 by omega]
     subst hres;replace hsp:=Lib.hid hsp;replace tF:=Lib.hid tF;clear hst he hR2 hM hml;go_wp2_with fail;refine (qcl _).mono ?_;rintro e w4 ⟨rfl,hb4⟩;replace hb4:=ag hb2 hb4;go_wp2;go_ret3;exact ⟨congrArg Ending.returned hsp.out.symm,hb4⟩
    ·have t:((x:Int)==62)=false:=by rw [beq_eq_false_iff_ne]; omega
     rw [if_neg tF] at hst
     by_cases gZ:x=60
     ·have hres:R=none:=by rw [hR2.out,hst,if_pos (.inl gZ)]; rfl
      have t2:((x:Int)==60)=true:=by simp [gZ]
      subst hres;replace tF:=Lib.hid tF;replace gZ:=Lib.hid gZ;clear hst he hR2;go_wp2;go_ret3;exact ⟨rfl,hb2⟩
     ·have t2:((x:Int)==60)=false:=by rw [beq_eq_false_iff_ne]; omega
      have qb:=fun w=>eN (x:Int) w;cases hbl:dw (x:Int) with
      | true =>
       have hres:R=none:=by rw [hR2.out,hst,if_pos (.inr hbl)]; rfl
       rw [hbl] at qb;subst hres;replace tF:=Lib.hid tF;replace gZ:=Lib.hid gZ;clear hst he hR2 hbl;go_wp2_with (go_at_call 212; refine (qb _).mono ?_; rintro e w4 ⟨rfl,rfl⟩);go_ret3;exact ⟨rfl,hb2⟩
      | false =>
       rw [if_neg (by rw [hbl]; simp [gZ])] at hst;rw [hbl] at qb;have TG:Hid (Lk.ends l b=Lk.ends l (b+(pos+q))):=Lib.hid (by rw [hst,Nat.add_assoc]);replace tF:=Lib.hid tF;replace gZ:=Lib.hid gZ;clear hst he hbl;go_wp2_with (go_at_call 212; refine (qb _).mono ?_; rintro e w4 ⟨rfl,rfl⟩)
       go_roundw
       case rel=>exact ⟨pos+q,by omega,gy,TG,hb2⟩
       case measure=>rw [hpos.out,dU.out]; omega
   ·have jk:=bX hit.out hp
    have hres:R=none:=by rw [hR2.out,he.out,Lk.Oz (by omega)]; rfl
    subst hres;clear he hR2;go_wp2;go_ret3;exact ⟨rfl,hb⟩
theorem r7 (l:List UInt8) (at_:Int) (hs:l.length≤1000000000) (w:World) :
  Calls Tryz.prog 221 #[.string (bs l),.int .i64 at_] w fun e w'=>e=.returned (fL (Lk.auto l at_))∧Below w.heap.size w w':=by
 cases h:stand l at_ 60 with
 | true =>
  obtain ⟨k,rfl,hk,gZ⟩:=yP h;exact MO l k hk hs gZ w
 | false =>
  have hno:Lk.auto l at_=none:=by
   apply SC
   by_cases h1:at_<0
   ·exact .inl h1
   ·by_cases h2:(l.length:Int)≤at_
    ·exact .inr (.inl ⟨by omega,h2⟩)
    ·refine .inr (.inr ⟨by omega,by omega,?_⟩)
     rw [nc (by omega) (by omega)] at h;simpa using h
  have qst:=fun w=>l6 l at_ 60 60 rfl hs w;rw [h] at qst;rw [hno];clear h hno;go_enter Tryz.func221,Tryz.ntmps221;go_wp2_with fail;refine (qst _).mono ?_;rintro e w0 ⟨rfl,rfl⟩;go_wp2;go_ret3;exact ⟨rfl,Below.refl _ _⟩
def P0 (l:List UInt8) (k:Nat):Nat:=match Lk.auto l (k:Int) with | some x=>x.2 | none=>k+1
def Xf (l:List UInt8) (k:Nat):Nat:=match Cd.span l (k:Int) with | some x=>x.2 | none=>k+Fn.run 96 (l.drop k)
theorem K2 {l:List UInt8} {k:Nat} {t:List UInt8} {e:Nat} (h:Lk.auto l (k:Int)=some (t,e)):P0 l k=e:=by unfold P0; rw [h]
theorem Jo {l:List UInt8} {k:Nat} (h:Lk.auto l (k:Int)=none):P0 l k=k+1:=by unfold P0; rw [h]
end Go.Proofs.YtddkjkockbcamaaGreatDoor

set_option maxHeartbeats 16000000
set_option maxRecDepth 100000
namespace Go.Proofs.YtddkjkockbcamaaGreatDoor
open Go.RowKit
theorem DW {l:List UInt8} {i:Nat} (h:i<l.length) (ho:(Es.next l i).2.2=true):l[i]=92:=by
 rw [Es.iL h] at ho;simp only at ho;cases hes:Es.dx (l.drop i) with
 | true =>
  rw [List.drop_eq_getElem_cons h] at hes
  by_cases Dn:l[i]=92
  ·exact Dn
  ·rw [Es.vP Dn] at hes; cases hes
 | false=>rw [Es.jV hes] at ho; cases ho
theorem qh {l:List UInt8} {i:Nat} (h:i<l.length) (ho:(Es.next l i).2.2=false) :
  (l[i].toNat<128∧(Es.next l i).1=l[i].toNat∧(Es.next l i).2.1=i+1)∨(128≤l[i].toNat∧128≤(Es.next l i).1):=by
 rw [Es.iL h] at ho ⊢;simp only at ho ⊢;cases hes:Es.dx (l.drop i) with
 | true=>rw [Es.j5 hes] at ho; cases ho
 | false =>
  rw [Es.jV hes];obtain ⟨x,k,_,_,_,_,Er,hc⟩:=dS h;rw [Er];rcases hc with ⟨h1,h2,h3⟩ | ⟨h1,h2,_⟩
  ·exact .inl ⟨h1,h2,by simp only [h3]⟩
  ·exact .inr ⟨h1,h2⟩
theorem jf {l:List UInt8} {i:Nat} {c:UInt8} (h:i<l.length) (ho:(Es.next l i).2.2=false) (hc:c.toNat<128):(Es.next l i).1=c.toNat↔l[i]=c:=by
 rcases qh h ho with ⟨h1,h2,_⟩ | ⟨h1,h2⟩
 ·rw [h2]; exact ⟨fun e=>UInt8.toNat_inj.1 e,fun e=>by rw [e]⟩
 ·exact ⟨fun e=>by omega,fun e=>by rw [e] at h1; omega⟩
theorem lQ {l:List UInt8} {i:Nat} (h:i<l.length) (gZ:l[i]≠60):Lk.auto l (i:Int)=none:=by
 cases ha:Lk.auto l (i:Int) with
 | none=>rfl
 | some x =>
  obtain ⟨t,e⟩:=x;have:=(Lk.nM ha).2.2;rw [getD_at h] at this;exact absurd this gZ
theorem o8 {l:List UInt8} {i:Nat} (h:i<l.length) :
  ((Es.next l i).2.2=true→Lk.hop l i=(Es.next l i).2.1∧Lk.sign l i=0) ∧
  ((Es.next l i).2.2=false →
   ((Es.next l i).1=96→Lk.hop l i=Xf l i∧Lk.sign l i=0) ∧
   ((Es.next l i).1=60→Lk.hop l i=P0 l i∧Lk.sign l i≠91∧Lk.sign l i≠93) ∧
   ((Es.next l i).1≠96→(Es.next l i).1≠60→Lk.hop l i=(Es.next l i).2.1∧Lk.sign l i=(Es.next l i).1)):=by
 have hg:=getD_at h;refine ⟨fun ho=>?_,fun ho=>⟨fun jZ=>?_,fun gZ=>?_,fun jZ gZ=>?_⟩⟩
 ·have Dn:=DW h ho
  have:=Lk.nF (l:=l) (i:=i) (by rw [hg,Dn]; decide) (lQ h (by rw [Dn]; decide));rw [ho,if_pos rfl] at this;exact this
 ·have hl:l[i]=96:=(jf (c:=96) h ho (by decide)).1 jZ
  unfold Lk.hop Lk.sign Xf;rw [if_pos (by rw [hg,hl]),if_pos (by rw [hg,hl])];exact ⟨rfl,rfl⟩
 ·have hl:l[i]=60:=(jf (c:=60) h ho (by decide)).1 gZ
  have hne:l.getD i 0≠96:=by rw [hg,hl]; decide
  cases ha:Lk.auto l (i:Int) with
  | some x =>
   obtain ⟨t,e⟩:=x;obtain ⟨j1,j2⟩:=Lk.xI hne ha;exact ⟨j1.trans (K2 ha).symm,by rw [j2]; decide,by rw [j2]; decide⟩
  | none =>
   obtain ⟨j1,j2⟩:=Lk.nF hne ha;rw [ho,if_neg (by decide),gZ] at j2;refine ⟨?_,by rw [j2]; decide,by rw [j2]; decide⟩;rw [j1,Jo ha];rcases qh h ho with ⟨_,_,h3⟩ | ⟨h1,_⟩
   ·exact h3
   ·rw [hl] at h1; exact absurd h1 (by decide)
 ·have Zd:l[i]≠96:=fun e=>jZ ((jf (c:=96) h ho (by decide)).2 e)
  have Z6:l[i]≠60:=fun e=>gZ ((jf (c:=60) h ho (by decide)).2 e);have:=Lk.nF (l:=l) (i:=i) (by rw [hg]; exact Zd) (lQ h Z6);rw [ho,if_neg (by decide)] at this;exact this
end Go.Proofs.YtddkjkockbcamaaGreatDoor

set_option maxHeartbeats 16000000
set_option maxRecDepth 100000
namespace Go.Proofs.YtddkjkockbcamaaGreatDoor
open Go.RowKit
theorem vX {l:List UInt8} {i:Nat} (h:i<l.length) (ho:(Es.next l i).2.2=true):dw ((Es.next l i).1:Int)=false:=by
 rw [Es.iL h] at ho ⊢;simp only at ho ⊢;cases hes:Es.dx (l.drop i) with
 | false=>rw [Es.jV hes] at ho; cases ho
 | true =>
  rw [Es.j5 hes];have ha:=(Es.II _).1 (Es.yU hes);rw [← Bool.not_eq_true];intro hb;have:=(Ru.GA _).1 hb;omega
theorem Qe (l:List UInt8) (k:Nat) (hk:k<l.length) (hs:l.length≤1000000000) (LO:l[k]=40) (w:World) :
  Calls Tryz.prog 223 #[.string (bs l),.int .i64 (k:Int)] w fun e w'=>e=.returned (fL (Lk.dest l (k:Int)))∧Below w.heap.size w w':=by
 have hsz:=au l;have qst:=fun w=>l6 l (k:Int) 40 40 rfl hs w;rw [show stand l (k:Int) 40=true from by rw [nc (by omega) (by simpa using hk)]; simpa using LO] at qst;have hcl:=Lk.SG hk (by rw [getD_at hk]; exact LO);obtain ⟨R,hR⟩:∃ R,R=Lk.dest l (k:Int):=⟨_,rfl⟩
 rw [← hR] at hcl ⊢;clear hR LO;replace hcl:=Lib.hid hcl;go_enter Tryz.func223,Tryz.ntmps223;go_wp2_with fail;refine (qst _).mono ?_;rintro e w0 ⟨rfl,rfl⟩;go_wp2_with fail
 go_loopw [8] (fun u wr=>∃ i:Nat,k+1≤i∧i≤l.length∧u=.int .i64 i∧Hid (Lk.kJ l (k+1)=Lk.kJ l i)∧Below w.heap.size w wr) (fun u _=>l.length - (intOf u).toNat)
 case atStart=>exact ⟨k+1,by omega,by omega,by go_num,Lib.hid rfl,Below.refl _ _⟩
 case round =>
  obtain ⟨i,hi1,hi2,rfl,he,hb⟩:=hrel
  by_cases hil:i<l.length
  ·have hst:=Lk.G2 hil
   have hmo:=Es.eI hil;rw [← he.out] at hst;have q2:=fun w=>nX l (i:Int) hs w trivial;rw [Int.toNat_natCast] at q2;unfold mq at q2;have K0:=vX hil;have jm:=fun h=>jf (c:=41) hil h (by decide);have zG:=qh hil;obtain ⟨⟨r,nx,its⟩,hN⟩:∃ x,x=Es.next l i:=⟨_,rfl⟩
   rw [← hN] at q2 hst hmo K0 jm zG;simp only at q2 hst hmo K0 jm zG;clear hN;cases its with
   | true =>
    have TG:Hid (Lk.kJ l (k+1)=Lk.kJ l nx):=Lib.hid (by rw [hst,if_neg (by simp),if_neg (by simp)]);have qb:=fun w=>eN (r:Int) w;rw [K0 rfl] at qb;clear he hst K0 jm zG;go_wp2_with fail;refine (q2 _).mono ?_;rintro e w2 ⟨rfl,hb2⟩;replace hb2:=ag hb hb2;go_wp2_with fail;refine (qb _).mono ?_;rintro e w3 ⟨rfl,rfl⟩;go_wp2_with fail
    go_roundw
    case rel=>exact ⟨nx,by omega,by omega,rfl,TG,hb2⟩
    case measure=>simp [intOf]; omega
   | false =>
    by_cases Tn:r=41
    ·have jk:(nx:Int)=(i:Int)+1:=by
      have hl:l[i]=41:=(jm rfl).1 (by rw [Tn]; rfl);rcases zG rfl with ⟨_,_,h3⟩ | ⟨h1,_⟩
      ·omega
      ·rw [hl] at h1; exact absurd h1 (by decide)
     have hres:R=some (Ru.enc (Es.plain (mid l (k+1) i)),i+1):=by rw [hcl.out,hst,if_pos ⟨rfl,Tn⟩]; rfl
     have t1:(((r:Nat):Int)==41)=true:=by simp [Tn]
     have hcut:=fun w=>gQ (S:=l) (i:=k+1) (j:=i) (v:=(k:Int)+1) (u:=(i:Int)) (by omega) (by omega) (by omega) rfl w;have q3:=fun w=>Fg (mid l (k+1) i) w (by rw [fh (by omega)]; omega) trivial;clear he hst Tn hcl K0 jm zG;obtain ⟨T,hT⟩:∃ T,T=Ru.enc (Es.plain (mid l (k+1) i)):=⟨_,rfl⟩
     rw [← hT] at q3 hres;clear hT;have hsp:fL (some (T,i+1))=.tuple #[.string (bs T),.int .i64 (nx:Int),.bool true]:=by
      show Value.tuple #[.string (bs T),.int .i64 ((i+1:Nat):Int),.bool true]=_;rw [jk]; rfl
     subst hres;replace jk:=Lib.hid jk;replace hsp:=Lib.hid hsp;go_wp2_with fail;refine (q2 _).mono ?_;rintro e w2 ⟨rfl,hb2⟩;replace hb2:=ag hb hb2;have hcut1:=hcut w2;go_wp2_with fail;refine (q3 _).mono ?_;rintro e w3 ⟨rfl,hb3⟩;replace hb3:=ag hb2 hb3;go_wp2;go_ret3;exact ⟨congrArg Ending.returned hsp.out.symm,hb3⟩
    ·have t1:(((r:Nat):Int)==41)=false:=by rw [beq_eq_false_iff_ne]; omega
     rw [if_neg (fun h=>Tn h.2)] at hst;clear K0 jm zG
     by_cases LO:r=40
     ·have hres:R=none:=by rw [hcl.out,hst,if_pos ⟨rfl,.inl LO⟩]; rfl
      have t2:(((r:Nat):Int)==40)=true:=by simp [LO]
      subst hres;clear he hst Tn hcl LO;go_wp2_with fail;refine (q2 _).mono ?_;rintro e w2 ⟨rfl,hb2⟩;replace hb2:=ag hb hb2;go_wp2;go_ret3;exact ⟨rfl,hb2⟩
     ·have t2:(((r:Nat):Int)==40)=false:=by rw [beq_eq_false_iff_ne]; omega
      have qb:=fun w=>eN (r:Int) w;cases hbl:dw (r:Int) with
      | true =>
       have hres:R=none:=by rw [hcl.out,hst,if_pos ⟨rfl,.inr hbl⟩]; rfl
       rw [hbl] at qb;subst hres;clear he hst Tn hcl LO hbl;go_wp2_with fail;refine (q2 _).mono ?_;rintro e w2 ⟨rfl,hb2⟩;replace hb2:=ag hb hb2;go_wp2_with fail;refine (qb _).mono ?_;rintro e w3 ⟨rfl,rfl⟩;go_wp2;go_ret3;exact ⟨rfl,hb2⟩
      | false =>
       have TG:Hid (Lk.kJ l (k+1)=Lk.kJ l nx):=Lib.hid (by rw [hst,if_neg (by rw [hbl]; simp [LO])]);rw [hbl] at qb;clear he hst Tn LO hbl;go_wp2_with fail;refine (q2 _).mono ?_;rintro e w2 ⟨rfl,hb2⟩;replace hb2:=ag hb hb2;go_wp2_with fail;refine (qb _).mono ?_;rintro e w3 ⟨rfl,rfl⟩;go_wp2_with fail
       go_roundw
       case rel=>exact ⟨nx,by omega,by omega,rfl,TG,hb2⟩
       case measure=>simp [intOf]; omega
  ·have hres:R=none:=by rw [hcl.out,he.out,Lk.LD (by omega)]; rfl
   subst hres;clear hcl he;go_wp2;go_ret3;exact ⟨rfl,hb⟩
theorem yJ (l:List UInt8) (at_:Int) (hs:l.length≤1000000000) (w:World) :
  Calls Tryz.prog 223 #[.string (bs l),.int .i64 at_] w fun e w'=>e=.returned (fL (Lk.dest l at_))∧Below w.heap.size w w':=by
 cases h:stand l at_ 40 with
 | true =>
  obtain ⟨k,rfl,hk,LO⟩:=yP h;exact Qe l k hk hs LO w
 | false =>
  have hno:Lk.dest l at_=none:=by
   apply RM
   by_cases h1:at_<0
   ·exact .inl h1
   ·by_cases h2:(l.length:Int)≤at_
    ·exact .inr (.inl ⟨by omega,h2⟩)
    ·refine .inr (.inr ⟨by omega,by omega,?_⟩)
     rw [nc (by omega) (by omega)] at h;simpa using h
  have qst:=fun w=>l6 l at_ 40 40 rfl hs w;rw [h] at qst;rw [hno];clear h hno;go_enter Tryz.func223,Tryz.ntmps223;go_wp2_with fail;refine (qst _).mono ?_;rintro e w0 ⟨rfl,rfl⟩;go_wp2;go_ret3;exact ⟨rfl,Below.refl _ _⟩
end Go.Proofs.YtddkjkockbcamaaGreatDoor

set_option maxHeartbeats 16000000
set_option maxRecDepth 100000
namespace Go.Proofs.YtddkjkockbcamaaGreatDoor
open Go.RowKit
end Go.Proofs.YtddkjkockbcamaaGreatDoor

set_option maxHeartbeats 16000000
set_option maxRecDepth 100000
namespace Go.Proofs.YtddkjkockbcamaaGreatDoor
open Go.RowKit
def AU (s:List UInt8) (i:Nat):Nat :=
 match Cd.span s (i:Int) with
 | some x=>x.2
 | none=>match Lk.auto s (i:Int) with
  | some x=>x.2
  | none=>i+max (Fn.run 96 (s.drop i)) 1
theorem Cp (g o:Nat) (s:List UInt8) (i:Nat) (hi:i<s.length) (hs:s.length≤4000000) (w:World) (h0:w.cell? ⟨g,o,none⟩=some (.string (bs s))) (hg:g<w.heap.size) :
  Calls Tryz.prog 245 #[.pointer (some ⟨g,o,none⟩),.int .i64 (i:Int)] w fun e w'=>e=.returned (.int .i64 (AU s i:Int))∧Below w.heap.size w w':=by
 have hsp:=Lib.hid (rW s (i:Int) (by omega) w);have xL:=Lib.hid (fun w=>r7 s (i:Int) (by omega) w);have hrl:=Fn.fY 96 (s.drop i);rw [List.length_drop] at hrl;have hrun:=Lib.hid (fun w=>qQ s (i:Int) 96 w (by omega));rw [jS] at hrun;unfold AU;cases h1:Cd.span s (i:Int) with
 | some x =>
  obtain ⟨t,n⟩:=x;rw [h1] at hsp;unfold fL at hsp;clear h1 xL hrun;simp only;go_enter Tryz.func245,Tryz.ntmps245;go_wp2_with fail;refine hsp.out.mono ?_;rintro e w1 ⟨rfl,hb1⟩;replace hb1:=Lib.hid hb1;clear hsp h0;go_wp2;go_ret;exact ⟨rfl,hb1.out⟩
 | none =>
  rw [h1] at hsp;unfold fL at hsp;clear h1;cases h2:Lk.auto s (i:Int) with
  | some x =>
   obtain ⟨t,n⟩:=x;rw [h2] at xL;unfold fL at xL;clear h2 hrun;simp only;go_enter Tryz.func245,Tryz.ntmps245;go_wp2_with fail;refine hsp.out.mono ?_;rintro e w1 ⟨rfl,hb1⟩;have k0:=(hb1.cell (p:=⟨g,o,none⟩) hg).trans h0;replace hb1:=Lib.hid hb1;clear hsp h0;go_wp2_with fail;refine (xL.out _).mono ?_;rintro e w2 ⟨rfl,hb2⟩;have hb:=Lib.hid (ag hb1.out hb2);clear xL hb2 k0;go_wp2;go_ret;exact ⟨rfl,hb.out⟩
  | none =>
   rw [h2] at xL;unfold fL at xL;clear h2;simp only;obtain ⟨n,hn⟩:∃ n,n=Fn.run 96 (s.drop i):=⟨_,rfl⟩
   rw [← hn] at hrun hrl ⊢;clear hn;go_enter Tryz.func245,Tryz.ntmps245;go_wp2_with fail;refine hsp.out.mono ?_;rintro e w1 ⟨rfl,hb1⟩;have k0:=(hb1.cell (p:=⟨g,o,none⟩) hg).trans h0;have hz1:=hb1.size;replace hb1:=Lib.hid hb1;clear hsp h0;go_wp2_with fail;refine (xL.out _).mono ?_;rintro e w2 ⟨rfl,hb2⟩;have k1:=(hb2.cell (p:=⟨g,o,none⟩) (Nat.lt_of_lt_of_le hg hz1)).trans k0;have hb:=Lib.hid (ag hb1.out hb2);clear xL hb2 k0;go_wp2_with fail;refine (hrun.out _).mono ?_;rintro e w3 ⟨rfl,rfl⟩;clear hrun
   by_cases uc:n=0
   ·subst uc
    go_wp2;go_ret;exact ⟨by simp; omega,hb.out⟩
   ·have hn2:1≤n:=by omega
    go_wp2;go_ret;exact ⟨by rw [show max n 1=n by omega]; simp; omega,hb.out⟩
end Go.Proofs.YtddkjkockbcamaaGreatDoor

set_option maxHeartbeats 16000000
set_option maxRecDepth 100000
namespace Go.Proofs.YtddkjkockbcamaaGreatDoor
theorem KB {s:List UInt8} {i:Nat} (hi:i<s.length) (hb:s[i]=96):AU s i=Lk.hop s i∧Lk.sign s i=0:=by
 have hg:s.getD i 0=96:=by rw [Em.getD_at hi]; exact hb
 unfold AU;cases hs:Cd.span s (i:Int) with
 | some x =>
  obtain ⟨t,e⟩:=x;have:=Lk.Dz hg hs;exact ⟨this.1.symm,this.2⟩
 | none =>
  have ha:Lk.auto s (i:Int)=none:=lQ hi (by rw [hb]; decide);have h1:=Lk.It hg hs;have h2:1≤Fn.run 96 (s.drop i):=by rw [Fn.jh hi hb]; omega
  rw [ha,h1.1];exact ⟨by simp only; omega,h1.2⟩
theorem JP {s:List UInt8} {i:Nat} (hi:i<s.length) (hb:s[i]=60) {t:List UInt8} {e:Nat} (ha:Lk.auto s (i:Int)=some (t,e)):AU s i=Lk.hop s i∧Lk.sign s i=0:=by
 have hg:s.getD i 0≠96:=by rw [Em.getD_at hi,hb]; decide
 have hs:Cd.span s (i:Int)=none:=Cd.jn (kF (.inr (.inr (.inl ⟨by rw [Int.toNat_natCast]; exact hi,by simp only [Int.toNat_natCast]; rw [hb]; decide⟩))));have h1:=Lk.xI hg ha;unfold AU;rw [hs,ha];exact ⟨h1.1.symm,h1.2⟩
theorem Gi {s:List UInt8} {i:Nat} (hi:i<s.length) {b:UInt8} (hb:s[i]=b) (hl:b.toNat<128) (Dn:b≠92):Es.next s i=(b.toNat,i+1,false):=by
 rw [Es.iL hi,List.drop_eq_getElem_cons hi,hb];have he:Es.dx (b::s.drop (i+1))=false:=by
  cases s.drop (i+1) with
  | nil=>rfl
  | cons c r=>show (b==92&&Es.LX c)=false; rw [show (b==92)=false from by simpa using Dn]; rfl
 rw [Es.jV he,Es.jP hl]
theorem LI {s:List UInt8} {i:Nat} (hi:i<s.length) (hb:s[i]=60) (ha:Lk.auto s (i:Int)=none):AU s i=Lk.hop s i∧Lk.sign s i=60:=by
 have hg:s.getD i 0≠96:=by rw [Em.getD_at hi,hb]; decide
 have hs:Cd.span s (i:Int)=none:=Cd.jn (kF (.inr (.inr (.inl ⟨by rw [Int.toNat_natCast]; exact hi,by simp only [Int.toNat_natCast]; rw [hb]; decide⟩))));have h1:=Lk.nF hg ha;have h2:Fn.run 96 (s.drop i)=0:=Fn.pN hi (by rw [hb]; decide);have h3:=Gi hi hb (by decide) (by decide);rw [h3] at h1;unfold AU;rw [hs,ha,h2];exact ⟨by rw [h1.1]; simp only; omega,by rw [h1.2]; simp⟩
end Go.Proofs.YtddkjkockbcamaaGreatDoor
