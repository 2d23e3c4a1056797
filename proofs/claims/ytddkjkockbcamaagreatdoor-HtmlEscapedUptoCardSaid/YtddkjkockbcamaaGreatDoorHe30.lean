/- LkPSch LkPSafe LkPAuto LkPClose LkPDest LkProg IlPBr IlPBr2 -/
import Derived.Test.YtddkjkockbcamaaGreatDoorHe28
import Derived.Test.YtddkjkockbcamaaGreatDoorHe29
import Derived.Test.YtddkjkockbcamaaGreatDoorHe05
import Derived.Test.YtddkjkockbcamaaGreatDoorHe03
import Derived.Test.YtddkjkockbcamaaGreatDoorHe17
set_option maxHeartbeats 16000000
set_option maxRecDepth 100000
namespace Go.Proofs.YtddkjkockbcamaaGreatDoor
open Go.RowKit
def stand (l:List UInt8) (at_:Int) (c:UInt8):Bool:=decide (0≤at_∧at_.toNat<l.length∧l.getD at_.toNat 0=c)
theorem K7 {l:List UInt8}{at_:Int}{c:UInt8}(h:at_<0):stand l at_ c=false:=by unfold stand;exact decide_eq_false (by omega)
theorem Kv {l:List UInt8}{at_:Int}{c:UInt8}(h:(l.length:Int)≤at_):stand l at_ c=false:=by unfold stand;exact decide_eq_false (by omega)
theorem mF {l:List UInt8}{at_:Int}{c:UInt8}(h0:0≤at_) (h:at_.toNat<l.length):stand l at_ c=(l[at_.toNat]==c):=by
 unfold stand;have e:l.getD at_.toNat 0=l[at_.toNat]:=by rw [List.getD_eq_getElem?_getD,List.getElem?_eq_getElem h];rfl
 rw [Bool.eq_iff_iff,decide_eq_true_iff,beq_iff_eq,e];exact ⟨fun x=>x.2.2,fun x=>⟨h0,h,x⟩⟩
theorem zR {l:List UInt8}{at_:Int}{c:UInt8}(h:stand l at_ c=true):∃ k:Nat,at_=(k:Int)∧∃ hk:k<l.length,l[k]=c:=by
 unfold stand at h;obtain ⟨h0,h1,h2⟩:=of_decide_eq_true h;refine ⟨at_.toNat,by omega,h1,?_⟩;rw [List.getD_eq_getElem?_getD,List.getElem?_eq_getElem h1] at h2;exact h2
theorem kV (l:List UInt8) (at_:Int) (c:UInt8) (v:Int) (hv:v=(c.toNat:Int)) (_hs:l.length≤1000000000) (w:World) :
  Calls Tryz.prog 234 #[.string (bs l),.int .i64 at_,.int .u8 v] w fun e w'=>e=.returned (.bool (stand l at_ c))∧w=w':=by
 have hsz:=au l
 by_cases h:at_<0
 ·rw [K7 h]
  go_enter Tryz.func234,Tryz.ntmps234;go_wp2;go_ret;exact ⟨rfl,rfl⟩
 ·by_cases h2:(l.length:Int)≤at_
  ·rw [Kv h2]
   go_enter Tryz.func234,Tryz.ntmps234;go_wp2;go_ret;exact ⟨rfl,rfl⟩
  ·have hk:at_.toNat<l.length:=by omega
   rw [mF (by omega) hk];have hix:=fE (i:=at_.toNat) (v:=at_) (S:=l) hk (by omega) w;have Qt:((l[at_.toNat].toNat:Int)==v)=(l[at_.toNat]==c):=by
    subst hv;rw [Bool.eq_iff_iff,beq_iff_eq,beq_iff_eq];exact ⟨fun h=>UInt8.toNat_inj.1 (by omega),fun h=>by rw [h]⟩
   obtain ⟨V,hV⟩:∃ V,V=(l[at_.toNat]==c):=⟨_,rfl⟩
   rw [← hV] at Qt ⊢;clear hV hv;go_enter Tryz.func234,Tryz.ntmps234;go_wp2;go_ret;exact ⟨rfl,rfl⟩
theorem kT (r:Int) (w:World) :
  Calls Tryz.prog 180 #[.int .i32 r] w fun e w'=>e=.returned (.bool (decide (97≤r∧r≤122)))∧w=w':=by
 go_enter Tryz.func180,Tryz.ntmps180;go_wp2
 all_goals go_ret
 all_goals (refine ⟨rj ?_,rfl⟩;rw [Bool.eq_iff_iff];simp;omega)
def ji (l:List UInt8):Bool:=decide (2≤Lk.letters l∧Lk.letters l≤12∧l.getD (Lk.letters l) 0=58)
theorem getD_at {l:List UInt8}{i:Nat}(h:i<l.length):l.getD i 0=l[i]:=by rw [List.getD_eq_getElem?_getD,List.getElem?_eq_getElem h];rfl
theorem Ef {l:List UInt8}{i:Nat}(h:¬ i<l.length):l.getD i 0=0:=by rw [List.getD_eq_getElem?_getD,List.getElem?_eq_none (by omega)];rfl
theorem Gi (l:List UInt8) (w:World) (hs:l.length≤1000000000) :
  Calls Tryz.prog 235 #[.string (bs l)] w fun e w'=>(∃ m:Nat,e=.returned (.tuple #[.int .i64 (m:Int),.bool (ji l)])∧(ji l=true→m=Lk.letters l+1))∧Below w.heap.size w w':=by
 have hsz:=au l;obtain ⟨R,hR⟩:∃ R,R=ji l:=⟨_,rfl⟩
 obtain ⟨n,hn⟩:∃ n,n=Lk.letters l:=⟨_,rfl⟩
 have hR2:Hid (R=decide (2≤n∧n≤12∧l.getD n 0=58)):=Lib.hid (by rw [hR,hn];rfl);rw [← hR,← hn];replace hn:=Lib.hid hn;clear hR;go_enter Tryz.func235,Tryz.ntmps235;go_wp2
 go_loopw [] (fun wr=>∃ pos:Nat,pos≤l.length∧pos≤12∧Hid (wr.heap[w.heap.size]? = some (.stringIter (bs l) pos))∧Hid (pos+Lk.letters (l.drop pos)=n)∧Below w.heap.size w wr)
  (fun wr=>l.length-wr.iterPos w.heap.size)
 case atStart=>exact ⟨0,by omega,by omega,Lib.hid (jo _ _ _ rfl),Lib.hid (by rw [hn.out];simp),aa _ _⟩
 case round =>
  obtain ⟨pos,KF,ZM,hit,hf,hb⟩:=hrel
  by_cases hp:pos<l.length
  ·obtain ⟨x,k,hk,hkl,hd,Dk,DN,hc⟩:=dN hp
   have jr:=bK hit.out hp hd;have gz:=Lib.hid (Lib.iterAt_heap wr w.heap.size (bs l) pos (pos+k) hit.out);have hb2:=Lib.below_iterAt hb (k:=w.heap.size) (Nat.le_refl _) (bs l) (pos+k);have hpos:Hid (wr.iterPos w.heap.size=pos):=Lib.hid (by simp only [World.iterPos,hit.out]);have dS:Hid ((wr.iterAt w.heap.size (bs l) (pos+k)).iterPos w.heap.size=pos+k):=Lib.hid (by simp only [World.iterPos,gz.out]);replace hd:=Lib.hid hd;replace DN:=Lib.hid DN
   by_cases EA:x=58
   ·have FG:l[pos]=58:=by
     rcases hc with ⟨_,h2,_⟩ | ⟨_,h2,_⟩
     ·exact UInt8.toNat_inj.1 (by rw [← h2,EA];rfl)
     ·omega
    have C0:pos=n:=by have:=hf.out;rw [Lk.wG hp (by rw [FG];decide)] at this;omega
    have hres:Hid (R=decide ((2:Int)≤(pos:Int))):=Lib.hid (by
     rw [hR2.out,← C0,getD_at hp,FG,Bool.eq_iff_iff,decide_eq_true_iff,decide_eq_true_iff];exact ⟨fun h=>by omega,fun h=>⟨by omega,ZM,rfl⟩⟩)
    replace C0:=Lib.hid C0;have t:((x:Int)==58)=true:=by simp [EA]
    replace EA:=Lib.hid EA;replace FG:=Lib.hid FG;replace hc:=Lib.hid hc;go_wp2;go_ret2;exact ⟨⟨pos+1,by rw [hres.out];rfl,fun _=>by have:=C0.out;omega⟩,hb2⟩
   ·have t:((x:Int)==58)=false:=by rw [beq_eq_false_iff_ne];omega
    by_cases hsm:97≤x∧x≤122
    ·have hq:x=l[pos].toNat∧k=1:=by
      rcases hc with ⟨_,h2,h3⟩ | ⟨_,h2,_⟩
      ·exact ⟨h2,h3⟩
      ·omega
     have hls:Lk.small l[pos]=true:=(Lk.nZ _).2 (by omega);have hf2:Hid (pos+1+Lk.letters (l.drop (pos+1))=n):=Lib.hid (by have:=hf.out;rw [Lk.Hu hp hls] at this;omega);have oZ:k=1:=hq.2;clear hq hls hc;subst oZ;have hds:(decide (97≤(x:Int)∧(x:Int)≤122))=true:=decide_eq_true (by omega)
     by_cases h12:pos=12
     ·have hres:R=false:=by
       rw [hR2.out];refine decide_eq_false ?_;have:=hf2.out;omega
      have hge:12≤pos:=by omega
      subst hres;replace h12:=Lib.hid h12;replace hsm:=Lib.hid hsm;go_wp2_with (go_at_call 180;refine (kT _ _).mono ?_;rintro e w1 ⟨rfl,rfl⟩;rw [hds]);go_ret2;exact ⟨⟨0,rfl,fun h=>by cases h⟩,hb2⟩
     ·have hlt:pos<12:=by omega
      replace h12:=Lib.hid h12;replace hsm:=Lib.hid hsm;go_wp2_with (go_at_call 180;refine (kT _ _).mono ?_;rintro e w1 ⟨rfl,rfl⟩;rw [hds])
      go_roundw
      case rel=>exact ⟨pos+1,by omega,by omega,gz,hf2,hb2⟩
      case measure=>rw [hpos.out,dS.out];omega
    ·have hds:(decide (97≤(x:Int)∧(x:Int)≤122))=false:=decide_eq_false (by omega)
     have hls:Lk.small l[pos]=false:=by
      rw [← Bool.not_eq_true,Lk.nZ];rcases hc with ⟨_,h2,_⟩ | ⟨h2,_,_⟩<;>omega
     have C0:pos=n:=by have:=hf.out;rw [Lk.wG hp hls] at this;omega
     have FG:l[pos]≠58:=by
      intro he;rw [he] at hc;rcases hc with ⟨_,h2,_⟩ | ⟨h2,_,_⟩
      ·exact EA h2
      ·exact absurd h2 (by decide)
     have hres:R=false:=by
      rw [hR2.out,← C0,getD_at hp];exact decide_eq_false fun h=>FG h.2.2
     subst hres;clear C0 hls FG hc;replace hsm:=Lib.hid hsm;replace EA:=Lib.hid EA;go_wp2_with (go_at_call 180;refine (kT _ _).mono ?_;rintro e w1 ⟨rfl,rfl⟩;rw [hds]);go_ret2;exact ⟨⟨0,rfl,fun h=>by cases h⟩,hb2⟩
  ·have jr:=bZ hit.out hp
   have C0:pos=n:=by have:=hf.out;rw [Lk.CK hp] at this;omega
   have hres:R=false:=by
    rw [hR2.out,← C0,Ef hp];exact decide_eq_false fun h=>absurd h.2.2 (by decide)
   subst hres;clear C0;go_wp2;go_ret2;exact ⟨⟨0,rfl,fun h=>by cases h⟩,hb⟩
theorem FC (x:Nat):decide (97≤(x:Int)∧(x:Int)≤122)=bU x:=by
 unfold bU;rw [Bool.eq_iff_iff,decide_eq_true_iff,decide_eq_true_iff];omega
theorem uu {D:List Nat}{x:Nat}(h:bU x=true):(D++[x]).filter bU=D.filter bU++[x]:=by rw [List.filter_append];simp [h]
theorem vG {D:List Nat}{x:Nat}(h:bU x=false):(D++[x]).filter bU=D.filter bU:=by rw [List.filter_append];simp [h]
theorem BF (l:List UInt8) (w:World) (hs:l.length≤1000000000) :
  Calls Tryz.prog 144 #[.string (bs l)] w fun e w'=>e=.returned (.string (bs (Lk.word l)))∧Below w.heap.size w w':=by
 have hsz:=au l;have qf:=fun w=>GL l w hs;have hfl:(Ru.enc (Ru.fold (Ru.aP l))).length≤4000000000:=by
  have h1:=(Ru.gf (Ru.fold (Ru.aP l))).2;have h2:=Ru.NS (Ru.aP l);have h3:=Ru.nT l;omega
 have hrf:Ru.aP (Ru.enc (Ru.fold (Ru.aP l)))=Ru.fold (Ru.aP l):=Ru.yD (Ru.Rk (Ru.MQ l));have hwf:=KX l;rw [← hrf] at hwf;obtain ⟨F,hF⟩:∃ F,F=Ru.enc (Ru.fold (Ru.aP l)):=⟨_,rfl⟩
 rw [← hF] at qf hfl hwf;rw [← hwf];clear hrf hF hwf;have hFs:=au F;go_enter Tryz.func144,Tryz.ntmps144;go_wp2_with fail;refine (qf _).mono ?_;rintro e w1 ⟨rfl,hb1⟩;have G4:jZ w.heap.size w.heap.size (aj []) w1:=zT (nU w) hb1;have mX:Below w.heap.size w w1:=ag (aa _ _) hb1;have hz1:w.heap.size<w1.heap.size:=by
  have h1:=VL G4;omega
 clear hb1;go_wp2_with fail
 go_loopw [] (fun wr=>∃ (pos:Nat) (D:List Nat),jZ w.heap.size w.heap.size (aj (Ru.enc (D.filter bU))) wr∧Hid (wr.heap[w1.heap.size]? = some (.stringIter (bs F) pos))∧Hid (D++Ru.aP (F.drop pos)=Ru.aP F)∧Below w.heap.size w wr)
  (fun wr=>F.length-wr.iterPos w1.heap.size)
 case atStart=>exact ⟨0,[],G4.alloc _,Lib.hid (jo _ _ _ rfl),Lib.hid rfl,mX.alloc mX.size _⟩
 case round =>
  obtain ⟨pos,D,hI,hit,hD,hb⟩:=hrel;have hdl:=lK hD.out;have hfD:(D.filter bU).length≤D.length:=List.length_filter_le _ _
  by_cases hp:pos<F.length
  ·obtain ⟨x,k,hk,hv,hd,tB⟩:=di hp hD.out
   have jr:=bK hit.out hp hd;replace tB:=Lib.hid tB;replace hd:=Lib.hid hd;have gz:=Lib.hid (Lib.iterAt_heap wr w1.heap.size (bs F) pos (pos+k) hit.out);have hb2:=Lib.below_iterAt hb (k:=w1.heap.size) (by omega) (bs F) (pos+k);have mb:jZ _ _ _ _:=hI.iterAt hit.out (pos+k);have hpos:Hid (wr.iterPos w1.heap.size=pos):=Lib.hid (by simp only [World.iterPos,hit.out]);have hz2:w.heap.size≤(wr.iterAt w1.heap.size (bs F) (pos+k)).heap.size:=by rw [Lib.iterAt_size];have:=hb.size;omega
   have hl4:=(Ru.gf (D.filter bU)).2;have Dk:x≤1114111:=by unfold Ru.vr at hv;omega
   have hlen:(aj (Ru.enc (D.filter bU))).length+4≤140737488355328:=by rw [fy];omega
   have qs:=fun w=>kT (x:Int) w;rw [FC] at qs;clear hl4 hv;cases hsm:bU x with
   | true =>
    rw [hsm] at qs;have YO:=Lib.hid (uu (D:=D) hsm);clear hsm;obtain ⟨Y,hY⟩:∃ Y,Y=D.filter bU:=⟨_,rfl⟩
    rw [← hY] at hI mb hlen YO;clear hY;go_wp2_with (go_at_call 180;refine (qs _).mono ?_;rintro e w' ⟨rfl,rfl⟩);refine (dh w.heap.size w.heap.size _ (x:Int) (by omega) (by omega) _ mb hlen hz2).mono ?_;rintro e w3 ⟨⟨v,rfl⟩,h2,b2,k2⟩;have qj:=Lib.hid (k2.iter gz.out (by omega));have dS:Hid (w3.iterPos w1.heap.size=pos+k):=Lib.hid (by simp only [World.iterPos,qj.out]);have h2':=fY h2;clear h2;go_wp2
    go_roundw
    case rel=>exact ⟨pos+k,D++[x],by rw [YO.out];exact h2',qj,tB,hb2.trans b2⟩
    case measure=>rw [hpos.out,dS.out];omega
   | false =>
    rw [hsm] at qs;have YO:=Lib.hid (vG (D:=D) hsm);clear hsm;go_wp2_with (go_at_call 180;refine (qs _).mono ?_;rintro e w' ⟨rfl,rfl⟩);have dS:Hid ((wr.iterAt w1.heap.size (bs F) (pos+k)).iterPos w1.heap.size=pos+k):=Lib.hid (by simp only [World.iterPos,gz.out])
    go_roundw
    case rel=>exact ⟨pos+k,D++[x],by rw [YO.out];exact mb,gz,tB,hb2⟩
    case measure=>rw [hpos.out,dS.out];omega
  ·have jr:=bZ hit.out hp
   have Rp:=kW hp hD.out;subst Rp;clear hD;have hz:w.heap.size≤wr.heap.size:=hb.size;go_wp2_with fail;refine (lP w.heap.size w.heap.size _ _ hI hz).mono ?_;rintro e w3 ⟨rfl,b3⟩;go_wp2;go_ret;exact ⟨rfl,hb.trans b3⟩
theorem Jh (l:List UInt8) (hs:l.length≤1000000000) (w:World) :
  Calls Tryz.prog 110 #[.string (bs l)] w fun e w'=>e=.returned (.bool (Lk.safe l))∧Below w.heap.size w w':=by
 have hsz:=au l;have q1:=fun w=>ku l 35 (by decide) w;have q2:=fun w=>RF l 58 (by omega) w;obtain ⟨R,hR⟩:∃ R,R=Lk.safe l:=⟨_,rfl⟩
 rw [← hR];unfold Lk.safe Lk.head at hR;cases UI:l.getD 0 0==35 with
 | true =>
  have hres:R=false:=by rw [hR];simp only [bne,UI];rfl
  rw [UI] at q1;subst hres;clear hR UI;go_enter Tryz.func110,Tryz.ntmps110;go_wp2_with fail;refine (q1 _).mono ?_;rintro e w1 ⟨rfl,rfl⟩;go_wp2;go_ret;exact ⟨rfl,Below.refl _ _⟩
 | false =>
  simp only [bne,UI] at hR;rw [UI] at q1;cases hc:l.contains 58 with
  | false =>
   have hres:R=true:=by rw [hR];simp only [hc];rfl
   rw [hc] at q2;subst hres;clear hR UI hc;obtain ⟨H,hH⟩:∃ H,H=l.takeWhile (· != 58):=⟨_,rfl⟩
   rw [← hH] at q2;clear hH;go_enter Tryz.func110,Tryz.ntmps110;go_wp2_with fail;refine (q1 _).mono ?_;rintro e w1 ⟨rfl,rfl⟩;go_wp2_with fail;refine (q2 _).mono ?_;rintro e w2 ⟨⟨a,rfl⟩,hb2⟩;go_wp2;go_ret;exact ⟨rfl,hb2⟩
  | true =>
   rw [hc] at q2;simp only [hc,if_true] at hR;have hHl:(l.takeWhile (· != 58)).length≤l.length:=(List.takeWhile_sublist _).length_le;have q3:=fun w=>BF (l.takeWhile (· != 58)) w (by omega);have hR2:R=(!(Lk.word (l.takeWhile (· != 58))==Lk.js)&&!(Lk.word (l.takeWhile (· != 58))==Lk.data)):=by rw [hR];simp only [bne,Bool.not_false,Bool.true_and]
   clear hR;obtain ⟨H,hH⟩:∃ H,H=l.takeWhile (· != 58):=⟨_,rfl⟩
   rw [← hH] at q2 q3 hR2 hHl;obtain ⟨D,hD⟩:∃ D,D=Lk.word H:=⟨_,rfl⟩
   rw [← hD] at q3 hR2;have hDs:=au D;clear hH hD UI hc
   by_cases f1:D=Lk.js
   ·have e1:((bs D).toList==[106,97,118,97,115,99,114,105,112,116])=true:=by rw [bG,f1];rfl
    rw [f1] at hR2;simp only [beq_self_eq_true,Bool.not_true,Bool.false_and] at hR2;subst hR2;clear f1;go_enter Tryz.func110,Tryz.ntmps110;go_wp2_with fail;refine (q1 _).mono ?_;rintro e w1 ⟨rfl,rfl⟩;go_wp2_with fail;refine (q2 _).mono ?_;rintro e w2 ⟨⟨a,rfl⟩,hb2⟩;go_wp2_with fail;refine (q3 _).mono ?_;rintro e w3 ⟨rfl,hb3⟩;replace hb3:=ag hb2 hb3;go_wp2;go_ret;exact ⟨rfl,hb3⟩
   ·have e1:=tP f1
    unfold Lk.js at e1;have f1':(D==Lk.js)=false:=by simpa using f1
    rw [f1'] at hR2;simp only [Bool.not_false,Bool.true_and] at hR2;clear f1 f1'
    by_cases f2:D=Lk.data
    ·have e2:((bs D).toList==[100,97,116,97])=true:=by rw [bG,f2];rfl
     rw [f2] at hR2;simp only [beq_self_eq_true,Bool.not_true] at hR2;subst hR2;clear f2;go_enter Tryz.func110,Tryz.ntmps110;go_wp2_with fail;refine (q1 _).mono ?_;rintro e w1 ⟨rfl,rfl⟩;go_wp2_with fail;refine (q2 _).mono ?_;rintro e w2 ⟨⟨a,rfl⟩,hb2⟩;go_wp2_with fail;refine (q3 _).mono ?_;rintro e w3 ⟨rfl,hb3⟩;replace hb3:=ag hb2 hb3;go_wp2;go_ret;exact ⟨rfl,hb3⟩
    ·have e2:=tP f2
     unfold Lk.data at e2;have f2':(D==Lk.data)=false:=by simpa using f2
     rw [f2'] at hR2;simp only [Bool.not_false] at hR2;subst hR2;clear f2 f2';go_enter Tryz.func110,Tryz.ntmps110;go_wp2_with fail;refine (q1 _).mono ?_;rintro e w1 ⟨rfl,rfl⟩;go_wp2_with fail;refine (q2 _).mono ?_;rintro e w2 ⟨⟨a,rfl⟩,hb2⟩;go_wp2_with fail;refine (q3 _).mono ?_;rintro e w3 ⟨rfl,hb3⟩;replace hb3:=ag hb2 hb3;go_wp2;go_ret;exact ⟨rfl,hb3⟩
theorem x7 {l:List UInt8}{k:Nat}(hk:k<l.length) (eB:l[k]=60):Lk.starts l k=ji (l.drop (k+1)):=by
 unfold Lk.starts ji;have e:(l.drop (k+1)).getD (Lk.letters (l.drop (k+1))) 0=l.getD (k+1+Lk.letters (l.drop (k+1))) 0:=by
  rw [List.getD_eq_getElem?_getD,List.getD_eq_getElem?_getD,List.getElem?_drop]
 rw [Bool.eq_iff_iff,decide_eq_true_iff,decide_eq_true_iff,e,getD_at hk];exact ⟨fun h=>h.2.2,fun h=>⟨hk,eB,h⟩⟩
theorem Fv {l:List UInt8}{i:Nat}(h:i<l.length) (EA:l[i]=58):Lk.ends l i=Lk.ends l (i+1):=by
 have hd:Lib.decodeL (l.drop i)=(58,1):=by
  rw [List.drop_eq_getElem_cons h,Es.jF (by rw [EA];decide),EA];rfl
 rw [Lk.yX h,hd,if_neg (by decide),if_neg (by decide)]
theorem Pq (l:List UInt8) (k:Nat) (hk:k<l.length) (hs:l.length≤1000000000) (eB:l[k]=60) (w:World) :
  Calls Tryz.prog 221 #[.string (bs l),.int .i64 (k:Int)] w fun e w'=>e=.returned (fH (Lk.auto l (k:Int)))∧Below w.heap.size w w':=by
 have hsz:=au l;have qst:=fun w=>kV l (k:Int) 60 60 rfl hs w;rw [show stand l (k:Int) 60=true from by rw [mF (by omega) (by simpa using hk)];simpa using eB] at qst;have hfr:=fun w=>ia (S:=l) (i:=k+1) (v:=(k:Int)+1) (by omega) (by omega) w;have UK:=x7 hk eB;have hon:=fun h=>Lk.Bc (l:=l) (k:=k) h rfl;have hoff:=fun h=>Lk.nr (l:=l) (k:=k) h;rw [UK] at hon hoff;obtain ⟨R,hR⟩:∃ R,R=Lk.auto l (k:Int):=⟨_,rfl⟩
 rw [← hR] at hon hoff ⊢;have hlen:(l.drop (k+1)).length=l.length-(k+1):=by rw [List.length_drop]
 have qsc:=fun w=>Gi (l.drop (k+1)) w (by omega);have EA:ji (l.drop (k+1))=true→k+1+Lk.letters (l.drop (k+1))<l.length∧Lk.ends l (k+1+Lk.letters (l.drop (k+1)))=Lk.ends l (k+1+(Lk.letters (l.drop (k+1))+1)):=by
  intro h;have h3:=(of_decide_eq_true h).2.2;have hlt:Lk.letters (l.drop (k+1))<(l.drop (k+1)).length:=by
   by_cases hc:Lk.letters (l.drop (k+1))<(l.drop (k+1)).length
   ·exact hc
   ·rw [Ef hc] at h3;exact absurd h3 (by decide)
  rw [getD_at hlt,List.getElem_drop] at h3;exact ⟨by omega,Fv (by omega) h3⟩
 obtain ⟨n,hn⟩:∃ n,n=Lk.letters (l.drop (k+1)):=⟨_,rfl⟩
 rw [← hn] at hon EA qsc;obtain ⟨o,ho⟩:∃ o,o=ji (l.drop (k+1)):=⟨_,rfl⟩
 rw [← ho] at hon hoff EA qsc;obtain ⟨T,hT⟩:∃ T,T=l.drop (k+1):=⟨_,rfl⟩
 rw [← hT] at hfr qsc hlen;replace hon:=Lib.hid hon;replace hoff:=Lib.hid hoff;replace EA:=Lib.hid EA;replace hT:=Lib.hid hT;clear hR UK eB hn ho;have YU:=au T;cases o with
 | false =>
  have hres:R=none:=hoff.out rfl;subst hres;go_enter Tryz.func221,Tryz.ntmps221;go_wp2_with fail;refine (qst _).mono ?_;rintro e w0 ⟨rfl,rfl⟩;go_wp2_with fail;refine (qsc _).mono ?_;rintro e w1 ⟨⟨m,rfl,_⟩,hb1⟩;go_wp2;go_ret3;exact ⟨rfl,hb1⟩
 | true =>
  obtain ⟨hlt,hen⟩:=EA.out rfl;obtain ⟨b,hbd⟩:∃ b,b=k+1+(n+1):=⟨_,rfl⟩
  have hR2:Hid (R=(Lk.ends l b).map fun j=>(mid l (k+1) j,j+1)):=Lib.hid (by rw [hon.out rfl,hen,hbd]);have hbl:b≤l.length:=by omega
  have hfr2:=fun w=>ia (S:=l) (i:=b) (v:=(n:Int)+1+((k:Int)+1)) hbl (by omega) w;obtain ⟨U,hU⟩:∃ U,U=l.drop b:=⟨_,rfl⟩
  have hUl:U.length=l.length-b:=by rw [hU,List.length_drop]
  have hUs:=au U;have hUd:Hid (∀ q,Utf8.decode (bs U) q=Lib.decodeL (l.drop (b+q))):=Lib.hid (by
   intro q;rw [← di.decodeL_drop' U q,hU,List.drop_drop])
  rw [← hU] at hfr2;have uE:(b:Int)=(n:Int)+1+((k:Int)+1):=by omega
  replace hbd:=Lib.hid hbd;replace hU:=Lib.hid hU;clear hon hoff EA hen;go_enter Tryz.func221,Tryz.ntmps221;go_wp2_with fail;refine (qst _).mono ?_;rintro e w0 ⟨rfl,rfl⟩;go_wp2_with fail;refine (qsc _).mono ?_;rintro e w1 ⟨⟨m,rfl,hm⟩,hb1⟩;have hmn:(m:Int)=(n:Int)+1:=by have:=hm (by trivial);omega
  rw [hmn];clear hm hmn;have acw:=hb1.size;go_wp2_with fail
  go_loopw [] (fun wr=>∃ pos:Nat,pos≤U.length∧Hid (wr.heap[w1.heap.size]? = some (.stringIter (bs U) pos))∧Hid (Lk.ends l b=Lk.ends l (b+pos))∧Below w.heap.size w wr)
   (fun wr=>U.length-wr.iterPos w1.heap.size)
  case atStart=>exact ⟨0,by omega,Lib.hid (jo _ _ _ rfl),Lib.hid rfl,hb1.alloc hb1.size _⟩
  case round =>
   obtain ⟨pos,KF,hit,he,hb⟩:=hrel
   by_cases hp:pos<U.length
   ·obtain ⟨x,q,hq,hql,hd,Dk,DN,hc⟩:=dN hp
    have hst:=Lk.yX (l:=l) (i:=b+pos) (by omega);rw [← hUd.out pos,hd,← he.out] at hst;simp only at hst;have jr:=bK hit.out hp hd;have gz:=Lib.hid (Lib.iterAt_heap wr w1.heap.size (bs U) pos (pos+q) hit.out);have hb2:=Lib.below_iterAt hb (k:=w1.heap.size) (by omega) (bs U) (pos+q);have hpos:Hid (wr.iterPos w1.heap.size=pos):=Lib.hid (by simp only [World.iterPos,hit.out]);have dS:Hid ((wr.iterAt w1.heap.size (bs U) (pos+q)).iterPos w1.heap.size=pos+q):=Lib.hid (by simp only [World.iterPos,gz.out]);replace hd:=Lib.hid hd;replace DN:=Lib.hid DN;replace hc:=Lib.hid hc
    by_cases sO:x=62
    ·have hres:R=some (mid l (k+1) (b+pos),b+pos+1):=by rw [hR2.out,hst,if_pos sO];rfl
     have t:((x:Int)==62)=true:=by simp [sO]
     have hcut:=fun w=>kY (S:=l) (i:=k+1) (j:=b+pos) (v:=(k:Int)+1) (u:=(n:Int)+1+((k:Int)+1)+(pos:Int)) (by omega) (by omega) (by omega) (by omega) w;have hml:(mid l (k+1) (b+pos)).length≤140737488355328:=by rw [eZ (by omega)];omega
     have qcl:=fun w=>Az (mid l (k+1) (b+pos)) w hml;obtain ⟨M,hM⟩:∃ M,M=mid l (k+1) (b+pos):=⟨_,rfl⟩
     rw [← hM] at hcut qcl hres;have hsp:fH (some (M,b+pos+1))=.tuple #[.string (bs M),.int .i64 ((n:Int)+1+((k:Int)+1)+(pos:Int)+1),.bool true]:=by
      show Value.tuple #[.string (bs M),.int .i64 ((b+pos+1:Nat):Int),.bool true]=_;rw [show ((b+pos+1:Nat):Int)=(n:Int)+1+((k:Int)+1)+(pos:Int)+1 by omega]
     subst hres;replace hsp:=Lib.hid hsp;replace sO:=Lib.hid sO;clear hst he hR2 hM hml;go_wp2_with fail;refine (qcl _).mono ?_;rintro e w4 ⟨rfl,hb4⟩;replace hb4:=ag hb2 hb4;go_wp2;go_ret3;exact ⟨congrArg Ending.returned hsp.out.symm,hb4⟩
    ·have t:((x:Int)==62)=false:=by rw [beq_eq_false_iff_ne];omega
     rw [if_neg sO] at hst
     by_cases eB:x=60
     ·have hres:R=none:=by rw [hR2.out,hst,if_pos (.inl eB)];rfl
      have t2:((x:Int)==60)=true:=by simp [eB]
      subst hres;replace sO:=Lib.hid sO;replace eB:=Lib.hid eB;clear hst he hR2;go_wp2;go_ret3;exact ⟨rfl,hb2⟩
     ·have t2:((x:Int)==60)=false:=by rw [beq_eq_false_iff_ne];omega
      have qb:=fun w=>eO (x:Int) w;cases hbl:dB (x:Int) with
      | true =>
       have hres:R=none:=by rw [hR2.out,hst,if_pos (.inr hbl)];rfl
       rw [hbl] at qb;subst hres;replace sO:=Lib.hid sO;replace eB:=Lib.hid eB;clear hst he hR2 hbl;go_wp2_with (go_at_call 212;refine (qb _).mono ?_;rintro e w4 ⟨rfl,rfl⟩);go_ret3;exact ⟨rfl,hb2⟩
      | false =>
       rw [if_neg (by rw [hbl];simp [eB])] at hst;rw [hbl] at qb;have Tt:Hid (Lk.ends l b=Lk.ends l (b+(pos+q))):=Lib.hid (by rw [hst,Nat.add_assoc]);replace sO:=Lib.hid sO;replace eB:=Lib.hid eB;clear hst he hbl;go_wp2_with (go_at_call 212;refine (qb _).mono ?_;rintro e w4 ⟨rfl,rfl⟩)
       go_roundw
       case rel=>exact ⟨pos+q,by omega,gz,Tt,hb2⟩
       case measure=>rw [hpos.out,dS.out];omega
   ·have jr:=bZ hit.out hp
    have hres:R=none:=by rw [hR2.out,he.out,Lk.OR (by omega)];rfl
    subst hres;clear he hR2;go_wp2;go_ret3;exact ⟨rfl,hb⟩
theorem su (l:List UInt8) (at_:Int) (hs:l.length≤1000000000) (w:World) :
  Calls Tryz.prog 221 #[.string (bs l),.int .i64 at_] w fun e w'=>e=.returned (fH (Lk.auto l at_))∧Below w.heap.size w w':=by
 cases h:stand l at_ 60 with
 | true =>
  obtain ⟨k,rfl,hk,eB⟩:=zR h;exact Pq l k hk hs eB w
 | false =>
  have hno:Lk.auto l at_=none:=by
   apply RY
   by_cases h1:at_<0
   ·exact .inl h1
   ·by_cases h2:(l.length:Int)≤at_
    ·exact .inr (.inl ⟨by omega,h2⟩)
    ·refine .inr (.inr ⟨by omega,by omega,?_⟩)
     rw [mF (by omega) (by omega)] at h;simpa using h
  have qst:=fun w=>kV l at_ 60 60 rfl hs w;rw [h] at qst;rw [hno];clear h hno;go_enter Tryz.func221,Tryz.ntmps221;go_wp2_with fail;refine (qst _).mono ?_;rintro e w0 ⟨rfl,rfl⟩;go_wp2;go_ret3;exact ⟨rfl,Below.refl _ _⟩
def Mf (l:List UInt8) (k:Nat):Nat:=match Lk.auto l (k:Int) with | some x=>x.2 | none=>k+1
def X3 (l:List UInt8) (k:Nat):Nat:=match Cd.span l (k:Int) with | some x=>x.2 | none=>k+Fn.run 96 (l.drop k)
theorem Jn {l:List UInt8}{k:Nat}{t:List UInt8}{e:Nat}(h:Lk.auto l (k:Int)=some (t,e)):Mf l k=e:=by unfold Mf;rw [h]
theorem I4 {l:List UInt8}{k:Nat}(h:Lk.auto l (k:Int)=none):Mf l k=k+1:=by unfold Mf;rw [h]
theorem DY {l:List UInt8}{i:Nat}(h:i<l.length) (ho:(Es.next l i).2.2=true):l[i]=92:=by
 rw [Es.iR h] at ho;simp only at ho;cases hes:Es.dF (l.drop i) with
 | true =>
  rw [List.drop_eq_getElem_cons h] at hes
  by_cases CX:l[i]=92
  ·exact CX
  ·rw [Es.vw CX] at hes;cases hes
 | false=>rw [Es.jI hes] at ho;cases ho
theorem qT {l:List UInt8}{i:Nat}(h:i<l.length) (ho:(Es.next l i).2.2=false) :
  (l[i].toNat<128∧(Es.next l i).1=l[i].toNat∧(Es.next l i).2.1=i+1)∨(128≤l[i].toNat∧128≤(Es.next l i).1):=by
 rw [Es.iR h] at ho ⊢;simp only at ho ⊢;cases hes:Es.dF (l.drop i) with
 | true=>rw [Es.ki hes] at ho;cases ho
 | false =>
  rw [Es.jI hes];obtain ⟨x,k,_,_,_,_,DN,hc⟩:=dN h;rw [DN];rcases hc with ⟨h1,h2,h3⟩ | ⟨h1,h2,_⟩
  ·exact .inl ⟨h1,h2,by simp only [h3]⟩
  ·exact .inr ⟨h1,h2⟩
theorem je {l:List UInt8}{i:Nat}{c:UInt8}(h:i<l.length) (ho:(Es.next l i).2.2=false) (hc:c.toNat<128):(Es.next l i).1=c.toNat↔l[i]=c:=by
 rcases qT h ho with ⟨h1,h2,_⟩ | ⟨h1,h2⟩
 ·rw [h2];exact ⟨fun e=>UInt8.toNat_inj.1 e,fun e=>by rw [e]⟩
 ·exact ⟨fun e=>by omega,fun e=>by rw [e] at h1;omega⟩
theorem lO {l:List UInt8}{i:Nat}(h:i<l.length) (eB:l[i]≠60):Lk.auto l (i:Int)=none:=by
 cases ha:Lk.auto l (i:Int) with
 | none=>rfl
 | some x =>
  obtain ⟨t,e⟩:=x;have:=(Lk.nQ ha).2.2;rw [getD_at h] at this;exact absurd this eB
theorem oX {l:List UInt8}{i:Nat}(h:i<l.length) :
  ((Es.next l i).2.2=true→Lk.hop l i=(Es.next l i).2.1∧Lk.sign l i=0) ∧
  ((Es.next l i).2.2=false →
   ((Es.next l i).1=96→Lk.hop l i=X3 l i∧Lk.sign l i=0) ∧
   ((Es.next l i).1=60→Lk.hop l i=Mf l i∧Lk.sign l i≠91∧Lk.sign l i≠93) ∧
   ((Es.next l i).1≠96→(Es.next l i).1≠60→Lk.hop l i=(Es.next l i).2.1∧Lk.sign l i=(Es.next l i).1)):=by
 have hg:=getD_at h;refine ⟨fun ho=>?_,fun ho=>⟨fun jW=>?_,fun eB=>?_,fun jW eB=>?_⟩⟩
 ·have CX:=DY h ho
  have:=Lk.nG (l:=l) (i:=i) (by rw [hg,CX];decide) (lO h (by rw [CX];decide));rw [ho,if_pos rfl] at this;exact this
 ·have hl:l[i]=96:=(je (c:=96) h ho (by decide)).1 jW
  unfold Lk.hop Lk.sign X3;rw [if_pos (by rw [hg,hl]),if_pos (by rw [hg,hl])];exact ⟨rfl,rfl⟩
 ·have hl:l[i]=60:=(je (c:=60) h ho (by decide)).1 eB
  have hne:l.getD i 0≠96:=by rw [hg,hl];decide
  cases ha:Lk.auto l (i:Int) with
  | some x =>
   obtain ⟨t,e⟩:=x;obtain ⟨j1,j2⟩:=Lk.uM hne ha;exact ⟨j1.trans (Jn ha).symm,by rw [j2];decide,by rw [j2];decide⟩
  | none =>
   obtain ⟨j1,j2⟩:=Lk.nG hne ha;rw [ho,if_neg (by decide),eB] at j2;refine ⟨?_,by rw [j2];decide,by rw [j2];decide⟩;rw [j1,I4 ha];rcases qT h ho with ⟨_,_,h3⟩ | ⟨h1,_⟩
   ·exact h3
   ·rw [hl] at h1;exact absurd h1 (by decide)
 ·have ZI:l[i]≠96:=fun e=>jW ((je (c:=96) h ho (by decide)).2 e)
  have Z5:l[i]≠60:=fun e=>eB ((je (c:=60) h ho (by decide)).2 e);have:=Lk.nG (l:=l) (i:=i) (by rw [hg];exact ZI) (lO h Z5);rw [ho,if_neg (by decide)] at this;exact this
theorem uY {l:List UInt8}{i:Nat}(h:i<l.length) (ho:(Es.next l i).2.2=true):dB ((Es.next l i).1:Int)=false:=by
 rw [Es.iR h] at ho ⊢;simp only at ho ⊢;cases hes:Es.dF (l.drop i) with
 | false=>rw [Es.jI hes] at ho;cases ho
 | true =>
  rw [Es.ki hes];have ha:=(Es.Io _).1 (Es.zQ hes);rw [← Bool.not_eq_true];intro hb;have:=(Ru.FI _).1 hb;omega
theorem Nj (l:List UInt8) (k:Nat) (hk:k<l.length) (hs:l.length≤1000000000) (LO:l[k]=40) (w:World) :
  Calls Tryz.prog 223 #[.string (bs l),.int .i64 (k:Int)] w fun e w'=>e=.returned (fH (Lk.dest l (k:Int)))∧Below w.heap.size w w':=by
 have hsz:=au l;have qst:=fun w=>kV l (k:Int) 40 40 rfl hs w;rw [show stand l (k:Int) 40=true from by rw [mF (by omega) (by simpa using hk)];simpa using LO] at qst;have hcl:=Lk.SL hk (by rw [getD_at hk];exact LO);obtain ⟨R,hR⟩:∃ R,R=Lk.dest l (k:Int):=⟨_,rfl⟩
 rw [← hR] at hcl ⊢;clear hR LO;replace hcl:=Lib.hid hcl;go_enter Tryz.func223,Tryz.ntmps223;go_wp2_with fail;refine (qst _).mono ?_;rintro e w0 ⟨rfl,rfl⟩;go_wp2_with fail
 go_loopw [8] (fun u wr=>∃ i:Nat,k+1≤i∧i≤l.length∧u=.int .i64 i∧Hid (Lk.j6 l (k+1)=Lk.j6 l i)∧Below w.heap.size w wr) (fun u _=>l.length-(intOf u).toNat)
 case atStart=>exact ⟨k+1,by omega,by omega,by go_num,Lib.hid rfl,Below.refl _ _⟩
 case round =>
  obtain ⟨i,hi1,hi2,rfl,he,hb⟩:=hrel
  by_cases hil:i<l.length
  ·have hst:=Lk.G7 hil
   have hmo:=Es.eP hil;rw [← he.out] at hst;have q2:=fun w=>oe l (i:Int) hs w trivial;rw [Int.toNat_natCast] at q2;unfold mj at q2;have Km:=uY hil;have ju:=fun h=>je (c:=41) hil h (by decide);have zz:=qT hil;obtain ⟨⟨r,nx,its⟩,hN⟩:∃ x,x=Es.next l i:=⟨_,rfl⟩
   rw [← hN] at q2 hst hmo Km ju zz;simp only at q2 hst hmo Km ju zz;clear hN;cases its with
   | true =>
    have Tt:Hid (Lk.j6 l (k+1)=Lk.j6 l nx):=Lib.hid (by rw [hst,if_neg (by simp),if_neg (by simp)]);have qb:=fun w=>eO (r:Int) w;rw [Km rfl] at qb;clear he hst Km ju zz;go_wp2_with fail;refine (q2 _).mono ?_;rintro e w2 ⟨rfl,hb2⟩;replace hb2:=ag hb hb2;go_wp2_with fail;refine (qb _).mono ?_;rintro e w3 ⟨rfl,rfl⟩;go_wp2_with fail
    go_roundw
    case rel=>exact ⟨nx,by omega,by omega,rfl,Tt,hb2⟩
    case measure=>simp [intOf];omega
   | false =>
    by_cases TL:r=41
    ·have jr:(nx:Int)=(i:Int)+1:=by
      have hl:l[i]=41:=(ju rfl).1 (by rw [TL];rfl);rcases zz rfl with ⟨_,_,h3⟩ | ⟨h1,_⟩
      ·omega
      ·rw [hl] at h1;exact absurd h1 (by decide)
     have hres:R=some (Ru.enc (Es.plain (mid l (k+1) i)),i+1):=by rw [hcl.out,hst,if_pos ⟨rfl,TL⟩];rfl
     have t1:(((r:Nat):Int)==41)=true:=by simp [TL]
     have hcut:=fun w=>kY (S:=l) (i:=k+1) (j:=i) (v:=(k:Int)+1) (u:=(i:Int)) (by omega) (by omega) (by omega) rfl w;have q3:=fun w=>GH (mid l (k+1) i) w (by rw [eZ (by omega)];omega) trivial;clear he hst TL hcl Km ju zz;obtain ⟨T,hT⟩:∃ T,T=Ru.enc (Es.plain (mid l (k+1) i)):=⟨_,rfl⟩
     rw [← hT] at q3 hres;clear hT;have hsp:fH (some (T,i+1))=.tuple #[.string (bs T),.int .i64 (nx:Int),.bool true]:=by
      show Value.tuple #[.string (bs T),.int .i64 ((i+1:Nat):Int),.bool true]=_;rw [jr];rfl
     subst hres;replace jr:=Lib.hid jr;replace hsp:=Lib.hid hsp;go_wp2_with fail;refine (q2 _).mono ?_;rintro e w2 ⟨rfl,hb2⟩;replace hb2:=ag hb hb2;have abv:=hcut w2;go_wp2_with fail;refine (q3 _).mono ?_;rintro e w3 ⟨rfl,hb3⟩;replace hb3:=ag hb2 hb3;go_wp2;go_ret3;exact ⟨congrArg Ending.returned hsp.out.symm,hb3⟩
    ·have t1:(((r:Nat):Int)==41)=false:=by rw [beq_eq_false_iff_ne];omega
     rw [if_neg (fun h=>TL h.2)] at hst;clear Km ju zz
     by_cases LO:r=40
     ·have hres:R=none:=by rw [hcl.out,hst,if_pos ⟨rfl,.inl LO⟩];rfl
      have t2:(((r:Nat):Int)==40)=true:=by simp [LO]
      subst hres;clear he hst TL hcl LO;go_wp2_with fail;refine (q2 _).mono ?_;rintro e w2 ⟨rfl,hb2⟩;replace hb2:=ag hb hb2;go_wp2;go_ret3;exact ⟨rfl,hb2⟩
     ·have t2:(((r:Nat):Int)==40)=false:=by rw [beq_eq_false_iff_ne];omega
      have qb:=fun w=>eO (r:Int) w;cases hbl:dB (r:Int) with
      | true =>
       have hres:R=none:=by rw [hcl.out,hst,if_pos ⟨rfl,.inr hbl⟩];rfl
       rw [hbl] at qb;subst hres;clear he hst TL hcl LO hbl;go_wp2_with fail;refine (q2 _).mono ?_;rintro e w2 ⟨rfl,hb2⟩;replace hb2:=ag hb hb2;go_wp2_with fail;refine (qb _).mono ?_;rintro e w3 ⟨rfl,rfl⟩;go_wp2;go_ret3;exact ⟨rfl,hb2⟩
      | false =>
       have Tt:Hid (Lk.j6 l (k+1)=Lk.j6 l nx):=Lib.hid (by rw [hst,if_neg (by rw [hbl];simp [LO])]);rw [hbl] at qb;clear he hst TL LO hbl;go_wp2_with fail;refine (q2 _).mono ?_;rintro e w2 ⟨rfl,hb2⟩;replace hb2:=ag hb hb2;go_wp2_with fail;refine (qb _).mono ?_;rintro e w3 ⟨rfl,rfl⟩;go_wp2_with fail
       go_roundw
       case rel=>exact ⟨nx,by omega,by omega,rfl,Tt,hb2⟩
       case measure=>simp [intOf];omega
  ·have hres:R=none:=by rw [hcl.out,he.out,Lk.KB (by omega)];rfl
   subst hres;clear hcl he;go_wp2;go_ret3;exact ⟨rfl,hb⟩
theorem zF (l:List UInt8) (at_:Int) (hs:l.length≤1000000000) (w:World) :
  Calls Tryz.prog 223 #[.string (bs l),.int .i64 at_] w fun e w'=>e=.returned (fH (Lk.dest l at_))∧Below w.heap.size w w':=by
 cases h:stand l at_ 40 with
 | true =>
  obtain ⟨k,rfl,hk,LO⟩:=zR h;exact Nj l k hk hs LO w
 | false =>
  have hno:Lk.dest l at_=none:=by
   apply RL
   by_cases h1:at_<0
   ·exact .inl h1
   ·by_cases h2:(l.length:Int)≤at_
    ·exact .inr (.inl ⟨by omega,h2⟩)
    ·refine .inr (.inr ⟨by omega,by omega,?_⟩)
     rw [mF (by omega) (by omega)] at h;simpa using h
  have qst:=fun w=>kV l at_ 40 40 rfl hs w;rw [h] at qst;rw [hno];clear h hno;go_enter Tryz.func223,Tryz.ntmps223;go_wp2_with fail;refine (qst _).mono ?_;rintro e w0 ⟨rfl,rfl⟩;go_wp2;go_ret3;exact ⟨rfl,Below.refl _ _⟩
def Bl (s:List UInt8) (i:Nat):Nat :=
 match Cd.span s (i:Int) with
 | some x=>x.2
 | none=>match Lk.auto s (i:Int) with
  | some x=>x.2
  | none=>i+max (Fn.run 96 (s.drop i)) 1
theorem Ee (g o:Nat) (s:List UInt8) (i:Nat) (hi:i<s.length) (hs:s.length≤4000000) (w:World) (h0:w.cell? ⟨g,o,none⟩=some (.string (bs s))) (hg:g<w.heap.size) :
  Calls Tryz.prog 245 #[.pointer (some ⟨g,o,none⟩),.int .i64 (i:Int)] w fun e w'=>e=.returned (.int .i64 (Bl s i:Int))∧Below w.heap.size w w':=by
 have hsp:=Lib.hid (rL s (i:Int) (by omega) w);have xE:=Lib.hid (fun w=>su s (i:Int) (by omega) w);have hrl:=Fn.gq 96 (s.drop i);rw [List.length_drop] at hrl;have hrun:=Lib.hid (fun w=>qy s (i:Int) 96 w (by omega));rw [jH] at hrun;unfold Bl;cases h1:Cd.span s (i:Int) with
 | some x =>
  obtain ⟨t,n⟩:=x;rw [h1] at hsp;unfold fH at hsp;clear h1 xE hrun;simp only;go_enter Tryz.func245,Tryz.ntmps245;go_wp2_with fail;refine hsp.out.mono ?_;rintro e w1 ⟨rfl,hb1⟩;replace hb1:=Lib.hid hb1;clear hsp h0;go_wp2;go_ret;exact ⟨rfl,hb1.out⟩
 | none =>
  rw [h1] at hsp;unfold fH at hsp;clear h1;cases h2:Lk.auto s (i:Int) with
  | some x =>
   obtain ⟨t,n⟩:=x;rw [h2] at xE;unfold fH at xE;clear h2 hrun;simp only;go_enter Tryz.func245,Tryz.ntmps245;go_wp2_with fail;refine hsp.out.mono ?_;rintro e w1 ⟨rfl,hb1⟩;have k0:=(hb1.cell (p:=⟨g,o,none⟩) hg).trans h0;replace hb1:=Lib.hid hb1;clear hsp h0;go_wp2_with fail;refine (xE.out _).mono ?_;rintro e w2 ⟨rfl,hb2⟩;have hb:=Lib.hid (ag hb1.out hb2);clear xE hb2 k0;go_wp2;go_ret;exact ⟨rfl,hb.out⟩
  | none =>
   rw [h2] at xE;unfold fH at xE;clear h2;simp only;obtain ⟨n,hn⟩:∃ n,n=Fn.run 96 (s.drop i):=⟨_,rfl⟩
   rw [← hn] at hrun hrl ⊢;clear hn;go_enter Tryz.func245,Tryz.ntmps245;go_wp2_with fail;refine hsp.out.mono ?_;rintro e w1 ⟨rfl,hb1⟩;have k0:=(hb1.cell (p:=⟨g,o,none⟩) hg).trans h0;have hz1:=hb1.size;replace hb1:=Lib.hid hb1;clear hsp h0;go_wp2_with fail;refine (xE.out _).mono ?_;rintro e w2 ⟨rfl,hb2⟩;have k1:=(hb2.cell (p:=⟨g,o,none⟩) (Nat.lt_of_lt_of_le hg hz1)).trans k0;have hb:=Lib.hid (ag hb1.out hb2);clear xE hb2 k0;go_wp2_with fail;refine (hrun.out _).mono ?_;rintro e w3 ⟨rfl,rfl⟩;clear hrun
   by_cases uf:n=0
   ·subst uf
    go_wp2;go_ret;exact ⟨by simp;omega,hb.out⟩
   ·have hn2:1≤n:=by omega
    go_wp2;go_ret;exact ⟨by rw [show max n 1=n by omega];simp;omega,hb.out⟩
end Go.Proofs.YtddkjkockbcamaaGreatDoor
namespace Go.Proofs.YtddkjkockbcamaaGreatDoor
theorem Ll {s:List UInt8}{i:Nat}(hi:i<s.length) (hb:s[i]=96):Bl s i=Lk.hop s i∧Lk.sign s i=0:=by
 have hg:s.getD i 0=96:=by rw [Em.getD_at hi];exact hb
 unfold Bl;cases hs:Cd.span s (i:Int) with
 | some x =>
  obtain ⟨t,e⟩:=x;have:=Lk.CL hg hs;exact ⟨this.1.symm,this.2⟩
 | none =>
  have ha:Lk.auto s (i:Int)=none:=lO hi (by rw [hb];decide);have h1:=Lk.Ip hg hs;have h2:1≤Fn.run 96 (s.drop i):=by rw [Fn.jm hi hb];omega
  rw [ha,h1.1];exact ⟨by simp only;omega,h1.2⟩
theorem Lg {s:List UInt8}{i:Nat}(hi:i<s.length) (hb:s[i]=60) {t:List UInt8}{e:Nat}(ha:Lk.auto s (i:Int)=some (t,e)):Bl s i=Lk.hop s i∧Lk.sign s i=0:=by
 have hg:s.getD i 0≠96:=by rw [Em.getD_at hi,hb];decide
 have hs:Cd.span s (i:Int)=none:=Cd.jg (kH (.inr (.inr (.inl ⟨by rw [Int.toNat_natCast];exact hi,by simp only [Int.toNat_natCast];rw [hb];decide⟩))));have h1:=Lk.uM hg ha;unfold Bl;rw [hs,ha];exact ⟨h1.1.symm,h1.2⟩
theorem FY {s:List UInt8}{i:Nat}(hi:i<s.length) {b:UInt8}(hb:s[i]=b) (hl:b.toNat<128) (CX:b≠92):Es.next s i=(b.toNat,i+1,false):=by
 rw [Es.iR hi,List.drop_eq_getElem_cons hi,hb];have he:Es.dF (b::s.drop (i+1))=false:=by
  cases s.drop (i+1) with
  | nil=>rfl
  | cons c r=>show (b==92&&Es.LL c)=false;rw [show (b==92)=false from by simpa using CX];rfl
 rw [Es.jI he,Es.jF hl]
theorem Lc {s:List UInt8}{i:Nat}(hi:i<s.length) (hb:s[i]=60) (ha:Lk.auto s (i:Int)=none):Bl s i=Lk.hop s i∧Lk.sign s i=60:=by
 have hg:s.getD i 0≠96:=by rw [Em.getD_at hi,hb];decide
 have hs:Cd.span s (i:Int)=none:=Cd.jg (kH (.inr (.inr (.inl ⟨by rw [Int.toNat_natCast];exact hi,by simp only [Int.toNat_natCast];rw [hb];decide⟩))));have h1:=Lk.nG hg ha;have h2:Fn.run 96 (s.drop i)=0:=Fn.oU hi (by rw [hb];decide);have h3:=FY hi hb (by decide) (by decide);rw [h3] at h1;unfold Bl;rw [hs,ha,h2];exact ⟨by rw [h1.1];simp only;omega,by rw [h1.2];simp⟩
end Go.Proofs.YtddkjkockbcamaaGreatDoor
