/- EsProg LkFold RnEnds RnFns RnText -/
import Derived.Test.YtddkjkockbcamaaGreatDoorHw17
import Derived.Test.YtddkjkockbcamaaGreatDoorHw22
import Derived.Test.YtddkjkockbcamaaGreatDoorHw13
import Derived.Laws.Cover4
import Derived.Laws.OwnMore
set_option maxHeartbeats 16000000
set_option maxRecDepth 100000
namespace Go.Proofs.YtddkjkockbcamaaGreatDoor
open Go.RowKit
abbrev EsT (_:World):Prop:=True
theorem EY (r:Int) (w:World) :
  Calls Tryz.prog 242 #[.int .i32 r] w fun e w'=>e=.returned (.bool (gI r))∧w=w':=by
 have hp:r<128→gP r=gI r:=by
  intro h;rw [Bool.eq_iff_iff];simp only [gP,gI,decide_eq_true_iff];omega
 have ha:¬ r<128→gI r=false:=by
  intro h;rw [← Bool.not_eq_true];simp only [gI,decide_eq_true_iff];omega
 by_cases h:r<128
 ·have hpp:=hp h
  clear hp ha;obtain ⟨v,hv⟩:∃ v,v=gI r:=⟨_,rfl⟩
  rw [← hv] at hpp ⊢;clear hv;go_enter Tryz.func242,Tryz.ntmps242;go_wp2_with (go_at_call 241;refine (lY _ _).mono ?_;rintro e w1 ⟨rfl,rfl⟩;rw [hpp]);go_ret;exact ⟨rfl,rfl⟩
 ·rw [ha h]
  clear hp ha;go_enter Tryz.func242,Tryz.ntmps242;go_wp2;go_ret;exact ⟨rfl,rfl⟩
theorem Kt (x:Nat) (w:World) :
  Calls Tryz.prog 100 #[.int .i32 (x:Int)] w fun e w'=>e=.returned (.string (bs (uj x)))∧w=w':=by
 have zN:(x=38∧uj x=[38,97,109,112,59])∨(x=60∧uj x=[38,108,116,59])∨(x=62∧uj x=[38,103,116,59])∨(x=34∧uj x=[38,113,117,111,116,59]) ∨
   (((x:Int)==38)=false∧((x:Int)==60)=false∧((x:Int)==62)=false∧((x:Int)==34)=false∧uj x=[]):=by
  unfold uj
  by_cases Xi:x=38
  ·exact .inl ⟨Xi,if_pos Xi⟩
  by_cases fR:x=60
  ·exact .inr (.inl ⟨fR,by rw [if_neg Xi,if_pos fR]⟩)
  by_cases mm:x=62
  ·exact .inr (.inr (.inl ⟨mm,by rw [if_neg Xi,if_neg fR,if_pos mm]⟩))
  by_cases h34:x=34
  ·exact .inr (.inr (.inr (.inl ⟨h34,by rw [if_neg Xi,if_neg fR,if_neg mm,if_pos h34]⟩)))
  exact .inr (.inr (.inr (.inr ⟨by rw [beq_eq_false_iff_ne];omega,by rw [beq_eq_false_iff_ne];omega,by rw [beq_eq_false_iff_ne];omega,by rw [beq_eq_false_iff_ne];omega,by rw [if_neg Xi,if_neg fR,if_neg mm,if_neg h34]⟩)))
 rcases zN with ⟨rfl,hs⟩ | ⟨rfl,hs⟩ | ⟨rfl,hs⟩ | ⟨rfl,hs⟩ | ⟨f1,f2,f3,f4,hs⟩
 all_goals
  rw [hs];clear hs;go_enter Tryz.func100,Tryz.ntmps100;go_wp2;go_ret;exact ⟨rfl,rfl⟩
theorem iP (a b:List UInt8):ai (a++b)=ai a++ai b:=by simp [ai]
theorem fW (l:List UInt8):(ai l).length=l.length:=by simp [ai]
theorem qi (w:World):k9 w.heap.size w.heap.size (ai []) (w.alloc (.cells #[.pointer none,.slice none 0 0] 54)) :=
 Lib.IsBuilderF.of (Lib.fresh_isBuilder 54 5 w)
theorem ny (B b:Nat) (l:List UInt8) (w:World) (h:k9 B b (ai l) w) (hBw:B≤w.heap.size) :
  Calls Tryz.prog 27 #[.pointer (some ⟨b,0,none⟩)] w fun e w'=>e=.returned (.string (bs l))∧Below B w w' :=
 (Tryz.Builder_String_any_k B b l w h hBw).mono fun _ _ ⟨he,_,hb,_⟩=>⟨he,hb⟩
theorem AU (w:World) (o:Obj) (l:List UInt8):((w.alloc o).alloc (.stringIter (bs l) 0)).heap[w.heap.size+1]? = some (.stringIter (bs l) 0):=by
 have:=heap_alloc_new (w.alloc o) (.stringIter (bs l) 0);simpa using this
theorem yX (w:World) (o p:Obj):Below w.heap.size w ((w.alloc o).alloc p):=((Below.refl _ w).alloc (Nat.le_refl _) _).alloc (by simp) _
theorem ZI {B b:Nat}{xs:List Value}{w:World}(h:k9 B b xs w):b<w.heap.size:=h.elim (fun x=>x.lt) (fun x=>x.lt)
theorem yg {B b:Nat}{p:Value}{xs:List Value}{w w':World}(h:Lib.BuilderAtF 54 5 B b p xs w) (hb:Below w.heap.size w w'):Lib.BuilderAtF 54 5 B b p xs w':=by
 have hlt:=h.lt;obtain ⟨hB,v,hv,hown,hne⟩:=h;exact ⟨hB,v,(hb.block b hlt).trans hv,hown.kept (row:=none) ⟨hb.os,hb.tape,hb.output,hb.size,fun k hk _=>hb.block k hk⟩ (Classical.em _),hne⟩
theorem Bx {B b:Nat}{xs:List Value}{w w':World}(h:k9 B b xs w) (hb:Below w.heap.size w w'):k9 B b xs w' :=
 h.elim (fun x=>.inl (yg x hb)) (fun x=>.inr (yg x hb))
theorem zh {B b:Nat}{X Y:List UInt8}{w:World}(h:k9 B b (ai X++ai Y) w):k9 B b (ai (X++Y)) w:=by
 rw [iP];exact h
theorem ya (l:List UInt8) (w:World) (hs:l.length≤1000000000) :
  Calls Tryz.prog 99 #[.string (bs l),.func (.func 100) #[] #[]] w fun e w'=>e=.returned (.string (bs (l.flatMap Es.kH)))∧Below w.heap.size w w':=by
 have hS:=Lib.hid Yy;have hsz:=au l;go_enter Tryz.func99,Tryz.ntmps99;go_wp2
 go_loopw [6] (fun fv wr=>∃ (pos a:Nat) (X:List UInt8),a≤pos∧pos≤l.length∧fv=.int .i64 (a:Int)∧k9 w.heap.size w.heap.size (ai X) wr∧Hid (uK Es.kH l X a pos)∧Hid (wr.heap[w.heap.size+1]? = some (.stringIter (bs l) pos))∧Below w.heap.size w wr)
  (fun _ wr=>l.length-wr.iterPos (w.heap.size+1))
 case atStart=>exact ⟨0,0,[],Nat.le_refl _,Nat.zero_le _,rfl,(qi w).alloc _,Lib.hid (Ie _ _),Lib.hid (AU _ _ _),yX _ _ _⟩
 case round =>
  obtain ⟨pos,a,X,hap,hpl,rfl,hI,hst,hit,hb⟩:=hrel;have hlt:w.heap.size+1<wr.heap.size:=(Array.getElem?_eq_some_iff.1 hit.out).1;have hlen:=Pq hS.out hst.out
  by_cases hp:pos<l.length
  ·obtain ⟨x,k,hk,hkl,hd,FY,_,jY⟩:=eo hp
   have j7:=bQ hit.out hp hd;replace hd:=Lib.hid hd;have gZ:=Lib.hid (Lib.iterAt_heap wr (w.heap.size+1) (bs l) pos (pos+k) hit.out);have hb2:=Lib.below_iterAt hb (k:=w.heap.size+1) (by omega) (bs l) (pos+k);have nU:k9 _ _ _ _:=hI.iterAt hit.out (pos+k);have hpos:Hid (wr.iterPos (w.heap.size+1)=pos):=Lib.hid (by simp only [World.iterPos,hit.out]);have hz2:w.heap.size≤(wr.iterAt (w.heap.size+1) (bs l) (pos+k)).heap.size:=by rw [Lib.iterAt_size];omega
   have aH:=fun w=>Kt x w;cases hg:uj x with
   | nil =>
    have oA:Hid (uK Es.kH l X a (pos+k)):=Lib.hid (JD hst.out hap hkl fun j hj h1 h2=>by
     rcases jY with ⟨hlo,rfl,rfl⟩ | ⟨hhi,hx,hall⟩
     ·have:j=pos:=by omega
      subst this;exact hS.out.low _ hg
     ·exact hS.out.high _ (hall j hj h1 h2))
    rw [hg] at aH;clear jY hg hS;have htn:=oz;go_wp2_with fail;refine (aH _).mono ?_;rintro e w1 ⟨rfl,rfl⟩;clear aH;have eC:Hid ((wr.iterAt (w.heap.size+1) (bs l) (pos+k)).iterPos (w.heap.size+1)=pos+k):=Lib.hid (by simp only [World.iterPos,gZ.out]);go_wp2
    go_roundw
    case rel=>exact ⟨pos+k,a,X,by omega,hkl,rfl,nU,oA,gZ,hb2⟩
    case measure=>rw [hpos.out,eC.out];omega
   | cons c r =>
    have hx1:l[pos].toNat<128∧x=l[pos].toNat∧k=1:=by
     rcases jY with h | ⟨hhi,hx,hall⟩
     ·exact h
     ·rw [hS.out.still x hx] at hg;cases hg
    have hq:Es.kH l[pos]=c::r:=by
     have h1:=hS.out.said l[pos] (by rw [← hx1.2.1,hg];simp);rw [h1,← hx1.2.1,hg]
    have Ai:=hS.out.few x;rw [hg] at aH Ai;obtain ⟨_,hx2,rfl⟩:=hx1;clear hx2;have oA:=Lib.hid (MJ hst.out hp hq);clear jY hg hS hq;have htn:=gf c r;have hmid:=wT (S:=l) (i:=a) (j:=pos) hap (by omega);have hl1:=fW X;obtain ⟨M,hM⟩:∃ M,M=mid l a pos:=⟨_,rfl⟩
    rw [← hM] at hmid hlen oA;clear hM;obtain ⟨G,hG⟩:∃ G,G=c::r:=⟨_,rfl⟩
    rw [← hG] at aH oA htn Ai;clear hG;go_wp2_with fail;refine (aH _).mono ?_;rintro e w1 ⟨rfl,rfl⟩;clear aH;go_wp2_with fail;refine (cI w.heap.size w.heap.size _ M _ nU (by omega) hz2).mono ?_;rintro e w2 ⟨⟨v,rfl⟩,h2,b2,k2⟩;have h2':=zh h2;have wD:=Lib.hid (k2.iter gZ.out (by omega));have YO:w.heap.size≤w2.heap.size:=by have:=b2.size;omega
    have hl2:=fW (X++M);rw [List.length_append] at hl2;clear h2 k2;go_wp2_with fail;refine (cI w.heap.size w.heap.size _ G _ h2' (by omega) YO).mono ?_;rintro e w3 ⟨⟨v,rfl⟩,h3,b3,k3⟩;have Sp:=zh h3;have rV:=Lib.hid (k3.iter wD.out (by omega));have eC:Hid (w3.iterPos (w.heap.size+1)=pos+1):=Lib.hid (by simp only [World.iterPos,rV.out]);clear h3 k3;go_wp2
    go_roundw
    case rel=>exact ⟨pos+1,pos+1,_,Nat.le_refl _,hkl,by go_num,Sp,oA,rV,(hb2.trans b2).trans b3⟩
    case measure=>rw [hpos.out,eC.out];omega
  ·have Ym:pos=l.length:=by omega
   have j7:=cq hit.out hp;subst Ym;have aP:=Lib.hid (QN hst.out);have hfr:=cB (S:=l) (i:=a) hap;have hl1:=fW X;have hz:w.heap.size≤wr.heap.size:=by omega
   have hdl:=List.length_drop (i:=a) (l:=l);clear hst hS;obtain ⟨Y,hY⟩:∃ Y,Y=l.drop a:=⟨_,rfl⟩
   rw [← hY] at hfr aP hdl;clear hY;go_wp2_with fail;refine (cI w.heap.size w.heap.size _ Y _ hI (by omega) hz).mono ?_;rintro e w2 ⟨⟨v,rfl⟩,h2,b2,k2⟩;have h2':=zh h2;rw [aP.out] at h2';have YO:w.heap.size≤w2.heap.size:=by have:=b2.size;omega
   clear h2 k2;go_wp2_with fail;refine (ny w.heap.size w.heap.size _ _ h2' YO).mono ?_;rintro e w3 ⟨rfl,b3⟩;go_wp2;go_ret;exact ⟨rfl,(hb.trans b2).trans b3⟩
theorem tU (l:List UInt8) (w:World) (hs:l.length≤1000000000) (_hT:EsT w) :
  Calls Tryz.prog 63 #[.string (bs l)] w fun e w'=>e=.returned (.string (bs (Es.page l)))∧Below w.heap.size w w':=by
 go_enter Tryz.func63,Tryz.ntmps63;go_wp2_with fail;refine (ya l _ hs).mono ?_;rintro e w1 ⟨rfl,hb⟩;go_wp2;go_ret;exact ⟨rfl,hb⟩
theorem uW {l:List UInt8}{k x n:Nat}(h:k<l.length) (hd:Lib.decodeL (l.drop k)=(x,n)) (hx:x≠92):Es.dR (l.drop k)=false:=by
 refine yI h (.inl fun e=>hx ?_);rw [List.drop_eq_getElem_cons h,Es.kI (by rw [e];decide)] at hd;injection hd with h1 _;rw [← h1,e];rfl
theorem xm {l:List UInt8}{k n:Nat}(h:k<l.length) (hd:Lib.decodeL (l.drop k)=(92,n)):l[k]=92∧n=1:=by
 obtain ⟨x,m,_,_,_,_,BF,hc⟩:=eo h;rw [hd] at BF;injection BF with e1 e2;subst e1 e2;rcases hc with ⟨_,e,e'⟩ | ⟨_,e,_⟩
 ·exact ⟨UInt8.toNat_inj.1 (by rw [← e];rfl),e'⟩
 ·omega
theorem Gc {l:List UInt8}{k y m:Nat}(h:k<l.length) (hd:Lib.decodeL (l.drop k)=(y,m)):(gI (y:Int)=true→Es.O8 l[k]=true∧y=l[k].toNat)∧(gI (y:Int)=false→Es.O8 l[k]=false):=by
 obtain ⟨x,n,_,_,_,_,BF,hc⟩:=eo h;rw [hd] at BF;injection BF with e1 e2;subst e1 e2;rcases hc with ⟨_,e,e'⟩ | ⟨h1,e,_⟩
 ·subst e
  exact ⟨fun h=>⟨h,rfl⟩,fun h=>h⟩
 ·refine ⟨fun h=>?_,fun _=>Es.Tx h1⟩
  unfold gI at h;rw [decide_eq_true_iff] at h;omega
theorem pM (l:List UInt8) (at_:Int) (hs:l.length≤1000000000) (w:World) (_hT:EsT w) :
  Calls Tryz.prog 225 #[.string (bs l),.int .i64 at_] w fun e w'=>e=.returned (nN l at_.toNat)∧Below w.heap.size w w':=by
 have hsz:=au l;obtain ⟨p,hk⟩:∃ p,p=at_.toNat:=⟨_,rfl⟩
 have hmx:max at_ 0=(p:Int):=by omega
 have ag9:(if at_<0 then 0 else at_)=(p:Int):=by omega
 rw [← hk];replace hk:=Lib.hid hk
 by_cases hin:p<l.length
 ·obtain ⟨x,n,hn,hnl,hd,FY,HA,_⟩:=eo hin
  have hfr:=cB (S:=l) (i:=p) (by omega);obtain ⟨V,hV⟩:∃ V,V=nN l p:=⟨_,rfl⟩
  rw [← hV];have hone:Hid (l.length≤p+n→V=.tuple #[.int .i32 (x:Int),.int .i64 (l.length:Int),.bool false]):=Lib.hid (by
   intro h;have hes:Es.dR (l.drop p)=false:=by
    by_cases EE:x=92
    ·subst EE
     obtain ⟨h1,h2⟩:=xm hin HA;exact yI hin (.inr (.inl (by omega)))
    ·exact uW hin HA EE
   rw [hV,G1 hin hes,HA,show ((p:Int)+((x,n):Nat×Nat).2)=(l.length:Int) from by simp only;omega])
  have aef:Hid (∀ (h:p+n<l.length) (y m:Nat),Lib.decodeL (l.drop (p+n))=(y,m) →
    (x≠92∨gI (y:Int)=false→V=.tuple #[.int .i32 (x:Int),.int .i64 ((p:Int)+n),.bool false]) ∧
    (x=92→gI (y:Int)=true→n=1∧V=.tuple #[.int .i32 (y:Int),.int .i64 ((p:Int)+2),.bool true])):=Lib.hid (by
   intro h y m hy;have YP:=Gc h hy;constructor
   ·intro h1
    have hes:Es.dR (l.drop p)=false:=by
     by_cases EE:x=92
     ·subst EE
      obtain ⟨h3,rfl⟩:=xm hin HA;exact yI hin (.inr (.inr ⟨h,YP.2 (h1.resolve_left (by simp))⟩))
     ·exact uW hin HA EE
    rw [hV,G1 hin hes,HA]
   ·intro EE ha
    subst EE;obtain ⟨h3,rfl⟩:=xm hin HA;obtain ⟨h4,h5⟩:=YP.1 ha;exact ⟨rfl,by rw [hV,Nj h h3 h4,h5]⟩)
  clear hV HA;obtain ⟨T,hT⟩:∃ T,T=l.drop p:=⟨_,rfl⟩
  have hTl:T.length=l.length-p:=by rw [hT,List.length_drop]
  have YR:Utf8.decode (bs T) 0=(x,n):=by
   rw [← dx.decodeL_drop' T 0,List.drop_zero,hT,dx.decodeL_drop' l p];exact hd
  have acR:Hid (∀ q,Utf8.decode (bs T) q=Lib.decodeL (l.drop (p+q))):=Lib.hid (by
   intro q;rw [← dx.decodeL_drop' T q,hT,List.drop_drop])
  rw [← hT] at hfr;clear hT hd;go_enter Tryz.func225,Tryz.ntmps225;go_wp2
  go_loopw [7] (fun f wr=>∃ (pos:Nat),Hid (wr.heap[w.heap.size]? = some (.stringIter (bs T) pos))∧Below w.heap.size w wr∧(pos=0∨pos=n∧f=.int .i32 (x:Int)))
   (fun _ wr=>T.length-wr.iterPos w.heap.size)
  case atStart=>exact ⟨0,Lib.hid (j9 _ _ _ rfl),aa _ _,.inl rfl⟩
  case round =>
   obtain ⟨pos,hit,hb,rfl | ⟨rfl,rfl⟩⟩:=hrel
   ·have j7:=bQ hit.out (show 0<T.length by omega) YR
    replace YR:=Lib.hid YR;have gZ:=Lib.hid (Lib.iterAt_heap wr w.heap.size (bs T) 0 n hit.out);have hb2:=Lib.below_iterAt hb (k:=w.heap.size) (Nat.le_refl _) (bs T) n;have hpos:=Lib.hid (show wr.iterPos w.heap.size=0 by simp only [World.iterPos,hit.out]);have eC:=Lib.hid (show (wr.iterAt w.heap.size (bs T) n).iterPos w.heap.size=n by simp only [World.iterPos,gZ.out]);go_wp2
    go_roundw
    case rel=>exact ⟨n,gZ,hb2,.inr ⟨rfl,rfl⟩⟩
    case measure=>rw [hpos.out,eC.out];omega
   ·by_cases hp:pos<T.length
    ·obtain ⟨y,m,hm,hml,BF,hvy,hdy,_⟩:=eo hp
     have hy:Lib.decodeL (l.drop (p+pos))=(y,m):=by rw [← acR.out,BF]
     have h2:=aef.out (by omega) y m hy;have j7:=bQ hit.out hp BF;replace BF:=Lib.hid BF;replace YR:=Lib.hid YR;replace hdy:=Lib.hid hdy;replace hy:=Lib.hid hy;have hb2:=Lib.below_iterAt hb (k:=w.heap.size) (Nat.le_refl _) (bs T) (pos+m);have F5:((pos:Int)==0)=false:=by rw [beq_eq_false_iff_ne];omega
     by_cases DC:x=92
     ·have EE:((x:Int)==92)=true:=by rw [DC];rfl
      cases ha:gI (y:Int) with
      | true =>
       obtain ⟨uR,hV⟩:=h2.2 DC ha;replace hV:=Lib.hid hV;have HI:(p:Int)+2=(p:Int)+pos+1:=by omega
       rw [HI] at hV;replace uR:=Lib.hid uR;replace DC:=Lib.hid DC;clear h2 HI;go_wp2_with (go_at_call 242;refine (EY _ _).mono ?_;rintro e w1 ⟨rfl,rfl⟩;rw [ha]);go_ret3;exact ⟨congrArg Ending.returned hV.out.symm,hb2⟩
      | false =>
       have hV:=Lib.hid (h2.1 (.inr ha));clear h2;replace DC:=Lib.hid DC;go_wp2_with (go_at_call 242;refine (EY _ _).mono ?_;rintro e w1 ⟨rfl,rfl⟩;rw [ha]);go_ret3;exact ⟨congrArg Ending.returned hV.out.symm,hb2⟩
     ·have EE:((x:Int)==92)=false:=by rw [beq_eq_false_iff_ne];omega
      have hV:=Lib.hid (h2.1 (.inl DC));clear h2;replace DC:=Lib.hid DC;go_wp2;go_ret3;exact ⟨congrArg Ending.returned hV.out.symm,hb2⟩
    ·have j7:=cq hit.out hp
     replace YR:=Lib.hid YR;have hV:=Lib.hid (hone.out (by omega));go_wp2;go_ret3;exact ⟨congrArg Ending.returned hV.out.symm,hb⟩
 ·rw [N4 (by omega)]
  go_enter Tryz.func225,Tryz.ntmps225;go_wp2;go_ret3;exact ⟨rfl,Below.refl _ _⟩
theorem gW {B b:Nat}{X:List Nat}{z:Nat}{wz:World}(h:k9 B b (ai (Ru.enc X)++Lib.runeCells (z:Int)) wz):k9 B b (ai (Ru.enc (X++[z]))) wz:=by
 rw [Ru.oG,iP,show ai (Lib.encodeRune (z:Int))=Lib.runeCells (z:Int) from Lib.byteCells_encodeRune _];exact h
theorem JX (l:List UInt8) (w:World) (hs:l.length≤1000000000) (_hT:EsT w) :
  Calls Tryz.prog 237 #[.string (bs l)] w fun e w'=>e=.returned (.string (bs (Ru.enc (Es.plain l))))∧Below w.heap.size w w':=by
 have hsz:=au l;go_enter Tryz.func237,Tryz.ntmps237;go_wp2
 go_loopw [4] (fun i wr=>∃ (k:Nat) (D:List Nat),k≤l.length∧D.length≤k∧i=.int .i64 k∧Hid (D++Es.plain (l.drop k)=Es.plain l)∧k9 w.heap.size w.heap.size (ai (Ru.enc D)) wr∧Below w.heap.size w wr)
  (fun i _=>l.length-(intOf i).toNat)
 case atStart=>exact ⟨0,[],Nat.zero_le _,Nat.zero_le _,rfl,Lib.hid rfl,qi w,aa _ _⟩
 case round =>
  obtain ⟨k,D,hk,hDk,rfl,hD,hI,hb⟩:=hrel
  by_cases hp:k<l.length
  ·obtain ⟨hm1,hm2⟩:=Es.fj hp
   have vf:Hid ((D++[(Es.next l k).1])++Es.plain (l.drop (Es.next l k).2.1)=Es.plain l):=Lib.hid (by rw [← hD.out,Es.TF hp,List.append_assoc];rfl);have hV:nN l k=.tuple #[.int .i32 ((Es.next l k).1:Int),.int .i64 ((Es.next l k).2.1:Int),.bool (Es.next l k).2.2]:=rfl;have FY:=Es.KQ l k;have aH:=fun w=>pM l (k:Int) (by omega) w trivial;rw [show ((k:Int)).toNat=k from by omega,hV] at aH;clear hV;obtain ⟨x,hx⟩:∃ x,x=(Es.next l k).1:=⟨_,rfl⟩
   obtain ⟨n,hn⟩:∃ n,n=(Es.next l k).2.1:=⟨_,rfl⟩
   obtain ⟨o,ho⟩:∃ o,o=(Es.next l k).2.2:=⟨_,rfl⟩
   rw [← hx,← hn,← ho] at aH;rw [← hx,← hn] at vf;rw [← hn] at hm1 hm2;rw [← hx] at FY;clear hx hn ho;have hx1:x≤1114111:=by unfold Ru.vr at FY;omega
   clear FY;have hl4:=(Ru.gJ D).2;have hl1:=fW (Ru.enc D);go_wp2_with fail;refine (aH _).mono ?_;rintro e w1 ⟨rfl,hb1⟩;clear aH;have J3:k9 w.heap.size w.heap.size (ai (Ru.enc D)) w1:=Bx hI hb1;have ow:=hb.trans (hb1.mono hb.size);have hz1:w.heap.size≤w1.heap.size:=ow.size;clear hI;go_wp2_with fail;refine (dF w.heap.size w.heap.size _ (x:Int) (by omega) (by omega) _ J3 (by omega) hz1).mono ?_;rintro e w2 ⟨⟨v,rfl⟩,h2,b2,k2⟩;have h2':=gW h2;clear h2 k2;go_wp2
   go_roundw
   case rel=>exact ⟨n,D++[x],hm2,by simp;omega,rfl,vf,h2',ow.trans b2⟩
   case measure=>simp [intOf];omega
  ·have Wz:D=Es.plain l:=by
    rw [← hD.out,List.drop_eq_nil_of_le (by omega),Es.Be,List.append_nil]
   subst Wz;clear hD;have hz:w.heap.size≤wr.heap.size:=hb.size;go_wp2_with fail;refine (ny w.heap.size w.heap.size _ _ hI hz).mono ?_;rintro e w3 ⟨rfl,b3⟩;go_wp2;go_ret;exact ⟨rfl,hb.trans b3⟩
theorem mW (x:Nat) (w:World) (h:x≤1114111) :
  Calls Tryz.prog 213 #[.int .i32 (x:Int)] w fun e w'=>e=.returned (.int .i32 (Ru.wj x:Int))∧w=w' :=
 (MQ x w (by omega) (by omega)).mono fun _ _ ⟨he,hw⟩=>⟨by rw [he,Ru.Mb],hw⟩
theorem xT (B b:Nat) (l:List UInt8) (n:Nat) (hn:n=l.length) (w:World) (h:k9 B b (ai l) w) :
  Calls Tryz.prog 58 #[.pointer (some ⟨b,0,none⟩)] w fun e w'=>e=.returned (.int .i64 n)∧w=w' :=
 (Tryz.Builder_Len_f B b _ w h).mono fun _ _ ⟨he,hw⟩=>⟨by rw [he,fW,hn],hw.symm⟩
theorem um {B b:Nat}{X:List Nat}{wz:World}(h:k9 B b (ai (Ru.enc X)++[.int .u8 32]) wz):k9 B b (ai (Ru.enc (X++[32]))) wz:=by
 rw [Ru.oG,iP];exact h
theorem CF {D:List Nat}{g:Bool}{O:List Nat}{x:Nat}(h:Ru.eO D=(g,O)) :
  (dP (x:Int)=true→Ru.eO (D++[x])=(true,O)) ∧
  (dP (x:Int)=false→g=true→O≠[]→Ru.eO (D++[x])=(false,(O++[32])++[Ru.wj x])) ∧
  (dP (x:Int)=false→(g=false∨O=[])→Ru.eO (D++[x])=(false,O++[Ru.wj x])):=by
 rw [Ru.nB,h];unfold Ru.Cb Ru.bl;refine ⟨fun hb=>by rw [hb];rfl,fun hb hg hO=>by rw [hb];simp [hg,hO],fun hb hg=>?_⟩;rw [hb];rcases hg with hg | hg<;>simp [hg]
theorem IG (l:List UInt8) (w:World) (hs:l.length≤1000000000) :
  Calls Tryz.prog 179 #[.string (bs l)] w fun e w'=>e=.returned (.string (bs (Ru.enc (Ru.fold (Ru.aS l)))))∧Below w.heap.size w w':=by
 go_enter Tryz.func179,Tryz.ntmps179;go_wp2
 go_loopw [4] (fun gv wr=>∃ (pos:Nat) (D:List Nat) (g:Bool) (O:List Nat),gv=.bool g∧k9 w.heap.size w.heap.size (ai (Ru.enc O)) wr∧Hid (Ru.eO D=(g,O))∧Hid (wr.heap[w.heap.size+1]? = some (.stringIter (bs l) pos))∧Hid (D++Ru.aS (l.drop pos)=Ru.aS l)∧Below w.heap.size w wr)
  (fun _ wr=>l.length-wr.iterPos (w.heap.size+1))
 case atStart=>exact ⟨0,[],false,[],rfl,(qi w).alloc _,Lib.hid rfl,Lib.hid (AU _ _ _),Lib.hid rfl,yX _ _ _⟩
 case round =>
  obtain ⟨pos,D,g,O,rfl,hI,hfo,hit,hD,hb⟩:=hrel;have hdl:=nK hD.out;have hlt:w.heap.size+1<wr.heap.size:=(Array.getElem?_eq_some_iff.1 hit.out).1;have hOl:O.length≤D.length:=by have:=(Ru.B1 D).2.2.1;rw [hfo.out] at this;exact this
  by_cases hp:pos<l.length
  ·obtain ⟨x,k,hk,hv,hd,vf⟩:=dx hp hD.out
   have j7:=bQ hit.out hp hd;replace vf:=Lib.hid vf;replace hd:=Lib.hid hd;have gZ:=Lib.hid (Lib.iterAt_heap wr (w.heap.size+1) (bs l) pos (pos+k) hit.out);have hb2:=Lib.below_iterAt hb (k:=w.heap.size+1) (by omega) (bs l) (pos+k);have nU:k9 _ _ _ _:=hI.iterAt hit.out (pos+k);have hpos:Hid (wr.iterPos (w.heap.size+1)=pos):=Lib.hid (by simp only [World.iterPos,hit.out]);have hz2:w.heap.size≤(wr.iterAt (w.heap.size+1) (bs l) (pos+k)).heap.size:=by rw [Lib.iterAt_size];omega
   have hl4:=(Ru.gJ O).2;have hl1:=(Ru.gJ O).1;have FY:x≤1114111:=by unfold Ru.vr at hv;omega
   have hsx:Ru.wj x≤1114200:=by unfold Ru.wj;split<;>omega
   have hst:=Lib.hid (CF (x:=x) hfo.out);obtain ⟨n,hn⟩:∃ n,n=(Ru.enc O).length:=⟨_,rfl⟩
   have hlen:(ai (Ru.enc O)).length+5≤140737488355328:=by rw [fW];omega
   have hO0:Hid (O=[]↔n=0):=Lib.hid (by rw [hn,← List.eq_nil_iff_length_eq_zero,Ru.xC]);have hnl:n≤4000000000:=by omega
   replace hn:=Lib.hid hn;clear hl4 hl1 hv
   by_cases hbl:dP (x:Int)=true
   ·have hf2:=Lib.hid (hst.out.1 hbl)
    go_wp2_with (go_at_call 212;refine (fA _ _).mono ?_;rintro e w' ⟨rfl,rfl⟩);have eC:Hid ((wr.iterAt (w.heap.size+1) (bs l) (pos+k)).iterPos (w.heap.size+1)=pos+k):=Lib.hid (by simp only [World.iterPos,gZ.out])
    go_roundw
    case rel=>exact ⟨pos+k,D++[x],true,O,rfl,nU,hf2,gZ,vf,hb2⟩
    case measure=>rw [hpos.out,eC.out];omega
   ·replace hbl:dP (x:Int)=false:=by simpa using hbl
    by_cases hgo:g=true∧O≠[]
    ·obtain ⟨rfl,hO⟩:=hgo
     have hf2:=Lib.hid (hst.out.2.1 hbl rfl hO);have hn0:0<n:=Nat.pos_of_ne_zero fun h=>hO (hO0.out.2 h);clear hO;go_wp2_with (first
      | (go_at_call 212;refine (fA _ _).mono ?_;rintro e w' ⟨rfl,rfl⟩)
      | (go_at_call 58;refine (xT w.heap.size w.heap.size _ n hn.out _ nU).mono ?_;rintro e w' ⟨rfl,rfl⟩)
      | (go_at_call 152;refine (qz w.heap.size w.heap.size _ 32 _ nU (by omega) hz2).mono ?_;rintro e w2 ⟨rfl,h1,b1,k1⟩))
     have wD:=Lib.hid (k1.iter gZ.out (by omega));have YO:w.heap.size≤w2.heap.size:=by have:=b1.size;omega
     have h1':=um h1;have R3:(ai (Ru.enc (O++[32]))).length+4≤140737488355328:=by
      rw [Ru.oG,iP,List.length_append];have:(ai (Lib.encodeRune ((32:Nat):Int))).length=1:=rfl;omega
     clear h1 k1;go_wp2_with (first
      | (go_at_call 213;refine (mW _ _ FY).mono ?_;rintro e w' ⟨rfl,rfl⟩)
      | (go_at_call 82;refine (dF w.heap.size w.heap.size _ _ (by omega) (by omega) _ h1' R3 YO).mono ?_;rintro e w3 ⟨⟨v,rfl⟩,h2,b2,k2⟩))
     have rV:=Lib.hid (k2.iter wD.out (by omega));have eC:Hid (w3.iterPos (w.heap.size+1)=pos+k):=Lib.hid (by simp only [World.iterPos,rV.out]);go_wp2
     go_roundw
     case rel=>exact ⟨pos+k,D++[x],false,_,rfl,gW h2,hf2,rV,vf,(hb2.trans b1).trans b2⟩
     case measure=>rw [hpos.out,eC.out];omega
    ·have XZ:g=false∨O=[]:=by
      cases g with
      | false=>exact .inl rfl
      | true=>exact .inr (by by_cases h:O=[];exact h;exact absurd ⟨rfl,h⟩ hgo)
     have hf2:=Lib.hid (hst.out.2.2 hbl XZ);have zN:g=false∨(g=true∧n=0):=by
      cases g with
      | false=>exact .inl rfl
      | true=>exact .inr ⟨rfl,hO0.out.1 (XZ.resolve_left (by simp))⟩
     clear hgo XZ;have aan:(ai (Ru.enc O)).length+4≤140737488355328:=by omega
     rcases zN with rfl | ⟨rfl,hn0⟩
     ·go_wp2_with (first
       | (go_at_call 212;refine (fA _ _).mono ?_;rintro e w' ⟨rfl,rfl⟩)
       | (go_at_call 213;refine (mW _ _ FY).mono ?_;rintro e w' ⟨rfl,rfl⟩)
       | (go_at_call 82;refine (dF w.heap.size w.heap.size _ _ (by omega) (by omega) _ nU aan hz2).mono ?_;rintro e w3 ⟨⟨v,rfl⟩,h2,b2,k2⟩))
      have rV:=Lib.hid (k2.iter gZ.out (by omega));have eC:Hid (w3.iterPos (w.heap.size+1)=pos+k):=Lib.hid (by simp only [World.iterPos,rV.out]);go_wp2
      go_roundw
      case rel=>exact ⟨pos+k,D++[x],false,_,rfl,gW h2,hf2,rV,vf,hb2.trans b2⟩
      case measure=>rw [hpos.out,eC.out];omega
     ·subst hn0
      go_wp2_with (first
       | (go_at_call 212;refine (fA _ _).mono ?_;rintro e w' ⟨rfl,rfl⟩)
       | (go_at_call 58;refine (xT w.heap.size w.heap.size _ 0 hn.out _ nU).mono ?_;rintro e w' ⟨rfl,rfl⟩)
       | (go_at_call 213;refine (mW _ _ FY).mono ?_;rintro e w' ⟨rfl,rfl⟩)
       | (go_at_call 82;refine (dF w.heap.size w.heap.size _ _ (by omega) (by omega) _ nU aan hz2).mono ?_;rintro e w3 ⟨⟨v,rfl⟩,h2,b2,k2⟩))
      have rV:=Lib.hid (k2.iter gZ.out (by omega));have eC:Hid (w3.iterPos (w.heap.size+1)=pos+k):=Lib.hid (by simp only [World.iterPos,rV.out]);go_wp2
      go_roundw
      case rel=>exact ⟨pos+k,D++[x],false,_,rfl,gW h2,hf2,rV,vf,hb2.trans b2⟩
      case measure=>rw [hpos.out,eC.out];omega
  ·have j7:=cq hit.out hp
   have Wz:=nJ hp hD.out;have hO:O=Ru.fold (Ru.aS l):=by unfold Ru.fold;rw [← Wz,hfo.out]
   subst hO;clear hD Wz hfo;have hz:w.heap.size≤wr.heap.size:=by omega
   go_wp2_with fail;refine (ny w.heap.size w.heap.size _ _ hI hz).mono ?_;rintro e w3 ⟨rfl,b3⟩;go_wp2;go_ret;exact ⟨rfl,hb.trans b3⟩
def bZ (x:Nat):Bool:=decide (97≤x∧x≤122)
theorem Me {x:Nat}(h:Ru.bl x=true):bZ (Ru.wj x)=false:=by
 rw [Ru.J2] at h;unfold bZ Ru.wj;refine decide_eq_false ?_;split<;>omega
theorem EO (X:List Nat):(Ru.fold X).filter bZ=(X.map Ru.wj).filter bZ:=by
 unfold Ru.fold;refine Ru.yp (P:=fun X=>(Ru.eO X).2.filter bZ=(X.map Ru.wj).filter bZ) rfl ?_ X;intro X x ih;rw [Ru.nB,List.map_append,List.filter_append,← ih];unfold Ru.Cb;cases hb:Ru.bl x with
 | true=>simp [Me hb]
 | false =>
  simp only [Bool.false_eq_true,if_false,List.filter_append,List.map_cons,List.map_nil];congr 1
  split
  ·rw [List.filter_append]
   have:([32]:List Nat).filter bZ=[]:=rfl;rw [this,List.append_nil]
  ·rfl
theorem Ib (X:List Nat):Ru.enc (X.filter bZ)=(X.filter bZ).map UInt8.ofNat:=by
 induction X with
 | nil=>rfl
 | cons x X ih =>
  rw [List.filter_cons]
  split
  ·rename_i h
   unfold bZ at h;have h2:=of_decide_eq_true h;have he:Lib.encodeRune (x:Int)=[UInt8.ofNat x]:=by
    rw [Lib.encodeRune,Lib.encodeRuneZ_one (by omega) (by omega)];rfl
   rw [List.map_cons,← ih];show Lib.encodeRune (x:Int)++_=_;rw [he];rfl
  ·exact ih
theorem Ek (b:UInt8):bZ (Ru.wj b.toNat)=Lk.small (Lk.low b)∧UInt8.ofNat (Ru.wj b.toNat)=Lk.low b:=by
 have h:Ru.wj b.toNat=(Lk.low b).toNat:=by
  unfold Ru.wj
  split
  ·rename_i h;exact (ZM h.1 h.2).1.symm
  ·rw [Ro (by omega)]
 rw [h];exact ⟨rfl,by simp⟩
theorem OP {l:List UInt8}(h:∀ b∈l,128≤b.toNat):Lk.word l=[]:=by
 unfold Lk.word;rw [List.filter_eq_nil_iff];intro b hb;obtain ⟨c,hc,rfl⟩:=List.mem_map.1 hb;have:=h c hc;rw [Ro (by omega)];intro hs;have:=(Lk.pX _).1 hs;omega
theorem FX (a b:List UInt8):Lk.word (a++b)=Lk.word a++Lk.word b:=by unfold Lk.word;rw [List.map_append,List.filter_append]
theorem ye:∀ (n:Nat) (l:List UInt8),l.length≤n→(((Ru.aS l).map Ru.wj).filter bZ).map UInt8.ofNat=Lk.word l
 | 0,l,h=>by obtain rfl:l=[]:=List.eq_nil_of_length_eq_zero (by omega);rfl
 | n+1,l,h=>by
  by_cases hl:0<l.length
  ·obtain ⟨x,k,hk,hkl,hd,_,HA,hc⟩:=eo hl
   have hr:Ru.aS l=x::Ru.aS (l.drop k):=by
    have:=Ru.Gp (l:=l) (pos:=0) hl;change Ru.aS (l.drop 0)=(Utf8.decode (bs l) 0).1::Ru.aS (l.drop (0+(Utf8.decode (bs l) 0).2)) at this;rw [hd] at this;simpa using this
   have ih:=ye n (l.drop k) (by rw [List.length_drop];omega);rw [hr,List.map_cons,List.filter_cons];have hs:Lk.word l=Lk.word (l.take k)++Lk.word (l.drop k):=by rw [← FX,List.take_append_drop]
   rw [hs,← ih];rcases hc with ⟨h1,rfl,rfl⟩ | ⟨h1,h2,h3⟩
   ·have ht:l.take 1=[l[0]]:=by rw [List.take_succ_eq_append_getElem hl];rfl
    obtain ⟨e1,e2⟩:=Ek l[0];rw [ht,e1];unfold Lk.word;rw [List.map_cons,List.map_nil,List.filter_cons];cases hq:Lk.small (Lk.low l[0]) with
    | true=>simp only [if_true,List.map_cons,e2];rfl
    | false=>simp
   ·rw [if_neg (by unfold bZ Ru.wj;rw [decide_eq_true_iff];split<;>omega)]
    rw [OP (l:=l.take k) (fun b hb=>by
     obtain ⟨j,hj,rfl⟩:=List.mem_iff_getElem.1 hb;rw [List.length_take] at hj;rw [List.getElem_take];exact h3 j (by omega) (by omega) (by omega))]
    rfl
  ·obtain rfl:l=[]:=List.eq_nil_of_length_eq_zero (by omega);rfl
theorem Mv (l:List UInt8):Ru.enc ((Ru.fold (Ru.aS l)).filter bZ)=Lk.word l:=by
 rw [Ib,EO,ye l.length l (Nat.le_refl _)]
def hdR (l:List UInt8):Nat:=(Ru.aS l).headD 0
def ltR (l:List UInt8):Nat:=(Ru.aS l).getLastD 0
theorem JO (w:World) :
  Calls Tryz.prog 247 #[.string (bs [])] w fun e w'=>e=.returned (.tuple #[.int .i32 0,.bool false])∧Below w.heap.size w w':=by
 go_enter Tryz.func247,Tryz.ntmps247;go_wp2
 go_loopw [] (fun wr=>Hid (wr.heap[w.heap.size]? = some (.stringIter (bs []) 0))∧Below w.heap.size w wr) (fun _=>0)
 case atStart=>exact ⟨Lib.hid (j9 _ _ _ rfl),aa _ _⟩
 case round =>
  obtain ⟨hit,hb⟩:=hrel;have j7:=cq hit.out (Nat.lt_irrefl 0);go_wp2;go_ret2;exact ⟨rfl,hb⟩
theorem Ju (l:List UInt8) (hne:l≠[]) (w:World) :
  Calls Tryz.prog 247 #[.string (bs l)] w fun e w'=>e=.returned (.tuple #[.int .i32 (hdR l:Int),.bool true])∧Below w.heap.size w w':=by
 have hp:0<l.length:=List.length_pos_iff.2 hne;obtain ⟨x,k,hk,hv,hd,vf⟩:=dx (D:=[]) hp rfl;have hx:hdR l=x:=by unfold hdR;rw [← vf];rfl
 replace hx:=Lib.hid hx;replace hne:=Lib.hid hne;clear vf;go_enter Tryz.func247,Tryz.ntmps247;go_wp2
 go_loopw [] (fun wr=>Hid (wr.heap[w.heap.size]? = some (.stringIter (bs l) 0))∧Below w.heap.size w wr) (fun _=>0)
 case atStart=>exact ⟨Lib.hid (j9 _ _ _ rfl),aa _ _⟩
 case round =>
  obtain ⟨hit,hb⟩:=hrel;have j7:=bQ hit.out hp hd;replace hd:=Lib.hid hd;go_wp2;go_ret2;exact ⟨by rw [hx.out];rfl,Lib.below_iterAt hb (Nat.le_refl _) _ _⟩
abbrev Tabs (w:World):Prop:=Lib.Utf8Tabs 2 3 w
theorem N5 (w:World) :
  Calls Tryz.prog 246 #[.string (bs [])] w fun e w'=>e=.returned (.tuple #[.int .i32 0,.bool false])∧Below w.heap.size w w':=by
 have h0:(bs []).toList=[]:=bH [];go_enter Tryz.func246,Tryz.ntmps246;go_wp2;go_ret2;exact ⟨rfl,Below.refl _ _⟩
theorem Mi (l:List UInt8) (hne:l≠[]) (w:World) (hs:l.length≤1000000000000) (hT:Tabs w) :
  Calls Tryz.prog 246 #[.string (bs l)] w fun e w'=>e=.returned (.tuple #[.int .i32 (ltR l:Int),.bool true])∧Below w.heap.size w w':=by
 have h0:(bs l).toList.isEmpty=false:=by rw [bH];simpa using hne
 have hx:((Lib.decodeLastL (bs l).data.toList).1)=ltR l:=by
  unfold ltR;have:=Ru.JS l hne;rw [List.getLastD_eq_getLast?,this];simp [bs]
 replace hx:=Lib.hid hx;replace hne:=Lib.hid hne;replace hT:=Lib.hid hT;go_enter Tryz.func246,Tryz.ntmps246;go_wp2_with (go_at_call 191;refine (Tryz.utf8_DecodeLastRuneInString (bs l) _ (by rw [au];omega) hT.out).mono ?_;rintro e w' ⟨rfl,hb⟩);go_ret2;exact ⟨by rw [hx.out];rfl,hb⟩
theorem cM {w w':World}(h:Tabs w) (hb:Below w.heap.size w w'):Tabs w':=Utf8Tabs_below h hb
theorem zZ (w:World):k9 w.heap.size w.heap.size (Lib.byteCells (Ru.enc [])) (w.alloc (.cells #[.pointer none,.slice none 0 0] 54)) :=
 Lib.IsBuilderF.of (Lib.fresh_isBuilder 54 5 w)
theorem C4 (w:World) (o:Obj) (l:List UInt8):((w.alloc o).alloc (.stringIter (bs l) 0)).heap[w.heap.size+1]? = some (.stringIter (bs l) 0):=by
 have:=heap_alloc_new (w.alloc o) (.stringIter (bs l) 0);simpa using this
theorem Ag (w:World) (o p:Obj):Below w.heap.size w ((w.alloc o).alloc p):=((Below.refl _ w).alloc (Nat.le_refl _) _).alloc (by simp) _
theorem Q5 (l:List UInt8) (A:Option Addr) (c:Nat) (w:World) (hR:Row w w.heap.size 1 A l.length (ai l)) (hs:l.length≤1000000000) :
  Calls Tryz.prog 52 #[.slice A l.length c] w fun e w'=>e=.returned (.string (bs (Ru.text l)))∧Below w.heap.size w w':=by
 have hcv:=me (c:=c) (hR.alloc (Nat.le_refl _) (.cells #[.pointer none,.slice none 0 0] 54)) 27 5 9 Tryz.underlying27 Tryz.underlying5 Tryz.underlying9;clear hR;go_enter Tryz.func52,Tryz.ntmps52;go_wp2
 go_loopw [] (fun wr=>∃ (pos:Nat) (D:List Nat),k9 w.heap.size w.heap.size (Lib.byteCells (Ru.enc (D.map Ru.zr))) wr∧Hid (wr.heap[w.heap.size+1]? = some (.stringIter (bs l) pos))∧Hid (D++Ru.aS (l.drop pos)=Ru.aS l)∧Below w.heap.size w wr)
  (fun wr=>l.length-wr.iterPos (w.heap.size+1))
 case atStart=>exact ⟨0,[],(zZ w).alloc _,Lib.hid (C4 _ _ _),Lib.hid rfl,Ag _ _ _⟩
 case round =>
  obtain ⟨pos,D,hI,hit,hD,hb⟩:=hrel;have hdl:=nK hD.out;have hlt:w.heap.size+1<wr.heap.size:=(Array.getElem?_eq_some_iff.1 hit.out).1
  by_cases hp:pos<l.length
  ·obtain ⟨x,k,hk,hv,hd,vf⟩:=dx hp hD.out
   have j7:=bQ hit.out hp hd;replace vf:=Lib.hid vf;replace hd:=Lib.hid hd;have gZ:=Lib.hid (Lib.iterAt_heap wr (w.heap.size+1) (bs l) pos (pos+k) hit.out);have hb2:=Lib.below_iterAt hb (k:=w.heap.size+1) (by omega) (bs l) (pos+k);have nU:k9 _ _ _ _:=hI.iterAt hit.out (pos+k);have hpos:Hid (wr.iterPos (w.heap.size+1)=pos):=Lib.hid (by simp only [World.iterPos,hit.out]);have hz2:w.heap.size≤(wr.iterAt (w.heap.size+1) (bs l) (pos+k)).heap.size:=by rw [Lib.iterAt_size];omega
   have hl4:=(Ru.gJ (D.map Ru.zr)).2;rw [List.length_map] at hl4;have FY:x≤1114111:=by unfold Ru.vr at hv;omega
   have hzx:Hid (Ru.zr x=if x=0 then 65533 else x):=Lib.hid rfl;have hlen:(Lib.byteCells (Ru.enc (D.map Ru.zr))).length+4≤140737488355328:=by rw [Lib.byteCells_length];omega
   have hend:∀ (z:Nat) (wz:World),z=Ru.zr x→k9 w.heap.size w.heap.size (Lib.byteCells (Ru.enc (D.map Ru.zr))++Lib.runeCells (z:Int)) wz→k9 w.heap.size w.heap.size (Lib.byteCells (Ru.enc ((D++[x]).map Ru.zr))) wz:=by
    intro z wz hz h;subst hz;rw [List.map_append,List.map_cons,List.map_nil,Ru.oG,Lib.byteCells_append,Lib.byteCells_encodeRune];exact h
   replace hend:=Lib.hid hend
   by_cases h0:x=0
   ·have ht:(((x:Nat):Int)==0)=true:=by simp [h0]
    have hz:65533=Ru.zr x:=by rw [hzx.out,if_pos h0]
    replace hz:=Lib.hid hz;replace h0:=Lib.hid h0;go_wp2_with (go_at_call 82;refine (dF w.heap.size w.heap.size _ 65533 (by omega) (by omega) _ nU hlen hz2).mono ?_;rintro e w2 ⟨⟨v,rfl⟩,h1,b1,k1⟩);have wD:Hid (w2.heap[w.heap.size+1]? = some (.stringIter (bs l) (pos+k))):=Lib.hid (k1.iter gZ.out (by omega));have eC:Hid (w2.iterPos (w.heap.size+1)=pos+k):=Lib.hid (by simp only [World.iterPos,wD.out]);go_wp2
    go_roundw
    case rel=>exact ⟨pos+k,D++[x],hend.out 65533 _ hz.out h1,wD,vf,hb2.trans b1⟩
    case measure=>rw [hpos.out,eC.out];omega
   ·have ht:(((x:Nat):Int)==0)=false:=by simp [h0]
    have hz:x=Ru.zr x:=by rw [hzx.out,if_neg h0]
    replace hz:=Lib.hid hz;replace h0:=Lib.hid h0;go_wp2_with (go_at_call 82;refine (dF w.heap.size w.heap.size _ _ (by omega) (by omega) _ nU hlen hz2).mono ?_;rintro e w2 ⟨⟨v,rfl⟩,h1,b1,k1⟩);have wD:Hid (w2.heap[w.heap.size+1]? = some (.stringIter (bs l) (pos+k))):=Lib.hid (k1.iter gZ.out (by omega));have eC:Hid (w2.iterPos (w.heap.size+1)=pos+k):=Lib.hid (by simp only [World.iterPos,wD.out]);go_wp2
    go_roundw
    case rel=>exact ⟨pos+k,D++[x],hend.out x _ hz.out h1,wD,vf,hb2.trans b1⟩
    case measure=>rw [hpos.out,eC.out];omega
  ·have j7:=cq hit.out hp
   have Wz:=nJ hp hD.out;clear hD;subst Wz;go_wp2_with (go_at_call 27;refine (Tryz.Builder_String_any_k w.heap.size w.heap.size _ _ hI (by omega)).mono ?_;rintro e w2 ⟨rfl,_,b1,_⟩);go_wp2;go_ret;exact ⟨rfl,hb.trans b1⟩
end Go.Proofs.YtddkjkockbcamaaGreatDoor
