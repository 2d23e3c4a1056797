/- EsProg LkFold RnEnds RnFns RnText -/
import Derived.Test.YtddkjkockbcamaaGreatDoorHe17
import Derived.Test.YtddkjkockbcamaaGreatDoorHe22
import Derived.Test.YtddkjkockbcamaaGreatDoorHe13
import Derived.Laws.Cover4
import Derived.Laws.OwnMore
set_option maxHeartbeats 16000000
set_option maxRecDepth 100000
namespace Go.Proofs.YtddkjkockbcamaaGreatDoor
open Go.RowKit
abbrev Y4 (_:World):Prop:=True
theorem Dh (r:Int) (w:World) :
  Calls Tryz.prog 242 #[.int .i32 r] w fun e w'=>e=.returned (.bool (fQ r))∧w=w':=by
 have hp:r<128→gb r=fQ r:=by
  intro h;rw [Bool.eq_iff_iff];simp only [gb,fQ,decide_eq_true_iff];omega
 have ha:¬ r<128→fQ r=false:=by
  intro h;rw [← Bool.not_eq_true];simp only [fQ,decide_eq_true_iff];omega
 by_cases h:r<128
 ·have hpp:=hp h
  clear hp ha;obtain ⟨v,hv⟩:∃ v,v=fQ r:=⟨_,rfl⟩
  rw [← hv] at hpp ⊢;clear hv;go_enter Tryz.func242,Tryz.ntmps242;go_wp2_with (go_at_call 241;refine (kB _ _).mono ?_;rintro e w1 ⟨rfl,rfl⟩;rw [hpp]);go_ret;exact ⟨rfl,rfl⟩
 ·rw [ha h]
  clear hp ha;go_enter Tryz.func242,Tryz.ntmps242;go_wp2;go_ret;exact ⟨rfl,rfl⟩
theorem E3 (x:Nat) (w:World) :
  Calls Tryz.prog 100 #[.int .i32 (x:Int)] w fun e w'=>e=.returned (.string (bs (sI x)))∧w=w':=by
 have uK:(x=38∧sI x=[38,97,109,112,59])∨(x=60∧sI x=[38,108,116,59])∨(x=62∧sI x=[38,103,116,59])∨(x=34∧sI x=[38,113,117,111,116,59]) ∨
   (((x:Int)==38)=false∧((x:Int)==60)=false∧((x:Int)==62)=false∧((x:Int)==34)=false∧sI x=[]):=by
  unfold sI
  by_cases TI:x=38
  ·exact .inl ⟨TI,if_pos TI⟩
  by_cases eB:x=60
  ·exact .inr (.inl ⟨eB,by rw [if_neg TI,if_pos eB]⟩)
  by_cases sO:x=62
  ·exact .inr (.inr (.inl ⟨sO,by rw [if_neg TI,if_neg eB,if_pos sO]⟩))
  by_cases X4:x=34
  ·exact .inr (.inr (.inr (.inl ⟨X4,by rw [if_neg TI,if_neg eB,if_neg sO,if_pos X4]⟩)))
  exact .inr (.inr (.inr (.inr ⟨by rw [beq_eq_false_iff_ne];omega,by rw [beq_eq_false_iff_ne];omega,by rw [beq_eq_false_iff_ne];omega,by rw [beq_eq_false_iff_ne];omega,by rw [if_neg TI,if_neg eB,if_neg sO,if_neg X4]⟩)))
 rcases uK with ⟨rfl,hs⟩ | ⟨rfl,hs⟩ | ⟨rfl,hs⟩ | ⟨rfl,hs⟩ | ⟨f1,f2,f3,f4,hs⟩
 all_goals
  rw [hs];clear hs;go_enter Tryz.func100,Tryz.ntmps100;go_wp2;go_ret;exact ⟨rfl,rfl⟩
theorem gU (a b:List UInt8):aj (a++b)=aj a++aj b:=by simp [aj]
theorem fy (l:List UInt8):(aj l).length=l.length:=by simp [aj]
theorem nU (w:World):jZ w.heap.size w.heap.size (aj []) (w.alloc (.cells #[.pointer none,.slice none 0 0] 54)) :=
 Lib.IsBuilderF.of (Lib.fresh_isBuilder 54 5 w)
theorem lP (B b:Nat) (l:List UInt8) (w:World) (h:jZ B b (aj l) w) (hBw:B≤w.heap.size) :
  Calls Tryz.prog 27 #[.pointer (some ⟨b,0,none⟩)] w fun e w'=>e=.returned (.string (bs l))∧Below B w w' :=
 (Tryz.Builder_String_any_k B b l w h hBw).mono fun _ _ ⟨he,_,hb,_⟩=>⟨he,hb⟩
theorem yA (w:World) (o:Obj) (l:List UInt8):((w.alloc o).alloc (.stringIter (bs l) 0)).heap[w.heap.size+1]? = some (.stringIter (bs l) 0):=by
 have:=heap_alloc_new (w.alloc o) (.stringIter (bs l) 0);simpa using this
theorem vh (w:World) (o p:Obj):Below w.heap.size w ((w.alloc o).alloc p):=((Below.refl _ w).alloc (Nat.le_refl _) _).alloc (by simp) _
theorem VL {B b:Nat}{xs:List Value}{w:World}(h:jZ B b xs w):b<w.heap.size:=h.elim (fun x=>x.lt) (fun x=>x.lt)
theorem vS {B b:Nat}{p:Value}{xs:List Value}{w w':World}(h:Lib.BuilderAtF 54 5 B b p xs w) (hb:Below w.heap.size w w'):Lib.BuilderAtF 54 5 B b p xs w':=by
 have hlt:=h.lt;obtain ⟨hB,v,hv,hown,hne⟩:=h;exact ⟨hB,v,(hb.block b hlt).trans hv,hown.kept (row:=none) ⟨hb.os,hb.tape,hb.output,hb.size,fun k hk _=>hb.block k hk⟩ (Classical.em _),hne⟩
theorem zT {B b:Nat}{xs:List Value}{w w':World}(h:jZ B b xs w) (hb:Below w.heap.size w w'):jZ B b xs w' :=
 h.elim (fun x=>.inl (vS x hb)) (fun x=>.inr (vS x hb))
theorem wg {B b:Nat}{X Y:List UInt8}{w:World}(h:jZ B b (aj X++aj Y) w):jZ B b (aj (X++Y)) w:=by
 rw [gU];exact h
theorem vf (l:List UInt8) (w:World) (hs:l.length≤1000000000) :
  Calls Tryz.prog 99 #[.string (bs l),.func (.func 100) #[] #[]] w fun e w'=>e=.returned (.string (bs (l.flatMap Es.jL)))∧Below w.heap.size w w':=by
 have hS:=Lib.hid UB;have hsz:=au l;go_enter Tryz.func99,Tryz.ntmps99;go_wp2
 go_loopw [6] (fun fv wr=>∃ (pos a:Nat) (X:List UInt8),a≤pos∧pos≤l.length∧fv=.int .i64 (a:Int)∧jZ w.heap.size w.heap.size (aj X) wr∧Hid (rJ Es.jL l X a pos)∧Hid (wr.heap[w.heap.size+1]? = some (.stringIter (bs l) pos))∧Below w.heap.size w wr)
  (fun _ wr=>l.length-wr.iterPos (w.heap.size+1))
 case atStart=>exact ⟨0,0,[],Nat.le_refl _,Nat.zero_le _,rfl,(nU w).alloc _,Lib.hid (GA _ _),Lib.hid (yA _ _ _),vh _ _ _⟩
 case round =>
  obtain ⟨pos,a,X,hap,hpl,rfl,hI,hst,hit,hb⟩:=hrel;have hlt:w.heap.size+1<wr.heap.size:=(Array.getElem?_eq_some_iff.1 hit.out).1;have hlen:=Md hS.out hst.out
  by_cases hp:pos<l.length
  ·obtain ⟨x,k,hk,hkl,hd,Dk,_,ju⟩:=dN hp
   have jr:=bK hit.out hp hd;replace hd:=Lib.hid hd;have gz:=Lib.hid (Lib.iterAt_heap wr (w.heap.size+1) (bs l) pos (pos+k) hit.out);have hb2:=Lib.below_iterAt hb (k:=w.heap.size+1) (by omega) (bs l) (pos+k);have mb:jZ _ _ _ _:=hI.iterAt hit.out (pos+k);have hpos:Hid (wr.iterPos (w.heap.size+1)=pos):=Lib.hid (by simp only [World.iterPos,hit.out]);have hz2:w.heap.size≤(wr.iterAt (w.heap.size+1) (bs l) (pos+k)).heap.size:=by rw [Lib.iterAt_size];omega
   have aG:=fun w=>E3 x w;cases hg:sI x with
   | nil =>
    have FT:Hid (rJ Es.jL l X a (pos+k)):=Lib.hid (Fb hst.out hap hkl fun j hj h1 h2=>by
     rcases ju with ⟨hlo,rfl,rfl⟩ | ⟨hhi,hx,hall⟩
     ·have:j=pos:=by omega
      subst this;exact hS.out.low _ hg
     ·exact hS.out.high _ (hall j hj h1 h2))
    rw [hg] at aG;clear ju hg hS;have htn:=nv;go_wp2_with fail;refine (aG _).mono ?_;rintro e w1 ⟨rfl,rfl⟩;clear aG;have dS:Hid ((wr.iterAt (w.heap.size+1) (bs l) (pos+k)).iterPos (w.heap.size+1)=pos+k):=Lib.hid (by simp only [World.iterPos,gz.out]);go_wp2
    go_roundw
    case rel=>exact ⟨pos+k,a,X,by omega,hkl,rfl,mb,FT,gz,hb2⟩
    case measure=>rw [hpos.out,dS.out];omega
   | cons c r =>
    have hx1:l[pos].toNat<128∧x=l[pos].toNat∧k=1:=by
     rcases ju with h | ⟨hhi,hx,hall⟩
     ·exact h
     ·rw [hS.out.still x hx] at hg;cases hg
    have hq:Es.jL l[pos]=c::r:=by
     have h1:=hS.out.said l[pos] (by rw [← hx1.2.1,hg];simp);rw [h1,← hx1.2.1,hg]
    have Bb:=hS.out.few x;rw [hg] at aG Bb;obtain ⟨_,hx2,rfl⟩:=hx1;clear hx2;have FT:=Lib.hid (LB hst.out hp hq);clear ju hg hS hq;have htn:=fC c r;have hmid:=uH (S:=l) (i:=a) (j:=pos) hap (by omega);have hl1:=fy X;obtain ⟨M,hM⟩:∃ M,M=mid l a pos:=⟨_,rfl⟩
    rw [← hM] at hmid hlen FT;clear hM;obtain ⟨G,hG⟩:∃ G,G=c::r:=⟨_,rfl⟩
    rw [← hG] at aG FT htn Bb;clear hG;go_wp2_with fail;refine (aG _).mono ?_;rintro e w1 ⟨rfl,rfl⟩;clear aG;go_wp2_with fail;refine (cx w.heap.size w.heap.size _ M _ mb (by omega) hz2).mono ?_;rintro e w2 ⟨⟨v,rfl⟩,h2,b2,k2⟩;have h2':=wg h2;have uj:=Lib.hid (k2.iter gz.out (by omega));have Va:w.heap.size≤w2.heap.size:=by have:=b2.size;omega
    have hl2:=fy (X++M);rw [List.length_append] at hl2;clear h2 k2;go_wp2_with fail;refine (cx w.heap.size w.heap.size _ G _ h2' (by omega) Va).mono ?_;rintro e w3 ⟨⟨v,rfl⟩,h3,b3,k3⟩;have Om:=wg h3;have qj:=Lib.hid (k3.iter uj.out (by omega));have dS:Hid (w3.iterPos (w.heap.size+1)=pos+1):=Lib.hid (by simp only [World.iterPos,qj.out]);clear h3 k3;go_wp2
    go_roundw
    case rel=>exact ⟨pos+1,pos+1,_,Nat.le_refl _,hkl,by go_num,Om,FT,qj,(hb2.trans b2).trans b3⟩
    case measure=>rw [hpos.out,dS.out];omega
  ·have WY:pos=l.length:=by omega
   have jr:=bZ hit.out hp;subst WY;have aL:=Lib.hid (OX hst.out);have hfr:=b8 (S:=l) (i:=a) hap;have hl1:=fy X;have hz:w.heap.size≤wr.heap.size:=by omega
   have hdl:=List.length_drop (i:=a) (l:=l);clear hst hS;obtain ⟨Y,hY⟩:∃ Y,Y=l.drop a:=⟨_,rfl⟩
   rw [← hY] at hfr aL hdl;clear hY;go_wp2_with fail;refine (cx w.heap.size w.heap.size _ Y _ hI (by omega) hz).mono ?_;rintro e w2 ⟨⟨v,rfl⟩,h2,b2,k2⟩;have h2':=wg h2;rw [aL.out] at h2';have Va:w.heap.size≤w2.heap.size:=by have:=b2.size;omega
   clear h2 k2;go_wp2_with fail;refine (lP w.heap.size w.heap.size _ _ h2' Va).mono ?_;rintro e w3 ⟨rfl,b3⟩;go_wp2;go_ret;exact ⟨rfl,(hb.trans b2).trans b3⟩
theorem so (l:List UInt8) (w:World) (hs:l.length≤1000000000) (_hT:Y4 w) :
  Calls Tryz.prog 63 #[.string (bs l)] w fun e w'=>e=.returned (.string (bs (Es.page l)))∧Below w.heap.size w w':=by
 go_enter Tryz.func63,Tryz.ntmps63;go_wp2_with fail;refine (vf l _ hs).mono ?_;rintro e w1 ⟨rfl,hb⟩;go_wp2;go_ret;exact ⟨rfl,hb⟩
theorem tT {l:List UInt8}{k x n:Nat}(h:k<l.length) (hd:Lib.decodeL (l.drop k)=(x,n)) (hx:x≠92):Es.dF (l.drop k)=false:=by
 refine wK h (.inl fun e=>hx ?_);rw [List.drop_eq_getElem_cons h,Es.jF (by rw [e];decide)] at hd;injection hd with h1 _;rw [← h1,e];rfl
theorem vB {l:List UInt8}{k n:Nat}(h:k<l.length) (hd:Lib.decodeL (l.drop k)=(92,n)):l[k]=92∧n=1:=by
 obtain ⟨x,m,_,_,_,_,yq,hc⟩:=dN h;rw [hd] at yq;injection yq with e1 e2;subst e1 e2;rcases hc with ⟨_,e,e'⟩ | ⟨_,e,_⟩
 ·exact ⟨UInt8.toNat_inj.1 (by rw [← e];rfl),e'⟩
 ·omega
theorem Dz {l:List UInt8}{k y m:Nat}(h:k<l.length) (hd:Lib.decodeL (l.drop k)=(y,m)):(fQ (y:Int)=true→Es.LL l[k]=true∧y=l[k].toNat)∧(fQ (y:Int)=false→Es.LL l[k]=false):=by
 obtain ⟨x,n,_,_,_,_,yq,hc⟩:=dN h;rw [hd] at yq;injection yq with e1 e2;subst e1 e2;rcases hc with ⟨_,e,e'⟩ | ⟨h1,e,_⟩
 ·subst e
  exact ⟨fun h=>⟨h,rfl⟩,fun h=>h⟩
 ·refine ⟨fun h=>?_,fun _=>Es.NF h1⟩
  unfold fQ at h;rw [decide_eq_true_iff] at h;omega
theorem oe (l:List UInt8) (at_:Int) (hs:l.length≤1000000000) (w:World) (_hT:Y4 w) :
  Calls Tryz.prog 225 #[.string (bs l),.int .i64 at_] w fun e w'=>e=.returned (mj l at_.toNat)∧Below w.heap.size w w':=by
 have hsz:=au l;obtain ⟨p,hk⟩:∃ p,p=at_.toNat:=⟨_,rfl⟩
 have hmx:max at_ 0=(p:Int):=by omega
 have abZ:(if at_<0 then 0 else at_)=(p:Int):=by omega
 rw [← hk];replace hk:=Lib.hid hk
 by_cases hin:p<l.length
 ·obtain ⟨x,n,hn,hnl,hd,Dk,DN,_⟩:=dN hin
  have hfr:=b8 (S:=l) (i:=p) (by omega);obtain ⟨V,hV⟩:∃ V,V=mj l p:=⟨_,rfl⟩
  rw [← hV];have hone:Hid (l.length≤p+n→V=.tuple #[.int .i32 (x:Int),.int .i64 (l.length:Int),.bool false]):=Lib.hid (by
   intro h;have hes:Es.dF (l.drop p)=false:=by
    by_cases CX:x=92
    ·subst CX
     obtain ⟨h1,h2⟩:=vB hin DN;exact wK hin (.inr (.inl (by omega)))
    ·exact tT hin DN CX
   rw [hV,Dd hin hes,DN,show ((p:Int)+((x,n):Nat×Nat).2)=(l.length:Int) from by simp only;omega])
  have Y6:Hid (∀ (h:p+n<l.length) (y m:Nat),Lib.decodeL (l.drop (p+n))=(y,m) →
    (x≠92∨fQ (y:Int)=false→V=.tuple #[.int .i32 (x:Int),.int .i64 ((p:Int)+n),.bool false]) ∧
    (x=92→fQ (y:Int)=true→n=1∧V=.tuple #[.int .i32 (y:Int),.int .i64 ((p:Int)+2),.bool true])):=Lib.hid (by
   intro h y m hy;have UK:=Dz h hy;constructor
   ·intro h1
    have hes:Es.dF (l.drop p)=false:=by
     by_cases CX:x=92
     ·subst CX
      obtain ⟨h3,rfl⟩:=vB hin DN;exact wK hin (.inr (.inr ⟨h,UK.2 (h1.resolve_left (by simp))⟩))
     ·exact tT hin DN CX
    rw [hV,Dd hin hes,DN]
   ·intro CX ha
    subst CX;obtain ⟨h3,rfl⟩:=vB hin DN;obtain ⟨h4,h5⟩:=UK.1 ha;exact ⟨rfl,by rw [hV,Jr h h3 h4,h5]⟩)
  clear hV DN;obtain ⟨T,hT⟩:∃ T,T=l.drop p:=⟨_,rfl⟩
  have hTl:T.length=l.length-p:=by rw [hT,List.length_drop]
  have UR:Utf8.decode (bs T) 0=(x,n):=by
   rw [← di.decodeL_drop' T 0,List.drop_zero,hT,di.decodeL_drop' l p];exact hd
  have ZP:Hid (∀ q,Utf8.decode (bs T) q=Lib.decodeL (l.drop (p+q))):=Lib.hid (by
   intro q;rw [← di.decodeL_drop' T q,hT,List.drop_drop])
  rw [← hT] at hfr;clear hT hd;go_enter Tryz.func225,Tryz.ntmps225;go_wp2
  go_loopw [7] (fun f wr=>∃ (pos:Nat),Hid (wr.heap[w.heap.size]? = some (.stringIter (bs T) pos))∧Below w.heap.size w wr∧(pos=0∨pos=n∧f=.int .i32 (x:Int)))
   (fun _ wr=>T.length-wr.iterPos w.heap.size)
  case atStart=>exact ⟨0,Lib.hid (jo _ _ _ rfl),aa _ _,.inl rfl⟩
  case round =>
   obtain ⟨pos,hit,hb,rfl | ⟨rfl,rfl⟩⟩:=hrel
   ·have jr:=bK hit.out (show 0<T.length by omega) UR
    replace UR:=Lib.hid UR;have gz:=Lib.hid (Lib.iterAt_heap wr w.heap.size (bs T) 0 n hit.out);have hb2:=Lib.below_iterAt hb (k:=w.heap.size) (Nat.le_refl _) (bs T) n;have hpos:=Lib.hid (show wr.iterPos w.heap.size=0 by simp only [World.iterPos,hit.out]);have dS:=Lib.hid (show (wr.iterAt w.heap.size (bs T) n).iterPos w.heap.size=n by simp only [World.iterPos,gz.out]);go_wp2
    go_roundw
    case rel=>exact ⟨n,gz,hb2,.inr ⟨rfl,rfl⟩⟩
    case measure=>rw [hpos.out,dS.out];omega
   ·by_cases hp:pos<T.length
    ·obtain ⟨y,m,hm,hml,yq,hvy,hdy,_⟩:=dN hp
     have hy:Lib.decodeL (l.drop (p+pos))=(y,m):=by rw [← ZP.out,yq]
     have h2:=Y6.out (by omega) y m hy;have jr:=bK hit.out hp yq;replace yq:=Lib.hid yq;replace UR:=Lib.hid UR;replace hdy:=Lib.hid hdy;replace hy:=Lib.hid hy;have hb2:=Lib.below_iterAt hb (k:=w.heap.size) (Nat.le_refl _) (bs T) (pos+m);have C0:((pos:Int)==0)=false:=by rw [beq_eq_false_iff_ne];omega
     by_cases AS:x=92
     ·have CX:((x:Int)==92)=true:=by rw [AS];rfl
      cases ha:fQ (y:Int) with
      | true =>
       obtain ⟨uf,hV⟩:=h2.2 AS ha;replace hV:=Lib.hid hV;have KF:(p:Int)+2=(p:Int)+pos+1:=by omega
       rw [KF] at hV;replace uf:=Lib.hid uf;replace AS:=Lib.hid AS;clear h2 KF;go_wp2_with (go_at_call 242;refine (Dh _ _).mono ?_;rintro e w1 ⟨rfl,rfl⟩;rw [ha]);go_ret3;exact ⟨congrArg Ending.returned hV.out.symm,hb2⟩
      | false =>
       have hV:=Lib.hid (h2.1 (.inr ha));clear h2;replace AS:=Lib.hid AS;go_wp2_with (go_at_call 242;refine (Dh _ _).mono ?_;rintro e w1 ⟨rfl,rfl⟩;rw [ha]);go_ret3;exact ⟨congrArg Ending.returned hV.out.symm,hb2⟩
     ·have CX:((x:Int)==92)=false:=by rw [beq_eq_false_iff_ne];omega
      have hV:=Lib.hid (h2.1 (.inl AS));clear h2;replace AS:=Lib.hid AS;go_wp2;go_ret3;exact ⟨congrArg Ending.returned hV.out.symm,hb2⟩
    ·have jr:=bZ hit.out hp
     replace UR:=Lib.hid UR;have hV:=Lib.hid (hone.out (by omega));go_wp2;go_ret3;exact ⟨congrArg Ending.returned hV.out.symm,hb⟩
 ·rw [Lv (by omega)]
  go_enter Tryz.func225,Tryz.ntmps225;go_wp2;go_ret3;exact ⟨rfl,Below.refl _ _⟩
theorem fY {B b:Nat}{X:List Nat}{z:Nat}{wz:World}(h:jZ B b (aj (Ru.enc X)++Lib.runeCells (z:Int)) wz):jZ B b (aj (Ru.enc (X++[z]))) wz:=by
 rw [Ru.nE,gU,show aj (Lib.encodeRune (z:Int))=Lib.runeCells (z:Int) from Lib.byteCells_encodeRune _];exact h
theorem GH (l:List UInt8) (w:World) (hs:l.length≤1000000000) (_hT:Y4 w) :
  Calls Tryz.prog 237 #[.string (bs l)] w fun e w'=>e=.returned (.string (bs (Ru.enc (Es.plain l))))∧Below w.heap.size w w':=by
 have hsz:=au l;go_enter Tryz.func237,Tryz.ntmps237;go_wp2
 go_loopw [4] (fun i wr=>∃ (k:Nat) (D:List Nat),k≤l.length∧D.length≤k∧i=.int .i64 k∧Hid (D++Es.plain (l.drop k)=Es.plain l)∧jZ w.heap.size w.heap.size (aj (Ru.enc D)) wr∧Below w.heap.size w wr)
  (fun i _=>l.length-(intOf i).toNat)
 case atStart=>exact ⟨0,[],Nat.zero_le _,Nat.zero_le _,rfl,Lib.hid rfl,nU w,aa _ _⟩
 case round =>
  obtain ⟨k,D,hk,hDk,rfl,hD,hI,hb⟩:=hrel
  by_cases hp:k<l.length
  ·obtain ⟨hm1,hm2⟩:=Es.eP hp
   have tB:Hid ((D++[(Es.next l k).1])++Es.plain (l.drop (Es.next l k).2.1)=Es.plain l):=Lib.hid (by rw [← hD.out,Es.NV hp,List.append_assoc];rfl);have hV:mj l k=.tuple #[.int .i32 ((Es.next l k).1:Int),.int .i64 ((Es.next l k).2.1:Int),.bool (Es.next l k).2.2]:=rfl;have Dk:=Es.HI l k;have aG:=fun w=>oe l (k:Int) (by omega) w trivial;rw [show ((k:Int)).toNat=k from by omega,hV] at aG;clear hV;obtain ⟨x,hx⟩:∃ x,x=(Es.next l k).1:=⟨_,rfl⟩
   obtain ⟨n,hn⟩:∃ n,n=(Es.next l k).2.1:=⟨_,rfl⟩
   obtain ⟨o,ho⟩:∃ o,o=(Es.next l k).2.2:=⟨_,rfl⟩
   rw [← hx,← hn,← ho] at aG;rw [← hx,← hn] at tB;rw [← hn] at hm1 hm2;rw [← hx] at Dk;clear hx hn ho;have hx1:x≤1114111:=by unfold Ru.vr at Dk;omega
   clear Dk;have hl4:=(Ru.gf D).2;have hl1:=fy (Ru.enc D);go_wp2_with fail;refine (aG _).mono ?_;rintro e w1 ⟨rfl,hb1⟩;clear aG;have G4:jZ w.heap.size w.heap.size (aj (Ru.enc D)) w1:=zT hI hb1;have mX:=hb.trans (hb1.mono hb.size);have hz1:w.heap.size≤w1.heap.size:=mX.size;clear hI;go_wp2_with fail;refine (dh w.heap.size w.heap.size _ (x:Int) (by omega) (by omega) _ G4 (by omega) hz1).mono ?_;rintro e w2 ⟨⟨v,rfl⟩,h2,b2,k2⟩;have h2':=fY h2;clear h2 k2;go_wp2
   go_roundw
   case rel=>exact ⟨n,D++[x],hm2,by simp;omega,rfl,tB,h2',mX.trans b2⟩
   case measure=>simp [intOf];omega
  ·have Rp:D=Es.plain l:=by
    rw [← hD.out,List.drop_eq_nil_of_le (by omega),Es.zE,List.append_nil]
   subst Rp;clear hD;have hz:w.heap.size≤wr.heap.size:=hb.size;go_wp2_with fail;refine (lP w.heap.size w.heap.size _ _ hI hz).mono ?_;rintro e w3 ⟨rfl,b3⟩;go_wp2;go_ret;exact ⟨rfl,hb.trans b3⟩
theorem lM (x:Nat) (w:World) (h:x≤1114111) :
  Calls Tryz.prog 213 #[.int .i32 (x:Int)] w fun e w'=>e=.returned (.int .i32 (Ru.sZ x:Int))∧w=w' :=
 (KN x w (by omega) (by omega)).mono fun _ _ ⟨he,hw⟩=>⟨by rw [he,Ru.Ke],hw⟩
theorem xp (B b:Nat) (l:List UInt8) (n:Nat) (hn:n=l.length) (w:World) (h:jZ B b (aj l) w) :
  Calls Tryz.prog 58 #[.pointer (some ⟨b,0,none⟩)] w fun e w'=>e=.returned (.int .i64 n)∧w=w' :=
 (Tryz.Builder_Len_f B b _ w h).mono fun _ _ ⟨he,hw⟩=>⟨by rw [he,fy,hn],hw.symm⟩
theorem sn {B b:Nat}{X:List Nat}{wz:World}(h:jZ B b (aj (Ru.enc X)++[.int .u8 32]) wz):jZ B b (aj (Ru.enc (X++[32]))) wz:=by
 rw [Ru.nE,gU];exact h
theorem BL {D:List Nat}{g:Bool}{O:List Nat}{x:Nat}(h:Ru.ep D=(g,O)) :
  (dB (x:Int)=true→Ru.ep (D++[x])=(true,O)) ∧
  (dB (x:Int)=false→g=true→O≠[]→Ru.ep (D++[x])=(false,(O++[32])++[Ru.sZ x])) ∧
  (dB (x:Int)=false→(g=false∨O=[])→Ru.ep (D++[x])=(false,O++[Ru.sZ x])):=by
 rw [Ru.lG,h];unfold Ru.zx Ru.bl;refine ⟨fun hb=>by rw [hb];rfl,fun hb hg hO=>by rw [hb];simp [hg,hO],fun hb hg=>?_⟩;rw [hb];rcases hg with hg | hg<;>simp [hg]
theorem GL (l:List UInt8) (w:World) (hs:l.length≤1000000000) :
  Calls Tryz.prog 179 #[.string (bs l)] w fun e w'=>e=.returned (.string (bs (Ru.enc (Ru.fold (Ru.aP l)))))∧Below w.heap.size w w':=by
 go_enter Tryz.func179,Tryz.ntmps179;go_wp2
 go_loopw [4] (fun gv wr=>∃ (pos:Nat) (D:List Nat) (g:Bool) (O:List Nat),gv=.bool g∧jZ w.heap.size w.heap.size (aj (Ru.enc O)) wr∧Hid (Ru.ep D=(g,O))∧Hid (wr.heap[w.heap.size+1]? = some (.stringIter (bs l) pos))∧Hid (D++Ru.aP (l.drop pos)=Ru.aP l)∧Below w.heap.size w wr)
  (fun _ wr=>l.length-wr.iterPos (w.heap.size+1))
 case atStart=>exact ⟨0,[],false,[],rfl,(nU w).alloc _,Lib.hid rfl,Lib.hid (yA _ _ _),Lib.hid rfl,vh _ _ _⟩
 case round =>
  obtain ⟨pos,D,g,O,rfl,hI,hfo,hit,hD,hb⟩:=hrel;have hdl:=lK hD.out;have hlt:w.heap.size+1<wr.heap.size:=(Array.getElem?_eq_some_iff.1 hit.out).1;have YF:O.length≤D.length:=by have:=(Ru.zC D).2.2.1;rw [hfo.out] at this;exact this
  by_cases hp:pos<l.length
  ·obtain ⟨x,k,hk,hv,hd,tB⟩:=di hp hD.out
   have jr:=bK hit.out hp hd;replace tB:=Lib.hid tB;replace hd:=Lib.hid hd;have gz:=Lib.hid (Lib.iterAt_heap wr (w.heap.size+1) (bs l) pos (pos+k) hit.out);have hb2:=Lib.below_iterAt hb (k:=w.heap.size+1) (by omega) (bs l) (pos+k);have mb:jZ _ _ _ _:=hI.iterAt hit.out (pos+k);have hpos:Hid (wr.iterPos (w.heap.size+1)=pos):=Lib.hid (by simp only [World.iterPos,hit.out]);have hz2:w.heap.size≤(wr.iterAt (w.heap.size+1) (bs l) (pos+k)).heap.size:=by rw [Lib.iterAt_size];omega
   have hl4:=(Ru.gf O).2;have hl1:=(Ru.gf O).1;have Dk:x≤1114111:=by unfold Ru.vr at hv;omega
   have hsx:Ru.sZ x≤1114200:=by unfold Ru.sZ;split<;>omega
   have hst:=Lib.hid (BL (x:=x) hfo.out);obtain ⟨n,hn⟩:∃ n,n=(Ru.enc O).length:=⟨_,rfl⟩
   have hlen:(aj (Ru.enc O)).length+5≤140737488355328:=by rw [fy];omega
   have hO0:Hid (O=[]↔n=0):=Lib.hid (by rw [hn,← List.eq_nil_iff_length_eq_zero,Ru.wZ]);have hnl:n≤4000000000:=by omega
   replace hn:=Lib.hid hn;clear hl4 hl1 hv
   by_cases hbl:dB (x:Int)=true
   ·have hf2:=Lib.hid (hst.out.1 hbl)
    go_wp2_with (go_at_call 212;refine (eO _ _).mono ?_;rintro e w' ⟨rfl,rfl⟩);have dS:Hid ((wr.iterAt (w.heap.size+1) (bs l) (pos+k)).iterPos (w.heap.size+1)=pos+k):=Lib.hid (by simp only [World.iterPos,gz.out])
    go_roundw
    case rel=>exact ⟨pos+k,D++[x],true,O,rfl,mb,hf2,gz,tB,hb2⟩
    case measure=>rw [hpos.out,dS.out];omega
   ·replace hbl:dB (x:Int)=false:=by simpa using hbl
    by_cases hgo:g=true∧O≠[]
    ·obtain ⟨rfl,hO⟩:=hgo
     have hf2:=Lib.hid (hst.out.2.1 hbl rfl hO);have hn0:0<n:=Nat.pos_of_ne_zero fun h=>hO (hO0.out.2 h);clear hO;go_wp2_with (first
      | (go_at_call 212;refine (eO _ _).mono ?_;rintro e w' ⟨rfl,rfl⟩)
      | (go_at_call 58;refine (xp w.heap.size w.heap.size _ n hn.out _ mb).mono ?_;rintro e w' ⟨rfl,rfl⟩)
      | (go_at_call 152;refine (oL w.heap.size w.heap.size _ 32 _ mb (by omega) hz2).mono ?_;rintro e w2 ⟨rfl,h1,b1,k1⟩))
     have uj:=Lib.hid (k1.iter gz.out (by omega));have Va:w.heap.size≤w2.heap.size:=by have:=b1.size;omega
     have h1':=sn h1;have Pj:(aj (Ru.enc (O++[32]))).length+4≤140737488355328:=by
      rw [Ru.nE,gU,List.length_append];have:(aj (Lib.encodeRune ((32:Nat):Int))).length=1:=rfl;omega
     clear h1 k1;go_wp2_with (first
      | (go_at_call 213;refine (lM _ _ Dk).mono ?_;rintro e w' ⟨rfl,rfl⟩)
      | (go_at_call 82;refine (dh w.heap.size w.heap.size _ _ (by omega) (by omega) _ h1' Pj Va).mono ?_;rintro e w3 ⟨⟨v,rfl⟩,h2,b2,k2⟩))
     have qj:=Lib.hid (k2.iter uj.out (by omega));have dS:Hid (w3.iterPos (w.heap.size+1)=pos+k):=Lib.hid (by simp only [World.iterPos,qj.out]);go_wp2
     go_roundw
     case rel=>exact ⟨pos+k,D++[x],false,_,rfl,fY h2,hf2,qj,tB,(hb2.trans b1).trans b2⟩
     case measure=>rw [hpos.out,dS.out];omega
    ·have Uc:g=false∨O=[]:=by
      cases g with
      | false=>exact .inl rfl
      | true=>exact .inr (by by_cases h:O=[];exact h;exact absurd ⟨rfl,h⟩ hgo)
     have hf2:=Lib.hid (hst.out.2.2 hbl Uc);have uK:g=false∨(g=true∧n=0):=by
      cases g with
      | false=>exact .inl rfl
      | true=>exact .inr ⟨rfl,hO0.out.1 (Uc.resolve_left (by simp))⟩
     clear hgo Uc;have XQ:(aj (Ru.enc O)).length+4≤140737488355328:=by omega
     rcases uK with rfl | ⟨rfl,hn0⟩
     ·go_wp2_with (first
       | (go_at_call 212;refine (eO _ _).mono ?_;rintro e w' ⟨rfl,rfl⟩)
       | (go_at_call 213;refine (lM _ _ Dk).mono ?_;rintro e w' ⟨rfl,rfl⟩)
       | (go_at_call 82;refine (dh w.heap.size w.heap.size _ _ (by omega) (by omega) _ mb XQ hz2).mono ?_;rintro e w3 ⟨⟨v,rfl⟩,h2,b2,k2⟩))
      have qj:=Lib.hid (k2.iter gz.out (by omega));have dS:Hid (w3.iterPos (w.heap.size+1)=pos+k):=Lib.hid (by simp only [World.iterPos,qj.out]);go_wp2
      go_roundw
      case rel=>exact ⟨pos+k,D++[x],false,_,rfl,fY h2,hf2,qj,tB,hb2.trans b2⟩
      case measure=>rw [hpos.out,dS.out];omega
     ·subst hn0
      go_wp2_with (first
       | (go_at_call 212;refine (eO _ _).mono ?_;rintro e w' ⟨rfl,rfl⟩)
       | (go_at_call 58;refine (xp w.heap.size w.heap.size _ 0 hn.out _ mb).mono ?_;rintro e w' ⟨rfl,rfl⟩)
       | (go_at_call 213;refine (lM _ _ Dk).mono ?_;rintro e w' ⟨rfl,rfl⟩)
       | (go_at_call 82;refine (dh w.heap.size w.heap.size _ _ (by omega) (by omega) _ mb XQ hz2).mono ?_;rintro e w3 ⟨⟨v,rfl⟩,h2,b2,k2⟩))
      have qj:=Lib.hid (k2.iter gz.out (by omega));have dS:Hid (w3.iterPos (w.heap.size+1)=pos+k):=Lib.hid (by simp only [World.iterPos,qj.out]);go_wp2
      go_roundw
      case rel=>exact ⟨pos+k,D++[x],false,_,rfl,fY h2,hf2,qj,tB,hb2.trans b2⟩
      case measure=>rw [hpos.out,dS.out];omega
  ·have jr:=bZ hit.out hp
   have Rp:=kW hp hD.out;have hO:O=Ru.fold (Ru.aP l):=by unfold Ru.fold;rw [← Rp,hfo.out]
   subst hO;clear hD Rp hfo;have hz:w.heap.size≤wr.heap.size:=by omega
   go_wp2_with fail;refine (lP w.heap.size w.heap.size _ _ hI hz).mono ?_;rintro e w3 ⟨rfl,b3⟩;go_wp2;go_ret;exact ⟨rfl,hb.trans b3⟩
def bU (x:Nat):Bool:=decide (97≤x∧x≤122)
theorem KM {x:Nat}(h:Ru.bl x=true):bU (Ru.sZ x)=false:=by
 rw [Ru.FI] at h;unfold bU Ru.sZ;refine decide_eq_false ?_;split<;>omega
theorem DF (X:List Nat):(Ru.fold X).filter bU=(X.map Ru.sZ).filter bU:=by
 unfold Ru.fold;refine Ru.xz (P:=fun X=>(Ru.ep X).2.filter bU=(X.map Ru.sZ).filter bU) rfl ?_ X;intro X x ih;rw [Ru.lG,List.map_append,List.filter_append,← ih];unfold Ru.zx;cases hb:Ru.bl x with
 | true=>simp [KM hb]
 | false =>
  simp only [Bool.false_eq_true,if_false,List.filter_append,List.map_cons,List.map_nil];congr 1
  split
  ·rw [List.filter_append]
   have:([32]:List Nat).filter bU=[]:=rfl;rw [this,List.append_nil]
  ·rfl
theorem Hw (X:List Nat):Ru.enc (X.filter bU)=(X.filter bU).map UInt8.ofNat:=by
 induction X with
 | nil=>rfl
 | cons x X ih =>
  rw [List.filter_cons]
  split
  ·rename_i h
   unfold bU at h;have h2:=of_decide_eq_true h;have he:Lib.encodeRune (x:Int)=[UInt8.ofNat x]:=by
    rw [Lib.encodeRune,Lib.encodeRuneZ_one (by omega) (by omega)];rfl
   rw [List.map_cons,← ih];show Lib.encodeRune (x:Int)++_=_;rw [he];rfl
  ·exact ih
theorem DD (b:UInt8):bU (Ru.sZ b.toNat)=Lk.small (Lk.low b)∧UInt8.ofNat (Ru.sZ b.toNat)=Lk.low b:=by
 have h:Ru.sZ b.toNat=(Lk.low b).toNat:=by
  unfold Ru.sZ
  split
  ·rename_i h;exact (V6 h.1 h.2).1.symm
  ·rw [Np (by omega)]
 rw [h];exact ⟨rfl,by simp⟩
theorem Kr {l:List UInt8}(h:∀ b∈l,128≤b.toNat):Lk.word l=[]:=by
 unfold Lk.word;rw [List.filter_eq_nil_iff];intro b hb;obtain ⟨c,hc,rfl⟩:=List.mem_map.1 hb;have:=h c hc;rw [Np (by omega)];intro hs;have:=(Lk.nZ _).1 hs;omega
theorem DE (a b:List UInt8):Lk.word (a++b)=Lk.word a++Lk.word b:=by unfold Lk.word;rw [List.map_append,List.filter_append]
theorem wT:∀ (n:Nat) (l:List UInt8),l.length≤n→(((Ru.aP l).map Ru.sZ).filter bU).map UInt8.ofNat=Lk.word l
 | 0,l,h=>by obtain rfl:l=[]:=List.eq_nil_of_length_eq_zero (by omega);rfl
 | n+1,l,h=>by
  by_cases hl:0<l.length
  ·obtain ⟨x,k,hk,hkl,hd,_,DN,hc⟩:=dN hl
   have hr:Ru.aP l=x::Ru.aP (l.drop k):=by
    have:=Ru.Dp (l:=l) (pos:=0) hl;change Ru.aP (l.drop 0)=(Utf8.decode (bs l) 0).1::Ru.aP (l.drop (0+(Utf8.decode (bs l) 0).2)) at this;rw [hd] at this;simpa using this
   have ih:=wT n (l.drop k) (by rw [List.length_drop];omega);rw [hr,List.map_cons,List.filter_cons];have hs:Lk.word l=Lk.word (l.take k)++Lk.word (l.drop k):=by rw [← DE,List.take_append_drop]
   rw [hs,← ih];rcases hc with ⟨h1,rfl,rfl⟩ | ⟨h1,h2,h3⟩
   ·have ht:l.take 1=[l[0]]:=by rw [List.take_succ_eq_append_getElem hl];rfl
    obtain ⟨e1,e2⟩:=DD l[0];rw [ht,e1];unfold Lk.word;rw [List.map_cons,List.map_nil,List.filter_cons];cases hq:Lk.small (Lk.low l[0]) with
    | true=>simp only [if_true,List.map_cons,e2];rfl
    | false=>simp
   ·rw [if_neg (by unfold bU Ru.sZ;rw [decide_eq_true_iff];split<;>omega)]
    rw [Kr (l:=l.take k) (fun b hb=>by
     obtain ⟨j,hj,rfl⟩:=List.mem_iff_getElem.1 hb;rw [List.length_take] at hj;rw [List.getElem_take];exact h3 j (by omega) (by omega) (by omega))]
    rfl
  ·obtain rfl:l=[]:=List.eq_nil_of_length_eq_zero (by omega);rfl
theorem KX (l:List UInt8):Ru.enc ((Ru.fold (Ru.aP l)).filter bU)=Lk.word l:=by
 rw [Hw,DF,wT l.length l (Nat.le_refl _)]
def XC (l:List UInt8):Nat:=(Ru.aP l).headD 0
def Xd (l:List UInt8):Nat:=(Ru.aP l).getLastD 0
theorem F0 (w:World) :
  Calls Tryz.prog 247 #[.string (bs [])] w fun e w'=>e=.returned (.tuple #[.int .i32 0,.bool false])∧Below w.heap.size w w':=by
 go_enter Tryz.func247,Tryz.ntmps247;go_wp2
 go_loopw [] (fun wr=>Hid (wr.heap[w.heap.size]? = some (.stringIter (bs []) 0))∧Below w.heap.size w wr) (fun _=>0)
 case atStart=>exact ⟨Lib.hid (jo _ _ _ rfl),aa _ _⟩
 case round =>
  obtain ⟨hit,hb⟩:=hrel;have jr:=bZ hit.out (Nat.lt_irrefl 0);go_wp2;go_ret2;exact ⟨rfl,hb⟩
theorem EZ (l:List UInt8) (hne:l≠[]) (w:World) :
  Calls Tryz.prog 247 #[.string (bs l)] w fun e w'=>e=.returned (.tuple #[.int .i32 (XC l:Int),.bool true])∧Below w.heap.size w w':=by
 have hp:0<l.length:=List.length_pos_iff.2 hne;obtain ⟨x,k,hk,hv,hd,tB⟩:=di (D:=[]) hp rfl;have hx:XC l=x:=by unfold XC;rw [← tB];rfl
 replace hx:=Lib.hid hx;replace hne:=Lib.hid hne;clear tB;go_enter Tryz.func247,Tryz.ntmps247;go_wp2
 go_loopw [] (fun wr=>Hid (wr.heap[w.heap.size]? = some (.stringIter (bs l) 0))∧Below w.heap.size w wr) (fun _=>0)
 case atStart=>exact ⟨Lib.hid (jo _ _ _ rfl),aa _ _⟩
 case round =>
  obtain ⟨hit,hb⟩:=hrel;have jr:=bK hit.out hp hd;replace hd:=Lib.hid hd;go_wp2;go_ret2;exact ⟨by rw [hx.out];rfl,Lib.below_iterAt hb (Nat.le_refl _) _ _⟩
abbrev Tabs (w:World):Prop:=Lib.Utf8Tabs 2 3 w
theorem Ku (w:World) :
  Calls Tryz.prog 246 #[.string (bs [])] w fun e w'=>e=.returned (.tuple #[.int .i32 0,.bool false])∧Below w.heap.size w w':=by
 have h0:(bs []).toList=[]:=bG [];go_enter Tryz.func246,Tryz.ntmps246;go_wp2;go_ret2;exact ⟨rfl,Below.refl _ _⟩
theorem Kp (l:List UInt8) (hne:l≠[]) (w:World) (hs:l.length≤1000000000000) (hT:Tabs w) :
  Calls Tryz.prog 246 #[.string (bs l)] w fun e w'=>e=.returned (.tuple #[.int .i32 (Xd l:Int),.bool true])∧Below w.heap.size w w':=by
 have h0:(bs l).toList.isEmpty=false:=by rw [bG];simpa using hne
 have hx:((Lib.decodeLastL (bs l).data.toList).1)=Xd l:=by
  unfold Xd;have:=Ru.Gd l hne;rw [List.getLastD_eq_getLast?,this];simp [bs]
 replace hx:=Lib.hid hx;replace hne:=Lib.hid hne;replace hT:=Lib.hid hT;go_enter Tryz.func246,Tryz.ntmps246;go_wp2_with (go_at_call 191;refine (Tryz.utf8_DecodeLastRuneInString (bs l) _ (by rw [au];omega) hT.out).mono ?_;rintro e w' ⟨rfl,hb⟩);go_ret2;exact ⟨by rw [hx.out];rfl,hb⟩
theorem cy {w w':World}(h:Tabs w) (hb:Below w.heap.size w w'):Tabs w':=Utf8Tabs_below h hb
theorem xP (w:World):jZ w.heap.size w.heap.size (Lib.byteCells (Ru.enc [])) (w.alloc (.cells #[.pointer none,.slice none 0 0] 54)) :=
 Lib.IsBuilderF.of (Lib.fresh_isBuilder 54 5 w)
theorem AI (w:World) (o:Obj) (l:List UInt8):((w.alloc o).alloc (.stringIter (bs l) 0)).heap[w.heap.size+1]? = some (.stringIter (bs l) 0):=by
 have:=heap_alloc_new (w.alloc o) (.stringIter (bs l) 0);simpa using this
theorem xX (w:World) (o p:Obj):Below w.heap.size w ((w.alloc o).alloc p):=((Below.refl _ w).alloc (Nat.le_refl _) _).alloc (by simp) _
theorem Nn (l:List UInt8) (A:Option Addr) (c:Nat) (w:World) (hR:Row w w.heap.size 1 A l.length (aj l)) (hs:l.length≤1000000000) :
  Calls Tryz.prog 52 #[.slice A l.length c] w fun e w'=>e=.returned (.string (bs (Ru.text l)))∧Below w.heap.size w w':=by
 have hcv:=kO (c:=c) (hR.alloc (Nat.le_refl _) (.cells #[.pointer none,.slice none 0 0] 54)) 27 5 9 Tryz.underlying27 Tryz.underlying5 Tryz.underlying9;clear hR;go_enter Tryz.func52,Tryz.ntmps52;go_wp2
 go_loopw [] (fun wr=>∃ (pos:Nat) (D:List Nat),jZ w.heap.size w.heap.size (Lib.byteCells (Ru.enc (D.map Ru.zr))) wr∧Hid (wr.heap[w.heap.size+1]? = some (.stringIter (bs l) pos))∧Hid (D++Ru.aP (l.drop pos)=Ru.aP l)∧Below w.heap.size w wr)
  (fun wr=>l.length-wr.iterPos (w.heap.size+1))
 case atStart=>exact ⟨0,[],(xP w).alloc _,Lib.hid (AI _ _ _),Lib.hid rfl,xX _ _ _⟩
 case round =>
  obtain ⟨pos,D,hI,hit,hD,hb⟩:=hrel;have hdl:=lK hD.out;have hlt:w.heap.size+1<wr.heap.size:=(Array.getElem?_eq_some_iff.1 hit.out).1
  by_cases hp:pos<l.length
  ·obtain ⟨x,k,hk,hv,hd,tB⟩:=di hp hD.out
   have jr:=bK hit.out hp hd;replace tB:=Lib.hid tB;replace hd:=Lib.hid hd;have gz:=Lib.hid (Lib.iterAt_heap wr (w.heap.size+1) (bs l) pos (pos+k) hit.out);have hb2:=Lib.below_iterAt hb (k:=w.heap.size+1) (by omega) (bs l) (pos+k);have mb:jZ _ _ _ _:=hI.iterAt hit.out (pos+k);have hpos:Hid (wr.iterPos (w.heap.size+1)=pos):=Lib.hid (by simp only [World.iterPos,hit.out]);have hz2:w.heap.size≤(wr.iterAt (w.heap.size+1) (bs l) (pos+k)).heap.size:=by rw [Lib.iterAt_size];omega
   have hl4:=(Ru.gf (D.map Ru.zr)).2;rw [List.length_map] at hl4;have Dk:x≤1114111:=by unfold Ru.vr at hv;omega
   have hzx:Hid (Ru.zr x=if x=0 then 65533 else x):=Lib.hid rfl;have hlen:(Lib.byteCells (Ru.enc (D.map Ru.zr))).length+4≤140737488355328:=by rw [Lib.byteCells_length];omega
   have hend:∀ (z:Nat) (wz:World),z=Ru.zr x→jZ w.heap.size w.heap.size (Lib.byteCells (Ru.enc (D.map Ru.zr))++Lib.runeCells (z:Int)) wz→jZ w.heap.size w.heap.size (Lib.byteCells (Ru.enc ((D++[x]).map Ru.zr))) wz:=by
    intro z wz hz h;subst hz;rw [List.map_append,List.map_cons,List.map_nil,Ru.nE,Lib.byteCells_append,Lib.byteCells_encodeRune];exact h
   replace hend:=Lib.hid hend
   by_cases h0:x=0
   ·have ht:(((x:Nat):Int)==0)=true:=by simp [h0]
    have hz:65533=Ru.zr x:=by rw [hzx.out,if_pos h0]
    replace hz:=Lib.hid hz;replace h0:=Lib.hid h0;go_wp2_with (go_at_call 82;refine (dh w.heap.size w.heap.size _ 65533 (by omega) (by omega) _ mb hlen hz2).mono ?_;rintro e w2 ⟨⟨v,rfl⟩,h1,b1,k1⟩);have uj:Hid (w2.heap[w.heap.size+1]? = some (.stringIter (bs l) (pos+k))):=Lib.hid (k1.iter gz.out (by omega));have dS:Hid (w2.iterPos (w.heap.size+1)=pos+k):=Lib.hid (by simp only [World.iterPos,uj.out]);go_wp2
    go_roundw
    case rel=>exact ⟨pos+k,D++[x],hend.out 65533 _ hz.out h1,uj,tB,hb2.trans b1⟩
    case measure=>rw [hpos.out,dS.out];omega
   ·have ht:(((x:Nat):Int)==0)=false:=by simp [h0]
    have hz:x=Ru.zr x:=by rw [hzx.out,if_neg h0]
    replace hz:=Lib.hid hz;replace h0:=Lib.hid h0;go_wp2_with (go_at_call 82;refine (dh w.heap.size w.heap.size _ _ (by omega) (by omega) _ mb hlen hz2).mono ?_;rintro e w2 ⟨⟨v,rfl⟩,h1,b1,k1⟩);have uj:Hid (w2.heap[w.heap.size+1]? = some (.stringIter (bs l) (pos+k))):=Lib.hid (k1.iter gz.out (by omega));have dS:Hid (w2.iterPos (w.heap.size+1)=pos+k):=Lib.hid (by simp only [World.iterPos,uj.out]);go_wp2
    go_roundw
    case rel=>exact ⟨pos+k,D++[x],hend.out x _ hz.out h1,uj,tB,hb2.trans b1⟩
    case measure=>rw [hpos.out,dS.out];omega
  ·have jr:=bZ hit.out hp
   have Rp:=kW hp hD.out;clear hD;subst Rp;go_wp2_with (go_at_call 27;refine (Tryz.Builder_String_any_k w.heap.size w.heap.size _ _ hI (by omega)).mono ?_;rintro e w2 ⟨rfl,_,b1,_⟩);go_wp2;go_ret;exact ⟨rfl,hb.trans b1⟩
end Go.Proofs.YtddkjkockbcamaaGreatDoor
