/- EmProg EmSame EmMatches EmReal IlPre PgBal -/
import Derived.Test.YtddkjkockbcamaaGreatDoorHw20
import Derived.Test.YtddkjkockbcamaaGreatDoorHw28
import Derived.Test.YtddkjkockbcamaaGreatDoorHw19
import Derived.Test.YtddkjkockbcamaaGreatDoorHw18
import Derived.Deep.DeepCutAuto
import Derived.Test.YtddkjkockbcamaaGreatDoorHw29
import Derived.Test.YtddkjkockbcamaaGreatDoorHw04
import Derived.Test.YtddkjkockbcamaaGreatDoorHw03
import Derived.Deep.QuietTactic
import Derived.BigQuiet
set_option maxHeartbeats 16000000
set_option maxRecDepth 100000
namespace Go.Proofs.YtddkjkockbcamaaGreatDoor
open Go.RowKit
theorem SM {l:List UInt8}{j:Nat}(h:j<l.length):hdR (l.drop j)=Em.behind l j:=by
 unfold hdR;rw [Em.Mo h,Ru.eB (by intro he;have:=congrArg List.length he;simp at this;omega)]
 rfl
theorem QI {l:List UInt8}{k:Nat}(h:0<k) (hk:k≤l.length):ltR (l.take k)=Em.ahead l k:=by
 unfold ltR Em.ahead;rcases List.eq_nil_or_concat (Ru.aS (l.take k)) with he | ⟨r,x,he⟩
 ·have:=congrArg List.length (Ru.C6.1 he)
  rw [List.length_take,Nat.min_eq_left hk,List.length_nil] at this;omega
 ·rw [he];simp
theorem Fy (l:List UInt8) (k j:Nat) (hs:l.length≤1000000000000) (hk:k≤l.length) (hj:j≤l.length) (w:World) (hT:Tabs w) :
  Calls Tryz.prog 239 #[.string (bs l),.int .i64 (k:Int),.int .i64 (j:Int)] w fun e w'=>e=.returned (.tuple #[.int .i32 (Em.ahead l k:Int),.int .i32 (Em.behind l j:Int)])∧Below w.heap.size w w':=by
 have hu:=fun w=>oS (S:=l) hk w;have hf:=fun w=>cB (S:=l) hj w;obtain ⟨A,hA⟩:∃ A,A=Em.ahead l k:=⟨_,rfl⟩
 obtain ⟨B,hB⟩:∃ B,B=Em.behind l j:=⟨_,rfl⟩
 have q1:(A=32∧∀ w:World,Calls Tryz.prog 246 #[.string (bs (l.take k))] w fun e w'=>e=.returned (.tuple #[.int .i32 0,.bool false])∧Below w.heap.size w w') ∨
   (∀ w:World,Tabs w→Calls Tryz.prog 246 #[.string (bs (l.take k))] w fun e w'=>e=.returned (.tuple #[.int .i32 (A:Int),.bool true])∧Below w.heap.size w w'):=by
  rcases Nat.eq_zero_or_pos k with h0 | h0
  ·subst h0
   exact .inl ⟨hA,fun w=>N5 w⟩
  ·refine .inr fun w hw=>?_
   rw [hA,← QI h0 hk];exact Mi (l.take k) (by intro he;have:=congrArg List.length he;rw [List.length_take,Nat.min_eq_left hk,List.length_nil] at this;omega) w (by simp;omega) hw
 have q2:(B=32∧∀ w:World,Calls Tryz.prog 247 #[.string (bs (l.drop j))] w fun e w'=>e=.returned (.tuple #[.int .i32 0,.bool false])∧Below w.heap.size w w') ∨
   (∀ w:World,Calls Tryz.prog 247 #[.string (bs (l.drop j))] w fun e w'=>e=.returned (.tuple #[.int .i32 (B:Int),.bool true])∧Below w.heap.size w w'):=by
  rcases Nat.lt_or_ge j l.length with h0 | h0
  ·refine .inr fun w=>?_
   rw [hB,← SM h0];exact Ju (l.drop j) (by intro he;have:=congrArg List.length he;simp at this;omega) w
  ·refine .inl ⟨by rw [hB,Em.Ku (by omega)],fun w=>?_⟩
   rw [List.drop_of_length_le h0];exact JO w
 rw [← hA,← hB];clear hA hB hk hj hs;generalize l.take k=T1 at *;generalize l.drop j=T2 at *;replace hT:=Lib.hid hT;rcases q1 with ⟨rfl,q1⟩ | q1
 ·rcases q2 with ⟨rfl,q2⟩ | q2
  all_goals
   go_enter Tryz.func239,Tryz.ntmps239;go_wp2_with fail;refine (q1 _).mono ?_;rintro e w1 ⟨rfl,hb1⟩;replace hb1:=Lib.hid hb1;go_wp2_with fail;refine (q2 _).mono ?_;rintro e w2 ⟨rfl,hb2⟩;replace hb2:=Lib.hid (ag hb1.out hb2);go_wp2_with fail;go_ret2;exact ⟨rfl,hb2.out⟩
 ·rcases q2 with ⟨rfl,q2⟩ | q2
  all_goals
   go_enter Tryz.func239,Tryz.ntmps239;go_wp2_with fail;refine (q1 _ hT.out).mono ?_;rintro e w1 ⟨rfl,hb1⟩;replace hb1:=Lib.hid hb1;go_wp2_with fail;refine (q2 _).mono ?_;rintro e w2 ⟨rfl,hb2⟩;replace hb2:=Lib.hid (ag hb1.out hb2);go_wp2_with fail;go_ret2;exact ⟨rfl,hb2.out⟩
theorem N1 (l:List UInt8) (at_:Int) (hs:l.length≤1000000000000) (h0:Em.starts l at_=false) (w:World) :
  Calls Tryz.prog 224 #[.string (bs l),.int .i64 at_] w fun e w'=>e=.returned (tf none)∧Below w.heap.size w w':=by
 have q:=fun w=>wk l at_ hs w;rw [h0] at q;clear h0;go_enter Tryz.func224,Tryz.ntmps224;go_wp2_with fail;refine (q _).mono ?_;rintro e w1 ⟨rfl,hb1⟩;clear q;obtain ⟨z0,z1,z2,z3,z4⟩:=dX hb1;replace hb1:=Lib.hid hb1;go_wp2_with fail;exact bodyPost_ret (v:=tf none) (by rw [cG rfl];go_simp;rfl) rfl ⟨rfl,fI hb1.out _ _ _ _⟩
theorem zC {w w5:World}{g:Nat}{a b c d v:Value}{t:TypeId}(h:w.heap[g]? = some (.cells #[a,b,c,d] t (0,0))) (hw:w.setCell ⟨g,2,none⟩ v=w5):w5.heap[g]? = some (.cells #[a,b,v,d] t (0,0)):=by
 rw [← hw];exact heap_setCell_same w g 2 _ _ v h
theorem adF {w w5:World}{g:Nat}{a b c d v:Value}{t:TypeId}(h:w.heap[g]? = some (.cells #[a,b,c,d] t (0,0))) (hw:w.setCell ⟨g,3,none⟩ v=w5):w5.heap[g]? = some (.cells #[a,b,c,v] t (0,0)):=by
 rw [← hw];exact heap_setCell_same w g 3 _ _ v h
theorem Ca {B:Nat}{a w w5:World}{p:Addr}{v:Value}(h:Below B a w) (hg:B≤p.block) (hw:w.setCell p v=w5):Below B a w5:=by rw [← hw];exact h.setCell hg v
theorem Pu (l:List UInt8) (k n:Nat) (c:UInt8) (hs:l.length≤1000000000000) (hk:k<l.length) (hc:l[k]=c) (hn:n=Fn.run c (l.drop k)) (h0:Em.starts l (k:Int)=true) (t:Bool) (ht:((c.toNat:Int)==95)=t) (J:Em.R)
  (hJ:J=Em.qv c n (Em.ahead l k) (Em.behind l (k+n))) (w:World) (hT:Tabs w) :
  Calls Tryz.prog 224 #[.string (bs l),.int .i64 (k:Int)] w fun e w'=>e=.returned (tf (some (J,k+n)))∧Below w.heap.size w w':=by
 have hin:k+n≤l.length:=by rw [hn,← hc];exact Em.aaa hk _
 have q1:=fun w=>wk l (k:Int) hs w;have q2:=fun w=>SF l k c w hs (by omega);have q3:=fun w hw=>Fy l k (k+n) hs (by omega) hin w hw;have hix:=fun w=>bG hk w;rw [← hn] at q2;rw [hc] at hix;rw [h0] at q1;have hwr:IntKind.i64.wrap ((k:Int)+(n:Int))=((k+n:Nat):Int):=by rw [IntKind.wrap_i64];omega
 obtain ⟨m,hm⟩:∃ m,m=k+n:=⟨_,rfl⟩
 rw [← hm] at hwr q3 hJ ⊢;obtain ⟨b,hb⟩:∃ b,b=Em.ahead l k:=⟨_,rfl⟩
 obtain ⟨a,ha⟩:∃ a,a=Em.behind l m:=⟨_,rfl⟩
 rw [← hb,← ha] at q3 hJ;have q4:=fun w=>yb a b w;have q5:=fun w=>yb b a w;have q6:=fun w=>lY (b:Int) w;have q7:=fun w=>lY (a:Int) w;have ZE:t=false→J=⟨c,n,Em.jn b a,Em.jn a b⟩:=by
  intro h;rw [hJ];unfold Em.qv;rw [if_neg];rintro rfl;rw [h] at ht;exact absurd ht (by decide)
 have hJ1:t=true→J=⟨c,n,Em.jn b a&&(!Em.jn a b||gP b),Em.jn a b&&(!Em.jn b a||gP a)⟩:=by
  intro h;rw [hJ];unfold Em.qv;rw [if_pos];rw [h] at ht;have h1:(c.toNat:Int)=95:=by simpa using ht
  have h2:(95:UInt8).toNat=95:=rfl;exact UInt8.toNat_inj.1 (by omega)
 clear hJ hn hc h0;obtain ⟨x,hx⟩:∃ x,x=Em.jn b a:=⟨_,rfl⟩
 obtain ⟨y,hy⟩:∃ y,y=Em.jn a b:=⟨_,rfl⟩
 obtain ⟨PB,hPB⟩:∃ y,y=gP b:=⟨_,rfl⟩
 obtain ⟨PA,Xr⟩:∃ y,y=gP a:=⟨_,rfl⟩
 rw [← hx] at q4 ZE hJ1;rw [← hy] at q5 ZE hJ1;rw [← hPB] at q6 hJ1;rw [← Xr] at q7 hJ1;clear hx hy hPB Xr ha hb;have hkn:k≤1000000000000:=by omega
 have hnn:n≤1000000000000:=by omega
 clear hin hm hk hs;replace hT:=Lib.hid hT;replace ZE:=Lib.hid ZE;replace hJ1:=Lib.hid hJ1;go_enter Tryz.func224,Tryz.ntmps224;go_wp2_with fail;refine (q1 _).mono ?_;rintro e w1 ⟨rfl,hb1⟩;have hA:=Lib.hid (ag (aa w _) hb1);replace hb1:=Lib.hid hb1;go_wp2_with fail;refine (q2 _).mono ?_;rintro e w2 ⟨rfl,rfl⟩;go_wp2_with fail;refine (q3 _ (cM hT.out hA.out)).mono ?_;rintro e w2 ⟨rfl,hb2⟩;replace hb1:=Lib.hid (ag hb1.out hb2);replace hA:=Lib.hid (ag hA.out hb2);go_wp2_with fail;refine (q4 _).mono ?_;rintro e w3 ⟨rfl,rfl⟩;go_wp2_with fail;refine (q5 _).mono ?_;rintro e w3 ⟨rfl,rfl⟩;clear q1 q2 q3 q4 q5;go_upto_region 9 with fail
 generalize hw4:World.alloc w2 _=w4;have h4:w4.heap[w2.heap.size]? = some (.cells #[.int .u8 (c.toNat:Int),.int .i64 (n:Int),.bool x,.bool y] 240 (0,0)):=by rw [← hw4];exact heap_alloc_new _ _
 have iO:=ag hA.out (show Below w2.heap.size w2 w4 from by rw [← hw4];exact aa _ _);have hb4:=ag hb1.out (show Below w2.heap.size w2 w4 from by rw [← hw4];exact aa _ _);have hg2:=hb1.out.size;clear hw4 hb2 hb1;cases t with
 | false =>
  have hJ:=ZE.out rfl;clear ZE hJ1;subst hJ;obtain ⟨y0,y1,y2,y3⟩:=four h4;obtain ⟨z0,z1,z2,z3,z4⟩:=dX hb4;replace hb4:=Lib.hid hb4;replace h4:=Lib.hid h4;go_wp2_with fail;exact bodyPost_ret (v:=tf (some (⟨c,n,x,y⟩,m))) (by rw [cG rfl];unfold tf yh;go_simp) rfl ⟨rfl,fI hb4.out _ _ _ _⟩
 | true =>
  have hJ:=hJ1.out rfl;clear ZE hJ1;subst hJ;have hfz:∀ j,w4.frozen? ⟨w2.heap.size,j,none⟩=false:=bf h4;obtain ⟨y0,y1,y2,y3⟩:=four h4;replace hb4:=Lib.hid hb4;replace h4:=Lib.hid h4;cases x<;>cases y
  all_goals
   go_upto_region 11 with (go_at_call 241;refine (q6 _).mono ?_;rintro e w5 ⟨rfl,rfl⟩)
   generalize TX:World.setCell w4 _ _=w5;have k5:=zC h4.out TX;have kb5:=Ca hb4.out hg2 TX;clear TX y0 y1 y2 y3 hfz;have hfz:∀ j,w5.frozen? ⟨w2.heap.size,j,none⟩=false:=bf k5;obtain ⟨y0,y1,y2,y3⟩:=four k5;replace k5:=Lib.hid k5;replace kb5:=Lib.hid kb5;go_upto_region 12 with (go_at_call 241;refine (q7 _).mono ?_;rintro e w5 ⟨rfl,rfl⟩)
   generalize hw6:World.setCell w5 _ _=w6;have k6:=adF k5.out hw6;have kb6:=Ca kb5.out hg2 hw6;clear hw6 y0 y1 y2 y3 hfz;obtain ⟨y0,y1,y2,y3⟩:=four k6;obtain ⟨z0,z1,z2,z3,z4⟩:=dX kb6;replace kb6:=Lib.hid kb6;replace k6:=Lib.hid k6;go_wp2_with fail;exact bodyPost_ret (by rw [cG rfl];unfold tf yh;go_simp) rfl ⟨rfl,fI kb6.out _ _ _ _⟩
theorem Bb (l:List UInt8) (at_:Int) (hs:l.length≤1000000000000) (w:World) (hT:Tabs w) :
  Calls Tryz.prog 224 #[.string (bs l),.int .i64 at_] w fun e w'=>e=.returned (tf (Em.kind l at_))∧Below w.heap.size w w':=by
 cases h0:Em.starts l at_ with
 | false =>
  rw [Em.Gb h0];exact N1 l at_ hs h0 w
 | true =>
  obtain ⟨h1,h2,_⟩:=of_decide_eq_true h0;obtain ⟨k,rfl⟩:∃ k:Nat,at_=(k:Int):=⟨at_.toNat,by omega⟩
  have hk:k<l.length:=by omega
  rw [Em.WJ hk h0];exact Pu l k _ _ hs hk rfl rfl h0 _ rfl _ rfl w hT
theorem JK (l:List Em.R) (A:Option Addr) (c:Nat) (w:World) (h:Row w w.heap.size 4 A l.length (aG l)) (hl:l.length≤4000000) :
  Calls Tryz.prog 201 #[.slice A l.length c] w fun e w'=>(∃ v,e=.returned v∧w'.ownsRow w.heap.size 241 3 v (Em.pairs l).length (iE (Em.pairs l)))∧Below w.heap.size w w':=by
 have hR:=Lib.hid h;clear h;go_enter Tryz.func201,Tryz.ntmps201;go_upto_region 1 with fail
 refine QW (l:=l) (A:=A) (c:=c) (fun _ _ d _ _ h=>by cases d<;>exact h) ?_ hR.out hl;intro b v v12 w1 Qx hB1;have hlh:(Em.hold l).length=l.length:=by simp [Em.hold]
 have hH:=Lib.hid (Em.Nl l);obtain ⟨fin,aP⟩:∃ fin,fin=Em.outer (Em.hold l) l.length 0 ((Em.hold l).map (fun r=>Em.held r.n),[]):=⟨_,rfl⟩
 have hres:Hid (fin.2=Em.pairs l):=Lib.hid (by rw [← Em.Ih l,aP];unfold Em.pairs;rw [hlh]);have lX:=Em.tJ (Em.hold l);rw [hlh] at lX;obtain ⟨vr,vl,vo,vn,vp⟩:=v;obtain ⟨Ar,cr,JY,hcr⟩:=ak Qx.IK;obtain ⟨_,abq,aeI,m0,m1,m2,m3,m4⟩:=Qx.blk;simp only [hlh] at JY m0 hcr;subst JY;replace Qx:=Lib.hid Qx;replace hB1:=Lib.hid hB1;replace lX:=Lib.hid lX;replace aP:=Lib.hid aP;clear m1 m2 m3 m4 aeI;go_wp2_with fail
 go_loopw [16] (fun u wr=>∃ (k:Nat) (st:Em.St) (v:Vs) (L O N:List Nat),k≤l.length∧u=.int .i64 k∧Hid (v.r=.slice Ar l.length cr)∧Hid (PM w.heap.size b none v (Em.hold l) L O N st.2 wr)∧Hid (Em.Ab (Em.hold l) k st L O N) ∧
   Hid (Em.outer (Em.hold l) (l.length-k) k st=fin)∧Hid (Below w.heap.size w wr)) (fun u _=>l.length-(intOf u).toNat)
 case atStart=>exact ⟨0,_,_,_,_,_,Nat.zero_le _,rfl,Lib.hid rfl,Qx,lX,Lib.hid aP.out.symm,hB1⟩
 case round =>
  obtain ⟨k,st,v,L,O,N,hk,rfl,JY,hM,hS,zU,hB⟩:=hrel;clear Qx hB1 lX aP m0 abq
  by_cases hkl:k<l.length
  ·have wA:Hid (Em.outer (Em.hold l) (l.length-(k+1)) (k+1) (Em.inner (Em.hold l) k st)=fin):=Lib.hid (by
    have h1:=zU.out;rw [show l.length-k=(l.length-(k+1))+1 by omega] at h1;exact h1)
   clear zU;have hkh:k<(Em.hold l).length:=by rw [hlh];exact hkl
   obtain ⟨r,hr⟩:∃ r,r=(Em.hold l)[k]:=⟨_,rfl⟩
   have hgr:Hid (Em.get (Em.hold l) k=r):=Lib.hid (by rw [Em.get_at hkh,hr]);have OX:=hH.out r (by rw [hr];exact List.getElem_mem hkh);obtain ⟨n,hn⟩:∃ n:Nat,n=Em.held r.n:=⟨_,rfl⟩
   have hnr:r.n=(n:Int):=by rw [hn];exact (Em.CT OX.1 OX.2).symm
   have iU:=Em.YQ hS.out hkh;rw [hgr.out,← hn] at iU;have AH:=hM.out;obtain ⟨vr,vl,vo,vn,vp⟩:=v;have abL:=JY.out;obtain ⟨gl,cl,hvl,hcl,hBl,FG⟩:=gK AH.rY (by rw [hS.out.1.len,hlh];omega);have HO:L.length=l.length:=by rw [hS.out.1.len,hlh]
   simp only at abL hvl;subst abL hvl;obtain ⟨gr,rfl⟩:∃ g,Ar=some ⟨g,0,none⟩:=by
    obtain ⟨g,c',hv,_⟩:=gK AH.IK (by rw [hlh];omega);injection hv with h1 _ _;exact ⟨g,h1⟩
   have Fo:=AH.IK;simp only [hlh] at Fo;obtain ⟨x0,x1,x2,x3⟩:=mb Fo hkh;rw [← hr] at x0 x1 x2 x3;have ahB:=(Fo.lt _ rfl).2;replace hr:=Lib.hid hr;replace hn:=Lib.hid hn;replace iU:=Lib.hid iU;have hBz:=hB.out.size;clear Fo hM hS JY;go_upto_region 5 with fail
   generalize hw2:World.alloc wr _=w2;have Lj:PM w.heap.size b (some (.blk wr.heap.size #[.int .u8 (r.ch.toNat:Int),.int .i64 (n:Int),.bool r.o,.bool r.c] 240)) ⟨.slice (some ⟨gr,0,none⟩) l.length cr,.slice (some ⟨gl,0,none⟩) L.length cl,vo,vn,vp⟩ (Em.hold l) L O N st.2 w2:=by rw [← hw2];exact AH.more _ _ hBz
   have hB2:Below w.heap.size w w2:=by rw [← hw2];exact hB.out.alloc hBz _
   clear hw2 x0 x1 x2 x3 AH hB FG;have ET:=Lj.extra;obtain ⟨y0,y1,y2,y3⟩:=four ET;obtain ⟨ahn,jb,ael,m0,m1,m2,m3,m4⟩:=Lj.blk;have II:=Lj.rY;simp only [HO] at m0 m1 II;have lf2:=fun j=>II.frozenAt j;have lv2:=fB II (k:=k) (by omega);have agG:=(II.lt _ rfl).2;have aci:=Lib.hid (Lj.Sb (g:=gl) (c:=cl) rfl k n);replace Lj:=Lib.hid Lj;replace hB2:=Lib.hid hB2;replace II:=Lib.hid II;clear ET m0 m2 m3 m4 y0 y2 y3;go_upto_region 6 with fail
   generalize hw3:World.setCell w2 _ _=w3;have mj:PM w.heap.size b (some (.blk wr.heap.size #[.int .u8 (r.ch.toNat:Int),.int .i64 (n:Int),.bool r.o,.bool r.c] 240)) ⟨.slice (some ⟨gr,0,none⟩) l.length cr,.slice (some ⟨gl,0,none⟩) L.length cl,vo,vn,vp⟩ (Em.hold l) (L.set k n) O N st.2 w3:=by rw [← hw3];exact aci.out
   have jy:Below w.heap.size w w3:=by rw [← hw3];exact hB2.out.setCell (p:=⟨gl,k,none⟩) hBl _
   clear hw3 aci Lj hB2 II lf2 lv2 y1 m1 ael jb;obtain ⟨y0,y1,y2,y3⟩:=four mj.extra;cases hcc:r.c with
   | false =>
    rw [hcc] at y3;have hmid:Hid (∃ v':Vs,v'.r=.slice (some ⟨gr,0,none⟩) l.length cr∧∃ L' O' N',PM w.heap.size b (some (.blk wr.heap.size #[.int .u8 (r.ch.toNat:Int),.int .i64 (n:Int),.bool r.o,.bool r.c] 240)) v' (Em.hold l) L' O' N' (Em.inner (Em.hold l) k st).2 w3∧Em.uD (Em.hold l) k (Em.inner (Em.hold l) k st) L' O' N'∧Below w.heap.size w w3):=Lib.hid (by
     rw [Em.rz (by rw [hgr.out,hcc];simp)];exact ⟨_,rfl,_,_,_,mj,iU.out,jy⟩)
    clear mj jy iU y0 y1 y2;go_upto_region 8 with fail
    obtain ⟨v3,hr3,L3,O3,N3,mj,fG,jy⟩:=hmid.out;clear hmid;have vL:=mj.extra;obtain ⟨y0,y1,y2,y3⟩:=four vL;obtain ⟨r3,l3,o3,n3,p3⟩:=v3;obtain ⟨gl3,cl3,PF,aeG,adx,adl⟩:=gK mj.rY (by rw [fG.1.len,hlh];omega);obtain ⟨Ao3,co3,TL,ad9⟩:=ak mj.zW;simp only at PF TL hr3;subst PF TL hr3;have Zm:L3.length=l.length:=by rw [fG.1.len,hlh]
    obtain ⟨YM,Yh,Kf,m0,m1,m2,m3,m4⟩:=mj.blk;have wm:=mj.rY;simp only [Zm] at m0 m1 m2 wm;have lv3:=fB wm (k:=k) (by omega);obtain ⟨z,hz⟩:∃ z,z=L3[k]:=⟨_,rfl⟩
    rw [← hz] at lv3;have hzl:Em.lf L3 k=z:=by rw [Em.rX (by omega),hz]
    have j7:=Em.Ej fG (by rw [hlh];exact hkl);rw [hzl] at j7;have hOf:=fG.1.xg;have Yq:=jy.size;replace mj:=Lib.hid mj;replace jy:=Lib.hid jy;replace j7:=Lib.hid j7;clear vL wm fG hz hzl m0 m3 m4 y0 y1 y3;cases GB:r.o with
    | false =>
     rw [GB] at y2;have zE:Hid (Em.Ab (Em.hold l) (k+1) (Em.inner (Em.hold l) k st) L3 O3 N3):=Lib.hid (by have:=j7.out;rwa [hgr.out,GB,if_neg (by simp)] at this);clear j7 Kf m1 m2 lv3;go_wp2_with fail
     go_roundw
     case rel=>exact ⟨k+1,_,⟨_,_,_,_,_⟩,L3,O3,N3,hkl,by go_num,Lib.hid rfl,Lib.hid mj.out.less,zE,wA,jy⟩
     case measure=>simp [intOf];omega
    | true =>
     rw [GB] at y2;rcases Nat.eq_zero_or_pos z with hz0 | hz0
     ·subst hz0
      have zE:Hid (Em.Ab (Em.hold l) (k+1) (Em.inner (Em.hold l) k st) L3 O3 N3):=Lib.hid (by have:=j7.out;rwa [if_neg (by omega)] at this);clear j7 Kf m2;go_wp2_with fail
      go_roundw
      case rel=>exact ⟨k+1,_,⟨_,_,_,_,_⟩,L3,O3,N3,hkl,by go_num,Lib.hid rfl,Lib.hid mj.out.less,zE,wA,jy⟩
      case measure=>simp [intOf];omega
     ·have t0:decide ((0:Int)<(z:Int))=true:=decide_eq_true (by omega)
      have t1:decide (0<z)=true:=decide_eq_true hz0;have zE:Hid (Em.Ab (Em.hold l) (k+1) (Em.inner (Em.hold l) k st) L3 (O3++[k]) N3):=Lib.hid (by have:=j7.out;rwa [hgr.out,GB,if_pos ⟨rfl,hz0⟩] at this);clear j7 hz0;go_upto_region 10 with (at_builtin;refine bE rfl (.tmp 42) (.tmp 44) rfl eJ rfl mj.out.zW rfl (by simp) rfl (by simp;rfl) (by omega) (by omega) (by omega) ?_;intro vo7 w7 LB sY eA nY;obtain ⟨A7,c7,rfl,hc7⟩:=ak LB;obtain ⟨TG,m27⟩:=mj.out.atO sY.out;have Ta:b<w7.heap.size:=Nat.lt_of_lt_of_le Yh eA.size)
      generalize Nu:World.setCell w7 _ _=w8;have Wk:=Lib.hid (show PM w.heap.size b none ⟨_,_,.slice A7 (O3.length+1) c7,n3,p3⟩ (Em.hold l) L3 (O3++[k]) N3 (Em.inner (Em.hold l) k st).2 w8 from by
       rw [← Nu];exact (mj.out.Yn sY.out (by simpa [aC] using LB) nY.out).less)
      have Pc:=Lib.hid (show Below w.heap.size w w8 from by rw [← Nu];exact (jy.out.trans eA).setCell (p:=⟨b,2,none⟩) YM _);clear Nu mj jy LB sY eA nY TG m27 Ta Kf m1 m2 lv3 t0 t1;go_wp2_with fail
      go_roundw
      case rel=>exact ⟨k+1,_,⟨_,_,_,_,_⟩,L3,O3++[k],N3,hkl,by go_num,Lib.hid rfl,Wk,zE,wA,Pc⟩
      case measure=>simp [intOf];omega
   | true =>
    rw [hcc] at y3;have q:=I2 k st mj iU.out hkh (by rw [hlh];exact hl) hH.out (by rw [hgr.out,hcc]);replace mj:=Lib.hid mj;replace jy:=Lib.hid jy;clear y0 y1 y2;go_wp2_with fail;refine q.mono ?_;rintro e w4 ⟨rfl,⟨v',hv',L',O',N',PI,Af⟩,tB⟩;have hmid:Hid (∃ v':Vs,v'.r=.slice (some ⟨gr,0,none⟩) l.length cr∧∃ L' O' N',PM w.heap.size b (some (.blk wr.heap.size #[.int .u8 (r.ch.toNat:Int),.int .i64 (n:Int),.bool r.o,.bool r.c] 240)) v' (Em.hold l) L' O' N' (Em.inner (Em.hold l) k st).2 w4∧Em.uD (Em.hold l) k (Em.inner (Em.hold l) k st) L' O' N'∧Below w.heap.size w w4) :=
     Lib.hid ⟨v',hv',L',O',N',PI,Af,jy.out.trans tB⟩
    clear q mj jy iU PI Af tB hv' y3;go_upto_region 8 with fail
    obtain ⟨v3,hr3,L3,O3,N3,mj,fG,jy⟩:=hmid.out;clear hmid;have vL:=mj.extra;obtain ⟨y0,y1,y2,y3⟩:=four vL;obtain ⟨r3,l3,o3,n3,p3⟩:=v3;obtain ⟨gl3,cl3,PF,aeG,adx,adl⟩:=gK mj.rY (by rw [fG.1.len,hlh];omega);obtain ⟨Ao3,co3,TL,ad9⟩:=ak mj.zW;simp only at PF TL hr3;subst PF TL hr3;have Zm:L3.length=l.length:=by rw [fG.1.len,hlh]
    obtain ⟨YM,Yh,Kf,m0,m1,m2,m3,m4⟩:=mj.blk;have wm:=mj.rY;simp only [Zm] at m0 m1 m2 wm;have lv3:=fB wm (k:=k) (by omega);obtain ⟨z,hz⟩:∃ z,z=L3[k]:=⟨_,rfl⟩
    rw [← hz] at lv3;have hzl:Em.lf L3 k=z:=by rw [Em.rX (by omega),hz]
    have j7:=Em.Ej fG (by rw [hlh];exact hkl);rw [hzl] at j7;have hOf:=fG.1.xg;have Yq:=jy.size;replace mj:=Lib.hid mj;replace jy:=Lib.hid jy;replace j7:=Lib.hid j7;clear vL wm fG hz hzl m0 m3 m4 y0 y1 y3;cases GB:r.o with
    | false =>
     rw [GB] at y2;have zE:Hid (Em.Ab (Em.hold l) (k+1) (Em.inner (Em.hold l) k st) L3 O3 N3):=Lib.hid (by have:=j7.out;rwa [hgr.out,GB,if_neg (by simp)] at this);clear j7 Kf m1 m2 lv3;go_wp2_with fail
     go_roundw
     case rel=>exact ⟨k+1,_,⟨_,_,_,_,_⟩,L3,O3,N3,hkl,by go_num,Lib.hid rfl,Lib.hid mj.out.less,zE,wA,jy⟩
     case measure=>simp [intOf];omega
    | true =>
     rw [GB] at y2;rcases Nat.eq_zero_or_pos z with hz0 | hz0
     ·subst hz0
      have zE:Hid (Em.Ab (Em.hold l) (k+1) (Em.inner (Em.hold l) k st) L3 O3 N3):=Lib.hid (by have:=j7.out;rwa [if_neg (by omega)] at this);clear j7 Kf m2;go_wp2_with fail
      go_roundw
      case rel=>exact ⟨k+1,_,⟨_,_,_,_,_⟩,L3,O3,N3,hkl,by go_num,Lib.hid rfl,Lib.hid mj.out.less,zE,wA,jy⟩
      case measure=>simp [intOf];omega
     ·have t0:decide ((0:Int)<(z:Int))=true:=decide_eq_true (by omega)
      have t1:decide (0<z)=true:=decide_eq_true hz0;have zE:Hid (Em.Ab (Em.hold l) (k+1) (Em.inner (Em.hold l) k st) L3 (O3++[k]) N3):=Lib.hid (by have:=j7.out;rwa [hgr.out,GB,if_pos ⟨rfl,hz0⟩] at this);clear j7 hz0;go_upto_region 10 with (at_builtin;refine bE rfl (.tmp 42) (.tmp 44) rfl eJ rfl mj.out.zW rfl (by simp) rfl (by simp;rfl) (by omega) (by omega) (by omega) ?_;intro vo7 w7 LB sY eA nY;obtain ⟨A7,c7,rfl,hc7⟩:=ak LB;obtain ⟨TG,m27⟩:=mj.out.atO sY.out;have Ta:b<w7.heap.size:=Nat.lt_of_lt_of_le Yh eA.size)
      generalize Nu:World.setCell w7 _ _=w8;have Wk:=Lib.hid (show PM w.heap.size b none ⟨_,_,.slice A7 (O3.length+1) c7,n3,p3⟩ (Em.hold l) L3 (O3++[k]) N3 (Em.inner (Em.hold l) k st).2 w8 from by
       rw [← Nu];exact (mj.out.Yn sY.out (by simpa [aC] using LB) nY.out).less)
      have Pc:=Lib.hid (show Below w.heap.size w w8 from by rw [← Nu];exact (jy.out.trans eA).setCell (p:=⟨b,2,none⟩) YM _);clear Nu mj jy LB sY eA nY TG m27 Ta Kf m1 m2 lv3 t0 t1;go_wp2_with fail
      go_roundw
      case rel=>exact ⟨k+1,_,⟨_,_,_,_,_⟩,L3,O3++[k],N3,hkl,by go_num,Lib.hid rfl,Wk,zE,wA,Pc⟩
      case measure=>simp [intOf];omega
  ·have Au:k=l.length:=by omega
   subst Au;have ho:st.2=Em.pairs l:=by
    have h1:=zU.out;rw [Nat.sub_self] at h1;rw [← hres.out,← h1];rfl
   have AH:=hM.out;rw [ho] at AH;obtain ⟨_,nS,hfz,m0,m1,m2,m3,m4⟩:=AH.blk;have hrp:=Lib.hid AH.Wp;obtain ⟨AP,cp,hvp,XL⟩:=ak AH.Wp;rw [hvp] at m4 hrp;clear AH m0 m1 m2 m3 JY hM hS ho;go_wp2_with fail;go_ret;exact ⟨⟨_,rfl,hrp.out⟩,hB.out⟩
def YV:Prop:=∀ (s:List UInt8) (w:World),s.length≤4000000→Tabs w→Calls Tryz.prog 96 #[.string (bs s)] w fun e w' =>
 (∃ v,e=.returned v∧∃ css,w'.ownsRow w.heap.size 35 4 v (Il.parse s).length css.flatten∧iq w' (fun b=>w.heap.size≤b∧b<w'.heap.size) (Il.parse s) css)∧Below w.heap.size w w'
end Go.Proofs.YtddkjkockbcamaaGreatDoor
namespace Go.Proofs.YtddkjkockbcamaaGreatDoor
open Go.RowKit
attribute [local go_sem] aD av aq
namespace Pg
open Go.Lib
def CX (c:UInt8) (l:List UInt8):List UInt8:=l.takeWhile (· != c)
def D4 (c:UInt8) (l:List UInt8):List UInt8:=(l.dropWhile (· != c)).drop 1
theorem p6 (c:UInt8):∀ l:List UInt8,l.contains c=true→l=CX c l++c::D4 c l
 | [],h=>by simp at h
 | b::r,h=>by
  unfold CX D4
  by_cases hb:b=c
  ·subst hb;simp
  ·have hne:(b != c)=true:=by simpa using hb
   have hr:r.contains c=true:=by
    rw [List.contains_iff_mem] at h ⊢;rcases List.mem_cons.1 h with e | e
    ·exact absurd e.symm hb
    ·exact e
   have ih:=p6 c r hr;unfold CX D4 at ih;rw [List.takeWhile_cons_of_pos (by exact hne),List.dropWhile_cons_of_pos (by exact hne),List.cons_append,← ih]
theorem DB (c:UInt8):∀ l:List UInt8,∀ b∈CX c l,b≠c
 | [],_,h=>by simp [CX] at h
 | x::r,b,h=>by
  unfold CX at h
  by_cases hx:(x != c)=true
  ·rw [List.takeWhile_cons_of_pos (by exact hx)] at h
   rcases List.mem_cons.1 h with rfl | h
   ·simpa using hx
   ·exact DB c r b h
  ·rw [List.takeWhile_cons_of_neg (by exact hx)] at h;simp at h
theorem vJ {c:UInt8}{l:List UInt8}(h:l.contains c=false):∀ b∈l,b≠c:=by
 intro b hb he;subst he;rw [← Bool.not_eq_true,List.contains_iff_mem] at h;exact h hb
theorem Lw {c:UInt8}{l:List UInt8}(h:l.contains c=true):(CX c l).length+1+(D4 c l).length=l.length:=by
 have:=congrArg List.length (p6 c l h);rw [List.length_append,List.length_cons] at this;omega
theorem PO {l:List UInt8}(h:l.contains 60=false) (st:List (List UInt8)):Hm.fS l st=st.isEmpty:=by
 have:=Hm.cO l [] st (vJ h);rw [List.append_nil] at this;rw [this];rfl
theorem UD {l:List UInt8}(h:l.contains 60=true) (st:List (List UInt8)):Hm.fS l st=Hm.fS (60::D4 60 l) st:=by
 conv=>lhs;rw [p6 60 l h]
 exact Hm.cO _ _ _ (DB 60 l)
theorem Wf {r:List UInt8}(h:r.contains 62=false) (st:List (List UInt8)):Hm.fS (60::r) st=false:=Hm.Lu (Hm.uw (vJ h)) st
theorem ZR {r:List UInt8}(h:r.contains 62=true) (st:List (List UInt8)):Hm.fS (60::r) st=(match Hm.turn (CX 62 r) st with | none=>false | some st'=>Hm.fS (D4 62 r) st'):=by
 refine Hm.pY ?_ st
 conv=>lhs;rw [p6 62 r h]
 exact Hm.jU _ _ (DB 62 r)
theorem Mc {t:List UInt8}(h:t.getD 0 0=47):Hm.name (t.drop 1)=(Hm.name t).drop 1:=by
 cases t with
 | nil=>exact absurd h (by decide)
 | cons b r =>
  have hb:b=47:=h;subst hb;unfold Hm.name;rw [List.takeWhile_cons_of_pos (by decide)]
  rfl
end Pg
def strOf:Value→Nat
 | .string b=>b.size
 | _=>0
theorem QC (l:List UInt8) (c:UInt8) (hs:l.length≤140737488355328) (w:World) :
  Calls Tryz.prog 47 #[.string (bs l),.string ⟨#[c]⟩] w fun e w'=>e=.returned (.tuple #[.string (bs (Pg.CX c l)),.string (bs (Pg.D4 c l)),.bool (l.contains c)])∧Below w.heap.size w w':=by
 have hsz:=au l;have q:=fun w=>Tryz.stringslite_Index_one (bs l) c w;have hbl:(bs l).data.toList=l:=by simp [bs]
 rw [hbl] at q;have hw:Pg.CX c l++l.dropWhile (· != c)=l:=List.takeWhile_append_dropWhile;rcases index_spec l c with ⟨h1,h2,h3⟩ | ⟨i,h1,h2,h3,h4⟩
 ·have e1:Pg.CX c l=l:=h3
  have e2:Pg.D4 c l=[]:=by
   rw [e1] at hw;have:l.dropWhile (· != c)=[]:=by simpa using hw
   unfold Pg.D4;rw [this];rfl
  rw [h1] at q;rw [h2,e1,e2];clear h1 h2 h3 e1 e2 hw;go_enter Tryz.func47,Tryz.ntmps47;go_wp2_with fail;refine (q _).mono ?_;rintro e w1 ⟨rfl,rfl⟩;go_wp2;go_ret3;exact ⟨rfl,Below.refl _ _⟩
 ·have e1:Pg.CX c l=l.take i:=h4
  have e2:Pg.D4 c l=l.drop (i+1):=by
   have h5:l.dropWhile (· != c)=l.drop i:=by
    rw [e1] at hw
    conv at hw=>rhs;rw [← List.take_append_drop i l]
    exact List.append_cancel_left hw
   unfold Pg.D4;rw [h5,List.drop_drop]
  rw [h1] at q;rw [h3,e1,e2];have hc1:=fun w=>oS (S:=l) (i:=i) (by omega) w;have hc2:=fun w=>iS (S:=l) (i:=i+1) (v:=(i:Int)+1) (by omega) (by omega) w;clear h1 h3 h4 e1 e2 hw;go_enter Tryz.func47,Tryz.ntmps47;go_wp2_with fail;refine (q _).mono ?_;rintro e w1 ⟨rfl,rfl⟩;go_wp2_with fail;go_quiet (fail);go_wp2;go_ret3;exact ⟨rfl,below_drewN (Below.refl _ _) _⟩
theorem DX (l:List UInt8) (c:UInt8) (hs:l.length≤140737488355328) (w:World) :
  Calls Tryz.prog 34 #[.string (bs l),.string ⟨#[c]⟩] w fun e w'=>e=.returned (.tuple #[.string (bs (Pg.CX c l)),.string (bs (Pg.D4 c l)),.bool (l.contains c)])∧Below w.heap.size w w':=by
 have q:=QC l c hs w;obtain ⟨T,hT⟩:∃ T,T=Pg.CX c l:=⟨_,rfl⟩
 obtain ⟨U,hU⟩:∃ U,U=Pg.D4 c l:=⟨_,rfl⟩
 obtain ⟨o,ho⟩:∃ o,o=l.contains c:=⟨_,rfl⟩
 rw [← hT,← hU,← ho] at q ⊢;clear hT hU ho;go_enter Tryz.func34,Tryz.ntmps34;go_wp2_with fail;refine q.mono ?_;rintro e w1 ⟨rfl,hb⟩;go_wp2;go_ret3;exact ⟨rfl,hb⟩
theorem BX (t:List UInt8) (hs:t.length≤140737488355328) (w:World) :
  Calls Tryz.prog 37 #[.string (bs t)] w fun e w'=>e=.returned (.string (bs (Hm.name t)))∧Below w.heap.size w w':=by
 have q:=DX t 32 hs w;have e:Pg.CX 32 t=Hm.name t:=rfl;rw [e] at q;clear e;obtain ⟨T,hT⟩:∃ T,T=Hm.name t:=⟨_,rfl⟩
 obtain ⟨U,hU⟩:∃ U,U=Pg.D4 32 t:=⟨_,rfl⟩
 obtain ⟨o,ho⟩:∃ o,o=t.contains 32:=⟨_,rfl⟩
 rw [← hT,← hU,← ho] at q;rw [← hT];clear hT hU ho;go_enter Tryz.func37,Tryz.ntmps37;go_wp2_with fail;refine q.mono ?_;rintro e w1 ⟨rfl,hb⟩;go_wp2;go_ret;exact ⟨rfl,hb⟩
theorem Kb (t:List UInt8):Lib.hasSuffix t [47]=decide (t≠[]∧t.getLastD 0=47):=by
 rcases List.eq_nil_or_concat t with rfl | ⟨m,x,rfl⟩
 ·rfl
 ·rw [Bool.eq_iff_iff,decide_eq_true_eq]
  unfold Lib.hasSuffix;rw [List.concat_eq_append,List.getLastD_concat,List.isSuffixOf_iff_suffix];constructor
  ·rintro ⟨u,hu⟩
   have:=congrArg (fun l=>l.getLastD 0) hu;simp only [List.getLastD_concat] at this;exact ⟨by simp,this.symm⟩
  ·rintro ⟨_,rfl⟩
   exact ⟨m,rfl⟩
theorem FN (t:List UInt8) (hs:t.length≤1000000000000) (w:World) :
  Calls Tryz.prog 35 #[.string (bs t),.string ⟨#[47]⟩] w fun e w'=>e=.returned (.bool (decide (t≠[]∧t.getLastD 0=47)))∧w'=w:=by
 have h:=Tryz.strings_HasSuffix (bs t) ⟨#[47]⟩ w (by rw [au];omega);rwa [show (bs t).data.toList=t from by simp [bs],show (⟨#[47]⟩:ByteArray).data.toList=[47] from rfl,Kb] at h
theorem Sd:EI Tryz.prog 39 9 1 16:=EI.mk' (z:=.string .empty) Tryz.underlying39 (by kernel_rfl) rfl (by omega)
theorem Ry {w:World}{B g n c:Nat}{E:TypeId}{xs:List Value}(h:w.ownsRow B E 1 (.slice (some ⟨g,0,none⟩) n c) n xs) {k:Nat}(hk:k≤n):w.ownsRow B E 1 (.slice (some ⟨g,0,none⟩) k c) k (xs.take k):=by
 have hx:xs.length=n:=by have:=h.1;omega
 refine ⟨by rw [List.length_take];omega,?_⟩;rcases h.2 with ⟨h0,_⟩ | ⟨g',c',cur,hv,hB,hg,hc,hm,hs,ht⟩
 ·simp at h0
 ·simp only [Value.slice.injEq,Option.some.injEq,Addr.mk.injEq,and_true,true_and] at hv
  obtain ⟨rfl,rfl⟩:=hv;refine .inr ⟨g,c,cur,rfl,hB,hg,by omega,hm,hs,?_⟩;rw [← ht,List.take_take];congr 1;omega
theorem GD {w:World}{B size n:Nat}{E:TypeId}{v:Value}{xs:List Value}(h:w.ownsRow B E size v n xs) (hn:0<n):∃ g c,v=.slice (some ⟨g,0,none⟩) n c∧n≤c∧B≤g∧g<w.heap.size:=by
 rcases h.2 with ⟨_,h0⟩ | ⟨g,c,cur,rfl,hB,hg,hc,_⟩
 ·omega
 ·exact ⟨g,c,rfl,hc,hB,(Array.getElem?_eq_some_iff.1 hg).1⟩
theorem Dp {P:Program}{T:TypeId}(hT:P.underlying T=some (.slice (P.elem T))) (size:Nat) (hsz:∀ w,(sizeOf (P.elem T)).run P w=.ok size w) (g n c hi:Nat) {v:Int}(hv:v=(hi:Int)) (h2:hi≤c) (w:World) :
  (Instr.slice T (.slice (some ⟨g,0,none⟩) n c) none (some (.int .i64 v)) none).run P w=.ok (.slice (some ⟨g,0,none⟩) hi c) w:=by
 subst hv;rw [run_slice_h w T (some ⟨g,0,none⟩) n c hT .i64 hi (by omega) (by omega),hsz];simp [sliced,Result.andThen];intro _;unfold Addr.add
 split<;>simp_all
theorem lJ (l:List UInt8) (w:World) (hs:l.length≤1000000000000) :
  Calls Tryz.prog 19 #[.string (bs l)] w fun e w'=>e=.returned (.bool (Hm.fS l []))∧Below w.heap.size w w':=by
 have hsz:=au l;obtain ⟨R,hR⟩:∃ R,R=Hm.fS l []:=⟨_,rfl⟩
 rw [← hR];replace hR:=Lib.hid hR;obtain ⟨n0,hn0⟩:∃ n0,n0=l.length:=⟨_,rfl⟩
 rw [← hn0] at hs;replace hn0:=Lib.hid hn0;go_enter Tryz.func19,Tryz.ntmps19;go_wp2_with fail
 go_loopw [0,3] (fun u v wr=>∃ (m:List UInt8) (st:List (List UInt8)),u=.string (bs m)∧m.length+st.length≤n0∧Hid (wr.ownsRow w.heap.size 9 1 v st.length (aY st.reverse))∧Hid (R=Hm.fS m st)∧Hid (Below w.heap.size w wr)) (fun u _ _=>strOf u)
 case atStart=>exact ⟨l,[],rfl,by simp [hn0.out],Lib.hid (World.ownsRow_nil _ _ _ _),hR,Lib.hid (Below.refl _ _)⟩
 case round =>
  obtain ⟨m,st,rfl,hms,hown,Av,hb⟩:=hrel;clear hR hsz hn0;obtain ⟨Ao,co,rfl,Y9⟩:=ak hown.out;have q1:=DX m 60 (by omega) wr
  by_cases fR:m.contains 60=true
  ·have hb2:=Pg.UD fR st
   have hl2:=Pg.Lw fR;rw [fR] at q1;obtain ⟨U,hU⟩:∃ U,U=Pg.D4 60 m:=⟨_,rfl⟩
   obtain ⟨V,hV⟩:∃ V,V=Pg.CX 60 m:=⟨_,rfl⟩
   rw [← hU,← hV] at q1;rw [← hU] at hb2 hl2;have Cj:=Av.out.trans hb2;have af3:=au m;clear hb2 Av hU hV;go_wp2_with fail;refine q1.mono ?_;rintro e w1 ⟨rfl,hb1⟩;have hown1:=Lib.hid (bX hown.out hb1);have hb3:=Lib.hid (ag hb.out hb1);have q2:=DX U 62 (by omega) w1;clear q1 hown hb1 hb
   by_cases mm:U.contains 62=true
   ·have hb4:=Pg.ZR mm st
    have hl4:=Pg.Lw mm;rw [← Cj] at hb4;rw [mm] at q2;obtain ⟨T,hT⟩:∃ T,T=Pg.CX 62 U:=⟨_,rfl⟩
    obtain ⟨M,hM⟩:∃ M,M=Pg.D4 62 U:=⟨_,rfl⟩
    rw [← hT,← hM] at q2 hb4 hl4;have agR:=au M;have ahp:=au T;clear Cj hT hM mm;replace hb4:=Lib.hid hb4;go_wp2_with fail;refine q2.mono ?_;rintro e w2 ⟨rfl,hb5⟩;have hown2:=Lib.hid (bX hown1.out hb5);have jQ:=Lib.hid (ag hb3.out hb5);clear q2 hown1 hb5 hb3;have q3:=FN T (by omega) w2
    by_cases K4:T≠[]∧T.getLastD 0=47
    ·have hst:Hid (R=Hm.fS M st):=Lib.hid (by rw [hb4.out,Hm.xP K4.1 K4.2])
     rw [decide_eq_true K4] at q3;replace K4:=Lib.hid K4;clear hb4;go_wp2_with fail;refine q3.mono ?_;rintro e w3 ⟨rfl,rfl⟩;go_wp2_with fail
     go_roundw
     case rel=>exact ⟨M,st,rfl,by omega,hown2,hst,jQ⟩
     case measure=>simp [strOf];omega
    ·rw [decide_eq_false K4] at q3
     have q4:=fun w=>lP T 47 (by decide) w
     by_cases hpf:T.getD 0 0=47
     ·have h0:T≠[]:=by rintro rfl;exact absurd hpf (by decide)
      have lG:T.getLastD 0≠47:=fun h=>K4 ⟨h0,h⟩;rw [show (T.getD 0 0==47)=true from by rw [hpf];rfl] at q4;have aav:0<T.length:=List.length_pos_iff.2 h0;cases st with
      | nil =>
       have pU:R=false:=by rw [hb4.out,Hm.Bq h0 lG hpf]
       subst pU;replace h0:=Lib.hid h0;replace lG:=Lib.hid lG;replace hpf:=Lib.hid hpf;replace K4:=Lib.hid K4;clear hb4;go_wp2_with fail;refine q3.mono ?_;rintro e w3 ⟨rfl,rfl⟩;go_wp2_with fail;refine (q4 _).mono ?_;rintro e w3 ⟨rfl,rfl⟩;go_wp2_with fail;go_quiet (fail);go_wp2_with fail;go_ret;exact ⟨rfl,below_drewN jQ.out _⟩
      | cons n st =>
       have zX:aY (n::st).reverse=aY st.reverse++[.string (bs n)]:=by unfold aY;rw [List.reverse_cons,List.map_append];rfl
       have hlen:(aY st.reverse).length=st.length:=by simp [aY]
       obtain ⟨g,cg,hAe,hcg,hg1,hg2⟩:=GD hown2.out (by simp);injection hAe with oc AA dh;subst oc dh;have hcell:w2.cell? ⟨g,st.length,none⟩=some (.string (bs n)):=by
        have h3:=hown2.out.cells (g:=g) rfl st.length (.string (bs n)) (by rw [zX,List.getElem?_append_right (by omega),hlen,Nat.sub_self];rfl);rwa [show (⟨g,0,none⟩:Addr).add st.length=⟨g,st.length,none⟩ from by unfold Addr.add;split<;>simp_all] at h3
       have Ym:Hid ((aY (n::st).reverse).take st.length=aY st.reverse):=Lib.hid (by rw [zX,List.take_left' hlen]);have hsh:=fun w=>Dp (P:=Tryz.prog) (T:=39) (by kernel_rfl) 1 (fun w=>by kernel_rfl) g (st.length+1) co st.length (v:=(st.length:Int)) rfl (by rw [List.length_cons] at hcg;omega) w;have hm1:=fun w=>iS (S:=T) (i:=1) (v:=1) (by omega) rfl w;have hnd:=Pg.Mc hpf;have q5:=fun w=>BX (T.drop 1) (by rw [List.length_drop];omega) w;obtain ⟨D,hD⟩:∃ D,D=T.drop 1:=⟨_,rfl⟩
       rw [← hD] at hm1 q5 hnd;obtain ⟨X,hX⟩:∃ X,X=Hm.name D:=⟨_,rfl⟩
       rw [← hX] at q5 hnd;rw [List.length_cons] at hms Y9;have g0:((st.length:Int)+1-1)=(st.length:Int):=by omega
       have g1:decide ((st.length:Int)<0)=false:=decide_eq_false (by omega);have g2:decide ((st.length:Int)+1≤(st.length:Int))=false:=decide_eq_false (by omega);have g3:(0:Int)≤(st.length:Int):=by omega
       have g4:(st.length:Int)<(st.length:Int)+1:=by omega
       have g5:¬ ((st.length:Int)<0):=by omega
       have hturn:Hid ((n=X→R=Hm.fS M st)∧(n≠X→R=false)):=Lib.hid ⟨fun h=>by rw [hb4.out,Hm.LL h0 lG hpf (h.trans hnd)],fun h=>by rw [hb4.out,Hm.E9 h0 lG hpf (fun h9=>h (h9.trans hnd.symm))]⟩;replace h0:=Lib.hid h0;replace lG:=Lib.hid lG;replace hpf:=Lib.hid hpf;replace K4:=Lib.hid K4;replace q5:=Lib.hid q5;clear hb4 zX hlen hnd hX hD aav;go_wp2_with fail;refine q3.mono ?_;rintro e w3 ⟨rfl,rfl⟩;go_wp2_with fail;refine (q4 _).mono ?_;rintro e w3 ⟨rfl,rfl⟩;clear q3 q4;go_upto_region 13 with fail
       refine aF (.rd 0 (.rd 1 (.rd 2 (.rd 3 (.rd 4 (.rd 5 (.rd 6 (.rd 7 (.rd 8 (.mk 9 (.rd 10 (.rd 11 .fin)))))))))))) (fun u:World=>u.cell? ⟨g,st.length,none⟩=some (.string (bs n))) hcell (by kernel_rfl) (by kernel_rfl) (by kernel_rfl) (fun _ _ d _ _ h=>by cases d<;>exact h) ?_
       iterate 6 (first | refine an rfl ?_ | (refine az rfl ?_;intro K hK;go_simp;refine hK _ _ _ ?_;clear hK K))
       refine aJ (.string (bs n)) rfl rfl hcell (fun u hu=>by have u1:u.cell? ⟨g,st.length,none⟩=some (.string (bs n)):=hu;go_simp) ?_
       (first | refine an rfl ?_ | (refine az rfl ?_;intro K hK;go_simp;refine hK _ _ _ ?_;clear hK K))
       refine aJ (.string (bs D)) rfl rfl hcell (fun u hu=>by have u1:=hm1 u;go_simp) ?_;refine aE rfl ?_;intro K hK;go_simp;refine (q5.out _).mono ?_;rintro e w7 ⟨rfl,eA⟩;have YN:w7.cell? ⟨g,st.length,none⟩=some (.string (bs n)):=(eA.cell (p:=⟨g,st.length,none⟩) hg2).trans hcell;refine ⟨_,YN,fun _ h=>h,hK _ _ _ ?_⟩;clear hK K;have oE:=Lib.hid (ag jQ.out (ag (bC _) eA));have kQ:=bX hown2.out (ag (bC _) eA);have r9:=Lib.hid (Ry kQ (k:=st.length) (by simp));clear kQ eA jQ hown2
       by_cases hne:n=X
       ·have T3:=XF (a:=n) (b:=X) hne
        have oA:=Lib.hid (hturn.out.1 hne);replace hne:=Lib.hid hne;clear hturn
        iterate 2 (first | refine an rfl ?_ | (refine az rfl ?_;intro K hK;go_simp;refine hK _ _ _ ?_;clear hK K))
        refine aQ ?_;go_wp2_with fail
        go_roundw
        case rel=>exact ⟨M,st,rfl,by omega,Lib.hid (by rw [← Ym.out];exact r9.out),oA,oE⟩
        case measure=>simp [strOf];omega
       ·have T3:=W8 (a:=n) (b:=X) hne
        have pU:=hturn.out.2 hne;subst pU;replace hne:=Lib.hid hne;clear hturn
        iterate 2 (first | refine an rfl ?_ | (refine az rfl ?_;intro K hK;go_simp;refine hK _ _ _ ?_;clear hK K))
        refine aQ ?_;go_wp2_with fail;go_ret;exact ⟨rfl,oE.out⟩
     ·have hst:Hid (R=Hm.fS M (Hm.name T::st)):=Lib.hid (by
       rw [hb4.out,Hm.zH (by
        by_cases h0:T=[]
        ·exact .inl h0
        ·exact .inr ⟨fun h=>K4 ⟨h0,h⟩,hpf⟩)])
      rw [show (T.getD 0 0==47)=false from by rw [beq_eq_false_iff_ne];exact hpf] at q4;have q5:=fun w=>BX T (by omega) w;have hnl:(Hm.name T).length≤T.length:=by
       unfold Hm.name;exact (List.takeWhile_sublist _).length_le
      obtain ⟨X,hX⟩:∃ X,X=Hm.name T:=⟨_,rfl⟩
      rw [← hX] at q5 hst hnl;replace K4:=Lib.hid K4;replace hpf:=Lib.hid hpf;replace q5:=Lib.hid q5;clear hb4 hX;go_wp2_with fail;refine q3.mono ?_;rintro e w3 ⟨rfl,rfl⟩;go_wp2_with fail;refine (q4 _).mono ?_;rintro e w3 ⟨rfl,rfl⟩;clear q3 q4;go_wp2_with fail;refine (q5.out _).mono ?_;rintro e w4 ⟨rfl,eA⟩;have KM:=bX hown2.out eA;have oE:=ag jQ.out eA;have hbz:=oE.size;replace oE:=Lib.hid oE;clear eA jQ hown2 q5;go_wp2_with (at_builtin;refine gT rfl (.tmp 31) (.tmp 34) rfl Sd rfl KM rfl rfl rfl (by intro u hu;simp at hu;subst hu;rfl) (by omega) (by omega) hbz ?_;intro v5 w5 rL zS KL)
      go_roundw
      case rel=>exact ⟨M,X::st,rfl,by simp;omega,Lib.hid (by
       unfold aY at rL ⊢;rw [List.reverse_cons,List.map_append,List.length_cons];exact rL),hst,Lib.hid (oE.out.trans KL)⟩
      case measure=>simp [strOf];omega
   ·have US:U.contains 62=false:=by simpa using mm
    have pU:R=false:=by rw [Cj,Pg.Wf US]
    rw [US] at q2;obtain ⟨T,hT⟩:∃ T,T=Pg.CX 62 U:=⟨_,rfl⟩
    obtain ⟨M,hM⟩:∃ M,M=Pg.D4 62 U:=⟨_,rfl⟩
    rw [← hT,← hM] at q2;subst pU;clear Cj hT hM;replace mm:=Lib.hid mm;replace US:=Lib.hid US;go_wp2_with fail;refine q2.mono ?_;rintro e w2 ⟨rfl,hb5⟩;have jQ:=Lib.hid (ag hb3.out hb5);clear q2 hb5 hb3;go_wp2_with fail;go_ret;exact ⟨rfl,jQ.out⟩
  ·have Wn:m.contains 60=false:=by simpa using fR
   have hRe:R=st.isEmpty:=by rw [Av.out,Pg.PO Wn]
   rw [Wn] at q1;have hle:((st.length:Int)==0)=st.isEmpty:=by
    rw [Bool.eq_iff_iff,beq_iff_eq,List.isEmpty_iff,← List.length_eq_zero_iff];omega
   obtain ⟨U,hU⟩:∃ U,U=Pg.D4 60 m:=⟨_,rfl⟩
   obtain ⟨V,hV⟩:∃ V,V=Pg.CX 60 m:=⟨_,rfl⟩
   rw [← hU,← hV] at q1;obtain ⟨E,hE⟩:∃ E,E=st.isEmpty:=⟨_,rfl⟩
   rw [← hE] at hle hRe;subst hRe;replace fR:=Lib.hid fR;replace Wn:=Lib.hid Wn;clear Av hE hU hV;go_wp2_with fail;refine q1.mono ?_;rintro e w1 ⟨rfl,hb1⟩;have hb3:=Lib.hid (ag hb.out hb1);clear q1 hb1 hb;go_wp2_with fail;go_ret;exact ⟨rfl,hb3.out⟩
end Go.Proofs.YtddkjkockbcamaaGreatDoor
