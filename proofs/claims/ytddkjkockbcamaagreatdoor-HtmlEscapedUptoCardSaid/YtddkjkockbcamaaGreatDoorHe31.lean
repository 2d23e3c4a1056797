/- EmProg EmSame EmMatches EmReal IlPre PgBal -/
import Derived.Test.YtddkjkockbcamaaGreatDoorHe20
import Derived.Test.YtddkjkockbcamaaGreatDoorHe28
import Derived.Test.YtddkjkockbcamaaGreatDoorHe19
import Derived.Test.YtddkjkockbcamaaGreatDoorHe18
import Derived.Deep.DeepCutAuto
import Derived.Test.YtddkjkockbcamaaGreatDoorHe29
import Derived.Test.YtddkjkockbcamaaGreatDoorHe04
import Derived.Test.YtddkjkockbcamaaGreatDoorHe03
import Derived.Deep.QuietTactic
import Derived.BigQuiet
set_option maxHeartbeats 16000000
set_option maxRecDepth 100000
namespace Go.Proofs.YtddkjkockbcamaaGreatDoor
open Go.RowKit
theorem ND {l:List UInt8}{j:Nat}(h:j<l.length):XC (l.drop j)=Em.behind l j:=by
 unfold XC;rw [Em.Kx h,Ru.dM (by intro he;have:=congrArg List.length he;simp at this;omega)]
 rfl
theorem MD {l:List UInt8}{k:Nat}(h:0<k) (hk:k≤l.length):Xd (l.take k)=Em.ahead l k:=by
 unfold Xd Em.ahead;rcases List.eq_nil_or_concat (Ru.aP (l.take k)) with he | ⟨r,x,he⟩
 ·have:=congrArg List.length (Ru.Bv.1 he)
  rw [List.length_take,Nat.min_eq_left hk,List.length_nil] at this;omega
 ·rw [he];simp
theorem Dl (l:List UInt8) (k j:Nat) (hs:l.length≤1000000000000) (hk:k≤l.length) (hj:j≤l.length) (w:World) (hT:Tabs w) :
  Calls Tryz.prog 239 #[.string (bs l),.int .i64 (k:Int),.int .i64 (j:Int)] w fun e w'=>e=.returned (.tuple #[.int .i32 (Em.ahead l k:Int),.int .i32 (Em.behind l j:Int)])∧Below w.heap.size w w':=by
 have hu:=fun w=>wJ (S:=l) hk w;have hf:=fun w=>b8 (S:=l) hj w;obtain ⟨A,hA⟩:∃ A,A=Em.ahead l k:=⟨_,rfl⟩
 obtain ⟨B,hB⟩:∃ B,B=Em.behind l j:=⟨_,rfl⟩
 have q1:(A=32∧∀ w:World,Calls Tryz.prog 246 #[.string (bs (l.take k))] w fun e w'=>e=.returned (.tuple #[.int .i32 0,.bool false])∧Below w.heap.size w w') ∨
   (∀ w:World,Tabs w→Calls Tryz.prog 246 #[.string (bs (l.take k))] w fun e w'=>e=.returned (.tuple #[.int .i32 (A:Int),.bool true])∧Below w.heap.size w w'):=by
  rcases Nat.eq_zero_or_pos k with h0 | h0
  ·subst h0
   exact .inl ⟨hA,fun w=>Ku w⟩
  ·refine .inr fun w hw=>?_
   rw [hA,← MD h0 hk];exact Kp (l.take k) (by intro he;have:=congrArg List.length he;rw [List.length_take,Nat.min_eq_left hk,List.length_nil] at this;omega) w (by simp;omega) hw
 have q2:(B=32∧∀ w:World,Calls Tryz.prog 247 #[.string (bs (l.drop j))] w fun e w'=>e=.returned (.tuple #[.int .i32 0,.bool false])∧Below w.heap.size w w') ∨
   (∀ w:World,Calls Tryz.prog 247 #[.string (bs (l.drop j))] w fun e w'=>e=.returned (.tuple #[.int .i32 (B:Int),.bool true])∧Below w.heap.size w w'):=by
  rcases Nat.lt_or_ge j l.length with h0 | h0
  ·refine .inr fun w=>?_
   rw [hB,← ND h0];exact EZ (l.drop j) (by intro he;have:=congrArg List.length he;simp at this;omega) w
  ·refine .inl ⟨by rw [hB,Em.Fl (by omega)],fun w=>?_⟩
   rw [List.drop_of_length_le h0];exact F0 w
 rw [← hA,← hB];clear hA hB hk hj hs;generalize l.take k=T1 at *;generalize l.drop j=T2 at *;replace hT:=Lib.hid hT;rcases q1 with ⟨rfl,q1⟩ | q1
 ·rcases q2 with ⟨rfl,q2⟩ | q2
  all_goals
   go_enter Tryz.func239,Tryz.ntmps239;go_wp2_with fail;refine (q1 _).mono ?_;rintro e w1 ⟨rfl,hb1⟩;replace hb1:=Lib.hid hb1;go_wp2_with fail;refine (q2 _).mono ?_;rintro e w2 ⟨rfl,hb2⟩;replace hb2:=Lib.hid (ag hb1.out hb2);go_wp2_with fail;go_ret2;exact ⟨rfl,hb2.out⟩
 ·rcases q2 with ⟨rfl,q2⟩ | q2
  all_goals
   go_enter Tryz.func239,Tryz.ntmps239;go_wp2_with fail;refine (q1 _ hT.out).mono ?_;rintro e w1 ⟨rfl,hb1⟩;replace hb1:=Lib.hid hb1;go_wp2_with fail;refine (q2 _).mono ?_;rintro e w2 ⟨rfl,hb2⟩;replace hb2:=Lib.hid (ag hb1.out hb2);go_wp2_with fail;go_ret2;exact ⟨rfl,hb2.out⟩
theorem Jb (l:List UInt8) (at_:Int) (hs:l.length≤1000000000000) (h0:Em.starts l at_=false) (w:World) :
  Calls Tryz.prog 224 #[.string (bs l),.int .i64 at_] w fun e w'=>e=.returned (qP none)∧Below w.heap.size w w':=by
 have q:=fun w=>tK l at_ hs w;rw [h0] at q;clear h0;go_enter Tryz.func224,Tryz.ntmps224;go_wp2_with fail;refine (q _).mono ?_;rintro e w1 ⟨rfl,hb1⟩;clear q;obtain ⟨z0,z1,z2,z3,z4⟩:=dw hb1;replace hb1:=Lib.hid hb1;go_wp2_with fail;exact bodyPost_ret (v:=qP none) (by rw [cm rfl];go_simp;rfl) rfl ⟨rfl,eU hb1.out _ _ _ _⟩
theorem wh {w w5:World}{g:Nat}{a b c d v:Value}{t:TypeId}(h:w.heap[g]? = some (.cells #[a,b,c,d] t (0,0))) (hw:w.setCell ⟨g,2,none⟩ v=w5):w5.heap[g]? = some (.cells #[a,b,v,d] t (0,0)):=by
 rw [← hw];exact heap_setCell_same w g 2 _ _ v h
theorem ZN {w w5:World}{g:Nat}{a b c d v:Value}{t:TypeId}(h:w.heap[g]? = some (.cells #[a,b,c,d] t (0,0))) (hw:w.setCell ⟨g,3,none⟩ v=w5):w5.heap[g]? = some (.cells #[a,b,c,v] t (0,0)):=by
 rw [← hw];exact heap_setCell_same w g 3 _ _ v h
theorem yt {B:Nat}{a w w5:World}{p:Addr}{v:Value}(h:Below B a w) (hg:B≤p.block) (hw:w.setCell p v=w5):Below B a w5:=by rw [← hw];exact h.setCell hg v
theorem Ms (l:List UInt8) (k n:Nat) (c:UInt8) (hs:l.length≤1000000000000) (hk:k<l.length) (hc:l[k]=c) (hn:n=Fn.run c (l.drop k)) (h0:Em.starts l (k:Int)=true) (t:Bool) (ht:((c.toNat:Int)==95)=t) (J:Em.R)
  (hJ:J=Em.qd c n (Em.ahead l k) (Em.behind l (k+n))) (w:World) (hT:Tabs w) :
  Calls Tryz.prog 224 #[.string (bs l),.int .i64 (k:Int)] w fun e w'=>e=.returned (qP (some (J,k+n)))∧Below w.heap.size w w':=by
 have hin:k+n≤l.length:=by rw [hn,← hc];exact Em.aab hk _
 have q1:=fun w=>tK l (k:Int) hs w;have q2:=fun w=>M7 l k c w hs (by omega);have q3:=fun w hw=>Dl l k (k+n) hs (by omega) hin w hw;have hix:=fun w=>bC hk w;rw [← hn] at q2;rw [hc] at hix;rw [h0] at q1;have hwr:IntKind.i64.wrap ((k:Int)+(n:Int))=((k+n:Nat):Int):=by rw [IntKind.wrap_i64];omega
 obtain ⟨m,hm⟩:∃ m,m=k+n:=⟨_,rfl⟩
 rw [← hm] at hwr q3 hJ ⊢;obtain ⟨b,hb⟩:∃ b,b=Em.ahead l k:=⟨_,rfl⟩
 obtain ⟨a,ha⟩:∃ a,a=Em.behind l m:=⟨_,rfl⟩
 rw [← hb,← ha] at q3 hJ;have q4:=fun w=>wD a b w;have q5:=fun w=>wD b a w;have q6:=fun w=>kB (b:Int) w;have q7:=fun w=>kB (a:Int) w;have UP:t=false→J=⟨c,n,Em.iK b a,Em.iK a b⟩:=by
  intro h;rw [hJ];unfold Em.qd;rw [if_neg];rintro rfl;rw [h] at ht;exact absurd ht (by decide)
 have hJ1:t=true→J=⟨c,n,Em.iK b a&&(!Em.iK a b||gb b),Em.iK a b&&(!Em.iK b a||gb a)⟩:=by
  intro h;rw [hJ];unfold Em.qd;rw [if_pos];rw [h] at ht;have h1:(c.toNat:Int)=95:=by simpa using ht
  have h2:(95:UInt8).toNat=95:=rfl;exact UInt8.toNat_inj.1 (by omega)
 clear hJ hn hc h0;obtain ⟨x,hx⟩:∃ x,x=Em.iK b a:=⟨_,rfl⟩
 obtain ⟨y,hy⟩:∃ y,y=Em.iK a b:=⟨_,rfl⟩
 obtain ⟨PB,W7⟩:∃ y,y=gb b:=⟨_,rfl⟩
 obtain ⟨PA,Tr⟩:∃ y,y=gb a:=⟨_,rfl⟩
 rw [← hx] at q4 UP hJ1;rw [← hy] at q5 UP hJ1;rw [← W7] at q6 hJ1;rw [← Tr] at q7 hJ1;clear hx hy W7 Tr ha hb;have hkn:k≤1000000000000:=by omega
 have hnn:n≤1000000000000:=by omega
 clear hin hm hk hs;replace hT:=Lib.hid hT;replace UP:=Lib.hid UP;replace hJ1:=Lib.hid hJ1;go_enter Tryz.func224,Tryz.ntmps224;go_wp2_with fail;refine (q1 _).mono ?_;rintro e w1 ⟨rfl,hb1⟩;have hA:=Lib.hid (ag (aa w _) hb1);replace hb1:=Lib.hid hb1;go_wp2_with fail;refine (q2 _).mono ?_;rintro e w2 ⟨rfl,rfl⟩;go_wp2_with fail;refine (q3 _ (cy hT.out hA.out)).mono ?_;rintro e w2 ⟨rfl,hb2⟩;replace hb1:=Lib.hid (ag hb1.out hb2);replace hA:=Lib.hid (ag hA.out hb2);go_wp2_with fail;refine (q4 _).mono ?_;rintro e w3 ⟨rfl,rfl⟩;go_wp2_with fail;refine (q5 _).mono ?_;rintro e w3 ⟨rfl,rfl⟩;clear q1 q2 q3 q4 q5;go_upto_region 9 with fail
 generalize hw4:World.alloc w2 _=w4;have h4:w4.heap[w2.heap.size]? = some (.cells #[.int .u8 (c.toNat:Int),.int .i64 (n:Int),.bool x,.bool y] 240 (0,0)):=by rw [← hw4];exact heap_alloc_new _ _
 have iI:=ag hA.out (show Below w2.heap.size w2 w4 from by rw [← hw4];exact aa _ _);have hb4:=ag hb1.out (show Below w2.heap.size w2 w4 from by rw [← hw4];exact aa _ _);have hg2:=hb1.out.size;clear hw4 hb2 hb1;cases t with
 | false =>
  have hJ:=UP.out rfl;clear UP hJ1;subst hJ;obtain ⟨y0,y1,y2,y3⟩:=four h4;obtain ⟨z0,z1,z2,z3,z4⟩:=dw hb4;replace hb4:=Lib.hid hb4;replace h4:=Lib.hid h4;go_wp2_with fail;exact bodyPost_ret (v:=qP (some (⟨c,n,x,y⟩,m))) (by rw [cm rfl];unfold qP uP;go_simp) rfl ⟨rfl,eU hb4.out _ _ _ _⟩
 | true =>
  have hJ:=hJ1.out rfl;clear UP hJ1;subst hJ;have hfz:∀ j,w4.frozen? ⟨w2.heap.size,j,none⟩=false:=aW h4;obtain ⟨y0,y1,y2,y3⟩:=four h4;replace hb4:=Lib.hid hb4;replace h4:=Lib.hid h4;cases x<;>cases y
  all_goals
   go_upto_region 11 with (go_at_call 241;refine (q6 _).mono ?_;rintro e w5 ⟨rfl,rfl⟩)
   generalize Qj:World.setCell w4 _ _=w5;have k5:=wh h4.out Qj;have kb5:=yt hb4.out hg2 Qj;clear Qj y0 y1 y2 y3 hfz;have hfz:∀ j,w5.frozen? ⟨w2.heap.size,j,none⟩=false:=aW k5;obtain ⟨y0,y1,y2,y3⟩:=four k5;replace k5:=Lib.hid k5;replace kb5:=Lib.hid kb5;go_upto_region 12 with (go_at_call 241;refine (q7 _).mono ?_;rintro e w5 ⟨rfl,rfl⟩)
   generalize WD:World.setCell w5 _ _=w6;have k6:=ZN k5.out WD;have kb6:=yt kb5.out hg2 WD;clear WD y0 y1 y2 y3 hfz;obtain ⟨y0,y1,y2,y3⟩:=four k6;obtain ⟨z0,z1,z2,z3,z4⟩:=dw kb6;replace kb6:=Lib.hid kb6;replace k6:=Lib.hid k6;go_wp2_with fail;exact bodyPost_ret (by rw [cm rfl];unfold qP uP;go_simp) rfl ⟨rfl,eU kb6.out _ _ _ _⟩
theorem yl (l:List UInt8) (at_:Int) (hs:l.length≤1000000000000) (w:World) (hT:Tabs w) :
  Calls Tryz.prog 224 #[.string (bs l),.int .i64 at_] w fun e w'=>e=.returned (qP (Em.kind l at_))∧Below w.heap.size w w':=by
 cases h0:Em.starts l at_ with
 | false =>
  rw [Em.Eh h0];exact Jb l at_ hs h0 w
 | true =>
  obtain ⟨h1,h2,_⟩:=of_decide_eq_true h0;obtain ⟨k,rfl⟩:∃ k:Nat,at_=(k:Int):=⟨at_.toNat,by omega⟩
  have hk:k<l.length:=by omega
  rw [Em.QW hk h0];exact Ms l k _ _ hs hk rfl rfl h0 _ rfl _ rfl w hT
theorem Ga (l:List Em.R) (A:Option Addr) (c:Nat) (w:World) (h:Row w w.heap.size 4 A l.length (aF l)) (hl:l.length≤4000000) :
  Calls Tryz.prog 201 #[.slice A l.length c] w fun e w'=>(∃ v,e=.returned v∧w'.ownsRow w.heap.size 241 3 v (Em.pairs l).length (gI (Em.pairs l)))∧Below w.heap.size w w':=by
 have hR:=Lib.hid h;clear h;go_enter Tryz.func201,Tryz.ntmps201;go_upto_region 1 with fail
 refine MZ (l:=l) (A:=A) (c:=c) (fun _ _ d _ _ h=>by cases d<;>exact h) ?_ hR.out hl;intro b v v12 w1 PI hB1;have hlh:(Em.hold l).length=l.length:=by simp [Em.hold]
 have hH:=Lib.hid (Em.Jo l);obtain ⟨fin,aL⟩:∃ fin,fin=Em.outer (Em.hold l) l.length 0 ((Em.hold l).map (fun r=>Em.held r.n),[]):=⟨_,rfl⟩
 have hres:Hid (fin.2=Em.pairs l):=Lib.hid (by rw [← Em.Ft l,aL];unfold Em.pairs;rw [hlh]);have nK:=Em.Kt (Em.hold l);rw [hlh] at nK;obtain ⟨vr,vl,vo,vn,vp⟩:=v;obtain ⟨Ar,cr,Gl,hcr⟩:=ak PI.FB;obtain ⟨_,XR,Zj,m0,m1,m2,m3,m4⟩:=PI.blk;simp only [hlh] at Gl m0 hcr;subst Gl;replace PI:=Lib.hid PI;replace hB1:=Lib.hid hB1;replace nK:=Lib.hid nK;replace aL:=Lib.hid aL;clear m1 m2 m3 m4 Zj;go_wp2_with fail
 go_loopw [16] (fun u wr=>∃ (k:Nat) (st:Em.St) (v:Vs) (L O N:List Nat),k≤l.length∧u=.int .i64 k∧Hid (v.r=.slice Ar l.length cr)∧Hid (PM w.heap.size b none v (Em.hold l) L O N st.2 wr)∧Hid (Em.xL (Em.hold l) k st L O N) ∧
   Hid (Em.outer (Em.hold l) (l.length-k) k st=fin)∧Hid (Below w.heap.size w wr)) (fun u _=>l.length-(intOf u).toNat)
 case atStart=>exact ⟨0,_,_,_,_,_,Nat.zero_le _,rfl,Lib.hid rfl,PI,nK,Lib.hid aL.out.symm,hB1⟩
 case round =>
  obtain ⟨k,st,v,L,O,N,hk,rfl,Gl,hM,hS,FN,hB⟩:=hrel;clear PI hB1 nK aL m0 XR
  by_cases hkl:k<l.length
  ·have um:Hid (Em.outer (Em.hold l) (l.length-(k+1)) (k+1) (Em.inner (Em.hold l) k st)=fin):=Lib.hid (by
    have h1:=FN.out;rw [show l.length-k=(l.length-(k+1))+1 by omega] at h1;exact h1)
   clear FN;have Yw:k<(Em.hold l).length:=by rw [hlh];exact hkl
   obtain ⟨r,hr⟩:∃ r,r=(Em.hold l)[k]:=⟨_,rfl⟩
   have hgr:Hid (Em.get (Em.hold l) k=r):=Lib.hid (by rw [Em.get_at Yw,hr]);have Qd:=hH.out r (by rw [hr];exact List.getElem_mem Yw);obtain ⟨n,hn⟩:∃ n:Nat,n=Em.held r.n:=⟨_,rfl⟩
   have ZC:r.n=(n:Int):=by rw [hn];exact (Em.Aq Qd.1 Qd.2).symm
   have ie:=Em.U3 hS.out Yw;rw [hgr.out,← hn] at ie;have xJ:=hM.out;obtain ⟨vr,vl,vo,vn,vp⟩:=v;have WW:=Gl.out;obtain ⟨gl,cl,hvl,hcl,hBl,Df⟩:=gh xJ.ri (by rw [hS.out.1.len,hlh];omega);have Wo:L.length=l.length:=by rw [hS.out.1.len,hlh]
   simp only at WW hvl;subst WW hvl;obtain ⟨gr,rfl⟩:∃ g,Ar=some ⟨g,0,none⟩:=by
    obtain ⟨g,c',hv,_⟩:=gh xJ.FB (by rw [hlh];omega);injection hv with h1 _ _;exact ⟨g,h1⟩
   have DB:=xJ.FB;simp only [hlh] at DB;obtain ⟨x0,x1,x2,x3⟩:=kG DB Yw;rw [← hr] at x0 x1 x2 x3;have ab5:=(DB.lt _ rfl).2;replace hr:=Lib.hid hr;replace hn:=Lib.hid hn;replace ie:=Lib.hid ie;have Yj:=hB.out.size;clear DB hM hS Gl;go_upto_region 5 with fail
   generalize hw2:World.alloc wr _=w2;have HP:PM w.heap.size b (some (.blk wr.heap.size #[.int .u8 (r.ch.toNat:Int),.int .i64 (n:Int),.bool r.o,.bool r.c] 240)) ⟨.slice (some ⟨gr,0,none⟩) l.length cr,.slice (some ⟨gl,0,none⟩) L.length cl,vo,vn,vp⟩ (Em.hold l) L O N st.2 w2:=by rw [← hw2];exact xJ.more _ _ Yj
   have hB2:Below w.heap.size w w2:=by rw [← hw2];exact hB.out.alloc Yj _
   clear hw2 x0 x1 x2 x3 xJ hB Df;have Cg:=HP.extra;obtain ⟨y0,y1,y2,y3⟩:=four Cg;obtain ⟨adx,iq,ZZ,m0,m1,m2,m3,m4⟩:=HP.blk;have F5:=HP.ri;simp only [Wo] at m0 m1 F5;have lf2:=fun j=>F5.frozenAt j;have lv2:=eM F5 (k:=k) (by omega);have ab3:=(F5.lt _ rfl).2;have WZ:=Lib.hid (HP.OU (g:=gl) (c:=cl) rfl k n);replace HP:=Lib.hid HP;replace hB2:=Lib.hid hB2;replace F5:=Lib.hid F5;clear Cg m0 m2 m3 m4 y0 y2 y3;go_upto_region 6 with fail
   generalize hw3:World.setCell w2 _ _=w3;have kP:PM w.heap.size b (some (.blk wr.heap.size #[.int .u8 (r.ch.toNat:Int),.int .i64 (n:Int),.bool r.o,.bool r.c] 240)) ⟨.slice (some ⟨gr,0,none⟩) l.length cr,.slice (some ⟨gl,0,none⟩) L.length cl,vo,vn,vp⟩ (Em.hold l) (L.set k n) O N st.2 w3:=by rw [← hw3];exact WZ.out
   have jy:Below w.heap.size w w3:=by rw [← hw3];exact hB2.out.setCell (p:=⟨gl,k,none⟩) hBl _
   clear hw3 WZ HP hB2 F5 lf2 lv2 y1 m1 ZZ iq;obtain ⟨y0,y1,y2,y3⟩:=four kP.extra;cases hcc:r.c with
   | false =>
    rw [hcc] at y3;have hmid:Hid (∃ v':Vs,v'.r=.slice (some ⟨gr,0,none⟩) l.length cr∧∃ L' O' N',PM w.heap.size b (some (.blk wr.heap.size #[.int .u8 (r.ch.toNat:Int),.int .i64 (n:Int),.bool r.o,.bool r.c] 240)) v' (Em.hold l) L' O' N' (Em.inner (Em.hold l) k st).2 w3∧Em.sF (Em.hold l) k (Em.inner (Em.hold l) k st) L' O' N'∧Below w.heap.size w w3):=Lib.hid (by
     rw [Em.o8 (by rw [hgr.out,hcc];simp)];exact ⟨_,rfl,_,_,_,kP,ie.out,jy⟩)
    clear kP jy ie y0 y1 y2;go_upto_region 8 with fail
    obtain ⟨v3,hr3,L3,O3,N3,kP,eV,jy⟩:=hmid.out;clear hmid;have tQ:=kP.extra;obtain ⟨y0,y1,y2,y3⟩:=four tQ;obtain ⟨r3,l3,o3,n3,p3⟩:=v3;obtain ⟨gl3,cl3,Nr,aal,Zu,Z0⟩:=gh kP.ri (by rw [eV.1.len,hlh];omega);obtain ⟨Ao3,co3,PW,ZL⟩:=ak kP.xS;simp only at Nr PW hr3;subst Nr PW hr3;have UD:L3.length=l.length:=by rw [eV.1.len,hlh]
    obtain ⟨Um,UC,E2,m0,m1,m2,m3,m4⟩:=kP.blk;have tX:=kP.ri;simp only [UD] at m0 m1 m2 tX;have lv3:=eM tX (k:=k) (by omega);obtain ⟨z,hz⟩:∃ z,z=L3[k]:=⟨_,rfl⟩
    rw [← hz] at lv3;have hzl:Em.lf L3 k=z:=by rw [Em.pU (by omega),hz]
    have jr:=Em.DA eV (by rw [hlh];exact hkl);rw [hzl] at jr;have hOf:=eV.1.uO;have TW:=jy.size;replace kP:=Lib.hid kP;replace jy:=Lib.hid jy;replace jr:=Lib.hid jr;clear tQ tX eV hz hzl m0 m3 m4 y0 y1 y3;cases Ci:r.o with
    | false =>
     rw [Ci] at y2;have u9:Hid (Em.xL (Em.hold l) (k+1) (Em.inner (Em.hold l) k st) L3 O3 N3):=Lib.hid (by have:=jr.out;rwa [hgr.out,Ci,if_neg (by simp)] at this);clear jr E2 m1 m2 lv3;go_wp2_with fail
     go_roundw
     case rel=>exact ⟨k+1,_,⟨_,_,_,_,_⟩,L3,O3,N3,hkl,by go_num,Lib.hid rfl,Lib.hid kP.out.less,u9,um,jy⟩
     case measure=>simp [intOf];omega
    | true =>
     rw [Ci] at y2;rcases Nat.eq_zero_or_pos z with hz0 | hz0
     ·subst hz0
      have u9:Hid (Em.xL (Em.hold l) (k+1) (Em.inner (Em.hold l) k st) L3 O3 N3):=Lib.hid (by have:=jr.out;rwa [if_neg (by omega)] at this);clear jr E2 m2;go_wp2_with fail
      go_roundw
      case rel=>exact ⟨k+1,_,⟨_,_,_,_,_⟩,L3,O3,N3,hkl,by go_num,Lib.hid rfl,Lib.hid kP.out.less,u9,um,jy⟩
      case measure=>simp [intOf];omega
     ·have t0:decide ((0:Int)<(z:Int))=true:=decide_eq_true (by omega)
      have t1:decide (0<z)=true:=decide_eq_true hz0;have u9:Hid (Em.xL (Em.hold l) (k+1) (Em.inner (Em.hold l) k st) L3 (O3++[k]) N3):=Lib.hid (by have:=jr.out;rwa [hgr.out,Ci,if_pos ⟨rfl,hz0⟩] at this);clear jr hz0;go_upto_region 10 with (at_builtin;refine bw rfl (.tmp 42) (.tmp 44) rfl dZ rfl kP.out.xS rfl (by simp) rfl (by simp;rfl) (by omega) (by omega) (by omega) ?_;intro vo7 w7 Ic qi dI mB;obtain ⟨A7,c7,rfl,hc7⟩:=ak Ic;obtain ⟨NA,m27⟩:=kP.out.atO qi.out;have Mu:b<w7.heap.size:=Nat.lt_of_lt_of_le UC dI.size)
      generalize J3:World.setCell w7 _ _=w8;have RN:=Lib.hid (show PM w.heap.size b none ⟨_,_,.slice A7 (O3.length+1) c7,n3,p3⟩ (Em.hold l) L3 (O3++[k]) N3 (Em.inner (Em.hold l) k st).2 w8 from by
       rw [← J3];exact (kP.out.T0 qi.out (by simpa [aB] using Ic) mB.out).less)
      have LQ:=Lib.hid (show Below w.heap.size w w8 from by rw [← J3];exact (jy.out.trans dI).setCell (p:=⟨b,2,none⟩) Um _);clear J3 kP jy Ic qi dI mB NA m27 Mu E2 m1 m2 lv3 t0 t1;go_wp2_with fail
      go_roundw
      case rel=>exact ⟨k+1,_,⟨_,_,_,_,_⟩,L3,O3++[k],N3,hkl,by go_num,Lib.hid rfl,RN,u9,um,LQ⟩
      case measure=>simp [intOf];omega
   | true =>
    rw [hcc] at y3;have q:=GW k st kP ie.out Yw (by rw [hlh];exact hl) hH.out (by rw [hgr.out,hcc]);replace kP:=Lib.hid kP;replace jy:=Lib.hid jy;clear y0 y1 y2;go_wp2_with fail;refine q.mono ?_;rintro e w4 ⟨rfl,⟨v',hv',L',O',N',NJ,x9⟩,tr⟩;have hmid:Hid (∃ v':Vs,v'.r=.slice (some ⟨gr,0,none⟩) l.length cr∧∃ L' O' N',PM w.heap.size b (some (.blk wr.heap.size #[.int .u8 (r.ch.toNat:Int),.int .i64 (n:Int),.bool r.o,.bool r.c] 240)) v' (Em.hold l) L' O' N' (Em.inner (Em.hold l) k st).2 w4∧Em.sF (Em.hold l) k (Em.inner (Em.hold l) k st) L' O' N'∧Below w.heap.size w w4) :=
     Lib.hid ⟨v',hv',L',O',N',NJ,x9,jy.out.trans tr⟩
    clear q kP jy ie NJ x9 tr hv' y3;go_upto_region 8 with fail
    obtain ⟨v3,hr3,L3,O3,N3,kP,eV,jy⟩:=hmid.out;clear hmid;have tQ:=kP.extra;obtain ⟨y0,y1,y2,y3⟩:=four tQ;obtain ⟨r3,l3,o3,n3,p3⟩:=v3;obtain ⟨gl3,cl3,Nr,aal,Zu,Z0⟩:=gh kP.ri (by rw [eV.1.len,hlh];omega);obtain ⟨Ao3,co3,PW,ZL⟩:=ak kP.xS;simp only at Nr PW hr3;subst Nr PW hr3;have UD:L3.length=l.length:=by rw [eV.1.len,hlh]
    obtain ⟨Um,UC,E2,m0,m1,m2,m3,m4⟩:=kP.blk;have tX:=kP.ri;simp only [UD] at m0 m1 m2 tX;have lv3:=eM tX (k:=k) (by omega);obtain ⟨z,hz⟩:∃ z,z=L3[k]:=⟨_,rfl⟩
    rw [← hz] at lv3;have hzl:Em.lf L3 k=z:=by rw [Em.pU (by omega),hz]
    have jr:=Em.DA eV (by rw [hlh];exact hkl);rw [hzl] at jr;have hOf:=eV.1.uO;have TW:=jy.size;replace kP:=Lib.hid kP;replace jy:=Lib.hid jy;replace jr:=Lib.hid jr;clear tQ tX eV hz hzl m0 m3 m4 y0 y1 y3;cases Ci:r.o with
    | false =>
     rw [Ci] at y2;have u9:Hid (Em.xL (Em.hold l) (k+1) (Em.inner (Em.hold l) k st) L3 O3 N3):=Lib.hid (by have:=jr.out;rwa [hgr.out,Ci,if_neg (by simp)] at this);clear jr E2 m1 m2 lv3;go_wp2_with fail
     go_roundw
     case rel=>exact ⟨k+1,_,⟨_,_,_,_,_⟩,L3,O3,N3,hkl,by go_num,Lib.hid rfl,Lib.hid kP.out.less,u9,um,jy⟩
     case measure=>simp [intOf];omega
    | true =>
     rw [Ci] at y2;rcases Nat.eq_zero_or_pos z with hz0 | hz0
     ·subst hz0
      have u9:Hid (Em.xL (Em.hold l) (k+1) (Em.inner (Em.hold l) k st) L3 O3 N3):=Lib.hid (by have:=jr.out;rwa [if_neg (by omega)] at this);clear jr E2 m2;go_wp2_with fail
      go_roundw
      case rel=>exact ⟨k+1,_,⟨_,_,_,_,_⟩,L3,O3,N3,hkl,by go_num,Lib.hid rfl,Lib.hid kP.out.less,u9,um,jy⟩
      case measure=>simp [intOf];omega
     ·have t0:decide ((0:Int)<(z:Int))=true:=decide_eq_true (by omega)
      have t1:decide (0<z)=true:=decide_eq_true hz0;have u9:Hid (Em.xL (Em.hold l) (k+1) (Em.inner (Em.hold l) k st) L3 (O3++[k]) N3):=Lib.hid (by have:=jr.out;rwa [hgr.out,Ci,if_pos ⟨rfl,hz0⟩] at this);clear jr hz0;go_upto_region 10 with (at_builtin;refine bw rfl (.tmp 42) (.tmp 44) rfl dZ rfl kP.out.xS rfl (by simp) rfl (by simp;rfl) (by omega) (by omega) (by omega) ?_;intro vo7 w7 Ic qi dI mB;obtain ⟨A7,c7,rfl,hc7⟩:=ak Ic;obtain ⟨NA,m27⟩:=kP.out.atO qi.out;have Mu:b<w7.heap.size:=Nat.lt_of_lt_of_le UC dI.size)
      generalize J3:World.setCell w7 _ _=w8;have RN:=Lib.hid (show PM w.heap.size b none ⟨_,_,.slice A7 (O3.length+1) c7,n3,p3⟩ (Em.hold l) L3 (O3++[k]) N3 (Em.inner (Em.hold l) k st).2 w8 from by
       rw [← J3];exact (kP.out.T0 qi.out (by simpa [aB] using Ic) mB.out).less)
      have LQ:=Lib.hid (show Below w.heap.size w w8 from by rw [← J3];exact (jy.out.trans dI).setCell (p:=⟨b,2,none⟩) Um _);clear J3 kP jy Ic qi dI mB NA m27 Mu E2 m1 m2 lv3 t0 t1;go_wp2_with fail
      go_roundw
      case rel=>exact ⟨k+1,_,⟨_,_,_,_,_⟩,L3,O3++[k],N3,hkl,by go_num,Lib.hid rfl,RN,u9,um,LQ⟩
      case measure=>simp [intOf];omega
  ·have AM:k=l.length:=by omega
   subst AM;have ho:st.2=Em.pairs l:=by
    have h1:=FN.out;rw [Nat.sub_self] at h1;rw [← hres.out,← h1];rfl
   have xJ:=hM.out;rw [ho] at xJ;obtain ⟨_,oa,hfz,m0,m1,m2,m3,m4⟩:=xJ.blk;have Wg:=Lib.hid xJ.SS;obtain ⟨AP,cp,hvp,Vp⟩:=ak xJ.SS;rw [hvp] at m4 Wg;clear xJ m0 m1 m2 m3 Gl hM hS ho;go_wp2_with fail;go_ret;exact ⟨⟨_,rfl,Wg.out⟩,hB.out⟩
def V5:Prop:=∀ (s:List UInt8) (w:World),s.length≤4000000→Tabs w→Calls Tryz.prog 96 #[.string (bs s)] w fun e w' =>
 (∃ v,e=.returned v∧∃ css,w'.ownsRow w.heap.size 35 4 v (Il.parse s).length css.flatten∧gB w' (fun b=>w.heap.size≤b∧b<w'.heap.size) (Il.parse s) css)∧Below w.heap.size w w'
end Go.Proofs.YtddkjkockbcamaaGreatDoor
namespace Go.Proofs.YtddkjkockbcamaaGreatDoor
open Go.RowKit
attribute [local go_sem] aD av aq
namespace Pg
open Go.Lib
def A8 (c:UInt8) (l:List UInt8):List UInt8:=l.takeWhile (· != c)
def BQ (c:UInt8) (l:List UInt8):List UInt8:=(l.dropWhile (· != c)).drop 1
theorem od (c:UInt8):∀ l:List UInt8,l.contains c=true→l=A8 c l++c::BQ c l
 | [],h=>by simp at h
 | b::r,h=>by
  unfold A8 BQ
  by_cases hb:b=c
  ·subst hb;simp
  ·have hne:(b != c)=true:=by simpa using hb
   have hr:r.contains c=true:=by
    rw [List.contains_iff_mem] at h ⊢;rcases List.mem_cons.1 h with e | e
    ·exact absurd e.symm hb
    ·exact e
   have ih:=od c r hr;unfold A8 BQ at ih;rw [List.takeWhile_cons_of_pos (by exact hne),List.dropWhile_cons_of_pos (by exact hne),List.cons_append,← ih]
theorem Bj (c:UInt8):∀ l:List UInt8,∀ b∈A8 c l,b≠c
 | [],_,h=>by simp [A8] at h
 | x::r,b,h=>by
  unfold A8 at h
  by_cases hx:(x != c)=true
  ·rw [List.takeWhile_cons_of_pos (by exact hx)] at h
   rcases List.mem_cons.1 h with rfl | h
   ·simpa using hx
   ·exact Bj c r b h
  ·rw [List.takeWhile_cons_of_neg (by exact hx)] at h;simp at h
theorem tO {c:UInt8}{l:List UInt8}(h:l.contains c=false):∀ b∈l,b≠c:=by
 intro b hb he;subst he;rw [← Bool.not_eq_true,List.contains_iff_mem] at h;exact h hb
theorem IA {c:UInt8}{l:List UInt8}(h:l.contains c=true):(A8 c l).length+1+(BQ c l).length=l.length:=by
 have:=congrArg List.length (od c l h);rw [List.length_append,List.length_cons] at this;omega
theorem NW {l:List UInt8}(h:l.contains 60=false) (st:List (List UInt8)):Hm.iH l st=st.isEmpty:=by
 have:=Hm.bM l [] st (tO h);rw [List.append_nil] at this;rw [this];rfl
theorem RE {l:List UInt8}(h:l.contains 60=true) (st:List (List UInt8)):Hm.iH l st=Hm.iH (60::BQ 60 l) st:=by
 conv=>lhs;rw [od 60 l h]
 exact Hm.bM _ _ _ (Bj 60 l)
theorem R4 {r:List UInt8}(h:r.contains 62=false) (st:List (List UInt8)):Hm.iH (60::r) st=false:=Hm.QL (Hm.zk (tO h)) st
theorem U8 {r:List UInt8}(h:r.contains 62=true) (st:List (List UInt8)):Hm.iH (60::r) st=(match Hm.turn (A8 62 r) st with | none=>false | some st'=>Hm.iH (BQ 62 r) st'):=by
 refine Hm.qO ?_ st
 conv=>lhs;rw [od 62 r h]
 exact Hm.kI _ _ (Bj 62 r)
theorem Lu {t:List UInt8}(h:t.getD 0 0=47):Hm.name (t.drop 1)=(Hm.name t).drop 1:=by
 cases t with
 | nil=>exact absurd h (by decide)
 | cons b r =>
  have hb:b=47:=h;subst hb;unfold Hm.name;rw [List.takeWhile_cons_of_pos (by decide)]
  rfl
end Pg
def strOf:Value→Nat
 | .string b=>b.size
 | _=>0
theorem NX (l:List UInt8) (c:UInt8) (hs:l.length≤140737488355328) (w:World) :
  Calls Tryz.prog 47 #[.string (bs l),.string ⟨#[c]⟩] w fun e w'=>e=.returned (.tuple #[.string (bs (Pg.A8 c l)),.string (bs (Pg.BQ c l)),.bool (l.contains c)])∧Below w.heap.size w w':=by
 have hsz:=au l;have q:=fun w=>Tryz.stringslite_Index_one (bs l) c w;have hbl:(bs l).data.toList=l:=by simp [bs]
 rw [hbl] at q;have hw:Pg.A8 c l++l.dropWhile (· != c)=l:=List.takeWhile_append_dropWhile;rcases index_spec l c with ⟨h1,h2,h3⟩ | ⟨i,h1,h2,h3,h4⟩
 ·have e1:Pg.A8 c l=l:=h3
  have e2:Pg.BQ c l=[]:=by
   rw [e1] at hw;have:l.dropWhile (· != c)=[]:=by simpa using hw
   unfold Pg.BQ;rw [this];rfl
  rw [h1] at q;rw [h2,e1,e2];clear h1 h2 h3 e1 e2 hw;go_enter Tryz.func47,Tryz.ntmps47;go_wp2_with fail;refine (q _).mono ?_;rintro e w1 ⟨rfl,rfl⟩;go_wp2;go_ret3;exact ⟨rfl,Below.refl _ _⟩
 ·have e1:Pg.A8 c l=l.take i:=h4
  have e2:Pg.BQ c l=l.drop (i+1):=by
   have h5:l.dropWhile (· != c)=l.drop i:=by
    rw [e1] at hw
    conv at hw=>rhs;rw [← List.take_append_drop i l]
    exact List.append_cancel_left hw
   unfold Pg.BQ;rw [h5,List.drop_drop]
  rw [h1] at q;rw [h3,e1,e2];have hc1:=fun w=>wJ (S:=l) (i:=i) (by omega) w;have hc2:=fun w=>ia (S:=l) (i:=i+1) (v:=(i:Int)+1) (by omega) (by omega) w;clear h1 h3 h4 e1 e2 hw;go_enter Tryz.func47,Tryz.ntmps47;go_wp2_with fail;refine (q _).mono ?_;rintro e w1 ⟨rfl,rfl⟩;go_wp2_with fail;go_quiet (fail);go_wp2;go_ret3;exact ⟨rfl,below_drewN (Below.refl _ _) _⟩
theorem Ab (l:List UInt8) (c:UInt8) (hs:l.length≤140737488355328) (w:World) :
  Calls Tryz.prog 34 #[.string (bs l),.string ⟨#[c]⟩] w fun e w'=>e=.returned (.tuple #[.string (bs (Pg.A8 c l)),.string (bs (Pg.BQ c l)),.bool (l.contains c)])∧Below w.heap.size w w':=by
 have q:=NX l c hs w;obtain ⟨T,hT⟩:∃ T,T=Pg.A8 c l:=⟨_,rfl⟩
 obtain ⟨U,hU⟩:∃ U,U=Pg.BQ c l:=⟨_,rfl⟩
 obtain ⟨o,ho⟩:∃ o,o=l.contains c:=⟨_,rfl⟩
 rw [← hT,← hU,← ho] at q ⊢;clear hT hU ho;go_enter Tryz.func34,Tryz.ntmps34;go_wp2_with fail;refine q.mono ?_;rintro e w1 ⟨rfl,hb⟩;go_wp2;go_ret3;exact ⟨rfl,hb⟩
theorem yj (t:List UInt8) (hs:t.length≤140737488355328) (w:World) :
  Calls Tryz.prog 37 #[.string (bs t)] w fun e w'=>e=.returned (.string (bs (Hm.name t)))∧Below w.heap.size w w':=by
 have q:=Ab t 32 hs w;have e:Pg.A8 32 t=Hm.name t:=rfl;rw [e] at q;clear e;obtain ⟨T,hT⟩:∃ T,T=Hm.name t:=⟨_,rfl⟩
 obtain ⟨U,hU⟩:∃ U,U=Pg.BQ 32 t:=⟨_,rfl⟩
 obtain ⟨o,ho⟩:∃ o,o=t.contains 32:=⟨_,rfl⟩
 rw [← hT,← hU,← ho] at q;rw [← hT];clear hT hU ho;go_enter Tryz.func37,Tryz.ntmps37;go_wp2_with fail;refine q.mono ?_;rintro e w1 ⟨rfl,hb⟩;go_wp2;go_ret;exact ⟨rfl,hb⟩
theorem G9 (t:List UInt8):Lib.hasSuffix t [47]=decide (t≠[]∧t.getLastD 0=47):=by
 rcases List.eq_nil_or_concat t with rfl | ⟨m,x,rfl⟩
 ·rfl
 ·rw [Bool.eq_iff_iff,decide_eq_true_eq]
  unfold Lib.hasSuffix;rw [List.concat_eq_append,List.getLastD_concat,List.isSuffixOf_iff_suffix];constructor
  ·rintro ⟨u,hu⟩
   have:=congrArg (fun l=>l.getLastD 0) hu;simp only [List.getLastD_concat] at this;exact ⟨by simp,this.symm⟩
  ·rintro ⟨_,rfl⟩
   exact ⟨m,rfl⟩
theorem CZ (t:List UInt8) (hs:t.length≤1000000000000) (w:World) :
  Calls Tryz.prog 35 #[.string (bs t),.string ⟨#[47]⟩] w fun e w'=>e=.returned (.bool (decide (t≠[]∧t.getLastD 0=47)))∧w'=w:=by
 have h:=Tryz.strings_HasSuffix (bs t) ⟨#[47]⟩ w (by rw [au];omega);rwa [show (bs t).data.toList=t from by simp [bs],show (⟨#[47]⟩:ByteArray).data.toList=[47] from rfl,G9] at h
theorem Py:EI Tryz.prog 39 9 1 16:=EI.mk' (z:=.string .empty) Tryz.underlying39 (by kernel_rfl) rfl (by omega)
theorem LX {w:World}{B g n c:Nat}{E:TypeId}{xs:List Value}(h:w.ownsRow B E 1 (.slice (some ⟨g,0,none⟩) n c) n xs) {k:Nat}(hk:k≤n):w.ownsRow B E 1 (.slice (some ⟨g,0,none⟩) k c) k (xs.take k):=by
 have hx:xs.length=n:=by have:=h.1;omega
 refine ⟨by rw [List.length_take];omega,?_⟩;rcases h.2 with ⟨h0,_⟩ | ⟨g',c',cur,hv,hB,hg,hc,hm,hs,ht⟩
 ·simp at h0
 ·simp only [Value.slice.injEq,Option.some.injEq,Addr.mk.injEq,and_true,true_and] at hv
  obtain ⟨rfl,rfl⟩:=hv;refine .inr ⟨g,c,cur,rfl,hB,hg,by omega,hm,hs,?_⟩;rw [← ht,List.take_take];congr 1;omega
theorem B9 {w:World}{B size n:Nat}{E:TypeId}{v:Value}{xs:List Value}(h:w.ownsRow B E size v n xs) (hn:0<n):∃ g c,v=.slice (some ⟨g,0,none⟩) n c∧n≤c∧B≤g∧g<w.heap.size:=by
 rcases h.2 with ⟨_,h0⟩ | ⟨g,c,cur,rfl,hB,hg,hc,_⟩
 ·omega
 ·exact ⟨g,c,rfl,hc,hB,(Array.getElem?_eq_some_iff.1 hg).1⟩
theorem By {P:Program}{T:TypeId}(hT:P.underlying T=some (.slice (P.elem T))) (size:Nat) (hsz:∀ w,(sizeOf (P.elem T)).run P w=.ok size w) (g n c hi:Nat) {v:Int}(hv:v=(hi:Int)) (h2:hi≤c) (w:World) :
  (Instr.slice T (.slice (some ⟨g,0,none⟩) n c) none (some (.int .i64 v)) none).run P w=.ok (.slice (some ⟨g,0,none⟩) hi c) w:=by
 subst hv;rw [run_slice_h w T (some ⟨g,0,none⟩) n c hT .i64 hi (by omega) (by omega),hsz];simp [sliced,Result.andThen];intro _;unfold Addr.add
 split<;>simp_all
theorem jh (l:List UInt8) (w:World) (hs:l.length≤1000000000000) :
  Calls Tryz.prog 19 #[.string (bs l)] w fun e w'=>e=.returned (.bool (Hm.iH l []))∧Below w.heap.size w w':=by
 have hsz:=au l;obtain ⟨R,hR⟩:∃ R,R=Hm.iH l []:=⟨_,rfl⟩
 rw [← hR];replace hR:=Lib.hid hR;obtain ⟨n0,hn0⟩:∃ n0,n0=l.length:=⟨_,rfl⟩
 rw [← hn0] at hs;replace hn0:=Lib.hid hn0;go_enter Tryz.func19,Tryz.ntmps19;go_wp2_with fail
 go_loopw [0,3] (fun u v wr=>∃ (m:List UInt8) (st:List (List UInt8)),u=.string (bs m)∧m.length+st.length≤n0∧Hid (wr.ownsRow w.heap.size 9 1 v st.length (aZ st.reverse))∧Hid (R=Hm.iH m st)∧Hid (Below w.heap.size w wr)) (fun u _ _=>strOf u)
 case atStart=>exact ⟨l,[],rfl,by simp [hn0.out],Lib.hid (World.ownsRow_nil _ _ _ _),hR,Lib.hid (Below.refl _ _)⟩
 case round =>
  obtain ⟨m,st,rfl,hms,hown,QS,hb⟩:=hrel;clear hR hsz hn0;obtain ⟨Ao,co,rfl,Xy⟩:=ak hown.out;have q1:=Ab m 60 (by omega) wr
  by_cases eB:m.contains 60=true
  ·have hb2:=Pg.RE eB st
   have hl2:=Pg.IA eB;rw [eB] at q1;obtain ⟨U,hU⟩:∃ U,U=Pg.BQ 60 m:=⟨_,rfl⟩
   obtain ⟨V,hV⟩:∃ V,V=Pg.A8 60 m:=⟨_,rfl⟩
   rw [← hU,← hV] at q1;rw [← hU] at hb2 hl2;have HH:=QS.out.trans hb2;have ac4:=au m;clear hb2 QS hU hV;go_wp2_with fail;refine q1.mono ?_;rintro e w1 ⟨rfl,hb1⟩;have hown1:=Lib.hid (bQ hown.out hb1);have hb3:=Lib.hid (ag hb.out hb1);have q2:=Ab U 62 (by omega) w1;clear q1 hown hb1 hb
   by_cases sO:U.contains 62=true
   ·have hb4:=Pg.U8 sO st
    have hl4:=Pg.IA sO;rw [← HH] at hb4;rw [sO] at q2;obtain ⟨T,hT⟩:∃ T,T=Pg.A8 62 U:=⟨_,rfl⟩
    obtain ⟨M,hM⟩:∃ M,M=Pg.BQ 62 U:=⟨_,rfl⟩
    rw [← hT,← hM] at q2 hb4 hl4;have ab9:=au M;have ac7:=au T;clear HH hT hM sO;replace hb4:=Lib.hid hb4;go_wp2_with fail;refine q2.mono ?_;rintro e w2 ⟨rfl,hb5⟩;have hown2:=Lib.hid (bQ hown1.out hb5);have jA:=Lib.hid (ag hb3.out hb5);clear q2 hown1 hb5 hb3;have q3:=CZ T (by omega) w2
    by_cases HX:T≠[]∧T.getLastD 0=47
    ·have hst:Hid (R=Hm.iH M st):=Lib.hid (by rw [hb4.out,Hm.Hs HX.1 HX.2])
     rw [decide_eq_true HX] at q3;replace HX:=Lib.hid HX;clear hb4;go_wp2_with fail;refine q3.mono ?_;rintro e w3 ⟨rfl,rfl⟩;go_wp2_with fail
     go_roundw
     case rel=>exact ⟨M,st,rfl,by omega,hown2,hst,jA⟩
     case measure=>simp [strOf];omega
    ·rw [decide_eq_false HX] at q3
     have q4:=fun w=>ku T 47 (by decide) w
     by_cases hpf:T.getD 0 0=47
     ·have h0:T≠[]:=by rintro rfl;exact absurd hpf (by decide)
      have Gp:T.getLastD 0≠47:=fun h=>HX ⟨h0,h⟩;rw [show (T.getD 0 0==47)=true from by rw [hpf];rfl] at q4;have Xc:0<T.length:=List.length_pos_iff.2 h0;cases st with
      | nil =>
       have ry:R=false:=by rw [hb4.out,Hm.KQ h0 Gp hpf]
       subst ry;replace h0:=Lib.hid h0;replace Gp:=Lib.hid Gp;replace hpf:=Lib.hid hpf;replace HX:=Lib.hid HX;clear hb4;go_wp2_with fail;refine q3.mono ?_;rintro e w3 ⟨rfl,rfl⟩;go_wp2_with fail;refine (q4 _).mono ?_;rintro e w3 ⟨rfl,rfl⟩;go_wp2_with fail;go_quiet (fail);go_wp2_with fail;go_ret;exact ⟨rfl,below_drewN jA.out _⟩
      | cons n st =>
       have V1:aZ (n::st).reverse=aZ st.reverse++[.string (bs n)]:=by unfold aZ;rw [List.reverse_cons,List.map_append];rfl
       have hlen:(aZ st.reverse).length=st.length:=by simp [aZ]
       obtain ⟨g,cg,hAe,hcg,hg1,hg2⟩:=B9 hown2.out (by simp);injection hAe with tS Iq fM;subst tS fM;have hcell:w2.cell? ⟨g,st.length,none⟩=some (.string (bs n)):=by
        have h3:=hown2.out.cells (g:=g) rfl st.length (.string (bs n)) (by rw [V1,List.getElem?_append_right (by omega),hlen,Nat.sub_self];rfl);rwa [show (⟨g,0,none⟩:Addr).add st.length=⟨g,st.length,none⟩ from by unfold Addr.add;split<;>simp_all] at h3
       have WY:Hid ((aZ (n::st).reverse).take st.length=aZ st.reverse):=Lib.hid (by rw [V1,List.take_left' hlen]);have hsh:=fun w=>By (P:=Tryz.prog) (T:=39) (by kernel_rfl) 1 (fun w=>by kernel_rfl) g (st.length+1) co st.length (v:=(st.length:Int)) rfl (by rw [List.length_cons] at hcg;omega) w;have hm1:=fun w=>ia (S:=T) (i:=1) (v:=1) (by omega) rfl w;have hnd:=Pg.Lu hpf;have q5:=fun w=>yj (T.drop 1) (by rw [List.length_drop];omega) w;obtain ⟨D,hD⟩:∃ D,D=T.drop 1:=⟨_,rfl⟩
       rw [← hD] at hm1 q5 hnd;obtain ⟨X,hX⟩:∃ X,X=Hm.name D:=⟨_,rfl⟩
       rw [← hX] at q5 hnd;rw [List.length_cons] at hms Xy;have g0:((st.length:Int)+1-1)=(st.length:Int):=by omega
       have g1:decide ((st.length:Int)<0)=false:=decide_eq_false (by omega);have g2:decide ((st.length:Int)+1≤(st.length:Int))=false:=decide_eq_false (by omega);have g3:(0:Int)≤(st.length:Int):=by omega
       have g4:(st.length:Int)<(st.length:Int)+1:=by omega
       have g5:¬ ((st.length:Int)<0):=by omega
       have hturn:Hid ((n=X→R=Hm.iH M st)∧(n≠X→R=false)):=Lib.hid ⟨fun h=>by rw [hb4.out,Hm.SQ h0 Gp hpf (h.trans hnd)],fun h=>by rw [hb4.out,Hm.O5 h0 Gp hpf (fun h9=>h (h9.trans hnd.symm))]⟩;replace h0:=Lib.hid h0;replace Gp:=Lib.hid Gp;replace hpf:=Lib.hid hpf;replace HX:=Lib.hid HX;replace q5:=Lib.hid q5;clear hb4 V1 hlen hnd hX hD Xc;go_wp2_with fail;refine q3.mono ?_;rintro e w3 ⟨rfl,rfl⟩;go_wp2_with fail;refine (q4 _).mono ?_;rintro e w3 ⟨rfl,rfl⟩;clear q3 q4;go_upto_region 13 with fail
       refine aE (.rd 0 (.rd 1 (.rd 2 (.rd 3 (.rd 4 (.rd 5 (.rd 6 (.rd 7 (.rd 8 (.mk 9 (.rd 10 (.rd 11 .fin)))))))))))) (fun u:World=>u.cell? ⟨g,st.length,none⟩=some (.string (bs n))) hcell (by kernel_rfl) (by kernel_rfl) (by kernel_rfl) (fun _ _ d _ _ h=>by cases d<;>exact h) ?_
       iterate 6 (first | refine an rfl ?_ | (refine ay rfl ?_;intro K hK;go_simp;refine hK _ _ _ ?_;clear hK K))
       refine aH (.string (bs n)) rfl rfl hcell (fun u hu=>by have u1:u.cell? ⟨g,st.length,none⟩=some (.string (bs n)):=hu;go_simp) ?_
       (first | refine an rfl ?_ | (refine ay rfl ?_;intro K hK;go_simp;refine hK _ _ _ ?_;clear hK K))
       refine aH (.string (bs D)) rfl rfl hcell (fun u hu=>by have u1:=hm1 u;go_simp) ?_;refine aC rfl ?_;intro K hK;go_simp;refine (q5.out _).mono ?_;rintro e w7 ⟨rfl,dI⟩;have TY:w7.cell? ⟨g,st.length,none⟩=some (.string (bs n)):=(dI.cell (p:=⟨g,st.length,none⟩) hg2).trans hcell;refine ⟨_,TY,fun _ h=>h,hK _ _ _ ?_⟩;clear hK K;have mg:=Lib.hid (ag jA.out (ag (bq _) dI));have jR:=bQ hown2.out (ag (bq _) dI);have uh:=Lib.hid (LX jR (k:=st.length) (by simp));clear jR dI jA hown2
       by_cases hne:n=X
       ·have Qt:=Xi (a:=n) (b:=X) hne
        have FT:=Lib.hid (hturn.out.1 hne);replace hne:=Lib.hid hne;clear hturn
        iterate 2 (first | refine an rfl ?_ | (refine ay rfl ?_;intro K hK;go_simp;refine hK _ _ _ ?_;clear hK K))
        refine aM ?_;go_wp2_with fail
        go_roundw
        case rel=>exact ⟨M,st,rfl,by omega,Lib.hid (by rw [← WY.out];exact uh.out),FT,mg⟩
        case measure=>simp [strOf];omega
       ·have Qt:=Yk (a:=n) (b:=X) hne
        have ry:=hturn.out.2 hne;subst ry;replace hne:=Lib.hid hne;clear hturn
        iterate 2 (first | refine an rfl ?_ | (refine ay rfl ?_;intro K hK;go_simp;refine hK _ _ _ ?_;clear hK K))
        refine aM ?_;go_wp2_with fail;go_ret;exact ⟨rfl,mg.out⟩
     ·have hst:Hid (R=Hm.iH M (Hm.name T::st)):=Lib.hid (by
       rw [hb4.out,Hm.MW (by
        by_cases h0:T=[]
        ·exact .inl h0
        ·exact .inr ⟨fun h=>HX ⟨h0,h⟩,hpf⟩)])
      rw [show (T.getD 0 0==47)=false from by rw [beq_eq_false_iff_ne];exact hpf] at q4;have q5:=fun w=>yj T (by omega) w;have hnl:(Hm.name T).length≤T.length:=by
       unfold Hm.name;exact (List.takeWhile_sublist _).length_le
      obtain ⟨X,hX⟩:∃ X,X=Hm.name T:=⟨_,rfl⟩
      rw [← hX] at q5 hst hnl;replace HX:=Lib.hid HX;replace hpf:=Lib.hid hpf;replace q5:=Lib.hid q5;clear hb4 hX;go_wp2_with fail;refine q3.mono ?_;rintro e w3 ⟨rfl,rfl⟩;go_wp2_with fail;refine (q4 _).mono ?_;rintro e w3 ⟨rfl,rfl⟩;clear q3 q4;go_wp2_with fail;refine (q5.out _).mono ?_;rintro e w4 ⟨rfl,dI⟩;have Xk:=bQ hown2.out dI;have mg:=ag jA.out dI;have hbz:=mg.size;replace mg:=Lib.hid mg;clear dI jA hown2 q5;go_wp2_with (at_builtin;refine nc rfl (.tmp 31) (.tmp 34) rfl Py rfl Xk rfl rfl rfl (by intro u hu;simp at hu;subst hu;rfl) (by omega) (by omega) hbz ?_;intro v5 w5 zo xF DC)
      go_roundw
      case rel=>exact ⟨M,X::st,rfl,by simp;omega,Lib.hid (by
       unfold aZ at zo ⊢;rw [List.reverse_cons,List.map_append,List.length_cons];exact zo),hst,Lib.hid (mg.out.trans DC)⟩
      case measure=>simp [strOf];omega
   ·have SU:U.contains 62=false:=by simpa using sO
    have ry:R=false:=by rw [HH,Pg.R4 SU]
    rw [SU] at q2;obtain ⟨T,hT⟩:∃ T,T=Pg.A8 62 U:=⟨_,rfl⟩
    obtain ⟨M,hM⟩:∃ M,M=Pg.BQ 62 U:=⟨_,rfl⟩
    rw [← hT,← hM] at q2;subst ry;clear HH hT hM;replace sO:=Lib.hid sO;replace SU:=Lib.hid SU;go_wp2_with fail;refine q2.mono ?_;rintro e w2 ⟨rfl,hb5⟩;have jA:=Lib.hid (ag hb3.out hb5);clear q2 hb5 hb3;go_wp2_with fail;go_ret;exact ⟨rfl,jA.out⟩
  ·have RP:m.contains 60=false:=by simpa using eB
   have hRe:R=st.isEmpty:=by rw [QS.out,Pg.NW RP]
   rw [RP] at q1;have hle:((st.length:Int)==0)=st.isEmpty:=by
    rw [Bool.eq_iff_iff,beq_iff_eq,List.isEmpty_iff,← List.length_eq_zero_iff];omega
   obtain ⟨U,hU⟩:∃ U,U=Pg.BQ 60 m:=⟨_,rfl⟩
   obtain ⟨V,hV⟩:∃ V,V=Pg.A8 60 m:=⟨_,rfl⟩
   rw [← hU,← hV] at q1;obtain ⟨E,hE⟩:∃ E,E=st.isEmpty:=⟨_,rfl⟩
   rw [← hE] at hle hRe;subst hRe;replace eB:=Lib.hid eB;replace RP:=Lib.hid RP;clear QS hE hU hV;go_wp2_with fail;refine q1.mono ?_;rintro e w1 ⟨rfl,hb1⟩;have hb3:=Lib.hid (ag hb.out hb1);clear q1 hb1 hb;go_wp2_with fail;go_ret;exact ⟨rfl,hb3.out⟩
end Go.Proofs.YtddkjkockbcamaaGreatDoor
