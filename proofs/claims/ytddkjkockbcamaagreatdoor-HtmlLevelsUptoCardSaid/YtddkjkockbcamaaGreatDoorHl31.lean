/- EmProg EmSame EmMatches EmReal IlPre PgBal -/
import Derived.Test.YtddkjkockbcamaaGreatDoorHl20
import Derived.Test.YtddkjkockbcamaaGreatDoorHl28
import Derived.Test.YtddkjkockbcamaaGreatDoorHl19
import Derived.Test.YtddkjkockbcamaaGreatDoorHl18
import Derived.Deep.DeepCutAuto
import Derived.Test.YtddkjkockbcamaaGreatDoorHl29
import Derived.Test.YtddkjkockbcamaaGreatDoorHl04
import Derived.Test.YtddkjkockbcamaaGreatDoorHl03
import Derived.Deep.QuietTactic
import Derived.BigQuiet
set_option maxHeartbeats 16000000
set_option maxRecDepth 100000
namespace Go.Proofs.YtddkjkockbcamaaGreatDoor
open Go.RowKit
theorem PO {l:List UInt8} {j:Nat} (h:j<l.length):WK (l.drop j)=Em.behind l j:=by
 unfold WK;rw [Em.LB h,Ru.dQ (by intro he; have:=congrArg List.length he; simp at this; omega)]
 rfl
theorem NF {l:List UInt8} {k:Nat} (h:0<k) (hk:k≤l.length):XV (l.take k)=Em.ahead l k:=by
 unfold XV Em.ahead;rcases List.eq_nil_or_concat (Ru.aP (l.take k)) with he | ⟨r,x,he⟩
 ·have:=congrArg List.length (Ru.BJ.1 he)
  rw [List.length_take,Nat.min_eq_left hk,List.length_nil] at this; omega
 ·rw [he]; simp
theorem Ec (l:List UInt8) (k j:Nat) (hs:l.length≤1000000000000) (hk:k≤l.length) (hj:j≤l.length) (w:World) (hT:Tabs w) :
  Calls Tryz.prog 239 #[.string (bs l),.int .i64 (k:Int),.int .i64 (j:Int)] w fun e w'=>e=.returned (.tuple #[.int .i32 (Em.ahead l k:Int),.int .i32 (Em.behind l j:Int)])∧Below w.heap.size w w':=by
 have hu:=fun w=>wR (S:=l) hk w;have hf:=fun w=>bZ (S:=l) hj w;obtain ⟨A,hA⟩:∃ A,A=Em.ahead l k:=⟨_,rfl⟩
 obtain ⟨B,hB⟩:∃ B,B=Em.behind l j:=⟨_,rfl⟩
 have q1:(A=32∧∀ w:World,Calls Tryz.prog 246 #[.string (bs (l.take k))] w fun e w'=>e=.returned (.tuple #[.int .i32 0,.bool false])∧Below w.heap.size w w') ∨
   (∀ w:World,Tabs w→Calls Tryz.prog 246 #[.string (bs (l.take k))] w fun e w'=>e=.returned (.tuple #[.int .i32 (A:Int),.bool true])∧Below w.heap.size w w'):=by
  rcases Nat.eq_zero_or_pos k with h0 | h0
  ·subst h0
   exact .inl ⟨hA,fun w=>Kv w⟩
  ·refine .inr fun w hw=>?_
   rw [hA,← NF h0 hk];exact Jf (l.take k) (by intro he; have:=congrArg List.length he; rw [List.length_take,Nat.min_eq_left hk,List.length_nil] at this; omega) w (by simp; omega) hw
 have q2:(B=32∧∀ w:World,Calls Tryz.prog 247 #[.string (bs (l.drop j))] w fun e w'=>e=.returned (.tuple #[.int .i32 0,.bool false])∧Below w.heap.size w w') ∨
   (∀ w:World,Calls Tryz.prog 247 #[.string (bs (l.drop j))] w fun e w'=>e=.returned (.tuple #[.int .i32 (B:Int),.bool true])∧Below w.heap.size w w'):=by
  rcases Nat.lt_or_ge j l.length with h0 | h0
  ·refine .inr fun w=>?_
   rw [hB,← PO h0];exact Fz (l.drop j) (by intro he; have:=congrArg List.length he; simp at this; omega) w
  ·refine .inl ⟨by rw [hB,Em.Gv (by omega)],fun w=>?_⟩
   rw [List.drop_of_length_le h0];exact Fy w
 rw [← hA,← hB];clear hA hB hk hj hs;generalize l.take k=T1 at *;generalize l.drop j=T2 at *;replace hT:=Lib.hid hT;rcases q1 with ⟨rfl,q1⟩ | q1
 ·rcases q2 with ⟨rfl,q2⟩ | q2
  all_goals
   go_enter Tryz.func239,Tryz.ntmps239;go_wp2_with fail;refine (q1 _).mono ?_;rintro e w1 ⟨rfl,hb1⟩;replace hb1:=Lib.hid hb1;go_wp2_with fail;refine (q2 _).mono ?_;rintro e w2 ⟨rfl,hb2⟩;replace hb2:=Lib.hid (ag hb1.out hb2);go_wp2_with fail;go_ret2;exact ⟨rfl,hb2.out⟩
 ·rcases q2 with ⟨rfl,q2⟩ | q2
  all_goals
   go_enter Tryz.func239,Tryz.ntmps239;go_wp2_with fail;refine (q1 _ hT.out).mono ?_;rintro e w1 ⟨rfl,hb1⟩;replace hb1:=Lib.hid hb1;go_wp2_with fail;refine (q2 _).mono ?_;rintro e w2 ⟨rfl,hb2⟩;replace hb2:=Lib.hid (ag hb1.out hb2);go_wp2_with fail;go_ret2;exact ⟨rfl,hb2.out⟩
theorem Jj (l:List UInt8) (at_:Int) (hs:l.length≤1000000000000) (h0:Em.starts l at_=false) (w:World) :
  Calls Tryz.prog 224 #[.string (bs l),.int .i64 at_] w fun e w'=>e=.returned (p4 none)∧Below w.heap.size w w':=by
 have q:=fun w=>tg l at_ hs w;rw [h0] at q;clear h0;go_enter Tryz.func224,Tryz.ntmps224;go_wp2_with fail;refine (q _).mono ?_;rintro e w1 ⟨rfl,hb1⟩;clear q;obtain ⟨z0,z1,z2,z3,z4⟩:=dm hb1;replace hb1:=Lib.hid hb1;go_wp2_with fail;exact bodyPost_ret (v:=p4 none) (by rw [ck rfl]; go_simp; rfl) rfl ⟨rfl,eW hb1.out _ _ _ _⟩
theorem uV {w w5:World} {g:Nat} {a b c d v:Value} {t:TypeId} (h:w.heap[g]?=some (.cells #[a,b,c,d] t (0,0))) (hw:w.setCell ⟨g,2,none⟩ v=w5):w5.heap[g]?=some (.cells #[a,b,v,d] t (0,0)):=by
 rw [← hw]; exact heap_setCell_same w g 2 _ _ v h
theorem set3 {w w5:World} {g:Nat} {a b c d v:Value} {t:TypeId} (h:w.heap[g]?=some (.cells #[a,b,c,d] t (0,0))) (hw:w.setCell ⟨g,3,none⟩ v=w5):w5.heap[g]?=some (.cells #[a,b,c,v] t (0,0)):=by
 rw [← hw]; exact heap_setCell_same w g 3 _ _ v h
theorem zR {B:Nat} {a w w5:World} {p:Addr} {v:Value} (h:Below B a w) (hg:B≤p.block) (hw:w.setCell p v=w5):Below B a w5:=by rw [← hw]; exact h.setCell hg v
theorem P3 (l:List UInt8) (k n:Nat) (c:UInt8) (hs:l.length≤1000000000000) (hk:k<l.length) (hc:l[k]=c) (hn:n=Fn.run c (l.drop k)) (h0:Em.starts l (k:Int)=true) (t:Bool) (ht:((c.toNat:Int)==95)=t) (J:Em.R)
  (hJ:J=Em.qU c n (Em.ahead l k) (Em.behind l (k+n))) (w:World) (hT:Tabs w) :
  Calls Tryz.prog 224 #[.string (bs l),.int .i64 (k:Int)] w fun e w'=>e=.returned (p4 (some (J,k+n)))∧Below w.heap.size w w':=by
 have hin:k+n≤l.length:=by rw [hn,← hc]; exact Em.runs_in hk _
 have q1:=fun w=>tg l (k:Int) hs w;have q2:=fun w=>OQ l k c w hs (by omega);have q3:=fun w hw=>Ec l k (k+n) hs (by omega) hin w hw;have hix:=fun w=>bB hk w;rw [← hn] at q2;rw [hc] at hix;rw [h0] at q1;have hwr:IntKind.i64.wrap ((k:Int)+(n:Int))=((k+n:Nat):Int):=by rw [IntKind.wrap_i64]; omega
 obtain ⟨m,hm⟩:∃ m,m=k+n:=⟨_,rfl⟩
 rw [← hm] at hwr q3 hJ ⊢;obtain ⟨b,hb⟩:∃ b,b=Em.ahead l k:=⟨_,rfl⟩
 obtain ⟨a,ha⟩:∃ a,a=Em.behind l m:=⟨_,rfl⟩
 rw [← hb,← ha] at q3 hJ;have q4:=fun w=>uR a b w;have q5:=fun w=>uR b a w;have q6:=fun w=>ki (b:Int) w;have q7:=fun w=>ki (a:Int) w;have U2:t=false→J=⟨c,n,Em.iK b a,Em.iK a b⟩:=by
  intro h;rw [hJ]; unfold Em.qU;rw [if_neg];rintro rfl; rw [h] at ht; exact absurd ht (by decide)
 have hJ1:t=true→J=⟨c,n,Em.iK b a&&(!Em.iK a b || fX b),Em.iK a b&&(!Em.iK b a || fX a)⟩:=by
  intro h;rw [hJ]; unfold Em.qU;rw [if_pos];rw [h] at ht;have h1:(c.toNat:Int)=95:=by simpa using ht
  have h2:(95:UInt8).toNat=95:=rfl;exact UInt8.toNat_inj.1 (by omega)
 clear hJ hn hc h0;obtain ⟨x,hx⟩:∃ x,x=Em.iK b a:=⟨_,rfl⟩
 obtain ⟨y,hy⟩:∃ y,y=Em.iK a b:=⟨_,rfl⟩
 obtain ⟨PB,XB⟩:∃ y,y=fX b:=⟨_,rfl⟩
 obtain ⟨PA,TB⟩:∃ y,y=fX a:=⟨_,rfl⟩
 rw [← hx] at q4 U2 hJ1;rw [← hy] at q5 U2 hJ1;rw [← XB] at q6 hJ1;rw [← TB] at q7 hJ1;clear hx hy XB TB ha hb;have hkn:k≤1000000000000:=by omega
 have hnn:n≤1000000000000:=by omega
 clear hin hm hk hs;replace hT:=Lib.hid hT;replace U2:=Lib.hid U2;replace hJ1:=Lib.hid hJ1;go_enter Tryz.func224,Tryz.ntmps224;go_wp2_with fail;refine (q1 _).mono ?_;rintro e w1 ⟨rfl,hb1⟩;have hA:=Lib.hid (ag (aa w _) hb1);replace hb1:=Lib.hid hb1;go_wp2_with fail;refine (q2 _).mono ?_;rintro e w2 ⟨rfl,rfl⟩;go_wp2_with fail;refine (q3 _ (cu hT.out hA.out)).mono ?_;rintro e w2 ⟨rfl,hb2⟩;replace hb1:=Lib.hid (ag hb1.out hb2);replace hA:=Lib.hid (ag hA.out hb2);go_wp2_with fail;refine (q4 _).mono ?_;rintro e w3 ⟨rfl,rfl⟩;go_wp2_with fail;refine (q5 _).mono ?_;rintro e w3 ⟨rfl,rfl⟩;clear q1 q2 q3 q4 q5;go_upto_region 9 with fail
 generalize hw4:World.alloc w2 _=w4;have h4:w4.heap[w2.heap.size]?=some (.cells #[.int .u8 (c.toNat:Int),.int .i64 (n:Int),.bool x,.bool y] 240 (0,0)):=by rw [← hw4]; exact heap_alloc_new _ _
 have iE:=ag hA.out (show Below w2.heap.size w2 w4 from by rw [← hw4]; exact aa _ _);have hb4:=ag hb1.out (show Below w2.heap.size w2 w4 from by rw [← hw4]; exact aa _ _);have hg2:=hb1.out.size;clear hw4 hb2 hb1;cases t with
 | false =>
  have hJ:=U2.out rfl;clear U2 hJ1;subst hJ;obtain ⟨y0,y1,y2,y3⟩:=four h4;obtain ⟨z0,z1,z2,z3,z4⟩:=dm hb4;replace hb4:=Lib.hid hb4;replace h4:=Lib.hid h4;go_wp2_with fail;exact bodyPost_ret (v:=p4 (some (⟨c,n,x,y⟩,m))) (by rw [ck rfl]; unfold p4 uP; go_simp) rfl ⟨rfl,eW hb4.out _ _ _ _⟩
 | true =>
  have hJ:=hJ1.out rfl;clear U2 hJ1;subst hJ;have hfz:∀ j,w4.frozen? ⟨w2.heap.size,j,none⟩=false:=aW h4;obtain ⟨y0,y1,y2,y3⟩:=four h4;replace hb4:=Lib.hid hb4;replace h4:=Lib.hid h4;cases x<;>cases y
  all_goals
   go_upto_region 11 with (go_at_call 241; refine (q6 _).mono ?_; rintro e w5 ⟨rfl,rfl⟩)
   generalize Qf:World.setCell w4 _ _=w5;have k5:=uV h4.out Qf;have kb5:=zR hb4.out hg2 Qf;clear Qf y0 y1 y2 y3 hfz;have hfz:∀ j,w5.frozen? ⟨w2.heap.size,j,none⟩=false:=aW k5;obtain ⟨y0,y1,y2,y3⟩:=four k5;replace k5:=Lib.hid k5;replace kb5:=Lib.hid kb5;go_upto_region 12 with (go_at_call 241; refine (q7 _).mono ?_; rintro e w5 ⟨rfl,rfl⟩)
   generalize Wt:World.setCell w5 _ _=w6;have k6:=set3 k5.out Wt;have kb6:=zR kb5.out hg2 Wt;clear Wt y0 y1 y2 y3 hfz;obtain ⟨y0,y1,y2,y3⟩:=four k6;obtain ⟨z0,z1,z2,z3,z4⟩:=dm kb6;replace kb6:=Lib.hid kb6;replace k6:=Lib.hid k6;go_wp2_with fail;exact bodyPost_ret (by rw [ck rfl]; unfold p4 uP; go_simp) rfl ⟨rfl,eW kb6.out _ _ _ _⟩
theorem yK (l:List UInt8) (at_:Int) (hs:l.length≤1000000000000) (w:World) (hT:Tabs w) :
  Calls Tryz.prog 224 #[.string (bs l),.int .i64 at_] w fun e w'=>e=.returned (p4 (Em.kind l at_))∧Below w.heap.size w w':=by
 cases h0:Em.starts l at_ with
 | false =>
  rw [Em.C8 h0];exact Jj l at_ hs h0 w
 | true =>
  obtain ⟨h1,h2,_⟩:=of_decide_eq_true h0;obtain ⟨k,rfl⟩:∃ k:Nat,at_=(k:Int):=⟨at_.toNat,by omega⟩
  have hk:k<l.length:=by omega
  rw [Em.Q9 hk h0];exact P3 l k _ _ hs hk rfl rfl h0 _ rfl _ rfl w hT
end Go.Proofs.YtddkjkockbcamaaGreatDoor

set_option maxHeartbeats 16000000
set_option maxRecDepth 100000
namespace Go.Proofs.YtddkjkockbcamaaGreatDoor
open Go.RowKit
end Go.Proofs.YtddkjkockbcamaaGreatDoor

set_option maxHeartbeats 16000000
set_option maxRecDepth 100000
namespace Go.Proofs.YtddkjkockbcamaaGreatDoor
open Go.RowKit
end Go.Proofs.YtddkjkockbcamaaGreatDoor

set_option maxHeartbeats 16000000
set_option maxRecDepth 100000
namespace Go.Proofs.YtddkjkockbcamaaGreatDoor
open Go.RowKit
theorem Hj (l:List Em.R) (A:Option Addr) (c:Nat) (w:World) (h:Row w w.heap.size 4 A l.length (aF l)) (hl:l.length≤4000000) :
  Calls Tryz.prog 201 #[.slice A l.length c] w fun e w'=>(∃ v,e=.returned v∧w'.ownsRow w.heap.size 241 3 v (Em.pairs l).length (gJ (Em.pairs l)))∧Below w.heap.size w w':=by
 have hR:=Lib.hid h;clear h;go_enter Tryz.func201,Tryz.ntmps201;go_upto_region 1 with fail
 refine NO (l:=l) (A:=A) (c:=c) (fun _ _ d _ _ h=>by cases d<;>exact h) ?_ hR.out hl;intro b v v12 w1 P9 hB1;have hlh:(Em.hold l).length=l.length:=by simp [Em.hold]
 have hH:=Lib.hid (Em.KC l);obtain ⟨fin,aL⟩:∃ fin,fin=Em.outer (Em.hold l) l.length 0 ((Em.hold l).map (fun r=>Em.held r.n),[]):=⟨_,rfl⟩
 have hres:Hid (fin.2=Em.pairs l):=Lib.hid (by rw [← Em.FA l,aL]; unfold Em.pairs; rw [hlh]);have n9:=Em.JV (Em.hold l);rw [hlh] at n9;obtain ⟨vr,vl,vo,vn,vp⟩:=v;obtain ⟨Ar,cr,E9,hcr⟩:=ak P9.Fj;obtain ⟨_,WZ,ZJ,m0,m1,m2,m3,m4⟩:=P9.blk;simp only [hlh] at E9 m0 hcr;subst E9;replace P9:=Lib.hid P9;replace hB1:=Lib.hid hB1;replace n9:=Lib.hid n9;replace aL:=Lib.hid aL;clear m1 m2 m3 m4 ZJ;go_wp2_with fail
 go_loopw [16] (fun u wr=>∃ (k:Nat) (st:Em.St) (v:Vs) (L O N:List Nat),k≤l.length∧u=.int .i64 k∧Hid (v.r=.slice Ar l.length cr)∧Hid (PM w.heap.size b none v (Em.hold l) L O N st.2 wr)∧Hid (Em.x9 (Em.hold l) k st L O N) ∧
   Hid (Em.outer (Em.hold l) (l.length - k) k st=fin)∧Hid (Below w.heap.size w wr)) (fun u _=>l.length - (intOf u).toNat)
 case atStart=>exact ⟨0,_,_,_,_,_,Nat.zero_le _,rfl,Lib.hid rfl,P9,n9,Lib.hid aL.out.symm,hB1⟩
 case round =>
  obtain ⟨k,st,v,L,O,N,hk,rfl,E9,hM,hS,Fa,hB⟩:=hrel;clear P9 hB1 n9 aL m0 WZ
  by_cases hkl:k<l.length
  ·have uu:Hid (Em.outer (Em.hold l) (l.length - (k+1)) (k+1) (Em.inner (Em.hold l) k st)=fin):=Lib.hid (by
    have h1:=Fa.out;rw [show l.length - k=(l.length - (k+1))+1 by omega] at h1;exact h1)
   clear Fa;have Yk:k<(Em.hold l).length:=by rw [hlh]; exact hkl
   obtain ⟨r,hr⟩:∃ r,r=(Em.hold l)[k]:=⟨_,rfl⟩
   have hgr:Hid (Em.get (Em.hold l) k=r):=Lib.hid (by rw [Em.get_at Yk,hr]);have MN:=hH.out r (by rw [hr]; exact List.getElem_mem Yk);obtain ⟨n,hn⟩:∃ n:Nat,n=Em.held r.n:=⟨_,rfl⟩
   have hnr:r.n=(n:Int):=by rw [hn]; exact (Em.Bb MN.1 MN.2).symm
   have ij:=Em.VE hS.out Yk;rw [hgr.out,← hn] at ij;have xU:=hM.out;obtain ⟨vr,vl,vo,vn,vp⟩:=v;have Xt:=E9.out;obtain ⟨gl,cl,hvl,hcl,hBl,Ds⟩:=gb xU.ri (by rw [hS.out.1.len,hlh]; omega);have Uz:L.length=l.length:=by rw [hS.out.1.len,hlh]
   simp only at Xt hvl;subst Xt hvl;obtain ⟨gr,rfl⟩:∃ g,Ar=some ⟨g,0,none⟩:=by
    obtain ⟨g,c',hv,_⟩:=gb xU.Fj (by rw [hlh]; omega);injection hv with h1 _ _;exact ⟨g,h1⟩
   have EF:=xU.Fj;simp only [hlh] at EF;obtain ⟨x0,x1,x2,x3⟩:=kE EF Yk;rw [← hr] at x0 x1 x2 x3;have hgrw:=(EF.lt _ rfl).2;replace hr:=Lib.hid hr;replace hn:=Lib.hid hn;replace ij:=Lib.hid ij;have XR:=hB.out.size;clear EF hM hS E9;go_upto_region 5 with fail
   generalize hw2:World.alloc wr _=w2;have I5:PM w.heap.size b (some (.blk wr.heap.size #[.int .u8 (r.ch.toNat:Int),.int .i64 (n:Int),.bool r.o,.bool r.c] 240)) ⟨.slice (some ⟨gr,0,none⟩) l.length cr,.slice (some ⟨gl,0,none⟩) L.length cl,vo,vn,vp⟩ (Em.hold l) L O N st.2 w2:=by rw [← hw2]; exact xU.more _ _ XR
   have hB2:Below w.heap.size w w2:=by rw [← hw2]; exact hB.out.alloc XR _
   clear hw2 x0 x1 x2 x3 xU hB Ds;have C9:=I5.extra;obtain ⟨y0,y1,y2,y3⟩:=four C9;obtain ⟨hB2',iz,ZT,m0,m1,m2,m3,m4⟩:=I5.blk;have GL:=I5.ri;simp only [Uz] at m0 m1 GL;have lf2:=fun j=>GL.frozenAt j;have lv2:=eL GL (k:=k) (by omega);have hgl2:=(GL.lt _ rfl).2;have Xy:=Lib.hid (I5.Pw (g:=gl) (c:=cl) rfl k n);replace I5:=Lib.hid I5;replace hB2:=Lib.hid hB2;replace GL:=Lib.hid GL;clear C9 m0 m2 m3 m4 y0 y2 y3;go_upto_region 6 with fail
   generalize hw3:World.setCell w2 _ _=w3;have kU:PM w.heap.size b (some (.blk wr.heap.size #[.int .u8 (r.ch.toNat:Int),.int .i64 (n:Int),.bool r.o,.bool r.c] 240)) ⟨.slice (some ⟨gr,0,none⟩) l.length cr,.slice (some ⟨gl,0,none⟩) L.length cl,vo,vn,vp⟩ (Em.hold l) (L.set k n) O N st.2 w3:=by rw [← hw3]; exact Xy.out
   have jw:Below w.heap.size w w3:=by rw [← hw3]; exact hB2.out.setCell (p:=⟨gl,k,none⟩) hBl _
   clear hw3 Xy I5 hB2 GL lf2 lv2 y1 m1 ZT iz;obtain ⟨y0,y1,y2,y3⟩:=four kU.extra;cases hcc:r.c with
   | false =>
    rw [hcc] at y3;have hmid:Hid (∃ v':Vs,v'.r=.slice (some ⟨gr,0,none⟩) l.length cr∧∃ L' O' N',PM w.heap.size b (some (.blk wr.heap.size #[.int .u8 (r.ch.toNat:Int),.int .i64 (n:Int),.bool r.o,.bool r.c] 240)) v' (Em.hold l) L' O' N' (Em.inner (Em.hold l) k st).2 w3∧Em.rX (Em.hold l) k (Em.inner (Em.hold l) k st) L' O' N'∧Below w.heap.size w w3):=Lib.hid (by
     rw [Em.pL (by rw [hgr.out,hcc]; simp)];exact ⟨_,rfl,_,_,_,kU,ij.out,jw⟩)
    clear kU jw ij y0 y1 y2;go_upto_region 8 with fail
    obtain ⟨v3,hr3,L3,O3,N3,kU,eX,jw⟩:=hmid.out;clear hmid;have sM:=kU.extra;obtain ⟨y0,y1,y2,y3⟩:=four sM;obtain ⟨r3,l3,o3,n3,p3⟩:=v3;obtain ⟨gl3,cl3,Pj,hcl3,Zl,aac⟩:=gb kU.ri (by rw [eX.1.len,hlh]; omega);obtain ⟨Ao3,co3,Oh,hco3⟩:=ak kU.xT;simp only at Pj Oh hr3;subst Pj Oh hr3;have VF:L3.length=l.length:=by rw [eX.1.len,hlh]
    obtain ⟨Uy,UD,Fh,m0,m1,m2,m3,m4⟩:=kU.blk;have uf:=kU.ri;simp only [VF] at m0 m1 m2 uf;have lv3:=eL uf (k:=k) (by omega);obtain ⟨z,hz⟩:∃ z,z=L3[k]:=⟨_,rfl⟩
    rw [← hz] at lv3;have hzl:Em.lf L3 k=z:=by rw [Em.qa (by omega),hz]
    have jk:=Em.Ci eX (by rw [hlh]; exact hkl);rw [hzl] at jk;have hOf:=eX.1.vb;have T3:=jw.size;replace kU:=Lib.hid kU;replace jw:=Lib.hid jw;replace jk:=Lib.hid jk;clear sM uf eX hz hzl m0 m3 m4 y0 y1 y3;cases C2:r.o with
    | false =>
     rw [C2] at y2;have xF:Hid (Em.x9 (Em.hold l) (k+1) (Em.inner (Em.hold l) k st) L3 O3 N3):=Lib.hid (by have:=jk.out; rwa [hgr.out,C2,if_neg (by simp)] at this);clear jk Fh m1 m2 lv3;go_wp2_with fail
     go_roundw
     case rel=>exact ⟨k+1,_,⟨_,_,_,_,_⟩,L3,O3,N3,hkl,by go_num,Lib.hid rfl,Lib.hid kU.out.less,xF,uu,jw⟩
     case measure=>simp [intOf]; omega
    | true =>
     rw [C2] at y2;rcases Nat.eq_zero_or_pos z with hz0 | hz0
     ·subst hz0
      have xF:Hid (Em.x9 (Em.hold l) (k+1) (Em.inner (Em.hold l) k st) L3 O3 N3):=Lib.hid (by have:=jk.out; rwa [if_neg (by omega)] at this);clear jk Fh m2;go_wp2_with fail
      go_roundw
      case rel=>exact ⟨k+1,_,⟨_,_,_,_,_⟩,L3,O3,N3,hkl,by go_num,Lib.hid rfl,Lib.hid kU.out.less,xF,uu,jw⟩
      case measure=>simp [intOf]; omega
     ·have t0:decide ((0:Int)<(z:Int))=true:=decide_eq_true (by omega)
      have t1:decide (0<z)=true:=decide_eq_true hz0;have xF:Hid (Em.x9 (Em.hold l) (k+1) (Em.inner (Em.hold l) k st) L3 (O3++[k]) N3):=Lib.hid (by have:=jk.out; rwa [hgr.out,C2,if_pos ⟨rfl,hz0⟩] at this);clear jk hz0;go_upto_region 10 with (at_builtin; refine bu rfl (.tmp 42) (.tmp 44) rfl eg rfl kU.out.xT rfl (by simp) rfl (by simp; rfl) (by omega) (by omega) (by omega) ?_; intro vo7 w7 HZ qY dI mF; obtain ⟨A7,c7,rfl,hc7⟩:=ak HZ; obtain ⟨Mk,m27⟩:=kU.out.atO qY.out; have OS:b<w7.heap.size:=Nat.lt_of_lt_of_le UD dI.size)
      generalize Kz:World.setCell w7 _ _=w8;have Sm:=Lib.hid (show PM w.heap.size b none ⟨_,_,.slice A7 (O3.length+1) c7,n3,p3⟩ (Em.hold l) L3 (O3++[k]) N3 (Em.inner (Em.hold l) k st).2 w8 from by
       rw [← Kz];exact (kU.out.Vu qY.out (by simpa [aB] using HZ) mF.out).less)
      have LW:=Lib.hid (show Below w.heap.size w w8 from by rw [← Kz]; exact (jw.out.trans dI).setCell (p:=⟨b,2,none⟩) Uy _);clear Kz kU jw HZ qY dI mF Mk m27 OS Fh m1 m2 lv3 t0 t1;go_wp2_with fail
      go_roundw
      case rel=>exact ⟨k+1,_,⟨_,_,_,_,_⟩,L3,O3++[k],N3,hkl,by go_num,Lib.hid rfl,Sm,xF,uu,LW⟩
      case measure=>simp [intOf]; omega
   | true =>
    rw [hcc] at y3;have q:=Hg k st kU ij.out Yk (by rw [hlh]; exact hl) hH.out (by rw [hgr.out,hcc]);replace kU:=Lib.hid kU;replace jw:=Lib.hid jw;clear y0 y1 y2;go_wp2_with fail;refine q.mono ?_;rintro e w4 ⟨rfl,⟨v',hv',L',O',N',N7,xO⟩,tc⟩;have hmid:Hid (∃ v':Vs,v'.r=.slice (some ⟨gr,0,none⟩) l.length cr∧∃ L' O' N',PM w.heap.size b (some (.blk wr.heap.size #[.int .u8 (r.ch.toNat:Int),.int .i64 (n:Int),.bool r.o,.bool r.c] 240)) v' (Em.hold l) L' O' N' (Em.inner (Em.hold l) k st).2 w4∧Em.rX (Em.hold l) k (Em.inner (Em.hold l) k st) L' O' N'∧Below w.heap.size w w4) :=
     Lib.hid ⟨v',hv',L',O',N',N7,xO,jw.out.trans tc⟩
    clear q kU jw ij N7 xO tc hv' y3;go_upto_region 8 with fail
    obtain ⟨v3,hr3,L3,O3,N3,kU,eX,jw⟩:=hmid.out;clear hmid;have sM:=kU.extra;obtain ⟨y0,y1,y2,y3⟩:=four sM;obtain ⟨r3,l3,o3,n3,p3⟩:=v3;obtain ⟨gl3,cl3,Pj,hcl3,Zl,aac⟩:=gb kU.ri (by rw [eX.1.len,hlh]; omega);obtain ⟨Ao3,co3,Oh,hco3⟩:=ak kU.xT;simp only at Pj Oh hr3;subst Pj Oh hr3;have VF:L3.length=l.length:=by rw [eX.1.len,hlh]
    obtain ⟨Uy,UD,Fh,m0,m1,m2,m3,m4⟩:=kU.blk;have uf:=kU.ri;simp only [VF] at m0 m1 m2 uf;have lv3:=eL uf (k:=k) (by omega);obtain ⟨z,hz⟩:∃ z,z=L3[k]:=⟨_,rfl⟩
    rw [← hz] at lv3;have hzl:Em.lf L3 k=z:=by rw [Em.qa (by omega),hz]
    have jk:=Em.Ci eX (by rw [hlh]; exact hkl);rw [hzl] at jk;have hOf:=eX.1.vb;have T3:=jw.size;replace kU:=Lib.hid kU;replace jw:=Lib.hid jw;replace jk:=Lib.hid jk;clear sM uf eX hz hzl m0 m3 m4 y0 y1 y3;cases C2:r.o with
    | false =>
     rw [C2] at y2;have xF:Hid (Em.x9 (Em.hold l) (k+1) (Em.inner (Em.hold l) k st) L3 O3 N3):=Lib.hid (by have:=jk.out; rwa [hgr.out,C2,if_neg (by simp)] at this);clear jk Fh m1 m2 lv3;go_wp2_with fail
     go_roundw
     case rel=>exact ⟨k+1,_,⟨_,_,_,_,_⟩,L3,O3,N3,hkl,by go_num,Lib.hid rfl,Lib.hid kU.out.less,xF,uu,jw⟩
     case measure=>simp [intOf]; omega
    | true =>
     rw [C2] at y2;rcases Nat.eq_zero_or_pos z with hz0 | hz0
     ·subst hz0
      have xF:Hid (Em.x9 (Em.hold l) (k+1) (Em.inner (Em.hold l) k st) L3 O3 N3):=Lib.hid (by have:=jk.out; rwa [if_neg (by omega)] at this);clear jk Fh m2;go_wp2_with fail
      go_roundw
      case rel=>exact ⟨k+1,_,⟨_,_,_,_,_⟩,L3,O3,N3,hkl,by go_num,Lib.hid rfl,Lib.hid kU.out.less,xF,uu,jw⟩
      case measure=>simp [intOf]; omega
     ·have t0:decide ((0:Int)<(z:Int))=true:=decide_eq_true (by omega)
      have t1:decide (0<z)=true:=decide_eq_true hz0;have xF:Hid (Em.x9 (Em.hold l) (k+1) (Em.inner (Em.hold l) k st) L3 (O3++[k]) N3):=Lib.hid (by have:=jk.out; rwa [hgr.out,C2,if_pos ⟨rfl,hz0⟩] at this);clear jk hz0;go_upto_region 10 with (at_builtin; refine bu rfl (.tmp 42) (.tmp 44) rfl eg rfl kU.out.xT rfl (by simp) rfl (by simp; rfl) (by omega) (by omega) (by omega) ?_; intro vo7 w7 HZ qY dI mF; obtain ⟨A7,c7,rfl,hc7⟩:=ak HZ; obtain ⟨Mk,m27⟩:=kU.out.atO qY.out; have OS:b<w7.heap.size:=Nat.lt_of_lt_of_le UD dI.size)
      generalize Kz:World.setCell w7 _ _=w8;have Sm:=Lib.hid (show PM w.heap.size b none ⟨_,_,.slice A7 (O3.length+1) c7,n3,p3⟩ (Em.hold l) L3 (O3++[k]) N3 (Em.inner (Em.hold l) k st).2 w8 from by
       rw [← Kz];exact (kU.out.Vu qY.out (by simpa [aB] using HZ) mF.out).less)
      have LW:=Lib.hid (show Below w.heap.size w w8 from by rw [← Kz]; exact (jw.out.trans dI).setCell (p:=⟨b,2,none⟩) Uy _);clear Kz kU jw HZ qY dI mF Mk m27 OS Fh m1 m2 lv3 t0 t1;go_wp2_with fail
      go_roundw
      case rel=>exact ⟨k+1,_,⟨_,_,_,_,_⟩,L3,O3++[k],N3,hkl,by go_num,Lib.hid rfl,Sm,xF,uu,LW⟩
      case measure=>simp [intOf]; omega
  ·have yb:k=l.length:=by omega
   subst yb;have ho:st.2=Em.pairs l:=by
    have h1:=Fa.out;rw [Nat.sub_self] at h1;rw [← hres.out,← h1]; rfl
   have xU:=hM.out;rw [ho] at xU;obtain ⟨_,mw,hfz,m0,m1,m2,m3,m4⟩:=xU.blk;have Wp:=Lib.hid xU.SK;obtain ⟨AP,cp,hvp,T0⟩:=ak xU.SK;rw [hvp] at m4 Wp;clear xU m0 m1 m2 m3 E9 hM hS ho;go_wp2_with fail;go_ret;exact ⟨⟨_,rfl,Wp.out⟩,hB.out⟩
end Go.Proofs.YtddkjkockbcamaaGreatDoor

set_option maxHeartbeats 16000000
set_option maxRecDepth 100000
namespace Go.Proofs.YtddkjkockbcamaaGreatDoor
open Go.RowKit
def TY:Prop:=∀ (s:List UInt8) (w:World),s.length≤4000000→Tabs w→Calls Tryz.prog 96 #[.string (bs s)] w fun e w' =>
 (∃ v,e=.returned v∧∃ css,w'.ownsRow w.heap.size 35 4 v (Il.parse s).length css.flatten∧gA w' (fun b=>w.heap.size≤b∧b<w'.heap.size) (Il.parse s) css)∧Below w.heap.size w w'
end Go.Proofs.YtddkjkockbcamaaGreatDoor

set_option maxHeartbeats 16000000
set_option maxRecDepth 100000
namespace Go.Proofs.YtddkjkockbcamaaGreatDoor
open Go.RowKit
attribute [local go_sem] aD av aq
namespace Pg
open Go.Lib
def Ba (c:UInt8) (l:List UInt8):List UInt8:=l.takeWhile (· != c)
def BW (c:UInt8) (l:List UInt8):List UInt8:=(l.dropWhile (· != c)).drop 1
theorem nW (c:UInt8):∀ l:List UInt8,l.contains c=true→l=Ba c l++c::BW c l
 | [],h=>by simp at h
 | b::r,h=>by
  unfold Ba BW
  by_cases hb:b=c
  ·subst hb; simp
  ·have hne:(b != c)=true:=by simpa using hb
   have hr:r.contains c=true:=by
    rw [List.contains_iff_mem] at h ⊢;rcases List.mem_cons.1 h with e | e
    ·exact absurd e.symm hb
    ·exact e
   have ih:=nW c r hr;unfold Ba BW at ih;rw [List.takeWhile_cons_of_pos (by exact hne),List.dropWhile_cons_of_pos (by exact hne),List.cons_append,← ih]
theorem Bn (c:UInt8):∀ l:List UInt8,∀ b∈Ba c l,b≠c
 | [],_,h=>by simp [Ba] at h
 | x::r,b,h=>by
  unfold Ba at h
  by_cases hx:(x != c)=true
  ·rw [List.takeWhile_cons_of_pos (by exact hx)] at h
   rcases List.mem_cons.1 h with rfl | h
   ·simpa using hx
   ·exact Bn c r b h
  ·rw [List.takeWhile_cons_of_neg (by exact hx)] at h; simp at h
theorem sQ {c:UInt8} {l:List UInt8} (h:l.contains c=false):∀ b∈l,b≠c:=by
 intro b hb he;subst he;rw [← Bool.not_eq_true,List.contains_iff_mem] at h;exact h hb
theorem Io {c:UInt8} {l:List UInt8} (h:l.contains c=true):(Ba c l).length+1+(BW c l).length=l.length:=by
 have:=congrArg List.length (nW c l h);rw [List.length_append,List.length_cons] at this;omega
theorem MK {l:List UInt8} (h:l.contains 60=false) (st:List (List UInt8)):Hm.jx l st=st.isEmpty:=by
 have:=Hm.cy l [] st (sQ h);rw [List.append_nil] at this;rw [this]; rfl
theorem SN {l:List UInt8} (h:l.contains 60=true) (st:List (List UInt8)):Hm.jx l st=Hm.jx (60::BW 60 l) st:=by
 conv=>lhs; rw [nW 60 l h]
 exact Hm.cy _ _ _ (Bn 60 l)
theorem SV {r:List UInt8} (h:r.contains 62=false) (st:List (List UInt8)):Hm.jx (60::r) st=false:=Hm.R5 (Hm.zC (sQ h)) st
theorem U6 {r:List UInt8} (h:r.contains 62=true) (st:List (List UInt8)):Hm.jx (60::r) st=(match Hm.turn (Ba 62 r) st with | none=>false | some st'=>Hm.jx (BW 62 r) st'):=by
 refine Hm.ql ?_ st
 conv=>lhs; rw [nW 62 r h]
 exact Hm.kM _ _ (Bn 62 r)
theorem Jp {t:List UInt8} (h:t.getD 0 0=47):Hm.name (t.drop 1)=(Hm.name t).drop 1:=by
 cases t with
 | nil=>exact absurd h (by decide)
 | cons b r =>
  have hb:b=47:=h;subst hb;unfold Hm.name;rw [List.takeWhile_cons_of_pos (by decide)]
  rfl
end Pg
def strOf:Value→Nat
 | .string b=>b.size
 | _=>0
theorem PD (l:List UInt8) (c:UInt8) (hs:l.length≤140737488355328) (w:World) :
  Calls Tryz.prog 47 #[.string (bs l),.string ⟨#[c]⟩] w fun e w'=>e=.returned (.tuple #[.string (bs (Pg.Ba c l)),.string (bs (Pg.BW c l)),.bool (l.contains c)])∧Below w.heap.size w w':=by
 have hsz:=au l;have q:=fun w=>Tryz.stringslite_Index_one (bs l) c w;have hbl:(bs l).data.toList=l:=by simp [bs]
 rw [hbl] at q;have hw:Pg.Ba c l++l.dropWhile (· != c)=l:=List.takeWhile_append_dropWhile;rcases index_spec l c with ⟨h1,h2,h3⟩ | ⟨i,h1,h2,h3,h4⟩
 ·have e1:Pg.Ba c l=l:=h3
  have e2:Pg.BW c l=[]:=by
   rw [e1] at hw;have:l.dropWhile (· != c)=[]:=by simpa using hw
   unfold Pg.BW; rw [this]; rfl
  rw [h1] at q;rw [h2,e1,e2];clear h1 h2 h3 e1 e2 hw;go_enter Tryz.func47,Tryz.ntmps47;go_wp2_with fail;refine (q _).mono ?_;rintro e w1 ⟨rfl,rfl⟩;go_wp2;go_ret3;exact ⟨rfl,Below.refl _ _⟩
 ·have e1:Pg.Ba c l=l.take i:=h4
  have e2:Pg.BW c l=l.drop (i+1):=by
   have h5:l.dropWhile (· != c)=l.drop i:=by
    rw [e1] at hw
    conv at hw=>rhs; rw [← List.take_append_drop i l]
    exact List.append_cancel_left hw
   unfold Pg.BW; rw [h5,List.drop_drop]
  rw [h1] at q;rw [h3,e1,e2];have hc1:=fun w=>wR (S:=l) (i:=i) (by omega) w;have hc2:=fun w=>ie (S:=l) (i:=i+1) (v:=(i:Int)+1) (by omega) (by omega) w;clear h1 h3 h4 e1 e2 hw;go_enter Tryz.func47,Tryz.ntmps47;go_wp2_with fail;refine (q _).mono ?_;rintro e w1 ⟨rfl,rfl⟩;go_wp2_with fail;go_quiet (fail);go_wp2;go_ret3;exact ⟨rfl,below_drewN (Below.refl _ _) _⟩
theorem Bv (l:List UInt8) (c:UInt8) (hs:l.length≤140737488355328) (w:World) :
  Calls Tryz.prog 34 #[.string (bs l),.string ⟨#[c]⟩] w fun e w'=>e=.returned (.tuple #[.string (bs (Pg.Ba c l)),.string (bs (Pg.BW c l)),.bool (l.contains c)])∧Below w.heap.size w w':=by
 have q:=PD l c hs w;obtain ⟨T,hT⟩:∃ T,T=Pg.Ba c l:=⟨_,rfl⟩
 obtain ⟨U,hU⟩:∃ U,U=Pg.BW c l:=⟨_,rfl⟩
 obtain ⟨o,ho⟩:∃ o,o=l.contains c:=⟨_,rfl⟩
 rw [← hT,← hU,← ho] at q ⊢;clear hT hU ho;go_enter Tryz.func34,Tryz.ntmps34;go_wp2_with fail;refine q.mono ?_;rintro e w1 ⟨rfl,hb⟩;go_wp2;go_ret3;exact ⟨rfl,hb⟩
theorem zS (t:List UInt8) (hs:t.length≤140737488355328) (w:World) :
  Calls Tryz.prog 37 #[.string (bs t)] w fun e w'=>e=.returned (.string (bs (Hm.name t)))∧Below w.heap.size w w':=by
 have q:=Bv t 32 hs w;have e:Pg.Ba 32 t=Hm.name t:=rfl;rw [e] at q;clear e;obtain ⟨T,hT⟩:∃ T,T=Hm.name t:=⟨_,rfl⟩
 obtain ⟨U,hU⟩:∃ U,U=Pg.BW 32 t:=⟨_,rfl⟩
 obtain ⟨o,ho⟩:∃ o,o=t.contains 32:=⟨_,rfl⟩
 rw [← hT,← hU,← ho] at q;rw [← hT];clear hT hU ho;go_enter Tryz.func37,Tryz.ntmps37;go_wp2_with fail;refine q.mono ?_;rintro e w1 ⟨rfl,hb⟩;go_wp2;go_ret;exact ⟨rfl,hb⟩
theorem E8 (t:List UInt8):Lib.hasSuffix t [47]=decide (t≠[]∧t.getLastD 0=47):=by
 rcases List.eq_nil_or_concat t with rfl | ⟨m,x,rfl⟩
 ·rfl
 ·rw [Bool.eq_iff_iff,decide_eq_true_eq]
  unfold Lib.hasSuffix;rw [List.concat_eq_append,List.getLastD_concat,List.isSuffixOf_iff_suffix];constructor
  ·rintro ⟨u,hu⟩
   have:=congrArg (fun l=>l.getLastD 0) hu;simp only [List.getLastD_concat] at this;exact ⟨by simp,this.symm⟩
  ·rintro ⟨_,rfl⟩
   exact ⟨m,rfl⟩
theorem DR (t:List UInt8) (hs:t.length≤1000000000000) (w:World) :
  Calls Tryz.prog 35 #[.string (bs t),.string ⟨#[47]⟩] w fun e w'=>e=.returned (.bool (decide (t≠[]∧t.getLastD 0=47)))∧w'=w:=by
 have h:=Tryz.strings_HasSuffix (bs t) ⟨#[47]⟩ w (by rw [au]; omega);rwa [show (bs t).data.toList=t from by simp [bs],show (⟨#[47]⟩:ByteArray).data.toList=[47] from rfl,E8] at h
theorem Mc:EI Tryz.prog 39 9 1 16:=EI.mk' (z:=.string .empty) Tryz.underlying39 (by kernel_rfl) rfl (by omega)
theorem MG {w:World} {B g n c:Nat} {E:TypeId} {xs:List Value} (h:w.ownsRow B E 1 (.slice (some ⟨g,0,none⟩) n c) n xs) {k:Nat} (hk:k≤n):w.ownsRow B E 1 (.slice (some ⟨g,0,none⟩) k c) k (xs.take k):=by
 have hx:xs.length=n:=by have:=h.1; omega
 refine ⟨by rw [List.length_take]; omega,?_⟩;rcases h.2 with ⟨h0,_⟩ | ⟨g',c',cur,hv,hB,hg,hc,hm,hs,ht⟩
 ·simp at h0
 ·simp only [Value.slice.injEq,Option.some.injEq,Addr.mk.injEq,and_true,true_and] at hv
  obtain ⟨rfl,rfl⟩:=hv;refine .inr ⟨g,c,cur,rfl,hB,hg,by omega,hm,hs,?_⟩;rw [← ht,List.take_take];congr 1;omega
theorem Cx {w:World} {B size n:Nat} {E:TypeId} {v:Value} {xs:List Value} (h:w.ownsRow B E size v n xs) (hn:0<n):∃ g c,v=.slice (some ⟨g,0,none⟩) n c∧n≤c∧B≤g∧g<w.heap.size:=by
 rcases h.2 with ⟨_,h0⟩ | ⟨g,c,cur,rfl,hB,hg,hc,_⟩
 ·omega
 ·exact ⟨g,c,rfl,hc,hB,(Array.getElem?_eq_some_iff.1 hg).1⟩
theorem BT {P:Program} {T:TypeId} (hT:P.underlying T=some (.slice (P.elem T))) (size:Nat) (hsz:∀ w,(sizeOf (P.elem T)).run P w=.ok size w) (g n c hi:Nat) {v:Int} (hv:v=(hi:Int)) (h2:hi≤c) (w:World) :
  (Instr.slice T (.slice (some ⟨g,0,none⟩) n c) none (some (.int .i64 v)) none).run P w=.ok (.slice (some ⟨g,0,none⟩) hi c) w:=by
 subst hv;rw [run_slice_h w T (some ⟨g,0,none⟩) n c hT .i64 hi (by omega) (by omega),hsz];simp [sliced,Result.andThen];intro _;unfold Addr.add
 split<;>simp_all
theorem ku (l:List UInt8) (w:World) (hs:l.length≤1000000000000) :
  Calls Tryz.prog 19 #[.string (bs l)] w fun e w'=>e=.returned (.bool (Hm.jx l []))∧Below w.heap.size w w':=by
 have hsz:=au l;obtain ⟨R,hR⟩:∃ R,R=Hm.jx l []:=⟨_,rfl⟩
 rw [← hR];replace hR:=Lib.hid hR;obtain ⟨n0,hn0⟩:∃ n0,n0=l.length:=⟨_,rfl⟩
 rw [← hn0] at hs;replace hn0:=Lib.hid hn0;go_enter Tryz.func19,Tryz.ntmps19;go_wp2_with fail
 go_loopw [0,3] (fun u v wr=>∃ (m:List UInt8) (st:List (List UInt8)),u=.string (bs m)∧m.length+st.length≤n0∧Hid (wr.ownsRow w.heap.size 9 1 v st.length (bp st.reverse))∧Hid (R=Hm.jx m st)∧Hid (Below w.heap.size w wr)) (fun u _ _=>strOf u)
 case atStart=>exact ⟨l,[],rfl,by simp [hn0.out],Lib.hid (World.ownsRow_nil _ _ _ _),hR,Lib.hid (Below.refl _ _)⟩
 case round =>
  obtain ⟨m,st,rfl,hms,hown,FT,hb⟩:=hrel;clear hR hsz hn0;obtain ⟨Ao,co,rfl,XT⟩:=ak hown.out;have q1:=Bv m 60 (by omega) wr
  by_cases gZ:m.contains 60=true
  ·have hb2:=Pg.SN gZ st
   have hl2:=Pg.Io gZ;rw [gZ] at q1;obtain ⟨U,hU⟩:∃ U,U=Pg.BW 60 m:=⟨_,rfl⟩
   obtain ⟨V,hV⟩:∃ V,V=Pg.Ba 60 m:=⟨_,rfl⟩
   rw [← hU,← hV] at q1;rw [← hU] at hb2 hl2;have HQ:=FT.out.trans hb2;have hmsz:=au m;clear hb2 FT hU hV;go_wp2_with fail;refine q1.mono ?_;rintro e w1 ⟨rfl,hb1⟩;have hown1:=Lib.hid (bO hown.out hb1);have hb3:=Lib.hid (ag hb.out hb1);have q2:=Bv U 62 (by omega) w1;clear q1 hown hb1 hb
   by_cases tF:U.contains 62=true
   ·have hb4:=Pg.U6 tF st
    have hl4:=Pg.Io tF;rw [← HQ] at hb4;rw [tF] at q2;obtain ⟨T,hT⟩:∃ T,T=Pg.Ba 62 U:=⟨_,rfl⟩
    obtain ⟨M,hM⟩:∃ M,M=Pg.BW 62 U:=⟨_,rfl⟩
    rw [← hT,← hM] at q2 hb4 hl4;have hMsz:=au M;have hTsz:=au T;clear HQ hT hM tF;replace hb4:=Lib.hid hb4;go_wp2_with fail;refine q2.mono ?_;rintro e w2 ⟨rfl,hb5⟩;have hown2:=Lib.hid (bO hown1.out hb5);have iV:=Lib.hid (ag hb3.out hb5);clear q2 hown1 hb5 hb3;have q3:=DR T (by omega) w2
    by_cases IS:T≠[]∧T.getLastD 0=47
    ·have hst:Hid (R=Hm.jx M st):=Lib.hid (by rw [hb4.out,Hm.Hz IS.1 IS.2])
     rw [decide_eq_true IS] at q3;replace IS:=Lib.hid IS;clear hb4;go_wp2_with fail;refine q3.mono ?_;rintro e w3 ⟨rfl,rfl⟩;go_wp2_with fail
     go_roundw
     case rel=>exact ⟨M,st,rfl,by omega,hown2,hst,iV⟩
     case measure=>simp [strOf]; omega
    ·rw [decide_eq_false IS] at q3
     have q4:=fun w=>kN T 47 (by decide) w
     by_cases hpf:T.getD 0 0=47
     ·have h0:T≠[]:=by rintro rfl; exact absurd hpf (by decide)
      have GD:T.getLastD 0≠47:=fun h=>IS ⟨h0,h⟩;rw [show (T.getD 0 0==47)=true from by rw [hpf]; rfl] at q4;have Xq:0<T.length:=List.length_pos_iff.2 h0;cases st with
      | nil =>
       have rD:R=false:=by rw [hb4.out,Hm.Ly h0 GD hpf]
       subst rD;replace h0:=Lib.hid h0;replace GD:=Lib.hid GD;replace hpf:=Lib.hid hpf;replace IS:=Lib.hid IS;clear hb4;go_wp2_with fail;refine q3.mono ?_;rintro e w3 ⟨rfl,rfl⟩;go_wp2_with fail;refine (q4 _).mono ?_;rintro e w3 ⟨rfl,rfl⟩;go_wp2_with fail;go_quiet (fail);go_wp2_with fail;go_ret;exact ⟨rfl,below_drewN iV.out _⟩
      | cons n st =>
       have U3:bp (n::st).reverse=bp st.reverse++[.string (bs n)]:=by unfold bp; rw [List.reverse_cons,List.map_append]; rfl
       have hlen:(bp st.reverse).length=st.length:=by simp [bp]
       obtain ⟨g,cg,hAe,hcg,hg1,hg2⟩:=Cx hown2.out (by simp);injection hAe with tL ID fM;subst tL fM;have hcell:w2.cell? ⟨g,st.length,none⟩=some (.string (bs n)):=by
        have h3:=hown2.out.cells (g:=g) rfl st.length (.string (bs n)) (by rw [U3,List.getElem?_append_right (by omega),hlen,Nat.sub_self]; rfl);rwa [show (⟨g,0,none⟩:Addr).add st.length=⟨g,st.length,none⟩ from by unfold Addr.add; split<;>simp_all] at h3
       have X1:Hid ((bp (n::st).reverse).take st.length=bp st.reverse):=Lib.hid (by rw [U3,List.take_left' hlen]);have hsh:=fun w=>BT (P:=Tryz.prog) (T:=39) (by kernel_rfl) 1 (fun w=>by kernel_rfl) g (st.length+1) co st.length (v:=(st.length:Int)) rfl (by rw [List.length_cons] at hcg; omega) w;have hm1:=fun w=>ie (S:=T) (i:=1) (v:=1) (by omega) rfl w;have hnd:=Pg.Jp hpf;have q5:=fun w=>zS (T.drop 1) (by rw [List.length_drop]; omega) w;obtain ⟨D,hD⟩:∃ D,D=T.drop 1:=⟨_,rfl⟩
       rw [← hD] at hm1 q5 hnd;obtain ⟨X,hX⟩:∃ X,X=Hm.name D:=⟨_,rfl⟩
       rw [← hX] at q5 hnd;rw [List.length_cons] at hms XT;have g0:((st.length:Int)+1 - 1)=(st.length:Int):=by omega
       have g1:decide ((st.length:Int)<0)=false:=decide_eq_false (by omega);have g2:decide ((st.length:Int)+1≤(st.length:Int))=false:=decide_eq_false (by omega);have g3:(0:Int)≤(st.length:Int):=by omega
       have g4:(st.length:Int)<(st.length:Int)+1:=by omega
       have g5:¬ ((st.length:Int)<0):=by omega
       have hturn:Hid ((n=X→R=Hm.jx M st)∧(n≠X→R=false)):=Lib.hid ⟨fun h=>by rw [hb4.out,Hm.S8 h0 GD hpf (h.trans hnd)],fun h=>by rw [hb4.out,Hm.L5 h0 GD hpf (fun h9=>h (h9.trans hnd.symm))]⟩;replace h0:=Lib.hid h0;replace GD:=Lib.hid GD;replace hpf:=Lib.hid hpf;replace IS:=Lib.hid IS;replace q5:=Lib.hid q5;clear hb4 U3 hlen hnd hX hD Xq;go_wp2_with fail;refine q3.mono ?_;rintro e w3 ⟨rfl,rfl⟩;go_wp2_with fail;refine (q4 _).mono ?_;rintro e w3 ⟨rfl,rfl⟩;clear q3 q4;go_upto_region 13 with fail
       refine aE (.rd 0 (.rd 1 (.rd 2 (.rd 3 (.rd 4 (.rd 5 (.rd 6 (.rd 7 (.rd 8 (.mk 9 (.rd 10 (.rd 11 .fin)))))))))))) (fun u:World=>u.cell? ⟨g,st.length,none⟩=some (.string (bs n))) hcell (by kernel_rfl) (by kernel_rfl) (by kernel_rfl) (fun _ _ d _ _ h=>by cases d<;>exact h) ?_
       iterate 6 (first | refine an rfl ?_ | (refine ay rfl ?_; intro K hK; go_simp; refine hK _ _ _ ?_; clear hK K))
       refine aH (.string (bs n)) rfl rfl hcell (fun u hu=>by have u1:u.cell? ⟨g,st.length,none⟩=some (.string (bs n)):=hu; go_simp) ?_
       (first | refine an rfl ?_ | (refine ay rfl ?_; intro K hK; go_simp; refine hK _ _ _ ?_; clear hK K))
       refine aH (.string (bs D)) rfl rfl hcell (fun u hu=>by have u1:=hm1 u; go_simp) ?_;refine aC rfl ?_;intro K hK;go_simp;refine (q5.out _).mono ?_;rintro e w7 ⟨rfl,dI⟩;have Wj:w7.cell? ⟨g,st.length,none⟩=some (.string (bs n)):=(dI.cell (p:=⟨g,st.length,none⟩) hg2).trans hcell;refine ⟨_,Wj,fun _ h=>h,hK _ _ _ ?_⟩;clear hK K;have mu:=Lib.hid (ag iV.out (ag (bq _) dI));have jJ:=bO hown2.out (ag (bq _) dI);have um:=Lib.hid (MG jJ (k:=st.length) (by simp));clear jJ dI iV hown2
       by_cases hne:n=X
       ·have Qw:=Xd (a:=n) (b:=X) hne
        have E5:=Lib.hid (hturn.out.1 hne);replace hne:=Lib.hid hne;clear hturn
        iterate 2 (first | refine an rfl ?_ | (refine ay rfl ?_; intro K hK; go_simp; refine hK _ _ _ ?_; clear hK K))
        refine aM ?_;go_wp2_with fail
        go_roundw
        case rel=>exact ⟨M,st,rfl,by omega,Lib.hid (by rw [← X1.out]; exact um.out),E5,mu⟩
        case measure=>simp [strOf]; omega
       ·have Qw:=WO (a:=n) (b:=X) hne
        have rD:=hturn.out.2 hne;subst rD;replace hne:=Lib.hid hne;clear hturn
        iterate 2 (first | refine an rfl ?_ | (refine ay rfl ?_; intro K hK; go_simp; refine hK _ _ _ ?_; clear hK K))
        refine aM ?_;go_wp2_with fail;go_ret;exact ⟨rfl,mu.out⟩
     ·have hst:Hid (R=Hm.jx M (Hm.name T::st)):=Lib.hid (by
       rw [hb4.out,Hm.PW (by
        by_cases h0:T=[]
        ·exact .inl h0
        ·exact .inr ⟨fun h=>IS ⟨h0,h⟩,hpf⟩)])
      rw [show (T.getD 0 0==47)=false from by rw [beq_eq_false_iff_ne]; exact hpf] at q4;have q5:=fun w=>zS T (by omega) w;have hnl:(Hm.name T).length≤T.length:=by
       unfold Hm.name;exact (List.takeWhile_sublist _).length_le
      obtain ⟨X,hX⟩:∃ X,X=Hm.name T:=⟨_,rfl⟩
      rw [← hX] at q5 hst hnl;replace IS:=Lib.hid IS;replace hpf:=Lib.hid hpf;replace q5:=Lib.hid q5;clear hb4 hX;go_wp2_with fail;refine q3.mono ?_;rintro e w3 ⟨rfl,rfl⟩;go_wp2_with fail;refine (q4 _).mono ?_;rintro e w3 ⟨rfl,rfl⟩;clear q3 q4;go_wp2_with fail;refine (q5.out _).mono ?_;rintro e w4 ⟨rfl,dI⟩;have WV:=bO hown2.out dI;have mu:=ag iV.out dI;have hbz:=mu.size;replace mu:=Lib.hid mu;clear dI iV hown2 q5;go_wp2_with (at_builtin; refine mS rfl (.tmp 31) (.tmp 34) rfl Mc rfl WV rfl rfl rfl (by intro u hu; simp at hu; subst hu; rfl) (by omega) (by omega) hbz ?_; intro v5 w5 zh xK Bj)
      go_roundw
      case rel=>exact ⟨M,X::st,rfl,by simp; omega,Lib.hid (by
       unfold bp at zh ⊢;rw [List.reverse_cons,List.map_append,List.length_cons]; exact zh),hst,Lib.hid (mu.out.trans Bj)⟩
      case measure=>simp [strOf]; omega
   ·have R7:U.contains 62=false:=by simpa using tF
    have rD:R=false:=by rw [HQ,Pg.SV R7]
    rw [R7] at q2;obtain ⟨T,hT⟩:∃ T,T=Pg.Ba 62 U:=⟨_,rfl⟩
    obtain ⟨M,hM⟩:∃ M,M=Pg.BW 62 U:=⟨_,rfl⟩
    rw [← hT,← hM] at q2;subst rD;clear HQ hT hM;replace tF:=Lib.hid tF;replace R7:=Lib.hid R7;go_wp2_with fail;refine q2.mono ?_;rintro e w2 ⟨rfl,hb5⟩;have iV:=Lib.hid (ag hb3.out hb5);clear q2 hb5 hb3;go_wp2_with fail;go_ret;exact ⟨rfl,iV.out⟩
  ·have SB:m.contains 60=false:=by simpa using gZ
   have hRe:R=st.isEmpty:=by rw [FT.out,Pg.MK SB]
   rw [SB] at q1;have hle:((st.length:Int)==0)=st.isEmpty:=by
    rw [Bool.eq_iff_iff,beq_iff_eq,List.isEmpty_iff,← List.length_eq_zero_iff]; omega
   obtain ⟨U,hU⟩:∃ U,U=Pg.BW 60 m:=⟨_,rfl⟩
   obtain ⟨V,hV⟩:∃ V,V=Pg.Ba 60 m:=⟨_,rfl⟩
   rw [← hU,← hV] at q1;obtain ⟨E,hE⟩:∃ E,E=st.isEmpty:=⟨_,rfl⟩
   rw [← hE] at hle hRe;subst hRe;replace gZ:=Lib.hid gZ;replace SB:=Lib.hid SB;clear FT hE hU hV;go_wp2_with fail;refine q1.mono ?_;rintro e w1 ⟨rfl,hb1⟩;have hb3:=Lib.hid (ag hb.out hb1);clear q1 hb1 hb;go_wp2_with fail;go_ret;exact ⟨rfl,hb3.out⟩
end Go.Proofs.YtddkjkockbcamaaGreatDoor
