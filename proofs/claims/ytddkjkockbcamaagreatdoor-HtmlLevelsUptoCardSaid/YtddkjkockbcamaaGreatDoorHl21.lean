/- IlPJoin IlPShut IlPShares -/
import Derived.Test.YtddkjkockbcamaaGreatDoorHl20
import Derived.Deep.CutBlock
import Derived.Test.YtddkjkockbcamaaGreatDoorHl19
import Derived.Test.YtddkjkockbcamaaGreatDoorHl18
import Derived.Test.YtddkjkockbcamaaGreatDoorHl03
set_option maxHeartbeats 16000000
set_option maxRecDepth 100000
namespace Go.Proofs.YtddkjkockbcamaaGreatDoor
open Go.RowKit
attribute [local go_sem] aD av aq
theorem Dj (l:List UInt8):∀ u∈aj l,u.oneCell'=true:=by
 intro u hu; simp only [aj,List.mem_map] at hu; obtain ⟨_,_,rfl⟩:=hu; rfl
theorem CD {w:World} {Q:Nat→Prop} {size n:Nat} {A:Option Addr} {xs:List Value} (h:ec w Q size A n xs) (hQ:∀ b,Q b→b<w.heap.size):Row w w.heap.size size A n xs:=by
 refine ⟨h.1,fun hn=>?_⟩;obtain ⟨b,o,h1,h2,h3⟩:=h.2 hn;exact ⟨b,o,h1,hQ b h2,h3⟩
section
variable {m:Ky→Option Pa} {k:Ks} {C:Value→Value→Pa} {R:Il.Rw} {vi vp:Value} {css:List (List Value)} {w:World} {B g o:Nat}
theorem LG (hk:k.ok) (hC:Cn g o C) (h:Hq w B (aN m k C R vi vp css)) (hI:gA w (Fr w B (aN m k C R vi vp css)) R.l css) (hB:B≤w.heap.size) (hR:R.wt≤1000000000) (v:Il.Rw) (hv:v.ok) (Ss:v.wt≤1000000000)
  (A2:Option Addr) (c2:Nat) (css2:List (List Value)) (Ap:Option Addr) (cp:Nat) (hr2:ec w (Fr w B (aN m k C R vi vp css)) 4 A2 v.l.length css2.flatten) (hi2:gA w (Fr w B (aN m k C R vi vp css)) v.l css2) (Wp:ec w (Fr w B (aN m k C R vi vp css)) 1 Ap v.p.length (aj v.p)) :
  Calls Tryz.prog 206 #[.pointer (some ⟨g,o,none⟩),.agg #[.slice A2 v.l.length c2,.slice Ap v.p.length cp]] w fun e w'=>e=.returned (.tuple #[])∧∃ vi' vp' css',bT B (aN m k C R vi vp css) w (aN m k C (R.join v) vi' vp' css') w'∧gA w' (Fr w' B (aN m k C (R.join v) vi' vp' css')) (R.join v).l css':=by
 obtain ⟨L2,P2⟩:=v;simp only at hr2 hi2 Wp ⊢;have hwt:=fun j:Nat=>Il.Rw.uS (L2.take j) R;have hL2:L2.length≤1000000000:=by unfold Il.Rw.wt at Ss; simp only at Ss; omega
 have BN:P2.length≤1000000000:=by unfold Il.Rw.wt at Ss; simp only at Ss; omega
 have Q8:Il.eB L2≤1000000000:=by unfold Il.Rw.wt at Ss; simp only at Ss; omega
 have EU:∀ j,Il.eB (L2.take j)≤Il.eB L2:=fun j=>by
  conv=>rhs; rw [← List.take_append_drop j L2,Il.iS]
  omega
 have U7:=Lib.hid (fun j (hj:j≤L2.length)=>(show (((L2.take j).foldl Il.Rw.step R).p.length≤5000000000∧((L2.take j).foldl Il.Rw.step R).l.length≤5000000000) from by
  have h1:=hwt j;have h2:=EU j;rw [List.length_take] at h1;have:min j L2.length≤L2.length:=Nat.min_le_right _ _;have e:((L2.take j).foldl Il.Rw.step R).wt=((L2.take j).foldl Il.Rw.step R).l.length+((L2.take j).foldl Il.Rw.step R).p.length+Il.eB ((L2.take j).foldl Il.Rw.step R).l:=rfl;omega))
 have TV:=Lib.hid (fun (t d:List UInt8) (ks:List Il.In) (j:Nat) (hj:j<L2.length) (e:L2[j]=.mk 0 t d ks)=>(show t.length≤1000000000 from by
  have h1:Il.eU L2[j]≤Il.eB L2:=by
   have:=EU (j+1);rw [List.take_succ_eq_append_getElem hj,Il.iS] at this;have e2:Il.eB [L2[j]]=Il.eU L2[j]:=by simp [Il.eB]
   omega
  rw [e] at h1;simp only [Il.eU] at h1;omega))
 have hwd:=Lib.hid hv.wd;have hv8:=Lib.hid hv.v8s;have t0:=h.call (w':=w.alloc (.cells #[.slice A2 L2.length c2,.slice Ap P2.length cp] 216)) hB (aa w _);have hf0:=Lib.hid (Hq.new (w':=w.alloc (.cells #[.slice A2 L2.length c2,.slice Ap P2.length cp] 216)) h hB (b:=w.heap.size) (Nat.le_refl _) (by simp));have hb0:Hid ((w.alloc (.cells #[.slice A2 L2.length c2,.slice Ap P2.length cp] 216)).heap[w.heap.size]?=some (.cells #[.slice A2 L2.length c2,.slice Ap P2.length cp] 216)):=Lib.hid (heap_alloc_new w _);have Qi:=Lib.hid (t0.kids hI);have Mx:=t0.gz hr2;have OP:=t0.kids hi2;have Oe:=t0.gz Wp;obtain ⟨b0,Up⟩:∃ b,b=w.heap.size:=⟨_,rfl⟩
 rw [← Up] at hf0 hb0;obtain ⟨w0,hw0⟩:∃ w0,w0=w.alloc (.cells #[.slice A2 L2.length c2,.slice Ap P2.length cp] 216):=⟨_,rfl⟩
 rw [← hw0] at t0 hf0 hb0 Qi Mx OP Oe;have Uk:Hid (w0.cell? ⟨b0,0,none⟩=some (.slice A2 L2.length c2)):=Lib.hid (ah hb0.out 0);have hB0:B≤w0.heap.size:=Nat.le_trans hB t0.bel.size;have hv8p:=Lib.hid hv.v8;replace t0:=Lib.hid t0;replace Mx:=Lib.hid Mx;replace OP:=Lib.hid OP;replace Oe:=Lib.hid Oe;clear h hI hr2 hi2 Wp hv hwt EU Ss Q8 hR;go_enter Tryz.func206,Tryz.ntmps206;go_upto_region 1 with fail
 rw [← Up,← hw0];have hb0lt:b0<w0.heap.size:=hf0.out.2.1;have hcc:=Uk.out;clear hw0 Up
 go_upto_block 1 with fail
 clear hcc
 go_loopw [9] (fun u wr=>∃ (j:Nat) (vi' vp':Value) (css':List (List Value)),u=.int .i64 (j:Int)∧j≤L2.length∧Hid (bT B (aN m k C R vi vp css) w0 (aN m k C ((L2.take j).foldl Il.Rw.step R) vi' vp' css') wr)∧Hid (gA wr (Fr wr B (aN m k C ((L2.take j).foldl Il.Rw.step R) vi' vp' css')) ((L2.take j).foldl Il.Rw.step R).l css')) (fun u _=>L2.length - (intOf u).toNat)
 case atStart=>exact ⟨0,vi,vp,css,rfl,by omega,Lib.hid t0.out.hp.refl,Qi⟩
 case round =>
  obtain ⟨j,vi',vp',css',rfl,hj,hT,Vq⟩:=hrel;have hbz:=hT.out.bel.size;have ug:B≤wr.heap.size:=Nat.le_trans hB0 hbz
  by_cases hlt:j<L2.length
  ·obtain ⟨Y3,hbl⟩:=U7.out j hj
   have Wb:=hT.out.gz Mx.out;have hij:=hT.out.kids OP.out;obtain ⟨cs,i1,i2⟩:=Mj hij hlt;obtain ⟨b,ofs,rfl,EM,hcell⟩:=Wb.2 (by omega);have hstep:(L2.take (j+1)).foldl Il.Rw.step R=((L2.take j).foldl Il.Rw.step R).step L2[j]:=by
    rw [List.take_succ_eq_append_getElem hlt,List.foldl_append]; rfl
   have TT:=fun t d ks (e:L2[j]=.mk 0 t d ks)=>hv8.out t d ks (e▸List.getElem_mem hlt);have hxl:=fun t d ks (e:L2[j]=.mk 0 t d ks)=>TV.out t d ks j hlt e;generalize L2[j]=x at i1 hstep TT hxl;obtain ⟨kd,tx,de,ks⟩:=x;obtain ⟨A3,c3,css3,rfl,hc3,hr3,hi3⟩:=HV i1;have x0:=hcell _ _ (i2 0 (by omega));have x1:=hcell _ _ (i2 1 (by omega));have x2:=hcell _ _ (i2 2 (by omega));have x3:=hcell _ _ (i2 3 (by omega));simp only [← Nat.add_assoc,Nat.add_zero] at x0 x1 x2 x3;have hbr:b<wr.heap.size:=EM.2.1;obtain ⟨RJ,To⟩:∃ RJ,RJ=(L2.take j).foldl Il.Rw.step R:=⟨_,rfl⟩
   rw [← To] at hT Vq hstep Y3 hbl EM Wb hij i1 hr3 hi3;have ta:=hT.out.hp.call (w':=wr.alloc (.cells #[.int .i64 (kd:Int),.string (bs tx),.string (bs de),.slice A3 ks.length c3] 35)) ug (aa wr _);have hxa:=Lib.hid (ta.kid i1);have Z8:=Lib.hid (ta.kids Vq.out);have jF:=Lib.hid (hT.out.trans ta);have hxb:(wr.alloc (.cells #[.int .i64 (kd:Int),.string (bs tx),.string (bs de),.slice A3 ks.length c3] 35)).heap[wr.heap.size]?=some (.cells #[.int .i64 (kd:Int),.string (bs tx),.string (bs de),.slice A3 ks.length c3] 35):=heap_alloc_new wr _;have BK:(wr.alloc (.cells #[.int .i64 (kd:Int),.string (bs tx),.string (bs de),.slice A3 ks.length c3] 35)).heap.size=wr.heap.size+1:=by simp
   replace hstep:=Lib.hid hstep;replace TT:=Lib.hid TT;replace hxl:=Lib.hid hxl;replace To:=Lib.hid To;clear Wb hij hcell i1 i2 hr3 hi3 EM ta hT Vq;go_upto_region 4 with fail
   obtain ⟨wa,xJ⟩:∃ wa,wa=wr.alloc (.cells #[.int .i64 (kd:Int),.string (bs tx),.string (bs de),.slice A3 ks.length c3] 35):=⟨_,rfl⟩
   obtain ⟨bx,rB⟩:∃ bx,bx=wr.heap.size:=⟨_,rfl⟩
   rw [← xJ] at hxa Z8 jF hxb BK ⊢;rw [← rB] at hxb BK ⊢;have y0:=ah hxb 0;have y1:=ah hxb 1;have y2:=ah hxb 2;have y3:=ah hxb 3;simp only [List.getElem?_toArray,List.getElem?_cons_zero,List.getElem?_cons_succ] at y0 y1 y2 y3;have Kw:bx<wa.heap.size:=by omega
   have hBa:B≤wa.heap.size:=by omega
   clear xJ hxb x0 x1 x2 x3 BK rB
   by_cases hk0:kd=0
   ·have tk:((kd:Int)==0)=true:=by simp [hk0]
    have h8:=TT.out tx de ks (by rw [hk0]);have hl8:=hxl.out tx de ks (by rw [hk0]);have hend:Hid ((L2.take (j+1)).foldl Il.Rw.step R=RJ.say tx):=Lib.hid (by rw [hstep.out,hk0]; rfl);have aG:=Lib.hid (u7 hk hC jF.out.hp hBa tx (by omega));rw [Il.CH h8] at aG;clear h8 hk0;go_upto_region 5 with fail
    go_wp2_with fail;refine aG.out.mono ?_;rintro e w3 ⟨rfl,vp3,uF⟩;have o7:=Lib.hid (uF.kids Z8.out);replace uF:=Lib.hid (jF.out.trans uF);go_wp2_with fail
    go_roundw
    case rel=>exact ⟨j+1,vi',vp3,css',by go_num,by omega,by rw [hend.out]; exact uF,by rw [hend.out]; exact o7⟩
    case measure=>simp [intOf]; omega
   ·have tk:((kd:Int)==0)=false:=by simp; omega
    have hend:Hid ((L2.take (j+1)).foldl Il.Rw.step R=RJ.put (.mk kd tx de ks)):=Lib.hid (by rw [hstep.out,Il.Rw.rT RJ hk0]);have aG:=Lib.hid (wA hk hC jF.out.hp Z8.out hBa (by omega) (by omega) kd tx de ks A3 c3 hxa.out);clear hk0;go_upto_region 6 with fail
    go_wp2_with fail;refine aG.out.mono ?_;rintro e w3 ⟨rfl,vi3,vp3,css4,uF,o7⟩;replace o7:=Lib.hid o7;replace uF:=Lib.hid (jF.out.trans uF);go_wp2_with fail
    go_roundw
    case rel=>exact ⟨j+1,vi3,vp3,css4,by go_num,by omega,by rw [hend.out]; exact uF,by rw [hend.out]; exact o7⟩
    case measure=>simp [intOf]; omega
  ·have hjl:j=L2.length:=by omega
   subst hjl;obtain ⟨Y3,hbl⟩:=U7.out _ hj;rw [List.take_length] at hT Vq Y3 hbl;obtain ⟨RJ,To⟩:∃ RJ,RJ=L2.foldl Il.Rw.step R:=⟨_,rfl⟩
   have hend:Hid (R.join ⟨L2,P2⟩=RJ.say P2):=Lib.hid (by rw [To]; rfl);rw [← To] at hT Vq Y3 hbl;replace To:=Lib.hid To;obtain ⟨c0,c1,cf,hBg,Fb,oi,op,nei,nep⟩:=eE hk hC hT.out.hp;obtain ⟨hbk,hfk⟩:=hT.out.fre _ hf0.out;have hbk2:=hbk.trans hb0.out;have hrow:=CD (hT.out.gz Oe.out) (fun b hb=>hb.2.1);obtain ⟨A4,c4,rfl,hc4⟩:=ak op;have hS:(fun u:World=>u.heap[b0]?=some (.cells #[.slice A2 L2.length c2,.slice Ap P2.length cp] 216)) wr.drew:=hbk2;have YR:Hid (bT B (aN m k C R vi vp css) w0 (aN m k C RJ vi' (.slice A4 RJ.p.length c4) css') wr):=hT;have hgb:g≠b0:=fun e=>hfk.2.2 _ _ (lK hk) (by rw [hC.block,e]);clear U7 TV hwd hv8 Qi Uk Mx OP Oe hbk;go_upto_region 8 with fail
   refine aE (.rd 0 (.rd 1 (.rd 2 (.rd 3 (.rd 5 (.rd 6 (.mk 4 (.mk 7 (.rd 8 (.rd 9 (.mk 10 .fin))))))))))) (fun u:World=>u.heap[b0]?=some (.cells #[.slice A2 L2.length c2,.slice Ap P2.length cp] 216)) hS (by kernel_rfl) (by kernel_rfl) (by kernel_rfl) (fun _ _ d _ _ h=>by cases d<;>exact h) ?_
   iterate 5 (first | refine an rfl ?_ | (refine ay rfl ?_; intro K hK; go_simp; refine hK _ _ _ ?_; clear hK K))
   refine aH (.slice Ap P2.length cp) rfl rfl hS (fun u hu=>by
    have h1:=ah (j:=1) hu;go_simp) ?_
   refine aC rfl ?_;intro K hK;go_simp;refine ⟨_,hS,fun _ h=>h,hK _ _ _ ?_⟩;clear hK K;refine l7 rfl rfl (.tmp 28) (.tmp 30) rfl lF (v:=.slice A4 RJ.p.length c4) rfl op.drew rfl hrow (Dj P2) (by omega) (by omega) ug ?_;intro v' w' ho hg hb hat;have hgr:=grown_drew hg.out;obtain ⟨A5,c5,rfl,hc5⟩:=ak ho;obtain ⟨d0,d1,df,dz⟩:=je hk hC hT.out.hp hgr nep;have ZM:(Value.slice A4 RJ.p.length c4).ownBlock≠some b0:=hfk.2.2 _ _ vY;have eX:(fun u:World=>u.heap[b0]?=some (.cells #[.slice A2 L2.length c2,.slice Ap P2.length cp] 216)) w':=(hgr.block _ hfk.2.1 (fun e=>ZM e.symm)).trans hbk2;refine ⟨_,eX,fun _ h=>h,?_⟩;have hlp:(RJ.say P2).p.length=RJ.p.length+P2.length:=by simp [Il.Rw.say]
   have t3:=vw hk hC hT.out.hp ug (R':=RJ.say P2) rfl hgr (by rw [hlp]; simpa [Il.Rw.say,aj] using ho) hat.out;have o7:=Lib.hid (t3.kids Vq.out);replace t3:=Lib.hid (t0.out.trans (YR.out.trans t3));have xO:(fun u:World=>u.heap[b0]?=some (.cells #[.slice A2 L2.length c2,.slice Ap P2.length cp] 216)) (w'.setCell ⟨g,o+1,none⟩ (.slice A5 (RJ.p.length+P2.length) c5)):=(Below.heap_setCell _ _ _ _ (fun e=>hgb e.symm)).trans eX
   iterate 2 (first | refine an rfl ?_ | (refine ay rfl ?_; intro K hK; go_simp; refine hK _ _ _ ?_; clear hK K))
   refine bf rfl rfl (eH rfl (by kernel_rfl) rfl rfl d1 df) xO ?_;refine aM ?_;clear eX xO ho hg hb hat hT YR Vq;go_wp2_with fail;go_returns;rw [hend.out];exact ⟨rfl,vi',_,css',t3.out,o7.out⟩
end
end Go.Proofs.YtddkjkockbcamaaGreatDoor

set_option maxHeartbeats 16000000
set_option maxRecDepth 100000
namespace Go.Proofs.YtddkjkockbcamaaGreatDoor
open Go.RowKit
theorem ED (s:Nat) (hs:s≤1000) (w:World):Calls Tryz.prog 204 #[.int .i64 (s:Int)] w fun e w'=>e=.returned (.int .i64 (Il.kd s:Nat))∧w'=w:=by
 by_cases h:s=2
 ·subst h
  go_enter Tryz.func204,Tryz.ntmps204;go_wp2_with fail;go_ret;exact ⟨rfl,rfl⟩
 ·have h2:((s:Int)==2)=false:=by simp; omega
  have h3:Hid (Il.kd s=2):=Lib.hid (by unfold Il.kd; rw [if_neg h]);clear h;go_enter Tryz.func204,Tryz.ntmps204;go_wp2_with fail;go_ret;rw [h3.out];exact ⟨rfl,rfl⟩
theorem Qa (g n c hi:Nat) {v:Int} (hv:v=(hi:Int)) (h2:hi≤c) (w:World) :
  (Instr.slice 218 (.slice (some ⟨g,0,none⟩) n c) none (some (.int .i64 v)) none).run Tryz.prog w=.ok (.slice (some ⟨g,0,none⟩) hi c) w :=
 xu (by kernel_rfl) 2 (fun w=>by kernel_rfl) g n c hi hv h2 w
section
variable {m:Ky→Option Pa} {a b c:Nat} {v:Value} {V:List V3} {w:World} {B:Nat}
theorem JA (hA:Ve a b c) (N:List Il.Rw) (R K:Il.Rw) (h:RS w B m a b c v (N++[R]++[K]) V) (hB:B≤w.heap.size) (kd:Nat) (hN:N.length≤1000000000) (hR:R.wt≤1000000000) (hK:K.wt≤1000000000) :
  Calls Tryz.prog 203 #[v,.int .i64 (kd:Int)] w fun e w'=>∃ v',e=.returned v'∧∃ V',RS w' B m a b c v' (N++[R.put (.mk kd [] [] K.full)]) V'∧bT B (az m a b c v (N++[R]++[K]) V) w (az m a b c v' (N++[R.put (.mk kd [] [] K.full)]) V') w':=by
 obtain ⟨n,hn⟩:∃ n,n=N.length+1:=⟨_,rfl⟩
 have hlen:(N++[R]++[K]).length=n+1:=by simp [hn]
 obtain ⟨g,cp,rfl,T0,hBg,Fb⟩:=h.slice (by omega);rw [hlen] at T0;have YM:(N++[R]++[K])[n]?=some K:=by rw [List.getElem?_append_right (by simp [hn])]; simp [hn]
 obtain ⟨x1,y1,z1,e1,q1,i1⟩:=h.look hA YM;have hc1:=h.cn (i:=n) rfl (by omega);have hKw:K.p.length≤1000000000∧K.l.length≤1000000000:=by unfold Il.Rw.wt at hK; omega
 have hall:=Lib.hid (j7 (eR hA n) hc1 q1 i1 hB (by omega) (by omega));have hturn:=Lib.hid (fun (w':World) R' x y z t hI=>h.turned (w':=w') (R':=R') (x:=x) (y:=y) (z:=z) hA YM e1 t hI);have b8:=fun w=>gT g (n+1) cp (by omega) (by omega) w;have O5:=fun w=>gT g n cp (by omega) (by omega) w;have uc:(n+1 - 1)*2=n*2:=by omega
 rw [uc] at b8;obtain ⟨n2,hn2⟩:∃ n2,n2=(n - 1)*2:=⟨_,rfl⟩
 have ZQ:=Lib.hid hn2;rw [← hn2] at O5;clear hn2;have hcut:=fun w=>Qa g (n+1) cp n (v:=(n:Int)) rfl (by omega) w;rw [hlen];have hsub:((n+1:Nat):Int) - 1=(n:Int):=by omega
 have Rk:bs []=⟨#[]⟩:=rfl;have hnb:n≤1000000001:=by omega
 replace hn:=Lib.hid hn;replace hlen:=Lib.hid hlen;replace YM:=Lib.hid YM;clear e1 q1 i1 hc1 h;go_enter Tryz.func203,Tryz.ntmps203;go_wp2_with fail;refine (b8 _).mono ?_;rintro e w0 ⟨rfl,rfl⟩;go_wp2_with fail;refine hall.out.mono ?_;rintro e w1 ⟨vi1,rfl,vp1,css1,t1,Gx⟩;obtain ⟨h1,T1⟩:=hturn.out _ _ _ _ _ t1 Gx;have hB1:=Nat.le_trans hB T1.bel.size;obtain ⟨A1,cA,rfl,ZS⟩:=ak (t1.hp.holds _ _ (gP (eR hA n)):w1.ownsRow B 35 4 vi1 K.full.length css1.flatten);have TH:((N++[R]++[K]).set n ⟨K.full,[]⟩).length=n+1:=by rw [List.length_set,hlen.out]
 obtain ⟨h2,T2,hk2⟩:=h1.pop hA hB1 (n:=n) TH (by rw [hlen.out]);have hV1:=h1.len;have hk3:=hk2 (by omega) (by omega) A1 cA (by rw [List.getElem_set_self,List.getElem_set_self]);simp only [List.getElem_set_self] at hk3;have htk:((N++[R]++[K]).set n ⟨K.full,[]⟩).take n=N++[R]:=by
  rw [List.take_set_of_le (Nat.le_refl n),List.take_left' (by simp [hn.out])]
 rw [htk] at h2 T2 hk3;obtain ⟨V2,hV2⟩:∃ V2,V2=(V.set n (.slice A1 K.full.length cA,vp1,css1)).take n:=⟨_,rfl⟩
 rw [← hV2] at h2 T2 hk3;have T12:=Lib.hid (T1.trans T2);have hRi:(N++[R])[n - 1]?=some R:=by simp [hn.out]
 have Ue:(N++[R]).length=n:=by simp [hn.out]
 obtain ⟨x3,y3,z3,e3,q3,i3⟩:=h2.look hA hRi;have hc3:=h2.cn (i:=n - 1) (cp:=cp) (g:=g) (by rw [Ue]) (by have:=hn.out; omega);have hRw:R.p.length≤1000000000∧R.l.length≤1000000000:=by unfold Il.Rw.wt at hR; omega
 have hx3:IC w1 (Fr w1 B (aN (az m a b c (.slice (some ⟨g,0,none⟩) n cp) (N++[R]) V2) (mz a b c (n - 1)) (BX (.slice (some ⟨g,0,none⟩) n cp) (N++[R]).length V2 (n - 1)) R x3 y3 z3)) (.mk kd [] [] K.full) [.int .i64 (kd:Int),.string (bs []),.string (bs []),.slice A1 K.full.length cA]:=by
  rw [e3];unfold IC;exact ⟨A1,cA,css1,rfl,ZS,hk3.1,hk3.2⟩
 have hput:=Lib.hid (wA (eR hA (n - 1)) hc3 q3 i3 hB1 (by omega) (by omega) kd [] [] K.full A1 cA hx3);have NK:=Lib.hid (fun (w':World) R' x y z t hI=>h2.turned (w':=w') (R':=R') (x:=x) (y:=y) (z:=z) hA hRi e3 t hI);have hset:Hid ((N++[R]).set (n - 1) (R.put (.mk kd [] [] K.full))=N++[R.put (.mk kd [] [] K.full)]):=Lib.hid (by
  have:n - 1=N.length:=by have:=hn.out; omega
  rw [this]; simp)
 replace Ue:=Lib.hid Ue;rw [Rk,← ZQ.out] at hput;clear hx3 e3 q3 i3 hc3 hk3 hk2 h2 T2 h1 T1 t1 Gx hall hturn hV2 hRi htk TH hV1;go_wp2_with fail;refine (O5 _).mono ?_;rintro e w2 ⟨rfl,rfl⟩;go_wp2_with fail;refine hput.out.mono ?_;rintro e w3 ⟨rfl,vi4,vp4,css4,t4,Ww⟩;obtain ⟨h5,T5⟩:=NK.out _ _ _ _ _ t4 Ww;rw [hset.out] at h5 T5;have T6:=Lib.hid (T12.out.trans T5);rw [hlen.out] at T6;replace h5:=Lib.hid h5;clear t4 Ww T5 NK;go_wp2_with fail;go_ret;exact ⟨_,rfl,_,h5.out,T6.out⟩
end
end Go.Proofs.YtddkjkockbcamaaGreatDoor

set_option maxHeartbeats 16000000
set_option maxRecDepth 100000
namespace Go.Proofs.YtddkjkockbcamaaGreatDoor
open Go.RowKit
attribute [local go_sem] aD av aq
theorem gj {P:Program} {ev:Operand→Value} {T:TypeId} {p x:Operand} {o:Oper} {w:World} {g off:Nat} {k:IntKind} {y:Int} {z0:Value} (ho:o.op=.store T p x) (hsz:(sizeOf T).run P w=.ok 1 w) (hp:ev p=.pointer (some ⟨g,off,none⟩)) (hx:ev x=.int k y)
  (h0:w.cell? ⟨g,off,none⟩=some z0) (hf:∀ j,w.frozen? ⟨g,j,none⟩=false) :
  (execOp ev o).run P w=.ok .skip (w.setCell ⟨g,off,none⟩ (.int k y)):=by
 unfold execOp;rw [ho];go_simp
structure Tw (w:World) (B g1 g2 n:Nat) (O L:List Nat):Prop where
 o:w.ownsRow B 3 1 (.slice (some ⟨g1,0,none⟩) n n) n (aB O)
 l:w.ownsRow B 3 1 (.slice (some ⟨g2,0,none⟩) n n) n (aB L)
 ne:g1≠g2
 ol:O.length=n
 ll:L.length=n
section
variable {w w':World} {B g1 g2 n:Nat} {O L:List Nat}
theorem Tw.ext (h:Tw w B g1 g2 n O L) (hb:Below w.heap.size w w'):Tw w' B g1 g2 n O L:=⟨bO h.o hb,bO h.l hb,h.ne,h.ol,h.ll⟩
theorem My (L:List Nat) (i x:Nat):(aB L).set i (.int .i64 (x:Int))=aB (L.set i x):=by simp [aB,List.map_set]
theorem Tw.GP (h:Tw w B g1 g2 n O L) (i y:Nat):Tw (w.setCell ⟨g1,i,none⟩ (.int .i64 (y:Int))) B g1 g2 n (O.set i y) L :=
 ⟨by rw [← My]; exact (World.ownsRow.stored h.o i _).1,World.ownsRow.kept h.l (ax w ⟨g1,i,none⟩ _) (.inr (fun e=>h.ne (Option.some.inj e).symm)),h.ne,by rw [List.length_set]; exact h.ol,h.ll⟩
theorem Tw.uV (h:Tw w B g1 g2 n O L) (i y:Nat):Tw (w.setCell ⟨g2,i,none⟩ (.int .i64 (y:Int))) B g1 g2 n O (L.set i y) :=
 ⟨World.ownsRow.kept h.o (ax w ⟨g2,i,none⟩ _) (.inr (fun e=>h.ne (Option.some.inj e))),by rw [← My]; exact (World.ownsRow.stored h.l i _).1,h.ne,h.ol,by rw [List.length_set]; exact h.ll⟩
theorem Tw.Yo (h:Tw w B g1 g2 n O L) {i:Nat} (hi:i<n):w.cell? ⟨g1,i,none⟩=some (.int .i64 ((O[i]'(by rw [h.ol]; exact hi):Nat):Int)) :=
 aK h.o (by rw [aB,List.getElem?_map,List.getElem?_eq_getElem (by rw [h.ol]; exact hi)]; rfl)
theorem Tw.at2 (h:Tw w B g1 g2 n O L) {i:Nat} (hi:i<n):w.cell? ⟨g2,i,none⟩=some (.int .i64 ((L[i]'(by rw [h.ll]; exact hi):Nat):Int)) :=
 aK h.l (by rw [aB,List.getElem?_map,List.getElem?_eq_getElem (by rw [h.ll]; exact hi)]; rfl)
theorem Tw.WD (h:Tw w B g1 g2 n O L):B≤g1∧g1<w.heap.size:=World.ownsRow.lt h.o g1 rfl
theorem Tw.Qs (h:Tw w B g1 g2 n O L):B≤g2∧g2<w.heap.size:=World.ownsRow.lt h.l g2 rfl
theorem Tw.fz1 (h:Tw w B g1 g2 n O L) (j:Nat):w.frozen? ⟨g1,j,none⟩=false:=World.ownsRow.frozenAt h.o j
theorem Tw.Wr (h:Tw w B g1 g2 n O L) (j:Nat):w.frozen? ⟨g2,j,none⟩=false:=World.ownsRow.frozenAt h.l j
end
theorem Iv:EI Tryz.prog 23 3 1 8:=EI.mk' (z:=.int .i64 0) Tryz.underlying23 (by kernel_rfl) rfl (by omega)
theorem uD (n:Nat):(madeCells #[Value.int .i64 0] (n*1)).toList=aB (List.replicate n 0):=by
 apply List.ext_getElem?;intro i
 by_cases h:i<n
 ·simp [madeCells,aB,h,Nat.mod_one]
 ·simp [madeCells,aB,h]
theorem Eo (X:List (Nat×Nat×Nat)) (x:Nat×Nat×Nat) (r:Nat):Il.opn (X++[x]) r=Il.opn X r+if x.1=r then 1 else 0:=by
 unfold Il.opn; rw [List.countP_append]; simp [List.countP_cons]
theorem B5 (runs:List Em.R) (X:List (Nat×Nat×Nat)) (A:Option Addr) (c:Nat) (A2:Option Addr) (c2:Nat) (w:World) (hR:Row w w.heap.size 4 A runs.length (aF runs)) (hX:Row w w.heap.size 3 A2 X.length (gJ X))
  (hn:runs.length≤4000000) (NX:X.length≤400000000) (hin:∀ x∈X,x.1<runs.length∧x.2.1<runs.length∧x.1≠x.2.1∧x.2.2≤2) (hpos:∀ r∈runs,0≤r.n∧r.n≤1000000000) (mh:∀ i,i<runs.length→Em.used X i≤Il.cnt runs i) :
  Calls Tryz.prog 202 #[.slice A runs.length c,.slice A2 X.length c2] w fun e w'=>∃ g1 g2 O L,e=.returned (.tuple #[.slice (some ⟨g1,0,none⟩) runs.length runs.length,.slice (some ⟨g2,0,none⟩) runs.length runs.length])∧Tw w' w.heap.size g1 g2 runs.length O L∧(∀ i (h:i<O.length),O[i]=Il.opn X i)∧(∀ i (h:i<L.length),L[i]=Il.cnt runs i - Em.used X i)∧Below w.heap.size w w':=by
 obtain ⟨n,hnn⟩:∃ n,n=runs.length:=⟨_,rfl⟩
 rw [← hnn] at hR hn hin mh ⊢;have hmk:=fun w=>run_mk (P:=Tryz.prog) Iv (z:=.int .i64 0) (by kernel_rfl) n (by omega) (by omega) w;obtain ⟨cs,hcs⟩:∃ cs:Nat→Nat,cs=Il.cnt runs:=⟨_,rfl⟩
 rw [← hcs] at mh ⊢;have hcb:=Lib.hid (fun i=>(show cs i≤1000000000 from by rw [hcs]; exact Il.Vl hpos i));replace hcs:=Lib.hid hcs;replace hR:=Lib.hid hR;replace hX:=Lib.hid hX;replace hin:=Lib.hid hin;replace mh:=Lib.hid mh;replace hpos:=Lib.hid hpos;replace hnn:=Lib.hid hnn;go_enter Tryz.func202,Tryz.ntmps202;go_upto_region 1 with fail
 refine aE (.rd 0 (.rd 1 (.rd 3 (.rd 4 (.fk 2 (.rd 6 (.mk 5 (.rd 7 .fin))) 5 (.mk 2 (.rd 6 (.rd 7 .fin)))))))) (fun _=>True) trivial (by kernel_rfl) (by kernel_rfl) (by kernel_rfl) (fun _ _ d _ _ h=>by cases d<;>exact h) ?_
 iterate 4 (first | refine an rfl ?_ | (refine ay rfl ?_; intro K hK; go_simp; refine hK _ _ _ ?_; clear hK K))
 refine iG ?wa ?wb
 case' wa =>
  refine aC rfl ?_;intro K hK;go_simp;refine ⟨fun _=>True,trivial,hK _ _ _ ?_⟩;clear hK K
  (first | refine an rfl ?_ | (refine ay rfl ?_; intro K hK; go_simp; refine hK _ _ _ ?_; clear hK K))
  refine aC rfl ?_;intro K hK;go_simp;refine ⟨fun _=>True,trivial,hK _ _ _ ?_⟩;clear hK K
  (first | refine an rfl ?_ | (refine ay rfl ?_; intro K hK; go_simp; refine hK _ _ _ ?_; clear hK K))
  refine aM ?_;obtain ⟨W,hW⟩:∃ W,W=((w.alloc (.cells (madeCells #[.int .i64 0] n) 3)).alloc (.cells (madeCells #[.int .i64 0] n) 3)).drew:=⟨_,rfl⟩
  have hb0:Below w.heap.size w W:=by rw [hW]; exact below_drewN (((Below.refl _ w).alloc (Nat.le_refl _) _).alloc (by simp) _) 1
  have ho1:W.ownsRow w.heap.size 3 1 (.slice (some ⟨w.heap.size,0,none⟩) n n) n (aB (List.replicate n 0)):=by
   rw [hW,← uD n];have:=dh w w.heap.size 1 n 3 #[.int .i64 0] (Nat.le_refl _) (by omega);rw [Nat.mul_one] at this ⊢;exact (this.alloc _).drew
  have ho2:W.ownsRow w.heap.size 3 1 (.slice (some ⟨w.heap.size+1,0,none⟩) n n) n (aB (List.replicate n 0)):=by
   rw [hW,← uD n];have:=dh (w.alloc (.cells (madeCells #[.int .i64 0] n) 3)) w.heap.size 1 n 3 #[.int .i64 0] (by simp) (by omega);rw [Nat.mul_one] at this ⊢;have e:(w.alloc (.cells (madeCells #[.int .i64 0] n) 3)).heap.size=w.heap.size+1:=by simp
   rw [e] at this;exact this.drew
  rw [← hW];clear hW;have Oq:Tw W w.heap.size (w.heap.size) (w.heap.size+1) n (List.replicate n 0) (List.replicate n 0):=⟨ho1,ho2,by omega,by simp,by simp⟩
  clear ho1 ho2;obtain ⟨g1,hg1⟩:∃ g,g=w.heap.size:=⟨_,rfl⟩
  obtain ⟨g2,hg2⟩:∃ g,g=w.heap.size+1:=⟨_,rfl⟩
  have CK:Tw W w.heap.size g1 g2 n (List.replicate n 0) (List.replicate n 0):=by rw [hg1,hg2]; exact Oq
  rw [← hg2,← hg1];clear Oq hg1 hg2;replace CK:=Lib.hid CK;replace hb0:=Lib.hid hb0;clear hmk
  go_upto_block 1 with fail
  go_loopw [18] (fun u wr=>∃ (j:Nat) (L:List Nat),u=.int .i64 (j:Int)∧j≤n∧Hid (Tw wr w.heap.size g1 g2 n (List.replicate n 0) L)∧Hid (∀ i (h:i<L.length),L[i]=if i<j then cs i else 0)∧Hid (Below w.heap.size w wr)) (fun u _=>n - (intOf u).toNat)
  case atStart=>exact ⟨0,List.replicate n 0,rfl,by omega,CK,Lib.hid (by intro i h; simp),hb0⟩
  case round =>
   obtain ⟨j,L,rfl,hj,hT,hL,hb⟩:=hrel;have hbz:=hb.out.size
   by_cases hlt:j<n
   ·obtain ⟨b,o,rfl,hbl,hcell⟩:=hR.out.2 (by omega)
    have K8:j<runs.length:=by rw [← hnn.out]; exact hlt
    have hat:=fun i (hi:i<4)=>gU (f:=jK) (m:=4) (fun _=>rfl) runs j i K8 hi;have LQ:cs j=(runs[j].n).toNat:=by rw [hcs.out]; unfold Il.cnt; rw [Em.get_at K8]
    have X3:=hpos.out _ (List.getElem_mem K8);generalize runs[j]=r at hat LQ X3;have x0:=(hb.out.cell (p:=⟨b,o+(j*4+0),none⟩) hbl).trans (hcell _ _ (hat 0 (by omega)));have x1:=(hb.out.cell (p:=⟨b,o+(j*4+1),none⟩) hbl).trans (hcell _ _ (hat 1 (by omega)));have x2:=(hb.out.cell (p:=⟨b,o+(j*4+2),none⟩) hbl).trans (hcell _ _ (hat 2 (by omega)));have x3:=(hb.out.cell (p:=⟨b,o+(j*4+3),none⟩) hbl).trans (hcell _ _ (hat 3 (by omega)));simp only [← Nat.add_assoc,Nat.add_zero] at x0 x1 x2 x3;have hbr:b<wr.heap.size:=Nat.lt_of_lt_of_le hbl hbz;have pV:r.n=((cs j:Nat):Int):=by rw [LQ]; omega
    rw [pV] at x1;obtain ⟨ch,rn,ro,rc⟩:=r;simp only at pV;subst pV;clear hcell hat LQ X3;obtain ⟨y,hy⟩:∃ y,y=cs j:=⟨_,rfl⟩
    rw [← hy] at x1;replace hy:=Lib.hid hy;have jF:=Lib.hid (hT.out.ext (aa wr (.cells #[.int .u8 (ch.toNat:Int),.int .i64 (y:Int),.bool ro,.bool rc] 240)));have hxb:(wr.alloc (.cells #[.int .u8 (ch.toNat:Int),.int .i64 (y:Int),.bool ro,.bool rc] 240)).heap[wr.heap.size]?=some (.cells #[.int .u8 (ch.toNat:Int),.int .i64 (y:Int),.bool ro,.bool rc] 240):=heap_alloc_new wr _;have hba:=Lib.hid (hb.out.alloc hbz (.cells #[.int .u8 (ch.toNat:Int),.int .i64 (y:Int),.bool ro,.bool rc] 240));have BK:(wr.alloc (.cells #[.int .u8 (ch.toNat:Int),.int .i64 (y:Int),.bool ro,.bool rc] 240)).heap.size=wr.heap.size+1:=by simp
    go_upto_region 5 with fail
    obtain ⟨wa,xJ⟩:∃ wa,wa=wr.alloc (.cells #[.int .u8 (ch.toNat:Int),.int .i64 (y:Int),.bool ro,.bool rc] 240):=⟨_,rfl⟩
    obtain ⟨bx,rB⟩:∃ bx,bx=wr.heap.size:=⟨_,rfl⟩
    rw [← xJ] at jF hxb hba BK ⊢;rw [← rB] at hxb BK ⊢;have y1:=ah hxb 1;simp only [List.getElem?_toArray,List.getElem?_cons_zero,List.getElem?_cons_succ] at y1;have Kw:bx<wa.heap.size:=by omega
    have q2:=jF.out.at2 hlt;have q3:=jF.out.Wr;have q4:=jF.out.Qs.2;have hls:L.length=n:=hT.out.ll;have YU:=Lib.hid (jF.out.uV j y);have Rk:=Lib.hid (hba.out.setCell (p:=⟨g2,j,none⟩) jF.out.Qs.1 (.int .i64 (y:Int)));have Z2:Hid (∀ i (h:i<(L.set j y).length),(L.set j y)[i]=if i<j+1 then cs i else 0):=Lib.hid (fun i h=>by
     by_cases hij:j=i
     ·subst hij; rw [List.getElem_set_self,if_pos (by omega)]; exact hy.out
     ·rw [List.getElem_set_ne hij,hL.out i (by rw [List.length_set] at h; exact h)]
      by_cases h1:i<j
      ·rw [if_pos h1,if_pos (by omega)]
      ·rw [if_neg h1,if_neg (by omega)])
    generalize (L[j]'(by omega):Nat)=old at q2;replace hls:=Lib.hid hls;clear xJ hxb x0 x1 x2 x3 BK rB hT hb jF hba hL;go_wp2_with fail
    go_roundw
    case rel=>exact ⟨j+1,L.set j y,by go_num,by omega,YU,Z2,Rk⟩
    case measure=>simp [intOf]; omega
   ·have hjn:j=n:=by omega
    subst hjn;have hL2:Hid (∀ i (h:i<L.length),L[i]=cs i):=Lib.hid (fun i h=>by rw [hL.out i h,if_pos (by have:=hT.out.ll; omega)]);clear hL CK hb0;go_wp2_with fail
    go_loopw [31] (fun u wr=>∃ (k:Nat) (O L:List Nat),u=.int .i64 (k:Int)∧k≤X.length∧Hid (Tw wr w.heap.size g1 g2 j O L)∧Hid (∀ i (h:i<O.length),O[i]=Il.opn (X.take k) i)∧Hid (∀ i (h:i<L.length),L[i]=cs i - Em.used (X.take k) i)∧Hid (Below w.heap.size w wr)) (fun u _=>X.length - (intOf u).toNat)
    case atStart=>exact ⟨0,List.replicate j 0,L,rfl,by omega,hT,Lib.hid (by intro i h; simp [Il.opn]),Lib.hid (by intro i h; rw [hL2.out i h]; simp [Em.used]),hb⟩
    case round =>
     clear hT hL2 hb;obtain ⟨k,O,L2,rfl,hk,hT,hO,hL,hb⟩:=hrel;have hbz:=hb.out.size
     by_cases hlt:k<X.length
     ·obtain ⟨b,o,rfl,hbl,hcell⟩:=hX.out.2 (by omega)
      have hat:=fun i (hi:i<3)=>gU (f:=ve) (m:=3) (fun _=>rfl) X k i hlt hi;have GO:=hin.out _ (List.getElem_mem hlt);have htk:X.take (k+1)=X.take k++[X[k]]:=List.take_succ_eq_append_getElem hlt;have Vo:∀ i,Em.used (X.take (k+1)) i≤Em.used X i:=fun i=>Il.nS X (k+1) i;generalize X[k]=x at hat GO htk;obtain ⟨pa,pb,ps⟩:=x;simp only at GO;obtain ⟨ha,jD,hab,hs2⟩:=GO;have x0:=(hb.out.cell (p:=⟨b,o+(k*3+0),none⟩) hbl).trans (hcell _ _ (hat 0 (by omega)));have x1:=(hb.out.cell (p:=⟨b,o+(k*3+1),none⟩) hbl).trans (hcell _ _ (hat 1 (by omega)));have x2:=(hb.out.cell (p:=⟨b,o+(k*3+2),none⟩) hbl).trans (hcell _ _ (hat 2 (by omega)));simp only [← Nat.add_assoc,Nat.add_zero] at x0 x1 x2;have hbr:b<wr.heap.size:=Nat.lt_of_lt_of_le hbl hbz;have Td:∀ i,Em.used (X.take (k+1)) i=Em.used (X.take k) i+((if pa=i then ps else 0)+if pb=i then ps else 0):=fun i=>by rw [htk,Em.iW]
      have Yh:∀ i,Il.opn (X.take (k+1)) i=Il.opn (X.take k) i+if pa=i then 1 else 0:=fun i=>by rw [htk,Eo]
      have NU:∀ i,Il.opn (X.take k) i≤X.length:=fun i=>Nat.le_trans (by unfold Il.opn; exact List.countP_le_length) (by rw [List.length_take]; omega);have Wh:=hO.out pa (by rw [hT.out.ol]; exact ha);have UK:=hL.out pa (by rw [hT.out.ll]; exact ha);have VO:=hL.out pb (by rw [hT.out.ll]; exact jD);have hca:=hcb.out pa;have UL:=hcb.out pb;have M3:=Td pa;have PU:=Td pb;rw [if_pos rfl,if_neg (fun e=>hab e.symm)] at M3;rw [if_neg hab,if_pos rfl] at PU;have VV:=Vo pa;have U0:=Vo pb;have Ub:=mh.out pa ha;have V6:=mh.out pb jD;have Wi:=NU pa;have jF:=hT.out.ext (aa wr (.cells #[.int .i64 (pa:Int),.int .i64 (pb:Int),.int .i64 (ps:Int)] 241));have hxb:(wr.alloc (.cells #[.int .i64 (pa:Int),.int .i64 (pb:Int),.int .i64 (ps:Int)] 241)).heap[wr.heap.size]?=some (.cells #[.int .i64 (pa:Int),.int .i64 (pb:Int),.int .i64 (ps:Int)] 241):=heap_alloc_new wr _;have hba:=Lib.hid (hb.out.alloc hbz (.cells #[.int .i64 (pa:Int),.int .i64 (pb:Int),.int .i64 (ps:Int)] 241));have BK:(wr.alloc (.cells #[.int .i64 (pa:Int),.int .i64 (pb:Int),.int .i64 (ps:Int)] 241)).heap.size=wr.heap.size+1:=by simp
      have q1:=jF.Yo ha;have q2:=jF.at2 ha;have q3:=jF.at2 jD;have hol:=hT.out.ol;have vG:=hT.out.ll;obtain ⟨va,Yb⟩:∃ va,va=O[pa]'(by omega):=⟨_,rfl⟩
      obtain ⟨la,hla⟩:∃ la,la=L2[pa]'(by omega):=⟨_,rfl⟩
      obtain ⟨lb,hlb⟩:∃ lb,lb=L2[pb]'(by omega):=⟨_,rfl⟩
      rw [← Yb] at q1 Wh;rw [← hla] at q2 UK;rw [← hlb] at q3 VO;have hsa:ps≤la:=by omega
      have hsb:ps≤lb:=by omega
      have Zp:va≤400000000:=by omega
      have G8:la≤1000000000:=by omega
      have ZP:lb≤1000000000:=by omega
      have Q8:Hid (∀ i (h:i<(O.set pa (va+1)).length),(O.set pa (va+1))[i]=Il.opn (X.take (k+1)) i):=Lib.hid (fun i h=>by
       rw [Yh]
       by_cases hij:pa=i
       ·subst hij; rw [List.getElem_set_self,if_pos rfl,Wh]
       ·rw [List.getElem_set_ne hij,if_neg hij,hO.out i (by rw [List.length_set] at h; exact h),Nat.add_zero])
      have hL3:Hid (∀ i (h:i<((L2.set pa (la - ps)).set pb (lb - ps)).length),((L2.set pa (la - ps)).set pb (lb - ps))[i]=cs i - Em.used (X.take (k+1)) i):=Lib.hid (fun i h=>by
       rw [Td]
       by_cases h1:pb=i
       ·subst h1; rw [List.getElem_set_self,if_neg hab,if_pos rfl,VO]; omega
       ·rw [List.getElem_set_ne h1,if_neg h1]
        by_cases h2:pa=i
        ·subst h2; rw [List.getElem_set_self,if_pos rfl,UK]; omega
        ·rw [List.getElem_set_ne h2,if_neg h2,hL.out i (by simpa using h)]; omega)
      have Zt:=hT.out.ne;have oN:=jF.GP pa (va+1);have nC:=oN.uV pa (la - ps);have kX:=Lib.hid (nC.uV pb (lb - ps));have F6:=Lib.hid (hba.out.setCell (p:=⟨g1,pa,none⟩) jF.WD.1 (.int .i64 ((va+1:Nat):Int)));have Bs:=Lib.hid (F6.out.setCell (p:=⟨g2,pa,none⟩) jF.Qs.1 (.int .i64 ((la - ps:Nat):Int)));have wC:=Lib.hid (Bs.out.setCell (p:=⟨g2,pb,none⟩) jF.Qs.1 (.int .i64 ((lb - ps:Nat):Int)));have ff1:=jF.fz1;have ff2:=oN.Wr;have ff3:=nC.Wr;have r2:=oN.at2 ha;have r3:=nC.at2 jD;rw [← hla] at r2;rw [List.getElem_set_ne hab,← hlb] at r3;have e1:((va+1:Nat):Int)=(va:Int)+1:=by omega
      have e2:((la - ps:Nat):Int)=(la:Int) - (ps:Int):=by omega
      have e3:((lb - ps:Nat):Int)=(lb:Int) - (ps:Int):=by omega
      have hwr1:IntKind.i64.wrap ((la:Int) - (ps:Int))=(la:Int) - (ps:Int):=by rw [IntKind.wrap_i64]; omega
      have aaa:IntKind.i64.wrap ((lb:Int) - (ps:Int))=(lb:Int) - (ps:Int):=by rw [IntKind.wrap_i64]; omega
      have Ma:g1≠wr.heap.size:=by have:=hT.out.WD.2; omega
      have EV:g2≠wr.heap.size:=by have:=hT.out.Qs.2; omega
      have hs1:(wr.alloc (.cells #[.int .i64 (pa:Int),.int .i64 (pb:Int),.int .i64 (ps:Int)] 241)).setCell ⟨g1,pa,none⟩ (.int .i64 ((va+1:Nat):Int))=(wr.alloc (.cells #[.int .i64 (pa:Int),.int .i64 (pb:Int),.int .i64 (ps:Int)] 241)).setCell ⟨g1,pa,none⟩ (.int .i64 ((va:Int)+1)):=by rw [e1]
      clear hcell hat htk Vo Td Yh NU Wh UK VO hca UL M3 PU VV U0 Ub V6 Wi;go_upto_region 10 with fail
      obtain ⟨wa,xJ⟩:∃ wa,wa=wr.alloc (.cells #[.int .i64 (pa:Int),.int .i64 (pb:Int),.int .i64 (ps:Int)] 241):=⟨_,rfl⟩
      obtain ⟨bx,rB⟩:∃ bx,bx=wr.heap.size:=⟨_,rfl⟩
      rw [← xJ] at jF hxb hba BK hs1 oN nC kX F6 Bs wC ff1 ff2 ff3 r2 r3 q1 q2 q3 ⊢;rw [← rB] at hxb BK Ma EV ⊢;have vf:(wa.setCell ⟨g1,pa,none⟩ (.int .i64 ((va+1:Nat):Int))).heap[bx]?=some (.cells #[.int .i64 (pa:Int),.int .i64 (pb:Int),.int .i64 (ps:Int)] 241):=(Below.heap_setCell _ _ _ _ (fun e=>Ma e.symm)).trans hxb;have pq:((wa.setCell ⟨g1,pa,none⟩ (.int .i64 ((va+1:Nat):Int))).setCell ⟨g2,pa,none⟩ (.int .i64 ((la - ps:Nat):Int))).heap[bx]?=some (.cells #[.int .i64 (pa:Int),.int .i64 (pb:Int),.int .i64 (ps:Int)] 241):=(Below.heap_setCell _ _ _ _ (fun e=>EV e.symm)).trans vf;have y0:=ah hxb 0;have y1:=ah hxb 1;have y2:=ah hxb 2;simp only [List.getElem?_toArray,List.getElem?_cons_zero,List.getElem?_cons_succ] at y0 y1 y2;have Kw:bx<wa.heap.size:=by omega
      have NZ:=jF.WD.2;have hai:(pa:Int)<(j:Int):=by omega
      have uB:(pb:Int)<(j:Int):=by omega
      replace oN:=Lib.hid oN;replace nC:=Lib.hid nC;replace e1:=Lib.hid e1;replace e2:=Lib.hid e2;replace e3:=Lib.hid e3;replace hs1:=Lib.hid hs1;replace vf:=Lib.hid vf;replace pq:=Lib.hid pq;replace r2:=Lib.hid r2;replace r3:=Lib.hid r3;replace ff2:=Lib.hid ff2;replace ff3:=Lib.hid ff3;replace hol:=Lib.hid hol;replace vG:=Lib.hid vG;clear Yb hla hlb xJ hxb x0 x1 x2 BK rB hT hb jF hba hO hL;go_upto_region 11 with fail
      rw [← hs1.out];obtain ⟨w1,hw1⟩:∃ w1,w1=wa.setCell ⟨g1,pa,none⟩ (.int .i64 ((va+1:Nat):Int)):=⟨_,rfl⟩
      rw [← hw1] at oN nC kX F6 Bs wC ff2 ff3 r2 r3 vf pq ⊢;clear hs1 hw1 q1 q2 q3 ff1 y0 y1 y2 Kw NZ;have hS:(fun u:World=>u.heap[bx]?=some (.cells #[.int .i64 (pa:Int),.int .i64 (pb:Int),.int .i64 (ps:Int)] 241)) w1.drew:=vf.out;have ij:(fun u:World=>u.heap[bx]?=some (.cells #[.int .i64 (pa:Int),.int .i64 (pb:Int),.int .i64 (ps:Int)] 241)) (w1.drew.setCell ⟨g2,pa,none⟩ (.int .i64 ((la:Int) - (ps:Int)))):=by
       rw [← e2.out]; exact pq.out
      refine aE (.rd 0 (.rd 1 (.rd 2 (.rd 3 (.rd 5 (.rd 6 (.mk 4 (.rd 7 (.rd 8 (.mk 9 .fin)))))))))) (fun u:World=>u.heap[bx]?=some (.cells #[.int .i64 (pa:Int),.int .i64 (pb:Int),.int .i64 (ps:Int)] 241)) hS (by kernel_rfl) (by kernel_rfl) (by kernel_rfl) (fun _ _ d _ _ h=>by cases d<;>exact h) ?_
      iterate 2 (first | refine an rfl ?_ | (refine ay rfl ?_; intro K hK; go_simp; refine hK _ _ _ ?_; clear hK K))
      refine aH (.int .i64 (pa:Int)) rfl rfl hS (fun u hu=>by
       have h1:=ah (j:=0) hu;go_simp) ?_
      iterate 2 (first | refine an rfl ?_ | (refine ay rfl ?_; intro K hK; go_simp; refine hK _ _ _ ?_; clear hK K))
      refine aH (.int .i64 (ps:Int)) rfl rfl hS (fun u hu=>by
       have h1:=ah (j:=2) hu;go_simp) ?_
      have r2':=r2.out;refine aC rfl ?_;intro K hK;go_simp;refine ⟨_,hS,fun _ h=>h,hK _ _ _ ?_⟩;clear hK K
      iterate 2 (first | refine an rfl ?_ | (refine ay rfl ?_; intro K hK; go_simp; refine hK _ _ _ ?_; clear hK K))
      refine bf rfl rfl (gj rfl (by kernel_rfl) rfl rfl r2' ff2.out) ij ?_;refine aM ?_;have W9:((la:Int) - (ps:Int))=(((la - ps:Nat):Nat):Int):=e2.out.symm;rw [W9];obtain ⟨w2,hw2⟩:∃ w2,w2=w1.setCell ⟨g2,pa,none⟩ (.int .i64 ((la - ps:Nat):Int)):=⟨_,rfl⟩
      have OG:w1.drew.setCell ⟨g2,pa,none⟩ (.int .i64 ((la - ps:Nat):Int))=w2.drew:=by rw [hw2]; rfl
      rw [← hw2] at nC kX Bs wC ff3 r3 pq;rw [OG];clear hw2 OG ij r2' W9;go_upto_region 12 with fail
      have hS:(fun u:World=>u.heap[bx]?=some (.cells #[.int .i64 (pa:Int),.int .i64 (pb:Int),.int .i64 (ps:Int)] 241)) w2.drew.drew:=pq.out;have ij:(fun u:World=>u.heap[bx]?=some (.cells #[.int .i64 (pa:Int),.int .i64 (pb:Int),.int .i64 (ps:Int)] 241)) (w2.drew.drew.setCell ⟨g2,pb,none⟩ (.int .i64 ((lb:Int) - (ps:Int)))):=(Below.heap_setCell _ _ _ _ (fun e=>EV e.symm)).trans pq.out;refine aE (.rd 0 (.rd 1 (.rd 2 (.rd 3 (.rd 5 (.rd 6 (.mk 4 (.rd 7 (.rd 8 (.mk 9 .fin)))))))))) (fun u:World=>u.heap[bx]?=some (.cells #[.int .i64 (pa:Int),.int .i64 (pb:Int),.int .i64 (ps:Int)] 241)) hS (by kernel_rfl) (by kernel_rfl) (by kernel_rfl) (fun _ _ d _ _ h=>by cases d<;>exact h) ?_
      iterate 2 (first | refine an rfl ?_ | (refine ay rfl ?_; intro K hK; go_simp; refine hK _ _ _ ?_; clear hK K))
      refine aH (.int .i64 (pb:Int)) rfl rfl hS (fun u hu=>by
       have h1:=ah (j:=1) hu;go_simp) ?_
      iterate 2 (first | refine an rfl ?_ | (refine ay rfl ?_; intro K hK; go_simp; refine hK _ _ _ ?_; clear hK K))
      refine aH (.int .i64 (ps:Int)) rfl rfl hS (fun u hu=>by
       have h1:=ah (j:=2) hu;go_simp) ?_
      have r3':w2.drew.drew.cell? ⟨g2,pb,none⟩=some (.int .i64 (lb:Int)):=r3.out;have ff3':∀ j,w2.drew.drew.frozen? ⟨g2,j,none⟩=false:=ff3.out;refine aC rfl ?_;intro K hK;go_simp;refine ⟨_,hS,fun _ h=>h,hK _ _ _ ?_⟩;clear hK K
      iterate 2 (first | refine an rfl ?_ | (refine ay rfl ?_; intro K hK; go_simp; refine hK _ _ _ ?_; clear hK K))
      refine bf rfl rfl (gj rfl (by kernel_rfl) rfl rfl r3' ff3') ij ?_;refine aM ?_;rw [show ((lb:Int) - (ps:Int))=(((lb - ps:Nat):Nat):Int) from e3.out.symm];obtain ⟨w3,hw3⟩:∃ w3,w3=w2.setCell ⟨g2,pb,none⟩ (.int .i64 ((lb - ps:Nat):Int)):=⟨_,rfl⟩
      have Ot:w2.drew.drew.setCell ⟨g2,pb,none⟩ (.int .i64 ((lb - ps:Nat):Int))=w3.drew.drew:=by rw [hw3]; rfl
      rw [← hw3] at kX wC;rw [Ot];clear hw3 Ot hS ij r3' ff3';have ZC:Hid (Tw w3.drew.drew w.heap.size g1 g2 j (O.set pa (va+1)) ((L2.set pa (la - ps)).set pb (lb - ps))):=Lib.hid ⟨kX.out.o.drew.drew,kX.out.l.drew.drew,kX.out.ne,kX.out.ol,kX.out.ll⟩;have oz:Hid (Below w.heap.size w w3.drew.drew):=Lib.hid (below_drewN (below_drewN wC.out 1) 1);go_wp2_with fail
      go_roundw
      case rel=>exact ⟨k+1,O.set pa (va+1),(L2.set pa (la - ps)).set pb (lb - ps),by go_num,by omega,ZC,Q8,hL3,oz⟩
      case measure=>simp [intOf]; omega
     ·have hkl:k=X.length:=by omega
      subst hkl;have LM:=hO.out;have hL3:=hL.out;rw [List.take_length] at LM hL3;replace LM:=Lib.hid LM;replace hL3:=Lib.hid hL3;clear hO hL;go_wp2_with fail;go_ret2;exact ⟨g1,g2,O,L2,rfl,hT.out,LM.out,hL3.out,hb.out⟩
 case' wb =>
  refine aC rfl ?_;intro K hK;go_simp;refine ⟨fun _=>True,trivial,hK _ _ _ ?_⟩;clear hK K;refine aC rfl ?_;intro K hK;go_simp;refine ⟨fun _=>True,trivial,hK _ _ _ ?_⟩;clear hK K
  iterate 2 (first | refine an rfl ?_ | (refine ay rfl ?_; intro K hK; go_simp; refine hK _ _ _ ?_; clear hK K))
  refine aM ?_;obtain ⟨W,hW⟩:∃ W,W=((w.alloc (.cells (madeCells #[.int .i64 0] n) 3)).alloc (.cells (madeCells #[.int .i64 0] n) 3)).drew:=⟨_,rfl⟩
  have hb0:Below w.heap.size w W:=by rw [hW]; exact below_drewN (((Below.refl _ w).alloc (Nat.le_refl _) _).alloc (by simp) _) 1
  have ho1:W.ownsRow w.heap.size 3 1 (.slice (some ⟨w.heap.size,0,none⟩) n n) n (aB (List.replicate n 0)):=by
   rw [hW,← uD n];have:=dh w w.heap.size 1 n 3 #[.int .i64 0] (Nat.le_refl _) (by omega);rw [Nat.mul_one] at this ⊢;exact (this.alloc _).drew
  have ho2:W.ownsRow w.heap.size 3 1 (.slice (some ⟨w.heap.size+1,0,none⟩) n n) n (aB (List.replicate n 0)):=by
   rw [hW,← uD n];have:=dh (w.alloc (.cells (madeCells #[.int .i64 0] n) 3)) w.heap.size 1 n 3 #[.int .i64 0] (by simp) (by omega);rw [Nat.mul_one] at this ⊢;have e:(w.alloc (.cells (madeCells #[.int .i64 0] n) 3)).heap.size=w.heap.size+1:=by simp
   rw [e] at this;exact this.drew
  rw [← hW];clear hW;have Oq:Tw W w.heap.size (w.heap.size+1) (w.heap.size) n (List.replicate n 0) (List.replicate n 0):=⟨ho2,ho1,by omega,by simp,by simp⟩
  clear ho1 ho2;obtain ⟨g1,hg1⟩:∃ g,g=w.heap.size+1:=⟨_,rfl⟩
  obtain ⟨g2,hg2⟩:∃ g,g=w.heap.size:=⟨_,rfl⟩
  have CK:Tw W w.heap.size g1 g2 n (List.replicate n 0) (List.replicate n 0):=by rw [hg1,hg2]; exact Oq
  rw [← hg1,← hg2];clear Oq hg1 hg2;replace CK:=Lib.hid CK;replace hb0:=Lib.hid hb0;clear hmk
  go_upto_block 1 with fail
  go_loopw [18] (fun u wr=>∃ (j:Nat) (L:List Nat),u=.int .i64 (j:Int)∧j≤n∧Hid (Tw wr w.heap.size g1 g2 n (List.replicate n 0) L)∧Hid (∀ i (h:i<L.length),L[i]=if i<j then cs i else 0)∧Hid (Below w.heap.size w wr)) (fun u _=>n - (intOf u).toNat)
  case atStart=>exact ⟨0,List.replicate n 0,rfl,by omega,CK,Lib.hid (by intro i h; simp),hb0⟩
  case round =>
   obtain ⟨j,L,rfl,hj,hT,hL,hb⟩:=hrel;have hbz:=hb.out.size
   by_cases hlt:j<n
   ·obtain ⟨b,o,rfl,hbl,hcell⟩:=hR.out.2 (by omega)
    have K8:j<runs.length:=by rw [← hnn.out]; exact hlt
    have hat:=fun i (hi:i<4)=>gU (f:=jK) (m:=4) (fun _=>rfl) runs j i K8 hi;have LQ:cs j=(runs[j].n).toNat:=by rw [hcs.out]; unfold Il.cnt; rw [Em.get_at K8]
    have X3:=hpos.out _ (List.getElem_mem K8);generalize runs[j]=r at hat LQ X3;have x0:=(hb.out.cell (p:=⟨b,o+(j*4+0),none⟩) hbl).trans (hcell _ _ (hat 0 (by omega)));have x1:=(hb.out.cell (p:=⟨b,o+(j*4+1),none⟩) hbl).trans (hcell _ _ (hat 1 (by omega)));have x2:=(hb.out.cell (p:=⟨b,o+(j*4+2),none⟩) hbl).trans (hcell _ _ (hat 2 (by omega)));have x3:=(hb.out.cell (p:=⟨b,o+(j*4+3),none⟩) hbl).trans (hcell _ _ (hat 3 (by omega)));simp only [← Nat.add_assoc,Nat.add_zero] at x0 x1 x2 x3;have hbr:b<wr.heap.size:=Nat.lt_of_lt_of_le hbl hbz;have pV:r.n=((cs j:Nat):Int):=by rw [LQ]; omega
    rw [pV] at x1;obtain ⟨ch,rn,ro,rc⟩:=r;simp only at pV;subst pV;clear hcell hat LQ X3;obtain ⟨y,hy⟩:∃ y,y=cs j:=⟨_,rfl⟩
    rw [← hy] at x1;replace hy:=Lib.hid hy;have jF:=Lib.hid (hT.out.ext (aa wr (.cells #[.int .u8 (ch.toNat:Int),.int .i64 (y:Int),.bool ro,.bool rc] 240)));have hxb:(wr.alloc (.cells #[.int .u8 (ch.toNat:Int),.int .i64 (y:Int),.bool ro,.bool rc] 240)).heap[wr.heap.size]?=some (.cells #[.int .u8 (ch.toNat:Int),.int .i64 (y:Int),.bool ro,.bool rc] 240):=heap_alloc_new wr _;have hba:=Lib.hid (hb.out.alloc hbz (.cells #[.int .u8 (ch.toNat:Int),.int .i64 (y:Int),.bool ro,.bool rc] 240));have BK:(wr.alloc (.cells #[.int .u8 (ch.toNat:Int),.int .i64 (y:Int),.bool ro,.bool rc] 240)).heap.size=wr.heap.size+1:=by simp
    go_upto_region 5 with fail
    obtain ⟨wa,xJ⟩:∃ wa,wa=wr.alloc (.cells #[.int .u8 (ch.toNat:Int),.int .i64 (y:Int),.bool ro,.bool rc] 240):=⟨_,rfl⟩
    obtain ⟨bx,rB⟩:∃ bx,bx=wr.heap.size:=⟨_,rfl⟩
    rw [← xJ] at jF hxb hba BK ⊢;rw [← rB] at hxb BK ⊢;have y1:=ah hxb 1;simp only [List.getElem?_toArray,List.getElem?_cons_zero,List.getElem?_cons_succ] at y1;have Kw:bx<wa.heap.size:=by omega
    have q2:=jF.out.at2 hlt;have q3:=jF.out.Wr;have q4:=jF.out.Qs.2;have hls:L.length=n:=hT.out.ll;have YU:=Lib.hid (jF.out.uV j y);have Rk:=Lib.hid (hba.out.setCell (p:=⟨g2,j,none⟩) jF.out.Qs.1 (.int .i64 (y:Int)));have Z2:Hid (∀ i (h:i<(L.set j y).length),(L.set j y)[i]=if i<j+1 then cs i else 0):=Lib.hid (fun i h=>by
     by_cases hij:j=i
     ·subst hij; rw [List.getElem_set_self,if_pos (by omega)]; exact hy.out
     ·rw [List.getElem_set_ne hij,hL.out i (by rw [List.length_set] at h; exact h)]
      by_cases h1:i<j
      ·rw [if_pos h1,if_pos (by omega)]
      ·rw [if_neg h1,if_neg (by omega)])
    generalize (L[j]'(by omega):Nat)=old at q2;replace hls:=Lib.hid hls;clear xJ hxb x0 x1 x2 x3 BK rB hT hb jF hba hL;go_wp2_with fail
    go_roundw
    case rel=>exact ⟨j+1,L.set j y,by go_num,by omega,YU,Z2,Rk⟩
    case measure=>simp [intOf]; omega
   ·have hjn:j=n:=by omega
    subst hjn;have hL2:Hid (∀ i (h:i<L.length),L[i]=cs i):=Lib.hid (fun i h=>by rw [hL.out i h,if_pos (by have:=hT.out.ll; omega)]);clear hL CK hb0;go_wp2_with fail
    go_loopw [31] (fun u wr=>∃ (k:Nat) (O L:List Nat),u=.int .i64 (k:Int)∧k≤X.length∧Hid (Tw wr w.heap.size g1 g2 j O L)∧Hid (∀ i (h:i<O.length),O[i]=Il.opn (X.take k) i)∧Hid (∀ i (h:i<L.length),L[i]=cs i - Em.used (X.take k) i)∧Hid (Below w.heap.size w wr)) (fun u _=>X.length - (intOf u).toNat)
    case atStart=>exact ⟨0,List.replicate j 0,L,rfl,by omega,hT,Lib.hid (by intro i h; simp [Il.opn]),Lib.hid (by intro i h; rw [hL2.out i h]; simp [Em.used]),hb⟩
    case round =>
     clear hT hL2 hb;obtain ⟨k,O,L2,rfl,hk,hT,hO,hL,hb⟩:=hrel;have hbz:=hb.out.size
     by_cases hlt:k<X.length
     ·obtain ⟨b,o,rfl,hbl,hcell⟩:=hX.out.2 (by omega)
      have hat:=fun i (hi:i<3)=>gU (f:=ve) (m:=3) (fun _=>rfl) X k i hlt hi;have GO:=hin.out _ (List.getElem_mem hlt);have htk:X.take (k+1)=X.take k++[X[k]]:=List.take_succ_eq_append_getElem hlt;have Vo:∀ i,Em.used (X.take (k+1)) i≤Em.used X i:=fun i=>Il.nS X (k+1) i;generalize X[k]=x at hat GO htk;obtain ⟨pa,pb,ps⟩:=x;simp only at GO;obtain ⟨ha,jD,hab,hs2⟩:=GO;have x0:=(hb.out.cell (p:=⟨b,o+(k*3+0),none⟩) hbl).trans (hcell _ _ (hat 0 (by omega)));have x1:=(hb.out.cell (p:=⟨b,o+(k*3+1),none⟩) hbl).trans (hcell _ _ (hat 1 (by omega)));have x2:=(hb.out.cell (p:=⟨b,o+(k*3+2),none⟩) hbl).trans (hcell _ _ (hat 2 (by omega)));simp only [← Nat.add_assoc,Nat.add_zero] at x0 x1 x2;have hbr:b<wr.heap.size:=Nat.lt_of_lt_of_le hbl hbz;have Td:∀ i,Em.used (X.take (k+1)) i=Em.used (X.take k) i+((if pa=i then ps else 0)+if pb=i then ps else 0):=fun i=>by rw [htk,Em.iW]
      have Yh:∀ i,Il.opn (X.take (k+1)) i=Il.opn (X.take k) i+if pa=i then 1 else 0:=fun i=>by rw [htk,Eo]
      have NU:∀ i,Il.opn (X.take k) i≤X.length:=fun i=>Nat.le_trans (by unfold Il.opn; exact List.countP_le_length) (by rw [List.length_take]; omega);have Wh:=hO.out pa (by rw [hT.out.ol]; exact ha);have UK:=hL.out pa (by rw [hT.out.ll]; exact ha);have VO:=hL.out pb (by rw [hT.out.ll]; exact jD);have hca:=hcb.out pa;have UL:=hcb.out pb;have M3:=Td pa;have PU:=Td pb;rw [if_pos rfl,if_neg (fun e=>hab e.symm)] at M3;rw [if_neg hab,if_pos rfl] at PU;have VV:=Vo pa;have U0:=Vo pb;have Ub:=mh.out pa ha;have V6:=mh.out pb jD;have Wi:=NU pa;have jF:=hT.out.ext (aa wr (.cells #[.int .i64 (pa:Int),.int .i64 (pb:Int),.int .i64 (ps:Int)] 241));have hxb:(wr.alloc (.cells #[.int .i64 (pa:Int),.int .i64 (pb:Int),.int .i64 (ps:Int)] 241)).heap[wr.heap.size]?=some (.cells #[.int .i64 (pa:Int),.int .i64 (pb:Int),.int .i64 (ps:Int)] 241):=heap_alloc_new wr _;have hba:=Lib.hid (hb.out.alloc hbz (.cells #[.int .i64 (pa:Int),.int .i64 (pb:Int),.int .i64 (ps:Int)] 241));have BK:(wr.alloc (.cells #[.int .i64 (pa:Int),.int .i64 (pb:Int),.int .i64 (ps:Int)] 241)).heap.size=wr.heap.size+1:=by simp
      have q1:=jF.Yo ha;have q2:=jF.at2 ha;have q3:=jF.at2 jD;have hol:=hT.out.ol;have vG:=hT.out.ll;obtain ⟨va,Yb⟩:∃ va,va=O[pa]'(by omega):=⟨_,rfl⟩
      obtain ⟨la,hla⟩:∃ la,la=L2[pa]'(by omega):=⟨_,rfl⟩
      obtain ⟨lb,hlb⟩:∃ lb,lb=L2[pb]'(by omega):=⟨_,rfl⟩
      rw [← Yb] at q1 Wh;rw [← hla] at q2 UK;rw [← hlb] at q3 VO;have hsa:ps≤la:=by omega
      have hsb:ps≤lb:=by omega
      have Zp:va≤400000000:=by omega
      have G8:la≤1000000000:=by omega
      have ZP:lb≤1000000000:=by omega
      have Q8:Hid (∀ i (h:i<(O.set pa (va+1)).length),(O.set pa (va+1))[i]=Il.opn (X.take (k+1)) i):=Lib.hid (fun i h=>by
       rw [Yh]
       by_cases hij:pa=i
       ·subst hij; rw [List.getElem_set_self,if_pos rfl,Wh]
       ·rw [List.getElem_set_ne hij,if_neg hij,hO.out i (by rw [List.length_set] at h; exact h),Nat.add_zero])
      have hL3:Hid (∀ i (h:i<((L2.set pa (la - ps)).set pb (lb - ps)).length),((L2.set pa (la - ps)).set pb (lb - ps))[i]=cs i - Em.used (X.take (k+1)) i):=Lib.hid (fun i h=>by
       rw [Td]
       by_cases h1:pb=i
       ·subst h1; rw [List.getElem_set_self,if_neg hab,if_pos rfl,VO]; omega
       ·rw [List.getElem_set_ne h1,if_neg h1]
        by_cases h2:pa=i
        ·subst h2; rw [List.getElem_set_self,if_pos rfl,UK]; omega
        ·rw [List.getElem_set_ne h2,if_neg h2,hL.out i (by simpa using h)]; omega)
      have Zt:=hT.out.ne;have oN:=jF.GP pa (va+1);have nC:=oN.uV pa (la - ps);have kX:=Lib.hid (nC.uV pb (lb - ps));have F6:=Lib.hid (hba.out.setCell (p:=⟨g1,pa,none⟩) jF.WD.1 (.int .i64 ((va+1:Nat):Int)));have Bs:=Lib.hid (F6.out.setCell (p:=⟨g2,pa,none⟩) jF.Qs.1 (.int .i64 ((la - ps:Nat):Int)));have wC:=Lib.hid (Bs.out.setCell (p:=⟨g2,pb,none⟩) jF.Qs.1 (.int .i64 ((lb - ps:Nat):Int)));have ff1:=jF.fz1;have ff2:=oN.Wr;have ff3:=nC.Wr;have r2:=oN.at2 ha;have r3:=nC.at2 jD;rw [← hla] at r2;rw [List.getElem_set_ne hab,← hlb] at r3;have e1:((va+1:Nat):Int)=(va:Int)+1:=by omega
      have e2:((la - ps:Nat):Int)=(la:Int) - (ps:Int):=by omega
      have e3:((lb - ps:Nat):Int)=(lb:Int) - (ps:Int):=by omega
      have hwr1:IntKind.i64.wrap ((la:Int) - (ps:Int))=(la:Int) - (ps:Int):=by rw [IntKind.wrap_i64]; omega
      have aaa:IntKind.i64.wrap ((lb:Int) - (ps:Int))=(lb:Int) - (ps:Int):=by rw [IntKind.wrap_i64]; omega
      have Ma:g1≠wr.heap.size:=by have:=hT.out.WD.2; omega
      have EV:g2≠wr.heap.size:=by have:=hT.out.Qs.2; omega
      have hs1:(wr.alloc (.cells #[.int .i64 (pa:Int),.int .i64 (pb:Int),.int .i64 (ps:Int)] 241)).setCell ⟨g1,pa,none⟩ (.int .i64 ((va+1:Nat):Int))=(wr.alloc (.cells #[.int .i64 (pa:Int),.int .i64 (pb:Int),.int .i64 (ps:Int)] 241)).setCell ⟨g1,pa,none⟩ (.int .i64 ((va:Int)+1)):=by rw [e1]
      clear hcell hat htk Vo Td Yh NU Wh UK VO hca UL M3 PU VV U0 Ub V6 Wi;go_upto_region 10 with fail
      obtain ⟨wa,xJ⟩:∃ wa,wa=wr.alloc (.cells #[.int .i64 (pa:Int),.int .i64 (pb:Int),.int .i64 (ps:Int)] 241):=⟨_,rfl⟩
      obtain ⟨bx,rB⟩:∃ bx,bx=wr.heap.size:=⟨_,rfl⟩
      rw [← xJ] at jF hxb hba BK hs1 oN nC kX F6 Bs wC ff1 ff2 ff3 r2 r3 q1 q2 q3 ⊢;rw [← rB] at hxb BK Ma EV ⊢;have vf:(wa.setCell ⟨g1,pa,none⟩ (.int .i64 ((va+1:Nat):Int))).heap[bx]?=some (.cells #[.int .i64 (pa:Int),.int .i64 (pb:Int),.int .i64 (ps:Int)] 241):=(Below.heap_setCell _ _ _ _ (fun e=>Ma e.symm)).trans hxb;have pq:((wa.setCell ⟨g1,pa,none⟩ (.int .i64 ((va+1:Nat):Int))).setCell ⟨g2,pa,none⟩ (.int .i64 ((la - ps:Nat):Int))).heap[bx]?=some (.cells #[.int .i64 (pa:Int),.int .i64 (pb:Int),.int .i64 (ps:Int)] 241):=(Below.heap_setCell _ _ _ _ (fun e=>EV e.symm)).trans vf;have y0:=ah hxb 0;have y1:=ah hxb 1;have y2:=ah hxb 2;simp only [List.getElem?_toArray,List.getElem?_cons_zero,List.getElem?_cons_succ] at y0 y1 y2;have Kw:bx<wa.heap.size:=by omega
      have NZ:=jF.WD.2;have hai:(pa:Int)<(j:Int):=by omega
      have uB:(pb:Int)<(j:Int):=by omega
      replace oN:=Lib.hid oN;replace nC:=Lib.hid nC;replace e1:=Lib.hid e1;replace e2:=Lib.hid e2;replace e3:=Lib.hid e3;replace hs1:=Lib.hid hs1;replace vf:=Lib.hid vf;replace pq:=Lib.hid pq;replace r2:=Lib.hid r2;replace r3:=Lib.hid r3;replace ff2:=Lib.hid ff2;replace ff3:=Lib.hid ff3;replace hol:=Lib.hid hol;replace vG:=Lib.hid vG;clear Yb hla hlb xJ hxb x0 x1 x2 BK rB hT hb jF hba hO hL;go_upto_region 11 with fail
      rw [← hs1.out];obtain ⟨w1,hw1⟩:∃ w1,w1=wa.setCell ⟨g1,pa,none⟩ (.int .i64 ((va+1:Nat):Int)):=⟨_,rfl⟩
      rw [← hw1] at oN nC kX F6 Bs wC ff2 ff3 r2 r3 vf pq ⊢;clear hs1 hw1 q1 q2 q3 ff1 y0 y1 y2 Kw NZ;have hS:(fun u:World=>u.heap[bx]?=some (.cells #[.int .i64 (pa:Int),.int .i64 (pb:Int),.int .i64 (ps:Int)] 241)) w1.drew:=vf.out;have ij:(fun u:World=>u.heap[bx]?=some (.cells #[.int .i64 (pa:Int),.int .i64 (pb:Int),.int .i64 (ps:Int)] 241)) (w1.drew.setCell ⟨g2,pa,none⟩ (.int .i64 ((la:Int) - (ps:Int)))):=by
       rw [← e2.out]; exact pq.out
      refine aE (.rd 0 (.rd 1 (.rd 2 (.rd 3 (.rd 5 (.rd 6 (.mk 4 (.rd 7 (.rd 8 (.mk 9 .fin)))))))))) (fun u:World=>u.heap[bx]?=some (.cells #[.int .i64 (pa:Int),.int .i64 (pb:Int),.int .i64 (ps:Int)] 241)) hS (by kernel_rfl) (by kernel_rfl) (by kernel_rfl) (fun _ _ d _ _ h=>by cases d<;>exact h) ?_
      iterate 2 (first | refine an rfl ?_ | (refine ay rfl ?_; intro K hK; go_simp; refine hK _ _ _ ?_; clear hK K))
      refine aH (.int .i64 (pa:Int)) rfl rfl hS (fun u hu=>by
       have h1:=ah (j:=0) hu;go_simp) ?_
      iterate 2 (first | refine an rfl ?_ | (refine ay rfl ?_; intro K hK; go_simp; refine hK _ _ _ ?_; clear hK K))
      refine aH (.int .i64 (ps:Int)) rfl rfl hS (fun u hu=>by
       have h1:=ah (j:=2) hu;go_simp) ?_
      have r2':=r2.out;refine aC rfl ?_;intro K hK;go_simp;refine ⟨_,hS,fun _ h=>h,hK _ _ _ ?_⟩;clear hK K
      iterate 2 (first | refine an rfl ?_ | (refine ay rfl ?_; intro K hK; go_simp; refine hK _ _ _ ?_; clear hK K))
      refine bf rfl rfl (gj rfl (by kernel_rfl) rfl rfl r2' ff2.out) ij ?_;refine aM ?_;have W9:((la:Int) - (ps:Int))=(((la - ps:Nat):Nat):Int):=e2.out.symm;rw [W9];obtain ⟨w2,hw2⟩:∃ w2,w2=w1.setCell ⟨g2,pa,none⟩ (.int .i64 ((la - ps:Nat):Int)):=⟨_,rfl⟩
      have OG:w1.drew.setCell ⟨g2,pa,none⟩ (.int .i64 ((la - ps:Nat):Int))=w2.drew:=by rw [hw2]; rfl
      rw [← hw2] at nC kX Bs wC ff3 r3 pq;rw [OG];clear hw2 OG ij r2' W9;go_upto_region 12 with fail
      have hS:(fun u:World=>u.heap[bx]?=some (.cells #[.int .i64 (pa:Int),.int .i64 (pb:Int),.int .i64 (ps:Int)] 241)) w2.drew.drew:=pq.out;have ij:(fun u:World=>u.heap[bx]?=some (.cells #[.int .i64 (pa:Int),.int .i64 (pb:Int),.int .i64 (ps:Int)] 241)) (w2.drew.drew.setCell ⟨g2,pb,none⟩ (.int .i64 ((lb:Int) - (ps:Int)))):=(Below.heap_setCell _ _ _ _ (fun e=>EV e.symm)).trans pq.out;refine aE (.rd 0 (.rd 1 (.rd 2 (.rd 3 (.rd 5 (.rd 6 (.mk 4 (.rd 7 (.rd 8 (.mk 9 .fin)))))))))) (fun u:World=>u.heap[bx]?=some (.cells #[.int .i64 (pa:Int),.int .i64 (pb:Int),.int .i64 (ps:Int)] 241)) hS (by kernel_rfl) (by kernel_rfl) (by kernel_rfl) (fun _ _ d _ _ h=>by cases d<;>exact h) ?_
      iterate 2 (first | refine an rfl ?_ | (refine ay rfl ?_; intro K hK; go_simp; refine hK _ _ _ ?_; clear hK K))
      refine aH (.int .i64 (pb:Int)) rfl rfl hS (fun u hu=>by
       have h1:=ah (j:=1) hu;go_simp) ?_
      iterate 2 (first | refine an rfl ?_ | (refine ay rfl ?_; intro K hK; go_simp; refine hK _ _ _ ?_; clear hK K))
      refine aH (.int .i64 (ps:Int)) rfl rfl hS (fun u hu=>by
       have h1:=ah (j:=2) hu;go_simp) ?_
      have r3':w2.drew.drew.cell? ⟨g2,pb,none⟩=some (.int .i64 (lb:Int)):=r3.out;have ff3':∀ j,w2.drew.drew.frozen? ⟨g2,j,none⟩=false:=ff3.out;refine aC rfl ?_;intro K hK;go_simp;refine ⟨_,hS,fun _ h=>h,hK _ _ _ ?_⟩;clear hK K
      iterate 2 (first | refine an rfl ?_ | (refine ay rfl ?_; intro K hK; go_simp; refine hK _ _ _ ?_; clear hK K))
      refine bf rfl rfl (gj rfl (by kernel_rfl) rfl rfl r3' ff3') ij ?_;refine aM ?_;rw [show ((lb:Int) - (ps:Int))=(((lb - ps:Nat):Nat):Int) from e3.out.symm];obtain ⟨w3,hw3⟩:∃ w3,w3=w2.setCell ⟨g2,pb,none⟩ (.int .i64 ((lb - ps:Nat):Int)):=⟨_,rfl⟩
      have Ot:w2.drew.drew.setCell ⟨g2,pb,none⟩ (.int .i64 ((lb - ps:Nat):Int))=w3.drew.drew:=by rw [hw3]; rfl
      rw [← hw3] at kX wC;rw [Ot];clear hw3 Ot hS ij r3' ff3';have ZC:Hid (Tw w3.drew.drew w.heap.size g1 g2 j (O.set pa (va+1)) ((L2.set pa (la - ps)).set pb (lb - ps))):=Lib.hid ⟨kX.out.o.drew.drew,kX.out.l.drew.drew,kX.out.ne,kX.out.ol,kX.out.ll⟩;have oz:Hid (Below w.heap.size w w3.drew.drew):=Lib.hid (below_drewN (below_drewN wC.out 1) 1);go_wp2_with fail
      go_roundw
      case rel=>exact ⟨k+1,O.set pa (va+1),(L2.set pa (la - ps)).set pb (lb - ps),by go_num,by omega,ZC,Q8,hL3,oz⟩
      case measure=>simp [intOf]; omega
     ·have hkl:k=X.length:=by omega
      subst hkl;have LM:=hO.out;have hL3:=hL.out;rw [List.take_length] at LM hL3;replace LM:=Lib.hid LM;replace hL3:=Lib.hid hL3;clear hO hL;go_wp2_with fail;go_ret2;exact ⟨g1,g2,O,L2,rfl,hT.out,LM.out,hL3.out,hb.out⟩
end Go.Proofs.YtddkjkockbcamaaGreatDoor
