/- IlPJoin IlPShut IlPShares -/
import Derived.Test.YtddkjkockbcamaaGreatDoorHw20
import Derived.Deep.CutBlock
import Derived.Test.YtddkjkockbcamaaGreatDoorHw19
import Derived.Test.YtddkjkockbcamaaGreatDoorHw18
import Derived.Test.YtddkjkockbcamaaGreatDoorHw03
set_option maxHeartbeats 16000000
set_option maxRecDepth 100000
namespace Go.Proofs.YtddkjkockbcamaaGreatDoor
open Go.RowKit
attribute [local go_sem] aD av aq
theorem F4 (l:List UInt8):∀ u∈ai l,u.oneCell'=true:=by
 intro u hu;simp only [ai,List.mem_map] at hu;obtain ⟨_,_,rfl⟩:=hu;rfl
theorem FL {w:World}{Q:Nat→Prop}{size n:Nat}{A:Option Addr}{xs:List Value}(h:e9 w Q size A n xs) (hQ:∀ b,Q b→b<w.heap.size):Row w w.heap.size size A n xs:=by
 refine ⟨h.1,fun hn=>?_⟩;obtain ⟨b,o,h1,h2,h3⟩:=h.2 hn;exact ⟨b,o,h1,hQ b h2,h3⟩
section
variable {m:Ky→Option Pa}{k:Ks}{C:Value→Value→Pa}{R:Il.Rw}{vi vp:Value}{css:List (List Value)}{w:World}{B g o:Nat}
theorem Mr (hk:k.ok) (hC:Cn g o C) (h:Hq w B (aR m k C R vi vp css)) (hI:iq w (Fr w B (aR m k C R vi vp css)) R.l css) (hB:B≤w.heap.size) (hR:R.wt≤1000000000) (v:Il.Rw) (hv:v.ok) (UG:v.wt≤1000000000)
  (A2:Option Addr) (c2:Nat) (css2:List (List Value)) (Ap:Option Addr) (cp:Nat) (hr2:e9 w (Fr w B (aR m k C R vi vp css)) 4 A2 v.l.length css2.flatten) (hi2:iq w (Fr w B (aR m k C R vi vp css)) v.l css2) (hrp:e9 w (Fr w B (aR m k C R vi vp css)) 1 Ap v.p.length (ai v.p)) :
  Calls Tryz.prog 206 #[.pointer (some ⟨g,o,none⟩),.agg #[.slice A2 v.l.length c2,.slice Ap v.p.length cp]] w fun e w'=>e=.returned (.tuple #[])∧∃ vi' vp' css',b7 B (aR m k C R vi vp css) w (aR m k C (R.join v) vi' vp' css') w'∧iq w' (Fr w' B (aR m k C (R.join v) vi' vp' css')) (R.join v).l css':=by
 obtain ⟨L2,P2⟩:=v;simp only at hr2 hi2 hrp ⊢;have hwt:=fun j:Nat=>Il.Rw.zb (L2.take j) R;have hL2:L2.length≤1000000000:=by unfold Il.Rw.wt at UG;simp only at UG;omega
 have Dj:P2.length≤1000000000:=by unfold Il.Rw.wt at UG;simp only at UG;omega
 have VV:Il.eY L2≤1000000000:=by unfold Il.Rw.wt at UG;simp only at UG;omega
 have HJ:∀ j,Il.eY (L2.take j)≤Il.eY L2:=fun j=>by
  conv=>rhs;rw [← List.take_append_drop j L2,Il.jr]
  omega
 have Y7:=Lib.hid (fun j (hj:j≤L2.length)=>(show (((L2.take j).foldl Il.Rw.step R).p.length≤5000000000∧((L2.take j).foldl Il.Rw.step R).l.length≤5000000000) from by
  have h1:=hwt j;have h2:=HJ j;rw [List.length_take] at h1;have:min j L2.length≤L2.length:=Nat.min_le_right _ _;have e:((L2.take j).foldl Il.Rw.step R).wt=((L2.take j).foldl Il.Rw.step R).l.length+((L2.take j).foldl Il.Rw.step R).p.length+Il.eY ((L2.take j).foldl Il.Rw.step R).l:=rfl;omega))
 have WZ:=Lib.hid (fun (t d:List UInt8) (ks:List Il.In) (j:Nat) (hj:j<L2.length) (e:L2[j]=.mk 0 t d ks)=>(show t.length≤1000000000 from by
  have h1:Il.fK L2[j]≤Il.eY L2:=by
   have:=HJ (j+1);rw [List.take_succ_eq_append_getElem hj,Il.jr] at this;have e2:Il.eY [L2[j]]=Il.fK L2[j]:=by simp [Il.eY]
   omega
  rw [e] at h1;simp only [Il.fK] at h1;omega))
 have hwd:=Lib.hid hv.wd;have hv8:=Lib.hid hv.v8s;have t0:=h.call (w':=w.alloc (.cells #[.slice A2 L2.length c2,.slice Ap P2.length cp] 216)) hB (aa w _);have hf0:=Lib.hid (Hq.new (w':=w.alloc (.cells #[.slice A2 L2.length c2,.slice Ap P2.length cp] 216)) h hB (b:=w.heap.size) (Nat.le_refl _) (by simp));have hb0:Hid ((w.alloc (.cells #[.slice A2 L2.length c2,.slice Ap P2.length cp] 216)).heap[w.heap.size]? = some (.cells #[.slice A2 L2.length c2,.slice Ap P2.length cp] 216)):=Lib.hid (heap_alloc_new w _);have TY:=Lib.hid (t0.kids hI);have PN:=t0.gY hr2;have Rq:=t0.kids hi2;have R4:=t0.gY hrp;obtain ⟨b0,YG⟩:∃ b,b=w.heap.size:=⟨_,rfl⟩
 rw [← YG] at hf0 hb0;obtain ⟨w0,hw0⟩:∃ w0,w0=w.alloc (.cells #[.slice A2 L2.length c2,.slice Ap P2.length cp] 216):=⟨_,rfl⟩
 rw [← hw0] at t0 hf0 hb0 TY PN Rq R4;have Yc:Hid (w0.cell? ⟨b0,0,none⟩=some (.slice A2 L2.length c2)):=Lib.hid (ah hb0.out 0);have hB0:B≤w0.heap.size:=Nat.le_trans hB t0.bel.size;have agP:=Lib.hid hv.v8;replace t0:=Lib.hid t0;replace PN:=Lib.hid PN;replace Rq:=Lib.hid Rq;replace R4:=Lib.hid R4;clear h hI hr2 hi2 hrp hv hwt HJ UG VV hR;go_enter Tryz.func206,Tryz.ntmps206;go_upto_region 1 with fail
 rw [← YG,← hw0];have ae3:b0<w0.heap.size:=hf0.out.2.1;have hcc:=Yc.out;clear hw0 YG
 go_upto_block 1 with fail
 clear hcc
 go_loopw [9] (fun u wr=>∃ (j:Nat) (vi' vp':Value) (css':List (List Value)),u=.int .i64 (j:Int)∧j≤L2.length∧Hid (b7 B (aR m k C R vi vp css) w0 (aR m k C ((L2.take j).foldl Il.Rw.step R) vi' vp' css') wr)∧Hid (iq wr (Fr wr B (aR m k C ((L2.take j).foldl Il.Rw.step R) vi' vp' css')) ((L2.take j).foldl Il.Rw.step R).l css')) (fun u _=>L2.length-(intOf u).toNat)
 case atStart=>exact ⟨0,vi,vp,css,rfl,by omega,Lib.hid t0.out.hp.refl,TY⟩
 case round =>
  obtain ⟨j,vi',vp',css',rfl,hj,hT,X9⟩:=hrel;have hbz:=hT.out.bel.size;have wF:B≤wr.heap.size:=Nat.le_trans hB0 hbz
  by_cases hlt:j<L2.length
  ·obtain ⟨hbp,hbl⟩:=Y7.out j hj
   have ZJ:=hT.out.gY PN.out;have hij:=hT.out.kids Rq.out;obtain ⟨cs,i1,i2⟩:=PV hij hlt;obtain ⟨b,ofs,rfl,GG,hcell⟩:=ZJ.2 (by omega);have hstep:(L2.take (j+1)).foldl Il.Rw.step R=((L2.take j).foldl Il.Rw.step R).step L2[j]:=by
    rw [List.take_succ_eq_append_getElem hlt,List.foldl_append];rfl
   have Xu:=fun t d ks (e:L2[j]=.mk 0 t d ks)=>hv8.out t d ks (e▸List.getElem_mem hlt);have hxl:=fun t d ks (e:L2[j]=.mk 0 t d ks)=>WZ.out t d ks j hlt e;generalize L2[j]=x at i1 hstep Xu hxl;obtain ⟨kd,tx,de,ks⟩:=x;obtain ⟨A3,c3,css3,rfl,hc3,hr3,hi3⟩:=Lp i1;have x0:=hcell _ _ (i2 0 (by omega));have x1:=hcell _ _ (i2 1 (by omega));have x2:=hcell _ _ (i2 2 (by omega));have x3:=hcell _ _ (i2 3 (by omega));simp only [← Nat.add_assoc,Nat.add_zero] at x0 x1 x2 x3;have hbr:b<wr.heap.size:=GG.2.1;obtain ⟨RJ,W0⟩:∃ RJ,RJ=(L2.take j).foldl Il.Rw.step R:=⟨_,rfl⟩
   rw [← W0] at hT X9 hstep hbp hbl GG ZJ hij i1 hr3 hi3;have ta:=hT.out.hp.call (w':=wr.alloc (.cells #[.int .i64 (kd:Int),.string (bs tx),.string (bs de),.slice A3 ks.length c3] 35)) wF (aa wr _);have hxa:=Lib.hid (ta.kid i1);have hIa:=Lib.hid (ta.kids X9.out);have ku:=Lib.hid (hT.out.trans ta);have hxb:(wr.alloc (.cells #[.int .i64 (kd:Int),.string (bs tx),.string (bs de),.slice A3 ks.length c3] 35)).heap[wr.heap.size]? = some (.cells #[.int .i64 (kd:Int),.string (bs tx),.string (bs de),.slice A3 ks.length c3] 35):=heap_alloc_new wr _;have C9:(wr.alloc (.cells #[.int .i64 (kd:Int),.string (bs tx),.string (bs de),.slice A3 ks.length c3] 35)).heap.size=wr.heap.size+1:=by simp
   replace hstep:=Lib.hid hstep;replace Xu:=Lib.hid Xu;replace hxl:=Lib.hid hxl;replace W0:=Lib.hid W0;clear ZJ hij hcell i1 i2 hr3 hi3 GG ta hT X9;go_upto_region 4 with fail
   obtain ⟨wa,zV⟩:∃ wa,wa=wr.alloc (.cells #[.int .i64 (kd:Int),.string (bs tx),.string (bs de),.slice A3 ks.length c3] 35):=⟨_,rfl⟩
   obtain ⟨bx,tv⟩:∃ bx,bx=wr.heap.size:=⟨_,rfl⟩
   rw [← zV] at hxa hIa ku hxb C9 ⊢;rw [← tv] at hxb C9 ⊢;have y0:=ah hxb 0;have y1:=ah hxb 1;have y2:=ah hxb 2;have y3:=ah hxb 3;simp only [List.getElem?_toArray,List.getElem?_cons_zero,List.getElem?_cons_succ] at y0 y1 y2 y3;have OQ:bx<wa.heap.size:=by omega
   have hBa:B≤wa.heap.size:=by omega
   clear zV hxb x0 x1 x2 x3 C9 tv
   by_cases hk0:kd=0
   ·have tk:((kd:Int)==0)=true:=by simp [hk0]
    have h8:=Xu.out tx de ks (by rw [hk0]);have hl8:=hxl.out tx de ks (by rw [hk0]);have hend:Hid ((L2.take (j+1)).foldl Il.Rw.step R=RJ.say tx):=Lib.hid (by rw [hstep.out,hk0];rfl);have aH:=Lib.hid (zu hk hC ku.out.hp hBa tx (by omega));rw [Il.EA h8] at aH;clear h8 hk0;go_upto_region 5 with fail
    go_wp2_with fail;refine aH.out.mono ?_;rintro e w3 ⟨rfl,vp3,ia⟩;have qZ:=Lib.hid (ia.kids hIa.out);replace ia:=Lib.hid (ku.out.trans ia);go_wp2_with fail
    go_roundw
    case rel=>exact ⟨j+1,vi',vp3,css',by go_num,by omega,by rw [hend.out];exact ia,by rw [hend.out];exact qZ⟩
    case measure=>simp [intOf];omega
   ·have tk:((kd:Int)==0)=false:=by simp;omega
    have hend:Hid ((L2.take (j+1)).foldl Il.Rw.step R=RJ.put (.mk kd tx de ks)):=Lib.hid (by rw [hstep.out,Il.Rw.uz RJ hk0]);have aH:=Lib.hid (yT hk hC ku.out.hp hIa.out hBa (by omega) (by omega) kd tx de ks A3 c3 hxa.out);clear hk0;go_upto_region 6 with fail
    go_wp2_with fail;refine aH.out.mono ?_;rintro e w3 ⟨rfl,vi3,vp3,css4,ia,qZ⟩;replace qZ:=Lib.hid qZ;replace ia:=Lib.hid (ku.out.trans ia);go_wp2_with fail
    go_roundw
    case rel=>exact ⟨j+1,vi3,vp3,css4,by go_num,by omega,by rw [hend.out];exact ia,by rw [hend.out];exact qZ⟩
    case measure=>simp [intOf];omega
  ·have hjl:j=L2.length:=by omega
   subst hjl;obtain ⟨hbp,hbl⟩:=Y7.out _ hj;rw [List.take_length] at hT X9 hbp hbl;obtain ⟨RJ,W0⟩:∃ RJ,RJ=L2.foldl Il.Rw.step R:=⟨_,rfl⟩
   have hend:Hid (R.join ⟨L2,P2⟩=RJ.say P2):=Lib.hid (by rw [W0];rfl);rw [← W0] at hT X9 hbp hbl;replace W0:=Lib.hid W0;obtain ⟨c0,c1,cf,hBg,JZ,oi,op,nei,nep⟩:=eT hk hC hT.out.hp;obtain ⟨hbk,hfk⟩:=hT.out.fre _ hf0.out;have hbk2:=hbk.trans hb0.out;have hrow:=FL (hT.out.gY R4.out) (fun b hb=>hb.2.1);obtain ⟨A4,c4,rfl,hc4⟩:=ak op;have hS:(fun u:World=>u.heap[b0]? = some (.cells #[.slice A2 L2.length c2,.slice Ap P2.length cp] 216)) wr.drew:=hbk2;have ht0:Hid (b7 B (aR m k C R vi vp css) w0 (aR m k C RJ vi' (.slice A4 RJ.p.length c4) css') wr):=hT;have hgb:g≠b0:=fun e=>hfk.2.2 _ _ (mV hk) (by rw [hC.block,e]);clear Y7 WZ hwd hv8 TY Yc PN Rq R4 hbk;go_upto_region 8 with fail
   refine aF (.rd 0 (.rd 1 (.rd 2 (.rd 3 (.rd 5 (.rd 6 (.mk 4 (.mk 7 (.rd 8 (.rd 9 (.mk 10 .fin))))))))))) (fun u:World=>u.heap[b0]? = some (.cells #[.slice A2 L2.length c2,.slice Ap P2.length cp] 216)) hS (by kernel_rfl) (by kernel_rfl) (by kernel_rfl) (fun _ _ d _ _ h=>by cases d<;>exact h) ?_
   iterate 5 (first | refine an rfl ?_ | (refine az rfl ?_;intro K hK;go_simp;refine hK _ _ _ ?_;clear hK K))
   refine aJ (.slice Ap P2.length cp) rfl rfl hS (fun u hu=>by
    have h1:=ah (j:=1) hu;go_simp) ?_
   refine aE rfl ?_;intro K hK;go_simp;refine ⟨_,hS,fun _ h=>h,hK _ _ _ ?_⟩;clear hK K;refine mP rfl rfl (.tmp 28) (.tmp 30) rfl nG (v:=.slice A4 RJ.p.length c4) rfl op.drew rfl hrow (F4 P2) (by omega) (by omega) wF ?_;intro v' w' ho hg hb hat;have hgr:=grown_drew hg.out;obtain ⟨A5,c5,rfl,hc5⟩:=ak ho;obtain ⟨d0,d1,df,dz⟩:=jI hk hC hT.out.hp hgr nep;have aer:(Value.slice A4 RJ.p.length c4).ownBlock≠some b0:=hfk.2.2 _ _ xF;have fG:(fun u:World=>u.heap[b0]? = some (.cells #[.slice A2 L2.length c2,.slice Ap P2.length cp] 216)) w':=(hgr.block _ hfk.2.1 (fun e=>aer e.symm)).trans hbk2;refine ⟨_,fG,fun _ h=>h,?_⟩;have hlp:(RJ.say P2).p.length=RJ.p.length+P2.length:=by simp [Il.Rw.say]
   have t3:=zx hk hC hT.out.hp wF (R':=RJ.say P2) rfl hgr (by rw [hlp];simpa [Il.Rw.say,ai] using ho) hat.out;have qZ:=Lib.hid (t3.kids X9.out);replace t3:=Lib.hid (t0.out.trans (ht0.out.trans t3));have Af:(fun u:World=>u.heap[b0]? = some (.cells #[.slice A2 L2.length c2,.slice Ap P2.length cp] 216)) (w'.setCell ⟨g,o+1,none⟩ (.slice A5 (RJ.p.length+P2.length) c5)):=(Below.heap_setCell _ _ _ _ (fun e=>hgb e.symm)).trans fG
   iterate 2 (first | refine an rfl ?_ | (refine az rfl ?_;intro K hK;go_simp;refine hK _ _ _ ?_;clear hK K))
   refine bw rfl rfl (eX rfl (by kernel_rfl) rfl rfl d1 df) Af ?_;refine aQ ?_;clear fG Af ho hg hb hat hT ht0 X9;go_wp2_with fail;go_returns;rw [hend.out];exact ⟨rfl,vi',_,css',t3.out,qZ.out⟩
end
end Go.Proofs.YtddkjkockbcamaaGreatDoor
namespace Go.Proofs.YtddkjkockbcamaaGreatDoor
open Go.RowKit
theorem EL (s:Nat) (hs:s≤1000) (w:World):Calls Tryz.prog 204 #[.int .i64 (s:Int)] w fun e w'=>e=.returned (.int .i64 (Il.kd s:Nat))∧w'=w:=by
 by_cases h:s=2
 ·subst h
  go_enter Tryz.func204,Tryz.ntmps204;go_wp2_with fail;go_ret;exact ⟨rfl,rfl⟩
 ·have h2:((s:Int)==2)=false:=by simp;omega
  have h3:Hid (Il.kd s=2):=Lib.hid (by unfold Il.kd;rw [if_neg h]);clear h;go_enter Tryz.func204,Tryz.ntmps204;go_wp2_with fail;go_ret;rw [h3.out];exact ⟨rfl,rfl⟩
theorem Rb (g n c hi:Nat) {v:Int}(hv:v=(hi:Int)) (h2:hi≤c) (w:World) :
  (Instr.slice 218 (.slice (some ⟨g,0,none⟩) n c) none (some (.int .i64 v)) none).run Tryz.prog w=.ok (.slice (some ⟨g,0,none⟩) hi c) w :=
 zF (by kernel_rfl) 2 (fun w=>by kernel_rfl) g n c hi hv h2 w
section
variable {m:Ky→Option Pa}{a b c:Nat}{v:Value}{V:List V3}{w:World}{B:Nat}
theorem OO (hA:YA a b c) (N:List Il.Rw) (R K:Il.Rw) (h:RS w B m a b c v (N++[R]++[K]) V) (hB:B≤w.heap.size) (kd:Nat) (hN:N.length≤1000000000) (hR:R.wt≤1000000000) (hK:K.wt≤1000000000) :
  Calls Tryz.prog 203 #[v,.int .i64 (kd:Int)] w fun e w'=>∃ v',e=.returned v'∧∃ V',RS w' B m a b c v' (N++[R.put (.mk kd [] [] K.full)]) V'∧b7 B (aA m a b c v (N++[R]++[K]) V) w (aA m a b c v' (N++[R.put (.mk kd [] [] K.full)]) V') w':=by
 obtain ⟨n,hn⟩:∃ n,n=N.length+1:=⟨_,rfl⟩
 have hlen:(N++[R]++[K]).length=n+1:=by simp [hn]
 obtain ⟨g,cp,rfl,XL,hBg,JZ⟩:=h.slice (by omega);rw [hlen] at XL;have hKi:(N++[R]++[K])[n]? = some K:=by rw [List.getElem?_append_right (by simp [hn])];simp [hn]
 obtain ⟨x1,y1,z1,e1,q1,i1⟩:=h.look hA hKi;have hc1:=h.cn (i:=n) rfl (by omega);have hKw:K.p.length≤1000000000∧K.l.length≤1000000000:=by unfold Il.Rw.wt at hK;omega
 have hall:=Lib.hid (lB (fh hA n) hc1 q1 i1 hB (by omega) (by omega));have hturn:=Lib.hid (fun (w':World) R' x y z t hI=>h.turned (w':=w') (R':=R') (x:=x) (y:=y) (z:=z) hA hKi e1 t hI);have cz:=fun w=>iz g (n+1) cp (by omega) (by omega) w;have Te:=fun w=>iz g n cp (by omega) (by omega) w;have uR:(n+1-1)*2=n*2:=by omega
 rw [uR] at cz;obtain ⟨n2,hn2⟩:∃ n2,n2=(n-1)*2:=⟨_,rfl⟩
 have ad8:=Lib.hid hn2;rw [← hn2] at Te;clear hn2;have hcut:=fun w=>Rb g (n+1) cp n (v:=(n:Int)) rfl (by omega) w;rw [hlen];have hsub:((n+1:Nat):Int)-1=(n:Int):=by omega
 have VY:bs []=⟨#[]⟩:=rfl;have hnb:n≤1000000001:=by omega
 replace hn:=Lib.hid hn;replace hlen:=Lib.hid hlen;replace hKi:=Lib.hid hKi;clear e1 q1 i1 hc1 h;go_enter Tryz.func203,Tryz.ntmps203;go_wp2_with fail;refine (cz _).mono ?_;rintro e w0 ⟨rfl,rfl⟩;go_wp2_with fail;refine hall.out.mono ?_;rintro e w1 ⟨vi1,rfl,vp1,css1,t1,J3⟩;obtain ⟨h1,T1⟩:=hturn.out _ _ _ _ _ t1 J3;have hB1:=Nat.le_trans hB T1.bel.size;obtain ⟨A1,cA,rfl,hcA⟩:=ak (t1.hp.holds _ _ (iB (fh hA n)):w1.ownsRow B 35 4 vi1 K.full.length css1.flatten);have LR:((N++[R]++[K]).set n ⟨K.full,[]⟩).length=n+1:=by rw [List.length_set,hlen.out]
 obtain ⟨h2,T2,hk2⟩:=h1.pop hA hB1 (n:=n) LR (by rw [hlen.out]);have hV1:=h1.len;have hk3:=hk2 (by omega) (by omega) A1 cA (by rw [List.getElem_set_self,List.getElem_set_self]);simp only [List.getElem_set_self] at hk3;have htk:((N++[R]++[K]).set n ⟨K.full,[]⟩).take n=N++[R]:=by
  rw [List.take_set_of_le (Nat.le_refl n),List.take_left' (by simp [hn.out])]
 rw [htk] at h2 T2 hk3;obtain ⟨V2,hV2⟩:∃ V2,V2=(V.set n (.slice A1 K.full.length cA,vp1,css1)).take n:=⟨_,rfl⟩
 rw [← hV2] at h2 T2 hk3;have T12:=Lib.hid (T1.trans T2);have hRi:(N++[R])[n-1]? = some R:=by simp [hn.out]
 have Ye:(N++[R]).length=n:=by simp [hn.out]
 obtain ⟨x3,y3,z3,e3,q3,i3⟩:=h2.look hA hRi;have hc3:=h2.cn (i:=n-1) (cp:=cp) (g:=g) (by rw [Ye]) (by have:=hn.out;omega);have hRw:R.p.length≤1000000000∧R.l.length≤1000000000:=by unfold Il.Rw.wt at hR;omega
 have hx3:IC w1 (Fr w1 B (aR (aA m a b c (.slice (some ⟨g,0,none⟩) n cp) (N++[R]) V2) (n8 a b c (n-1)) (D6 (.slice (some ⟨g,0,none⟩) n cp) (N++[R]).length V2 (n-1)) R x3 y3 z3)) (.mk kd [] [] K.full) [.int .i64 (kd:Int),.string (bs []),.string (bs []),.slice A1 K.full.length cA]:=by
  rw [e3];unfold IC;exact ⟨A1,cA,css1,rfl,hcA,hk3.1,hk3.2⟩
 have hput:=Lib.hid (yT (fh hA (n-1)) hc3 q3 i3 hB1 (by omega) (by omega) kd [] [] K.full A1 cA hx3);have Qt:=Lib.hid (fun (w':World) R' x y z t hI=>h2.turned (w':=w') (R':=R') (x:=x) (y:=y) (z:=z) hA hRi e3 t hI);have hset:Hid ((N++[R]).set (n-1) (R.put (.mk kd [] [] K.full))=N++[R.put (.mk kd [] [] K.full)]):=Lib.hid (by
  have:n-1=N.length:=by have:=hn.out;omega
  rw [this];simp)
 replace Ye:=Lib.hid Ye;rw [VY,← ad8.out] at hput;clear hx3 e3 q3 i3 hc3 hk3 hk2 h2 T2 h1 T1 t1 J3 hall hturn hV2 hRi htk LR hV1;go_wp2_with fail;refine (Te _).mono ?_;rintro e w2 ⟨rfl,rfl⟩;go_wp2_with fail;refine hput.out.mono ?_;rintro e w3 ⟨rfl,vi4,vp4,css4,t4,Z1⟩;obtain ⟨h5,T5⟩:=Qt.out _ _ _ _ _ t4 Z1;rw [hset.out] at h5 T5;have T6:=Lib.hid (T12.out.trans T5);rw [hlen.out] at T6;replace h5:=Lib.hid h5;clear t4 Z1 T5 Qt;go_wp2_with fail;go_ret;exact ⟨_,rfl,_,h5.out,T6.out⟩
end
end Go.Proofs.YtddkjkockbcamaaGreatDoor
namespace Go.Proofs.YtddkjkockbcamaaGreatDoor
open Go.RowKit
attribute [local go_sem] aD av aq
theorem gX {P:Program}{ev:Operand→Value}{T:TypeId}{p x:Operand}{o:Oper}{w:World}{g off:Nat}{k:IntKind}{y:Int}{z0:Value}(ho:o.op=.store T p x) (hsz:(sizeOf T).run P w=.ok 1 w) (hp:ev p=.pointer (some ⟨g,off,none⟩)) (hx:ev x=.int k y)
  (h0:w.cell? ⟨g,off,none⟩=some z0) (hf:∀ j,w.frozen? ⟨g,j,none⟩=false) :
  (execOp ev o).run P w=.ok .skip (w.setCell ⟨g,off,none⟩ (.int k y)):=by
 unfold execOp;rw [ho];go_simp
structure Tw (w:World) (B g1 g2 n:Nat) (O L:List Nat):Prop where
 o:w.ownsRow B 3 1 (.slice (some ⟨g1,0,none⟩) n n) n (aC O)
 l:w.ownsRow B 3 1 (.slice (some ⟨g2,0,none⟩) n n) n (aC L)
 ne:g1≠g2
 ol:O.length=n
 ll:L.length=n
section
variable {w w':World}{B g1 g2 n:Nat}{O L:List Nat}
theorem Tw.ext (h:Tw w B g1 g2 n O L) (hb:Below w.heap.size w w'):Tw w' B g1 g2 n O L:=⟨bX h.o hb,bX h.l hb,h.ne,h.ol,h.ll⟩
theorem Ss (L:List Nat) (i x:Nat):(aC L).set i (.int .i64 (x:Int))=aC (L.set i x):=by simp [aC,List.map_set]
theorem Tw.Kq (h:Tw w B g1 g2 n O L) (i y:Nat):Tw (w.setCell ⟨g1,i,none⟩ (.int .i64 (y:Int))) B g1 g2 n (O.set i y) L :=
 ⟨by rw [← Ss];exact (World.ownsRow.stored h.o i _).1,World.ownsRow.kept h.l (ay w ⟨g1,i,none⟩ _) (.inr (fun e=>h.ne (Option.some.inj e).symm)),h.ne,by rw [List.length_set];exact h.ol,h.ll⟩
theorem Tw.zC (h:Tw w B g1 g2 n O L) (i y:Nat):Tw (w.setCell ⟨g2,i,none⟩ (.int .i64 (y:Int))) B g1 g2 n O (L.set i y) :=
 ⟨World.ownsRow.kept h.o (ay w ⟨g2,i,none⟩ _) (.inr (fun e=>h.ne (Option.some.inj e))),by rw [← Ss];exact (World.ownsRow.stored h.l i _).1,h.ne,h.ol,by rw [List.length_set];exact h.ll⟩
theorem Tw.at1 (h:Tw w B g1 g2 n O L) {i:Nat}(hi:i<n):w.cell? ⟨g1,i,none⟩=some (.int .i64 ((O[i]'(by rw [h.ol];exact hi):Nat):Int)) :=
 aN h.o (by rw [aC,List.getElem?_map,List.getElem?_eq_getElem (by rw [h.ol];exact hi)];rfl)
theorem Tw.at2 (h:Tw w B g1 g2 n O L) {i:Nat}(hi:i<n):w.cell? ⟨g2,i,none⟩=some (.int .i64 ((L[i]'(by rw [h.ll];exact hi):Nat):Int)) :=
 aN h.l (by rw [aC,List.getElem?_map,List.getElem?_eq_getElem (by rw [h.ll];exact hi)];rfl)
theorem Tw.ZY (h:Tw w B g1 g2 n O L):B≤g1∧g1<w.heap.size:=World.ownsRow.lt h.o g1 rfl
theorem Tw.TU (h:Tw w B g1 g2 n O L):B≤g2∧g2<w.heap.size:=World.ownsRow.lt h.l g2 rfl
theorem Tw.fz1 (h:Tw w B g1 g2 n O L) (j:Nat):w.frozen? ⟨g1,j,none⟩=false:=World.ownsRow.frozenAt h.o j
theorem Tw.Z7 (h:Tw w B g1 g2 n O L) (j:Nat):w.frozen? ⟨g2,j,none⟩=false:=World.ownsRow.frozenAt h.l j
end
theorem KI:EI Tryz.prog 23 3 1 8:=EI.mk' (z:=.int .i64 0) Tryz.underlying23 (by kernel_rfl) rfl (by omega)
theorem wW (n:Nat):(madeCells #[Value.int .i64 0] (n*1)).toList=aC (List.replicate n 0):=by
 apply List.ext_getElem?;intro i
 by_cases h:i<n
 ·simp [madeCells,aC,h,Nat.mod_one]
 ·simp [madeCells,aC,h]
theorem GU (X:List (Nat×Nat×Nat)) (x:Nat×Nat×Nat) (r:Nat):Il.opn (X++[x]) r=Il.opn X r+if x.1=r then 1 else 0:=by
 unfold Il.opn;rw [List.countP_append];simp [List.countP_cons]
theorem G4 (runs:List Em.R) (X:List (Nat×Nat×Nat)) (A:Option Addr) (c:Nat) (A2:Option Addr) (c2:Nat) (w:World) (hR:Row w w.heap.size 4 A runs.length (aG runs)) (hX:Row w w.heap.size 3 A2 X.length (iE X))
  (hn:runs.length≤4000000) (Yu:X.length≤400000000) (hin:∀ x∈X,x.1<runs.length∧x.2.1<runs.length∧x.1≠x.2.1∧x.2.2≤2) (hpos:∀ r∈runs,0≤r.n∧r.n≤1000000000) (nL:∀ i,i<runs.length→Em.used X i≤Il.cnt runs i) :
  Calls Tryz.prog 202 #[.slice A runs.length c,.slice A2 X.length c2] w fun e w'=>∃ g1 g2 O L,e=.returned (.tuple #[.slice (some ⟨g1,0,none⟩) runs.length runs.length,.slice (some ⟨g2,0,none⟩) runs.length runs.length])∧Tw w' w.heap.size g1 g2 runs.length O L∧(∀ i (h:i<O.length),O[i]=Il.opn X i)∧(∀ i (h:i<L.length),L[i]=Il.cnt runs i-Em.used X i)∧Below w.heap.size w w':=by
 obtain ⟨n,hnn⟩:∃ n,n=runs.length:=⟨_,rfl⟩
 rw [← hnn] at hR hn hin nL ⊢;have hmk:=fun w=>run_mk (P:=Tryz.prog) KI (z:=.int .i64 0) (by kernel_rfl) n (by omega) (by omega) w;obtain ⟨cs,hcs⟩:∃ cs:Nat→Nat,cs=Il.cnt runs:=⟨_,rfl⟩
 rw [← hcs] at nL ⊢;have hcb:=Lib.hid (fun i=>(show cs i≤1000000000 from by rw [hcs];exact Il.Zx hpos i));replace hcs:=Lib.hid hcs;replace hR:=Lib.hid hR;replace hX:=Lib.hid hX;replace hin:=Lib.hid hin;replace nL:=Lib.hid nL;replace hpos:=Lib.hid hpos;replace hnn:=Lib.hid hnn;go_enter Tryz.func202,Tryz.ntmps202;go_upto_region 1 with fail
 refine aF (.rd 0 (.rd 1 (.rd 3 (.rd 4 (.fk 2 (.rd 6 (.mk 5 (.rd 7 .fin))) 5 (.mk 2 (.rd 6 (.rd 7 .fin)))))))) (fun _=>True) trivial (by kernel_rfl) (by kernel_rfl) (by kernel_rfl) (fun _ _ d _ _ h=>by cases d<;>exact h) ?_
 iterate 4 (first | refine an rfl ?_ | (refine az rfl ?_;intro K hK;go_simp;refine hK _ _ _ ?_;clear hK K))
 refine jh ?wa ?wb
 case' wa =>
  refine aE rfl ?_;intro K hK;go_simp;refine ⟨fun _=>True,trivial,hK _ _ _ ?_⟩;clear hK K
  (first | refine an rfl ?_ | (refine az rfl ?_;intro K hK;go_simp;refine hK _ _ _ ?_;clear hK K))
  refine aE rfl ?_;intro K hK;go_simp;refine ⟨fun _=>True,trivial,hK _ _ _ ?_⟩;clear hK K
  (first | refine an rfl ?_ | (refine az rfl ?_;intro K hK;go_simp;refine hK _ _ _ ?_;clear hK K))
  refine aQ ?_;obtain ⟨W,hW⟩:∃ W,W=((w.alloc (.cells (madeCells #[.int .i64 0] n) 3)).alloc (.cells (madeCells #[.int .i64 0] n) 3)).drew:=⟨_,rfl⟩
  have hb0:Below w.heap.size w W:=by rw [hW];exact below_drewN (((Below.refl _ w).alloc (Nat.le_refl _) _).alloc (by simp) _) 1
  have ho1:W.ownsRow w.heap.size 3 1 (.slice (some ⟨w.heap.size,0,none⟩) n n) n (aC (List.replicate n 0)):=by
   rw [hW,← wW n];have:=dI w w.heap.size 1 n 3 #[.int .i64 0] (Nat.le_refl _) (by omega);rw [Nat.mul_one] at this ⊢;exact (this.alloc _).drew
  have ho2:W.ownsRow w.heap.size 3 1 (.slice (some ⟨w.heap.size+1,0,none⟩) n n) n (aC (List.replicate n 0)):=by
   rw [hW,← wW n];have:=dI (w.alloc (.cells (madeCells #[.int .i64 0] n) 3)) w.heap.size 1 n 3 #[.int .i64 0] (by simp) (by omega);rw [Nat.mul_one] at this ⊢;have e:(w.alloc (.cells (madeCells #[.int .i64 0] n) 3)).heap.size=w.heap.size+1:=by simp
   rw [e] at this;exact this.drew
  rw [← hW];clear hW;have Si:Tw W w.heap.size (w.heap.size) (w.heap.size+1) n (List.replicate n 0) (List.replicate n 0):=⟨ho1,ho2,by omega,by simp,by simp⟩
  clear ho1 ho2;obtain ⟨g1,hg1⟩:∃ g,g=w.heap.size:=⟨_,rfl⟩
  obtain ⟨g2,hg2⟩:∃ g,g=w.heap.size+1:=⟨_,rfl⟩
  have EG:Tw W w.heap.size g1 g2 n (List.replicate n 0) (List.replicate n 0):=by rw [hg1,hg2];exact Si
  rw [← hg2,← hg1];clear Si hg1 hg2;replace EG:=Lib.hid EG;replace hb0:=Lib.hid hb0;clear hmk
  go_upto_block 1 with fail
  go_loopw [18] (fun u wr=>∃ (j:Nat) (L:List Nat),u=.int .i64 (j:Int)∧j≤n∧Hid (Tw wr w.heap.size g1 g2 n (List.replicate n 0) L)∧Hid (∀ i (h:i<L.length),L[i]=if i<j then cs i else 0)∧Hid (Below w.heap.size w wr)) (fun u _=>n-(intOf u).toNat)
  case atStart=>exact ⟨0,List.replicate n 0,rfl,by omega,EG,Lib.hid (by intro i h;simp),hb0⟩
  case round =>
   obtain ⟨j,L,rfl,hj,hT,hL,hb⟩:=hrel;have hbz:=hb.out.size
   by_cases hlt:j<n
   ·obtain ⟨b,o,rfl,hbl,hcell⟩:=hR.out.2 (by omega)
    have O0:j<runs.length:=by rw [← hnn.out];exact hlt
    have hat:=fun i (hi:i<4)=>iM (f:=kK) (m:=4) (fun _=>rfl) runs j i O0 hi;have Pd:cs j=(runs[j].n).toNat:=by rw [hcs.out];unfold Il.cnt;rw [Em.get_at O0]
    have hp0:=hpos.out _ (List.getElem_mem O0);generalize runs[j]=r at hat Pd hp0;have x0:=(hb.out.cell (p:=⟨b,o+(j*4+0),none⟩) hbl).trans (hcell _ _ (hat 0 (by omega)));have x1:=(hb.out.cell (p:=⟨b,o+(j*4+1),none⟩) hbl).trans (hcell _ _ (hat 1 (by omega)));have x2:=(hb.out.cell (p:=⟨b,o+(j*4+2),none⟩) hbl).trans (hcell _ _ (hat 2 (by omega)));have x3:=(hb.out.cell (p:=⟨b,o+(j*4+3),none⟩) hbl).trans (hcell _ _ (hat 3 (by omega)));simp only [← Nat.add_assoc,Nat.add_zero] at x0 x1 x2 x3;have hbr:b<wr.heap.size:=Nat.lt_of_lt_of_le hbl hbz;have rH:r.n=((cs j:Nat):Int):=by rw [Pd];omega
    rw [rH] at x1;obtain ⟨ch,rn,ro,rc⟩:=r;simp only at rH;subst rH;clear hcell hat Pd hp0;obtain ⟨y,hy⟩:∃ y,y=cs j:=⟨_,rfl⟩
    rw [← hy] at x1;replace hy:=Lib.hid hy;have ku:=Lib.hid (hT.out.ext (aa wr (.cells #[.int .u8 (ch.toNat:Int),.int .i64 (y:Int),.bool ro,.bool rc] 240)));have hxb:(wr.alloc (.cells #[.int .u8 (ch.toNat:Int),.int .i64 (y:Int),.bool ro,.bool rc] 240)).heap[wr.heap.size]? = some (.cells #[.int .u8 (ch.toNat:Int),.int .i64 (y:Int),.bool ro,.bool rc] 240):=heap_alloc_new wr _;have hba:=Lib.hid (hb.out.alloc hbz (.cells #[.int .u8 (ch.toNat:Int),.int .i64 (y:Int),.bool ro,.bool rc] 240));have C9:(wr.alloc (.cells #[.int .u8 (ch.toNat:Int),.int .i64 (y:Int),.bool ro,.bool rc] 240)).heap.size=wr.heap.size+1:=by simp
    go_upto_region 5 with fail
    obtain ⟨wa,zV⟩:∃ wa,wa=wr.alloc (.cells #[.int .u8 (ch.toNat:Int),.int .i64 (y:Int),.bool ro,.bool rc] 240):=⟨_,rfl⟩
    obtain ⟨bx,tv⟩:∃ bx,bx=wr.heap.size:=⟨_,rfl⟩
    rw [← zV] at ku hxb hba C9 ⊢;rw [← tv] at hxb C9 ⊢;have y1:=ah hxb 1;simp only [List.getElem?_toArray,List.getElem?_cons_zero,List.getElem?_cons_succ] at y1;have OQ:bx<wa.heap.size:=by omega
    have q2:=ku.out.at2 hlt;have q3:=ku.out.Z7;have q4:=ku.out.TU.2;have hls:L.length=n:=hT.out.ll;have hTs:=Lib.hid (ku.out.zC j y);have VY:=Lib.hid (hba.out.setCell (p:=⟨g2,j,none⟩) ku.out.TU.1 (.int .i64 (y:Int)));have hLs:Hid (∀ i (h:i<(L.set j y).length),(L.set j y)[i]=if i<j+1 then cs i else 0):=Lib.hid (fun i h=>by
     by_cases hij:j=i
     ·subst hij;rw [List.getElem_set_self,if_pos (by omega)];exact hy.out
     ·rw [List.getElem_set_ne hij,hL.out i (by rw [List.length_set] at h;exact h)]
      by_cases h1:i<j
      ·rw [if_pos h1,if_pos (by omega)]
      ·rw [if_neg h1,if_neg (by omega)])
    generalize (L[j]'(by omega):Nat)=old at q2;replace hls:=Lib.hid hls;clear zV hxb x0 x1 x2 x3 C9 tv hT hb ku hba hL;go_wp2_with fail
    go_roundw
    case rel=>exact ⟨j+1,L.set j y,by go_num,by omega,hTs,hLs,VY⟩
    case measure=>simp [intOf];omega
   ·have hjn:j=n:=by omega
    subst hjn;have hL2:Hid (∀ i (h:i<L.length),L[i]=cs i):=Lib.hid (fun i h=>by rw [hL.out i h,if_pos (by have:=hT.out.ll;omega)]);clear hL EG hb0;go_wp2_with fail
    go_loopw [31] (fun u wr=>∃ (k:Nat) (O L:List Nat),u=.int .i64 (k:Int)∧k≤X.length∧Hid (Tw wr w.heap.size g1 g2 j O L)∧Hid (∀ i (h:i<O.length),O[i]=Il.opn (X.take k) i)∧Hid (∀ i (h:i<L.length),L[i]=cs i-Em.used (X.take k) i)∧Hid (Below w.heap.size w wr)) (fun u _=>X.length-(intOf u).toNat)
    case atStart=>exact ⟨0,List.replicate j 0,L,rfl,by omega,hT,Lib.hid (by intro i h;simp [Il.opn]),Lib.hid (by intro i h;rw [hL2.out i h];simp [Em.used]),hb⟩
    case round =>
     clear hT hL2 hb;obtain ⟨k,O,L2,rfl,hk,hT,hO,hL,hb⟩:=hrel;have hbz:=hb.out.size
     by_cases hlt:k<X.length
     ·obtain ⟨b,o,rfl,hbl,hcell⟩:=hX.out.2 (by omega)
      have hat:=fun i (hi:i<3)=>iM (f:=xh) (m:=3) (fun _=>rfl) X k i hlt hi;have J8:=hin.out _ (List.getElem_mem hlt);have htk:X.take (k+1)=X.take k++[X[k]]:=List.take_succ_eq_append_getElem hlt;have Zs:∀ i,Em.used (X.take (k+1)) i≤Em.used X i:=fun i=>Il.pJ X (k+1) i;generalize X[k]=x at hat J8 htk;obtain ⟨pa,pb,ps⟩:=x;simp only at J8;obtain ⟨ha,kr,hab,hs2⟩:=J8;have x0:=(hb.out.cell (p:=⟨b,o+(k*3+0),none⟩) hbl).trans (hcell _ _ (hat 0 (by omega)));have x1:=(hb.out.cell (p:=⟨b,o+(k*3+1),none⟩) hbl).trans (hcell _ _ (hat 1 (by omega)));have x2:=(hb.out.cell (p:=⟨b,o+(k*3+2),none⟩) hbl).trans (hcell _ _ (hat 2 (by omega)));simp only [← Nat.add_assoc,Nat.add_zero] at x0 x1 x2;have hbr:b<wr.heap.size:=Nat.lt_of_lt_of_le hbl hbz;have U6:∀ i,Em.used (X.take (k+1)) i=Em.used (X.take k) i+((if pa=i then ps else 0)+if pb=i then ps else 0):=fun i=>by rw [htk,Em.jM]
      have hoa:∀ i,Il.opn (X.take (k+1)) i=Il.opn (X.take k) i+if pa=i then 1 else 0:=fun i=>by rw [htk,GU]
      have Rr:∀ i,Il.opn (X.take k) i≤X.length:=fun i=>Nat.le_trans (by unfold Il.opn;exact List.countP_le_length) (by rw [List.length_take];omega);have XI:=hO.out pa (by rw [hT.out.ol];exact ha);have Zn:=hL.out pa (by rw [hT.out.ll];exact ha);have Zt:=hL.out pb (by rw [hT.out.ll];exact kr);have hca:=hcb.out pa;have Zp:=hcb.out pb;have RI:=U6 pa;have PC:=U6 pb;rw [if_pos rfl,if_neg (fun e=>hab e.symm)] at RI;rw [if_neg hab,if_pos rfl] at PC;have Yp:=Zs pa;have XK:=Zs pb;have Y5:=nL.out pa ha;have XW:=nL.out pb kr;have ZS:=Rr pa;have ku:=hT.out.ext (aa wr (.cells #[.int .i64 (pa:Int),.int .i64 (pb:Int),.int .i64 (ps:Int)] 241));have hxb:(wr.alloc (.cells #[.int .i64 (pa:Int),.int .i64 (pb:Int),.int .i64 (ps:Int)] 241)).heap[wr.heap.size]? = some (.cells #[.int .i64 (pa:Int),.int .i64 (pb:Int),.int .i64 (ps:Int)] 241):=heap_alloc_new wr _;have hba:=Lib.hid (hb.out.alloc hbz (.cells #[.int .i64 (pa:Int),.int .i64 (pb:Int),.int .i64 (ps:Int)] 241));have C9:(wr.alloc (.cells #[.int .i64 (pa:Int),.int .i64 (pb:Int),.int .i64 (ps:Int)] 241)).heap.size=wr.heap.size+1:=by simp
      have q1:=ku.at1 ha;have q2:=ku.at2 ha;have q3:=ku.at2 kr;have hol:=hT.out.ol;have rG:=hT.out.ll;obtain ⟨va,hva⟩:∃ va,va=O[pa]'(by omega):=⟨_,rfl⟩
      obtain ⟨la,hla⟩:∃ la,la=L2[pa]'(by omega):=⟨_,rfl⟩
      obtain ⟨lb,hlb⟩:∃ lb,lb=L2[pb]'(by omega):=⟨_,rfl⟩
      rw [← hva] at q1 XI;rw [← hla] at q2 Zn;rw [← hlb] at q3 Zt;have hsa:ps≤la:=by omega
      have hsb:ps≤lb:=by omega
      have acT:va≤400000000:=by omega
      have J9:la≤1000000000:=by omega
      have ad7:lb≤1000000000:=by omega
      have VV:Hid (∀ i (h:i<(O.set pa (va+1)).length),(O.set pa (va+1))[i]=Il.opn (X.take (k+1)) i):=Lib.hid (fun i h=>by
       rw [hoa]
       by_cases hij:pa=i
       ·subst hij;rw [List.getElem_set_self,if_pos rfl,XI]
       ·rw [List.getElem_set_ne hij,if_neg hij,hO.out i (by rw [List.length_set] at h;exact h),Nat.add_zero])
      have hL3:Hid (∀ i (h:i<((L2.set pa (la-ps)).set pb (lb-ps)).length),((L2.set pa (la-ps)).set pb (lb-ps))[i]=cs i-Em.used (X.take (k+1)) i):=Lib.hid (fun i h=>by
       rw [U6]
       by_cases h1:pb=i
       ·subst h1;rw [List.getElem_set_self,if_neg hab,if_pos rfl,Zt];omega
       ·rw [List.getElem_set_ne h1,if_neg h1]
        by_cases h2:pa=i
        ·subst h2;rw [List.getElem_set_self,if_pos rfl,Zn];omega
        ·rw [List.getElem_set_ne h2,if_neg h2,hL.out i (by simpa using h)];omega)
      have adj:=hT.out.ne;have rE:=ku.Kq pa (va+1);have oV:=rE.zC pa (la-ps);have mR:=Lib.hid (oV.zC pb (lb-ps));have Jb:=Lib.hid (hba.out.setCell (p:=⟨g1,pa,none⟩) ku.ZY.1 (.int .i64 ((va+1:Nat):Int)));have C0:=Lib.hid (Jb.out.setCell (p:=⟨g2,pa,none⟩) ku.TU.1 (.int .i64 ((la-ps:Nat):Int)));have xz:=Lib.hid (C0.out.setCell (p:=⟨g2,pb,none⟩) ku.TU.1 (.int .i64 ((lb-ps:Nat):Int)));have ff1:=ku.fz1;have ff2:=rE.Z7;have ff3:=oV.Z7;have r2:=rE.at2 ha;have r3:=oV.at2 kr;rw [← hla] at r2;rw [List.getElem_set_ne hab,← hlb] at r3;have e1:((va+1:Nat):Int)=(va:Int)+1:=by omega
      have e2:((la-ps:Nat):Int)=(la:Int)-(ps:Int):=by omega
      have e3:((lb-ps:Nat):Int)=(lb:Int)-(ps:Int):=by omega
      have ad6:IntKind.i64.wrap ((la:Int)-(ps:Int))=(la:Int)-(ps:Int):=by rw [IntKind.wrap_i64];omega
      have ady:IntKind.i64.wrap ((lb:Int)-(ps:Int))=(lb:Int)-(ps:Int):=by rw [IntKind.wrap_i64];omega
      have Rh:g1≠wr.heap.size:=by have:=hT.out.ZY.2;omega
      have JE:g2≠wr.heap.size:=by have:=hT.out.TU.2;omega
      have hs1:(wr.alloc (.cells #[.int .i64 (pa:Int),.int .i64 (pb:Int),.int .i64 (ps:Int)] 241)).setCell ⟨g1,pa,none⟩ (.int .i64 ((va+1:Nat):Int))=(wr.alloc (.cells #[.int .i64 (pa:Int),.int .i64 (pb:Int),.int .i64 (ps:Int)] 241)).setCell ⟨g1,pa,none⟩ (.int .i64 ((va:Int)+1)):=by rw [e1]
      clear hcell hat htk Zs U6 hoa Rr XI Zn Zt hca Zp RI PC Yp XK Y5 XW ZS;go_upto_region 10 with fail
      obtain ⟨wa,zV⟩:∃ wa,wa=wr.alloc (.cells #[.int .i64 (pa:Int),.int .i64 (pb:Int),.int .i64 (ps:Int)] 241):=⟨_,rfl⟩
      obtain ⟨bx,tv⟩:∃ bx,bx=wr.heap.size:=⟨_,rfl⟩
      rw [← zV] at ku hxb hba C9 hs1 rE oV mR Jb C0 xz ff1 ff2 ff3 r2 r3 q1 q2 q3 ⊢;rw [← tv] at hxb C9 Rh JE ⊢;have yl:(wa.setCell ⟨g1,pa,none⟩ (.int .i64 ((va+1:Nat):Int))).heap[bx]? = some (.cells #[.int .i64 (pa:Int),.int .i64 (pb:Int),.int .i64 (ps:Int)] 241):=(Below.heap_setCell _ _ _ _ (fun e=>Rh e.symm)).trans hxb;have ri:((wa.setCell ⟨g1,pa,none⟩ (.int .i64 ((va+1:Nat):Int))).setCell ⟨g2,pa,none⟩ (.int .i64 ((la-ps:Nat):Int))).heap[bx]? = some (.cells #[.int .i64 (pa:Int),.int .i64 (pb:Int),.int .i64 (ps:Int)] 241):=(Below.heap_setCell _ _ _ _ (fun e=>JE e.symm)).trans yl;have y0:=ah hxb 0;have y1:=ah hxb 1;have y2:=ah hxb 2;simp only [List.getElem?_toArray,List.getElem?_cons_zero,List.getElem?_cons_succ] at y0 y1 y2;have OQ:bx<wa.heap.size:=by omega
      have Sr:=ku.ZY.2;have hai:(pa:Int)<(j:Int):=by omega
      have xd:(pb:Int)<(j:Int):=by omega
      replace rE:=Lib.hid rE;replace oV:=Lib.hid oV;replace e1:=Lib.hid e1;replace e2:=Lib.hid e2;replace e3:=Lib.hid e3;replace hs1:=Lib.hid hs1;replace yl:=Lib.hid yl;replace ri:=Lib.hid ri;replace r2:=Lib.hid r2;replace r3:=Lib.hid r3;replace ff2:=Lib.hid ff2;replace ff3:=Lib.hid ff3;replace hol:=Lib.hid hol;replace rG:=Lib.hid rG;clear hva hla hlb zV hxb x0 x1 x2 C9 tv hT hb ku hba hO hL;go_upto_region 11 with fail
      rw [← hs1.out];obtain ⟨w1,hw1⟩:∃ w1,w1=wa.setCell ⟨g1,pa,none⟩ (.int .i64 ((va+1:Nat):Int)):=⟨_,rfl⟩
      rw [← hw1] at rE oV mR Jb C0 xz ff2 ff3 r2 r3 yl ri ⊢;clear hs1 hw1 q1 q2 q3 ff1 y0 y1 y2 OQ Sr;have hS:(fun u:World=>u.heap[bx]? = some (.cells #[.int .i64 (pa:Int),.int .i64 (pb:Int),.int .i64 (ps:Int)] 241)) w1.drew:=yl.out;have iU:(fun u:World=>u.heap[bx]? = some (.cells #[.int .i64 (pa:Int),.int .i64 (pb:Int),.int .i64 (ps:Int)] 241)) (w1.drew.setCell ⟨g2,pa,none⟩ (.int .i64 ((la:Int)-(ps:Int)))):=by
       rw [← e2.out];exact ri.out
      refine aF (.rd 0 (.rd 1 (.rd 2 (.rd 3 (.rd 5 (.rd 6 (.mk 4 (.rd 7 (.rd 8 (.mk 9 .fin)))))))))) (fun u:World=>u.heap[bx]? = some (.cells #[.int .i64 (pa:Int),.int .i64 (pb:Int),.int .i64 (ps:Int)] 241)) hS (by kernel_rfl) (by kernel_rfl) (by kernel_rfl) (fun _ _ d _ _ h=>by cases d<;>exact h) ?_
      iterate 2 (first | refine an rfl ?_ | (refine az rfl ?_;intro K hK;go_simp;refine hK _ _ _ ?_;clear hK K))
      refine aJ (.int .i64 (pa:Int)) rfl rfl hS (fun u hu=>by
       have h1:=ah (j:=0) hu;go_simp) ?_
      iterate 2 (first | refine an rfl ?_ | (refine az rfl ?_;intro K hK;go_simp;refine hK _ _ _ ?_;clear hK K))
      refine aJ (.int .i64 (ps:Int)) rfl rfl hS (fun u hu=>by
       have h1:=ah (j:=2) hu;go_simp) ?_
      have r2':=r2.out;refine aE rfl ?_;intro K hK;go_simp;refine ⟨_,hS,fun _ h=>h,hK _ _ _ ?_⟩;clear hK K
      iterate 2 (first | refine an rfl ?_ | (refine az rfl ?_;intro K hK;go_simp;refine hK _ _ _ ?_;clear hK K))
      refine bw rfl rfl (gX rfl (by kernel_rfl) rfl rfl r2' ff2.out) iU ?_;refine aQ ?_;have hld:((la:Int)-(ps:Int))=(((la-ps:Nat):Nat):Int):=e2.out.symm;rw [hld];obtain ⟨w2,hw2⟩:∃ w2,w2=w1.setCell ⟨g2,pa,none⟩ (.int .i64 ((la-ps:Nat):Int)):=⟨_,rfl⟩
      have PR:w1.drew.setCell ⟨g2,pa,none⟩ (.int .i64 ((la-ps:Nat):Int))=w2.drew:=by rw [hw2];rfl
      rw [← hw2] at oV mR C0 xz ff3 r3 ri;rw [PR];clear hw2 PR iU r2' hld;go_upto_region 12 with fail
      have hS:(fun u:World=>u.heap[bx]? = some (.cells #[.int .i64 (pa:Int),.int .i64 (pb:Int),.int .i64 (ps:Int)] 241)) w2.drew.drew:=ri.out;have iU:(fun u:World=>u.heap[bx]? = some (.cells #[.int .i64 (pa:Int),.int .i64 (pb:Int),.int .i64 (ps:Int)] 241)) (w2.drew.drew.setCell ⟨g2,pb,none⟩ (.int .i64 ((lb:Int)-(ps:Int)))):=(Below.heap_setCell _ _ _ _ (fun e=>JE e.symm)).trans ri.out;refine aF (.rd 0 (.rd 1 (.rd 2 (.rd 3 (.rd 5 (.rd 6 (.mk 4 (.rd 7 (.rd 8 (.mk 9 .fin)))))))))) (fun u:World=>u.heap[bx]? = some (.cells #[.int .i64 (pa:Int),.int .i64 (pb:Int),.int .i64 (ps:Int)] 241)) hS (by kernel_rfl) (by kernel_rfl) (by kernel_rfl) (fun _ _ d _ _ h=>by cases d<;>exact h) ?_
      iterate 2 (first | refine an rfl ?_ | (refine az rfl ?_;intro K hK;go_simp;refine hK _ _ _ ?_;clear hK K))
      refine aJ (.int .i64 (pb:Int)) rfl rfl hS (fun u hu=>by
       have h1:=ah (j:=1) hu;go_simp) ?_
      iterate 2 (first | refine an rfl ?_ | (refine az rfl ?_;intro K hK;go_simp;refine hK _ _ _ ?_;clear hK K))
      refine aJ (.int .i64 (ps:Int)) rfl rfl hS (fun u hu=>by
       have h1:=ah (j:=2) hu;go_simp) ?_
      have r3':w2.drew.drew.cell? ⟨g2,pb,none⟩=some (.int .i64 (lb:Int)):=r3.out;have ff3':∀ j,w2.drew.drew.frozen? ⟨g2,j,none⟩=false:=ff3.out;refine aE rfl ?_;intro K hK;go_simp;refine ⟨_,hS,fun _ h=>h,hK _ _ _ ?_⟩;clear hK K
      iterate 2 (first | refine an rfl ?_ | (refine az rfl ?_;intro K hK;go_simp;refine hK _ _ _ ?_;clear hK K))
      refine bw rfl rfl (gX rfl (by kernel_rfl) rfl rfl r3' ff3') iU ?_;refine aQ ?_;rw [show ((lb:Int)-(ps:Int))=(((lb-ps:Nat):Nat):Int) from e3.out.symm];obtain ⟨w3,hw3⟩:∃ w3,w3=w2.setCell ⟨g2,pb,none⟩ (.int .i64 ((lb-ps:Nat):Int)):=⟨_,rfl⟩
      have Tj:w2.drew.drew.setCell ⟨g2,pb,none⟩ (.int .i64 ((lb-ps:Nat):Int))=w3.drew.drew:=by rw [hw3];rfl
      rw [← hw3] at mR xz;rw [Tj];clear hw3 Tj hS iU r3' ff3';have hTf:Hid (Tw w3.drew.drew w.heap.size g1 g2 j (O.set pa (va+1)) ((L2.set pa (la-ps)).set pb (lb-ps))):=Lib.hid ⟨mR.out.o.drew.drew,mR.out.l.drew.drew,mR.out.ne,mR.out.ol,mR.out.ll⟩;have qF:Hid (Below w.heap.size w w3.drew.drew):=Lib.hid (below_drewN (below_drewN xz.out 1) 1);go_wp2_with fail
      go_roundw
      case rel=>exact ⟨k+1,O.set pa (va+1),(L2.set pa (la-ps)).set pb (lb-ps),by go_num,by omega,hTf,VV,hL3,qF⟩
      case measure=>simp [intOf];omega
     ·have hkl:k=X.length:=by omega
      subst hkl;have Pp:=hO.out;have hL3:=hL.out;rw [List.take_length] at Pp hL3;replace Pp:=Lib.hid Pp;replace hL3:=Lib.hid hL3;clear hO hL;go_wp2_with fail;go_ret2;exact ⟨g1,g2,O,L2,rfl,hT.out,Pp.out,hL3.out,hb.out⟩
 case' wb =>
  refine aE rfl ?_;intro K hK;go_simp;refine ⟨fun _=>True,trivial,hK _ _ _ ?_⟩;clear hK K;refine aE rfl ?_;intro K hK;go_simp;refine ⟨fun _=>True,trivial,hK _ _ _ ?_⟩;clear hK K
  iterate 2 (first | refine an rfl ?_ | (refine az rfl ?_;intro K hK;go_simp;refine hK _ _ _ ?_;clear hK K))
  refine aQ ?_;obtain ⟨W,hW⟩:∃ W,W=((w.alloc (.cells (madeCells #[.int .i64 0] n) 3)).alloc (.cells (madeCells #[.int .i64 0] n) 3)).drew:=⟨_,rfl⟩
  have hb0:Below w.heap.size w W:=by rw [hW];exact below_drewN (((Below.refl _ w).alloc (Nat.le_refl _) _).alloc (by simp) _) 1
  have ho1:W.ownsRow w.heap.size 3 1 (.slice (some ⟨w.heap.size,0,none⟩) n n) n (aC (List.replicate n 0)):=by
   rw [hW,← wW n];have:=dI w w.heap.size 1 n 3 #[.int .i64 0] (Nat.le_refl _) (by omega);rw [Nat.mul_one] at this ⊢;exact (this.alloc _).drew
  have ho2:W.ownsRow w.heap.size 3 1 (.slice (some ⟨w.heap.size+1,0,none⟩) n n) n (aC (List.replicate n 0)):=by
   rw [hW,← wW n];have:=dI (w.alloc (.cells (madeCells #[.int .i64 0] n) 3)) w.heap.size 1 n 3 #[.int .i64 0] (by simp) (by omega);rw [Nat.mul_one] at this ⊢;have e:(w.alloc (.cells (madeCells #[.int .i64 0] n) 3)).heap.size=w.heap.size+1:=by simp
   rw [e] at this;exact this.drew
  rw [← hW];clear hW;have Si:Tw W w.heap.size (w.heap.size+1) (w.heap.size) n (List.replicate n 0) (List.replicate n 0):=⟨ho2,ho1,by omega,by simp,by simp⟩
  clear ho1 ho2;obtain ⟨g1,hg1⟩:∃ g,g=w.heap.size+1:=⟨_,rfl⟩
  obtain ⟨g2,hg2⟩:∃ g,g=w.heap.size:=⟨_,rfl⟩
  have EG:Tw W w.heap.size g1 g2 n (List.replicate n 0) (List.replicate n 0):=by rw [hg1,hg2];exact Si
  rw [← hg1,← hg2];clear Si hg1 hg2;replace EG:=Lib.hid EG;replace hb0:=Lib.hid hb0;clear hmk
  go_upto_block 1 with fail
  go_loopw [18] (fun u wr=>∃ (j:Nat) (L:List Nat),u=.int .i64 (j:Int)∧j≤n∧Hid (Tw wr w.heap.size g1 g2 n (List.replicate n 0) L)∧Hid (∀ i (h:i<L.length),L[i]=if i<j then cs i else 0)∧Hid (Below w.heap.size w wr)) (fun u _=>n-(intOf u).toNat)
  case atStart=>exact ⟨0,List.replicate n 0,rfl,by omega,EG,Lib.hid (by intro i h;simp),hb0⟩
  case round =>
   obtain ⟨j,L,rfl,hj,hT,hL,hb⟩:=hrel;have hbz:=hb.out.size
   by_cases hlt:j<n
   ·obtain ⟨b,o,rfl,hbl,hcell⟩:=hR.out.2 (by omega)
    have O0:j<runs.length:=by rw [← hnn.out];exact hlt
    have hat:=fun i (hi:i<4)=>iM (f:=kK) (m:=4) (fun _=>rfl) runs j i O0 hi;have Pd:cs j=(runs[j].n).toNat:=by rw [hcs.out];unfold Il.cnt;rw [Em.get_at O0]
    have hp0:=hpos.out _ (List.getElem_mem O0);generalize runs[j]=r at hat Pd hp0;have x0:=(hb.out.cell (p:=⟨b,o+(j*4+0),none⟩) hbl).trans (hcell _ _ (hat 0 (by omega)));have x1:=(hb.out.cell (p:=⟨b,o+(j*4+1),none⟩) hbl).trans (hcell _ _ (hat 1 (by omega)));have x2:=(hb.out.cell (p:=⟨b,o+(j*4+2),none⟩) hbl).trans (hcell _ _ (hat 2 (by omega)));have x3:=(hb.out.cell (p:=⟨b,o+(j*4+3),none⟩) hbl).trans (hcell _ _ (hat 3 (by omega)));simp only [← Nat.add_assoc,Nat.add_zero] at x0 x1 x2 x3;have hbr:b<wr.heap.size:=Nat.lt_of_lt_of_le hbl hbz;have rH:r.n=((cs j:Nat):Int):=by rw [Pd];omega
    rw [rH] at x1;obtain ⟨ch,rn,ro,rc⟩:=r;simp only at rH;subst rH;clear hcell hat Pd hp0;obtain ⟨y,hy⟩:∃ y,y=cs j:=⟨_,rfl⟩
    rw [← hy] at x1;replace hy:=Lib.hid hy;have ku:=Lib.hid (hT.out.ext (aa wr (.cells #[.int .u8 (ch.toNat:Int),.int .i64 (y:Int),.bool ro,.bool rc] 240)));have hxb:(wr.alloc (.cells #[.int .u8 (ch.toNat:Int),.int .i64 (y:Int),.bool ro,.bool rc] 240)).heap[wr.heap.size]? = some (.cells #[.int .u8 (ch.toNat:Int),.int .i64 (y:Int),.bool ro,.bool rc] 240):=heap_alloc_new wr _;have hba:=Lib.hid (hb.out.alloc hbz (.cells #[.int .u8 (ch.toNat:Int),.int .i64 (y:Int),.bool ro,.bool rc] 240));have C9:(wr.alloc (.cells #[.int .u8 (ch.toNat:Int),.int .i64 (y:Int),.bool ro,.bool rc] 240)).heap.size=wr.heap.size+1:=by simp
    go_upto_region 5 with fail
    obtain ⟨wa,zV⟩:∃ wa,wa=wr.alloc (.cells #[.int .u8 (ch.toNat:Int),.int .i64 (y:Int),.bool ro,.bool rc] 240):=⟨_,rfl⟩
    obtain ⟨bx,tv⟩:∃ bx,bx=wr.heap.size:=⟨_,rfl⟩
    rw [← zV] at ku hxb hba C9 ⊢;rw [← tv] at hxb C9 ⊢;have y1:=ah hxb 1;simp only [List.getElem?_toArray,List.getElem?_cons_zero,List.getElem?_cons_succ] at y1;have OQ:bx<wa.heap.size:=by omega
    have q2:=ku.out.at2 hlt;have q3:=ku.out.Z7;have q4:=ku.out.TU.2;have hls:L.length=n:=hT.out.ll;have hTs:=Lib.hid (ku.out.zC j y);have VY:=Lib.hid (hba.out.setCell (p:=⟨g2,j,none⟩) ku.out.TU.1 (.int .i64 (y:Int)));have hLs:Hid (∀ i (h:i<(L.set j y).length),(L.set j y)[i]=if i<j+1 then cs i else 0):=Lib.hid (fun i h=>by
     by_cases hij:j=i
     ·subst hij;rw [List.getElem_set_self,if_pos (by omega)];exact hy.out
     ·rw [List.getElem_set_ne hij,hL.out i (by rw [List.length_set] at h;exact h)]
      by_cases h1:i<j
      ·rw [if_pos h1,if_pos (by omega)]
      ·rw [if_neg h1,if_neg (by omega)])
    generalize (L[j]'(by omega):Nat)=old at q2;replace hls:=Lib.hid hls;clear zV hxb x0 x1 x2 x3 C9 tv hT hb ku hba hL;go_wp2_with fail
    go_roundw
    case rel=>exact ⟨j+1,L.set j y,by go_num,by omega,hTs,hLs,VY⟩
    case measure=>simp [intOf];omega
   ·have hjn:j=n:=by omega
    subst hjn;have hL2:Hid (∀ i (h:i<L.length),L[i]=cs i):=Lib.hid (fun i h=>by rw [hL.out i h,if_pos (by have:=hT.out.ll;omega)]);clear hL EG hb0;go_wp2_with fail
    go_loopw [31] (fun u wr=>∃ (k:Nat) (O L:List Nat),u=.int .i64 (k:Int)∧k≤X.length∧Hid (Tw wr w.heap.size g1 g2 j O L)∧Hid (∀ i (h:i<O.length),O[i]=Il.opn (X.take k) i)∧Hid (∀ i (h:i<L.length),L[i]=cs i-Em.used (X.take k) i)∧Hid (Below w.heap.size w wr)) (fun u _=>X.length-(intOf u).toNat)
    case atStart=>exact ⟨0,List.replicate j 0,L,rfl,by omega,hT,Lib.hid (by intro i h;simp [Il.opn]),Lib.hid (by intro i h;rw [hL2.out i h];simp [Em.used]),hb⟩
    case round =>
     clear hT hL2 hb;obtain ⟨k,O,L2,rfl,hk,hT,hO,hL,hb⟩:=hrel;have hbz:=hb.out.size
     by_cases hlt:k<X.length
     ·obtain ⟨b,o,rfl,hbl,hcell⟩:=hX.out.2 (by omega)
      have hat:=fun i (hi:i<3)=>iM (f:=xh) (m:=3) (fun _=>rfl) X k i hlt hi;have J8:=hin.out _ (List.getElem_mem hlt);have htk:X.take (k+1)=X.take k++[X[k]]:=List.take_succ_eq_append_getElem hlt;have Zs:∀ i,Em.used (X.take (k+1)) i≤Em.used X i:=fun i=>Il.pJ X (k+1) i;generalize X[k]=x at hat J8 htk;obtain ⟨pa,pb,ps⟩:=x;simp only at J8;obtain ⟨ha,kr,hab,hs2⟩:=J8;have x0:=(hb.out.cell (p:=⟨b,o+(k*3+0),none⟩) hbl).trans (hcell _ _ (hat 0 (by omega)));have x1:=(hb.out.cell (p:=⟨b,o+(k*3+1),none⟩) hbl).trans (hcell _ _ (hat 1 (by omega)));have x2:=(hb.out.cell (p:=⟨b,o+(k*3+2),none⟩) hbl).trans (hcell _ _ (hat 2 (by omega)));simp only [← Nat.add_assoc,Nat.add_zero] at x0 x1 x2;have hbr:b<wr.heap.size:=Nat.lt_of_lt_of_le hbl hbz;have U6:∀ i,Em.used (X.take (k+1)) i=Em.used (X.take k) i+((if pa=i then ps else 0)+if pb=i then ps else 0):=fun i=>by rw [htk,Em.jM]
      have hoa:∀ i,Il.opn (X.take (k+1)) i=Il.opn (X.take k) i+if pa=i then 1 else 0:=fun i=>by rw [htk,GU]
      have Rr:∀ i,Il.opn (X.take k) i≤X.length:=fun i=>Nat.le_trans (by unfold Il.opn;exact List.countP_le_length) (by rw [List.length_take];omega);have XI:=hO.out pa (by rw [hT.out.ol];exact ha);have Zn:=hL.out pa (by rw [hT.out.ll];exact ha);have Zt:=hL.out pb (by rw [hT.out.ll];exact kr);have hca:=hcb.out pa;have Zp:=hcb.out pb;have RI:=U6 pa;have PC:=U6 pb;rw [if_pos rfl,if_neg (fun e=>hab e.symm)] at RI;rw [if_neg hab,if_pos rfl] at PC;have Yp:=Zs pa;have XK:=Zs pb;have Y5:=nL.out pa ha;have XW:=nL.out pb kr;have ZS:=Rr pa;have ku:=hT.out.ext (aa wr (.cells #[.int .i64 (pa:Int),.int .i64 (pb:Int),.int .i64 (ps:Int)] 241));have hxb:(wr.alloc (.cells #[.int .i64 (pa:Int),.int .i64 (pb:Int),.int .i64 (ps:Int)] 241)).heap[wr.heap.size]? = some (.cells #[.int .i64 (pa:Int),.int .i64 (pb:Int),.int .i64 (ps:Int)] 241):=heap_alloc_new wr _;have hba:=Lib.hid (hb.out.alloc hbz (.cells #[.int .i64 (pa:Int),.int .i64 (pb:Int),.int .i64 (ps:Int)] 241));have C9:(wr.alloc (.cells #[.int .i64 (pa:Int),.int .i64 (pb:Int),.int .i64 (ps:Int)] 241)).heap.size=wr.heap.size+1:=by simp
      have q1:=ku.at1 ha;have q2:=ku.at2 ha;have q3:=ku.at2 kr;have hol:=hT.out.ol;have rG:=hT.out.ll;obtain ⟨va,hva⟩:∃ va,va=O[pa]'(by omega):=⟨_,rfl⟩
      obtain ⟨la,hla⟩:∃ la,la=L2[pa]'(by omega):=⟨_,rfl⟩
      obtain ⟨lb,hlb⟩:∃ lb,lb=L2[pb]'(by omega):=⟨_,rfl⟩
      rw [← hva] at q1 XI;rw [← hla] at q2 Zn;rw [← hlb] at q3 Zt;have hsa:ps≤la:=by omega
      have hsb:ps≤lb:=by omega
      have acT:va≤400000000:=by omega
      have J9:la≤1000000000:=by omega
      have ad7:lb≤1000000000:=by omega
      have VV:Hid (∀ i (h:i<(O.set pa (va+1)).length),(O.set pa (va+1))[i]=Il.opn (X.take (k+1)) i):=Lib.hid (fun i h=>by
       rw [hoa]
       by_cases hij:pa=i
       ·subst hij;rw [List.getElem_set_self,if_pos rfl,XI]
       ·rw [List.getElem_set_ne hij,if_neg hij,hO.out i (by rw [List.length_set] at h;exact h),Nat.add_zero])
      have hL3:Hid (∀ i (h:i<((L2.set pa (la-ps)).set pb (lb-ps)).length),((L2.set pa (la-ps)).set pb (lb-ps))[i]=cs i-Em.used (X.take (k+1)) i):=Lib.hid (fun i h=>by
       rw [U6]
       by_cases h1:pb=i
       ·subst h1;rw [List.getElem_set_self,if_neg hab,if_pos rfl,Zt];omega
       ·rw [List.getElem_set_ne h1,if_neg h1]
        by_cases h2:pa=i
        ·subst h2;rw [List.getElem_set_self,if_pos rfl,Zn];omega
        ·rw [List.getElem_set_ne h2,if_neg h2,hL.out i (by simpa using h)];omega)
      have adj:=hT.out.ne;have rE:=ku.Kq pa (va+1);have oV:=rE.zC pa (la-ps);have mR:=Lib.hid (oV.zC pb (lb-ps));have Jb:=Lib.hid (hba.out.setCell (p:=⟨g1,pa,none⟩) ku.ZY.1 (.int .i64 ((va+1:Nat):Int)));have C0:=Lib.hid (Jb.out.setCell (p:=⟨g2,pa,none⟩) ku.TU.1 (.int .i64 ((la-ps:Nat):Int)));have xz:=Lib.hid (C0.out.setCell (p:=⟨g2,pb,none⟩) ku.TU.1 (.int .i64 ((lb-ps:Nat):Int)));have ff1:=ku.fz1;have ff2:=rE.Z7;have ff3:=oV.Z7;have r2:=rE.at2 ha;have r3:=oV.at2 kr;rw [← hla] at r2;rw [List.getElem_set_ne hab,← hlb] at r3;have e1:((va+1:Nat):Int)=(va:Int)+1:=by omega
      have e2:((la-ps:Nat):Int)=(la:Int)-(ps:Int):=by omega
      have e3:((lb-ps:Nat):Int)=(lb:Int)-(ps:Int):=by omega
      have ad6:IntKind.i64.wrap ((la:Int)-(ps:Int))=(la:Int)-(ps:Int):=by rw [IntKind.wrap_i64];omega
      have ady:IntKind.i64.wrap ((lb:Int)-(ps:Int))=(lb:Int)-(ps:Int):=by rw [IntKind.wrap_i64];omega
      have Rh:g1≠wr.heap.size:=by have:=hT.out.ZY.2;omega
      have JE:g2≠wr.heap.size:=by have:=hT.out.TU.2;omega
      have hs1:(wr.alloc (.cells #[.int .i64 (pa:Int),.int .i64 (pb:Int),.int .i64 (ps:Int)] 241)).setCell ⟨g1,pa,none⟩ (.int .i64 ((va+1:Nat):Int))=(wr.alloc (.cells #[.int .i64 (pa:Int),.int .i64 (pb:Int),.int .i64 (ps:Int)] 241)).setCell ⟨g1,pa,none⟩ (.int .i64 ((va:Int)+1)):=by rw [e1]
      clear hcell hat htk Zs U6 hoa Rr XI Zn Zt hca Zp RI PC Yp XK Y5 XW ZS;go_upto_region 10 with fail
      obtain ⟨wa,zV⟩:∃ wa,wa=wr.alloc (.cells #[.int .i64 (pa:Int),.int .i64 (pb:Int),.int .i64 (ps:Int)] 241):=⟨_,rfl⟩
      obtain ⟨bx,tv⟩:∃ bx,bx=wr.heap.size:=⟨_,rfl⟩
      rw [← zV] at ku hxb hba C9 hs1 rE oV mR Jb C0 xz ff1 ff2 ff3 r2 r3 q1 q2 q3 ⊢;rw [← tv] at hxb C9 Rh JE ⊢;have yl:(wa.setCell ⟨g1,pa,none⟩ (.int .i64 ((va+1:Nat):Int))).heap[bx]? = some (.cells #[.int .i64 (pa:Int),.int .i64 (pb:Int),.int .i64 (ps:Int)] 241):=(Below.heap_setCell _ _ _ _ (fun e=>Rh e.symm)).trans hxb;have ri:((wa.setCell ⟨g1,pa,none⟩ (.int .i64 ((va+1:Nat):Int))).setCell ⟨g2,pa,none⟩ (.int .i64 ((la-ps:Nat):Int))).heap[bx]? = some (.cells #[.int .i64 (pa:Int),.int .i64 (pb:Int),.int .i64 (ps:Int)] 241):=(Below.heap_setCell _ _ _ _ (fun e=>JE e.symm)).trans yl;have y0:=ah hxb 0;have y1:=ah hxb 1;have y2:=ah hxb 2;simp only [List.getElem?_toArray,List.getElem?_cons_zero,List.getElem?_cons_succ] at y0 y1 y2;have OQ:bx<wa.heap.size:=by omega
      have Sr:=ku.ZY.2;have hai:(pa:Int)<(j:Int):=by omega
      have xd:(pb:Int)<(j:Int):=by omega
      replace rE:=Lib.hid rE;replace oV:=Lib.hid oV;replace e1:=Lib.hid e1;replace e2:=Lib.hid e2;replace e3:=Lib.hid e3;replace hs1:=Lib.hid hs1;replace yl:=Lib.hid yl;replace ri:=Lib.hid ri;replace r2:=Lib.hid r2;replace r3:=Lib.hid r3;replace ff2:=Lib.hid ff2;replace ff3:=Lib.hid ff3;replace hol:=Lib.hid hol;replace rG:=Lib.hid rG;clear hva hla hlb zV hxb x0 x1 x2 C9 tv hT hb ku hba hO hL;go_upto_region 11 with fail
      rw [← hs1.out];obtain ⟨w1,hw1⟩:∃ w1,w1=wa.setCell ⟨g1,pa,none⟩ (.int .i64 ((va+1:Nat):Int)):=⟨_,rfl⟩
      rw [← hw1] at rE oV mR Jb C0 xz ff2 ff3 r2 r3 yl ri ⊢;clear hs1 hw1 q1 q2 q3 ff1 y0 y1 y2 OQ Sr;have hS:(fun u:World=>u.heap[bx]? = some (.cells #[.int .i64 (pa:Int),.int .i64 (pb:Int),.int .i64 (ps:Int)] 241)) w1.drew:=yl.out;have iU:(fun u:World=>u.heap[bx]? = some (.cells #[.int .i64 (pa:Int),.int .i64 (pb:Int),.int .i64 (ps:Int)] 241)) (w1.drew.setCell ⟨g2,pa,none⟩ (.int .i64 ((la:Int)-(ps:Int)))):=by
       rw [← e2.out];exact ri.out
      refine aF (.rd 0 (.rd 1 (.rd 2 (.rd 3 (.rd 5 (.rd 6 (.mk 4 (.rd 7 (.rd 8 (.mk 9 .fin)))))))))) (fun u:World=>u.heap[bx]? = some (.cells #[.int .i64 (pa:Int),.int .i64 (pb:Int),.int .i64 (ps:Int)] 241)) hS (by kernel_rfl) (by kernel_rfl) (by kernel_rfl) (fun _ _ d _ _ h=>by cases d<;>exact h) ?_
      iterate 2 (first | refine an rfl ?_ | (refine az rfl ?_;intro K hK;go_simp;refine hK _ _ _ ?_;clear hK K))
      refine aJ (.int .i64 (pa:Int)) rfl rfl hS (fun u hu=>by
       have h1:=ah (j:=0) hu;go_simp) ?_
      iterate 2 (first | refine an rfl ?_ | (refine az rfl ?_;intro K hK;go_simp;refine hK _ _ _ ?_;clear hK K))
      refine aJ (.int .i64 (ps:Int)) rfl rfl hS (fun u hu=>by
       have h1:=ah (j:=2) hu;go_simp) ?_
      have r2':=r2.out;refine aE rfl ?_;intro K hK;go_simp;refine ⟨_,hS,fun _ h=>h,hK _ _ _ ?_⟩;clear hK K
      iterate 2 (first | refine an rfl ?_ | (refine az rfl ?_;intro K hK;go_simp;refine hK _ _ _ ?_;clear hK K))
      refine bw rfl rfl (gX rfl (by kernel_rfl) rfl rfl r2' ff2.out) iU ?_;refine aQ ?_;have hld:((la:Int)-(ps:Int))=(((la-ps:Nat):Nat):Int):=e2.out.symm;rw [hld];obtain ⟨w2,hw2⟩:∃ w2,w2=w1.setCell ⟨g2,pa,none⟩ (.int .i64 ((la-ps:Nat):Int)):=⟨_,rfl⟩
      have PR:w1.drew.setCell ⟨g2,pa,none⟩ (.int .i64 ((la-ps:Nat):Int))=w2.drew:=by rw [hw2];rfl
      rw [← hw2] at oV mR C0 xz ff3 r3 ri;rw [PR];clear hw2 PR iU r2' hld;go_upto_region 12 with fail
      have hS:(fun u:World=>u.heap[bx]? = some (.cells #[.int .i64 (pa:Int),.int .i64 (pb:Int),.int .i64 (ps:Int)] 241)) w2.drew.drew:=ri.out;have iU:(fun u:World=>u.heap[bx]? = some (.cells #[.int .i64 (pa:Int),.int .i64 (pb:Int),.int .i64 (ps:Int)] 241)) (w2.drew.drew.setCell ⟨g2,pb,none⟩ (.int .i64 ((lb:Int)-(ps:Int)))):=(Below.heap_setCell _ _ _ _ (fun e=>JE e.symm)).trans ri.out;refine aF (.rd 0 (.rd 1 (.rd 2 (.rd 3 (.rd 5 (.rd 6 (.mk 4 (.rd 7 (.rd 8 (.mk 9 .fin)))))))))) (fun u:World=>u.heap[bx]? = some (.cells #[.int .i64 (pa:Int),.int .i64 (pb:Int),.int .i64 (ps:Int)] 241)) hS (by kernel_rfl) (by kernel_rfl) (by kernel_rfl) (fun _ _ d _ _ h=>by cases d<;>exact h) ?_
      iterate 2 (first | refine an rfl ?_ | (refine az rfl ?_;intro K hK;go_simp;refine hK _ _ _ ?_;clear hK K))
      refine aJ (.int .i64 (pb:Int)) rfl rfl hS (fun u hu=>by
       have h1:=ah (j:=1) hu;go_simp) ?_
      iterate 2 (first | refine an rfl ?_ | (refine az rfl ?_;intro K hK;go_simp;refine hK _ _ _ ?_;clear hK K))
      refine aJ (.int .i64 (ps:Int)) rfl rfl hS (fun u hu=>by
       have h1:=ah (j:=2) hu;go_simp) ?_
      have r3':w2.drew.drew.cell? ⟨g2,pb,none⟩=some (.int .i64 (lb:Int)):=r3.out;have ff3':∀ j,w2.drew.drew.frozen? ⟨g2,j,none⟩=false:=ff3.out;refine aE rfl ?_;intro K hK;go_simp;refine ⟨_,hS,fun _ h=>h,hK _ _ _ ?_⟩;clear hK K
      iterate 2 (first | refine an rfl ?_ | (refine az rfl ?_;intro K hK;go_simp;refine hK _ _ _ ?_;clear hK K))
      refine bw rfl rfl (gX rfl (by kernel_rfl) rfl rfl r3' ff3') iU ?_;refine aQ ?_;rw [show ((lb:Int)-(ps:Int))=(((lb-ps:Nat):Nat):Int) from e3.out.symm];obtain ⟨w3,hw3⟩:∃ w3,w3=w2.setCell ⟨g2,pb,none⟩ (.int .i64 ((lb-ps:Nat):Int)):=⟨_,rfl⟩
      have Tj:w2.drew.drew.setCell ⟨g2,pb,none⟩ (.int .i64 ((lb-ps:Nat):Int))=w3.drew.drew:=by rw [hw3];rfl
      rw [← hw3] at mR xz;rw [Tj];clear hw3 Tj hS iU r3' ff3';have hTf:Hid (Tw w3.drew.drew w.heap.size g1 g2 j (O.set pa (va+1)) ((L2.set pa (la-ps)).set pb (lb-ps))):=Lib.hid ⟨mR.out.o.drew.drew,mR.out.l.drew.drew,mR.out.ne,mR.out.ol,mR.out.ll⟩;have qF:Hid (Below w.heap.size w w3.drew.drew):=Lib.hid (below_drewN (below_drewN xz.out 1) 1);go_wp2_with fail
      go_roundw
      case rel=>exact ⟨k+1,O.set pa (va+1),(L2.set pa (la-ps)).set pb (lb-ps),by go_num,by omega,hTf,VV,hL3,qF⟩
      case measure=>simp [intOf];omega
     ·have hkl:k=X.length:=by omega
      subst hkl;have Pp:=hO.out;have hL3:=hL.out;rw [List.take_length] at Pp hL3;replace Pp:=Lib.hid Pp;replace hL3:=Lib.hid hL3;clear hO hL;go_wp2_with fail;go_ret2;exact ⟨g1,g2,O,L2,rfl,hT.out,Pp.out,hL3.out,hb.out⟩
end Go.Proofs.YtddkjkockbcamaaGreatDoor
