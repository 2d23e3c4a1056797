/- IlPJoin IlPShut IlPShares -/
import Derived.Test.YtddkjkockbcamaaGreatDoorHe20
import Derived.Deep.CutBlock
import Derived.Test.YtddkjkockbcamaaGreatDoorHe19
import Derived.Test.YtddkjkockbcamaaGreatDoorHe18
import Derived.Test.YtddkjkockbcamaaGreatDoorHe03
set_option maxHeartbeats 16000000
set_option maxRecDepth 100000
namespace Go.Proofs.YtddkjkockbcamaaGreatDoor
open Go.RowKit
attribute [local go_sem] aD av aq
theorem C4 (l:List UInt8):∀ u∈aj l,u.oneCell'=true:=by
 intro u hu;simp only [aj,List.mem_map] at hu;obtain ⟨_,_,rfl⟩:=hu;rfl
theorem Ei {w:World}{Q:Nat→Prop}{size n:Nat}{A:Option Addr}{xs:List Value}(h:eu w Q size A n xs) (hQ:∀ b,Q b→b<w.heap.size):Row w w.heap.size size A n xs:=by
 refine ⟨h.1,fun hn=>?_⟩;obtain ⟨b,o,h1,h2,h3⟩:=h.2 hn;exact ⟨b,o,h1,hQ b h2,h3⟩
section
variable {m:Ky→Option Pa}{k:Ks}{C:Value→Value→Pa}{R:Il.Rw}{vi vp:Value}{css:List (List Value)}{w:World}{B g o:Nat}
theorem KS (hk:k.ok) (hC:Cn g o C) (h:Hq w B (aN m k C R vi vp css)) (hI:gB w (Fr w B (aN m k C R vi vp css)) R.l css) (hB:B≤w.heap.size) (hR:R.wt≤1000000000) (v:Il.Rw) (hv:v.ok) (SZ:v.wt≤1000000000)
  (A2:Option Addr) (c2:Nat) (css2:List (List Value)) (Ap:Option Addr) (cp:Nat) (hr2:eu w (Fr w B (aN m k C R vi vp css)) 4 A2 v.l.length css2.flatten) (hi2:gB w (Fr w B (aN m k C R vi vp css)) v.l css2) (Wg:eu w (Fr w B (aN m k C R vi vp css)) 1 Ap v.p.length (aj v.p)) :
  Calls Tryz.prog 206 #[.pointer (some ⟨g,o,none⟩),.agg #[.slice A2 v.l.length c2,.slice Ap v.p.length cp]] w fun e w'=>e=.returned (.tuple #[])∧∃ vi' vp' css',bV B (aN m k C R vi vp css) w (aN m k C (R.join v) vi' vp' css') w'∧gB w' (Fr w' B (aN m k C (R.join v) vi' vp' css')) (R.join v).l css':=by
 obtain ⟨L2,P2⟩:=v;simp only at hr2 hi2 Wg ⊢;have hwt:=fun j:Nat=>Il.Rw.vX (L2.take j) R;have hL2:L2.length≤1000000000:=by unfold Il.Rw.wt at SZ;simp only at SZ;omega
 have Bq:P2.length≤1000000000:=by unfold Il.Rw.wt at SZ;simp only at SZ;omega
 have Rq:Il.eA L2≤1000000000:=by unfold Il.Rw.wt at SZ;simp only at SZ;omega
 have EP:∀ j,Il.eA (L2.take j)≤Il.eA L2:=fun j=>by
  conv=>rhs;rw [← List.take_append_drop j L2,Il.iS]
  omega
 have UH:=Lib.hid (fun j (hj:j≤L2.length)=>(show (((L2.take j).foldl Il.Rw.step R).p.length≤5000000000∧((L2.take j).foldl Il.Rw.step R).l.length≤5000000000) from by
  have h1:=hwt j;have h2:=EP j;rw [List.length_take] at h1;have:min j L2.length≤L2.length:=Nat.min_le_right _ _;have e:((L2.take j).foldl Il.Rw.step R).wt=((L2.take j).foldl Il.Rw.step R).l.length+((L2.take j).foldl Il.Rw.step R).p.length+Il.eA ((L2.take j).foldl Il.Rw.step R).l:=rfl;omega))
 have To:=Lib.hid (fun (t d:List UInt8) (ks:List Il.In) (j:Nat) (hj:j<L2.length) (e:L2[j]=.mk 0 t d ks)=>(show t.length≤1000000000 from by
  have h1:Il.eS L2[j]≤Il.eA L2:=by
   have:=EP (j+1);rw [List.take_succ_eq_append_getElem hj,Il.iS] at this;have e2:Il.eA [L2[j]]=Il.eS L2[j]:=by simp [Il.eA]
   omega
  rw [e] at h1;simp only [Il.eS] at h1;omega))
 have hwd:=Lib.hid hv.wd;have hv8:=Lib.hid hv.v8s;have t0:=h.call (w':=w.alloc (.cells #[.slice A2 L2.length c2,.slice Ap P2.length cp] 216)) hB (aa w _);have hf0:=Lib.hid (Hq.new (w':=w.alloc (.cells #[.slice A2 L2.length c2,.slice Ap P2.length cp] 216)) h hB (b:=w.heap.size) (Nat.le_refl _) (by simp));have hb0:Hid ((w.alloc (.cells #[.slice A2 L2.length c2,.slice Ap P2.length cp] 216)).heap[w.heap.size]? = some (.cells #[.slice A2 L2.length c2,.slice Ap P2.length cp] 216)):=Lib.hid (heap_alloc_new w _);have Qw:=Lib.hid (t0.kids hI);have MJ:=t0.gA hr2;have Nf:=t0.kids hi2;have NH:=t0.gA Wg;obtain ⟨b0,VU⟩:∃ b,b=w.heap.size:=⟨_,rfl⟩
 rw [← VU] at hf0 hb0;obtain ⟨w0,hw0⟩:∃ w0,w0=w.alloc (.cells #[.slice A2 L2.length c2,.slice Ap P2.length cp] 216):=⟨_,rfl⟩
 rw [← hw0] at t0 hf0 hb0 Qw MJ Nf NH;have VZ:Hid (w0.cell? ⟨b0,0,none⟩=some (.slice A2 L2.length c2)):=Lib.hid (ah hb0.out 0);have hB0:B≤w0.heap.size:=Nat.le_trans hB t0.bel.size;have adi:=Lib.hid hv.v8;replace t0:=Lib.hid t0;replace MJ:=Lib.hid MJ;replace Nf:=Lib.hid Nf;replace NH:=Lib.hid NH;clear h hI hr2 hi2 Wg hv hwt EP SZ Rq hR;go_enter Tryz.func206,Tryz.ntmps206;go_upto_region 1 with fail
 rw [← VU,← hw0];have abA:b0<w0.heap.size:=hf0.out.2.1;have hcc:=VZ.out;clear hw0 VU
 go_upto_block 1 with fail
 clear hcc
 go_loopw [9] (fun u wr=>∃ (j:Nat) (vi' vp':Value) (css':List (List Value)),u=.int .i64 (j:Int)∧j≤L2.length∧Hid (bV B (aN m k C R vi vp css) w0 (aN m k C ((L2.take j).foldl Il.Rw.step R) vi' vp' css') wr)∧Hid (gB wr (Fr wr B (aN m k C ((L2.take j).foldl Il.Rw.step R) vi' vp' css')) ((L2.take j).foldl Il.Rw.step R).l css')) (fun u _=>L2.length-(intOf u).toNat)
 case atStart=>exact ⟨0,vi,vp,css,rfl,by omega,Lib.hid t0.out.hp.refl,Qw⟩
 case round =>
  obtain ⟨j,vi',vp',css',rfl,hj,hT,Vd⟩:=hrel;have hbz:=hT.out.bel.size;have ug:B≤wr.heap.size:=Nat.le_trans hB0 hbz
  by_cases hlt:j<L2.length
  ·obtain ⟨YP,hbl⟩:=UH.out j hj
   have Vz:=hT.out.gA MJ.out;have hij:=hT.out.kids Nf.out;obtain ⟨cs,i1,i2⟩:=NO hij hlt;obtain ⟨b,ofs,rfl,Dx,hcell⟩:=Vz.2 (by omega);have hstep:(L2.take (j+1)).foldl Il.Rw.step R=((L2.take j).foldl Il.Rw.step R).step L2[j]:=by
    rw [List.take_succ_eq_append_getElem hlt,List.foldl_append];rfl
   have Tz:=fun t d ks (e:L2[j]=.mk 0 t d ks)=>hv8.out t d ks (e▸List.getElem_mem hlt);have hxl:=fun t d ks (e:L2[j]=.mk 0 t d ks)=>To.out t d ks j hlt e;generalize L2[j]=x at i1 hstep Tz hxl;obtain ⟨kd,tx,de,ks⟩:=x;obtain ⟨A3,c3,css3,rfl,hc3,hr3,hi3⟩:=Ig i1;have x0:=hcell _ _ (i2 0 (by omega));have x1:=hcell _ _ (i2 1 (by omega));have x2:=hcell _ _ (i2 2 (by omega));have x3:=hcell _ _ (i2 3 (by omega));simp only [← Nat.add_assoc,Nat.add_zero] at x0 x1 x2 x3;have hbr:b<wr.heap.size:=Dx.2.1;obtain ⟨RJ,Ti⟩:∃ RJ,RJ=(L2.take j).foldl Il.Rw.step R:=⟨_,rfl⟩
   rw [← Ti] at hT Vd hstep YP hbl Dx Vz hij i1 hr3 hi3;have ta:=hT.out.hp.call (w':=wr.alloc (.cells #[.int .i64 (kd:Int),.string (bs tx),.string (bs de),.slice A3 ks.length c3] 35)) ug (aa wr _);have hxa:=Lib.hid (ta.kid i1);have Y9:=Lib.hid (ta.kids Vd.out);have jC:=Lib.hid (hT.out.trans ta);have hxb:(wr.alloc (.cells #[.int .i64 (kd:Int),.string (bs tx),.string (bs de),.slice A3 ks.length c3] 35)).heap[wr.heap.size]? = some (.cells #[.int .i64 (kd:Int),.string (bs tx),.string (bs de),.slice A3 ks.length c3] 35):=heap_alloc_new wr _;have AW:(wr.alloc (.cells #[.int .i64 (kd:Int),.string (bs tx),.string (bs de),.slice A3 ks.length c3] 35)).heap.size=wr.heap.size+1:=by simp
   replace hstep:=Lib.hid hstep;replace Tz:=Lib.hid Tz;replace hxl:=Lib.hid hxl;replace Ti:=Lib.hid Ti;clear Vz hij hcell i1 i2 hr3 hi3 Dx ta hT Vd;go_upto_region 4 with fail
   obtain ⟨wa,xD⟩:∃ wa,wa=wr.alloc (.cells #[.int .i64 (kd:Int),.string (bs tx),.string (bs de),.slice A3 ks.length c3] 35):=⟨_,rfl⟩
   obtain ⟨bx,rq⟩:∃ bx,bx=wr.heap.size:=⟨_,rfl⟩
   rw [← xD] at hxa Y9 jC hxb AW ⊢;rw [← rq] at hxb AW ⊢;have y0:=ah hxb 0;have y1:=ah hxb 1;have y2:=ah hxb 2;have y3:=ah hxb 3;simp only [List.getElem?_toArray,List.getElem?_cons_zero,List.getElem?_cons_succ] at y0 y1 y2 y3;have Kw:bx<wa.heap.size:=by omega
   have hBa:B≤wa.heap.size:=by omega
   clear xD hxb x0 x1 x2 x3 AW rq
   by_cases hk0:kd=0
   ·have tk:((kd:Int)==0)=true:=by simp [hk0]
    have h8:=Tz.out tx de ks (by rw [hk0]);have hl8:=hxl.out tx de ks (by rw [hk0]);have hend:Hid ((L2.take (j+1)).foldl Il.Rw.step R=RJ.say tx):=Lib.hid (by rw [hstep.out,hk0];rfl);have aG:=Lib.hid (vJ hk hC jC.out.hp hBa tx (by omega));rw [Il.CH h8] at aG;clear h8 hk0;go_upto_region 5 with fail
    go_wp2_with fail;refine aG.out.mono ?_;rintro e w3 ⟨rfl,vp3,uB⟩;have pF:=Lib.hid (uB.kids Y9.out);replace uB:=Lib.hid (jC.out.trans uB);go_wp2_with fail
    go_roundw
    case rel=>exact ⟨j+1,vi',vp3,css',by go_num,by omega,by rw [hend.out];exact uB,by rw [hend.out];exact pF⟩
    case measure=>simp [intOf];omega
   ·have tk:((kd:Int)==0)=false:=by simp;omega
    have hend:Hid ((L2.take (j+1)).foldl Il.Rw.step R=RJ.put (.mk kd tx de ks)):=Lib.hid (by rw [hstep.out,Il.Rw.rU RJ hk0]);have aG:=Lib.hid (vM hk hC jC.out.hp Y9.out hBa (by omega) (by omega) kd tx de ks A3 c3 hxa.out);clear hk0;go_upto_region 6 with fail
    go_wp2_with fail;refine aG.out.mono ?_;rintro e w3 ⟨rfl,vi3,vp3,css4,uB,pF⟩;replace pF:=Lib.hid pF;replace uB:=Lib.hid (jC.out.trans uB);go_wp2_with fail
    go_roundw
    case rel=>exact ⟨j+1,vi3,vp3,css4,by go_num,by omega,by rw [hend.out];exact uB,by rw [hend.out];exact pF⟩
    case measure=>simp [intOf];omega
  ·have hjl:j=L2.length:=by omega
   subst hjl;obtain ⟨YP,hbl⟩:=UH.out _ hj;rw [List.take_length] at hT Vd YP hbl;obtain ⟨RJ,Ti⟩:∃ RJ,RJ=L2.foldl Il.Rw.step R:=⟨_,rfl⟩
   have hend:Hid (R.join ⟨L2,P2⟩=RJ.say P2):=Lib.hid (by rw [Ti];rfl);rw [← Ti] at hT Vd YP hbl;replace Ti:=Lib.hid Ti;obtain ⟨c0,c1,cf,hBg,F4,oi,op,nei,nep⟩:=eE hk hC hT.out.hp;obtain ⟨hbk,hfk⟩:=hT.out.fre _ hf0.out;have hbk2:=hbk.trans hb0.out;have hrow:=Ei (hT.out.gA NH.out) (fun b hb=>hb.2.1);obtain ⟨A4,c4,rfl,hc4⟩:=ak op;have hS:(fun u:World=>u.heap[b0]? = some (.cells #[.slice A2 L2.length c2,.slice Ap P2.length cp] 216)) wr.drew:=hbk2;have YW:Hid (bV B (aN m k C R vi vp css) w0 (aN m k C RJ vi' (.slice A4 RJ.p.length c4) css') wr):=hT;have hgb:g≠b0:=fun e=>hfk.2.2 _ _ (l6 hk) (by rw [hC.block,e]);clear UH To hwd hv8 Qw VZ MJ Nf NH hbk;go_upto_region 8 with fail
   refine aE (.rd 0 (.rd 1 (.rd 2 (.rd 3 (.rd 5 (.rd 6 (.mk 4 (.mk 7 (.rd 8 (.rd 9 (.mk 10 .fin))))))))))) (fun u:World=>u.heap[b0]? = some (.cells #[.slice A2 L2.length c2,.slice Ap P2.length cp] 216)) hS (by kernel_rfl) (by kernel_rfl) (by kernel_rfl) (fun _ _ d _ _ h=>by cases d<;>exact h) ?_
   iterate 5 (first | refine an rfl ?_ | (refine ay rfl ?_;intro K hK;go_simp;refine hK _ _ _ ?_;clear hK K))
   refine aH (.slice Ap P2.length cp) rfl rfl hS (fun u hu=>by
    have h1:=ah (j:=1) hu;go_simp) ?_
   refine aC rfl ?_;intro K hK;go_simp;refine ⟨_,hS,fun _ h=>h,hK _ _ _ ?_⟩;clear hK K;refine lV rfl rfl (.tmp 28) (.tmp 30) rfl kR (v:=.slice A4 RJ.p.length c4) rfl op.drew rfl hrow (C4 P2) (by omega) (by omega) ug ?_;intro v' w' ho hg hb hat;have hgr:=grown_drew hg.out;obtain ⟨A5,c5,rfl,hc5⟩:=ak ho;obtain ⟨d0,d1,df,dz⟩:=iW hk hC hT.out.hp hgr nep;have ZF:(Value.slice A4 RJ.p.length c4).ownBlock≠some b0:=hfk.2.2 _ _ vT;have eV:(fun u:World=>u.heap[b0]? = some (.cells #[.slice A2 L2.length c2,.slice Ap P2.length cp] 216)) w':=(hgr.block _ hfk.2.1 (fun e=>ZF e.symm)).trans hbk2;refine ⟨_,eV,fun _ h=>h,?_⟩;have hlp:(RJ.say P2).p.length=RJ.p.length+P2.length:=by simp [Il.Rw.say]
   have t3:=wY hk hC hT.out.hp ug (R':=RJ.say P2) rfl hgr (by rw [hlp];simpa [Il.Rw.say,aj] using ho) hat.out;have pF:=Lib.hid (t3.kids Vd.out);replace t3:=Lib.hid (t0.out.trans (YW.out.trans t3));have x9:(fun u:World=>u.heap[b0]? = some (.cells #[.slice A2 L2.length c2,.slice Ap P2.length cp] 216)) (w'.setCell ⟨g,o+1,none⟩ (.slice A5 (RJ.p.length+P2.length) c5)):=(Below.heap_setCell _ _ _ _ (fun e=>hgb e.symm)).trans eV
   iterate 2 (first | refine an rfl ?_ | (refine ay rfl ?_;intro K hK;go_simp;refine hK _ _ _ ?_;clear hK K))
   refine bg rfl rfl (eD rfl (by kernel_rfl) rfl rfl d1 df) x9 ?_;refine aM ?_;clear eV x9 ho hg hb hat hT YW Vd;go_wp2_with fail;go_returns;rw [hend.out];exact ⟨rfl,vi',_,css',t3.out,pF.out⟩
end
end Go.Proofs.YtddkjkockbcamaaGreatDoor
namespace Go.Proofs.YtddkjkockbcamaaGreatDoor
open Go.RowKit
theorem Cp (s:Nat) (hs:s≤1000) (w:World):Calls Tryz.prog 204 #[.int .i64 (s:Int)] w fun e w'=>e=.returned (.int .i64 (Il.kd s:Nat))∧w'=w:=by
 by_cases h:s=2
 ·subst h
  go_enter Tryz.func204,Tryz.ntmps204;go_wp2_with fail;go_ret;exact ⟨rfl,rfl⟩
 ·have h2:((s:Int)==2)=false:=by simp;omega
  have h3:Hid (Il.kd s=2):=Lib.hid (by unfold Il.kd;rw [if_neg h]);clear h;go_enter Tryz.func204,Tryz.ntmps204;go_wp2_with fail;go_ret;rw [h3.out];exact ⟨rfl,rfl⟩
theorem Mo (g n c hi:Nat) {v:Int}(hv:v=(hi:Int)) (h2:hi≤c) (w:World) :
  (Instr.slice 218 (.slice (some ⟨g,0,none⟩) n c) none (some (.int .i64 v)) none).run Tryz.prog w=.ok (.slice (some ⟨g,0,none⟩) hi c) w :=
 vj (by kernel_rfl) 2 (fun w=>by kernel_rfl) g n c hi hv h2 w
section
variable {m:Ky→Option Pa}{a b c:Nat}{v:Value}{V:List V3}{w:World}{B:Nat}
theorem Jj (hA:VW a b c) (N:List Il.Rw) (R K:Il.Rw) (h:RS w B m a b c v (N++[R]++[K]) V) (hB:B≤w.heap.size) (kd:Nat) (hN:N.length≤1000000000) (hR:R.wt≤1000000000) (hK:K.wt≤1000000000) :
  Calls Tryz.prog 203 #[v,.int .i64 (kd:Int)] w fun e w'=>∃ v',e=.returned v'∧∃ V',RS w' B m a b c v' (N++[R.put (.mk kd [] [] K.full)]) V'∧bV B (az m a b c v (N++[R]++[K]) V) w (az m a b c v' (N++[R.put (.mk kd [] [] K.full)]) V') w':=by
 obtain ⟨n,hn⟩:∃ n,n=N.length+1:=⟨_,rfl⟩
 have hlen:(N++[R]++[K]).length=n+1:=by simp [hn]
 obtain ⟨g,cp,rfl,Vp,hBg,F4⟩:=h.slice (by omega);rw [hlen] at Vp;have YS:(N++[R]++[K])[n]? = some K:=by rw [List.getElem?_append_right (by simp [hn])];simp [hn]
 obtain ⟨x1,y1,z1,e1,q1,i1⟩:=h.look hA YS;have hc1:=h.cn (i:=n) rfl (by omega);have hKw:K.p.length≤1000000000∧K.l.length≤1000000000:=by unfold Il.Rw.wt at hK;omega
 have hall:=Lib.hid (j9 (eN hA n) hc1 q1 i1 hB (by omega) (by omega));have hturn:=Lib.hid (fun (w':World) R' x y z t hI=>h.turned (w':=w') (R':=R') (x:=x) (y:=y) (z:=z) hA YS e1 t hI);have b9:=fun w=>gT g (n+1) cp (by omega) (by omega) w;have MY:=fun w=>gT g n cp (by omega) (by omega) w;have uf:(n+1-1)*2=n*2:=by omega
 rw [uf] at b9;obtain ⟨n2,hn2⟩:∃ n2,n2=(n-1)*2:=⟨_,rfl⟩
 have aan:=Lib.hid hn2;rw [← hn2] at MY;clear hn2;have hcut:=fun w=>Mo g (n+1) cp n (v:=(n:Int)) rfl (by omega) w;rw [hlen];have hsub:((n+1:Nat):Int)-1=(n:Int):=by omega
 have QM:bs []=⟨#[]⟩:=rfl;have hnb:n≤1000000001:=by omega
 replace hn:=Lib.hid hn;replace hlen:=Lib.hid hlen;replace YS:=Lib.hid YS;clear e1 q1 i1 hc1 h;go_enter Tryz.func203,Tryz.ntmps203;go_wp2_with fail;refine (b9 _).mono ?_;rintro e w0 ⟨rfl,rfl⟩;go_wp2_with fail;refine hall.out.mono ?_;rintro e w1 ⟨vi1,rfl,vp1,css1,t1,G4⟩;obtain ⟨h1,T1⟩:=hturn.out _ _ _ _ _ t1 G4;have hB1:=Nat.le_trans hB T1.bel.size;obtain ⟨A1,cA,rfl,Y7⟩:=ak (t1.hp.holds _ _ (gS (eN hA n)):w1.ownsRow B 35 4 vi1 K.full.length css1.flatten);have TO:((N++[R]++[K]).set n ⟨K.full,[]⟩).length=n+1:=by rw [List.length_set,hlen.out]
 obtain ⟨h2,T2,hk2⟩:=h1.pop hA hB1 (n:=n) TO (by rw [hlen.out]);have hV1:=h1.len;have hk3:=hk2 (by omega) (by omega) A1 cA (by rw [List.getElem_set_self,List.getElem_set_self]);simp only [List.getElem_set_self] at hk3;have htk:((N++[R]++[K]).set n ⟨K.full,[]⟩).take n=N++[R]:=by
  rw [List.take_set_of_le (Nat.le_refl n),List.take_left' (by simp [hn.out])]
 rw [htk] at h2 T2 hk3;obtain ⟨V2,hV2⟩:∃ V2,V2=(V.set n (.slice A1 K.full.length cA,vp1,css1)).take n:=⟨_,rfl⟩
 rw [← hV2] at h2 T2 hk3;have T12:=Lib.hid (T1.trans T2);have Y1:(N++[R])[n-1]? = some R:=by simp [hn.out]
 have VT:(N++[R]).length=n:=by simp [hn.out]
 obtain ⟨x3,y3,z3,e3,q3,i3⟩:=h2.look hA Y1;have hc3:=h2.cn (i:=n-1) (cp:=cp) (g:=g) (by rw [VT]) (by have:=hn.out;omega);have hRw:R.p.length≤1000000000∧R.l.length≤1000000000:=by unfold Il.Rw.wt at hR;omega
 have hx3:IC w1 (Fr w1 B (aN (az m a b c (.slice (some ⟨g,0,none⟩) n cp) (N++[R]) V2) (mu a b c (n-1)) (BT (.slice (some ⟨g,0,none⟩) n cp) (N++[R]).length V2 (n-1)) R x3 y3 z3)) (.mk kd [] [] K.full) [.int .i64 (kd:Int),.string (bs []),.string (bs []),.slice A1 K.full.length cA]:=by
  rw [e3];unfold IC;exact ⟨A1,cA,css1,rfl,Y7,hk3.1,hk3.2⟩
 have hput:=Lib.hid (vM (eN hA (n-1)) hc3 q3 i3 hB1 (by omega) (by omega) kd [] [] K.full A1 cA hx3);have PG:=Lib.hid (fun (w':World) R' x y z t hI=>h2.turned (w':=w') (R':=R') (x:=x) (y:=y) (z:=z) hA Y1 e3 t hI);have hset:Hid ((N++[R]).set (n-1) (R.put (.mk kd [] [] K.full))=N++[R.put (.mk kd [] [] K.full)]):=Lib.hid (by
  have:n-1=N.length:=by have:=hn.out;omega
  rw [this];simp)
 replace VT:=Lib.hid VT;rw [QM,← aan.out] at hput;clear hx3 e3 q3 i3 hc3 hk3 hk2 h2 T2 h1 T1 t1 G4 hall hturn hV2 Y1 htk TO hV1;go_wp2_with fail;refine (MY _).mono ?_;rintro e w2 ⟨rfl,rfl⟩;go_wp2_with fail;refine hput.out.mono ?_;rintro e w3 ⟨rfl,vi4,vp4,css4,t4,Wh⟩;obtain ⟨h5,T5⟩:=PG.out _ _ _ _ _ t4 Wh;rw [hset.out] at h5 T5;have T6:=Lib.hid (T12.out.trans T5);rw [hlen.out] at T6;replace h5:=Lib.hid h5;clear t4 Wh T5 PG;go_wp2_with fail;go_ret;exact ⟨_,rfl,_,h5.out,T6.out⟩
end
end Go.Proofs.YtddkjkockbcamaaGreatDoor
namespace Go.Proofs.YtddkjkockbcamaaGreatDoor
open Go.RowKit
attribute [local go_sem] aD av aq
theorem fW {P:Program}{ev:Operand→Value}{T:TypeId}{p x:Operand}{o:Oper}{w:World}{g off:Nat}{k:IntKind}{y:Int}{z0:Value}(ho:o.op=.store T p x) (hsz:(sizeOf T).run P w=.ok 1 w) (hp:ev p=.pointer (some ⟨g,off,none⟩)) (hx:ev x=.int k y)
  (h0:w.cell? ⟨g,off,none⟩=some z0) (hf:∀ j,w.frozen? ⟨g,j,none⟩=false) :
  (execOp ev o).run P w=.ok .skip (w.setCell ⟨g,off,none⟩ (.int k y)):=by
 unfold execOp;rw [ho];go_simp
structure Tw (w:World) (B g1 g2 n:Nat) (O L:List Nat):Prop where
 o:w.ownsRow B 3 1 (.slice (some ⟨g1,0,none⟩) n n) n (aB O)
 l:w.ownsRow B 3 1 (.slice (some ⟨g2,0,none⟩) n n) n (aB L)
 ne:g1≠g2
 ol:O.length=n
 ll:L.length=n
section
variable {w w':World}{B g1 g2 n:Nat}{O L:List Nat}
theorem Tw.ext (h:Tw w B g1 g2 n O L) (hb:Below w.heap.size w w'):Tw w' B g1 g2 n O L:=⟨bQ h.o hb,bQ h.l hb,h.ne,h.ol,h.ll⟩
theorem Oz (L:List Nat) (i x:Nat):(aB L).set i (.int .i64 (x:Int))=aB (L.set i x):=by simp [aB,List.map_set]
theorem Tw.F6 (h:Tw w B g1 g2 n O L) (i y:Nat):Tw (w.setCell ⟨g1,i,none⟩ (.int .i64 (y:Int))) B g1 g2 n (O.set i y) L :=
 ⟨by rw [← Oz];exact (World.ownsRow.stored h.o i _).1,World.ownsRow.kept h.l (ax w ⟨g1,i,none⟩ _) (.inr (fun e=>h.ne (Option.some.inj e).symm)),h.ne,by rw [List.length_set];exact h.ol,h.ll⟩
theorem Tw.wh (h:Tw w B g1 g2 n O L) (i y:Nat):Tw (w.setCell ⟨g2,i,none⟩ (.int .i64 (y:Int))) B g1 g2 n O (L.set i y) :=
 ⟨World.ownsRow.kept h.o (ax w ⟨g2,i,none⟩ _) (.inr (fun e=>h.ne (Option.some.inj e))),by rw [← Oz];exact (World.ownsRow.stored h.l i _).1,h.ne,h.ol,by rw [List.length_set];exact h.ll⟩
theorem Tw.XI (h:Tw w B g1 g2 n O L) {i:Nat}(hi:i<n):w.cell? ⟨g1,i,none⟩=some (.int .i64 ((O[i]'(by rw [h.ol];exact hi):Nat):Int)) :=
 aK h.o (by rw [aB,List.getElem?_map,List.getElem?_eq_getElem (by rw [h.ol];exact hi)];rfl)
theorem Tw.at2 (h:Tw w B g1 g2 n O L) {i:Nat}(hi:i<n):w.cell? ⟨g2,i,none⟩=some (.int .i64 ((L[i]'(by rw [h.ll];exact hi):Nat):Int)) :=
 aK h.l (by rw [aB,List.getElem?_map,List.getElem?_eq_getElem (by rw [h.ll];exact hi)];rfl)
theorem Tw.WC (h:Tw w B g1 g2 n O L):B≤g1∧g1<w.heap.size:=World.ownsRow.lt h.o g1 rfl
theorem Tw.Qo (h:Tw w B g1 g2 n O L):B≤g2∧g2<w.heap.size:=World.ownsRow.lt h.l g2 rfl
theorem Tw.fz1 (h:Tw w B g1 g2 n O L) (j:Nat):w.frozen? ⟨g1,j,none⟩=false:=World.ownsRow.frozenAt h.o j
theorem Tw.Wx (h:Tw w B g1 g2 n O L) (j:Nat):w.frozen? ⟨g2,j,none⟩=false:=World.ownsRow.frozenAt h.l j
end
theorem IV:EI Tryz.prog 23 3 1 8:=EI.mk' (z:=.int .i64 0) Tryz.underlying23 (by kernel_rfl) rfl (by omega)
theorem ux (n:Nat):(madeCells #[Value.int .i64 0] (n*1)).toList=aB (List.replicate n 0):=by
 apply List.ext_getElem?;intro i
 by_cases h:i<n
 ·simp [madeCells,aB,h,Nat.mod_one]
 ·simp [madeCells,aB,h]
theorem C8 (X:List (Nat×Nat×Nat)) (x:Nat×Nat×Nat) (r:Nat):Il.opn (X++[x]) r=Il.opn X r+if x.1=r then 1 else 0:=by
 unfold Il.opn;rw [List.countP_append];simp [List.countP_cons]
theorem DR (runs:List Em.R) (X:List (Nat×Nat×Nat)) (A:Option Addr) (c:Nat) (A2:Option Addr) (c2:Nat) (w:World) (hR:Row w w.heap.size 4 A runs.length (aF runs)) (hX:Row w w.heap.size 3 A2 X.length (gI X))
  (hn:runs.length≤4000000) (VR:X.length≤400000000) (hin:∀ x∈X,x.1<runs.length∧x.2.1<runs.length∧x.1≠x.2.1∧x.2.2≤2) (hpos:∀ r∈runs,0≤r.n∧r.n≤1000000000) (mm:∀ i,i<runs.length→Em.used X i≤Il.cnt runs i) :
  Calls Tryz.prog 202 #[.slice A runs.length c,.slice A2 X.length c2] w fun e w'=>∃ g1 g2 O L,e=.returned (.tuple #[.slice (some ⟨g1,0,none⟩) runs.length runs.length,.slice (some ⟨g2,0,none⟩) runs.length runs.length])∧Tw w' w.heap.size g1 g2 runs.length O L∧(∀ i (h:i<O.length),O[i]=Il.opn X i)∧(∀ i (h:i<L.length),L[i]=Il.cnt runs i-Em.used X i)∧Below w.heap.size w w':=by
 obtain ⟨n,hnn⟩:∃ n,n=runs.length:=⟨_,rfl⟩
 rw [← hnn] at hR hn hin mm ⊢;have hmk:=fun w=>run_mk (P:=Tryz.prog) IV (z:=.int .i64 0) (by kernel_rfl) n (by omega) (by omega) w;obtain ⟨cs,hcs⟩:∃ cs:Nat→Nat,cs=Il.cnt runs:=⟨_,rfl⟩
 rw [← hcs] at mm ⊢;have hcb:=Lib.hid (fun i=>(show cs i≤1000000000 from by rw [hcs];exact Il.Uw hpos i));replace hcs:=Lib.hid hcs;replace hR:=Lib.hid hR;replace hX:=Lib.hid hX;replace hin:=Lib.hid hin;replace mm:=Lib.hid mm;replace hpos:=Lib.hid hpos;replace hnn:=Lib.hid hnn;go_enter Tryz.func202,Tryz.ntmps202;go_upto_region 1 with fail
 refine aE (.rd 0 (.rd 1 (.rd 3 (.rd 4 (.fk 2 (.rd 6 (.mk 5 (.rd 7 .fin))) 5 (.mk 2 (.rd 6 (.rd 7 .fin)))))))) (fun _=>True) trivial (by kernel_rfl) (by kernel_rfl) (by kernel_rfl) (fun _ _ d _ _ h=>by cases d<;>exact h) ?_
 iterate 4 (first | refine an rfl ?_ | (refine ay rfl ?_;intro K hK;go_simp;refine hK _ _ _ ?_;clear hK K))
 refine iF ?wa ?wb
 case' wa =>
  refine aC rfl ?_;intro K hK;go_simp;refine ⟨fun _=>True,trivial,hK _ _ _ ?_⟩;clear hK K
  (first | refine an rfl ?_ | (refine ay rfl ?_;intro K hK;go_simp;refine hK _ _ _ ?_;clear hK K))
  refine aC rfl ?_;intro K hK;go_simp;refine ⟨fun _=>True,trivial,hK _ _ _ ?_⟩;clear hK K
  (first | refine an rfl ?_ | (refine ay rfl ?_;intro K hK;go_simp;refine hK _ _ _ ?_;clear hK K))
  refine aM ?_;obtain ⟨W,hW⟩:∃ W,W=((w.alloc (.cells (madeCells #[.int .i64 0] n) 3)).alloc (.cells (madeCells #[.int .i64 0] n) 3)).drew:=⟨_,rfl⟩
  have hb0:Below w.heap.size w W:=by rw [hW];exact below_drewN (((Below.refl _ w).alloc (Nat.le_refl _) _).alloc (by simp) _) 1
  have ho1:W.ownsRow w.heap.size 3 1 (.slice (some ⟨w.heap.size,0,none⟩) n n) n (aB (List.replicate n 0)):=by
   rw [hW,← ux n];have:=cW w w.heap.size 1 n 3 #[.int .i64 0] (Nat.le_refl _) (by omega);rw [Nat.mul_one] at this ⊢;exact (this.alloc _).drew
  have ho2:W.ownsRow w.heap.size 3 1 (.slice (some ⟨w.heap.size+1,0,none⟩) n n) n (aB (List.replicate n 0)):=by
   rw [hW,← ux n];have:=cW (w.alloc (.cells (madeCells #[.int .i64 0] n) 3)) w.heap.size 1 n 3 #[.int .i64 0] (by simp) (by omega);rw [Nat.mul_one] at this ⊢;have e:(w.alloc (.cells (madeCells #[.int .i64 0] n) 3)).heap.size=w.heap.size+1:=by simp
   rw [e] at this;exact this.drew
  rw [← hW];clear hW;have PN:Tw W w.heap.size (w.heap.size) (w.heap.size+1) n (List.replicate n 0) (List.replicate n 0):=⟨ho1,ho2,by omega,by simp,by simp⟩
  clear ho1 ho2;obtain ⟨g1,hg1⟩:∃ g,g=w.heap.size:=⟨_,rfl⟩
  obtain ⟨g2,hg2⟩:∃ g,g=w.heap.size+1:=⟨_,rfl⟩
  have C5:Tw W w.heap.size g1 g2 n (List.replicate n 0) (List.replicate n 0):=by rw [hg1,hg2];exact PN
  rw [← hg2,← hg1];clear PN hg1 hg2;replace C5:=Lib.hid C5;replace hb0:=Lib.hid hb0;clear hmk
  go_upto_block 1 with fail
  go_loopw [18] (fun u wr=>∃ (j:Nat) (L:List Nat),u=.int .i64 (j:Int)∧j≤n∧Hid (Tw wr w.heap.size g1 g2 n (List.replicate n 0) L)∧Hid (∀ i (h:i<L.length),L[i]=if i<j then cs i else 0)∧Hid (Below w.heap.size w wr)) (fun u _=>n-(intOf u).toNat)
  case atStart=>exact ⟨0,List.replicate n 0,rfl,by omega,C5,Lib.hid (by intro i h;simp),hb0⟩
  case round =>
   obtain ⟨j,L,rfl,hj,hT,hL,hb⟩:=hrel;have hbz:=hb.out.size
   by_cases hlt:j<n
   ·obtain ⟨b,o,rfl,hbl,hcell⟩:=hR.out.2 (by omega)
    have K1:j<runs.length:=by rw [← hnn.out];exact hlt
    have hat:=fun i (hi:i<4)=>gW (f:=jT) (m:=4) (fun _=>rfl) runs j i K1 hi;have LR:cs j=(runs[j].n).toNat:=by rw [hcs.out];unfold Il.cnt;rw [Em.get_at K1]
    have Yr:=hpos.out _ (List.getElem_mem K1);generalize runs[j]=r at hat LR Yr;have x0:=(hb.out.cell (p:=⟨b,o+(j*4+0),none⟩) hbl).trans (hcell _ _ (hat 0 (by omega)));have x1:=(hb.out.cell (p:=⟨b,o+(j*4+1),none⟩) hbl).trans (hcell _ _ (hat 1 (by omega)));have x2:=(hb.out.cell (p:=⟨b,o+(j*4+2),none⟩) hbl).trans (hcell _ _ (hat 2 (by omega)));have x3:=(hb.out.cell (p:=⟨b,o+(j*4+3),none⟩) hbl).trans (hcell _ _ (hat 3 (by omega)));simp only [← Nat.add_assoc,Nat.add_zero] at x0 x1 x2 x3;have hbr:b<wr.heap.size:=Nat.lt_of_lt_of_le hbl hbz;have pS:r.n=((cs j:Nat):Int):=by rw [LR];omega
    rw [pS] at x1;obtain ⟨ch,rn,ro,rc⟩:=r;simp only at pS;subst pS;clear hcell hat LR Yr;obtain ⟨y,hy⟩:∃ y,y=cs j:=⟨_,rfl⟩
    rw [← hy] at x1;replace hy:=Lib.hid hy;have jC:=Lib.hid (hT.out.ext (aa wr (.cells #[.int .u8 (ch.toNat:Int),.int .i64 (y:Int),.bool ro,.bool rc] 240)));have hxb:(wr.alloc (.cells #[.int .u8 (ch.toNat:Int),.int .i64 (y:Int),.bool ro,.bool rc] 240)).heap[wr.heap.size]? = some (.cells #[.int .u8 (ch.toNat:Int),.int .i64 (y:Int),.bool ro,.bool rc] 240):=heap_alloc_new wr _;have hba:=Lib.hid (hb.out.alloc hbz (.cells #[.int .u8 (ch.toNat:Int),.int .i64 (y:Int),.bool ro,.bool rc] 240));have AW:(wr.alloc (.cells #[.int .u8 (ch.toNat:Int),.int .i64 (y:Int),.bool ro,.bool rc] 240)).heap.size=wr.heap.size+1:=by simp
    go_upto_region 5 with fail
    obtain ⟨wa,xD⟩:∃ wa,wa=wr.alloc (.cells #[.int .u8 (ch.toNat:Int),.int .i64 (y:Int),.bool ro,.bool rc] 240):=⟨_,rfl⟩
    obtain ⟨bx,rq⟩:∃ bx,bx=wr.heap.size:=⟨_,rfl⟩
    rw [← xD] at jC hxb hba AW ⊢;rw [← rq] at hxb AW ⊢;have y1:=ah hxb 1;simp only [List.getElem?_toArray,List.getElem?_cons_zero,List.getElem?_cons_succ] at y1;have Kw:bx<wa.heap.size:=by omega
    have q2:=jC.out.at2 hlt;have q3:=jC.out.Wx;have q4:=jC.out.Qo.2;have hls:L.length=n:=hT.out.ll;have YU:=Lib.hid (jC.out.wh j y);have QM:=Lib.hid (hba.out.setCell (p:=⟨g2,j,none⟩) jC.out.Qo.1 (.int .i64 (y:Int)));have ZB:Hid (∀ i (h:i<(L.set j y).length),(L.set j y)[i]=if i<j+1 then cs i else 0):=Lib.hid (fun i h=>by
     by_cases hij:j=i
     ·subst hij;rw [List.getElem_set_self,if_pos (by omega)];exact hy.out
     ·rw [List.getElem_set_ne hij,hL.out i (by rw [List.length_set] at h;exact h)]
      by_cases h1:i<j
      ·rw [if_pos h1,if_pos (by omega)]
      ·rw [if_neg h1,if_neg (by omega)])
    generalize (L[j]'(by omega):Nat)=old at q2;replace hls:=Lib.hid hls;clear xD hxb x0 x1 x2 x3 AW rq hT hb jC hba hL;go_wp2_with fail
    go_roundw
    case rel=>exact ⟨j+1,L.set j y,by go_num,by omega,YU,ZB,QM⟩
    case measure=>simp [intOf];omega
   ·have hjn:j=n:=by omega
    subst hjn;have hL2:Hid (∀ i (h:i<L.length),L[i]=cs i):=Lib.hid (fun i h=>by rw [hL.out i h,if_pos (by have:=hT.out.ll;omega)]);clear hL C5 hb0;go_wp2_with fail
    go_loopw [31] (fun u wr=>∃ (k:Nat) (O L:List Nat),u=.int .i64 (k:Int)∧k≤X.length∧Hid (Tw wr w.heap.size g1 g2 j O L)∧Hid (∀ i (h:i<O.length),O[i]=Il.opn (X.take k) i)∧Hid (∀ i (h:i<L.length),L[i]=cs i-Em.used (X.take k) i)∧Hid (Below w.heap.size w wr)) (fun u _=>X.length-(intOf u).toNat)
    case atStart=>exact ⟨0,List.replicate j 0,L,rfl,by omega,hT,Lib.hid (by intro i h;simp [Il.opn]),Lib.hid (by intro i h;rw [hL2.out i h];simp [Em.used]),hb⟩
    case round =>
     clear hT hL2 hb;obtain ⟨k,O,L2,rfl,hk,hT,hO,hL,hb⟩:=hrel;have hbz:=hb.out.size
     by_cases hlt:k<X.length
     ·obtain ⟨b,o,rfl,hbl,hcell⟩:=hX.out.2 (by omega)
      have hat:=fun i (hi:i<3)=>gW (f:=uT) (m:=3) (fun _=>rfl) X k i hlt hi;have Hj:=hin.out _ (List.getElem_mem hlt);have htk:X.take (k+1)=X.take k++[X[k]]:=List.take_succ_eq_append_getElem hlt;have U5:∀ i,Em.used (X.take (k+1)) i≤Em.used X i:=fun i=>Il.og X (k+1) i;generalize X[k]=x at hat Hj htk;obtain ⟨pa,pb,ps⟩:=x;simp only at Hj;obtain ⟨ha,jB,hab,hs2⟩:=Hj;have x0:=(hb.out.cell (p:=⟨b,o+(k*3+0),none⟩) hbl).trans (hcell _ _ (hat 0 (by omega)));have x1:=(hb.out.cell (p:=⟨b,o+(k*3+1),none⟩) hbl).trans (hcell _ _ (hat 1 (by omega)));have x2:=(hb.out.cell (p:=⟨b,o+(k*3+2),none⟩) hbl).trans (hcell _ _ (hat 2 (by omega)));simp only [← Nat.add_assoc,Nat.add_zero] at x0 x1 x2;have hbr:b<wr.heap.size:=Nat.lt_of_lt_of_le hbl hbz;have Sd:∀ i,Em.used (X.take (k+1)) i=Em.used (X.take k) i+((if pa=i then ps else 0)+if pb=i then ps else 0):=fun i=>by rw [htk,Em.iZ]
      have WX:∀ i,Il.opn (X.take (k+1)) i=Il.opn (X.take k) i+if pa=i then 1 else 0:=fun i=>by rw [htk,C8]
      have NI:∀ i,Il.opn (X.take k) i≤X.length:=fun i=>Nat.le_trans (by unfold Il.opn;exact List.countP_le_length) (by rw [List.length_take];omega);have VH:=hO.out pa (by rw [hT.out.ol];exact ha);have UG:=hL.out pa (by rw [hT.out.ll];exact ha);have Vf:=hL.out pb (by rw [hT.out.ll];exact jB);have hca:=hcb.out pa;have TU:=hcb.out pb;have Oa:=Sd pa;have PC:=Sd pb;rw [if_pos rfl,if_neg (fun e=>hab e.symm)] at Oa;rw [if_neg hab,if_pos rfl] at PC;have Uh:=U5 pa;have UJ:=U5 pb;have UW:=mm.out pa ha;have VM:=mm.out pb jB;have UE:=NI pa;have jC:=hT.out.ext (aa wr (.cells #[.int .i64 (pa:Int),.int .i64 (pb:Int),.int .i64 (ps:Int)] 241));have hxb:(wr.alloc (.cells #[.int .i64 (pa:Int),.int .i64 (pb:Int),.int .i64 (ps:Int)] 241)).heap[wr.heap.size]? = some (.cells #[.int .i64 (pa:Int),.int .i64 (pb:Int),.int .i64 (ps:Int)] 241):=heap_alloc_new wr _;have hba:=Lib.hid (hb.out.alloc hbz (.cells #[.int .i64 (pa:Int),.int .i64 (pb:Int),.int .i64 (ps:Int)] 241));have AW:(wr.alloc (.cells #[.int .i64 (pa:Int),.int .i64 (pb:Int),.int .i64 (ps:Int)] 241)).heap.size=wr.heap.size+1:=by simp
      have q1:=jC.XI ha;have q2:=jC.at2 ha;have q3:=jC.at2 jB;have hol:=hT.out.ol;have uU:=hT.out.ll;obtain ⟨va,XL⟩:∃ va,va=O[pa]'(by omega):=⟨_,rfl⟩
      obtain ⟨la,hla⟩:∃ la,la=L2[pa]'(by omega):=⟨_,rfl⟩
      obtain ⟨lb,hlb⟩:∃ lb,lb=L2[pb]'(by omega):=⟨_,rfl⟩
      rw [← XL] at q1 VH;rw [← hla] at q2 UG;rw [← hlb] at q3 Vf;have hsa:ps≤la:=by omega
      have hsb:ps≤lb:=by omega
      have Zc:va≤400000000:=by omega
      have Fa:la≤1000000000:=by omega
      have Zx:lb≤1000000000:=by omega
      have Rq:Hid (∀ i (h:i<(O.set pa (va+1)).length),(O.set pa (va+1))[i]=Il.opn (X.take (k+1)) i):=Lib.hid (fun i h=>by
       rw [WX]
       by_cases hij:pa=i
       ·subst hij;rw [List.getElem_set_self,if_pos rfl,VH]
       ·rw [List.getElem_set_ne hij,if_neg hij,hO.out i (by rw [List.length_set] at h;exact h),Nat.add_zero])
      have hL3:Hid (∀ i (h:i<((L2.set pa (la-ps)).set pb (lb-ps)).length),((L2.set pa (la-ps)).set pb (lb-ps))[i]=cs i-Em.used (X.take (k+1)) i):=Lib.hid (fun i h=>by
       rw [Sd]
       by_cases h1:pb=i
       ·subst h1;rw [List.getElem_set_self,if_neg hab,if_pos rfl,Vf];omega
       ·rw [List.getElem_set_ne h1,if_neg h1]
        by_cases h2:pa=i
        ·subst h2;rw [List.getElem_set_self,if_pos rfl,UG];omega
        ·rw [List.getElem_set_ne h2,if_neg h2,hL.out i (by simpa using h)];omega)
      have Z7:=hT.out.ne;have oQ:=jC.F6 pa (va+1);have mZ:=oQ.wh pa (la-ps);have k9:=Lib.hid (mZ.wh pb (lb-ps));have EV:=Lib.hid (hba.out.setCell (p:=⟨g1,pa,none⟩) jC.WC.1 (.int .i64 ((va+1:Nat):Int)));have AU:=Lib.hid (EV.out.setCell (p:=⟨g2,pa,none⟩) jC.Qo.1 (.int .i64 ((la-ps:Nat):Int)));have vb:=Lib.hid (AU.out.setCell (p:=⟨g2,pb,none⟩) jC.Qo.1 (.int .i64 ((lb-ps:Nat):Int)));have ff1:=jC.fz1;have ff2:=oQ.Wx;have ff3:=mZ.Wx;have r2:=oQ.at2 ha;have r3:=mZ.at2 jB;rw [← hla] at r2;rw [List.getElem_set_ne hab,← hlb] at r3;have e1:((va+1:Nat):Int)=(va:Int)+1:=by omega
      have e2:((la-ps:Nat):Int)=(la:Int)-(ps:Int):=by omega
      have e3:((lb-ps:Nat):Int)=(lb:Int)-(ps:Int):=by omega
      have aap:IntKind.i64.wrap ((la:Int)-(ps:Int))=(la:Int)-(ps:Int):=by rw [IntKind.wrap_i64];omega
      have aak:IntKind.i64.wrap ((lb:Int)-(ps:Int))=(lb:Int)-(ps:Int):=by rw [IntKind.wrap_i64];omega
      have OO:g1≠wr.heap.size:=by have:=hT.out.WC.2;omega
      have EU:g2≠wr.heap.size:=by have:=hT.out.Qo.2;omega
      have hs1:(wr.alloc (.cells #[.int .i64 (pa:Int),.int .i64 (pb:Int),.int .i64 (ps:Int)] 241)).setCell ⟨g1,pa,none⟩ (.int .i64 ((va+1:Nat):Int))=(wr.alloc (.cells #[.int .i64 (pa:Int),.int .i64 (pb:Int),.int .i64 (ps:Int)] 241)).setCell ⟨g1,pa,none⟩ (.int .i64 ((va:Int)+1)):=by rw [e1]
      clear hcell hat htk U5 Sd WX NI VH UG Vf hca TU Oa PC Uh UJ UW VM UE;go_upto_region 10 with fail
      obtain ⟨wa,xD⟩:∃ wa,wa=wr.alloc (.cells #[.int .i64 (pa:Int),.int .i64 (pb:Int),.int .i64 (ps:Int)] 241):=⟨_,rfl⟩
      obtain ⟨bx,rq⟩:∃ bx,bx=wr.heap.size:=⟨_,rfl⟩
      rw [← xD] at jC hxb hba AW hs1 oQ mZ k9 EV AU vb ff1 ff2 ff3 r2 r3 q1 q2 q3 ⊢;rw [← rq] at hxb AW OO EU ⊢;have vQ:(wa.setCell ⟨g1,pa,none⟩ (.int .i64 ((va+1:Nat):Int))).heap[bx]? = some (.cells #[.int .i64 (pa:Int),.int .i64 (pb:Int),.int .i64 (ps:Int)] 241):=(Below.heap_setCell _ _ _ _ (fun e=>OO e.symm)).trans hxb;have o6:((wa.setCell ⟨g1,pa,none⟩ (.int .i64 ((va+1:Nat):Int))).setCell ⟨g2,pa,none⟩ (.int .i64 ((la-ps:Nat):Int))).heap[bx]? = some (.cells #[.int .i64 (pa:Int),.int .i64 (pb:Int),.int .i64 (ps:Int)] 241):=(Below.heap_setCell _ _ _ _ (fun e=>EU e.symm)).trans vQ;have y0:=ah hxb 0;have y1:=ah hxb 1;have y2:=ah hxb 2;simp only [List.getElem?_toArray,List.getElem?_cons_zero,List.getElem?_cons_succ] at y0 y1 y2;have Kw:bx<wa.heap.size:=by omega
      have L4:=jC.WC.2;have hai:(pa:Int)<(j:Int):=by omega
      have uE:(pb:Int)<(j:Int):=by omega
      replace oQ:=Lib.hid oQ;replace mZ:=Lib.hid mZ;replace e1:=Lib.hid e1;replace e2:=Lib.hid e2;replace e3:=Lib.hid e3;replace hs1:=Lib.hid hs1;replace vQ:=Lib.hid vQ;replace o6:=Lib.hid o6;replace r2:=Lib.hid r2;replace r3:=Lib.hid r3;replace ff2:=Lib.hid ff2;replace ff3:=Lib.hid ff3;replace hol:=Lib.hid hol;replace uU:=Lib.hid uU;clear XL hla hlb xD hxb x0 x1 x2 AW rq hT hb jC hba hO hL;go_upto_region 11 with fail
      rw [← hs1.out];obtain ⟨w1,hw1⟩:∃ w1,w1=wa.setCell ⟨g1,pa,none⟩ (.int .i64 ((va+1:Nat):Int)):=⟨_,rfl⟩
      rw [← hw1] at oQ mZ k9 EV AU vb ff2 ff3 r2 r3 vQ o6 ⊢;clear hs1 hw1 q1 q2 q3 ff1 y0 y1 y2 Kw L4;have hS:(fun u:World=>u.heap[bx]? = some (.cells #[.int .i64 (pa:Int),.int .i64 (pb:Int),.int .i64 (ps:Int)] 241)) w1.drew:=vQ.out;have ie:(fun u:World=>u.heap[bx]? = some (.cells #[.int .i64 (pa:Int),.int .i64 (pb:Int),.int .i64 (ps:Int)] 241)) (w1.drew.setCell ⟨g2,pa,none⟩ (.int .i64 ((la:Int)-(ps:Int)))):=by
       rw [← e2.out];exact o6.out
      refine aE (.rd 0 (.rd 1 (.rd 2 (.rd 3 (.rd 5 (.rd 6 (.mk 4 (.rd 7 (.rd 8 (.mk 9 .fin)))))))))) (fun u:World=>u.heap[bx]? = some (.cells #[.int .i64 (pa:Int),.int .i64 (pb:Int),.int .i64 (ps:Int)] 241)) hS (by kernel_rfl) (by kernel_rfl) (by kernel_rfl) (fun _ _ d _ _ h=>by cases d<;>exact h) ?_
      iterate 2 (first | refine an rfl ?_ | (refine ay rfl ?_;intro K hK;go_simp;refine hK _ _ _ ?_;clear hK K))
      refine aH (.int .i64 (pa:Int)) rfl rfl hS (fun u hu=>by
       have h1:=ah (j:=0) hu;go_simp) ?_
      iterate 2 (first | refine an rfl ?_ | (refine ay rfl ?_;intro K hK;go_simp;refine hK _ _ _ ?_;clear hK K))
      refine aH (.int .i64 (ps:Int)) rfl rfl hS (fun u hu=>by
       have h1:=ah (j:=2) hu;go_simp) ?_
      have r2':=r2.out;refine aC rfl ?_;intro K hK;go_simp;refine ⟨_,hS,fun _ h=>h,hK _ _ _ ?_⟩;clear hK K
      iterate 2 (first | refine an rfl ?_ | (refine ay rfl ?_;intro K hK;go_simp;refine hK _ _ _ ?_;clear hK K))
      refine bg rfl rfl (fW rfl (by kernel_rfl) rfl rfl r2' ff2.out) ie ?_;refine aM ?_;have X6:((la:Int)-(ps:Int))=(((la-ps:Nat):Nat):Int):=e2.out.symm;rw [X6];obtain ⟨w2,hw2⟩:∃ w2,w2=w1.setCell ⟨g2,pa,none⟩ (.int .i64 ((la-ps:Nat):Int)):=⟨_,rfl⟩
      have ME:w1.drew.setCell ⟨g2,pa,none⟩ (.int .i64 ((la-ps:Nat):Int))=w2.drew:=by rw [hw2];rfl
      rw [← hw2] at mZ k9 AU vb ff3 r3 o6;rw [ME];clear hw2 ME ie r2' X6;go_upto_region 12 with fail
      have hS:(fun u:World=>u.heap[bx]? = some (.cells #[.int .i64 (pa:Int),.int .i64 (pb:Int),.int .i64 (ps:Int)] 241)) w2.drew.drew:=o6.out;have ie:(fun u:World=>u.heap[bx]? = some (.cells #[.int .i64 (pa:Int),.int .i64 (pb:Int),.int .i64 (ps:Int)] 241)) (w2.drew.drew.setCell ⟨g2,pb,none⟩ (.int .i64 ((lb:Int)-(ps:Int)))):=(Below.heap_setCell _ _ _ _ (fun e=>EU e.symm)).trans o6.out;refine aE (.rd 0 (.rd 1 (.rd 2 (.rd 3 (.rd 5 (.rd 6 (.mk 4 (.rd 7 (.rd 8 (.mk 9 .fin)))))))))) (fun u:World=>u.heap[bx]? = some (.cells #[.int .i64 (pa:Int),.int .i64 (pb:Int),.int .i64 (ps:Int)] 241)) hS (by kernel_rfl) (by kernel_rfl) (by kernel_rfl) (fun _ _ d _ _ h=>by cases d<;>exact h) ?_
      iterate 2 (first | refine an rfl ?_ | (refine ay rfl ?_;intro K hK;go_simp;refine hK _ _ _ ?_;clear hK K))
      refine aH (.int .i64 (pb:Int)) rfl rfl hS (fun u hu=>by
       have h1:=ah (j:=1) hu;go_simp) ?_
      iterate 2 (first | refine an rfl ?_ | (refine ay rfl ?_;intro K hK;go_simp;refine hK _ _ _ ?_;clear hK K))
      refine aH (.int .i64 (ps:Int)) rfl rfl hS (fun u hu=>by
       have h1:=ah (j:=2) hu;go_simp) ?_
      have r3':w2.drew.drew.cell? ⟨g2,pb,none⟩=some (.int .i64 (lb:Int)):=r3.out;have ff3':∀ j,w2.drew.drew.frozen? ⟨g2,j,none⟩=false:=ff3.out;refine aC rfl ?_;intro K hK;go_simp;refine ⟨_,hS,fun _ h=>h,hK _ _ _ ?_⟩;clear hK K
      iterate 2 (first | refine an rfl ?_ | (refine ay rfl ?_;intro K hK;go_simp;refine hK _ _ _ ?_;clear hK K))
      refine bg rfl rfl (fW rfl (by kernel_rfl) rfl rfl r3' ff3') ie ?_;refine aM ?_;rw [show ((lb:Int)-(ps:Int))=(((lb-ps:Nat):Nat):Int) from e3.out.symm];obtain ⟨w3,hw3⟩:∃ w3,w3=w2.setCell ⟨g2,pb,none⟩ (.int .i64 ((lb-ps:Nat):Int)):=⟨_,rfl⟩
      have MO:w2.drew.drew.setCell ⟨g2,pb,none⟩ (.int .i64 ((lb-ps:Nat):Int))=w3.drew.drew:=by rw [hw3];rfl
      rw [← hw3] at k9 vb;rw [MO];clear hw3 MO hS ie r3' ff3';have ZS:Hid (Tw w3.drew.drew w.heap.size g1 g2 j (O.set pa (va+1)) ((L2.set pa (la-ps)).set pb (lb-ps))):=Lib.hid ⟨k9.out.o.drew.drew,k9.out.l.drew.drew,k9.out.ne,k9.out.ol,k9.out.ll⟩;have oI:Hid (Below w.heap.size w w3.drew.drew):=Lib.hid (below_drewN (below_drewN vb.out 1) 1);go_wp2_with fail
      go_roundw
      case rel=>exact ⟨k+1,O.set pa (va+1),(L2.set pa (la-ps)).set pb (lb-ps),by go_num,by omega,ZS,Rq,hL3,oI⟩
      case measure=>simp [intOf];omega
     ·have hkl:k=X.length:=by omega
      subst hkl;have LV:=hO.out;have hL3:=hL.out;rw [List.take_length] at LV hL3;replace LV:=Lib.hid LV;replace hL3:=Lib.hid hL3;clear hO hL;go_wp2_with fail;go_ret2;exact ⟨g1,g2,O,L2,rfl,hT.out,LV.out,hL3.out,hb.out⟩
 case' wb =>
  refine aC rfl ?_;intro K hK;go_simp;refine ⟨fun _=>True,trivial,hK _ _ _ ?_⟩;clear hK K;refine aC rfl ?_;intro K hK;go_simp;refine ⟨fun _=>True,trivial,hK _ _ _ ?_⟩;clear hK K
  iterate 2 (first | refine an rfl ?_ | (refine ay rfl ?_;intro K hK;go_simp;refine hK _ _ _ ?_;clear hK K))
  refine aM ?_;obtain ⟨W,hW⟩:∃ W,W=((w.alloc (.cells (madeCells #[.int .i64 0] n) 3)).alloc (.cells (madeCells #[.int .i64 0] n) 3)).drew:=⟨_,rfl⟩
  have hb0:Below w.heap.size w W:=by rw [hW];exact below_drewN (((Below.refl _ w).alloc (Nat.le_refl _) _).alloc (by simp) _) 1
  have ho1:W.ownsRow w.heap.size 3 1 (.slice (some ⟨w.heap.size,0,none⟩) n n) n (aB (List.replicate n 0)):=by
   rw [hW,← ux n];have:=cW w w.heap.size 1 n 3 #[.int .i64 0] (Nat.le_refl _) (by omega);rw [Nat.mul_one] at this ⊢;exact (this.alloc _).drew
  have ho2:W.ownsRow w.heap.size 3 1 (.slice (some ⟨w.heap.size+1,0,none⟩) n n) n (aB (List.replicate n 0)):=by
   rw [hW,← ux n];have:=cW (w.alloc (.cells (madeCells #[.int .i64 0] n) 3)) w.heap.size 1 n 3 #[.int .i64 0] (by simp) (by omega);rw [Nat.mul_one] at this ⊢;have e:(w.alloc (.cells (madeCells #[.int .i64 0] n) 3)).heap.size=w.heap.size+1:=by simp
   rw [e] at this;exact this.drew
  rw [← hW];clear hW;have PN:Tw W w.heap.size (w.heap.size+1) (w.heap.size) n (List.replicate n 0) (List.replicate n 0):=⟨ho2,ho1,by omega,by simp,by simp⟩
  clear ho1 ho2;obtain ⟨g1,hg1⟩:∃ g,g=w.heap.size+1:=⟨_,rfl⟩
  obtain ⟨g2,hg2⟩:∃ g,g=w.heap.size:=⟨_,rfl⟩
  have C5:Tw W w.heap.size g1 g2 n (List.replicate n 0) (List.replicate n 0):=by rw [hg1,hg2];exact PN
  rw [← hg1,← hg2];clear PN hg1 hg2;replace C5:=Lib.hid C5;replace hb0:=Lib.hid hb0;clear hmk
  go_upto_block 1 with fail
  go_loopw [18] (fun u wr=>∃ (j:Nat) (L:List Nat),u=.int .i64 (j:Int)∧j≤n∧Hid (Tw wr w.heap.size g1 g2 n (List.replicate n 0) L)∧Hid (∀ i (h:i<L.length),L[i]=if i<j then cs i else 0)∧Hid (Below w.heap.size w wr)) (fun u _=>n-(intOf u).toNat)
  case atStart=>exact ⟨0,List.replicate n 0,rfl,by omega,C5,Lib.hid (by intro i h;simp),hb0⟩
  case round =>
   obtain ⟨j,L,rfl,hj,hT,hL,hb⟩:=hrel;have hbz:=hb.out.size
   by_cases hlt:j<n
   ·obtain ⟨b,o,rfl,hbl,hcell⟩:=hR.out.2 (by omega)
    have K1:j<runs.length:=by rw [← hnn.out];exact hlt
    have hat:=fun i (hi:i<4)=>gW (f:=jT) (m:=4) (fun _=>rfl) runs j i K1 hi;have LR:cs j=(runs[j].n).toNat:=by rw [hcs.out];unfold Il.cnt;rw [Em.get_at K1]
    have Yr:=hpos.out _ (List.getElem_mem K1);generalize runs[j]=r at hat LR Yr;have x0:=(hb.out.cell (p:=⟨b,o+(j*4+0),none⟩) hbl).trans (hcell _ _ (hat 0 (by omega)));have x1:=(hb.out.cell (p:=⟨b,o+(j*4+1),none⟩) hbl).trans (hcell _ _ (hat 1 (by omega)));have x2:=(hb.out.cell (p:=⟨b,o+(j*4+2),none⟩) hbl).trans (hcell _ _ (hat 2 (by omega)));have x3:=(hb.out.cell (p:=⟨b,o+(j*4+3),none⟩) hbl).trans (hcell _ _ (hat 3 (by omega)));simp only [← Nat.add_assoc,Nat.add_zero] at x0 x1 x2 x3;have hbr:b<wr.heap.size:=Nat.lt_of_lt_of_le hbl hbz;have pS:r.n=((cs j:Nat):Int):=by rw [LR];omega
    rw [pS] at x1;obtain ⟨ch,rn,ro,rc⟩:=r;simp only at pS;subst pS;clear hcell hat LR Yr;obtain ⟨y,hy⟩:∃ y,y=cs j:=⟨_,rfl⟩
    rw [← hy] at x1;replace hy:=Lib.hid hy;have jC:=Lib.hid (hT.out.ext (aa wr (.cells #[.int .u8 (ch.toNat:Int),.int .i64 (y:Int),.bool ro,.bool rc] 240)));have hxb:(wr.alloc (.cells #[.int .u8 (ch.toNat:Int),.int .i64 (y:Int),.bool ro,.bool rc] 240)).heap[wr.heap.size]? = some (.cells #[.int .u8 (ch.toNat:Int),.int .i64 (y:Int),.bool ro,.bool rc] 240):=heap_alloc_new wr _;have hba:=Lib.hid (hb.out.alloc hbz (.cells #[.int .u8 (ch.toNat:Int),.int .i64 (y:Int),.bool ro,.bool rc] 240));have AW:(wr.alloc (.cells #[.int .u8 (ch.toNat:Int),.int .i64 (y:Int),.bool ro,.bool rc] 240)).heap.size=wr.heap.size+1:=by simp
    go_upto_region 5 with fail
    obtain ⟨wa,xD⟩:∃ wa,wa=wr.alloc (.cells #[.int .u8 (ch.toNat:Int),.int .i64 (y:Int),.bool ro,.bool rc] 240):=⟨_,rfl⟩
    obtain ⟨bx,rq⟩:∃ bx,bx=wr.heap.size:=⟨_,rfl⟩
    rw [← xD] at jC hxb hba AW ⊢;rw [← rq] at hxb AW ⊢;have y1:=ah hxb 1;simp only [List.getElem?_toArray,List.getElem?_cons_zero,List.getElem?_cons_succ] at y1;have Kw:bx<wa.heap.size:=by omega
    have q2:=jC.out.at2 hlt;have q3:=jC.out.Wx;have q4:=jC.out.Qo.2;have hls:L.length=n:=hT.out.ll;have YU:=Lib.hid (jC.out.wh j y);have QM:=Lib.hid (hba.out.setCell (p:=⟨g2,j,none⟩) jC.out.Qo.1 (.int .i64 (y:Int)));have ZB:Hid (∀ i (h:i<(L.set j y).length),(L.set j y)[i]=if i<j+1 then cs i else 0):=Lib.hid (fun i h=>by
     by_cases hij:j=i
     ·subst hij;rw [List.getElem_set_self,if_pos (by omega)];exact hy.out
     ·rw [List.getElem_set_ne hij,hL.out i (by rw [List.length_set] at h;exact h)]
      by_cases h1:i<j
      ·rw [if_pos h1,if_pos (by omega)]
      ·rw [if_neg h1,if_neg (by omega)])
    generalize (L[j]'(by omega):Nat)=old at q2;replace hls:=Lib.hid hls;clear xD hxb x0 x1 x2 x3 AW rq hT hb jC hba hL;go_wp2_with fail
    go_roundw
    case rel=>exact ⟨j+1,L.set j y,by go_num,by omega,YU,ZB,QM⟩
    case measure=>simp [intOf];omega
   ·have hjn:j=n:=by omega
    subst hjn;have hL2:Hid (∀ i (h:i<L.length),L[i]=cs i):=Lib.hid (fun i h=>by rw [hL.out i h,if_pos (by have:=hT.out.ll;omega)]);clear hL C5 hb0;go_wp2_with fail
    go_loopw [31] (fun u wr=>∃ (k:Nat) (O L:List Nat),u=.int .i64 (k:Int)∧k≤X.length∧Hid (Tw wr w.heap.size g1 g2 j O L)∧Hid (∀ i (h:i<O.length),O[i]=Il.opn (X.take k) i)∧Hid (∀ i (h:i<L.length),L[i]=cs i-Em.used (X.take k) i)∧Hid (Below w.heap.size w wr)) (fun u _=>X.length-(intOf u).toNat)
    case atStart=>exact ⟨0,List.replicate j 0,L,rfl,by omega,hT,Lib.hid (by intro i h;simp [Il.opn]),Lib.hid (by intro i h;rw [hL2.out i h];simp [Em.used]),hb⟩
    case round =>
     clear hT hL2 hb;obtain ⟨k,O,L2,rfl,hk,hT,hO,hL,hb⟩:=hrel;have hbz:=hb.out.size
     by_cases hlt:k<X.length
     ·obtain ⟨b,o,rfl,hbl,hcell⟩:=hX.out.2 (by omega)
      have hat:=fun i (hi:i<3)=>gW (f:=uT) (m:=3) (fun _=>rfl) X k i hlt hi;have Hj:=hin.out _ (List.getElem_mem hlt);have htk:X.take (k+1)=X.take k++[X[k]]:=List.take_succ_eq_append_getElem hlt;have U5:∀ i,Em.used (X.take (k+1)) i≤Em.used X i:=fun i=>Il.og X (k+1) i;generalize X[k]=x at hat Hj htk;obtain ⟨pa,pb,ps⟩:=x;simp only at Hj;obtain ⟨ha,jB,hab,hs2⟩:=Hj;have x0:=(hb.out.cell (p:=⟨b,o+(k*3+0),none⟩) hbl).trans (hcell _ _ (hat 0 (by omega)));have x1:=(hb.out.cell (p:=⟨b,o+(k*3+1),none⟩) hbl).trans (hcell _ _ (hat 1 (by omega)));have x2:=(hb.out.cell (p:=⟨b,o+(k*3+2),none⟩) hbl).trans (hcell _ _ (hat 2 (by omega)));simp only [← Nat.add_assoc,Nat.add_zero] at x0 x1 x2;have hbr:b<wr.heap.size:=Nat.lt_of_lt_of_le hbl hbz;have Sd:∀ i,Em.used (X.take (k+1)) i=Em.used (X.take k) i+((if pa=i then ps else 0)+if pb=i then ps else 0):=fun i=>by rw [htk,Em.iZ]
      have WX:∀ i,Il.opn (X.take (k+1)) i=Il.opn (X.take k) i+if pa=i then 1 else 0:=fun i=>by rw [htk,C8]
      have NI:∀ i,Il.opn (X.take k) i≤X.length:=fun i=>Nat.le_trans (by unfold Il.opn;exact List.countP_le_length) (by rw [List.length_take];omega);have VH:=hO.out pa (by rw [hT.out.ol];exact ha);have UG:=hL.out pa (by rw [hT.out.ll];exact ha);have Vf:=hL.out pb (by rw [hT.out.ll];exact jB);have hca:=hcb.out pa;have TU:=hcb.out pb;have Oa:=Sd pa;have PC:=Sd pb;rw [if_pos rfl,if_neg (fun e=>hab e.symm)] at Oa;rw [if_neg hab,if_pos rfl] at PC;have Uh:=U5 pa;have UJ:=U5 pb;have UW:=mm.out pa ha;have VM:=mm.out pb jB;have UE:=NI pa;have jC:=hT.out.ext (aa wr (.cells #[.int .i64 (pa:Int),.int .i64 (pb:Int),.int .i64 (ps:Int)] 241));have hxb:(wr.alloc (.cells #[.int .i64 (pa:Int),.int .i64 (pb:Int),.int .i64 (ps:Int)] 241)).heap[wr.heap.size]? = some (.cells #[.int .i64 (pa:Int),.int .i64 (pb:Int),.int .i64 (ps:Int)] 241):=heap_alloc_new wr _;have hba:=Lib.hid (hb.out.alloc hbz (.cells #[.int .i64 (pa:Int),.int .i64 (pb:Int),.int .i64 (ps:Int)] 241));have AW:(wr.alloc (.cells #[.int .i64 (pa:Int),.int .i64 (pb:Int),.int .i64 (ps:Int)] 241)).heap.size=wr.heap.size+1:=by simp
      have q1:=jC.XI ha;have q2:=jC.at2 ha;have q3:=jC.at2 jB;have hol:=hT.out.ol;have uU:=hT.out.ll;obtain ⟨va,XL⟩:∃ va,va=O[pa]'(by omega):=⟨_,rfl⟩
      obtain ⟨la,hla⟩:∃ la,la=L2[pa]'(by omega):=⟨_,rfl⟩
      obtain ⟨lb,hlb⟩:∃ lb,lb=L2[pb]'(by omega):=⟨_,rfl⟩
      rw [← XL] at q1 VH;rw [← hla] at q2 UG;rw [← hlb] at q3 Vf;have hsa:ps≤la:=by omega
      have hsb:ps≤lb:=by omega
      have Zc:va≤400000000:=by omega
      have Fa:la≤1000000000:=by omega
      have Zx:lb≤1000000000:=by omega
      have Rq:Hid (∀ i (h:i<(O.set pa (va+1)).length),(O.set pa (va+1))[i]=Il.opn (X.take (k+1)) i):=Lib.hid (fun i h=>by
       rw [WX]
       by_cases hij:pa=i
       ·subst hij;rw [List.getElem_set_self,if_pos rfl,VH]
       ·rw [List.getElem_set_ne hij,if_neg hij,hO.out i (by rw [List.length_set] at h;exact h),Nat.add_zero])
      have hL3:Hid (∀ i (h:i<((L2.set pa (la-ps)).set pb (lb-ps)).length),((L2.set pa (la-ps)).set pb (lb-ps))[i]=cs i-Em.used (X.take (k+1)) i):=Lib.hid (fun i h=>by
       rw [Sd]
       by_cases h1:pb=i
       ·subst h1;rw [List.getElem_set_self,if_neg hab,if_pos rfl,Vf];omega
       ·rw [List.getElem_set_ne h1,if_neg h1]
        by_cases h2:pa=i
        ·subst h2;rw [List.getElem_set_self,if_pos rfl,UG];omega
        ·rw [List.getElem_set_ne h2,if_neg h2,hL.out i (by simpa using h)];omega)
      have Z7:=hT.out.ne;have oQ:=jC.F6 pa (va+1);have mZ:=oQ.wh pa (la-ps);have k9:=Lib.hid (mZ.wh pb (lb-ps));have EV:=Lib.hid (hba.out.setCell (p:=⟨g1,pa,none⟩) jC.WC.1 (.int .i64 ((va+1:Nat):Int)));have AU:=Lib.hid (EV.out.setCell (p:=⟨g2,pa,none⟩) jC.Qo.1 (.int .i64 ((la-ps:Nat):Int)));have vb:=Lib.hid (AU.out.setCell (p:=⟨g2,pb,none⟩) jC.Qo.1 (.int .i64 ((lb-ps:Nat):Int)));have ff1:=jC.fz1;have ff2:=oQ.Wx;have ff3:=mZ.Wx;have r2:=oQ.at2 ha;have r3:=mZ.at2 jB;rw [← hla] at r2;rw [List.getElem_set_ne hab,← hlb] at r3;have e1:((va+1:Nat):Int)=(va:Int)+1:=by omega
      have e2:((la-ps:Nat):Int)=(la:Int)-(ps:Int):=by omega
      have e3:((lb-ps:Nat):Int)=(lb:Int)-(ps:Int):=by omega
      have aap:IntKind.i64.wrap ((la:Int)-(ps:Int))=(la:Int)-(ps:Int):=by rw [IntKind.wrap_i64];omega
      have aak:IntKind.i64.wrap ((lb:Int)-(ps:Int))=(lb:Int)-(ps:Int):=by rw [IntKind.wrap_i64];omega
      have OO:g1≠wr.heap.size:=by have:=hT.out.WC.2;omega
      have EU:g2≠wr.heap.size:=by have:=hT.out.Qo.2;omega
      have hs1:(wr.alloc (.cells #[.int .i64 (pa:Int),.int .i64 (pb:Int),.int .i64 (ps:Int)] 241)).setCell ⟨g1,pa,none⟩ (.int .i64 ((va+1:Nat):Int))=(wr.alloc (.cells #[.int .i64 (pa:Int),.int .i64 (pb:Int),.int .i64 (ps:Int)] 241)).setCell ⟨g1,pa,none⟩ (.int .i64 ((va:Int)+1)):=by rw [e1]
      clear hcell hat htk U5 Sd WX NI VH UG Vf hca TU Oa PC Uh UJ UW VM UE;go_upto_region 10 with fail
      obtain ⟨wa,xD⟩:∃ wa,wa=wr.alloc (.cells #[.int .i64 (pa:Int),.int .i64 (pb:Int),.int .i64 (ps:Int)] 241):=⟨_,rfl⟩
      obtain ⟨bx,rq⟩:∃ bx,bx=wr.heap.size:=⟨_,rfl⟩
      rw [← xD] at jC hxb hba AW hs1 oQ mZ k9 EV AU vb ff1 ff2 ff3 r2 r3 q1 q2 q3 ⊢;rw [← rq] at hxb AW OO EU ⊢;have vQ:(wa.setCell ⟨g1,pa,none⟩ (.int .i64 ((va+1:Nat):Int))).heap[bx]? = some (.cells #[.int .i64 (pa:Int),.int .i64 (pb:Int),.int .i64 (ps:Int)] 241):=(Below.heap_setCell _ _ _ _ (fun e=>OO e.symm)).trans hxb;have o6:((wa.setCell ⟨g1,pa,none⟩ (.int .i64 ((va+1:Nat):Int))).setCell ⟨g2,pa,none⟩ (.int .i64 ((la-ps:Nat):Int))).heap[bx]? = some (.cells #[.int .i64 (pa:Int),.int .i64 (pb:Int),.int .i64 (ps:Int)] 241):=(Below.heap_setCell _ _ _ _ (fun e=>EU e.symm)).trans vQ;have y0:=ah hxb 0;have y1:=ah hxb 1;have y2:=ah hxb 2;simp only [List.getElem?_toArray,List.getElem?_cons_zero,List.getElem?_cons_succ] at y0 y1 y2;have Kw:bx<wa.heap.size:=by omega
      have L4:=jC.WC.2;have hai:(pa:Int)<(j:Int):=by omega
      have uE:(pb:Int)<(j:Int):=by omega
      replace oQ:=Lib.hid oQ;replace mZ:=Lib.hid mZ;replace e1:=Lib.hid e1;replace e2:=Lib.hid e2;replace e3:=Lib.hid e3;replace hs1:=Lib.hid hs1;replace vQ:=Lib.hid vQ;replace o6:=Lib.hid o6;replace r2:=Lib.hid r2;replace r3:=Lib.hid r3;replace ff2:=Lib.hid ff2;replace ff3:=Lib.hid ff3;replace hol:=Lib.hid hol;replace uU:=Lib.hid uU;clear XL hla hlb xD hxb x0 x1 x2 AW rq hT hb jC hba hO hL;go_upto_region 11 with fail
      rw [← hs1.out];obtain ⟨w1,hw1⟩:∃ w1,w1=wa.setCell ⟨g1,pa,none⟩ (.int .i64 ((va+1:Nat):Int)):=⟨_,rfl⟩
      rw [← hw1] at oQ mZ k9 EV AU vb ff2 ff3 r2 r3 vQ o6 ⊢;clear hs1 hw1 q1 q2 q3 ff1 y0 y1 y2 Kw L4;have hS:(fun u:World=>u.heap[bx]? = some (.cells #[.int .i64 (pa:Int),.int .i64 (pb:Int),.int .i64 (ps:Int)] 241)) w1.drew:=vQ.out;have ie:(fun u:World=>u.heap[bx]? = some (.cells #[.int .i64 (pa:Int),.int .i64 (pb:Int),.int .i64 (ps:Int)] 241)) (w1.drew.setCell ⟨g2,pa,none⟩ (.int .i64 ((la:Int)-(ps:Int)))):=by
       rw [← e2.out];exact o6.out
      refine aE (.rd 0 (.rd 1 (.rd 2 (.rd 3 (.rd 5 (.rd 6 (.mk 4 (.rd 7 (.rd 8 (.mk 9 .fin)))))))))) (fun u:World=>u.heap[bx]? = some (.cells #[.int .i64 (pa:Int),.int .i64 (pb:Int),.int .i64 (ps:Int)] 241)) hS (by kernel_rfl) (by kernel_rfl) (by kernel_rfl) (fun _ _ d _ _ h=>by cases d<;>exact h) ?_
      iterate 2 (first | refine an rfl ?_ | (refine ay rfl ?_;intro K hK;go_simp;refine hK _ _ _ ?_;clear hK K))
      refine aH (.int .i64 (pa:Int)) rfl rfl hS (fun u hu=>by
       have h1:=ah (j:=0) hu;go_simp) ?_
      iterate 2 (first | refine an rfl ?_ | (refine ay rfl ?_;intro K hK;go_simp;refine hK _ _ _ ?_;clear hK K))
      refine aH (.int .i64 (ps:Int)) rfl rfl hS (fun u hu=>by
       have h1:=ah (j:=2) hu;go_simp) ?_
      have r2':=r2.out;refine aC rfl ?_;intro K hK;go_simp;refine ⟨_,hS,fun _ h=>h,hK _ _ _ ?_⟩;clear hK K
      iterate 2 (first | refine an rfl ?_ | (refine ay rfl ?_;intro K hK;go_simp;refine hK _ _ _ ?_;clear hK K))
      refine bg rfl rfl (fW rfl (by kernel_rfl) rfl rfl r2' ff2.out) ie ?_;refine aM ?_;have X6:((la:Int)-(ps:Int))=(((la-ps:Nat):Nat):Int):=e2.out.symm;rw [X6];obtain ⟨w2,hw2⟩:∃ w2,w2=w1.setCell ⟨g2,pa,none⟩ (.int .i64 ((la-ps:Nat):Int)):=⟨_,rfl⟩
      have ME:w1.drew.setCell ⟨g2,pa,none⟩ (.int .i64 ((la-ps:Nat):Int))=w2.drew:=by rw [hw2];rfl
      rw [← hw2] at mZ k9 AU vb ff3 r3 o6;rw [ME];clear hw2 ME ie r2' X6;go_upto_region 12 with fail
      have hS:(fun u:World=>u.heap[bx]? = some (.cells #[.int .i64 (pa:Int),.int .i64 (pb:Int),.int .i64 (ps:Int)] 241)) w2.drew.drew:=o6.out;have ie:(fun u:World=>u.heap[bx]? = some (.cells #[.int .i64 (pa:Int),.int .i64 (pb:Int),.int .i64 (ps:Int)] 241)) (w2.drew.drew.setCell ⟨g2,pb,none⟩ (.int .i64 ((lb:Int)-(ps:Int)))):=(Below.heap_setCell _ _ _ _ (fun e=>EU e.symm)).trans o6.out;refine aE (.rd 0 (.rd 1 (.rd 2 (.rd 3 (.rd 5 (.rd 6 (.mk 4 (.rd 7 (.rd 8 (.mk 9 .fin)))))))))) (fun u:World=>u.heap[bx]? = some (.cells #[.int .i64 (pa:Int),.int .i64 (pb:Int),.int .i64 (ps:Int)] 241)) hS (by kernel_rfl) (by kernel_rfl) (by kernel_rfl) (fun _ _ d _ _ h=>by cases d<;>exact h) ?_
      iterate 2 (first | refine an rfl ?_ | (refine ay rfl ?_;intro K hK;go_simp;refine hK _ _ _ ?_;clear hK K))
      refine aH (.int .i64 (pb:Int)) rfl rfl hS (fun u hu=>by
       have h1:=ah (j:=1) hu;go_simp) ?_
      iterate 2 (first | refine an rfl ?_ | (refine ay rfl ?_;intro K hK;go_simp;refine hK _ _ _ ?_;clear hK K))
      refine aH (.int .i64 (ps:Int)) rfl rfl hS (fun u hu=>by
       have h1:=ah (j:=2) hu;go_simp) ?_
      have r3':w2.drew.drew.cell? ⟨g2,pb,none⟩=some (.int .i64 (lb:Int)):=r3.out;have ff3':∀ j,w2.drew.drew.frozen? ⟨g2,j,none⟩=false:=ff3.out;refine aC rfl ?_;intro K hK;go_simp;refine ⟨_,hS,fun _ h=>h,hK _ _ _ ?_⟩;clear hK K
      iterate 2 (first | refine an rfl ?_ | (refine ay rfl ?_;intro K hK;go_simp;refine hK _ _ _ ?_;clear hK K))
      refine bg rfl rfl (fW rfl (by kernel_rfl) rfl rfl r3' ff3') ie ?_;refine aM ?_;rw [show ((lb:Int)-(ps:Int))=(((lb-ps:Nat):Nat):Int) from e3.out.symm];obtain ⟨w3,hw3⟩:∃ w3,w3=w2.setCell ⟨g2,pb,none⟩ (.int .i64 ((lb-ps:Nat):Int)):=⟨_,rfl⟩
      have MO:w2.drew.drew.setCell ⟨g2,pb,none⟩ (.int .i64 ((lb-ps:Nat):Int))=w3.drew.drew:=by rw [hw3];rfl
      rw [← hw3] at k9 vb;rw [MO];clear hw3 MO hS ie r3' ff3';have ZS:Hid (Tw w3.drew.drew w.heap.size g1 g2 j (O.set pa (va+1)) ((L2.set pa (la-ps)).set pb (lb-ps))):=Lib.hid ⟨k9.out.o.drew.drew,k9.out.l.drew.drew,k9.out.ne,k9.out.ol,k9.out.ll⟩;have oI:Hid (Below w.heap.size w w3.drew.drew):=Lib.hid (below_drewN (below_drewN vb.out 1) 1);go_wp2_with fail
      go_roundw
      case rel=>exact ⟨k+1,O.set pa (va+1),(L2.set pa (la-ps)).set pb (lb-ps),by go_num,by omega,ZS,Rq,hL3,oI⟩
      case measure=>simp [intOf];omega
     ·have hkl:k=X.length:=by omega
      subst hkl;have LV:=hO.out;have hL3:=hL.out;rw [List.take_length] at LV hL3;replace LV:=Lib.hid LV;replace hL3:=Lib.hid hL3;clear hO hL;go_wp2_with fail;go_ret2;exact ⟨g1,g2,O,L2,rfl,hT.out,LV.out,hL3.out,hb.out⟩
end Go.Proofs.YtddkjkockbcamaaGreatDoor
