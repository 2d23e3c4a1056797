/- IlPPut IlPSay2 EmKd EmPB IlRightM HmBalM -/
import Derived.Test.YtddkjkockbcamaaGreatDoorHl19
import Derived.Test.YtddkjkockbcamaaGreatDoorHl18
import Derived.Test.YtddkjkockbcamaaGreatDoorHl17
import Derived.Test.YtddkjkockbcamaaGreatDoorHl03
import Derived.Deep.DeepCutAuto
import Derived.Test.YtddkjkockbcamaaGreatDoorHl04
import Derived.Test.YtddkjkockbcamaaGreatDoorHl02
set_option maxHeartbeats 16000000
set_option maxRecDepth 100000
namespace Go.Proofs.YtddkjkockbcamaaGreatDoor
open Go.RowKit
attribute [local go_sem] aD av aq
theorem Hq.nB {K:Type} {w:World} {B:Nat} {m:K→Option Pa} (h:Hq w B m):bT B m w m w.drew :=
 ⟨⟨fun k a ha=>by have:=h.holds k a ha; cases a<;>exact this,h.apart⟩,⟨rfl,rfl,rfl,Nat.le_refl _,fun _ _=>rfl⟩,fun _ hb=>⟨rfl,hb⟩⟩
theorem IE {w:World} {g size n:Nat} {C:Array Value} {T:TypeId} (h:w.heap[g]?=some (.cells C T)) (hn:C.size=n*size):Row w w.heap.size size (some ⟨g,0,none⟩) n C.toList:=by
 refine ⟨by simpa using hn,fun _=>⟨g,0,rfl,(Array.getElem?_eq_some_iff.1 h).1,fun j u hj=>?_⟩⟩;rw [ah h];simpa using hj
section
variable {m:Ky→Option Pa} {k:Ks} {C:Value→Value→Pa} {R:Il.Rw} {vi vp:Value} {css:List (List Value)} {w:World} {B g o:Nat}
theorem yS (hk:k.ok) (hC:Cn g o C) (h:Hq w B (aN m k C ⟨R.full,[]⟩ vi vp css)) (hI:gA w (Fr w B (aN m k C ⟨R.full,[]⟩ vi vp css)) R.full css) (hB:B≤w.heap.size) {x:Il.In} {xc:List Value} (hx:IC w (Fr w B (aN m k C ⟨R.full,[]⟩ vi vp css)) x xc)
  {w':World} {v':Value} (ho:w'.ownsRow B 35 4 v' (R.full.length+1) (css.flatten++xc)) (hg:w.grownBy w' vi.ownBlock) (hat:At w.heap.size vi v') :
  bT B (aN m k C ⟨R.full,[]⟩ vi vp css) w (aN m k C (R.put x) v' vp (css++[xc])) (w'.setCell ⟨g,o,none⟩ v')∧gA (w'.setCell ⟨g,o,none⟩ v') (Fr (w'.setCell ⟨g,o,none⟩ v') B (aN m k C (R.put x) v' vp (css++[xc]))) (R.put x).l (css++[xc]):=by
 have t:=nt hk hC h hB (R':=R.put x) (css':=css++[xc]) rfl hg (by
  have e:(R.put x).l.length=R.full.length+1:=by simp [Il.Rw.put]
  rw [e]; simpa using ho) hat
 exact ⟨t,mV (t.kids hI) (t.kid hx)⟩
theorem wA (hk:k.ok) (hC:Cn g o C) (h:Hq w B (aN m k C R vi vp css)) (hI:gA w (Fr w B (aN m k C R vi vp css)) R.l css) (hB:B≤w.heap.size) (hl:R.p.length≤10000000000) (vG:R.l.length≤10000000000)
  (kd:Nat) (t d:List UInt8) (ks:List Il.In) (AK:Option Addr) (cK:Nat) (hx:IC w (Fr w B (aN m k C R vi vp css)) (.mk kd t d ks) [.int .i64 (kd:Int),.string (bs t),.string (bs d),.slice AK ks.length cK]) :
  Calls Tryz.prog 198 #[.pointer (some ⟨g,o,none⟩),.agg #[.int .i64 (kd:Int),.string (bs t),.string (bs d),.slice AK ks.length cK]] w fun e w'=>e=.returned (.tuple #[])∧∃ vi' vp' css',bT B (aN m k C R vi vp css) w (aN m k C (R.put (.mk kd t d ks)) vi' vp' css') w'∧gA w' (Fr w' B (aN m k C (R.put (.mk kd t d ks)) vi' vp' css')) (R.put (.mk kd t d ks)).l css':=by
 have hfl:=R.I4.1;have t0:=h.call (w':=w.alloc (.cells #[.int .i64 (kd:Int),.string (bs t),.string (bs d),.slice AK ks.length cK] 35)) hB (aa w _);have hf0:=Hq.new (w':=w.alloc (.cells #[.int .i64 (kd:Int),.string (bs t),.string (bs d),.slice AK ks.length cK] 35)) h hB (b:=w.heap.size) (Nat.le_refl _) (by simp);have hb0:(w.alloc (.cells #[.int .i64 (kd:Int),.string (bs t),.string (bs d),.slice AK ks.length cK] 35)).heap[w.heap.size]?=some (.cells #[.int .i64 (kd:Int),.string (bs t),.string (bs d),.slice AK ks.length cK] 35):=heap_alloc_new w _;have td:=t0.trans t0.hp.nB;have Zo:=td.kids hI;have Zx:=td.kid hx;obtain ⟨wd,hwd⟩:∃ wd,wd=(w.alloc (.cells #[.int .i64 (kd:Int),.string (bs t),.string (bs d),.slice AK ks.length cK] 35)).drew:=⟨_,rfl⟩
 have Qh:(fun u:World=>u.heap[w.heap.size]?=some (.cells #[.int .i64 (kd:Int),.string (bs t),.string (bs d),.slice AK ks.length cK] 35)) wd:=by rw [hwd]; exact hb0
 have Tt:Fr wd B (aN m k C R vi vp css) w.heap.size:=by rw [hwd]; exact hf0
 have ET:B≤wd.heap.size:=by rw [hwd]; simp; omega
 rw [← hwd] at td Zo Zx;clear t0 hf0 hb0 h hI hx;go_enter Tryz.func198,Tryz.ntmps198;go_upto_region 1 with fail
 refine aE (.rd 0 (.rd 1 (.rd 3 (.fk 2 (.mk 4 (.mk 5 (.rd 6 (.rd 7 (.mk 8 .fin))))) 4 (.mk 2 (.mk 5 (.rd 6 (.rd 7 (.mk 8 .fin))))))))) (fun u:World=>u.heap[w.heap.size]?=some (.cells #[.int .i64 (kd:Int),.string (bs t),.string (bs d),.slice AK ks.length cK] 35)) (hwd▸Qh) (by kernel_rfl) (by kernel_rfl) (by kernel_rfl) (fun _ _ d _ _ h=>by cases d<;>exact h) ?_;rw [← hwd];clear hwd
 iterate 2 (first | refine an rfl ?_ | (refine ay rfl ?_; intro K hK; go_simp; refine hK _ _ _ ?_; clear hK K))
 refine aH (.agg #[.int .i64 (kd:Int),.string (bs t),.string (bs d),.slice AK ks.length cK]) rfl rfl Qh (fun u hu=>by
  have h0:=ah (j:=0) hu;have h1:=ah (j:=1) hu;have h2:=ah (j:=2) hu;have h3:=ah (j:=3) hu;go_simp) ?_
 refine iG ?wa ?wb
 case' wa =>
  refine aC rfl ?_;intro K hK;go_simp;refine (j7 hk hC td.hp Zo ET (by omega) (by omega)).mono ?_;rintro e w1 ⟨vi1,rfl,vp1,css1,t1,Gx⟩;have hx1:=t1.kid Zx;obtain ⟨CI,Ae⟩:=t1.fre _ Tt;have hS1:(fun u:World=>u.heap[w.heap.size]?=some (.cells #[.int .i64 (kd:Int),.string (bs t),.string (bs d),.slice AK ks.length cK] 35)) w1:=CI.trans Qh;refine ⟨_,hS1,fun _ h=>h,hK _ _ _ ?_⟩;clear hK K;refine aC rfl ?_;intro K hK;go_simp;have Vj:=Nat.le_trans ET t1.bel.size;have ta:=t1.hp.call (w':=w1.alloc (.cells #[.int .i64 (kd:Int),.string (bs t),.string (bs d),.slice AK ks.length cK] 35)) Vj (aa w1 _);have vR:(w1.alloc (.cells #[.int .i64 (kd:Int),.string (bs t),.string (bs d),.slice AK ks.length cK] 35)).heap[w1.heap.size]?=some (.cells #[.int .i64 (kd:Int),.string (bs t),.string (bs d),.slice AK ks.length cK] 35):=heap_alloc_new w1 _;obtain ⟨DI,hfr2⟩:=ta.fre _ Ae;replace hS1:(fun u:World=>u.heap[w.heap.size]?=some (.cells #[.int .i64 (kd:Int),.string (bs t),.string (bs d),.slice AK ks.length cK] 35)) (w1.alloc (.cells #[.int .i64 (kd:Int),.string (bs t),.string (bs d),.slice AK ks.length cK] 35)):=DI.trans hS1;replace Gx:=ta.kids Gx;replace hx1:=ta.kid hx1;replace t1:=t1.trans ta;replace Ae:=hfr2;refine ⟨_,hS1,fun _ h=>h,hK _ _ _ ?_⟩;clear hK K ta DI CI;obtain ⟨bx,rB⟩:∃ bx,bx=w1.heap.size:=⟨_,rfl⟩
  rw [← rB] at vR ⊢;clear rB;generalize w1.alloc (.cells #[.int .i64 (kd:Int),.string (bs t),.string (bs d),.slice AK ks.length cK] 35)=w2 at *;obtain ⟨c0,c1,cf,hBg,Fb,oi,op,nei,nep⟩:=eE hk hC t1.hp;have Yf:=Nat.le_trans ET t1.bel.size;have oi:w2.ownsRow B 35 4 vi1 R.full.length css1.flatten:=oi;obtain ⟨A2,c2,rfl,hc4⟩:=ak oi;refine l7 rfl rfl (.tmp 6) (.tmp 8) rfl IW (v:=.slice A2 R.full.length c2) rfl oi rfl (IE vR (n:=1) rfl) (by intro u hu; simp at hu; rcases hu with rfl | rfl | rfl | rfl<;>rfl) (by omega) (by omega) Yf ?_;intro v' w' ho hg hb hat;obtain ⟨g',c',rfl,hc',FN,GB⟩:=gu ho (by omega);obtain ⟨d0,d1,df,dz⟩:=je hk hC t1.hp hg.out nei;have Su:(Value.slice A2 R.full.length c2).ownBlock≠some w.heap.size:=Ae.2.2 _ _ (gP hk);have eX:(fun u:World=>u.heap[w.heap.size]?=some (.cells #[.int .i64 (kd:Int),.string (bs t),.string (bs d),.slice AK ks.length cK] 35)) w':=(hg.out.block _ Ae.2.1 (fun e=>Su e.symm)).trans hS1;refine ⟨_,eX,fun _ h=>h,?_⟩;obtain ⟨t3,o7⟩:=yS hk hC t1.hp Gx Yf hx1 ho hg.out hat.out;have t4:=Lib.hid (td.trans (t1.trans t3));have Ww:=Lib.hid o7;have hgn:g≠w.heap.size:=fun e=>Ae.2.2 _ _ (lK hk) (by rw [hC.block,e]);have xO:(fun u:World=>u.heap[w.heap.size]?=some (.cells #[.int .i64 (kd:Int),.string (bs t),.string (bs d),.slice AK ks.length cK] 35)) (w'.setCell ⟨g,o,none⟩ (.slice (some ⟨g',0,none⟩) (R.full.length+1) c')):=(Below.heap_setCell _ _ _ _ (fun e=>hgn e.symm)).trans eX;clear t3 o7 ho hg hb hat d1 t1 Gx hx1 oi op nei nep c0 c1 cf
  iterate 2 (first | refine an rfl ?_ | (refine ay rfl ?_; intro K hK; go_simp; refine hK _ _ _ ?_; clear hK K))
  refine aC rfl ?_;intro K hK;go_simp;refine ⟨_,xO,fun _ h=>h,hK _ _ _ ?_⟩;clear hK K;refine aM ?_;go_wp2_with fail;go_returns;exact ⟨rfl,_,_,_,t4.out,Ww.out⟩
 case' wb =>
  refine aC rfl ?_;intro K hK;go_simp;have ta:=td.hp.call (w':=wd.alloc (.cells #[.int .i64 (kd:Int),.string (bs t),.string (bs d),.slice AK ks.length cK] 35)) ET (aa wd _);have vR:(wd.alloc (.cells #[.int .i64 (kd:Int),.string (bs t),.string (bs d),.slice AK ks.length cK] 35)).heap[wd.heap.size]?=some (.cells #[.int .i64 (kd:Int),.string (bs t),.string (bs d),.slice AK ks.length cK] 35):=heap_alloc_new wd _;have UY:=Hq.new (w':=wd.alloc (.cells #[.int .i64 (kd:Int),.string (bs t),.string (bs d),.slice AK ks.length cK] 35)) td.hp ET (b:=wd.heap.size) (Nat.le_refl _) (by simp);obtain ⟨DI,hfr2⟩:=ta.fre _ Tt;have hS1:(fun u:World=>u.heap[w.heap.size]?=some (.cells #[.int .i64 (kd:Int),.string (bs t),.string (bs d),.slice AK ks.length cK] 35)) (wd.alloc (.cells #[.int .i64 (kd:Int),.string (bs t),.string (bs d),.slice AK ks.length cK] 35)):=DI.trans Qh;have Qi:=ta.kids Zo;have hx0:=ta.kid Zx;refine ⟨_,hS1,fun _ h=>h,hK _ _ _ ?_⟩;clear hK K DI;have WW:B≤(wd.alloc (.cells #[.int .i64 (kd:Int),.string (bs t),.string (bs d),.slice AK ks.length cK] 35)).heap.size:=by simp; omega
  obtain ⟨bx,rB⟩:∃ bx,bx=wd.heap.size:=⟨_,rfl⟩
  rw [← rB] at vR UY ⊢;clear rB;generalize wd.alloc (.cells #[.int .i64 (kd:Int),.string (bs t),.string (bs d),.slice AK ks.length cK] 35)=w1 at *;refine aC rfl ?_;intro K hK;go_simp;refine (j7 hk hC ta.hp Qi WW (by omega) (by omega)).mono ?_;rintro e w2 ⟨vi1,rfl,vp1,css1,t1,Gx⟩;have hx1:=t1.kid hx0;obtain ⟨CI,Ae⟩:=t1.fre _ hfr2;replace vR:=(t1.fre _ UY).1.trans vR;replace hS1:(fun u:World=>u.heap[w.heap.size]?=some (.cells #[.int .i64 (kd:Int),.string (bs t),.string (bs d),.slice AK ks.length cK] 35)) w2:=CI.trans hS1;replace t1:=ta.trans t1;refine ⟨_,hS1,fun _ h=>h,hK _ _ _ ?_⟩;clear hK K Qi hx0 UY hfr2 CI;obtain ⟨c0,c1,cf,hBg,Fb,oi,op,nei,nep⟩:=eE hk hC t1.hp;have Yf:=Nat.le_trans ET t1.bel.size;have oi:w2.ownsRow B 35 4 vi1 R.full.length css1.flatten:=oi;obtain ⟨A2,c2,rfl,hc4⟩:=ak oi;refine l7 rfl rfl (.tmp 6) (.tmp 8) rfl IW (v:=.slice A2 R.full.length c2) rfl oi rfl (IE vR (n:=1) rfl) (by intro u hu; simp at hu; rcases hu with rfl | rfl | rfl | rfl<;>rfl) (by omega) (by omega) Yf ?_;intro v' w' ho hg hb hat;obtain ⟨g',c',rfl,hc',FN,GB⟩:=gu ho (by omega);obtain ⟨d0,d1,df,dz⟩:=je hk hC t1.hp hg.out nei;have Su:(Value.slice A2 R.full.length c2).ownBlock≠some w.heap.size:=Ae.2.2 _ _ (gP hk);have eX:(fun u:World=>u.heap[w.heap.size]?=some (.cells #[.int .i64 (kd:Int),.string (bs t),.string (bs d),.slice AK ks.length cK] 35)) w':=(hg.out.block _ Ae.2.1 (fun e=>Su e.symm)).trans hS1;refine ⟨_,eX,fun _ h=>h,?_⟩;obtain ⟨t3,o7⟩:=yS hk hC t1.hp Gx Yf hx1 ho hg.out hat.out;have t4:=Lib.hid (td.trans (t1.trans t3));have Ww:=Lib.hid o7;have hgn:g≠w.heap.size:=fun e=>Ae.2.2 _ _ (lK hk) (by rw [hC.block,e]);have xO:(fun u:World=>u.heap[w.heap.size]?=some (.cells #[.int .i64 (kd:Int),.string (bs t),.string (bs d),.slice AK ks.length cK] 35)) (w'.setCell ⟨g,o,none⟩ (.slice (some ⟨g',0,none⟩) (R.full.length+1) c')):=(Below.heap_setCell _ _ _ _ (fun e=>hgn e.symm)).trans eX;clear t3 o7 ho hg hb hat d1 t1 Gx hx1 oi op nei nep c0 c1 cf
  iterate 2 (first | refine an rfl ?_ | (refine ay rfl ?_; intro K hK; go_simp; refine hK _ _ _ ?_; clear hK K))
  refine aC rfl ?_;intro K hK;go_simp;refine ⟨_,xO,fun _ h=>h,hK _ _ _ ?_⟩;clear hK K;refine aM ?_;go_wp2_with fail;go_returns;exact ⟨rfl,_,_,_,t4.out,Ww.out⟩
end
end Go.Proofs.YtddkjkockbcamaaGreatDoor

set_option maxHeartbeats 16000000
set_option maxRecDepth 100000
namespace Go.Proofs.YtddkjkockbcamaaGreatDoor
open Go.RowKit
theorem bT.aside {K K':Type} {B:Nat} {m:K→Option Pa} {m':K'→Option Pa} {w wr wr2:World} {k0:Nat} (t:bT B m w m' wr) (hk0:w.heap.size≤k0) (hB:B≤w.heap.size) (hfr:Fr wr B m' k0) (hg:wr.grownBy wr2 (some k0)):bT B m w m' wr2∧Fr wr2 B m' k0:=by
 refine ⟨⟨⟨fun k a ha=>Pa.kept (t.hp.holds k a ha) hg (.inr (hfr.2.2 k a ha)),t.hp.apart⟩,?_,fun b hb=>?_⟩,hfr.1,Nat.lt_of_lt_of_le hfr.2.1 hg.size,hfr.2.2⟩
 ·exact ⟨hg.os.trans t.bel.os,hg.tape.trans t.bel.tape,hg.output.trans t.bel.output,Nat.le_trans t.bel.size hg.size,fun k hk=>(hg.block k (by have:=t.bel.size; omega) (fun e=>by injection e with e; omega)).trans (t.bel.block k hk)⟩
 ·obtain ⟨h1,h2⟩:=t.fre b hb
  exact ⟨(hg.block b h2.2.1 (fun e=>by have:=hb.2.1; injection e with e; omega)).trans h1,h2.1,Nat.lt_of_lt_of_le h2.2.1 hg.size,h2.2.2⟩
theorem BM (w:World) (k:Nat) (s:ByteArray) (pos:Nat):w.grownBy (w.iterAt k s pos) (some k) :=
 ⟨rfl,rfl,rfl,by rw [Lib.iterAt_size]; exact Nat.le_refl _,fun j _ hne=>Lib.iterAt_other w k j s pos (fun e=>hne (by rw [e]))⟩
section
variable {m:Ky→Option Pa} {k:Ks} {C:Value→Value→Pa} {R:Il.Rw} {vi vp:Value} {css:List (List Value)} {w:World} {B g o:Nat}
theorem u7 (hk:k.ok) (hC:Cn g o C) (h:Hq w B (aN m k C R vi vp css)) (hB:B≤w.heap.size) (l:List UInt8) (hl:R.p.length+4*l.length≤10000000000) :
  Calls Tryz.prog 220 #[.pointer (some ⟨g,o,none⟩),.string (bs l)] w fun e w'=>e=.returned (.tuple #[])∧∃ vp',bT B (aN m k C R vi vp css) w (aN m k C (R.say (Ru.enc (Ru.aP l))) vi vp' css) w':=by
 have hstep:=Lib.hid (fun (D:List Nat) (vp':Value) (wz:World) (hz:Hq wz B (aN m k C (R.say (Ru.enc D)) vi vp' css)) (x:Nat) (hx:Ru.vr x) (XR:B≤wz.heap.size) (hD:(Ru.enc D).length≤4*l.length) =>
  iO hk hC hz XR x hx (by show (R.p++Ru.enc D).length≤_; rw [List.length_append]; omega))
 have h0:=Lib.hid ((h.call (w':=w.alloc (.stringIter (bs l) 0)) hB (aa w _)));have hf0:=Lib.hid (Hq.new (w':=w.alloc (.stringIter (bs l) 0)) h hB (b:=w.heap.size) (Nat.le_refl _) (by simp));have UP:R.say (Ru.enc [])=R:=by unfold Il.Rw.say; rw [Ru.uK,List.append_nil]
 clear h;go_enter Tryz.func220,Tryz.ntmps220;go_wp2_with fail
 go_loopw [] (fun wr=>∃ (pos:Nat) (D:List Nat) (vp':Value),Hid (bT B (aN m k C R vi vp css) w (aN m k C (R.say (Ru.enc D)) vi vp' css) wr)∧Hid (Fr wr B (aN m k C (R.say (Ru.enc D)) vi vp' css) w.heap.size)∧Hid (wr.heap[w.heap.size]?=some (.stringIter (bs l) pos))∧Hid (D++Ru.aP (l.drop pos)=Ru.aP l))
  (fun wr=>l.length - wr.iterPos w.heap.size)
 case atStart=>exact ⟨0,[],vp,by rw [UP]; exact h0,by rw [UP]; exact hf0,Lib.hid (jj _ _ _ rfl),Lib.hid (by simp)⟩
 case round =>
  obtain ⟨pos,D,vp',hT,hF,hit,hD⟩:=hrel;have hdl:=kZ hD.out;have hbz:=hT.out.bel.size;have hlt:w.heap.size<wr.heap.size:=(Array.getElem?_eq_some_iff.1 hit.out).1
  by_cases hp:pos<l.length
  ·obtain ⟨x,kk,hkk,hv,hd,tI⟩:=cX hp hD.out
   have jk:=bK hit.out hp hd;replace tI:=Lib.hid tI;replace hd:=Lib.hid hd;have gy:=Lib.hid (Lib.iterAt_heap wr w.heap.size (bs l) pos (pos+kk) hit.out);have hpos:Hid (wr.iterPos w.heap.size=pos):=Lib.hid (by simp only [World.iterPos,hit.out]);have Cv:x≤1114111:=by unfold Ru.vr at hv; omega
   have Q1:=(Ru.fT D).2;obtain ⟨uH,hF2⟩:=hT.out.aside (Nat.le_refl _) hB hF.out (BM wr w.heap.size (bs l) (pos+kk));have hst:=Lib.hid (hstep.out D vp' _ uH.hp x hv (by have:=uH.bel.size; omega) (by omega));replace uH:=Lib.hid uH;replace hF2:=Lib.hid hF2;have hsn:Hid ((R.say (Ru.enc D)).say (Lib.encodeRune (x:Int))=R.say (Ru.enc (D++[x]))):=Lib.hid (by unfold Il.Rw.say; rw [Ru.nw,List.append_assoc]);have JS:(wr.iterAt w.heap.size (bs l) (pos+kk)).heap.size=wr.heap.size:=Lib.iterAt_size _ _ _ _;obtain ⟨w2,hw2⟩:∃ w2,w2=wr.iterAt w.heap.size (bs l) (pos+kk):=⟨_,rfl⟩
   rw [← hw2] at jk gy uH hF2 hst JS;clear hT hF hit hw2;go_wp2_with fail;refine hst.out.mono ?_;rintro e w3 ⟨rfl,vp3,uF⟩;rw [hsn.out] at uF;have SU:=uF.fre _ hF2.out;have hT4:=Lib.hid (uH.out.trans uF);have ua:=Lib.hid (SU.1.trans gy.out);have hF4:=Lib.hid SU.2;have Xs:Hid (w3.iterPos w.heap.size=pos+kk):=Lib.hid (by simp only [World.iterPos,ua.out]);clear uF SU;go_wp2_with fail
   go_roundw
   case rel=>exact ⟨pos+kk,D++[x],vp3,hT4,hF4,ua,tI⟩
   case measure=>rw [hpos.out,Xs.out]; omega
  ·have jk:=bX hit.out hp
   have hDD:=lN hp hD.out;subst hDD;go_wp2_with fail;go_returns;exact ⟨rfl,vp',hT.out⟩
end
end Go.Proofs.YtddkjkockbcamaaGreatDoor

set_option maxHeartbeats 16000000
set_option maxRecDepth 100000
namespace Go.Proofs.YtddkjkockbcamaaGreatDoor
open Go.RowKit
theorem OQ (l:List UInt8) (a:Nat) (c:UInt8) (w:World) (hl:l.length≤1000000000000) (hle:a≤l.length) :
  Calls Tryz.prog 219 #[.string (bs l),.int .i64 (a:Int),.int .u8 (c.toNat:Int)] w fun e w'=>e=.returned (.int .i64 (Fn.run c (l.drop a):Nat))∧w=w':=by
 have hsz:=au l;go_enter Tryz.func219,Tryz.ntmps219;go_wp2_with fail
 go_loop [7] (fun u=>∃ k:Nat,a≤k∧k≤l.length∧u=.int .i64 (k:Int)∧Hid (k+Fn.run c (l.drop k)=a+Fn.run c (l.drop a))) (fun u=>l.length - (intOf u).toNat)
 case atStart=>exact ⟨a,by omega,hle,rfl,Lib.hid rfl⟩
 case round =>
  obtain ⟨k,pT,hk,rfl,hf⟩:=hrel
  by_cases hlt:k<l.length
  ·have hx:=bB hlt w
   by_cases hc:l[k]=c
   ·have ht:=ja hc
    have hf2:Hid (k+1+Fn.run c (l.drop (k+1))=a+Fn.run c (l.drop a)):=Lib.hid (by have:=hf.out; rw [Fn.jh hlt hc] at this; omega);clear hc;go_wp2
    go_round
    case rel=>exact ⟨k+1,by omega,by omega,by go_num,hf2⟩
    case measure=>simp [intOf]; omega
   ·have ht:=fI hc
    have aL:=Lib.hid (show k=a+Fn.run c (l.drop a) from by have:=hf.out; rw [Fn.pN hlt hc] at this; omega);clear hc;go_wp2;go_returns;exact ⟨by refine me ?_; have:=aL.out; omega,rfl⟩
  ·have aL:=Lib.hid (show k=a+Fn.run c (l.drop a) from by have:=hf.out; rw [Fn.iR hlt] at this; omega)
   go_wp2;go_returns;exact ⟨by refine me ?_; have:=aL.out; omega,rfl⟩
theorem mQ (l:List UInt8) (at_:Int) (_hs:l.length≤1000000000000) (ho:at_<0∨(0≤at_∧(l.length:Int)≤at_)∨(0≤at_∧∃ h:at_.toNat<l.length,((l[at_.toNat].toNat:Int)==42)=false∧((l[at_.toNat].toNat:Int)==95)=false)) (w:World) :
  Calls Tryz.prog 238 #[.string (bs l),.int .i64 at_] w fun e w'=>e=.returned (.bool false)∧Below w.heap.size w w':=by
 have hsz:=au l;rcases ho with h | ⟨h0,h⟩ | ⟨h0,hl,h1,h2⟩
 ·have d1:decide (at_<0)=true:=decide_eq_true h
  go_enter Tryz.func238,Tryz.ntmps238;go_wp2_with fail;go_ret;exact ⟨rfl,Below.refl _ _⟩
 ·have d1:decide (at_<0)=false:=decide_eq_false (by omega)
  have d2:decide (((l.length:Nat):Int)≤at_)=true:=decide_eq_true h;go_enter Tryz.func238,Tryz.ntmps238;go_wp2_with fail;go_ret;exact ⟨rfl,Below.refl _ _⟩
 ·have d1:decide (at_<0)=false:=decide_eq_false (by omega)
  have d2:decide (((l.length:Nat):Int)≤at_)=false:=decide_eq_false (by omega);have hix:=fF (i:=at_.toNat) (v:=at_) (S:=l) hl (by omega);have e1:((l[at_.toNat].toNat:Int) != 42)=true:=by simp only [bne,h1]; rfl
  have e2:((l[at_.toNat].toNat:Int) != 95)=true:=by simp only [bne,h2]; rfl
  generalize l[at_.toNat]=ch at *;go_enter Tryz.func238,Tryz.ntmps238;go_wp2_with fail;go_ret;exact ⟨rfl,Below.refl _ _⟩
theorem oS (l:List UInt8) (k:Nat) (hs:l.length≤1000000000000) (hk:k<l.length) (h1:((l[k].toNat:Int)==42)=true∨(((l[k].toNat:Int)==42)=false∧((l[k].toNat:Int)==95)=true)) (t:Bool)
  (ht:(k=0∧t=true)∨(0<k∧∃ h:k - 1<l.length,((l[k - 1].toNat:Int)==(l[k].toNat:Int))=!t)) (w:World) :
  Calls Tryz.prog 238 #[.string (bs l),.int .i64 (k:Int)] w fun e w'=>e=.returned (.bool t)∧Below w.heap.size w w':=by
 have hsz:=au l;have hbz:=fun nq=>below_drewN (Below.refl w.heap.size w) nq;replace hbz:=Lib.hid hbz;have d1:decide ((k:Int)<0)=false:=decide_eq_false (by omega);have d2:decide (((l.length:Nat):Int)≤(k:Int))=false:=decide_eq_false (by omega);have hix:=bB hk;have e1:((l[k].toNat:Int) != 42)=!((l[k].toNat:Int)==42):=rfl;have e2:((l[k].toNat:Int) != 95)=!((l[k].toNat:Int)==95):=rfl;rcases ht with ⟨h0,rfl⟩ | ⟨h0,hp,ht⟩
 ·have d3:((k:Int)==0)=true:=by simpa using h0
  generalize l[k]=ch at *;clear h0;rcases h1 with h1 | ⟨h1,h1'⟩
  all_goals
   go_enter Tryz.func238,Tryz.ntmps238;go_wp2_with fail;go_quiet (fail);go_wp2_with fail;go_ret;exact ⟨rfl,hbz.out nq⟩
 ·have d3:((k:Int)==0)=false:=by
   rw [beq_eq_false_iff_ne]; omega
  have V5:=fF (i:=k - 1) (v:=(k:Int) - 1) (S:=l) hp (by omega);have e3:((l[k - 1].toNat:Int) != (l[k].toNat:Int))=t:=by simp only [bne,ht,Bool.not_not]
  clear ht;generalize l[k]=ch at *;generalize l[k - 1]=cp at *;rcases h1 with h1 | ⟨h1,h1'⟩
  all_goals
   go_enter Tryz.func238,Tryz.ntmps238;go_wp2_with fail;go_quiet (fail);go_wp2_with fail;go_ret;exact ⟨rfl,hbz.out nq⟩
theorem tg (l:List UInt8) (at_:Int) (hs:l.length≤1000000000000) (w:World) :
  Calls Tryz.prog 238 #[.string (bs l),.int .i64 at_] w fun e w'=>e=.returned (.bool (Em.starts l at_))∧Below w.heap.size w w':=by
 by_cases h0:at_<0
 ·rw [Em.gK (.inl h0)]
  exact mQ l at_ hs (.inl h0) w
 ·by_cases h1:(l.length:Int)≤at_
  ·rw [Em.gK (.inr (.inl h1))]
   exact mQ l at_ hs (.inr (.inl ⟨by omega,h1⟩)) w
  ·obtain ⟨k,rfl⟩:∃ k:Nat,at_=(k:Int):=⟨at_.toNat,by omega⟩
   have hk:k<l.length:=by omega
   by_cases h2:l[k]=42∨l[k]=95
   ·have CW:((l[k].toNat:Int)==42)=true∨(((l[k].toNat:Int)==42)=false∧((l[k].toNat:Int)==95)=true):=by
     rcases h2 with h2 | h2
     ·rw [h2]; exact .inl rfl
     ·rw [h2]; exact .inr ⟨rfl,rfl⟩
    rcases Nat.eq_zero_or_pos k with hz | hz
    ·rw [Em.vH hk h2 (.inl hz)]
     exact oS l k hs hk CW true (.inl ⟨hz,rfl⟩) w
    ·by_cases h3:l[k - 1]=l[k]
     ·rw [Em.gK (l:=l) (at_:=(k:Int)) (.inr (.inr (.inr ⟨by omega,hk,h3⟩)))]
      exact oS l k hs hk CW false (.inr ⟨hz,by omega,ja h3⟩) w
     ·rw [Em.vH hk h2 (.inr ⟨by omega,h3⟩)]
      exact oS l k hs hk CW true (.inr ⟨hz,by omega,fI h3⟩) w
   ·have hn:l[k]≠42∧l[k]≠95:=⟨fun h=>h2 (.inl h),fun h=>h2 (.inr h)⟩
    rw [Em.gK (l:=l) (at_:=(k:Int)) (.inr (.inr (.inl ⟨hk,hn⟩)))];exact mQ l (k:Int) hs (.inr (.inr ⟨by omega,hk,eO (n:=42) (by omega) hn.1,eO (n:=95) (by omega) hn.2⟩)) w
theorem uR (a b:Nat) (w:World) :
  Calls Tryz.prog 240 #[.int .i32 (a:Int),.int .i32 (b:Int)] w fun e w'=>e=.returned (.bool (Em.iK b a))∧w=w':=by
 unfold Em.iK;obtain ⟨BA,hBA⟩:∃ x,dw (a:Int)=x:=⟨_,rfl⟩
 obtain ⟨BB,Qp⟩:∃ x,dw (b:Int)=x:=⟨_,rfl⟩
 obtain ⟨PA,TB⟩:∃ x,fX (a:Int)=x:=⟨_,rfl⟩
 obtain ⟨PB,XB⟩:∃ x,fX (b:Int)=x:=⟨_,rfl⟩
 have q1:=fun w=>eN (a:Int) w;have q2:=fun w=>eN (b:Int) w;have q3:=fun w=>ki (a:Int) w;have q4:=fun w=>ki (b:Int) w;rw [hBA] at q1 ⊢;rw [Qp] at q2 ⊢;rw [TB] at q3 ⊢;rw [XB] at q4 ⊢;clear hBA Qp TB XB;go_enter Tryz.func240,Tryz.ntmps240;go_wp2_with fail;refine (q1 _).mono ?_;rintro e w1 ⟨rfl,rfl⟩;cases BA with
 | true =>
  go_wp2_with fail;go_ret;exact ⟨rfl,rfl⟩
 | false =>
  go_wp2_with fail;refine (q3 _).mono ?_;rintro e w1 ⟨rfl,rfl⟩;cases PA with
  | false =>
   go_wp2_with fail;go_ret;exact ⟨rfl,rfl⟩
  | true =>
   go_wp2_with fail;refine (q2 _).mono ?_;rintro e w1 ⟨rfl,rfl⟩;cases BB with
   | true =>
    go_wp2_with fail;go_ret;exact ⟨rfl,rfl⟩
   | false =>
    go_wp2_with fail;refine (q4 _).mono ?_;rintro e w1 ⟨rfl,rfl⟩;go_wp2_with fail;go_ret;exact ⟨rfl,rfl⟩
end Go.Proofs.YtddkjkockbcamaaGreatDoor

set_option maxHeartbeats 16000000
set_option maxRecDepth 100000
section
namespace Go.Proofs.YtddkjkockbcamaaGreatDoor
open Go.RowKit
theorem QN:EI Tryz.prog 219 240 4 24:=EI.mk' Tryz.underlying219 (z:=.agg #[.int .u8 0,.int .i64 0,.bool false,.bool false]) (by kernel_rfl) rfl (by omega)
theorem Lw (n:Nat):(madeCells #[.int .u8 0,.int .i64 0,.bool false,.bool false] (n*4)).toList=aF (List.replicate n Em.none_):=by
 apply List.ext_getElem?;intro j
 by_cases hj:j<n*4
 ·have hk:j / 4<(List.replicate n Em.none_).length:=by rw [List.length_replicate]; omega
  have h1:=gU (f:=jK) (m:=4) (fun _=>rfl) (List.replicate n Em.none_) (j / 4) (j % 4) hk (by omega);rw [show j / 4*4+j % 4=j by omega] at h1;rw [show aF (List.replicate n Em.none_)=(List.replicate n Em.none_).flatMap jK from rfl,h1,List.getElem_replicate];simp only [madeCells,Array.toList_map,Array.toList_range,List.getElem?_map,List.getElem?_range hj,Option.map_some];have h4:j % 4=0∨j % 4=1∨j % 4=2∨j % 4=3:=by omega
  rcases h4 with h | h | h | h<;>(simp only [List.size_toArray,List.length_cons,List.length_nil,h]; rfl)
 ·rw [List.getElem?_eq_none (by simp [madeCells]; omega),List.getElem?_eq_none (by rw [G9,List.length_replicate]; omega)]
theorem E0 (X:List Em.R) (r:Em.R):∀ (k:Nat),k<X.length→((((aF X).set (k*4) (.int .u8 (r.ch.toNat:Int))).set (k*4+1) (.int .i64 r.n)).set (k*4+2) (.bool r.o)).set (k*4+3) (.bool r.c)=aF (X.set k r):=by
 induction X with
 | nil=>intro k hk; simp at hk
 | cons x X ih =>
  intro k hk;cases k with
  | zero=>rfl
  | succ k =>
   have:=ih k (by simpa using hk);rw [List.set_cons_succ,show aF (x::X.set k r)=jK x++aF (X.set k r) from rfl,← this,show aF (x::X)=jK x++aF X from rfl];have h4:(jK x).length=4:=rfl;rw [List.set_append_right _ _ (by rw [h4]; omega),List.set_append_right _ _ (by rw [h4]; omega),List.set_append_right _ _ (by rw [h4]; omega),List.set_append_right _ _ (by rw [h4]; omega),h4,
    show (k+1)*4 - 4=k*4 by omega,show (k+1)*4+1 - 4=k*4+1 by omega,show (k+1)*4+2 - 4=k*4+2 by omega,show (k+1)*4+3 - 4=k*4+3 by omega]
def uw (l:List Em.R) (k:Nat):List Em.R:=(Em.hold l).take k++List.replicate (l.length - k) Em.none_
theorem wE (l:List Em.R):(Em.hold l).length=l.length:=by simp [Em.hold]
theorem Ng {l:List Em.R} {k:Nat} (h:k≤l.length):(uw l k).length=l.length:=by simp [uw,wE]; omega
theorem KQ (l:List Em.R):uw l 0=List.replicate l.length Em.none_:=by simp [uw]
theorem Qb (l:List Em.R):uw l l.length=Em.hold l:=by
 unfold uw;rw [List.take_of_length_le (by rw [wE]; exact Nat.le_refl _),Nat.sub_self]; simp
theorem NA {l:List Em.R} {k:Nat} (h:k<l.length):(uw l k).set k ⟨l[k].ch,Em.held l[k].n,l[k].o,l[k].c⟩=uw l (k+1):=by
 unfold uw;have hh:k<(Em.hold l).length:=by rw [wE]; exact h
 obtain ⟨m,hm⟩:∃ m,l.length - k=m+1:=⟨l.length - k - 1,by omega⟩
 have hl:((Em.hold l).take k).length=k:=by rw [List.length_take]; omega
 rw [List.set_append_right _ _ (by omega),hl,Nat.sub_self,hm,List.replicate_succ,List.set_cons_zero,show l.length - (k+1)=m by omega,List.take_succ_eq_append_getElem hh,List.append_assoc];simp [Em.hold]
theorem Mo {w:World} {B g n c:Nat} {X:List Em.R} {E:TypeId} (h:w.ownsRow B E 4 (.slice (some ⟨g,0,none⟩) n c) n (aF X)) (r:Em.R) {k:Nat} (hk:k<X.length) :
  ((((w.setCell ⟨g,k*4,none⟩ (.int .u8 (r.ch.toNat:Int))).setCell ⟨g,k*4+1,none⟩ (.int .i64 r.n)).setCell ⟨g,k*4+2,none⟩ (.bool r.o)).setCell ⟨g,k*4+3,none⟩ (.bool r.c)).ownsRow B E 4 (.slice (some ⟨g,0,none⟩) n c) n (aF (X.set k r)):=by
 have:=((((h.stored (k*4) (.int .u8 (r.ch.toNat:Int))).1.stored (k*4+1) (.int .i64 r.n)).1.stored (k*4+2) (.bool r.o)).1.stored (k*4+3) (.bool r.c)).1;rwa [E0 X r k hk] at this
theorem kE {w:World} {B g n c:Nat} {X:List Em.R} {E:TypeId} (h:w.ownsRow B E 4 (.slice (some ⟨g,0,none⟩) n c) n (aF X)) {k:Nat} (hk:k<X.length) :
  w.cell? ⟨g,k*4,none⟩=some (.int .u8 (X[k].ch.toNat:Int))∧w.cell? ⟨g,k*4+1,none⟩=some (.int .i64 X[k].n)∧w.cell? ⟨g,k*4+2,none⟩=some (.bool X[k].o)∧w.cell? ⟨g,k*4+3,none⟩=some (.bool X[k].c):=by
 have hat:=fun i (hi:i<4)=>gU (f:=jK) (m:=4) (fun _=>rfl) X k i hk hi;have hc:=fun j u hu=>h.cells (g:=g) rfl j u hu;have ha:∀ j,(⟨g,0,none⟩:Addr).add j=⟨g,j,none⟩:=fun j=>by unfold Addr.add; split<;>simp_all
 simp only [ha] at hc;exact ⟨hc _ _ ((hat 0 (by omega)).trans rfl),hc _ _ ((hat 1 (by omega)).trans rfl),hc _ _ ((hat 2 (by omega)).trans rfl),hc _ _ ((hat 3 (by omega)).trans rfl)⟩
theorem Hu {B:Nat} {a w:World} {g j:Nat} (h:Below B a w) (hg:B≤g) (p q r s:Value):Below B a ((((w.setCell ⟨g,j,none⟩ p).setCell ⟨g,j+1,none⟩ q).setCell ⟨g,j+2,none⟩ r).setCell ⟨g,j+3,none⟩ s) :=
 (((h.setCell (p:=⟨g,j,none⟩) hg _).setCell (p:=⟨g,j+1,none⟩) hg _).setCell (p:=⟨g,j+2,none⟩) hg _).setCell (p:=⟨g,j+3,none⟩) hg _
theorem fG (l:List Em.R) (A:Option Addr) (c:Nat) (w:World) (h:Row w w.heap.size 4 A l.length (aF l)) (hl:l.length≤4000000) :
  Calls Tryz.prog 226 #[.slice A l.length c] w fun e w'=>(∃ v,e=.returned v∧w'.ownsRow w.heap.size 240 4 v l.length (aF (Em.hold l)))∧Below w.heap.size w w':=by
 have hR:=Lib.hid h;clear h;have hmk:=fun w=>run_mk QN (z:=.agg #[.int .u8 0,.int .i64 0,.bool false,.bool false]) (by kernel_rfl) l.length (by omega) (by omega) w;have HI:=Lib.hid (dh w w.heap.size 4 l.length 240 #[.int .u8 0,.int .i64 0,.bool false,.bool false] (Nat.le_refl _) (by omega));replace HI:=Lib.hid (by have:=HI.out; rwa [Lw,← KQ] at this);simp only [Value.cells] at hmk;generalize madeCells _ (l.length*4)=C at *;have hb0:=Lib.hid (aa w (.cells C 240));go_enter Tryz.func226,Tryz.ntmps226;go_wp2_with fail
 go_loopw [11] (fun i wr=>∃ k:Nat,k≤l.length∧i=.int .i64 k∧Hid (wr.ownsRow w.heap.size 240 4 (.slice (some ⟨w.heap.size,0,none⟩) l.length l.length) l.length (aF (uw l k)))∧Below w.heap.size w wr) (fun i _=>l.length - (intOf i).toNat)
 case atStart=>exact ⟨0,Nat.zero_le _,rfl,HI,hb0.out⟩
 case round =>
  obtain ⟨k,hk,rfl,hown,hb⟩:=hrel;clear HI hb0 hmk;have hz:=hb.size
  by_cases hkl:k<l.length
  ·obtain ⟨b,o,rfl,jD,hc⟩:=Nt hR.out (by omega)
   obtain ⟨c0,c1,c2,c3⟩:=hc k hkl;have d0:=(hb.cell (p:=⟨b,o+k*4,none⟩) jD).trans c0;have d1:=(hb.cell (p:=⟨b,o+k*4+1,none⟩) jD).trans c1;have d2:=(hb.cell (p:=⟨b,o+k*4+2,none⟩) jD).trans c2;have d3:=(hb.cell (p:=⟨b,o+k*4+3,none⟩) jD).trans c3;clear hc c0 c1 c2 c3;obtain ⟨X,hX,Z0,XF⟩:∃ X:List Em.R,uw l k=X∧X.set k ⟨l[k].ch,Em.held l[k].n,l[k].o,l[k].c⟩=uw l (k+1)∧k<X.length:=⟨_,rfl,NA hkl,by rw [Ng (by omega)]; exact hkl⟩
   rw [hX] at hown;clear hX;replace Z0:=Lib.hid Z0;have hlt:=hown.out.lt _ rfl;go_upto_region 5 with fail
   generalize hw2:World.alloc wr _=w2;have hb2:Below wr.heap.size wr w2:=by rw [← hw2]; exact aa _ _
   have hloc:w2.heap[wr.heap.size]?=some (.cells #[.int .u8 (l[k].ch.toNat:Int),.int .i64 l[k].n,.bool l[k].o,.bool l[k].c] 240 (0,0)):=by rw [← hw2]; exact heap_alloc_new _ _
   clear hw2;have hown2:=bO hown.out hb2;have hB2:=hb.trans (hb2.mono hz);obtain ⟨y0,y1,y2,y3⟩:=four hloc;have hfz:=aW hloc;obtain ⟨kk,hkk⟩:∃ kk:Int,kk=(if l[k].n<0 then 0 else l[k].n):=⟨_,rfl⟩
   have pT:(if l[k].n<0 then 0 else l[k].n)=kk:=hkk.symm;have hk2:max l[k].n 0=kk:=by rw [hkk]; split<;>omega
   have hk3:(if (100:Int)<kk then (100:Int) else kk)=((Em.held l[k].n:Nat):Int):=by unfold Em.held; rw [hkk]; split<;>split<;>omega
   have hk4:min kk 100=((Em.held l[k].n:Nat):Int):=by unfold Em.held; rw [hkk]; split<;>omega
   have hset:=fun (v:Value)=>heap_setCell_same w2 wr.heap.size 1 _ _ v hloc;replace hset:=Lib.hid hset;replace hloc:=Lib.hid hloc;replace hown2:=Lib.hid hown2;replace hB2:=Lib.hid hB2;clear hkk d0 d1 d2 d3;go_upto_region 6 with fail
   generalize hw3:World.setCell w2 _ _=w3;have sM:w3.heap[wr.heap.size]?=some (.cells #[.int .u8 (l[k].ch.toNat:Int),.int .i64 (Em.held l[k].n:Nat),.bool l[k].o,.bool l[k].c] 240 (0,0)):=by rw [← hw3]; exact hset.out _
   have fD:=Lib.hid (show w3.ownsRow w.heap.size 240 4 (.slice (some ⟨w.heap.size,0,none⟩) l.length l.length) l.length (aF X) from by
    rw [← hw3];exact World.ownsRow.kept hown2.out (ax w2 ⟨wr.heap.size,1,none⟩ _) (.inr fun e=>by
     have e2:w.heap.size=wr.heap.size:=Option.some.inj e;omega))
   have jw:Below w.heap.size w w3:=by rw [← hw3]; exact hB2.out.setCell (p:=⟨wr.heap.size,1,none⟩) hz _
   clear hw3 hset hown2 hB2 y0 y1 y2 y3 hfz hloc hown hb hb2;obtain ⟨y0,y1,y2,y3⟩:=four sM;obtain ⟨x0,x1,x2,x3⟩:=kE fD.out XF;have hfx:=fun j=>fD.out.frozenAt j;have X0:=Lib.hid (Mo fD.out ⟨l[k].ch,Em.held l[k].n,l[k].o,l[k].c⟩ XF);have Yu:=Lib.hid (Hu (j:=k*4) jw (Nat.le_refl w.heap.size) (.int .u8 (l[k].ch.toNat:Int)) (.int .i64 (Em.held l[k].n:Nat)) (.bool l[k].o) (.bool l[k].c));clear sM fD jw;go_wp2_with fail
   go_roundw
   case rel=>exact ⟨k+1,hkl,by go_num,Lib.hid (by rw [← Z0.out]; exact X0.out),Yu.out⟩
   case measure=>simp [intOf]; omega
  ·have yb:k=l.length:=by omega
   subst yb;rw [Qb] at hown;go_wp2_with fail;go_ret;exact ⟨⟨_,rfl,hown.out⟩,hb⟩
end Go.Proofs.YtddkjkockbcamaaGreatDoor
end
section
namespace Go.Proofs.YtddkjkockbcamaaGreatDoor
open Go.RowKit
attribute [local go_sem] aD av aq
theorem eL {w:World} {B g n c:Nat} {E:TypeId} {L:List Nat} (h:w.ownsRow B E 1 (.slice (some ⟨g,0,none⟩) n c) n (aB L)) {k:Nat} (hk:k<L.length):w.cell? ⟨g,k,none⟩=some (.int .i64 (L[k]:Int)):=by
 have:=h.cells (g:=g) rfl k _ (Jn hk);rwa [show (⟨g,0,none⟩:Addr).add k=⟨g,k,none⟩ from by unfold Addr.add; split<;>simp_all] at this
def IX (O:List Nat) (l:List Em.R) (c:Nat):Option Nat→Prop
 | some i=>∃ hi:i<O.length,Em.jE (Em.get l O[i]) (Em.get l c)=true∧∀ k (hk:k<O.length),i<k→Em.jE (Em.get l O[k]) (Em.get l c)=false
 | none=>∀ j∈O,Em.jE (Em.get l j) (Em.get l c)=false
def MZ:Option Nat→Value
 | some i=>.tuple #[.int .i64 (i:Int),.bool true]
 | none=>.tuple #[.int .i64 0,.bool false]
def U9 (O:List Nat) (l:List Em.R) (c:Nat) (v:Value):Prop:=∃ (z:Int) (m:Nat),v=.int .i64 z∧z=(m:Int) - 1∧m≤O.length∧Hid (∀ k (hk:k<O.length),m≤k→Em.jE (Em.get l O[k]) (Em.get l c)=false)
theorem BS {B b:Nat} {x:Option Part} {v:Vs} {l:List Em.R} {L O N:List Nat} {P:List (Nat×Nat×Nat)} {w:World} (hM:PM B b x v l L O N P w) (c:Nat) (hc:c<l.length) (hl:l.length≤4000000) (hH:Em.Held l)
  (hO:O.length≤4000000) (YY:∀ j∈O,j<l.length) (hs:O.Pairwise (· < ·)) (YJ:N.length=1536) (hN:∀ j∈O,j<Em.lf N (Em.iJ (Em.get l c))→Em.jE (Em.get l j) (Em.get l c)=false) :
  Calls Tryz.prog 243 #[.pointer (some ⟨b,0,none⟩),.int .i64 (c:Int)] w fun e w'=>∃ r,e=.returned (MZ r)∧IX O l c r∧Below B w w'∧PM B b x v l L O (if r=none then N.set (Em.iJ (Em.get l c)) c else N) P w':=by
 obtain ⟨hB,mw,hfz,m0,m1,m2,m3,m4⟩:=hM.blk;obtain ⟨gr,cr,E9,hcr,ug,hgr⟩:=gb hM.Fj (by omega);obtain ⟨gn,cn,hvn,pV,hBn,hgn⟩:=gb hM.Uu (by omega);obtain ⟨A,co,WI,XT⟩:=ak hM.xT;have oP:Em.get l c=l[c]:=Em.get_at hc;have q1:=fun w=>KN l[c] (hH _ (List.getElem_mem hc)) w;obtain ⟨s,Un⟩:∃ s,s=Em.iJ (Em.get l c):=⟨_,rfl⟩
 have hs6:s<1536:=by rw [Un]; exact Em.Ef _
 rw [← oP,← Un] at q1;have hM0:=Lib.hid hM;have SP:=Lib.hid hvn;have R8:=Lib.hid WI;have R3:=Lib.hid E9;have EF:=hM.Fj;rw [E9] at EF;obtain ⟨x0,x1,x2,x3⟩:=kE EF hc;rw [E9] at m0;rw [hvn] at m3;rw [WI] at m2;unfold uP at q1;rw [oP] at q1;have hbl:=Lib.hid (aa w (.cells #[.int .u8 (l[c].ch.toNat:Int),.int .i64 l[c].n,.bool l[c].o,.bool l[c].c] 240));have hloc:=Lib.hid (heap_alloc_new w (.cells #[.int .u8 (l[c].ch.toNat:Int),.int .i64 l[c].n,.bool l[c].o,.bool l[c].c] 240));have Wz:=Lib.hid hH;replace hs:=Lib.hid hs;replace hN:=Lib.hid hN;replace YY:=Lib.hid YY;replace Un:=Lib.hid Un;replace oP:=Lib.hid oP;clear EF hM m1 m4 E9 hvn WI hH;go_enter Tryz.func243,Tryz.ntmps243;go_wp2_with fail;refine (q1 _).mono ?_;rintro e w1 ⟨rfl,hb1⟩;have IP:=(keep hloc.out hb1).1;have hw1:=ag hbl.out hb1;have P9:=hM0.out.ext hw1;clear hM0 hbl hloc hb1 q1 m0 m2 m3 x0 x1 x2 x3 hfz;have hz1:=hw1.size;obtain ⟨_,WZ,_,m0,m1,m2,m3,m4⟩:=P9.blk;rw [R3.out] at m0;rw [SP.out] at m3;rw [R8.out] at m2;replace hw1:=Lib.hid hw1;replace P9:=Lib.hid P9;replace IP:=Lib.hid IP;clear m1 m4;go_wp2_with fail
 go_loopw [8] (fun u wr=>U9 O l c u∧Hid (Below w1.heap.size w1 wr)) (fun u _=>(intOf u+1).toNat)
 case atStart=>exact ⟨⟨(O.length:Int) - 1,O.length,rfl,rfl,Nat.le_refl _,Lib.hid fun k hk h=>by omega⟩,Lib.hid (Below.refl _ _)⟩
 case round =>
  obtain ⟨⟨z,m,rfl,hz,hm,hno⟩,hq⟩:=hrel;clear m0 m2 m3;have xU:=P9.out.ext hq.out;obtain ⟨_,hbwr,_,m0,m1,m2,m3,m4⟩:=xU.blk;rw [R3.out] at m0;rw [SP.out] at m3;rw [R8.out] at m2;have hnn:=xU.Uu;rw [SP.out] at hnn;have n0:=eL hnn (k:=s) (by omega);have nf:=fun n=>(bO hnn (below_drewN (Below.refl wr.heap.size wr) n)).frozenAt s;have Rp:Em.lf N s=N[s]'(by omega):=Em.qa (by omega);have VW:=Lib.hid (fun n=>(xU.ext (below_drewN (Below.refl wr.heap.size wr) n)).Z1 SP.out s c);have hwr:=ag hw1.out (show Below w1.heap.size w1 wr from hq.out);have Vy:=Lib.hid (fun n=>(below_drewN (hwr.mono (Nat.le_trans hB (Nat.le_of_lt mw))) n).setCell (p:=⟨gn,s,none⟩) hBn (.int .i64 (c:Int)));have hBr0:=Lib.hid (hwr.mono (Nat.le_trans hB (Nat.le_of_lt mw)));have hgnr:gn<wr.heap.size:=Nat.lt_of_lt_of_le hgn hwr.size;replace xU:=Lib.hid xU;clear hnn hwr m1 m4;rcases Nat.eq_zero_or_pos m with rfl | hmp
  ·obtain rfl:z = -1:=by omega
   have hall:Hid (IX O l c none):=Lib.hid fun j hj=>by
    obtain ⟨k,hk,rfl⟩:=List.getElem_of_mem hj;exact hno.out k hk (Nat.zero_le _)
   clear hno hz hN m2 Rp;go_wp2_with fail;go_quiet (fail);go_wp2_with fail;go_ret2;exact ⟨none,rfl,hall.out,Vy.out nq,by rw [if_pos rfl,← Un.out]; exact VW.out nq⟩
  ·obtain ⟨j,rfl⟩:∃ j,m=j+1:=⟨m - 1,by omega⟩
   obtain rfl:z=(j:Int):=by omega
   have YD:j<O.length:=by omega
   have C2:=xU.out.xT;rw [R8.out] at C2;obtain ⟨go,rfl⟩:∃ g,A=some ⟨g,0,none⟩:=by
    rcases C2.2 with ⟨hv,h0⟩ | ⟨g,cap,cur,hv,_⟩
    ·omega
    ·injection hv with h1 _ _; exact ⟨g,h1⟩
   have o0:=eL C2 YD;clear C2;obtain ⟨oj,zL⟩:∃ o,o=O[j]:=⟨_,rfl⟩
   rw [← zL] at o0;have Sx:oj<l.length:=by rw [zL]; exact YY.out _ (List.getElem_mem YD)
   by_cases hge:N[s]≤oj
   ·have d0:decide ((N[s]:Int)≤(oj:Int))=true:=decide_eq_true (by omega)
    have d1:decide (N[s]≤oj)=true:=decide_eq_true hge;have EF:=xU.out.Fj;rw [R3.out] at EF;obtain ⟨y0,y1,y2,y3⟩:=kE EF Sx;clear EF;obtain ⟨z0,z1,z2,z3⟩:=four (keep IP.out hq.out).1;have hgo:Em.get l oj=l[oj]:=Em.get_at Sx;have q:=fun w=>Mp l[oj] l[c] (Wz.out _ (List.getElem_mem Sx)) (Wz.out _ (List.getElem_mem hc)) w;obtain ⟨F,hF⟩:∃ F,F=Em.jE l[oj] l[c]:=⟨_,rfl⟩
    have hFO:Hid (F=Em.jE (Em.get l O[j]) (Em.get l c)):=Lib.hid (by rw [← zL,hF,hgo,oP.out]);rw [← hF] at q;unfold uP at q;clear hF hgo hz hN Rp hge;replace zL:=Lib.hid zL;generalize N[s]=ns at *;have C9:=(keep IP.out hq.out).1;have Qh:Hid (∀ n u,Below (wr.drewN n).heap.size (wr.drewN n) u→(u.cell? ⟨b,0,none⟩=some (.slice (some ⟨gr,0,none⟩) l.length cr)∧u.cell? ⟨b,2,none⟩=some (.slice (some ⟨go,0,none⟩) O.length co)∧u.cell? ⟨go,j,none⟩=some (.int .i64 (oj:Int))) ∧
      (u.cell? ⟨gr,oj*4,none⟩=some (.int .u8 (l[oj].ch.toNat:Int))∧u.cell? ⟨gr,oj*4+1,none⟩=some (.int .i64 l[oj].n)∧u.cell? ⟨gr,oj*4+2,none⟩=some (.bool l[oj].o)∧u.cell? ⟨gr,oj*4+3,none⟩=some (.bool l[oj].c)) ∧
      (u.cell? ⟨w.heap.size,0,none⟩=some (.int .u8 (l[c].ch.toNat:Int))∧u.cell? ⟨w.heap.size,1,none⟩=some (.int .i64 l[c].n)∧u.cell? ⟨w.heap.size,2,none⟩=some (.bool l[c].o)∧u.cell? ⟨w.heap.size,3,none⟩=some (.bool l[c].c))):=Lib.hid fun n u hu=>by
     have hu2:Below wr.heap.size wr u:=ag (below_drewN (Below.refl wr.heap.size wr) n) hu;have hMu:=xU.out.ext hu2;obtain ⟨_,_,_,m0,_,m2,_,_⟩:=hMu.blk;have EF:=hMu.Fj;have C2:=hMu.xT;rw [R3.out] at m0 EF;rw [R8.out] at m2 C2;exact ⟨⟨m0,m2,by rw [zL.out]; exact eL C2 YD⟩,kE EF Sx,four (keep C9 hu2).1⟩
    have Sn:=Lib.hid (fun (n:Nat)=>below_drewN hBr0.out n);have RC:=Lib.hid (fun (n:Nat)=>xU.out.ext (below_drewN (Below.refl wr.heap.size wr) n));clear C9 VW Vy;go_wp2_with fail;go_quiet (fail);go_wp2_with fail;clear m0 m2 m3 n0 o0 y0 y1 y2 y3 z0 z1 z2 z3;replace Qh:=Lib.hid (Qh.out nq);replace Sn:=Lib.hid (Sn.out nq);replace RC:=Lib.hid (RC.out nq);have Y4:b<(wr.drewN nq).heap.size:=hbwr;have hnr:w1.heap.size≤(wr.drewN nq).heap.size:=hq.out.size;have hqn:=Lib.hid (below_drewN hq.out nq);generalize wr.drewN nq=wd at *;have hS:Ext wd wd.drew:=bq wd;obtain ⟨⟨m0,m2,o0⟩,⟨y0,y1,y2,y3⟩,⟨z0,z1,z2,z3⟩⟩:=Qh.out wd.drew hS;refine eT ((true,0)::(true,1)::(true,2)::(true,3)::(true,4)::(true,5)::(true,6)::(true,7)::(true,8)::(true,9)::(true,10)::(true,11)::(true,12)::(true,13)::(false,14)::[]) (Ext wd) hS (by kernel_rfl) (by kernel_rfl) (by kernel_rfl) (fun _ _ d _ _ h=>by cases d<;>exact h) ?_
    iterate 14 (first | refine cT rfl ?_ | (refine aV rfl ?_; intro K hK; go_simp; first | (refine hK _ _ _ ?_; clear hK K) | (refine ⟨fun w' hw'=>by obtain ⟨⟨m0,m2,o0⟩,⟨y0,y1,y2,y3⟩,⟨z0,z1,z2,z3⟩⟩:=Qh.out w' hw'; go_simp,hK _ _ _ ?_⟩; clear hK K)))
    refine aV rfl ?_;intro K hK;go_simp;refine (q _).mono ?_;rintro e w4 ⟨rfl,hb4⟩;replace hb4:=ag (bq wd) hb4;refine AS hb4 (hK _ _ _ ?_);clear hK K q;refine ko ?_;have tc:=Lib.hid (Sn.out.trans (hb4.mono (Nat.le_trans (Nat.le_trans hB (Nat.le_of_lt mw)) (Nat.le_trans hz1 hnr))));have N7:=Lib.hid (RC.out.ext hb4);have hq4:=Lib.hid (show Below w1.heap.size w1 w4 from hqn.out.trans (hb4.mono hnr));clear RC Sn hb4 m0 m2 o0 y0 y1 y2 y3 z0 z1 z2 z3 Qh hS;cases F with
    | true =>
     have hsome:Hid (IX O l c (some j)):=Lib.hid ⟨YD,hFO.out.symm,fun k hk h=>hno.out k hk h⟩;go_wp2_with fail;go_ret2;exact ⟨some j,rfl,hsome.out,tc.out,N7.out⟩
    | false =>
     have hno2:Hid (∀ k (hk:k<O.length),j≤k→Em.jE (Em.get l O[k]) (Em.get l c)=false):=Lib.hid fun k hk h=>by
      rcases Nat.lt_or_eq_of_le h with h1 | h1
      ·exact hno.out k hk h1
      ·subst h1; exact hFO.out.symm
     go_wp2_with fail
     go_roundw
     case rel=>exact ⟨⟨(j:Int) - 1,j,rfl,rfl,by omega,hno2⟩,hq4⟩
     case measure=>simp [intOf]<;>omega
   ·have d0:decide ((N[s]:Int)≤(oj:Int))=false:=decide_eq_false (by omega)
    have d1:decide (N[s]≤oj)=false:=decide_eq_false hge;have hall:Hid (IX O l c none):=Lib.hid fun i hi=>by
     obtain ⟨k,hk,rfl⟩:=List.getElem_of_mem hi;rcases Nat.lt_or_ge j k with h1 | h1
     ·exact hno.out k hk h1
     ·refine hN.out _ hi ?_
      rw [← Un.out,Rp];have:O[k]≤O[j]:=by
       rcases Nat.lt_or_eq_of_le h1 with h2 | h2
       ·exact Nat.le_of_lt (List.pairwise_iff_getElem.1 hs.out k j hk YD h2)
       ·subst h2; exact Nat.le_refl _
      omega
    clear hno hz hN Rp zL hge;generalize N[s]=ns at *;go_wp2_with fail;go_quiet (fail);go_wp2_with fail;go_ret2;exact ⟨none,rfl,hall.out,Vy.out nq,by rw [if_pos rfl,← Un.out]; exact VW.out nq⟩
end Go.Proofs.YtddkjkockbcamaaGreatDoor
end
section
namespace Go.Proofs.YtddkjkockbcamaaGreatDoor
open Go.RowKit
theorem RW:EI Tryz.prog 236 241 3 24:=EI.mk' Tryz.underlying236 (z:=.agg #[.int .i64 0,.int .i64 0,.int .i64 0]) (by kernel_rfl) rfl (by omega)
theorem eg:EI Tryz.prog 23 3 1 8:=EI.mk' Tryz.underlying23 (z:=.int .i64 0) (by kernel_rfl) rfl (by omega)
theorem Iz (g n c hi:Nat) {v:Int} (hv:v=(hi:Int)) (h2:hi≤c) (w:World) :
  (Instr.slice 23 (.slice (some ⟨g,0,none⟩) n c) none (some (.int .i64 v)) none).run Tryz.prog w=.ok (.slice (some ⟨g,0,none⟩) hi c) w :=
 Km (by kernel_rfl) 1 (fun w=>by kernel_rfl) g n c hi hv h2 w
theorem PM.atP {B b:Nat} {x:Option Part} {v:Vs} {l:List Em.R} {L O N:List Nat} {P:List (Nat×Nat×Nat)} {w u:World} (h:PM B b x v l L O N P w) (hg:w.grownBy u v.p.ownBlock):(∀ j,u.frozen? ⟨b,j,none⟩=false)∧u.cell? ⟨b,4,none⟩=some v.p:=by
 obtain ⟨h1,h2,h3⟩:=Hp.base h (k:=0) rfl;have h4:u.heap[b]?=_:=(hg.block b h2 (fun e=>by
  have:=h.apart 5 0 _ _ b rfl rfl e.symm rfl;cases this)).trans h3
 exact ⟨aW h4,ah h4 4⟩
theorem PM.atO {B b:Nat} {x:Option Part} {v:Vs} {l:List Em.R} {L O N:List Nat} {P:List (Nat×Nat×Nat)} {w u:World} (h:PM B b x v l L O N P w) (hg:w.grownBy u v.o.ownBlock):(∀ j,u.frozen? ⟨b,j,none⟩=false)∧u.cell? ⟨b,2,none⟩=some v.o:=by
 obtain ⟨h1,h2,h3⟩:=Hp.base h (k:=0) rfl;have h4:u.heap[b]?=_:=(hg.block b h2 (fun e=>by
  have:=h.apart 3 0 _ _ b rfl rfl e.symm rfl;cases this)).trans h3
 exact ⟨aW h4,ah h4 2⟩
theorem PM.Yr {B b:Nat} {x:Option Part} {v:Vs} {l:List Em.R} {L O N:List Nat} {P:List (Nat×Nat×Nat)} {w:World} (h:PM B b x v l L O N P w) {g c:Nat} (hv:v.o=.slice (some ⟨g,0,none⟩) O.length c) {k:Nat} (hk:k≤O.length) :
  PM B b x ⟨v.r,v.l,.slice (some ⟨g,0,none⟩) k c,v.n,v.p⟩ l L (O.take k) N P (w.setCell ⟨b,2,none⟩ (.slice (some ⟨g,0,none⟩) k c)):=by
 have ho:=h.xT;rw [hv] at ho;refine h.Vu (World.grownBy.refl w _) (L1 ho hk rfl) (fun g' hg'=>.inl ?_);rw [hv]; exact hg'
theorem KX {B b:Nat} {x:Option Part} {v:Vs} {l:List Em.R} {L O N:List Nat} {P:List (Nat×Nat×Nat)} {w:World} (hM:PM B b x v l L O N P w) (i c oj s lo lc:Nat) (hi:i<O.length) (zL:O[i]=oj) (ZA:oj<L.length) (U1:c<L.length) (hne:oj≠c)
  (hlo:L[oj]=lo) (hlc:L[c]=lc) (hlo1:1≤lo∧lo≤100) (hlc1:1≤lc∧lc≤100) (hL:L.length≤4000000) (hO:O.length≤4000000) (hP:P.length≤1000000000)
  (d1:Bool) (d2:Bool) (Xw:decide (2≤lo)=d1) (yW:decide (2≤lc)=d2) (hs:s=if (d1&&d2)=true then 2 else 1) :
  Calls Tryz.prog 244 #[.pointer (some ⟨b,0,none⟩),.int .i64 (i:Int),.int .i64 (c:Int)] w fun e w'=>e=.returned (.tuple #[]) ∧
   (∃ v',v'.l=v.l∧v'.r=v.r∧PM B b x v' l ((L.set oj (lo - s)).set c (lc - s)) (Em.oy O i (lo - s)) N (P++[(oj,c,s)]) w')∧Below B w w':=by
 have hs2:1≤s∧s≤2∧s≤lo∧s≤lc∧(s:Int)=(if (d1&&d2)=true then 2 else 1):=by
  have h1:d1=true→2≤lo:=fun h=>of_decide_eq_true (Xw.trans h);have h2:d2=true→2≤lc:=fun h=>of_decide_eq_true (yW.trans h);cases d1<;>cases d2<;>simp_all
 obtain ⟨hs0,hs1,oH,hsc,hsi⟩:=hs2;have e1:decide ((2:Int)≤(lo:Int))=d1:=by rw [← Xw]; exact decide_eq_decide.2 (by omega)
 have e2:decide ((2:Int)≤(lc:Int))=d2:=by rw [← yW]; exact decide_eq_decide.2 (by omega)
 obtain ⟨ro,hro⟩:∃ r,r=lo - s:=⟨_,rfl⟩
 obtain ⟨rc,hrc⟩:∃ r,r=lc - s:=⟨_,rfl⟩
 obtain ⟨sz,hsz⟩:∃ z:Int,z=(s:Int):=⟨_,rfl⟩
 have hro2:(lo:Int) - sz=(ro:Int):=by omega
 have hrc2:(lc:Int) - sz=(rc:Int):=by omega
 have wB:(d1=false∧sz=1)∨(d1=true∧d2=false∧sz=1)∨(d1=true∧d2=true∧sz=2):=by
  rw [hsz,hsi];cases d1<;>cases d2<;>simp
 have hroz:ro≤100:=by omega
 have hrcz:rc≤100:=by omega
 obtain ⟨vr,vl,vo,vn,vp⟩:=v;obtain ⟨hB,mw,hfz,m0,m1,m2,m3,m4⟩:=hM.blk;obtain ⟨gl,cl,hvl,hcl,hBl,Ds⟩:=gb hM.ri (by omega);obtain ⟨go,co,WI,XT,hBo,hgo⟩:=gb hM.xT (by omega);obtain ⟨AP,cp,hvp,T0⟩:=ak hM.SK;simp only at hvl WI hvp m0 m1 m2 m3 m4;subst hvl WI hvp;have hrl:=hM.ri;have RQ:=hM.xT;simp only at hrl RQ;have o0:=eL RQ hi;rw [zL] at o0;have l0:=eL hrl ZA;rw [hlo] at l0;have l1:=eL hrl U1;rw [hlc] at l1;have lf:=fun j=>hrl.frozenAt j;have N7:=Lib.hid (fun y:Nat=>hM.Pw (g:=gl) (c:=cl) rfl oj y);have Qv:=Lib.hid (fun y z:Nat=>(hM.Pw (g:=gl) (c:=cl) rfl oj y).Pw (g:=gl) (c:=cl) (by rw [List.length_set]) c z);have tc:=Lib.hid (fun y:Value=>(Below.refl B w).setCell (p:=⟨gl,oj,none⟩) hBl y);replace hrl:=Lib.hid hrl;replace RQ:=Lib.hid RQ;replace hs:=Lib.hid hs;replace hro:=Lib.hid hro;replace hrc:=Lib.hid hrc;replace hsz:=Lib.hid hsz;replace hlo:=Lib.hid hlo;replace hlc:=Lib.hid hlc;replace zL:=Lib.hid zL;clear hM;have hlob:(lo:Int)≤100:=by omega
 have hlcb:(lc:Int)≤100:=by omega
 have hzero:Hid (Em.oy O i (lo - s)=if ro=0 then O.take i else O.take (i+1)):=Lib.hid (by rw [← hro.out]; rfl);have HO:Hid (Em.oy O i (lo - s)=if ro=0 then O.take i else O.take (i+1)):=hzero;clear m0 m3 Xw yW hs0 oH hsc hsi hs1 hzero hs;replace HO:=HO;rcases wB with ⟨rfl,rfl⟩ | ⟨rfl,rfl,rfl⟩ | ⟨rfl,rfl,rfl⟩
 all_goals
  go_enter Tryz.func244,Tryz.ntmps244;go_upto_region 5 with fail
  generalize hw4:World.setCell w _ _=w4;have JX:PM B b x ⟨vr,.slice (some ⟨gl,0,none⟩) L.length cl,.slice (some ⟨go,0,none⟩) O.length co,vn,.slice AP P.length cp⟩ l (L.set oj ro) O N P w4:=by rw [← hw4]; exact N7.out ro
  have Ny:Below B w w4:=by rw [← hw4]; exact tc.out _
  obtain ⟨_,SH,Ze,_,m1',_,_,_⟩:=JX.blk;have Ro:=JX.ri;simp only [List.length_set] at m1' Ro;have l1':=eL Ro (k:=c) (by rw [List.length_set]; exact U1);rw [List.getElem_set_ne hne,hlc.out] at l1';have lf':=fun j=>Ro.frozenAt j;have hgl4:gl<w4.heap.size:=Nat.lt_of_lt_of_le Ds Ny.size;have XG:=Lib.hid (JX.Pw (g:=gl) (c:=cl) (by rw [List.length_set]) c rc);replace Ny:=Lib.hid Ny;replace JX:=Lib.hid JX;clear hw4 m1 m2 m4 o0 l0 l1 lf N7 Qv Ro hfz;go_upto_region 6 with fail
  generalize Qf:World.setCell w4 _ _=w5;have Qv:PM B b x ⟨vr,.slice (some ⟨gl,0,none⟩) L.length cl,.slice (some ⟨go,0,none⟩) O.length co,vn,.slice AP P.length cp⟩ l ((L.set oj ro).set c rc) O N P w5:=by rw [← Qf]; exact XG.out
  have ES:Below B w w5:=by rw [← Qf]; exact Ny.out.setCell (p:=⟨gl,c,none⟩) hBl _
  clear Qf XG Ny JX m1' l1' lf' Ze SH hgl4;obtain ⟨L2,hL2⟩:∃ L2,L2=(L.set oj ro).set c rc:=⟨_,rfl⟩
  have hL2l:L2.length=L.length:=by rw [hL2,List.length_set,List.length_set]
  have Uo:L2[oj]'(by omega)=ro:=by subst hL2; rw [List.getElem_set_ne (Ne.symm hne),List.getElem_set_self]
  rw [← hL2] at Qv;obtain ⟨_,Fu,hfz5,_,m1,m2,_,m4⟩:=Qv.blk;simp only at m1 m2 m4;have Ow:=ES.size;replace Qv:=Lib.hid Qv;replace ES:=Lib.hid ES;replace hL2:=Lib.hid hL2;replace Uo:=Lib.hid Uo;go_upto_region 7 with (at_builtin; refine bu rfl (.tmp 57) (.tmp 62) rfl RW rfl Qv.out.SK rfl (by simp) rfl (by intro u hu; simp at hu; rcases hu with rfl | rfl | rfl<;>rfl) (by omega) (by omega) (by omega) ?_; intro vp7 w7 HZ qY dI mF; obtain ⟨A7,c7,rfl,hc7⟩:=ak HZ; obtain ⟨Mk,m47⟩:=Qv.out.atP qY.out; have OS:b<w7.heap.size:=Nat.lt_of_lt_of_le Fu dI.size)
  generalize Kz:World.setCell w7 _ _=w8;have Sm:PM B b x ⟨vr,.slice (some ⟨gl,0,none⟩) L.length cl,.slice (some ⟨go,0,none⟩) O.length co,vn,.slice A7 (P.length+1) c7⟩ l L2 O N (P++[(oj,c,s)]) w8:=by
   rw [← Kz];exact Qv.out.Zr qY.out (by simpa [gJ,ve,← hsz.out] using HZ) mF.out
  have LW:Below B w w8:=by rw [← Kz]; exact (ES.out.trans dI).setCell (p:=⟨b,4,none⟩) hB _
  clear Kz Qv ES HZ qY dI mF Mk m47 OS hfz5 m1 m2 m4 Fu Ow;obtain ⟨_,Zu,hfz8,_,m1,m2,_,m4⟩:=Sm.blk;simp only at m1 m2 m4;have hcut:=Iz go O.length co (i+1) (v:=(i:Int)+1) rfl (by omega);have YB:=Lib.hid (Sm.Yr (g:=go) (c:=co) rfl (k:=i+1) (by omega));replace Sm:=Lib.hid Sm;replace LW:=Lib.hid LW;go_upto_region 8 with fail
  generalize YS:World.setCell w8 _ _=w9;have VU:PM B b x ⟨vr,.slice (some ⟨gl,0,none⟩) L.length cl,.slice (some ⟨go,0,none⟩) (i+1) co,vn,.slice A7 (P.length+1) c7⟩ l L2 (O.take (i+1)) N (P++[(oj,c,s)]) w9:=by rw [← YS]; exact YB.out
  have SD:Below B w w9:=by rw [← YS]; exact LW.out.setCell (p:=⟨b,2,none⟩) hB _
  clear YS YB Sm LW hfz8 m1 m2 m4 Zu hcut;obtain ⟨_,hbw9,hfz9,_,m1,m2,_,m4⟩:=VU.blk;have SS:=VU.ri;simp only [hL2l] at m1 m2 m4 SS;have l9:=eL SS (k:=oj) (by omega);rw [Uo.out] at l9;have hcut:=Iz go (i+1) co i (v:=(i:Int)) rfl (by omega);have hlen:(O.take (i+1)).length=i+1:=by rw [List.length_take]; omega
  have Qj:(O.take (i+1)).take i=O.take i:=by rw [List.take_take]; congr 1; omega
  have O7:=Lib.hid (VU.Yr (g:=go) (c:=co) (by rw [hlen]) (k:=i) (by omega));rw [Qj] at O7;have hgl9:gl<w9.heap.size:=Nat.lt_of_lt_of_le Ds SD.size;have W6:=Lib.hid (SD.setCell (p:=⟨b,2,none⟩) hB (.slice (some ⟨go,0,none⟩) i co));replace VU:=Lib.hid VU;replace SD:=Lib.hid SD;replace hlen:=Lib.hid hlen;replace Qj:=Lib.hid Qj;replace SS:=Lib.hid SS;rw [hL2.out,hro.out,hrc.out] at VU;rw [hL2.out,hro.out,hrc.out] at O7;rcases Nat.eq_zero_or_pos ro with hz | hz
  ·have t0:((ro:Int)==0)=true:=by simpa using hz
   have Q8:Hid (Em.oy O i (lo - s)=O.take i):=Lib.hid (by rw [HO.out,if_pos hz]);clear hz;go_wp2_with fail;go_returns;exact ⟨rfl,⟨_,rfl,rfl,by rw [Q8.out]; exact O7.out⟩,W6.out⟩
  ·have t0:((ro:Int)==0)=false:=by
    rw [beq_eq_false_iff_ne]; omega
   have Q8:Hid (Em.oy O i (lo - s)=O.take (i+1)):=Lib.hid (by rw [HO.out,if_neg (by omega)]);clear hz;go_wp2_with fail;go_returns;exact ⟨rfl,⟨_,rfl,rfl,by rw [Q8.out]; exact VU.out⟩,SD.out⟩
end Go.Proofs.YtddkjkockbcamaaGreatDoor
end
section
namespace Go.Proofs.YtddkjkockbcamaaGreatDoor
open Go.RowKit
def Ax (B b:Nat) (x:Option Part) (l:List Em.R) (c gl cl:Nat) (fin:Em.St) (r0:Value) (w wr:World):Prop :=
 ∃ (v:Vs) (st:Em.St) (L O N:List Nat),Hid (v.r=r0)∧Hid (v.l=.slice (some ⟨gl,0,none⟩) l.length cl)∧Hid (PM B b x v l L O N st.2 wr)∧Hid (Em.rX l c st L O N)∧Hid (Em.inner l c st=fin)∧Hid (Below B w wr)
theorem Hg {B b:Nat} {x:Option Part} {v:Vs} {l:List Em.R} {L O N:List Nat} {w:World} (c:Nat) (st:Em.St) (hM:PM B b x v l L O N st.2 w) (hS:Em.rX l c st L O N) (hc:c<l.length) (hl:l.length≤4000000) (hH:Em.Held l) (hcc:(Em.get l c).c=true) :
  Calls Tryz.prog 227 #[.pointer (some ⟨b,0,none⟩),.int .i64 (c:Int)] w fun e w'=>e=.returned (.tuple #[]) ∧
   (∃ v',v'.r=v.r∧∃ L' O' N',PM B b x v' l L' O' N' (Em.inner l c st).2 w'∧Em.rX l c (Em.inner l c st) L' O' N')∧Below B w w':=by
 obtain ⟨gl,cl,hvl,hcl,hBl,Ds⟩:=gb hM.ri (by rw [hS.1.len]; omega);rw [hS.1.len] at hvl;obtain ⟨fin,aL⟩:∃ fin,fin=Em.inner l c st:=⟨_,rfl⟩
 rw [← aL];obtain ⟨r0,hr0⟩:∃ r0,v.r=r0:=⟨_,rfl⟩
 rw [hr0];have hIn:Ax B b x l c gl cl fin r0 w w:=⟨v,st,L,O,N,Lib.hid hr0,Lib.hid hvl,Lib.hid hM,Lib.hid hS,Lib.hid aL.symm,Lib.hid (Below.refl _ _)⟩
 have Wz:=Lib.hid hH;have Wg:=Lib.hid hcc;clear hM hS aL hvl hH hcc Ds hr0;go_enter Tryz.func227,Tryz.ntmps227;go_wp2_with fail
 go_loopw [] (fun wr=>Ax B b x l c gl cl fin r0 w wr) (fun wr=>match wr.cell? ⟨gl,c,none⟩ with | some (.int _ n)=>n.toNat | _=>0)
 case atStart=>exact hIn
 case round =>
  obtain ⟨v,st,L,O,N,E9,hvl,hM,hS,Fa,hBw⟩:=hrel;clear hIn;have Uz:=hS.out.1.len;have U1:c<L.length:=by omega
  obtain ⟨hB,mw,hfz,_,m1,_,_,_⟩:=hM.out.blk;have hrl:=hM.out.ri;rw [hvl.out] at m1 hrl;rw [Uz] at hrl;have Ds:=(hrl.lt _ rfl).2;have l0:=eL hrl U1;obtain ⟨lc,hlc⟩:∃ n,n=L[c]:=⟨_,rfl⟩
  rw [← hlc] at l0;have Rq:Em.lf L c=lc:=by rw [Em.qa U1,hlc]
  have F7:Em.lf st.1 c=lc:=by rw [← hS.out.2,Rq]
  have hbd:=hS.out.1.bd c;have Ai:=hS.out.1.few;have hOf:=hS.out.1.vb;replace hlc:=Lib.hid hlc;replace Rq:=Lib.hid Rq;replace F7:=Lib.hid F7;replace hrl:=Lib.hid hrl;rw [F7.out] at hbd Ai;rcases Nat.eq_zero_or_pos lc with hz | hz
  ·subst hz
   have hstop:Hid (Em.inner l c st=st):=Lib.hid (Em.pL (by rw [F7.out]; omega));have uu:Hid (st=fin):=Lib.hid (hstop.out.symm.trans Fa.out);clear Fa hstop Ai;go_wp2_with fail;go_returns;exact ⟨rfl,⟨v,E9.out,L,O,N,by rw [← uu.out]; exact hM.out,by rw [← uu.out]; exact hS.out⟩,hBw.out⟩
  ·have t0:decide ((0:Int)<(lc:Int))=true:=decide_eq_true (by omega)
   have Yj:Hid ((match wr.cell? ⟨gl,c,none⟩ with | some (.int _ n)=>n.toNat | _=>0)=lc):=Lib.hid (by rw [l0]; simp);have q:=BS hM.out c hc hl Wz.out (by omega) (fun j hj=>(hS.out.1.iU hj).2) hS.out.1.sorted hS.out.1.nlen (fun j hj h=>hS.out.1.none _ j hj h);clear hrl;go_wp2_with fail;refine q.mono ?_;rintro e w2 ⟨r,rfl,hr,hb2,I5⟩;replace hr:=Lib.hid hr;replace I5:=Lib.hid I5;have XW:=Lib.hid (hBw.out.trans hb2);clear q hb2 m1 l0 hfz mw;cases r with
   | none =>
    have hstop:Hid (Em.inner l c st=st):=Lib.hid (Em.Pm Wz.out hS.out Wg.out hr.out);have uu:Hid (st=fin):=Lib.hid (hstop.out.symm.trans Fa.out);have ij:=Lib.hid (Em.MW hS.out hr.out);have kU:Hid (PM B b x v l L O (N.set (Em.iJ (Em.get l c)) c) st.2 w2):=Lib.hid (by have:=I5.out; rwa [if_pos rfl] at this);clear Fa hstop I5;unfold MZ;go_wp2_with fail;go_returns;exact ⟨rfl,⟨v,E9.out,L,O,_,by rw [← uu.out]; exact kU.out,by rw [← uu.out]; exact ij.out⟩,XW.out⟩
   | some i =>
    obtain ⟨hi,hf,hn⟩:=hr.out;have hfound:=Em.KE Wz.out hS.out Wg.out hi hf hn;have hmem:=List.getElem_mem hi;have hlt:=hS.out.1.iU hmem;have hm:=(hS.out.1.mem _).1 hmem;have hleft:=hS.out.1.left _ hmem;have hstep:=Em.GH Wg.out (by rw [F7.out]; exact hz) hfound;have eX:=Em.P8 hS.out hc (by rw [F7.out]; exact hz) hi rfl;have hbdo:=hS.out.1.bd O[i];have kU:PM B b x v l L O N st.2 w2:=by have:=I5.out; rwa [if_neg (by simp)] at this
    have hsz:Em.size st.1 O[i] c=if (decide (2≤Em.lf L O[i])&&decide (2≤lc))=true then 2 else 1:=by
     unfold Em.size;rw [hleft,F7.out]
     by_cases h1:1<Em.lf st.1 O[i]∧1<lc
     ·rw [if_pos h1,if_pos (by rw [Bool.and_eq_true]; exact ⟨decide_eq_true h1.1,decide_eq_true h1.2⟩)]
     ·rw [if_neg h1,if_neg]
      rw [Bool.and_eq_true];rintro ⟨h2,h3⟩;exact h1 ⟨of_decide_eq_true h2,of_decide_eq_true h3⟩
    have q2:=KX kU i c O[i] (Em.size st.1 O[i] c) (Em.lf L O[i]) lc hi rfl (by omega) U1 (by omega) (by rw [Em.qa (by omega)]) (hlc.out.symm) (by rw [hleft]; omega) (by omega) (by omega) (by omega) (by omega) _ _ rfl rfl hsz;have hsp:=Em.size_pos st.1 O[i] c;rw [hstep] at Fa;obtain ⟨sz,X8⟩:∃ s,s=Em.size st.1 O[i] c:=⟨_,rfl⟩
    rw [← X8] at q2 eX Fa hsp;obtain ⟨oj,zL⟩:∃ o,o=O[i]:=⟨_,rfl⟩
    rw [← zL] at q2 eX Fa hlt;replace eX:=Lib.hid eX;clear hstep hfound hf hn hr I5 kU hm hleft hbdo hmem zL X8 hsz;unfold MZ;go_wp2_with fail;refine q2.mono ?_;rintro e w3 ⟨rfl,⟨v3,hv3,hr3,N7⟩,hb3⟩;have uf:=N7.ri;rw [hv3,hvl.out] at uf;simp only [List.length_set,Uz] at uf;have hpl:Em.zl L oj c sz=(L.set oj (Em.lf L oj - sz)).set c (lc - sz):=by unfold Em.zl; rw [Rq.out]
    have l3:=eL uf (k:=c) (by rw [List.length_set,List.length_set]; exact U1);rw [List.getElem_set_self] at l3;have Yw:Hid (Ax B b x l c gl cl fin r0 w w3):=Lib.hid ⟨v3,_,_,_,N,Lib.hid (hr3.trans E9.out),Lib.hid (hv3.trans hvl.out),Lib.hid N7,Lib.hid (by rw [← hpl]; exact eX.out),Fa,Lib.hid (XW.out.trans hb3)⟩;replace l3:=Lib.hid l3;clear q2 eX N7 hb3 uf hpl hv3 hr3 Fa hM hS;go_wp2_with fail
    go_roundw
    case rel=>exact Yw.out
    case measure=>rw [Yj.out,l3.out]; simp; omega
end Go.Proofs.YtddkjkockbcamaaGreatDoor
end
section
namespace Go.Proofs.YtddkjkockbcamaaGreatDoor
open Go.RowKit
attribute [local go_sem] aD av aq
section
variable {P:Program} {ops:Array Oper} {Q:Exit→Act→World→Prop}
theorem bP {fuel:Nat} {listed:Array Bool} {a:Act} {w:World} (is:List Nat) (hr:Region.ready .any ops listed=is) (hne:is≠[])
  (h:∀ i∈is,wpOp P ops Q i (fun a' w'=>True∧wpAnyH P .any ops Q (fun _=>True) fuel (listed.setIfInBounds i true) a' w') a w):wpAnyH P .any ops Q (fun _=>True) (fuel+1) listed a w :=
 wpAnyH_all hr hne h
theorem aY {fuel i:Nat} {listed:Array Bool} {a:Act} {w:World} {o:Oper} (ho:ops[i]?=some o) (hg:o.guard=none)
  (h:∀ K:Act→World→Prop,(∀ a' w',wpAnyH P .any ops Q (fun _=>True) fuel (listed.setIfInBounds i true) a' w'→K a' w')→o.wp P a w K Q) :
  wpOp P ops Q i (fun a' w'=>True∧wpAnyH P .any ops Q (fun _=>True) fuel (listed.setIfInBounds i true) a' w') a w:=by
 unfold wpOp;simp only [ho];rw [if_pos (by simp [Region.wanted,hg])];exact .inl (h _ fun _ _ hh=>⟨trivial,hh⟩)
theorem p9 {fuel i:Nat} {listed:Array Bool} {a:Act} {w:World} {o:Oper} (v:Value) (ho:ops[i]?=some o) (hg:o.guard=none) (hs:Region.noSelect ops=true) (h1:(Region.ready .any ops listed).contains i=true) (h2:Region.free .any ops listed i=true)
  (hQ:∀ c a d v w,Q (.panic c) (Act.put a d v) w→Q (.panic c) a w) (hv:∀ w',(execOp a.eval o).run P w'=.ok (.value v) w') (k:wpAnyH P .any ops Q (fun _=>True) fuel (listed.setIfInBounds i true) (a.put o.dst v) w) :
  wpAnyH P .any ops Q (fun _=>True) (fuel+1) listed a w :=
 wpAnyH_take ho hs h2 h1 (fun c a w=>hQ c a o.dst v w) (.inl ⟨by simp [Region.wanted,hg],fun w' _=>hv w'⟩) trivial k
end
noncomputable def kC:Array Oper:=match DH Tryz.f201 1 with | .region _ ops _=>ops | _=>#[]
def rz (o0 o1 o2 o4:Option Part):Nat→Option Part
 | 0=>o0
 | 1=>o1
 | 2=>o2
 | 4=>o4
 | _=>none
theorem N2 (w:World) (B:Nat):Hp w B (rz none none none none):=by
 have h:∀ (k:Nat) (a:Part),rz none none none none k≠some a:=by
  intro k a h
  match k with
  | 0 | 1 | 2 | 3 | 4=>cases h
  | _+5=>cases h
 exact ⟨fun k a ha=>absurd ha (h k a),fun k k' a a' g h1=>absurd h1 (h k a)⟩
theorem bN (n:Nat):(madeCells #[.int .i64 0] (n*1)).toList=aB (List.replicate n 0):=by
 rw [Nat.mul_one,Go.toList_madeCells_one,aB,List.map_replicate]; rfl
abbrev nr:Array Value:=#[.slice none 0 0,.slice none 0 0,.slice none 0 0,.slice none 0 0,.slice none 0 0]
abbrev uy (l:List Em.R) (v:Value):Option Part:=some (.row 240 4 v l.length (aF (Em.hold l)))
abbrev iT (n:Nat) (v:Value):Option Part:=some (.row 3 1 v n (aB (List.replicate n 0)))
abbrev vv (b:Nat):Option Part:=some (.blk b nr 257)
theorem Vt {l:List Em.R} {B b:Nat} {vr vl vn:Value} {w:World} (h:Hp w B (rz (vv b) (uy l vr) (iT l.length vl) (iT 1536 vn))) :
  PM B b none ⟨vr,vl,.slice none 0 0,vn,.slice none 0 0⟩ (Em.hold l) (List.replicate l.length 0) [] (List.replicate 1536 0) []
   (((((w.setCell ⟨b,0,none⟩ vr).setCell ⟨b,1,none⟩ vl).setCell ⟨b,2,none⟩ (.slice none 0 0)).setCell ⟨b,3,none⟩ vn).setCell ⟨b,4,none⟩ (.slice none 0 0)):=by
 have e1:(Em.hold l).length=l.length:=by simp [Em.hold]
 have h3:Hp w B (D4 b nr none (Em.hold l) vr (List.replicate l.length 0) vl [] (.slice none 0 0) (List.replicate 1536 0) vn [] (.slice none 0 0)):=by
  refine ⟨fun k a ha=>?_,fun k k' a a' g h1 h2 hg hg'=>?_⟩
  ·match k with
   | 0=>exact h.holds 0 a ha
   | 1=>exact h.holds 1 a (by simpa only [D4,rz,e1] using ha)
   | 2=>exact h.holds 2 a (by simpa only [D4,rz,List.length_replicate] using ha)
   | 4=>exact h.holds 4 a (by simpa only [D4,rz,List.length_replicate] using ha)
   | 3=>cases ha; exact World.ownsRow_nil _ _ _ _
   | 5=>cases ha; exact World.ownsRow_nil _ _ _ _
   | 6=>cases ha
   | _+7=>cases ha
  ·have key:∀ (k:Nat) (a:Part) (g:Nat),D4 b nr none (Em.hold l) vr (List.replicate l.length 0) vl [] (.slice none 0 0) (List.replicate 1536 0) vn [] (.slice none 0 0) k=some a→a.block=some g→rz (vv b) (uy l vr) (iT l.length vl) (iT 1536 vn) k=some a:=by
    intro k a g ha hb
    match k with
    | 0=>exact ha
    | 1=>simpa only [D4,rz,e1] using ha
    | 2=>simpa only [D4,rz,List.length_replicate] using ha
    | 4=>simpa only [D4,rz,List.length_replicate] using ha
    | 3=>cases ha; simp [Part.block,Value.ownBlock] at hb
    | 5=>cases ha; simp [Part.block,Value.ownBlock] at hb
    | 6=>cases ha
    | _+7=>cases ha
   exact h.apart k k' a a' g (key k a g h1 hg) (key k' a' g h2 hg') hg hg'
 have st:∀ (w:World) (cs:Array Value) (j:Nat) (v:Value),Hp w B (D4 b cs none (Em.hold l) vr (List.replicate l.length 0) vl [] (.slice none 0 0) (List.replicate 1536 0) vn [] (.slice none 0 0)) →
   Hp (w.setCell ⟨b,j,none⟩ v) B (D4 b (cs.setIfInBounds j v) none (Em.hold l) vr (List.replicate l.length 0) vl [] (.slice none 0 0) (List.replicate 1536 0) vn [] (.slice none 0 0)):=by
  intro w cs j v h;refine Hp.store (k:=0) (cs:=cs) (t:=257) h rfl ?_ rfl;intro j hj
  match j with
  | 0=>exact absurd rfl hj
  | 1 | 2 | 3 | 4 | 5 | 6=>rfl
  | _+7=>rfl
 exact st _ _ 4 _ (st _ _ 3 _ (st _ _ 2 _ (st _ _ 1 _ (st _ _ 0 _ h3))))
def dR (l:List Em.R) (A:Option Addr) (c:Nat) (w0:World) (Q:Exit→Act→World→Prop):Prop :=
 ∀ (b:Nat) (v:Vs) (v12:Value) (wq:World),PM w0.heap.size b none v (Em.hold l) (List.replicate l.length 0) [] (List.replicate 1536 0) [] wq→Below w0.heap.size w0 wq→Q .normal ⟨(.slice A l.length c::undef :: .slice none 0 0 :: .pointer (some ⟨b,0,none⟩)::undef::undef :: .slice A l.length c::v.r :: .slice A l.length c :: .int .i64 (l.length:Int)::v.l::v.n::v12::undef::undef::undef::undef::undef::undef::undef::undef::undef::undef::undef::undef::undef::undef::undef::undef::undef::undef::undef::undef::undef::undef::undef::undef::undef::undef::undef::undef::undef::undef::undef::undef::undef::undef::undef::undef::undef::[]).toArray,[]⟩ wq
abbrev kY (Q:Exit→Act→World→Prop):Prop:=∀ c a d v w,Q (.panic c) (Act.put a d v) w→Q (.panic c) a w
theorem Cw {l:List Em.R} {A:Option Addr} {c:Nat} {w0 w:World} {Q:Exit→Act→World→Prop} {vr:Value} {vl:Value} {vn:Value} {b:Nat} (_hpan:kY Q) (hq:dR l A c w0 Q) (_hR:Row w0 w0.heap.size 4 A l.length (aF l)) (_hl:l.length≤4000000) (hb:Below w0.heap.size w0 w)
  (hH:Hp w w0.heap.size (rz (vv b) (uy l vr) (iT l.length vl) (iT 1536 vn))):wpAnyH Tryz.prog .any kC Q (fun _=>True) 1 #[true,true,true,true,true,true,true,true,false] ⟨(.slice A l.length c::undef :: .slice none 0 0 :: .pointer (some ⟨b,0,none⟩)::undef::undef :: .slice A l.length c::vr :: .slice A l.length c :: .int .i64 (l.length:Int)::vl::vn::(.agg #[vr,vl,.slice none 0 0,vn,.slice none 0 0])::undef::undef::undef::undef::undef::undef::undef::undef::undef::undef::undef::undef::undef::undef::undef::undef::undef::undef::undef::undef::undef::undef::undef::undef::undef::undef::undef::undef::undef::undef::undef::undef::undef::undef::undef::undef::undef::[]).toArray,[]⟩ w:=by
 replace hq:=Lib.hid hq;obtain ⟨A1,c1,rfl,_⟩:=ak (Hp.own hH (k:=1) rfl);obtain ⟨A2,c2,rfl,_⟩:=ak (Hp.own hH (k:=2) rfl);obtain ⟨A4,c4,rfl,_⟩:=ak (Hp.own hH (k:=4) rfl);obtain ⟨hB,mw,pQ⟩:=Hp.base hH (k:=0) rfl;have z0:=ah pQ 0;have z1:=ah pQ 1;have z2:=ah pQ 2;have z3:=ah pQ 3;have z4:=ah pQ 4;have hfz:=aW pQ;have hP:=Lib.hid (Vt hH);have hB2:=Lib.hid (((((hb.setCell (p:=⟨b,0,none⟩) hB (.slice A1 l.length c1)).setCell (p:=⟨b,1,none⟩) hB (.slice A2 l.length c2)).setCell (p:=⟨b,2,none⟩) hB (.slice none 0 0)).setCell (p:=⟨b,3,none⟩) hB (.slice A4 1536 c4)).setCell (p:=⟨b,4,none⟩) hB (.slice none 0 0));clear pQ hH;refine bP [8] (by kernel_rfl) (by simp) ?_;intro i hi;obtain rfl:i=8:=by simpa using hi
 refine aY (o:=⟨none,.store 257 (.tmp 3) (.tmp 12),_,_,_,none⟩) rfl rfl ?_;intro K hK;go_simp;refine hK _ _ (wpAnyH_done (by kernel_rfl) ?_ _);exact hq.out b ⟨_,_,_,_,_⟩ _ _ hP.out hB2.out
theorem Br {l:List Em.R} {A:Option Addr} {c:Nat} {w0 w:World} {Q:Exit→Act→World→Prop} {vr:Value} {vl:Value} {vn:Value} {b:Nat} (bI:kY Q) (hq:dR l A c w0 Q) (hR:Row w0 w0.heap.size 4 A l.length (aF l)) (hl:l.length≤4000000) (hb:Below w0.heap.size w0 w)
  (hH:Hp w w0.heap.size (rz (vv b) (uy l vr) (iT l.length vl) (iT 1536 vn))):wpAnyH Tryz.prog .any kC Q (fun _=>True) 2 #[true,true,true,true,true,true,false,true,false] ⟨(.slice A l.length c::undef :: .slice none 0 0 :: .pointer (some ⟨b,0,none⟩)::undef::undef :: .slice A l.length c::vr :: .slice A l.length c :: .int .i64 (l.length:Int)::vl::vn::undef::undef::undef::undef::undef::undef::undef::undef::undef::undef::undef::undef::undef::undef::undef::undef::undef::undef::undef::undef::undef::undef::undef::undef::undef::undef::undef::undef::undef::undef::undef::undef::undef::undef::undef::undef::undef::undef::[]).toArray,[]⟩ w:=by
 obtain ⟨A1,c1,rfl,_⟩:=ak (Hp.own hH (k:=1) rfl);obtain ⟨A2,c2,rfl,_⟩:=ak (Hp.own hH (k:=2) rfl);obtain ⟨A4,c4,rfl,_⟩:=ak (Hp.own hH (k:=4) rfl);refine p9 (i:=6) (o:=⟨some 12,.build 257 #[(0,.tmp 7),(1,.tmp 10),(3,.tmp 11)],_,_,_,none⟩) (.agg #[.slice A1 l.length c1,.slice A2 l.length c2,.slice none 0 0,.slice A4 1536 c4,.slice none 0 0]) rfl rfl (by kernel_rfl) (by kernel_rfl) (by kernel_rfl) bI (fun w'=>by go_simp) ?_;exact Cw bI hq hR hl hb hH
theorem NL {l:List Em.R} {A:Option Addr} {c:Nat} {w0 w:World} {Q:Exit→Act→World→Prop} {vr:Value} {vl:Value} {vn:Value} (bI:kY Q) (hq:dR l A c w0 Q) (hR:Row w0 w0.heap.size 4 A l.length (aF l)) (hl:l.length≤4000000) (hb:Below w0.heap.size w0 w)
  (hH:Hp w w0.heap.size (rz none (uy l vr) (iT l.length vl) (iT 1536 vn))):wpAnyH Tryz.prog .any kC Q (fun _=>True) 2 #[true,true,true,true,true,true,true,false,false] ⟨(.slice A l.length c::undef :: .slice none 0 0::undef::undef::undef :: .slice A l.length c::vr :: .slice A l.length c :: .int .i64 (l.length:Int)::vl::vn::(.agg #[vr,vl,.slice none 0 0,vn,.slice none 0 0])::undef::undef::undef::undef::undef::undef::undef::undef::undef::undef::undef::undef::undef::undef::undef::undef::undef::undef::undef::undef::undef::undef::undef::undef::undef::undef::undef::undef::undef::undef::undef::undef::undef::undef::undef::undef::undef::[]).toArray,[]⟩ w:=by
 refine bP [7] (by kernel_rfl) (by simp) ?_;intro i hi;obtain rfl:i=7:=by simpa using hi
 ·refine aY (o:=⟨some 3,.alloc 257,_,_,_,none⟩) rfl rfl ?_
  intro K hK;go_simp;refine hK _ _ (Cw bI hq hR hl (hb.alloc hb.size _) ?_);exact Hp.more (k:=0) hH (a':=.blk w.heap.size nr 257) rfl (aa w _) ⟨hb.size,heap_alloc_new w _⟩ (fun g hg=>by have e:w.heap.size=g:=Option.some.inj hg; omega) (fun j hj=>by match j with | 0=>exact absurd rfl hj | 1 | 2 | 3 | 4 | 5 | 6=>rfl | _+7=>rfl) rfl
theorem BD {l:List Em.R} {A:Option Addr} {c:Nat} {w0 w:World} {Q:Exit→Act→World→Prop} {vr:Value} {vl:Value} {vn:Value} (bI:kY Q) (hq:dR l A c w0 Q) (hR:Row w0 w0.heap.size 4 A l.length (aF l)) (hl:l.length≤4000000) (hb:Below w0.heap.size w0 w)
  (hH:Hp w w0.heap.size (rz none (uy l vr) (iT l.length vl) (iT 1536 vn))):wpAnyH Tryz.prog .any kC Q (fun _=>True) 3 #[true,true,true,true,true,true,false,false,false] ⟨(.slice A l.length c::undef :: .slice none 0 0::undef::undef::undef :: .slice A l.length c::vr :: .slice A l.length c :: .int .i64 (l.length:Int)::vl::vn::undef::undef::undef::undef::undef::undef::undef::undef::undef::undef::undef::undef::undef::undef::undef::undef::undef::undef::undef::undef::undef::undef::undef::undef::undef::undef::undef::undef::undef::undef::undef::undef::undef::undef::undef::undef::undef::undef::[]).toArray,[]⟩ w:=by
 obtain ⟨A1,c1,rfl,_⟩:=ak (Hp.own hH (k:=1) rfl);obtain ⟨A2,c2,rfl,_⟩:=ak (Hp.own hH (k:=2) rfl);obtain ⟨A4,c4,rfl,_⟩:=ak (Hp.own hH (k:=4) rfl);refine p9 (i:=6) (o:=⟨some 12,.build 257 #[(0,.tmp 7),(1,.tmp 10),(3,.tmp 11)],_,_,_,none⟩) (.agg #[.slice A1 l.length c1,.slice A2 l.length c2,.slice none 0 0,.slice A4 1536 c4,.slice none 0 0]) rfl rfl (by kernel_rfl) (by kernel_rfl) (by kernel_rfl) bI (fun w'=>by go_simp) ?_;exact NL bI hq hR hl hb hH
theorem AB {l:List Em.R} {A:Option Addr} {c:Nat} {w0 w:World} {Q:Exit→Act→World→Prop} {vr:Value} {vl:Value} {b:Nat} (bI:kY Q) (hq:dR l A c w0 Q) (hR:Row w0 w0.heap.size 4 A l.length (aF l)) (hl:l.length≤4000000) (hb:Below w0.heap.size w0 w)
  (hH:Hp w w0.heap.size (rz (vv b) (uy l vr) (iT l.length vl) none)):wpAnyH Tryz.prog .any kC Q (fun _=>True) 3 #[true,true,true,true,true,false,false,true,false] ⟨(.slice A l.length c::undef :: .slice none 0 0 :: .pointer (some ⟨b,0,none⟩)::undef::undef :: .slice A l.length c::vr :: .slice A l.length c :: .int .i64 (l.length:Int)::vl::undef::undef::undef::undef::undef::undef::undef::undef::undef::undef::undef::undef::undef::undef::undef::undef::undef::undef::undef::undef::undef::undef::undef::undef::undef::undef::undef::undef::undef::undef::undef::undef::undef::undef::undef::undef::undef::undef::undef::[]).toArray,[]⟩ w:=by
 refine bP [5] (by kernel_rfl) (by simp) ?_;intro i hi;obtain rfl:i=5:=by simpa using hi
 ·refine aY (o:=⟨some 11,.makeSlice 23 (.const (.int .i64 1536)) (.const (.int .i64 1536)),_,_,_,none⟩) rfl rfl ?_
  intro K hK;have hmk:∀ w,(Instr.makeSlice 23 (.int .i64 1536) (.int .i64 1536)).run Tryz.prog w=.ok (.slice (some ⟨w.heap.size,0,none⟩) 1536 1536) (w.alloc (.cells (madeCells (Value.int .i64 0).cells (1536*1)) 3)):=fun w=>run_mk eg (z:=.int .i64 0) (by kernel_rfl) 1536 (by omega) (by omega) w;have hown:=Lib.hid (dh w w0.heap.size 1 1536 3 #[.int .i64 0] hb.size (by omega));replace hown:=Lib.hid (by have:=hown.out; rwa [bN] at this);simp only [Value.cells] at hmk;generalize madeCells _ (1536*1)=C at *;go_simp;refine hK _ _ (Br bI hq hR hl (hb.alloc hb.size _) ?_);exact Hp.more (k:=4) hH (a':=.row 3 1 (.slice (some ⟨w.heap.size,0,none⟩) 1536 1536) 1536 (aB (List.replicate 1536 0))) rfl (aa w _) hown.out (fun g hg=>by have e:w.heap.size=g:=Option.some.inj hg; omega) (fun j hj=>by match j with | 0 | 1 | 2 | 3 | 5 | 6=>rfl | 4=>exact absurd rfl hj | _+7=>rfl) rfl
theorem AA {l:List Em.R} {A:Option Addr} {c:Nat} {w0 w:World} {Q:Exit→Act→World→Prop} {vr:Value} {vn:Value} {b:Nat} (bI:kY Q) (hq:dR l A c w0 Q) (hR:Row w0 w0.heap.size 4 A l.length (aF l)) (hl:l.length≤4000000) (hb:Below w0.heap.size w0 w)
  (hH:Hp w w0.heap.size (rz (vv b) (uy l vr) none (iT 1536 vn))):wpAnyH Tryz.prog .any kC Q (fun _=>True) 3 #[true,true,true,true,false,true,false,true,false] ⟨(.slice A l.length c::undef :: .slice none 0 0 :: .pointer (some ⟨b,0,none⟩)::undef::undef :: .slice A l.length c::vr :: .slice A l.length c :: .int .i64 (l.length:Int)::undef::vn::undef::undef::undef::undef::undef::undef::undef::undef::undef::undef::undef::undef::undef::undef::undef::undef::undef::undef::undef::undef::undef::undef::undef::undef::undef::undef::undef::undef::undef::undef::undef::undef::undef::undef::undef::undef::undef::undef::[]).toArray,[]⟩ w:=by
 refine bP [4] (by kernel_rfl) (by simp) ?_;intro i hi;obtain rfl:i=4:=by simpa using hi
 ·refine aY (o:=⟨some 10,.makeSlice 23 (.tmp 9) (.tmp 9),_,_,_,none⟩) rfl rfl ?_
  intro K hK;have hmk:=fun w=>run_mk eg (z:=.int .i64 0) (by kernel_rfl) l.length (by omega) (by omega) w;have hown:=Lib.hid (dh w w0.heap.size 1 l.length 3 #[.int .i64 0] hb.size (by omega));replace hown:=Lib.hid (by have:=hown.out; rwa [bN] at this);simp only [Value.cells] at hmk;generalize madeCells _ (l.length*1)=C at *;go_simp;refine hK _ _ (Br bI hq hR hl (hb.alloc hb.size _) ?_);exact Hp.more (k:=2) hH (a':=.row 3 1 (.slice (some ⟨w.heap.size,0,none⟩) l.length l.length) l.length (aB (List.replicate l.length 0))) rfl (aa w _) hown.out (fun g hg=>by have e:w.heap.size=g:=Option.some.inj hg; omega) (fun j hj=>by match j with | 0 | 1 | 3 | 4 | 5 | 6=>rfl | 2=>exact absurd rfl hj | _+7=>rfl) rfl
theorem Bf {l:List Em.R} {A:Option Addr} {c:Nat} {w0 w:World} {Q:Exit→Act→World→Prop} {vl:Value} {vn:Value} {b:Nat} (bI:kY Q) (hq:dR l A c w0 Q) (hR:Row w0 w0.heap.size 4 A l.length (aF l)) (hl:l.length≤4000000) (hb:Below w0.heap.size w0 w)
  (hH:Hp w w0.heap.size (rz (vv b) none (iT l.length vl) (iT 1536 vn))):wpAnyH Tryz.prog .any kC Q (fun _=>True) 3 #[true,false,true,true,true,true,false,true,false] ⟨(.slice A l.length c::undef :: .slice none 0 0 :: .pointer (some ⟨b,0,none⟩)::undef::undef :: .slice A l.length c::undef :: .slice A l.length c :: .int .i64 (l.length:Int)::vl::vn::undef::undef::undef::undef::undef::undef::undef::undef::undef::undef::undef::undef::undef::undef::undef::undef::undef::undef::undef::undef::undef::undef::undef::undef::undef::undef::undef::undef::undef::undef::undef::undef::undef::undef::undef::undef::undef::undef::[]).toArray,[]⟩ w:=by
 refine bP [1] (by kernel_rfl) (by simp) ?_;intro i hi;obtain rfl:i=1:=by simpa using hi
 ·refine aY (o:=⟨some 7,.call { callee:=.value (.func 226),args:=#[.tmp 6],argTypes:=#[219] },_,_,_,none⟩) rfl rfl ?_
  intro K hK;go_simp;refine (fG l A c w (hR.ext hb) hl).mono ?_;rintro e w2 ⟨⟨vr,rfl,hown⟩,hb2⟩;refine hK _ _ (Br bI hq hR hl (ag hb hb2) ?_);exact Hp.more (k:=1) hH (a':=.row 240 4 vr l.length (aF (Em.hold l))) rfl hb2 (iq hown hb.size) (fun g hg=>(hown.lt g hg).1) (fun j hj=>by match j with | 0 | 2 | 3 | 4 | 5 | 6=>rfl | 1=>exact absurd rfl hj | _+7=>rfl) rfl
theorem Ib {l:List Em.R} {A:Option Addr} {c:Nat} {w0 w:World} {Q:Exit→Act→World→Prop} {vr:Value} {vl:Value} (bI:kY Q) (hq:dR l A c w0 Q) (hR:Row w0 w0.heap.size 4 A l.length (aF l)) (hl:l.length≤4000000) (hb:Below w0.heap.size w0 w)
  (hH:Hp w w0.heap.size (rz none (uy l vr) (iT l.length vl) none)):wpAnyH Tryz.prog .any kC Q (fun _=>True) 4 #[true,true,true,true,true,false,false,false,false] ⟨(.slice A l.length c::undef :: .slice none 0 0::undef::undef::undef :: .slice A l.length c::vr :: .slice A l.length c :: .int .i64 (l.length:Int)::vl::undef::undef::undef::undef::undef::undef::undef::undef::undef::undef::undef::undef::undef::undef::undef::undef::undef::undef::undef::undef::undef::undef::undef::undef::undef::undef::undef::undef::undef::undef::undef::undef::undef::undef::undef::undef::undef::undef::undef::[]).toArray,[]⟩ w:=by
 refine bP [5,7] (by kernel_rfl) (by simp) ?_;intro i hi;have hi2:i=5∨i=7:=by simpa using hi
 clear hi;rcases hi2 with rfl | rfl
 ·refine aY (o:=⟨some 11,.makeSlice 23 (.const (.int .i64 1536)) (.const (.int .i64 1536)),_,_,_,none⟩) rfl rfl ?_
  intro K hK;have hmk:∀ w,(Instr.makeSlice 23 (.int .i64 1536) (.int .i64 1536)).run Tryz.prog w=.ok (.slice (some ⟨w.heap.size,0,none⟩) 1536 1536) (w.alloc (.cells (madeCells (Value.int .i64 0).cells (1536*1)) 3)):=fun w=>run_mk eg (z:=.int .i64 0) (by kernel_rfl) 1536 (by omega) (by omega) w;have hown:=Lib.hid (dh w w0.heap.size 1 1536 3 #[.int .i64 0] hb.size (by omega));replace hown:=Lib.hid (by have:=hown.out; rwa [bN] at this);simp only [Value.cells] at hmk;generalize madeCells _ (1536*1)=C at *;go_simp;refine hK _ _ (BD bI hq hR hl (hb.alloc hb.size _) ?_);exact Hp.more (k:=4) hH (a':=.row 3 1 (.slice (some ⟨w.heap.size,0,none⟩) 1536 1536) 1536 (aB (List.replicate 1536 0))) rfl (aa w _) hown.out (fun g hg=>by have e:w.heap.size=g:=Option.some.inj hg; omega) (fun j hj=>by match j with | 0 | 1 | 2 | 3 | 5 | 6=>rfl | 4=>exact absurd rfl hj | _+7=>rfl) rfl
 ·refine aY (o:=⟨some 3,.alloc 257,_,_,_,none⟩) rfl rfl ?_
  intro K hK;go_simp;refine hK _ _ (AB bI hq hR hl (hb.alloc hb.size _) ?_);exact Hp.more (k:=0) hH (a':=.blk w.heap.size nr 257) rfl (aa w _) ⟨hb.size,heap_alloc_new w _⟩ (fun g hg=>by have e:w.heap.size=g:=Option.some.inj hg; omega) (fun j hj=>by match j with | 0=>exact absurd rfl hj | 1 | 2 | 3 | 4 | 5 | 6=>rfl | _+7=>rfl) rfl
theorem IM {l:List Em.R} {A:Option Addr} {c:Nat} {w0 w:World} {Q:Exit→Act→World→Prop} {vr:Value} {vn:Value} (bI:kY Q) (hq:dR l A c w0 Q) (hR:Row w0 w0.heap.size 4 A l.length (aF l)) (hl:l.length≤4000000) (hb:Below w0.heap.size w0 w)
  (hH:Hp w w0.heap.size (rz none (uy l vr) none (iT 1536 vn))):wpAnyH Tryz.prog .any kC Q (fun _=>True) 4 #[true,true,true,true,false,true,false,false,false] ⟨(.slice A l.length c::undef :: .slice none 0 0::undef::undef::undef :: .slice A l.length c::vr :: .slice A l.length c :: .int .i64 (l.length:Int)::undef::vn::undef::undef::undef::undef::undef::undef::undef::undef::undef::undef::undef::undef::undef::undef::undef::undef::undef::undef::undef::undef::undef::undef::undef::undef::undef::undef::undef::undef::undef::undef::undef::undef::undef::undef::undef::undef::undef::undef::[]).toArray,[]⟩ w:=by
 refine bP [4,7] (by kernel_rfl) (by simp) ?_;intro i hi;have hi2:i=4∨i=7:=by simpa using hi
 clear hi;rcases hi2 with rfl | rfl
 ·refine aY (o:=⟨some 10,.makeSlice 23 (.tmp 9) (.tmp 9),_,_,_,none⟩) rfl rfl ?_
  intro K hK;have hmk:=fun w=>run_mk eg (z:=.int .i64 0) (by kernel_rfl) l.length (by omega) (by omega) w;have hown:=Lib.hid (dh w w0.heap.size 1 l.length 3 #[.int .i64 0] hb.size (by omega));replace hown:=Lib.hid (by have:=hown.out; rwa [bN] at this);simp only [Value.cells] at hmk;generalize madeCells _ (l.length*1)=C at *;go_simp;refine hK _ _ (BD bI hq hR hl (hb.alloc hb.size _) ?_);exact Hp.more (k:=2) hH (a':=.row 3 1 (.slice (some ⟨w.heap.size,0,none⟩) l.length l.length) l.length (aB (List.replicate l.length 0))) rfl (aa w _) hown.out (fun g hg=>by have e:w.heap.size=g:=Option.some.inj hg; omega) (fun j hj=>by match j with | 0 | 1 | 3 | 4 | 5 | 6=>rfl | 2=>exact absurd rfl hj | _+7=>rfl) rfl
 ·refine aY (o:=⟨some 3,.alloc 257,_,_,_,none⟩) rfl rfl ?_
  intro K hK;go_simp;refine hK _ _ (AA bI hq hR hl (hb.alloc hb.size _) ?_);exact Hp.more (k:=0) hH (a':=.blk w.heap.size nr 257) rfl (aa w _) ⟨hb.size,heap_alloc_new w _⟩ (fun g hg=>by have e:w.heap.size=g:=Option.some.inj hg; omega) (fun j hj=>by match j with | 0=>exact absurd rfl hj | 1 | 2 | 3 | 4 | 5 | 6=>rfl | _+7=>rfl) rfl
theorem HY {l:List Em.R} {A:Option Addr} {c:Nat} {w0 w:World} {Q:Exit→Act→World→Prop} {vr:Value} {b:Nat} (bI:kY Q) (hq:dR l A c w0 Q) (hR:Row w0 w0.heap.size 4 A l.length (aF l)) (hl:l.length≤4000000) (hb:Below w0.heap.size w0 w)
  (hH:Hp w w0.heap.size (rz (vv b) (uy l vr) none none)):wpAnyH Tryz.prog .any kC Q (fun _=>True) 4 #[true,true,true,true,false,false,false,true,false] ⟨(.slice A l.length c::undef :: .slice none 0 0 :: .pointer (some ⟨b,0,none⟩)::undef::undef :: .slice A l.length c::vr :: .slice A l.length c :: .int .i64 (l.length:Int)::undef::undef::undef::undef::undef::undef::undef::undef::undef::undef::undef::undef::undef::undef::undef::undef::undef::undef::undef::undef::undef::undef::undef::undef::undef::undef::undef::undef::undef::undef::undef::undef::undef::undef::undef::undef::undef::undef::undef::undef::[]).toArray,[]⟩ w:=by
 refine bP [4,5] (by kernel_rfl) (by simp) ?_;intro i hi;have hi2:i=4∨i=5:=by simpa using hi
 clear hi;rcases hi2 with rfl | rfl
 ·refine aY (o:=⟨some 10,.makeSlice 23 (.tmp 9) (.tmp 9),_,_,_,none⟩) rfl rfl ?_
  intro K hK;have hmk:=fun w=>run_mk eg (z:=.int .i64 0) (by kernel_rfl) l.length (by omega) (by omega) w;have hown:=Lib.hid (dh w w0.heap.size 1 l.length 3 #[.int .i64 0] hb.size (by omega));replace hown:=Lib.hid (by have:=hown.out; rwa [bN] at this);simp only [Value.cells] at hmk;generalize madeCells _ (l.length*1)=C at *;go_simp;refine hK _ _ (AB bI hq hR hl (hb.alloc hb.size _) ?_);exact Hp.more (k:=2) hH (a':=.row 3 1 (.slice (some ⟨w.heap.size,0,none⟩) l.length l.length) l.length (aB (List.replicate l.length 0))) rfl (aa w _) hown.out (fun g hg=>by have e:w.heap.size=g:=Option.some.inj hg; omega) (fun j hj=>by match j with | 0 | 1 | 3 | 4 | 5 | 6=>rfl | 2=>exact absurd rfl hj | _+7=>rfl) rfl
 ·refine aY (o:=⟨some 11,.makeSlice 23 (.const (.int .i64 1536)) (.const (.int .i64 1536)),_,_,_,none⟩) rfl rfl ?_
  intro K hK;have hmk:∀ w,(Instr.makeSlice 23 (.int .i64 1536) (.int .i64 1536)).run Tryz.prog w=.ok (.slice (some ⟨w.heap.size,0,none⟩) 1536 1536) (w.alloc (.cells (madeCells (Value.int .i64 0).cells (1536*1)) 3)):=fun w=>run_mk eg (z:=.int .i64 0) (by kernel_rfl) 1536 (by omega) (by omega) w;have hown:=Lib.hid (dh w w0.heap.size 1 1536 3 #[.int .i64 0] hb.size (by omega));replace hown:=Lib.hid (by have:=hown.out; rwa [bN] at this);simp only [Value.cells] at hmk;generalize madeCells _ (1536*1)=C at *;go_simp;refine hK _ _ (AA bI hq hR hl (hb.alloc hb.size _) ?_);exact Hp.more (k:=4) hH (a':=.row 3 1 (.slice (some ⟨w.heap.size,0,none⟩) 1536 1536) 1536 (aB (List.replicate 1536 0))) rfl (aa w _) hown.out (fun g hg=>by have e:w.heap.size=g:=Option.some.inj hg; omega) (fun j hj=>by match j with | 0 | 1 | 2 | 3 | 5 | 6=>rfl | 4=>exact absurd rfl hj | _+7=>rfl) rfl
theorem Is {l:List Em.R} {A:Option Addr} {c:Nat} {w0 w:World} {Q:Exit→Act→World→Prop} {vl:Value} {vn:Value} (bI:kY Q) (hq:dR l A c w0 Q) (hR:Row w0 w0.heap.size 4 A l.length (aF l)) (hl:l.length≤4000000) (hb:Below w0.heap.size w0 w)
  (hH:Hp w w0.heap.size (rz none none (iT l.length vl) (iT 1536 vn))):wpAnyH Tryz.prog .any kC Q (fun _=>True) 4 #[true,false,true,true,true,true,false,false,false] ⟨(.slice A l.length c::undef :: .slice none 0 0::undef::undef::undef :: .slice A l.length c::undef :: .slice A l.length c :: .int .i64 (l.length:Int)::vl::vn::undef::undef::undef::undef::undef::undef::undef::undef::undef::undef::undef::undef::undef::undef::undef::undef::undef::undef::undef::undef::undef::undef::undef::undef::undef::undef::undef::undef::undef::undef::undef::undef::undef::undef::undef::undef::undef::undef::[]).toArray,[]⟩ w:=by
 refine bP [1,7] (by kernel_rfl) (by simp) ?_;intro i hi;have hi2:i=1∨i=7:=by simpa using hi
 clear hi;rcases hi2 with rfl | rfl
 ·refine aY (o:=⟨some 7,.call { callee:=.value (.func 226),args:=#[.tmp 6],argTypes:=#[219] },_,_,_,none⟩) rfl rfl ?_
  intro K hK;go_simp;refine (fG l A c w (hR.ext hb) hl).mono ?_;rintro e w2 ⟨⟨vr,rfl,hown⟩,hb2⟩;refine hK _ _ (BD bI hq hR hl (ag hb hb2) ?_);exact Hp.more (k:=1) hH (a':=.row 240 4 vr l.length (aF (Em.hold l))) rfl hb2 (iq hown hb.size) (fun g hg=>(hown.lt g hg).1) (fun j hj=>by match j with | 0 | 2 | 3 | 4 | 5 | 6=>rfl | 1=>exact absurd rfl hj | _+7=>rfl) rfl
 ·refine aY (o:=⟨some 3,.alloc 257,_,_,_,none⟩) rfl rfl ?_
  intro K hK;go_simp;refine hK _ _ (Bf bI hq hR hl (hb.alloc hb.size _) ?_);exact Hp.more (k:=0) hH (a':=.blk w.heap.size nr 257) rfl (aa w _) ⟨hb.size,heap_alloc_new w _⟩ (fun g hg=>by have e:w.heap.size=g:=Option.some.inj hg; omega) (fun j hj=>by match j with | 0=>exact absurd rfl hj | 1 | 2 | 3 | 4 | 5 | 6=>rfl | _+7=>rfl) rfl
theorem I3 {l:List Em.R} {A:Option Addr} {c:Nat} {w0 w:World} {Q:Exit→Act→World→Prop} {vl:Value} {b:Nat} (bI:kY Q) (hq:dR l A c w0 Q) (hR:Row w0 w0.heap.size 4 A l.length (aF l)) (hl:l.length≤4000000) (hb:Below w0.heap.size w0 w)
  (hH:Hp w w0.heap.size (rz (vv b) none (iT l.length vl) none)):wpAnyH Tryz.prog .any kC Q (fun _=>True) 4 #[true,false,true,true,true,false,false,true,false] ⟨(.slice A l.length c::undef :: .slice none 0 0 :: .pointer (some ⟨b,0,none⟩)::undef::undef :: .slice A l.length c::undef :: .slice A l.length c :: .int .i64 (l.length:Int)::vl::undef::undef::undef::undef::undef::undef::undef::undef::undef::undef::undef::undef::undef::undef::undef::undef::undef::undef::undef::undef::undef::undef::undef::undef::undef::undef::undef::undef::undef::undef::undef::undef::undef::undef::undef::undef::undef::undef::undef::[]).toArray,[]⟩ w:=by
 refine bP [1,5] (by kernel_rfl) (by simp) ?_;intro i hi;have hi2:i=1∨i=5:=by simpa using hi
 clear hi;rcases hi2 with rfl | rfl
 ·refine aY (o:=⟨some 7,.call { callee:=.value (.func 226),args:=#[.tmp 6],argTypes:=#[219] },_,_,_,none⟩) rfl rfl ?_
  intro K hK;go_simp;refine (fG l A c w (hR.ext hb) hl).mono ?_;rintro e w2 ⟨⟨vr,rfl,hown⟩,hb2⟩;refine hK _ _ (AB bI hq hR hl (ag hb hb2) ?_);exact Hp.more (k:=1) hH (a':=.row 240 4 vr l.length (aF (Em.hold l))) rfl hb2 (iq hown hb.size) (fun g hg=>(hown.lt g hg).1) (fun j hj=>by match j with | 0 | 2 | 3 | 4 | 5 | 6=>rfl | 1=>exact absurd rfl hj | _+7=>rfl) rfl
 ·refine aY (o:=⟨some 11,.makeSlice 23 (.const (.int .i64 1536)) (.const (.int .i64 1536)),_,_,_,none⟩) rfl rfl ?_
  intro K hK;have hmk:∀ w,(Instr.makeSlice 23 (.int .i64 1536) (.int .i64 1536)).run Tryz.prog w=.ok (.slice (some ⟨w.heap.size,0,none⟩) 1536 1536) (w.alloc (.cells (madeCells (Value.int .i64 0).cells (1536*1)) 3)):=fun w=>run_mk eg (z:=.int .i64 0) (by kernel_rfl) 1536 (by omega) (by omega) w;have hown:=Lib.hid (dh w w0.heap.size 1 1536 3 #[.int .i64 0] hb.size (by omega));replace hown:=Lib.hid (by have:=hown.out; rwa [bN] at this);simp only [Value.cells] at hmk;generalize madeCells _ (1536*1)=C at *;go_simp;refine hK _ _ (Bf bI hq hR hl (hb.alloc hb.size _) ?_);exact Hp.more (k:=4) hH (a':=.row 3 1 (.slice (some ⟨w.heap.size,0,none⟩) 1536 1536) 1536 (aB (List.replicate 1536 0))) rfl (aa w _) hown.out (fun g hg=>by have e:w.heap.size=g:=Option.some.inj hg; omega) (fun j hj=>by match j with | 0 | 1 | 2 | 3 | 5 | 6=>rfl | 4=>exact absurd rfl hj | _+7=>rfl) rfl
theorem Ig {l:List Em.R} {A:Option Addr} {c:Nat} {w0 w:World} {Q:Exit→Act→World→Prop} {vn:Value} {b:Nat} (bI:kY Q) (hq:dR l A c w0 Q) (hR:Row w0 w0.heap.size 4 A l.length (aF l)) (hl:l.length≤4000000) (hb:Below w0.heap.size w0 w)
  (hH:Hp w w0.heap.size (rz (vv b) none none (iT 1536 vn))):wpAnyH Tryz.prog .any kC Q (fun _=>True) 4 #[true,false,true,true,false,true,false,true,false] ⟨(.slice A l.length c::undef :: .slice none 0 0 :: .pointer (some ⟨b,0,none⟩)::undef::undef :: .slice A l.length c::undef :: .slice A l.length c :: .int .i64 (l.length:Int)::undef::vn::undef::undef::undef::undef::undef::undef::undef::undef::undef::undef::undef::undef::undef::undef::undef::undef::undef::undef::undef::undef::undef::undef::undef::undef::undef::undef::undef::undef::undef::undef::undef::undef::undef::undef::undef::undef::undef::undef::[]).toArray,[]⟩ w:=by
 refine bP [1,4] (by kernel_rfl) (by simp) ?_;intro i hi;have hi2:i=1∨i=4:=by simpa using hi
 clear hi;rcases hi2 with rfl | rfl
 ·refine aY (o:=⟨some 7,.call { callee:=.value (.func 226),args:=#[.tmp 6],argTypes:=#[219] },_,_,_,none⟩) rfl rfl ?_
  intro K hK;go_simp;refine (fG l A c w (hR.ext hb) hl).mono ?_;rintro e w2 ⟨⟨vr,rfl,hown⟩,hb2⟩;refine hK _ _ (AA bI hq hR hl (ag hb hb2) ?_);exact Hp.more (k:=1) hH (a':=.row 240 4 vr l.length (aF (Em.hold l))) rfl hb2 (iq hown hb.size) (fun g hg=>(hown.lt g hg).1) (fun j hj=>by match j with | 0 | 2 | 3 | 4 | 5 | 6=>rfl | 1=>exact absurd rfl hj | _+7=>rfl) rfl
 ·refine aY (o:=⟨some 10,.makeSlice 23 (.tmp 9) (.tmp 9),_,_,_,none⟩) rfl rfl ?_
  intro K hK;have hmk:=fun w=>run_mk eg (z:=.int .i64 0) (by kernel_rfl) l.length (by omega) (by omega) w;have hown:=Lib.hid (dh w w0.heap.size 1 l.length 3 #[.int .i64 0] hb.size (by omega));replace hown:=Lib.hid (by have:=hown.out; rwa [bN] at this);simp only [Value.cells] at hmk;generalize madeCells _ (l.length*1)=C at *;go_simp;refine hK _ _ (Bf bI hq hR hl (hb.alloc hb.size _) ?_);exact Hp.more (k:=2) hH (a':=.row 3 1 (.slice (some ⟨w.heap.size,0,none⟩) l.length l.length) l.length (aB (List.replicate l.length 0))) rfl (aa w _) hown.out (fun g hg=>by have e:w.heap.size=g:=Option.some.inj hg; omega) (fun j hj=>by match j with | 0 | 1 | 3 | 4 | 5 | 6=>rfl | 2=>exact absurd rfl hj | _+7=>rfl) rfl
theorem Sd {l:List Em.R} {A:Option Addr} {c:Nat} {w0 w:World} {Q:Exit→Act→World→Prop} {vr:Value} (bI:kY Q) (hq:dR l A c w0 Q) (hR:Row w0 w0.heap.size 4 A l.length (aF l)) (hl:l.length≤4000000) (hb:Below w0.heap.size w0 w)
  (hH:Hp w w0.heap.size (rz none (uy l vr) none none)):wpAnyH Tryz.prog .any kC Q (fun _=>True) 5 #[true,true,true,true,false,false,false,false,false] ⟨(.slice A l.length c::undef :: .slice none 0 0::undef::undef::undef :: .slice A l.length c::vr :: .slice A l.length c :: .int .i64 (l.length:Int)::undef::undef::undef::undef::undef::undef::undef::undef::undef::undef::undef::undef::undef::undef::undef::undef::undef::undef::undef::undef::undef::undef::undef::undef::undef::undef::undef::undef::undef::undef::undef::undef::undef::undef::undef::undef::undef::undef::undef::undef::[]).toArray,[]⟩ w:=by
 refine bP [4,5,7] (by kernel_rfl) (by simp) ?_;intro i hi;have hi2:i=4∨i=5∨i=7:=by simpa using hi
 clear hi;rcases hi2 with rfl | rfl | rfl
 ·refine aY (o:=⟨some 10,.makeSlice 23 (.tmp 9) (.tmp 9),_,_,_,none⟩) rfl rfl ?_
  intro K hK;have hmk:=fun w=>run_mk eg (z:=.int .i64 0) (by kernel_rfl) l.length (by omega) (by omega) w;have hown:=Lib.hid (dh w w0.heap.size 1 l.length 3 #[.int .i64 0] hb.size (by omega));replace hown:=Lib.hid (by have:=hown.out; rwa [bN] at this);simp only [Value.cells] at hmk;generalize madeCells _ (l.length*1)=C at *;go_simp;refine hK _ _ (Ib bI hq hR hl (hb.alloc hb.size _) ?_);exact Hp.more (k:=2) hH (a':=.row 3 1 (.slice (some ⟨w.heap.size,0,none⟩) l.length l.length) l.length (aB (List.replicate l.length 0))) rfl (aa w _) hown.out (fun g hg=>by have e:w.heap.size=g:=Option.some.inj hg; omega) (fun j hj=>by match j with | 0 | 1 | 3 | 4 | 5 | 6=>rfl | 2=>exact absurd rfl hj | _+7=>rfl) rfl
 ·refine aY (o:=⟨some 11,.makeSlice 23 (.const (.int .i64 1536)) (.const (.int .i64 1536)),_,_,_,none⟩) rfl rfl ?_
  intro K hK;have hmk:∀ w,(Instr.makeSlice 23 (.int .i64 1536) (.int .i64 1536)).run Tryz.prog w=.ok (.slice (some ⟨w.heap.size,0,none⟩) 1536 1536) (w.alloc (.cells (madeCells (Value.int .i64 0).cells (1536*1)) 3)):=fun w=>run_mk eg (z:=.int .i64 0) (by kernel_rfl) 1536 (by omega) (by omega) w;have hown:=Lib.hid (dh w w0.heap.size 1 1536 3 #[.int .i64 0] hb.size (by omega));replace hown:=Lib.hid (by have:=hown.out; rwa [bN] at this);simp only [Value.cells] at hmk;generalize madeCells _ (1536*1)=C at *;go_simp;refine hK _ _ (IM bI hq hR hl (hb.alloc hb.size _) ?_);exact Hp.more (k:=4) hH (a':=.row 3 1 (.slice (some ⟨w.heap.size,0,none⟩) 1536 1536) 1536 (aB (List.replicate 1536 0))) rfl (aa w _) hown.out (fun g hg=>by have e:w.heap.size=g:=Option.some.inj hg; omega) (fun j hj=>by match j with | 0 | 1 | 2 | 3 | 5 | 6=>rfl | 4=>exact absurd rfl hj | _+7=>rfl) rfl
 ·refine aY (o:=⟨some 3,.alloc 257,_,_,_,none⟩) rfl rfl ?_
  intro K hK;go_simp;refine hK _ _ (HY bI hq hR hl (hb.alloc hb.size _) ?_);exact Hp.more (k:=0) hH (a':=.blk w.heap.size nr 257) rfl (aa w _) ⟨hb.size,heap_alloc_new w _⟩ (fun g hg=>by have e:w.heap.size=g:=Option.some.inj hg; omega) (fun j hj=>by match j with | 0=>exact absurd rfl hj | 1 | 2 | 3 | 4 | 5 | 6=>rfl | _+7=>rfl) rfl
theorem Q4 {l:List Em.R} {A:Option Addr} {c:Nat} {w0 w:World} {Q:Exit→Act→World→Prop} {vl:Value} (bI:kY Q) (hq:dR l A c w0 Q) (hR:Row w0 w0.heap.size 4 A l.length (aF l)) (hl:l.length≤4000000) (hb:Below w0.heap.size w0 w)
  (hH:Hp w w0.heap.size (rz none none (iT l.length vl) none)):wpAnyH Tryz.prog .any kC Q (fun _=>True) 5 #[true,false,true,true,true,false,false,false,false] ⟨(.slice A l.length c::undef :: .slice none 0 0::undef::undef::undef :: .slice A l.length c::undef :: .slice A l.length c :: .int .i64 (l.length:Int)::vl::undef::undef::undef::undef::undef::undef::undef::undef::undef::undef::undef::undef::undef::undef::undef::undef::undef::undef::undef::undef::undef::undef::undef::undef::undef::undef::undef::undef::undef::undef::undef::undef::undef::undef::undef::undef::undef::undef::undef::[]).toArray,[]⟩ w:=by
 refine bP [1,5,7] (by kernel_rfl) (by simp) ?_;intro i hi;have hi2:i=1∨i=5∨i=7:=by simpa using hi
 clear hi;rcases hi2 with rfl | rfl | rfl
 ·refine aY (o:=⟨some 7,.call { callee:=.value (.func 226),args:=#[.tmp 6],argTypes:=#[219] },_,_,_,none⟩) rfl rfl ?_
  intro K hK;go_simp;refine (fG l A c w (hR.ext hb) hl).mono ?_;rintro e w2 ⟨⟨vr,rfl,hown⟩,hb2⟩;refine hK _ _ (Ib bI hq hR hl (ag hb hb2) ?_);exact Hp.more (k:=1) hH (a':=.row 240 4 vr l.length (aF (Em.hold l))) rfl hb2 (iq hown hb.size) (fun g hg=>(hown.lt g hg).1) (fun j hj=>by match j with | 0 | 2 | 3 | 4 | 5 | 6=>rfl | 1=>exact absurd rfl hj | _+7=>rfl) rfl
 ·refine aY (o:=⟨some 11,.makeSlice 23 (.const (.int .i64 1536)) (.const (.int .i64 1536)),_,_,_,none⟩) rfl rfl ?_
  intro K hK;have hmk:∀ w,(Instr.makeSlice 23 (.int .i64 1536) (.int .i64 1536)).run Tryz.prog w=.ok (.slice (some ⟨w.heap.size,0,none⟩) 1536 1536) (w.alloc (.cells (madeCells (Value.int .i64 0).cells (1536*1)) 3)):=fun w=>run_mk eg (z:=.int .i64 0) (by kernel_rfl) 1536 (by omega) (by omega) w;have hown:=Lib.hid (dh w w0.heap.size 1 1536 3 #[.int .i64 0] hb.size (by omega));replace hown:=Lib.hid (by have:=hown.out; rwa [bN] at this);simp only [Value.cells] at hmk;generalize madeCells _ (1536*1)=C at *;go_simp;refine hK _ _ (Is bI hq hR hl (hb.alloc hb.size _) ?_);exact Hp.more (k:=4) hH (a':=.row 3 1 (.slice (some ⟨w.heap.size,0,none⟩) 1536 1536) 1536 (aB (List.replicate 1536 0))) rfl (aa w _) hown.out (fun g hg=>by have e:w.heap.size=g:=Option.some.inj hg; omega) (fun j hj=>by match j with | 0 | 1 | 2 | 3 | 5 | 6=>rfl | 4=>exact absurd rfl hj | _+7=>rfl) rfl
 ·refine aY (o:=⟨some 3,.alloc 257,_,_,_,none⟩) rfl rfl ?_
  intro K hK;go_simp;refine hK _ _ (I3 bI hq hR hl (hb.alloc hb.size _) ?_);exact Hp.more (k:=0) hH (a':=.blk w.heap.size nr 257) rfl (aa w _) ⟨hb.size,heap_alloc_new w _⟩ (fun g hg=>by have e:w.heap.size=g:=Option.some.inj hg; omega) (fun j hj=>by match j with | 0=>exact absurd rfl hj | 1 | 2 | 3 | 4 | 5 | 6=>rfl | _+7=>rfl) rfl
theorem RU {l:List Em.R} {A:Option Addr} {c:Nat} {w0 w:World} {Q:Exit→Act→World→Prop} {vn:Value} (bI:kY Q) (hq:dR l A c w0 Q) (hR:Row w0 w0.heap.size 4 A l.length (aF l)) (hl:l.length≤4000000) (hb:Below w0.heap.size w0 w)
  (hH:Hp w w0.heap.size (rz none none none (iT 1536 vn))):wpAnyH Tryz.prog .any kC Q (fun _=>True) 5 #[true,false,true,true,false,true,false,false,false] ⟨(.slice A l.length c::undef :: .slice none 0 0::undef::undef::undef :: .slice A l.length c::undef :: .slice A l.length c :: .int .i64 (l.length:Int)::undef::vn::undef::undef::undef::undef::undef::undef::undef::undef::undef::undef::undef::undef::undef::undef::undef::undef::undef::undef::undef::undef::undef::undef::undef::undef::undef::undef::undef::undef::undef::undef::undef::undef::undef::undef::undef::undef::undef::undef::[]).toArray,[]⟩ w:=by
 refine bP [1,4,7] (by kernel_rfl) (by simp) ?_;intro i hi;have hi2:i=1∨i=4∨i=7:=by simpa using hi
 clear hi;rcases hi2 with rfl | rfl | rfl
 ·refine aY (o:=⟨some 7,.call { callee:=.value (.func 226),args:=#[.tmp 6],argTypes:=#[219] },_,_,_,none⟩) rfl rfl ?_
  intro K hK;go_simp;refine (fG l A c w (hR.ext hb) hl).mono ?_;rintro e w2 ⟨⟨vr,rfl,hown⟩,hb2⟩;refine hK _ _ (IM bI hq hR hl (ag hb hb2) ?_);exact Hp.more (k:=1) hH (a':=.row 240 4 vr l.length (aF (Em.hold l))) rfl hb2 (iq hown hb.size) (fun g hg=>(hown.lt g hg).1) (fun j hj=>by match j with | 0 | 2 | 3 | 4 | 5 | 6=>rfl | 1=>exact absurd rfl hj | _+7=>rfl) rfl
 ·refine aY (o:=⟨some 10,.makeSlice 23 (.tmp 9) (.tmp 9),_,_,_,none⟩) rfl rfl ?_
  intro K hK;have hmk:=fun w=>run_mk eg (z:=.int .i64 0) (by kernel_rfl) l.length (by omega) (by omega) w;have hown:=Lib.hid (dh w w0.heap.size 1 l.length 3 #[.int .i64 0] hb.size (by omega));replace hown:=Lib.hid (by have:=hown.out; rwa [bN] at this);simp only [Value.cells] at hmk;generalize madeCells _ (l.length*1)=C at *;go_simp;refine hK _ _ (Is bI hq hR hl (hb.alloc hb.size _) ?_);exact Hp.more (k:=2) hH (a':=.row 3 1 (.slice (some ⟨w.heap.size,0,none⟩) l.length l.length) l.length (aB (List.replicate l.length 0))) rfl (aa w _) hown.out (fun g hg=>by have e:w.heap.size=g:=Option.some.inj hg; omega) (fun j hj=>by match j with | 0 | 1 | 3 | 4 | 5 | 6=>rfl | 2=>exact absurd rfl hj | _+7=>rfl) rfl
 ·refine aY (o:=⟨some 3,.alloc 257,_,_,_,none⟩) rfl rfl ?_
  intro K hK;go_simp;refine hK _ _ (Ig bI hq hR hl (hb.alloc hb.size _) ?_);exact Hp.more (k:=0) hH (a':=.blk w.heap.size nr 257) rfl (aa w _) ⟨hb.size,heap_alloc_new w _⟩ (fun g hg=>by have e:w.heap.size=g:=Option.some.inj hg; omega) (fun j hj=>by match j with | 0=>exact absurd rfl hj | 1 | 2 | 3 | 4 | 5 | 6=>rfl | _+7=>rfl) rfl
theorem R1 {l:List Em.R} {A:Option Addr} {c:Nat} {w0 w:World} {Q:Exit→Act→World→Prop} {b:Nat} (bI:kY Q) (hq:dR l A c w0 Q) (hR:Row w0 w0.heap.size 4 A l.length (aF l)) (hl:l.length≤4000000) (hb:Below w0.heap.size w0 w)
  (hH:Hp w w0.heap.size (rz (vv b) none none none)):wpAnyH Tryz.prog .any kC Q (fun _=>True) 5 #[true,false,true,true,false,false,false,true,false] ⟨(.slice A l.length c::undef :: .slice none 0 0 :: .pointer (some ⟨b,0,none⟩)::undef::undef :: .slice A l.length c::undef :: .slice A l.length c :: .int .i64 (l.length:Int)::undef::undef::undef::undef::undef::undef::undef::undef::undef::undef::undef::undef::undef::undef::undef::undef::undef::undef::undef::undef::undef::undef::undef::undef::undef::undef::undef::undef::undef::undef::undef::undef::undef::undef::undef::undef::undef::undef::undef::undef::[]).toArray,[]⟩ w:=by
 refine bP [1,4,5] (by kernel_rfl) (by simp) ?_;intro i hi;have hi2:i=1∨i=4∨i=5:=by simpa using hi
 clear hi;rcases hi2 with rfl | rfl | rfl
 ·refine aY (o:=⟨some 7,.call { callee:=.value (.func 226),args:=#[.tmp 6],argTypes:=#[219] },_,_,_,none⟩) rfl rfl ?_
  intro K hK;go_simp;refine (fG l A c w (hR.ext hb) hl).mono ?_;rintro e w2 ⟨⟨vr,rfl,hown⟩,hb2⟩;refine hK _ _ (HY bI hq hR hl (ag hb hb2) ?_);exact Hp.more (k:=1) hH (a':=.row 240 4 vr l.length (aF (Em.hold l))) rfl hb2 (iq hown hb.size) (fun g hg=>(hown.lt g hg).1) (fun j hj=>by match j with | 0 | 2 | 3 | 4 | 5 | 6=>rfl | 1=>exact absurd rfl hj | _+7=>rfl) rfl
 ·refine aY (o:=⟨some 10,.makeSlice 23 (.tmp 9) (.tmp 9),_,_,_,none⟩) rfl rfl ?_
  intro K hK;have hmk:=fun w=>run_mk eg (z:=.int .i64 0) (by kernel_rfl) l.length (by omega) (by omega) w;have hown:=Lib.hid (dh w w0.heap.size 1 l.length 3 #[.int .i64 0] hb.size (by omega));replace hown:=Lib.hid (by have:=hown.out; rwa [bN] at this);simp only [Value.cells] at hmk;generalize madeCells _ (l.length*1)=C at *;go_simp;refine hK _ _ (I3 bI hq hR hl (hb.alloc hb.size _) ?_);exact Hp.more (k:=2) hH (a':=.row 3 1 (.slice (some ⟨w.heap.size,0,none⟩) l.length l.length) l.length (aB (List.replicate l.length 0))) rfl (aa w _) hown.out (fun g hg=>by have e:w.heap.size=g:=Option.some.inj hg; omega) (fun j hj=>by match j with | 0 | 1 | 3 | 4 | 5 | 6=>rfl | 2=>exact absurd rfl hj | _+7=>rfl) rfl
 ·refine aY (o:=⟨some 11,.makeSlice 23 (.const (.int .i64 1536)) (.const (.int .i64 1536)),_,_,_,none⟩) rfl rfl ?_
  intro K hK;have hmk:∀ w,(Instr.makeSlice 23 (.int .i64 1536) (.int .i64 1536)).run Tryz.prog w=.ok (.slice (some ⟨w.heap.size,0,none⟩) 1536 1536) (w.alloc (.cells (madeCells (Value.int .i64 0).cells (1536*1)) 3)):=fun w=>run_mk eg (z:=.int .i64 0) (by kernel_rfl) 1536 (by omega) (by omega) w;have hown:=Lib.hid (dh w w0.heap.size 1 1536 3 #[.int .i64 0] hb.size (by omega));replace hown:=Lib.hid (by have:=hown.out; rwa [bN] at this);simp only [Value.cells] at hmk;generalize madeCells _ (1536*1)=C at *;go_simp;refine hK _ _ (Ig bI hq hR hl (hb.alloc hb.size _) ?_);exact Hp.more (k:=4) hH (a':=.row 3 1 (.slice (some ⟨w.heap.size,0,none⟩) 1536 1536) 1536 (aB (List.replicate 1536 0))) rfl (aa w _) hown.out (fun g hg=>by have e:w.heap.size=g:=Option.some.inj hg; omega) (fun j hj=>by match j with | 0 | 1 | 2 | 3 | 5 | 6=>rfl | 4=>exact absurd rfl hj | _+7=>rfl) rfl
theorem RT {l:List Em.R} {A:Option Addr} {c:Nat} {w0 w:World} {Q:Exit→Act→World→Prop} (bI:kY Q) (hq:dR l A c w0 Q) (hR:Row w0 w0.heap.size 4 A l.length (aF l)) (hl:l.length≤4000000) (hb:Below w0.heap.size w0 w)
  (hH:Hp w w0.heap.size (rz none none none none)):wpAnyH Tryz.prog .any kC Q (fun _=>True) 6 #[true,false,true,true,false,false,false,false,false] ⟨(.slice A l.length c::undef :: .slice none 0 0::undef::undef::undef :: .slice A l.length c::undef :: .slice A l.length c :: .int .i64 (l.length:Int)::undef::undef::undef::undef::undef::undef::undef::undef::undef::undef::undef::undef::undef::undef::undef::undef::undef::undef::undef::undef::undef::undef::undef::undef::undef::undef::undef::undef::undef::undef::undef::undef::undef::undef::undef::undef::undef::undef::undef::undef::[]).toArray,[]⟩ w:=by
 refine bP [1,4,5,7] (by kernel_rfl) (by simp) ?_;intro i hi;have hi2:i=1∨i=4∨i=5∨i=7:=by simpa using hi
 clear hi;rcases hi2 with rfl | rfl | rfl | rfl
 ·refine aY (o:=⟨some 7,.call { callee:=.value (.func 226),args:=#[.tmp 6],argTypes:=#[219] },_,_,_,none⟩) rfl rfl ?_
  intro K hK;go_simp;refine (fG l A c w (hR.ext hb) hl).mono ?_;rintro e w2 ⟨⟨vr,rfl,hown⟩,hb2⟩;refine hK _ _ (Sd bI hq hR hl (ag hb hb2) ?_);exact Hp.more (k:=1) hH (a':=.row 240 4 vr l.length (aF (Em.hold l))) rfl hb2 (iq hown hb.size) (fun g hg=>(hown.lt g hg).1) (fun j hj=>by match j with | 0 | 2 | 3 | 4 | 5 | 6=>rfl | 1=>exact absurd rfl hj | _+7=>rfl) rfl
 ·refine aY (o:=⟨some 10,.makeSlice 23 (.tmp 9) (.tmp 9),_,_,_,none⟩) rfl rfl ?_
  intro K hK;have hmk:=fun w=>run_mk eg (z:=.int .i64 0) (by kernel_rfl) l.length (by omega) (by omega) w;have hown:=Lib.hid (dh w w0.heap.size 1 l.length 3 #[.int .i64 0] hb.size (by omega));replace hown:=Lib.hid (by have:=hown.out; rwa [bN] at this);simp only [Value.cells] at hmk;generalize madeCells _ (l.length*1)=C at *;go_simp;refine hK _ _ (Q4 bI hq hR hl (hb.alloc hb.size _) ?_);exact Hp.more (k:=2) hH (a':=.row 3 1 (.slice (some ⟨w.heap.size,0,none⟩) l.length l.length) l.length (aB (List.replicate l.length 0))) rfl (aa w _) hown.out (fun g hg=>by have e:w.heap.size=g:=Option.some.inj hg; omega) (fun j hj=>by match j with | 0 | 1 | 3 | 4 | 5 | 6=>rfl | 2=>exact absurd rfl hj | _+7=>rfl) rfl
 ·refine aY (o:=⟨some 11,.makeSlice 23 (.const (.int .i64 1536)) (.const (.int .i64 1536)),_,_,_,none⟩) rfl rfl ?_
  intro K hK;have hmk:∀ w,(Instr.makeSlice 23 (.int .i64 1536) (.int .i64 1536)).run Tryz.prog w=.ok (.slice (some ⟨w.heap.size,0,none⟩) 1536 1536) (w.alloc (.cells (madeCells (Value.int .i64 0).cells (1536*1)) 3)):=fun w=>run_mk eg (z:=.int .i64 0) (by kernel_rfl) 1536 (by omega) (by omega) w;have hown:=Lib.hid (dh w w0.heap.size 1 1536 3 #[.int .i64 0] hb.size (by omega));replace hown:=Lib.hid (by have:=hown.out; rwa [bN] at this);simp only [Value.cells] at hmk;generalize madeCells _ (1536*1)=C at *;go_simp;refine hK _ _ (RU bI hq hR hl (hb.alloc hb.size _) ?_);exact Hp.more (k:=4) hH (a':=.row 3 1 (.slice (some ⟨w.heap.size,0,none⟩) 1536 1536) 1536 (aB (List.replicate 1536 0))) rfl (aa w _) hown.out (fun g hg=>by have e:w.heap.size=g:=Option.some.inj hg; omega) (fun j hj=>by match j with | 0 | 1 | 2 | 3 | 5 | 6=>rfl | 4=>exact absurd rfl hj | _+7=>rfl) rfl
 ·refine aY (o:=⟨some 3,.alloc 257,_,_,_,none⟩) rfl rfl ?_
  intro K hK;go_simp;refine hK _ _ (R1 bI hq hR hl (hb.alloc hb.size _) ?_);exact Hp.more (k:=0) hH (a':=.blk w.heap.size nr 257) rfl (aa w _) ⟨hb.size,heap_alloc_new w _⟩ (fun g hg=>by have e:w.heap.size=g:=Option.some.inj hg; omega) (fun j hj=>by match j with | 0=>exact absurd rfl hj | 1 | 2 | 3 | 4 | 5 | 6=>rfl | _+7=>rfl) rfl
theorem NO {l:List Em.R} {A:Option Addr} {c:Nat} {w0:World} {Q:Exit→Act→World→Prop} (bI:kY Q) (hq:dR l A c w0 Q) (hR:Row w0 w0.heap.size 4 A l.length (aF l)) (hl:l.length≤4000000) :
  Code.wp Tryz.prog (DH Tryz.f201 1) Q ⟨(.slice A l.length c::undef :: .slice none 0 0::undef::undef::undef::undef::undef::undef::undef::undef::undef::undef::undef::undef::undef::undef::undef::undef::undef::undef::undef::undef::undef::undef::undef::undef::undef::undef::undef::undef::undef::undef::undef::undef::undef::undef::undef::undef::undef::undef::undef::undef::undef::undef::undef::undef::undef::undef::undef::[]).toArray,[]⟩ w0:=by
 show Code.wp Tryz.prog (Code.region 1 kC true) Q _ w0;refine wp_region_held (S:=fun _=>True) (by kernel_rfl) ?_;show wpAnyH Tryz.prog .any kC Q (fun _=>True) 9 #[false,false,false,false,false,false,false,false,false] _ _;refine p9 (i:=0) (o:=⟨some 6,.move (.tmp 0),_,_,_,none⟩) (.slice A l.length c) rfl rfl (by kernel_rfl) (by kernel_rfl) (by kernel_rfl) bI (fun w'=>by go_simp) ?_;refine p9 (i:=2) (o:=⟨some 8,.move (.tmp 0),_,_,_,none⟩) (.slice A l.length c) rfl rfl (by kernel_rfl) (by kernel_rfl) (by kernel_rfl) bI (fun w'=>by go_simp) ?_;refine p9 (i:=3) (o:=⟨some 9,.call { callee:=.builtin .len,args:=#[.tmp 8],argTypes:=#[219] },_,_,_,none⟩) (.int .i64 (l.length:Int)) rfl rfl (by kernel_rfl) (by kernel_rfl) (by kernel_rfl) bI (fun w'=>by go_simp) ?_;exact RT bI hq hR hl (Below.refl _ _).drew (N2 _ _)
end Go.Proofs.YtddkjkockbcamaaGreatDoor
end

set_option maxHeartbeats 16000000
set_option maxRecDepth 100000
namespace Go.Proofs.YtddkjkockbcamaaGreatDoor.Il
open Go.Lib
theorem GN {t:List UInt8} (h:t≠[]):Ru.enc (Ru.aP t)≠[]:=by
 intro h0;have:=(Ru.vI).1 h0;rw [Ru.dQ h] at this;cases this
end Go.Proofs.YtddkjkockbcamaaGreatDoor.Il

set_option maxHeartbeats 16000000
set_option maxRecDepth 100000
namespace Go.Proofs.YtddkjkockbcamaaGreatDoor.Hm
open Go.Lib
theorem zC:∀ {l:List UInt8},(∀ b∈l,b≠62)→upTo l=none
 | [],_=>rfl
 | b::l,h=>by
  unfold upTo;rw [if_neg (h b (by simp)),zC (fun c hc=>h c (by simp [hc]))]; rfl
theorem Hz {t:List UInt8} (h0:t≠[]) (h:t.getLastD 0=47) (st:List (List UInt8)):turn t st=some st:=by unfold turn; rw [if_pos ⟨h0,h⟩]
theorem PW {t:List UInt8} (h:t=[]∨(t.getLastD 0≠47∧t.getD 0 0≠47)) (st:List (List UInt8)):turn t st=some (name t::st):=by
 unfold turn;rcases h with rfl | ⟨h1,h2⟩
 ·rfl
 ·rw [if_neg (fun hc=>h1 hc.2),if_neg (fun hc=>h2 hc.1)]
theorem Ly {t:List UInt8} (h0:t≠[]) (h1:t.getLastD 0≠47) (h2:t.getD 0 0=47):turn t []=none:=by
 unfold turn;rw [if_neg (fun hc=>h1 hc.2),if_pos ⟨h2,h0⟩]
theorem L5 {t:List UInt8} (h0:t≠[]) (h1:t.getLastD 0≠47) (h2:t.getD 0 0=47) {n:List UInt8} {s:List (List UInt8)} (hn:n≠(name t).drop 1):turn t (n::s)=none:=by
 unfold turn;rw [if_neg (fun hc=>h1 hc.2),if_pos ⟨h2,h0⟩];simp only;rw [if_neg hn]
theorem S8 {t:List UInt8} (h0:t≠[]) (h1:t.getLastD 0≠47) (h2:t.getD 0 0=47) {n:List UInt8} {s:List (List UInt8)} (hn:n=(name t).drop 1):turn t (n::s)=some s:=by
 unfold turn;rw [if_neg (fun hc=>h1 hc.2),if_pos ⟨h2,h0⟩];simp only;rw [if_pos hn]
end Go.Proofs.YtddkjkockbcamaaGreatDoor.Hm
