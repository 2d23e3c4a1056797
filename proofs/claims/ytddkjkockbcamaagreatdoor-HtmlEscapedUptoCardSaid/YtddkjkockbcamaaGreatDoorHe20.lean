/- IlPPut IlPSay2 EmKd EmPB IlRightM HmBalM -/
import Derived.Test.YtddkjkockbcamaaGreatDoorHe19
import Derived.Test.YtddkjkockbcamaaGreatDoorHe18
import Derived.Test.YtddkjkockbcamaaGreatDoorHe17
import Derived.Test.YtddkjkockbcamaaGreatDoorHe03
import Derived.Deep.DeepCutAuto
import Derived.Test.YtddkjkockbcamaaGreatDoorHe04
import Derived.Test.YtddkjkockbcamaaGreatDoorHe02
set_option maxHeartbeats 16000000
set_option maxRecDepth 100000
namespace Go.Proofs.YtddkjkockbcamaaGreatDoor
open Go.RowKit
attribute [local go_sem] aD av aq
theorem Hq.mM {K:Type}{w:World}{B:Nat}{m:K→Option Pa}(h:Hq w B m):bV B m w m w.drew :=
 ⟨⟨fun k a ha=>by have:=h.holds k a ha;cases a<;>exact this,h.apart⟩,⟨rfl,rfl,rfl,Nat.le_refl _,fun _ _=>rfl⟩,fun _ hb=>⟨rfl,hb⟩⟩
theorem Iv {w:World}{g size n:Nat}{C:Array Value}{T:TypeId}(h:w.heap[g]? = some (.cells C T)) (hn:C.size=n*size):Row w w.heap.size size (some ⟨g,0,none⟩) n C.toList:=by
 refine ⟨by simpa using hn,fun _=>⟨g,0,rfl,(Array.getElem?_eq_some_iff.1 h).1,fun j u hj=>?_⟩⟩;rw [ah h];simpa using hj
section
variable {m:Ky→Option Pa}{k:Ks}{C:Value→Value→Pa}{R:Il.Rw}{vi vp:Value}{css:List (List Value)}{w:World}{B g o:Nat}
theorem yH (hk:k.ok) (hC:Cn g o C) (h:Hq w B (aN m k C ⟨R.full,[]⟩ vi vp css)) (hI:gB w (Fr w B (aN m k C ⟨R.full,[]⟩ vi vp css)) R.full css) (hB:B≤w.heap.size) {x:Il.In}{xc:List Value}(hx:IC w (Fr w B (aN m k C ⟨R.full,[]⟩ vi vp css)) x xc)
  {w':World}{v':Value}(ho:w'.ownsRow B 35 4 v' (R.full.length+1) (css.flatten++xc)) (hg:w.grownBy w' vi.ownBlock) (hat:At w.heap.size vi v') :
  bV B (aN m k C ⟨R.full,[]⟩ vi vp css) w (aN m k C (R.put x) v' vp (css++[xc])) (w'.setCell ⟨g,o,none⟩ v')∧gB (w'.setCell ⟨g,o,none⟩ v') (Fr (w'.setCell ⟨g,o,none⟩ v') B (aN m k C (R.put x) v' vp (css++[xc]))) (R.put x).l (css++[xc]):=by
 have t:=mE hk hC h hB (R':=R.put x) (css':=css++[xc]) rfl hg (by
  have e:(R.put x).l.length=R.full.length+1:=by simp [Il.Rw.put]
  rw [e];simpa using ho) hat
 exact ⟨t,ny (t.kids hI) (t.kid hx)⟩
theorem vM (hk:k.ok) (hC:Cn g o C) (h:Hq w B (aN m k C R vi vp css)) (hI:gB w (Fr w B (aN m k C R vi vp css)) R.l css) (hB:B≤w.heap.size) (hl:R.p.length≤10000000000) (uU:R.l.length≤10000000000)
  (kd:Nat) (t d:List UInt8) (ks:List Il.In) (AK:Option Addr) (cK:Nat) (hx:IC w (Fr w B (aN m k C R vi vp css)) (.mk kd t d ks) [.int .i64 (kd:Int),.string (bs t),.string (bs d),.slice AK ks.length cK]) :
  Calls Tryz.prog 198 #[.pointer (some ⟨g,o,none⟩),.agg #[.int .i64 (kd:Int),.string (bs t),.string (bs d),.slice AK ks.length cK]] w fun e w'=>e=.returned (.tuple #[])∧∃ vi' vp' css',bV B (aN m k C R vi vp css) w (aN m k C (R.put (.mk kd t d ks)) vi' vp' css') w'∧gB w' (Fr w' B (aN m k C (R.put (.mk kd t d ks)) vi' vp' css')) (R.put (.mk kd t d ks)).l css':=by
 have hfl:=R.HA.1;have t0:=h.call (w':=w.alloc (.cells #[.int .i64 (kd:Int),.string (bs t),.string (bs d),.slice AK ks.length cK] 35)) hB (aa w _);have hf0:=Hq.new (w':=w.alloc (.cells #[.int .i64 (kd:Int),.string (bs t),.string (bs d),.slice AK ks.length cK] 35)) h hB (b:=w.heap.size) (Nat.le_refl _) (by simp);have hb0:(w.alloc (.cells #[.int .i64 (kd:Int),.string (bs t),.string (bs d),.slice AK ks.length cK] 35)).heap[w.heap.size]? = some (.cells #[.int .i64 (kd:Int),.string (bs t),.string (bs d),.slice AK ks.length cK] 35):=heap_alloc_new w _;have td:=t0.trans t0.hp.mM;have ZG:=td.kids hI;have ZY:=td.kid hx;obtain ⟨wd,hwd⟩:∃ wd,wd=(w.alloc (.cells #[.int .i64 (kd:Int),.string (bs t),.string (bs d),.slice AK ks.length cK] 35)).drew:=⟨_,rfl⟩
 have Qn:(fun u:World=>u.heap[w.heap.size]? = some (.cells #[.int .i64 (kd:Int),.string (bs t),.string (bs d),.slice AK ks.length cK] 35)) wd:=by rw [hwd];exact hb0
 have TF:Fr wd B (aN m k C R vi vp css) w.heap.size:=by rw [hwd];exact hf0
 have ER:B≤wd.heap.size:=by rw [hwd];simp;omega
 rw [← hwd] at td ZG ZY;clear t0 hf0 hb0 h hI hx;go_enter Tryz.func198,Tryz.ntmps198;go_upto_region 1 with fail
 refine aE (.rd 0 (.rd 1 (.rd 3 (.fk 2 (.mk 4 (.mk 5 (.rd 6 (.rd 7 (.mk 8 .fin))))) 4 (.mk 2 (.mk 5 (.rd 6 (.rd 7 (.mk 8 .fin))))))))) (fun u:World=>u.heap[w.heap.size]? = some (.cells #[.int .i64 (kd:Int),.string (bs t),.string (bs d),.slice AK ks.length cK] 35)) (hwd▸Qn) (by kernel_rfl) (by kernel_rfl) (by kernel_rfl) (fun _ _ d _ _ h=>by cases d<;>exact h) ?_;rw [← hwd];clear hwd
 iterate 2 (first | refine an rfl ?_ | (refine ay rfl ?_;intro K hK;go_simp;refine hK _ _ _ ?_;clear hK K))
 refine aH (.agg #[.int .i64 (kd:Int),.string (bs t),.string (bs d),.slice AK ks.length cK]) rfl rfl Qn (fun u hu=>by
  have h0:=ah (j:=0) hu;have h1:=ah (j:=1) hu;have h2:=ah (j:=2) hu;have h3:=ah (j:=3) hu;go_simp) ?_
 refine iF ?wa ?wb
 case' wa =>
  refine aC rfl ?_;intro K hK;go_simp;refine (j9 hk hC td.hp ZG ER (by omega) (by omega)).mono ?_;rintro e w1 ⟨vi1,rfl,vp1,css1,t1,G4⟩;have hx1:=t1.kid ZY;obtain ⟨Cb,Bn⟩:=t1.fre _ TF;have hS1:(fun u:World=>u.heap[w.heap.size]? = some (.cells #[.int .i64 (kd:Int),.string (bs t),.string (bs d),.slice AK ks.length cK] 35)) w1:=Cb.trans Qn;refine ⟨_,hS1,fun _ h=>h,hK _ _ _ ?_⟩;clear hK K;refine aC rfl ?_;intro K hK;go_simp;have T9:=Nat.le_trans ER t1.bel.size;have ta:=t1.hp.call (w':=w1.alloc (.cells #[.int .i64 (kd:Int),.string (bs t),.string (bs d),.slice AK ks.length cK] 35)) T9 (aa w1 _);have wF:(w1.alloc (.cells #[.int .i64 (kd:Int),.string (bs t),.string (bs d),.slice AK ks.length cK] 35)).heap[w1.heap.size]? = some (.cells #[.int .i64 (kd:Int),.string (bs t),.string (bs d),.slice AK ks.length cK] 35):=heap_alloc_new w1 _;obtain ⟨DW,hfr2⟩:=ta.fre _ Bn;replace hS1:(fun u:World=>u.heap[w.heap.size]? = some (.cells #[.int .i64 (kd:Int),.string (bs t),.string (bs d),.slice AK ks.length cK] 35)) (w1.alloc (.cells #[.int .i64 (kd:Int),.string (bs t),.string (bs d),.slice AK ks.length cK] 35)):=DW.trans hS1;replace G4:=ta.kids G4;replace hx1:=ta.kid hx1;replace t1:=t1.trans ta;replace Bn:=hfr2;refine ⟨_,hS1,fun _ h=>h,hK _ _ _ ?_⟩;clear hK K ta DW Cb;obtain ⟨bx,rq⟩:∃ bx,bx=w1.heap.size:=⟨_,rfl⟩
  rw [← rq] at wF ⊢;clear rq;generalize w1.alloc (.cells #[.int .i64 (kd:Int),.string (bs t),.string (bs d),.slice AK ks.length cK] 35)=w2 at *;obtain ⟨c0,c1,cf,hBg,F4,oi,op,nei,nep⟩:=eE hk hC t1.hp;have Yg:=Nat.le_trans ER t1.bel.size;have oi:w2.ownsRow B 35 4 vi1 R.full.length css1.flatten:=oi;obtain ⟨A2,c2,rfl,hc4⟩:=ak oi;refine lV rfl rfl (.tmp 6) (.tmp 8) rfl It (v:=.slice A2 R.full.length c2) rfl oi rfl (Iv wF (n:=1) rfl) (by intro u hu;simp at hu;rcases hu with rfl | rfl | rfl | rfl<;>rfl) (by omega) (by omega) Yg ?_;intro v' w' ho hg hb hat;obtain ⟨g',c',rfl,hc',Gq,Hy⟩:=fT ho (by omega);obtain ⟨d0,d1,df,dz⟩:=iW hk hC t1.hp hg.out nei;have SH:(Value.slice A2 R.full.length c2).ownBlock≠some w.heap.size:=Bn.2.2 _ _ (gS hk);have eV:(fun u:World=>u.heap[w.heap.size]? = some (.cells #[.int .i64 (kd:Int),.string (bs t),.string (bs d),.slice AK ks.length cK] 35)) w':=(hg.out.block _ Bn.2.1 (fun e=>SH e.symm)).trans hS1;refine ⟨_,eV,fun _ h=>h,?_⟩;obtain ⟨t3,pF⟩:=yH hk hC t1.hp G4 Yg hx1 ho hg.out hat.out;have t4:=Lib.hid (td.trans (t1.trans t3));have Wh:=Lib.hid pF;have hgn:g≠w.heap.size:=fun e=>Bn.2.2 _ _ (l6 hk) (by rw [hC.block,e]);have x9:(fun u:World=>u.heap[w.heap.size]? = some (.cells #[.int .i64 (kd:Int),.string (bs t),.string (bs d),.slice AK ks.length cK] 35)) (w'.setCell ⟨g,o,none⟩ (.slice (some ⟨g',0,none⟩) (R.full.length+1) c')):=(Below.heap_setCell _ _ _ _ (fun e=>hgn e.symm)).trans eV;clear t3 pF ho hg hb hat d1 t1 G4 hx1 oi op nei nep c0 c1 cf
  iterate 2 (first | refine an rfl ?_ | (refine ay rfl ?_;intro K hK;go_simp;refine hK _ _ _ ?_;clear hK K))
  refine aC rfl ?_;intro K hK;go_simp;refine ⟨_,x9,fun _ h=>h,hK _ _ _ ?_⟩;clear hK K;refine aM ?_;go_wp2_with fail;go_returns;exact ⟨rfl,_,_,_,t4.out,Wh.out⟩
 case' wb =>
  refine aC rfl ?_;intro K hK;go_simp;have ta:=td.hp.call (w':=wd.alloc (.cells #[.int .i64 (kd:Int),.string (bs t),.string (bs d),.slice AK ks.length cK] 35)) ER (aa wd _);have wF:(wd.alloc (.cells #[.int .i64 (kd:Int),.string (bs t),.string (bs d),.slice AK ks.length cK] 35)).heap[wd.heap.size]? = some (.cells #[.int .i64 (kd:Int),.string (bs t),.string (bs d),.slice AK ks.length cK] 35):=heap_alloc_new wd _;have VJ:=Hq.new (w':=wd.alloc (.cells #[.int .i64 (kd:Int),.string (bs t),.string (bs d),.slice AK ks.length cK] 35)) td.hp ER (b:=wd.heap.size) (Nat.le_refl _) (by simp);obtain ⟨DW,hfr2⟩:=ta.fre _ TF;have hS1:(fun u:World=>u.heap[w.heap.size]? = some (.cells #[.int .i64 (kd:Int),.string (bs t),.string (bs d),.slice AK ks.length cK] 35)) (wd.alloc (.cells #[.int .i64 (kd:Int),.string (bs t),.string (bs d),.slice AK ks.length cK] 35)):=DW.trans Qn;have Qw:=ta.kids ZG;have hx0:=ta.kid ZY;refine ⟨_,hS1,fun _ h=>h,hK _ _ _ ?_⟩;clear hK K DW;have WT:B≤(wd.alloc (.cells #[.int .i64 (kd:Int),.string (bs t),.string (bs d),.slice AK ks.length cK] 35)).heap.size:=by simp;omega
  obtain ⟨bx,rq⟩:∃ bx,bx=wd.heap.size:=⟨_,rfl⟩
  rw [← rq] at wF VJ ⊢;clear rq;generalize wd.alloc (.cells #[.int .i64 (kd:Int),.string (bs t),.string (bs d),.slice AK ks.length cK] 35)=w1 at *;refine aC rfl ?_;intro K hK;go_simp;refine (j9 hk hC ta.hp Qw WT (by omega) (by omega)).mono ?_;rintro e w2 ⟨vi1,rfl,vp1,css1,t1,G4⟩;have hx1:=t1.kid hx0;obtain ⟨Cb,Bn⟩:=t1.fre _ hfr2;replace wF:=(t1.fre _ VJ).1.trans wF;replace hS1:(fun u:World=>u.heap[w.heap.size]? = some (.cells #[.int .i64 (kd:Int),.string (bs t),.string (bs d),.slice AK ks.length cK] 35)) w2:=Cb.trans hS1;replace t1:=ta.trans t1;refine ⟨_,hS1,fun _ h=>h,hK _ _ _ ?_⟩;clear hK K Qw hx0 VJ hfr2 Cb;obtain ⟨c0,c1,cf,hBg,F4,oi,op,nei,nep⟩:=eE hk hC t1.hp;have Yg:=Nat.le_trans ER t1.bel.size;have oi:w2.ownsRow B 35 4 vi1 R.full.length css1.flatten:=oi;obtain ⟨A2,c2,rfl,hc4⟩:=ak oi;refine lV rfl rfl (.tmp 6) (.tmp 8) rfl It (v:=.slice A2 R.full.length c2) rfl oi rfl (Iv wF (n:=1) rfl) (by intro u hu;simp at hu;rcases hu with rfl | rfl | rfl | rfl<;>rfl) (by omega) (by omega) Yg ?_;intro v' w' ho hg hb hat;obtain ⟨g',c',rfl,hc',Gq,Hy⟩:=fT ho (by omega);obtain ⟨d0,d1,df,dz⟩:=iW hk hC t1.hp hg.out nei;have SH:(Value.slice A2 R.full.length c2).ownBlock≠some w.heap.size:=Bn.2.2 _ _ (gS hk);have eV:(fun u:World=>u.heap[w.heap.size]? = some (.cells #[.int .i64 (kd:Int),.string (bs t),.string (bs d),.slice AK ks.length cK] 35)) w':=(hg.out.block _ Bn.2.1 (fun e=>SH e.symm)).trans hS1;refine ⟨_,eV,fun _ h=>h,?_⟩;obtain ⟨t3,pF⟩:=yH hk hC t1.hp G4 Yg hx1 ho hg.out hat.out;have t4:=Lib.hid (td.trans (t1.trans t3));have Wh:=Lib.hid pF;have hgn:g≠w.heap.size:=fun e=>Bn.2.2 _ _ (l6 hk) (by rw [hC.block,e]);have x9:(fun u:World=>u.heap[w.heap.size]? = some (.cells #[.int .i64 (kd:Int),.string (bs t),.string (bs d),.slice AK ks.length cK] 35)) (w'.setCell ⟨g,o,none⟩ (.slice (some ⟨g',0,none⟩) (R.full.length+1) c')):=(Below.heap_setCell _ _ _ _ (fun e=>hgn e.symm)).trans eV;clear t3 pF ho hg hb hat d1 t1 G4 hx1 oi op nei nep c0 c1 cf
  iterate 2 (first | refine an rfl ?_ | (refine ay rfl ?_;intro K hK;go_simp;refine hK _ _ _ ?_;clear hK K))
  refine aC rfl ?_;intro K hK;go_simp;refine ⟨_,x9,fun _ h=>h,hK _ _ _ ?_⟩;clear hK K;refine aM ?_;go_wp2_with fail;go_returns;exact ⟨rfl,_,_,_,t4.out,Wh.out⟩
end
end Go.Proofs.YtddkjkockbcamaaGreatDoor
namespace Go.Proofs.YtddkjkockbcamaaGreatDoor
open Go.RowKit
theorem bV.aside {K K':Type}{B:Nat}{m:K→Option Pa}{m':K'→Option Pa}{w wr wr2:World}{k0:Nat}(t:bV B m w m' wr) (hk0:w.heap.size≤k0) (hB:B≤w.heap.size) (hfr:Fr wr B m' k0) (hg:wr.grownBy wr2 (some k0)):bV B m w m' wr2∧Fr wr2 B m' k0:=by
 refine ⟨⟨⟨fun k a ha=>Pa.kept (t.hp.holds k a ha) hg (.inr (hfr.2.2 k a ha)),t.hp.apart⟩,?_,fun b hb=>?_⟩,hfr.1,Nat.lt_of_lt_of_le hfr.2.1 hg.size,hfr.2.2⟩
 ·exact ⟨hg.os.trans t.bel.os,hg.tape.trans t.bel.tape,hg.output.trans t.bel.output,Nat.le_trans t.bel.size hg.size,fun k hk=>(hg.block k (by have:=t.bel.size;omega) (fun e=>by injection e with e;omega)).trans (t.bel.block k hk)⟩
 ·obtain ⟨h1,h2⟩:=t.fre b hb
  exact ⟨(hg.block b h2.2.1 (fun e=>by have:=hb.2.1;injection e with e;omega)).trans h1,h2.1,Nat.lt_of_lt_of_le h2.2.1 hg.size,h2.2.2⟩
theorem Aw (w:World) (k:Nat) (s:ByteArray) (pos:Nat):w.grownBy (w.iterAt k s pos) (some k) :=
 ⟨rfl,rfl,rfl,by rw [Lib.iterAt_size];exact Nat.le_refl _,fun j _ hne=>Lib.iterAt_other w k j s pos (fun e=>hne (by rw [e]))⟩
section
variable {m:Ky→Option Pa}{k:Ks}{C:Value→Value→Pa}{R:Il.Rw}{vi vp:Value}{css:List (List Value)}{w:World}{B g o:Nat}
theorem vJ (hk:k.ok) (hC:Cn g o C) (h:Hq w B (aN m k C R vi vp css)) (hB:B≤w.heap.size) (l:List UInt8) (hl:R.p.length+4*l.length≤10000000000) :
  Calls Tryz.prog 220 #[.pointer (some ⟨g,o,none⟩),.string (bs l)] w fun e w'=>e=.returned (.tuple #[])∧∃ vp',bV B (aN m k C R vi vp css) w (aN m k C (R.say (Ru.enc (Ru.aP l))) vi vp' css) w':=by
 have hstep:=Lib.hid (fun (D:List Nat) (vp':Value) (wz:World) (hz:Hq wz B (aN m k C (R.say (Ru.enc D)) vi vp' css)) (x:Nat) (hx:Ru.vr x) (Yj:B≤wz.heap.size) (hD:(Ru.enc D).length≤4*l.length) =>
  iO hk hC hz Yj x hx (by show (R.p++Ru.enc D).length≤_;rw [List.length_append];omega))
 have h0:=Lib.hid ((h.call (w':=w.alloc (.stringIter (bs l) 0)) hB (aa w _)));have hf0:=Lib.hid (Hq.new (w':=w.alloc (.stringIter (bs l) 0)) h hB (b:=w.heap.size) (Nat.le_refl _) (by simp));have We:R.say (Ru.enc [])=R:=by unfold Il.Rw.say;rw [Ru.uA,List.append_nil]
 clear h;go_enter Tryz.func220,Tryz.ntmps220;go_wp2_with fail
 go_loopw [] (fun wr=>∃ (pos:Nat) (D:List Nat) (vp':Value),Hid (bV B (aN m k C R vi vp css) w (aN m k C (R.say (Ru.enc D)) vi vp' css) wr)∧Hid (Fr wr B (aN m k C (R.say (Ru.enc D)) vi vp' css) w.heap.size)∧Hid (wr.heap[w.heap.size]? = some (.stringIter (bs l) pos))∧Hid (D++Ru.aP (l.drop pos)=Ru.aP l))
  (fun wr=>l.length-wr.iterPos w.heap.size)
 case atStart=>exact ⟨0,[],vp,by rw [We];exact h0,by rw [We];exact hf0,Lib.hid (jo _ _ _ rfl),Lib.hid (by simp)⟩
 case round =>
  obtain ⟨pos,D,vp',hT,hF,hit,hD⟩:=hrel;have hdl:=lK hD.out;have hbz:=hT.out.bel.size;have hlt:w.heap.size<wr.heap.size:=(Array.getElem?_eq_some_iff.1 hit.out).1
  by_cases hp:pos<l.length
  ·obtain ⟨x,kk,hkk,hv,hd,tB⟩:=di hp hD.out
   have jr:=bK hit.out hp hd;replace tB:=Lib.hid tB;replace hd:=Lib.hid hd;have gz:=Lib.hid (Lib.iterAt_heap wr w.heap.size (bs l) pos (pos+kk) hit.out);have hpos:Hid (wr.iterPos w.heap.size=pos):=Lib.hid (by simp only [World.iterPos,hit.out]);have Dk:x≤1114111:=by unfold Ru.vr at hv;omega
   have Rp:=(Ru.gf D).2;obtain ⟨uD,hF2⟩:=hT.out.aside (Nat.le_refl _) hB hF.out (Aw wr w.heap.size (bs l) (pos+kk));have hst:=Lib.hid (hstep.out D vp' _ uD.hp x hv (by have:=uD.bel.size;omega) (by omega));replace uD:=Lib.hid uD;replace hF2:=Lib.hid hF2;have hsn:Hid ((R.say (Ru.enc D)).say (Lib.encodeRune (x:Int))=R.say (Ru.enc (D++[x]))):=Lib.hid (by unfold Il.Rw.say;rw [Ru.nE,List.append_assoc]);have Jp:(wr.iterAt w.heap.size (bs l) (pos+kk)).heap.size=wr.heap.size:=Lib.iterAt_size _ _ _ _;obtain ⟨w2,hw2⟩:∃ w2,w2=wr.iterAt w.heap.size (bs l) (pos+kk):=⟨_,rfl⟩
   rw [← hw2] at jr gz uD hF2 hst Jp;clear hT hF hit hw2;go_wp2_with fail;refine hst.out.mono ?_;rintro e w3 ⟨rfl,vp3,uB⟩;rw [hsn.out] at uB;have S3:=uB.fre _ hF2.out;have hT4:=Lib.hid (uD.out.trans uB);have uj:=Lib.hid (S3.1.trans gz.out);have hF4:=Lib.hid S3.2;have W0:Hid (w3.iterPos w.heap.size=pos+kk):=Lib.hid (by simp only [World.iterPos,uj.out]);clear uB S3;go_wp2_with fail
   go_roundw
   case rel=>exact ⟨pos+kk,D++[x],vp3,hT4,hF4,uj,tB⟩
   case measure=>rw [hpos.out,W0.out];omega
  ·have jr:=bZ hit.out hp
   have hDD:=kW hp hD.out;subst hDD;go_wp2_with fail;go_returns;exact ⟨rfl,vp',hT.out⟩
end
theorem M7 (l:List UInt8) (a:Nat) (c:UInt8) (w:World) (hl:l.length≤1000000000000) (hle:a≤l.length) :
  Calls Tryz.prog 219 #[.string (bs l),.int .i64 (a:Int),.int .u8 (c.toNat:Int)] w fun e w'=>e=.returned (.int .i64 (Fn.run c (l.drop a):Nat))∧w=w':=by
 have hsz:=au l;go_enter Tryz.func219,Tryz.ntmps219;go_wp2_with fail
 go_loop [7] (fun u=>∃ k:Nat,a≤k∧k≤l.length∧u=.int .i64 (k:Int)∧Hid (k+Fn.run c (l.drop k)=a+Fn.run c (l.drop a))) (fun u=>l.length-(intOf u).toNat)
 case atStart=>exact ⟨a,by omega,hle,rfl,Lib.hid rfl⟩
 case round =>
  obtain ⟨k,oZ,hk,rfl,hf⟩:=hrel
  by_cases hlt:k<l.length
  ·have hx:=bC hlt w
   by_cases hc:l[k]=c
   ·have ht:=jc hc
    have hf2:Hid (k+1+Fn.run c (l.drop (k+1))=a+Fn.run c (l.drop a)):=Lib.hid (by have:=hf.out;rw [Fn.jm hlt hc] at this;omega);clear hc;go_wp2
    go_round
    case rel=>exact ⟨k+1,by omega,by omega,by go_num,hf2⟩
    case measure=>simp [intOf];omega
   ·have ht:=fJ hc
    have aL:=Lib.hid (show k=a+Fn.run c (l.drop a) from by have:=hf.out;rw [Fn.oU hlt hc] at this;omega);clear hc;go_wp2;go_returns;exact ⟨by refine kU ?_;have:=aL.out;omega,rfl⟩
  ·have aL:=Lib.hid (show k=a+Fn.run c (l.drop a) from by have:=hf.out;rw [Fn.iT hlt] at this;omega)
   go_wp2;go_returns;exact ⟨by refine kU ?_;have:=aL.out;omega,rfl⟩
theorem mD (l:List UInt8) (at_:Int) (_hs:l.length≤1000000000000) (ho:at_<0∨(0≤at_∧(l.length:Int)≤at_)∨(0≤at_∧∃ h:at_.toNat<l.length,((l[at_.toNat].toNat:Int)==42)=false∧((l[at_.toNat].toNat:Int)==95)=false)) (w:World) :
  Calls Tryz.prog 238 #[.string (bs l),.int .i64 at_] w fun e w'=>e=.returned (.bool false)∧Below w.heap.size w w':=by
 have hsz:=au l;rcases ho with h | ⟨h0,h⟩ | ⟨h0,hl,h1,h2⟩
 ·have d1:decide (at_<0)=true:=decide_eq_true h
  go_enter Tryz.func238,Tryz.ntmps238;go_wp2_with fail;go_ret;exact ⟨rfl,Below.refl _ _⟩
 ·have d1:decide (at_<0)=false:=decide_eq_false (by omega)
  have d2:decide (((l.length:Nat):Int)≤at_)=true:=decide_eq_true h;go_enter Tryz.func238,Tryz.ntmps238;go_wp2_with fail;go_ret;exact ⟨rfl,Below.refl _ _⟩
 ·have d1:decide (at_<0)=false:=decide_eq_false (by omega)
  have d2:decide (((l.length:Nat):Int)≤at_)=false:=decide_eq_false (by omega);have hix:=fE (i:=at_.toNat) (v:=at_) (S:=l) hl (by omega);have e1:((l[at_.toNat].toNat:Int) != 42)=true:=by simp only [bne,h1];rfl
  have e2:((l[at_.toNat].toNat:Int) != 95)=true:=by simp only [bne,h2];rfl
  generalize l[at_.toNat]=ch at *;go_enter Tryz.func238,Tryz.ntmps238;go_wp2_with fail;go_ret;exact ⟨rfl,Below.refl _ _⟩
theorem pQ (l:List UInt8) (k:Nat) (hs:l.length≤1000000000000) (hk:k<l.length) (h1:((l[k].toNat:Int)==42)=true∨(((l[k].toNat:Int)==42)=false∧((l[k].toNat:Int)==95)=true)) (t:Bool)
  (ht:(k=0∧t=true)∨(0<k∧∃ h:k-1<l.length,((l[k-1].toNat:Int)==(l[k].toNat:Int))=!t)) (w:World) :
  Calls Tryz.prog 238 #[.string (bs l),.int .i64 (k:Int)] w fun e w'=>e=.returned (.bool t)∧Below w.heap.size w w':=by
 have hsz:=au l;have hbz:=fun nq=>below_drewN (Below.refl w.heap.size w) nq;replace hbz:=Lib.hid hbz;have d1:decide ((k:Int)<0)=false:=decide_eq_false (by omega);have d2:decide (((l.length:Nat):Int)≤(k:Int))=false:=decide_eq_false (by omega);have hix:=bC hk;have e1:((l[k].toNat:Int) != 42)=!((l[k].toNat:Int)==42):=rfl;have e2:((l[k].toNat:Int) != 95)=!((l[k].toNat:Int)==95):=rfl;rcases ht with ⟨h0,rfl⟩ | ⟨h0,hp,ht⟩
 ·have d3:((k:Int)==0)=true:=by simpa using h0
  generalize l[k]=ch at *;clear h0;rcases h1 with h1 | ⟨h1,h1'⟩
  all_goals
   go_enter Tryz.func238,Tryz.ntmps238;go_wp2_with fail;go_quiet (fail);go_wp2_with fail;go_ret;exact ⟨rfl,hbz.out nq⟩
 ·have d3:((k:Int)==0)=false:=by
   rw [beq_eq_false_iff_ne];omega
  have UY:=fE (i:=k-1) (v:=(k:Int)-1) (S:=l) hp (by omega);have e3:((l[k-1].toNat:Int) != (l[k].toNat:Int))=t:=by simp only [bne,ht,Bool.not_not]
  clear ht;generalize l[k]=ch at *;generalize l[k-1]=cp at *;rcases h1 with h1 | ⟨h1,h1'⟩
  all_goals
   go_enter Tryz.func238,Tryz.ntmps238;go_wp2_with fail;go_quiet (fail);go_wp2_with fail;go_ret;exact ⟨rfl,hbz.out nq⟩
theorem tK (l:List UInt8) (at_:Int) (hs:l.length≤1000000000000) (w:World) :
  Calls Tryz.prog 238 #[.string (bs l),.int .i64 at_] w fun e w'=>e=.returned (.bool (Em.starts l at_))∧Below w.heap.size w w':=by
 by_cases h0:at_<0
 ·rw [Em.gH (.inl h0)]
  exact mD l at_ hs (.inl h0) w
 ·by_cases h1:(l.length:Int)≤at_
  ·rw [Em.gH (.inr (.inl h1))]
   exact mD l at_ hs (.inr (.inl ⟨by omega,h1⟩)) w
  ·obtain ⟨k,rfl⟩:∃ k:Nat,at_=(k:Int):=⟨at_.toNat,by omega⟩
   have hk:k<l.length:=by omega
   by_cases h2:l[k]=42∨l[k]=95
   ·have B0:((l[k].toNat:Int)==42)=true∨(((l[k].toNat:Int)==42)=false∧((l[k].toNat:Int)==95)=true):=by
     rcases h2 with h2 | h2
     ·rw [h2];exact .inl rfl
     ·rw [h2];exact .inr ⟨rfl,rfl⟩
    rcases Nat.eq_zero_or_pos k with hz | hz
    ·rw [Em.vI hk h2 (.inl hz)]
     exact pQ l k hs hk B0 true (.inl ⟨hz,rfl⟩) w
    ·by_cases h3:l[k-1]=l[k]
     ·rw [Em.gH (l:=l) (at_:=(k:Int)) (.inr (.inr (.inr ⟨by omega,hk,h3⟩)))]
      exact pQ l k hs hk B0 false (.inr ⟨hz,by omega,jc h3⟩) w
     ·rw [Em.vI hk h2 (.inr ⟨by omega,h3⟩)]
      exact pQ l k hs hk B0 true (.inr ⟨hz,by omega,fJ h3⟩) w
   ·have hn:l[k]≠42∧l[k]≠95:=⟨fun h=>h2 (.inl h),fun h=>h2 (.inr h)⟩
    rw [Em.gH (l:=l) (at_:=(k:Int)) (.inr (.inr (.inl ⟨hk,hn⟩)))];exact mD l (k:Int) hs (.inr (.inr ⟨by omega,hk,eo (n:=42) (by omega) hn.1,eo (n:=95) (by omega) hn.2⟩)) w
theorem wD (a b:Nat) (w:World) :
  Calls Tryz.prog 240 #[.int .i32 (a:Int),.int .i32 (b:Int)] w fun e w'=>e=.returned (.bool (Em.iK b a))∧w=w':=by
 unfold Em.iK;obtain ⟨BA,hBA⟩:∃ x,dB (a:Int)=x:=⟨_,rfl⟩
 obtain ⟨BB,Qh⟩:∃ x,dB (b:Int)=x:=⟨_,rfl⟩
 obtain ⟨PA,Tr⟩:∃ x,gb (a:Int)=x:=⟨_,rfl⟩
 obtain ⟨PB,W7⟩:∃ x,gb (b:Int)=x:=⟨_,rfl⟩
 have q1:=fun w=>eO (a:Int) w;have q2:=fun w=>eO (b:Int) w;have q3:=fun w=>kB (a:Int) w;have q4:=fun w=>kB (b:Int) w;rw [hBA] at q1 ⊢;rw [Qh] at q2 ⊢;rw [Tr] at q3 ⊢;rw [W7] at q4 ⊢;clear hBA Qh Tr W7;go_enter Tryz.func240,Tryz.ntmps240;go_wp2_with fail;refine (q1 _).mono ?_;rintro e w1 ⟨rfl,rfl⟩;cases BA with
 | true =>
  go_wp2_with fail;go_ret;exact ⟨rfl,rfl⟩
 | false =>
  go_wp2_with fail;refine (q3 _).mono ?_;rintro e w1 ⟨rfl,rfl⟩;cases PA with
  | false =>
   go_wp2_with fail;go_ret;exact ⟨rfl,rfl⟩
  | true =>
   go_wp2_with fail;refine (q2 _).mono ?_;rintro e w1 ⟨rfl,rfl⟩;cases BB with
   | true =>
    go_wp2_with fail;go_ret;exact ⟨rfl,rfl⟩
   | false =>
    go_wp2_with fail;refine (q4 _).mono ?_;rintro e w1 ⟨rfl,rfl⟩;go_wp2_with fail;go_ret;exact ⟨rfl,rfl⟩
end Go.Proofs.YtddkjkockbcamaaGreatDoor
section
namespace Go.Proofs.YtddkjkockbcamaaGreatDoor
open Go.RowKit
theorem Q2:EI Tryz.prog 219 240 4 24:=EI.mk' Tryz.underlying219 (z:=.agg #[.int .u8 0,.int .i64 0,.bool false,.bool false]) (by kernel_rfl) rfl (by omega)
theorem KA (n:Nat):(madeCells #[.int .u8 0,.int .i64 0,.bool false,.bool false] (n*4)).toList=aF (List.replicate n Em.none_):=by
 apply List.ext_getElem?;intro j
 by_cases hj:j<n*4
 ·have hk:j / 4<(List.replicate n Em.none_).length:=by rw [List.length_replicate];omega
  have h1:=gW (f:=jT) (m:=4) (fun _=>rfl) (List.replicate n Em.none_) (j / 4) (j%4) hk (by omega);rw [show j / 4*4+j%4=j by omega] at h1;rw [show aF (List.replicate n Em.none_)=(List.replicate n Em.none_).flatMap jT from rfl,h1,List.getElem_replicate];simp only [madeCells,Array.toList_map,Array.toList_range,List.getElem?_map,List.getElem?_range hj,Option.map_some];have h4:j%4=0∨j%4=1∨j%4=2∨j%4=3:=by omega
  rcases h4 with h | h | h | h<;>(simp only [List.size_toArray,List.length_cons,List.length_nil,h];rfl)
 ·rw [List.getElem?_eq_none (by simp [madeCells];omega),List.getElem?_eq_none (by rw [F1,List.length_replicate];omega)]
theorem Fi (X:List Em.R) (r:Em.R):∀ (k:Nat),k<X.length→((((aF X).set (k*4) (.int .u8 (r.ch.toNat:Int))).set (k*4+1) (.int .i64 r.n)).set (k*4+2) (.bool r.o)).set (k*4+3) (.bool r.c)=aF (X.set k r):=by
 induction X with
 | nil=>intro k hk;simp at hk
 | cons x X ih =>
  intro k hk;cases k with
  | zero=>rfl
  | succ k =>
   have:=ih k (by simpa using hk);rw [List.set_cons_succ,show aF (x::X.set k r)=jT x++aF (X.set k r) from rfl,← this,show aF (x::X)=jT x++aF X from rfl];have h4:(jT x).length=4:=rfl;rw [List.set_append_right _ _ (by rw [h4];omega),List.set_append_right _ _ (by rw [h4];omega),List.set_append_right _ _ (by rw [h4];omega),List.set_append_right _ _ (by rw [h4];omega),h4,
    show (k+1)*4-4=k*4 by omega,show (k+1)*4+1-4=k*4+1 by omega,show (k+1)*4+2-4=k*4+2 by omega,show (k+1)*4+3-4=k*4+3 by omega]
def tZ (l:List Em.R) (k:Nat):List Em.R:=(Em.hold l).take k++List.replicate (l.length-k) Em.none_
theorem wI (l:List Em.R):(Em.hold l).length=l.length:=by simp [Em.hold]
theorem P1 {l:List Em.R}{k:Nat}(h:k≤l.length):(tZ l k).length=l.length:=by simp [tZ,wI];omega
theorem I5 (l:List Em.R):tZ l 0=List.replicate l.length Em.none_:=by simp [tZ]
theorem MU (l:List Em.R):tZ l l.length=Em.hold l:=by
 unfold tZ;rw [List.take_of_length_le (by rw [wI];exact Nat.le_refl _),Nat.sub_self];simp
theorem Og {l:List Em.R}{k:Nat}(h:k<l.length):(tZ l k).set k ⟨l[k].ch,Em.held l[k].n,l[k].o,l[k].c⟩=tZ l (k+1):=by
 unfold tZ;have hh:k<(Em.hold l).length:=by rw [wI];exact h
 obtain ⟨m,hm⟩:∃ m,l.length-k=m+1:=⟨l.length-k-1,by omega⟩
 have hl:((Em.hold l).take k).length=k:=by rw [List.length_take];omega
 rw [List.set_append_right _ _ (by omega),hl,Nat.sub_self,hm,List.replicate_succ,List.set_cons_zero,show l.length-(k+1)=m by omega,List.take_succ_eq_append_getElem hh,List.append_assoc];simp [Em.hold]
theorem MF {w:World}{B g n c:Nat}{X:List Em.R}{E:TypeId}(h:w.ownsRow B E 4 (.slice (some ⟨g,0,none⟩) n c) n (aF X)) (r:Em.R) {k:Nat}(hk:k<X.length) :
  ((((w.setCell ⟨g,k*4,none⟩ (.int .u8 (r.ch.toNat:Int))).setCell ⟨g,k*4+1,none⟩ (.int .i64 r.n)).setCell ⟨g,k*4+2,none⟩ (.bool r.o)).setCell ⟨g,k*4+3,none⟩ (.bool r.c)).ownsRow B E 4 (.slice (some ⟨g,0,none⟩) n c) n (aF (X.set k r)):=by
 have:=((((h.stored (k*4) (.int .u8 (r.ch.toNat:Int))).1.stored (k*4+1) (.int .i64 r.n)).1.stored (k*4+2) (.bool r.o)).1.stored (k*4+3) (.bool r.c)).1;rwa [Fi X r k hk] at this
theorem kG {w:World}{B g n c:Nat}{X:List Em.R}{E:TypeId}(h:w.ownsRow B E 4 (.slice (some ⟨g,0,none⟩) n c) n (aF X)) {k:Nat}(hk:k<X.length) :
  w.cell? ⟨g,k*4,none⟩=some (.int .u8 (X[k].ch.toNat:Int))∧w.cell? ⟨g,k*4+1,none⟩=some (.int .i64 X[k].n)∧w.cell? ⟨g,k*4+2,none⟩=some (.bool X[k].o)∧w.cell? ⟨g,k*4+3,none⟩=some (.bool X[k].c):=by
 have hat:=fun i (hi:i<4)=>gW (f:=jT) (m:=4) (fun _=>rfl) X k i hk hi;have hc:=fun j u hu=>h.cells (g:=g) rfl j u hu;have ha:∀ j,(⟨g,0,none⟩:Addr).add j=⟨g,j,none⟩:=fun j=>by unfold Addr.add;split<;>simp_all
 simp only [ha] at hc;exact ⟨hc _ _ ((hat 0 (by omega)).trans rfl),hc _ _ ((hat 1 (by omega)).trans rfl),hc _ _ ((hat 2 (by omega)).trans rfl),hc _ _ ((hat 3 (by omega)).trans rfl)⟩
theorem FD {B:Nat}{a w:World}{g j:Nat}(h:Below B a w) (hg:B≤g) (p q r s:Value):Below B a ((((w.setCell ⟨g,j,none⟩ p).setCell ⟨g,j+1,none⟩ q).setCell ⟨g,j+2,none⟩ r).setCell ⟨g,j+3,none⟩ s) :=
 (((h.setCell (p:=⟨g,j,none⟩) hg _).setCell (p:=⟨g,j+1,none⟩) hg _).setCell (p:=⟨g,j+2,none⟩) hg _).setCell (p:=⟨g,j+3,none⟩) hg _
theorem fB (l:List Em.R) (A:Option Addr) (c:Nat) (w:World) (h:Row w w.heap.size 4 A l.length (aF l)) (hl:l.length≤4000000) :
  Calls Tryz.prog 226 #[.slice A l.length c] w fun e w'=>(∃ v,e=.returned v∧w'.ownsRow w.heap.size 240 4 v l.length (aF (Em.hold l)))∧Below w.heap.size w w':=by
 have hR:=Lib.hid h;clear h;have hmk:=fun w=>run_mk Q2 (z:=.agg #[.int .u8 0,.int .i64 0,.bool false,.bool false]) (by kernel_rfl) l.length (by omega) (by omega) w;have HG:=Lib.hid (cW w w.heap.size 4 l.length 240 #[.int .u8 0,.int .i64 0,.bool false,.bool false] (Nat.le_refl _) (by omega));replace HG:=Lib.hid (by have:=HG.out;rwa [KA,← I5] at this);simp only [Value.cells] at hmk;generalize madeCells _ (l.length*4)=C at *;have hb0:=Lib.hid (aa w (.cells C 240));go_enter Tryz.func226,Tryz.ntmps226;go_wp2_with fail
 go_loopw [11] (fun i wr=>∃ k:Nat,k≤l.length∧i=.int .i64 k∧Hid (wr.ownsRow w.heap.size 240 4 (.slice (some ⟨w.heap.size,0,none⟩) l.length l.length) l.length (aF (tZ l k)))∧Below w.heap.size w wr) (fun i _=>l.length-(intOf i).toNat)
 case atStart=>exact ⟨0,Nat.zero_le _,rfl,HG,hb0.out⟩
 case round =>
  obtain ⟨k,hk,rfl,hown,hb⟩:=hrel;clear HG hb0 hmk;have hz:=hb.size
  by_cases hkl:k<l.length
  ·obtain ⟨b,o,rfl,jB,hc⟩:=P8 hR.out (by omega)
   obtain ⟨c0,c1,c2,c3⟩:=hc k hkl;have d0:=(hb.cell (p:=⟨b,o+k*4,none⟩) jB).trans c0;have d1:=(hb.cell (p:=⟨b,o+k*4+1,none⟩) jB).trans c1;have d2:=(hb.cell (p:=⟨b,o+k*4+2,none⟩) jB).trans c2;have d3:=(hb.cell (p:=⟨b,o+k*4+3,none⟩) jB).trans c3;clear hc c0 c1 c2 c3;obtain ⟨X,hX,hXs,XP⟩:∃ X:List Em.R,tZ l k=X∧X.set k ⟨l[k].ch,Em.held l[k].n,l[k].o,l[k].c⟩=tZ l (k+1)∧k<X.length:=⟨_,rfl,Og hkl,by rw [P1 (by omega)];exact hkl⟩
   rw [hX] at hown;clear hX;replace hXs:=Lib.hid hXs;have hlt:=hown.out.lt _ rfl;go_upto_region 5 with fail
   generalize hw2:World.alloc wr _=w2;have hb2:Below wr.heap.size wr w2:=by rw [← hw2];exact aa _ _
   have hloc:w2.heap[wr.heap.size]? = some (.cells #[.int .u8 (l[k].ch.toNat:Int),.int .i64 l[k].n,.bool l[k].o,.bool l[k].c] 240 (0,0)):=by rw [← hw2];exact heap_alloc_new _ _
   clear hw2;have hown2:=bQ hown.out hb2;have hB2:=hb.trans (hb2.mono hz);obtain ⟨y0,y1,y2,y3⟩:=four hloc;have hfz:=aW hloc;obtain ⟨kk,hkk⟩:∃ kk:Int,kk=(if l[k].n<0 then 0 else l[k].n):=⟨_,rfl⟩
   have oZ:(if l[k].n<0 then 0 else l[k].n)=kk:=hkk.symm;have hk2:max l[k].n 0=kk:=by rw [hkk];split<;>omega
   have hk3:(if (100:Int)<kk then (100:Int) else kk)=((Em.held l[k].n:Nat):Int):=by unfold Em.held;rw [hkk];split<;>split<;>omega
   have hk4:min kk 100=((Em.held l[k].n:Nat):Int):=by unfold Em.held;rw [hkk];split<;>omega
   have hset:=fun (v:Value)=>heap_setCell_same w2 wr.heap.size 1 _ _ v hloc;replace hset:=Lib.hid hset;replace hloc:=Lib.hid hloc;replace hown2:=Lib.hid hown2;replace hB2:=Lib.hid hB2;clear hkk d0 d1 d2 d3;go_upto_region 6 with fail
   generalize hw3:World.setCell w2 _ _=w3;have tQ:w3.heap[wr.heap.size]? = some (.cells #[.int .u8 (l[k].ch.toNat:Int),.int .i64 (Em.held l[k].n:Nat),.bool l[k].o,.bool l[k].c] 240 (0,0)):=by rw [← hw3];exact hset.out _
   have fG:=Lib.hid (show w3.ownsRow w.heap.size 240 4 (.slice (some ⟨w.heap.size,0,none⟩) l.length l.length) l.length (aF X) from by
    rw [← hw3];exact World.ownsRow.kept hown2.out (ax w2 ⟨wr.heap.size,1,none⟩ _) (.inr fun e=>by
     have e2:w.heap.size=wr.heap.size:=Option.some.inj e;omega))
   have jy:Below w.heap.size w w3:=by rw [← hw3];exact hB2.out.setCell (p:=⟨wr.heap.size,1,none⟩) hz _
   clear hw3 hset hown2 hB2 y0 y1 y2 y3 hfz hloc hown hb hb2;obtain ⟨y0,y1,y2,y3⟩:=four tQ;obtain ⟨x0,x1,x2,x3⟩:=kG fG.out XP;have hfx:=fun j=>fG.out.frozenAt j;have XG:=Lib.hid (MF fG.out ⟨l[k].ch,Em.held l[k].n,l[k].o,l[k].c⟩ XP);have Xf:=Lib.hid (FD (j:=k*4) jy (Nat.le_refl w.heap.size) (.int .u8 (l[k].ch.toNat:Int)) (.int .i64 (Em.held l[k].n:Nat)) (.bool l[k].o) (.bool l[k].c));clear tQ fG jy;go_wp2_with fail
   go_roundw
   case rel=>exact ⟨k+1,hkl,by go_num,Lib.hid (by rw [← hXs.out];exact XG.out),Xf.out⟩
   case measure=>simp [intOf];omega
  ·have AM:k=l.length:=by omega
   subst AM;rw [MU] at hown;go_wp2_with fail;go_ret;exact ⟨⟨_,rfl,hown.out⟩,hb⟩
end Go.Proofs.YtddkjkockbcamaaGreatDoor
end
section
namespace Go.Proofs.YtddkjkockbcamaaGreatDoor
open Go.RowKit
attribute [local go_sem] aD av aq
theorem eM {w:World}{B g n c:Nat}{E:TypeId}{L:List Nat}(h:w.ownsRow B E 1 (.slice (some ⟨g,0,none⟩) n c) n (aB L)) {k:Nat}(hk:k<L.length):w.cell? ⟨g,k,none⟩=some (.int .i64 (L[k]:Int)):=by
 have:=h.cells (g:=g) rfl k _ (Lr hk);rwa [show (⟨g,0,none⟩:Addr).add k=⟨g,k,none⟩ from by unfold Addr.add;split<;>simp_all] at this
def HM (O:List Nat) (l:List Em.R) (c:Nat):Option Nat→Prop
 | some i=>∃ hi:i<O.length,Em.jE (Em.get l O[i]) (Em.get l c)=true∧∀ k (hk:k<O.length),i<k→Em.jE (Em.get l O[k]) (Em.get l c)=false
 | none=>∀ j∈O,Em.jE (Em.get l j) (Em.get l c)=false
def Ow:Option Nat→Value
 | some i=>.tuple #[.int .i64 (i:Int),.bool true]
 | none=>.tuple #[.int .i64 0,.bool false]
def VS (O:List Nat) (l:List Em.R) (c:Nat) (v:Value):Prop:=∃ (z:Int) (m:Nat),v=.int .i64 z∧z=(m:Int)-1∧m≤O.length∧Hid (∀ k (hk:k<O.length),m≤k→Em.jE (Em.get l O[k]) (Em.get l c)=false)
theorem BG {B b:Nat}{x:Option Part}{v:Vs}{l:List Em.R}{L O N:List Nat}{P:List (Nat×Nat×Nat)}{w:World}(hM:PM B b x v l L O N P w) (c:Nat) (hc:c<l.length) (hl:l.length≤4000000) (hH:Em.Held l)
  (hO:O.length≤4000000) (YF:∀ j∈O,j<l.length) (hs:O.Pairwise (· < ·)) (Yz:N.length=1536) (hN:∀ j∈O,j<Em.lf N (Em.iJ (Em.get l c))→Em.jE (Em.get l j) (Em.get l c)=false) :
  Calls Tryz.prog 243 #[.pointer (some ⟨b,0,none⟩),.int .i64 (c:Int)] w fun e w'=>∃ r,e=.returned (Ow r)∧HM O l c r∧Below B w w'∧PM B b x v l L O (if r=none then N.set (Em.iJ (Em.get l c)) c else N) P w':=by
 obtain ⟨hB,oa,hfz,m0,m1,m2,m3,m4⟩:=hM.blk;obtain ⟨gr,cr,Gl,hcr,ug,hgr⟩:=gh hM.FB (by omega);obtain ⟨gn,cn,Z9,pS,hBn,hgn⟩:=gh hM.Uo (by omega);obtain ⟨A,co,WE,Xy⟩:=ak hM.xS;have oW:Em.get l c=l[c]:=Em.get_at hc;have q1:=fun w=>KZ l[c] (hH _ (List.getElem_mem hc)) w;obtain ⟨s,VB⟩:∃ s,s=Em.iJ (Em.get l c):=⟨_,rfl⟩
 have hs6:s<1536:=by rw [VB];exact Em.BW _
 rw [← oW,← VB] at q1;have hM0:=Lib.hid hM;have QN:=Lib.hid Z9;have RI:=Lib.hid WE;have SI:=Lib.hid Gl;have DB:=hM.FB;rw [Gl] at DB;obtain ⟨x0,x1,x2,x3⟩:=kG DB hc;rw [Gl] at m0;rw [Z9] at m3;rw [WE] at m2;unfold uP at q1;rw [oW] at q1;have hbl:=Lib.hid (aa w (.cells #[.int .u8 (l[c].ch.toNat:Int),.int .i64 l[c].n,.bool l[c].o,.bool l[c].c] 240));have hloc:=Lib.hid (heap_alloc_new w (.cells #[.int .u8 (l[c].ch.toNat:Int),.int .i64 l[c].n,.bool l[c].o,.bool l[c].c] 240));have Wr:=Lib.hid hH;replace hs:=Lib.hid hs;replace hN:=Lib.hid hN;replace YF:=Lib.hid YF;replace VB:=Lib.hid VB;replace oW:=Lib.hid oW;clear DB hM m1 m4 Gl Z9 WE hH;go_enter Tryz.func243,Tryz.ntmps243;go_wp2_with fail;refine (q1 _).mono ?_;rintro e w1 ⟨rfl,hb1⟩;have IG:=(keep hloc.out hb1).1;have hw1:=ag hbl.out hb1;have PI:=hM0.out.ext hw1;clear hM0 hbl hloc hb1 q1 m0 m2 m3 x0 x1 x2 x3 hfz;have hz1:=hw1.size;obtain ⟨_,XR,_,m0,m1,m2,m3,m4⟩:=PI.blk;rw [SI.out] at m0;rw [QN.out] at m3;rw [RI.out] at m2;replace hw1:=Lib.hid hw1;replace PI:=Lib.hid PI;replace IG:=Lib.hid IG;clear m1 m4;go_wp2_with fail
 go_loopw [8] (fun u wr=>VS O l c u∧Hid (Below w1.heap.size w1 wr)) (fun u _=>(intOf u+1).toNat)
 case atStart=>exact ⟨⟨(O.length:Int)-1,O.length,rfl,rfl,Nat.le_refl _,Lib.hid fun k hk h=>by omega⟩,Lib.hid (Below.refl _ _)⟩
 case round =>
  obtain ⟨⟨z,m,rfl,hz,hm,hno⟩,hq⟩:=hrel;clear m0 m2 m3;have xJ:=PI.out.ext hq.out;obtain ⟨_,aac,_,m0,m1,m2,m3,m4⟩:=xJ.blk;rw [SI.out] at m0;rw [QN.out] at m3;rw [RI.out] at m2;have hnn:=xJ.Uo;rw [QN.out] at hnn;have n0:=eM hnn (k:=s) (by omega);have nf:=fun n=>(bQ hnn (below_drewN (Below.refl wr.heap.size wr) n)).frozenAt s;have QG:Em.lf N s=N[s]'(by omega):=Em.pU (by omega);have UZ:=Lib.hid (fun n=>(xJ.ext (below_drewN (Below.refl wr.heap.size wr) n)).Zo QN.out s c);have hwr:=ag hw1.out (show Below w1.heap.size w1 wr from hq.out);have Uq:=Lib.hid (fun n=>(below_drewN (hwr.mono (Nat.le_trans hB (Nat.le_of_lt oa))) n).setCell (p:=⟨gn,s,none⟩) hBn (.int .i64 (c:Int)));have Zw:=Lib.hid (hwr.mono (Nat.le_trans hB (Nat.le_of_lt oa)));have adj:gn<wr.heap.size:=Nat.lt_of_lt_of_le hgn hwr.size;replace xJ:=Lib.hid xJ;clear hnn hwr m1 m4;rcases Nat.eq_zero_or_pos m with rfl | hmp
  ·obtain rfl:z = -1:=by omega
   have hall:Hid (HM O l c none):=Lib.hid fun j hj=>by
    obtain ⟨k,hk,rfl⟩:=List.getElem_of_mem hj;exact hno.out k hk (Nat.zero_le _)
   clear hno hz hN m2 QG;go_wp2_with fail;go_quiet (fail);go_wp2_with fail;go_ret2;exact ⟨none,rfl,hall.out,Uq.out nq,by rw [if_pos rfl,← VB.out];exact UZ.out nq⟩
  ·obtain ⟨j,rfl⟩:∃ j,m=j+1:=⟨m-1,by omega⟩
   obtain rfl:z=(j:Int):=by omega
   have WM:j<O.length:=by omega
   have Ci:=xJ.out.xS;rw [RI.out] at Ci;obtain ⟨go,rfl⟩:∃ g,A=some ⟨g,0,none⟩:=by
    rcases Ci.2 with ⟨hv,h0⟩ | ⟨g,cap,cur,hv,_⟩
    ·omega
    ·injection hv with h1 _ _;exact ⟨g,h1⟩
   have o0:=eM Ci WM;clear Ci;obtain ⟨oj,zj⟩:∃ o,o=O[j]:=⟨_,rfl⟩
   rw [← zj] at o0;have RM:oj<l.length:=by rw [zj];exact YF.out _ (List.getElem_mem WM)
   by_cases hge:N[s]≤oj
   ·have d0:decide ((N[s]:Int)≤(oj:Int))=true:=decide_eq_true (by omega)
    have d1:decide (N[s]≤oj)=true:=decide_eq_true hge;have DB:=xJ.out.FB;rw [SI.out] at DB;obtain ⟨y0,y1,y2,y3⟩:=kG DB RM;clear DB;obtain ⟨z0,z1,z2,z3⟩:=four (keep IG.out hq.out).1;have hgo:Em.get l oj=l[oj]:=Em.get_at RM;have q:=fun w=>MA l[oj] l[c] (Wr.out _ (List.getElem_mem RM)) (Wr.out _ (List.getElem_mem hc)) w;obtain ⟨F,hF⟩:∃ F,F=Em.jE l[oj] l[c]:=⟨_,rfl⟩
    have hFO:Hid (F=Em.jE (Em.get l O[j]) (Em.get l c)):=Lib.hid (by rw [← zj,hF,hgo,oW.out]);rw [← hF] at q;unfold uP at q;clear hF hgo hz hN QG hge;replace zj:=Lib.hid zj;generalize N[s]=ns at *;have Cg:=(keep IG.out hq.out).1;have Qn:Hid (∀ n u,Below (wr.drewN n).heap.size (wr.drewN n) u→(u.cell? ⟨b,0,none⟩=some (.slice (some ⟨gr,0,none⟩) l.length cr)∧u.cell? ⟨b,2,none⟩=some (.slice (some ⟨go,0,none⟩) O.length co)∧u.cell? ⟨go,j,none⟩=some (.int .i64 (oj:Int))) ∧
      (u.cell? ⟨gr,oj*4,none⟩=some (.int .u8 (l[oj].ch.toNat:Int))∧u.cell? ⟨gr,oj*4+1,none⟩=some (.int .i64 l[oj].n)∧u.cell? ⟨gr,oj*4+2,none⟩=some (.bool l[oj].o)∧u.cell? ⟨gr,oj*4+3,none⟩=some (.bool l[oj].c)) ∧
      (u.cell? ⟨w.heap.size,0,none⟩=some (.int .u8 (l[c].ch.toNat:Int))∧u.cell? ⟨w.heap.size,1,none⟩=some (.int .i64 l[c].n)∧u.cell? ⟨w.heap.size,2,none⟩=some (.bool l[c].o)∧u.cell? ⟨w.heap.size,3,none⟩=some (.bool l[c].c))):=Lib.hid fun n u hu=>by
     have hu2:Below wr.heap.size wr u:=ag (below_drewN (Below.refl wr.heap.size wr) n) hu;have Zz:=xJ.out.ext hu2;obtain ⟨_,_,_,m0,_,m2,_,_⟩:=Zz.blk;have DB:=Zz.FB;have Ci:=Zz.xS;rw [SI.out] at m0 DB;rw [RI.out] at m2 Ci;exact ⟨⟨m0,m2,by rw [zj.out];exact eM Ci WM⟩,kG DB RM,four (keep Cg hu2).1⟩
    have Rj:=Lib.hid (fun (n:Nat)=>below_drewN Zw.out n);have RQ:=Lib.hid (fun (n:Nat)=>xJ.out.ext (below_drewN (Below.refl wr.heap.size wr) n));clear Cg UZ Uq;go_wp2_with fail;go_quiet (fail);go_wp2_with fail;clear m0 m2 m3 n0 o0 y0 y1 y2 y3 z0 z1 z2 z3;replace Qn:=Lib.hid (Qn.out nq);replace Rj:=Lib.hid (Rj.out nq);replace RQ:=Lib.hid (RQ.out nq);have YE:b<(wr.drewN nq).heap.size:=aac;have ZC:w1.heap.size≤(wr.drewN nq).heap.size:=hq.out.size;have hqn:=Lib.hid (below_drewN hq.out nq);generalize wr.drewN nq=wd at *;have hS:Ext wd wd.drew:=bq wd;obtain ⟨⟨m0,m2,o0⟩,⟨y0,y1,y2,y3⟩,⟨z0,z1,z2,z3⟩⟩:=Qn.out wd.drew hS;refine eT ((true,0)::(true,1)::(true,2)::(true,3)::(true,4)::(true,5)::(true,6)::(true,7)::(true,8)::(true,9)::(true,10)::(true,11)::(true,12)::(true,13)::(false,14)::[]) (Ext wd) hS (by kernel_rfl) (by kernel_rfl) (by kernel_rfl) (fun _ _ d _ _ h=>by cases d<;>exact h) ?_
    iterate 14 (first | refine cU rfl ?_ | (refine aV rfl ?_;intro K hK;go_simp;first | (refine hK _ _ _ ?_;clear hK K) | (refine ⟨fun w' hw'=>by obtain ⟨⟨m0,m2,o0⟩,⟨y0,y1,y2,y3⟩,⟨z0,z1,z2,z3⟩⟩:=Qn.out w' hw';go_simp,hK _ _ _ ?_⟩;clear hK K)))
    refine aV rfl ?_;intro K hK;go_simp;refine (q _).mono ?_;rintro e w4 ⟨rfl,hb4⟩;replace hb4:=ag (bq wd) hb4;refine Bo hb4 (hK _ _ _ ?_);clear hK K q;refine kK ?_;have tr:=Lib.hid (Rj.out.trans (hb4.mono (Nat.le_trans (Nat.le_trans hB (Nat.le_of_lt oa)) (Nat.le_trans hz1 ZC))));have NJ:=Lib.hid (RQ.out.ext hb4);have hq4:=Lib.hid (show Below w1.heap.size w1 w4 from hqn.out.trans (hb4.mono ZC));clear RQ Rj hb4 m0 m2 o0 y0 y1 y2 y3 z0 z1 z2 z3 Qn hS;cases F with
    | true =>
     have hsome:Hid (HM O l c (some j)):=Lib.hid ⟨WM,hFO.out.symm,fun k hk h=>hno.out k hk h⟩;go_wp2_with fail;go_ret2;exact ⟨some j,rfl,hsome.out,tr.out,NJ.out⟩
    | false =>
     have Z6:Hid (∀ k (hk:k<O.length),j≤k→Em.jE (Em.get l O[k]) (Em.get l c)=false):=Lib.hid fun k hk h=>by
      rcases Nat.lt_or_eq_of_le h with h1 | h1
      ·exact hno.out k hk h1
      ·subst h1;exact hFO.out.symm
     go_wp2_with fail
     go_roundw
     case rel=>exact ⟨⟨(j:Int)-1,j,rfl,rfl,by omega,Z6⟩,hq4⟩
     case measure=>simp [intOf]<;>omega
   ·have d0:decide ((N[s]:Int)≤(oj:Int))=false:=decide_eq_false (by omega)
    have d1:decide (N[s]≤oj)=false:=decide_eq_false hge;have hall:Hid (HM O l c none):=Lib.hid fun i hi=>by
     obtain ⟨k,hk,rfl⟩:=List.getElem_of_mem hi;rcases Nat.lt_or_ge j k with h1 | h1
     ·exact hno.out k hk h1
     ·refine hN.out _ hi ?_
      rw [← VB.out,QG];have:O[k]≤O[j]:=by
       rcases Nat.lt_or_eq_of_le h1 with h2 | h2
       ·exact Nat.le_of_lt (List.pairwise_iff_getElem.1 hs.out k j hk WM h2)
       ·subst h2;exact Nat.le_refl _
      omega
    clear hno hz hN QG zj hge;generalize N[s]=ns at *;go_wp2_with fail;go_quiet (fail);go_wp2_with fail;go_ret2;exact ⟨none,rfl,hall.out,Uq.out nq,by rw [if_pos rfl,← VB.out];exact UZ.out nq⟩
end Go.Proofs.YtddkjkockbcamaaGreatDoor
end
section
namespace Go.Proofs.YtddkjkockbcamaaGreatDoor
open Go.RowKit
theorem Q8:EI Tryz.prog 236 241 3 24:=EI.mk' Tryz.underlying236 (z:=.agg #[.int .i64 0,.int .i64 0,.int .i64 0]) (by kernel_rfl) rfl (by omega)
theorem dZ:EI Tryz.prog 23 3 1 8:=EI.mk' Tryz.underlying23 (z:=.int .i64 0) (by kernel_rfl) rfl (by omega)
theorem Ik (g n c hi:Nat) {v:Int}(hv:v=(hi:Int)) (h2:hi≤c) (w:World) :
  (Instr.slice 23 (.slice (some ⟨g,0,none⟩) n c) none (some (.int .i64 v)) none).run Tryz.prog w=.ok (.slice (some ⟨g,0,none⟩) hi c) w :=
 Lp (by kernel_rfl) 1 (fun w=>by kernel_rfl) g n c hi hv h2 w
theorem PM.atP {B b:Nat}{x:Option Part}{v:Vs}{l:List Em.R}{L O N:List Nat}{P:List (Nat×Nat×Nat)}{w u:World}(h:PM B b x v l L O N P w) (hg:w.grownBy u v.p.ownBlock):(∀ j,u.frozen? ⟨b,j,none⟩=false)∧u.cell? ⟨b,4,none⟩=some v.p:=by
 obtain ⟨h1,h2,h3⟩:=Hp.base h (k:=0) rfl;have h4:u.heap[b]? = _:=(hg.block b h2 (fun e=>by
  have:=h.apart 5 0 _ _ b rfl rfl e.symm rfl;cases this)).trans h3
 exact ⟨aW h4,ah h4 4⟩
theorem PM.atO {B b:Nat}{x:Option Part}{v:Vs}{l:List Em.R}{L O N:List Nat}{P:List (Nat×Nat×Nat)}{w u:World}(h:PM B b x v l L O N P w) (hg:w.grownBy u v.o.ownBlock):(∀ j,u.frozen? ⟨b,j,none⟩=false)∧u.cell? ⟨b,2,none⟩=some v.o:=by
 obtain ⟨h1,h2,h3⟩:=Hp.base h (k:=0) rfl;have h4:u.heap[b]? = _:=(hg.block b h2 (fun e=>by
  have:=h.apart 3 0 _ _ b rfl rfl e.symm rfl;cases this)).trans h3
 exact ⟨aW h4,ah h4 2⟩
theorem PM.Xp {B b:Nat}{x:Option Part}{v:Vs}{l:List Em.R}{L O N:List Nat}{P:List (Nat×Nat×Nat)}{w:World}(h:PM B b x v l L O N P w) {g c:Nat}(hv:v.o=.slice (some ⟨g,0,none⟩) O.length c) {k:Nat}(hk:k≤O.length) :
  PM B b x ⟨v.r,v.l,.slice (some ⟨g,0,none⟩) k c,v.n,v.p⟩ l L (O.take k) N P (w.setCell ⟨b,2,none⟩ (.slice (some ⟨g,0,none⟩) k c)):=by
 have ho:=h.xS;rw [hv] at ho;refine h.T0 (World.grownBy.refl w _) (Mr ho hk rfl) (fun g' hg'=>.inl ?_);rw [hv];exact hg'
theorem Lb {B b:Nat}{x:Option Part}{v:Vs}{l:List Em.R}{L O N:List Nat}{P:List (Nat×Nat×Nat)}{w:World}(hM:PM B b x v l L O N P w) (i c oj s lo lc:Nat) (hi:i<O.length) (zj:O[i]=oj) (ZT:oj<L.length) (Uf:c<L.length) (hne:oj≠c)
  (hlo:L[oj]=lo) (hlc:L[c]=lc) (adq:1≤lo∧lo≤100) (acf:1≤lc∧lc≤100) (hL:L.length≤4000000) (hO:O.length≤4000000) (hP:P.length≤1000000000)
  (d1:Bool) (d2:Bool) (Yu:decide (2≤lo)=d1) (yq:decide (2≤lc)=d2) (hs:s=if (d1&&d2)=true then 2 else 1) :
  Calls Tryz.prog 244 #[.pointer (some ⟨b,0,none⟩),.int .i64 (i:Int),.int .i64 (c:Int)] w fun e w'=>e=.returned (.tuple #[]) ∧
   (∃ v',v'.l=v.l∧v'.r=v.r∧PM B b x v' l ((L.set oj (lo-s)).set c (lc-s)) (Em.ox O i (lo-s)) N (P++[(oj,c,s)]) w')∧Below B w w':=by
 have hs2:1≤s∧s≤2∧s≤lo∧s≤lc∧(s:Int)=(if (d1&&d2)=true then 2 else 1):=by
  have h1:d1=true→2≤lo:=fun h=>of_decide_eq_true (Yu.trans h);have h2:d2=true→2≤lc:=fun h=>of_decide_eq_true (yq.trans h);cases d1<;>cases d2<;>simp_all
 obtain ⟨hs0,hs1,pE,hsc,hsi⟩:=hs2;have e1:decide ((2:Int)≤(lo:Int))=d1:=by rw [← Yu];exact decide_eq_decide.2 (by omega)
 have e2:decide ((2:Int)≤(lc:Int))=d2:=by rw [← yq];exact decide_eq_decide.2 (by omega)
 obtain ⟨ro,hro⟩:∃ r,r=lo-s:=⟨_,rfl⟩
 obtain ⟨rc,hrc⟩:∃ r,r=lc-s:=⟨_,rfl⟩
 obtain ⟨sz,hsz⟩:∃ z:Int,z=(s:Int):=⟨_,rfl⟩
 have ac1:(lo:Int)-sz=(ro:Int):=by omega
 have adu:(lc:Int)-sz=(rc:Int):=by omega
 have uK:(d1=false∧sz=1)∨(d1=true∧d2=false∧sz=1)∨(d1=true∧d2=true∧sz=2):=by
  rw [hsz,hsi];cases d1<;>cases d2<;>simp
 have ac3:ro≤100:=by omega
 have adl:rc≤100:=by omega
 obtain ⟨vr,vl,vo,vn,vp⟩:=v;obtain ⟨hB,oa,hfz,m0,m1,m2,m3,m4⟩:=hM.blk;obtain ⟨gl,cl,hvl,hcl,hBl,Df⟩:=gh hM.ri (by omega);obtain ⟨go,co,WE,Xy,hBo,hgo⟩:=gh hM.xS (by omega);obtain ⟨AP,cp,hvp,Vp⟩:=ak hM.SS;simp only at hvl WE hvp m0 m1 m2 m3 m4;subst hvl WE hvp;have hrl:=hM.ri;have QF:=hM.xS;simp only at hrl QF;have o0:=eM QF hi;rw [zj] at o0;have l0:=eM hrl ZT;rw [hlo] at l0;have l1:=eM hrl Uf;rw [hlc] at l1;have lf:=fun j=>hrl.frozenAt j;have NJ:=Lib.hid (fun y:Nat=>hM.OU (g:=gl) (c:=cl) rfl oj y);have Qm:=Lib.hid (fun y z:Nat=>(hM.OU (g:=gl) (c:=cl) rfl oj y).OU (g:=gl) (c:=cl) (by rw [List.length_set]) c z);have tr:=Lib.hid (fun y:Value=>(Below.refl B w).setCell (p:=⟨gl,oj,none⟩) hBl y);replace hrl:=Lib.hid hrl;replace QF:=Lib.hid QF;replace hs:=Lib.hid hs;replace hro:=Lib.hid hro;replace hrc:=Lib.hid hrc;replace hsz:=Lib.hid hsz;replace hlo:=Lib.hid hlo;replace hlc:=Lib.hid hlc;replace zj:=Lib.hid zj;clear hM;have abX:(lo:Int)≤100:=by omega
 have acW:(lc:Int)≤100:=by omega
 have hzero:Hid (Em.ox O i (lo-s)=if ro=0 then O.take i else O.take (i+1)):=Lib.hid (by rw [← hro.out];rfl);have I1:Hid (Em.ox O i (lo-s)=if ro=0 then O.take i else O.take (i+1)):=hzero;clear m0 m3 Yu yq hs0 pE hsc hsi hs1 hzero hs;replace I1:=I1;rcases uK with ⟨rfl,rfl⟩ | ⟨rfl,rfl,rfl⟩ | ⟨rfl,rfl,rfl⟩
 all_goals
  go_enter Tryz.func244,Tryz.ntmps244;go_upto_region 5 with fail
  generalize hw4:World.setCell w _ _=w4;have Kf:PM B b x ⟨vr,.slice (some ⟨gl,0,none⟩) L.length cl,.slice (some ⟨go,0,none⟩) O.length co,vn,.slice AP P.length cp⟩ l (L.set oj ro) O N P w4:=by rw [← hw4];exact NJ.out ro
  have NP:Below B w w4:=by rw [← hw4];exact tr.out _
  obtain ⟨_,R7,ZR,_,m1',_,_,_⟩:=Kf.blk;have Sx:=Kf.ri;simp only [List.length_set] at m1' Sx;have l1':=eM Sx (k:=c) (by rw [List.length_set];exact Uf);rw [List.getElem_set_ne hne,hlc.out] at l1';have lf':=fun j=>Sx.frozenAt j;have aav:gl<w4.heap.size:=Nat.lt_of_lt_of_le Df NP.size;have WK:=Lib.hid (Kf.OU (g:=gl) (c:=cl) (by rw [List.length_set]) c rc);replace NP:=Lib.hid NP;replace Kf:=Lib.hid Kf;clear hw4 m1 m2 m4 o0 l0 l1 lf NJ Qm Sx hfz;go_upto_region 6 with fail
  generalize Qj:World.setCell w4 _ _=w5;have Qm:PM B b x ⟨vr,.slice (some ⟨gl,0,none⟩) L.length cl,.slice (some ⟨go,0,none⟩) O.length co,vn,.slice AP P.length cp⟩ l ((L.set oj ro).set c rc) O N P w5:=by rw [← Qj];exact WK.out
  have ES:Below B w w5:=by rw [← Qj];exact NP.out.setCell (p:=⟨gl,c,none⟩) hBl _
  clear Qj WK NP Kf m1' l1' lf' ZR R7 aav;obtain ⟨L2,hL2⟩:∃ L2,L2=(L.set oj ro).set c rc:=⟨_,rfl⟩
  have ZE:L2.length=L.length:=by rw [hL2,List.length_set,List.length_set]
  have Vg:L2[oj]'(by omega)=ro:=by subst hL2;rw [List.getElem_set_ne (Ne.symm hne),List.getElem_set_self]
  rw [← hL2] at Qm;obtain ⟨_,GP,YZ,_,m1,m2,_,m4⟩:=Qm.blk;simp only at m1 m2 m4;have N8:=ES.size;replace Qm:=Lib.hid Qm;replace ES:=Lib.hid ES;replace hL2:=Lib.hid hL2;replace Vg:=Lib.hid Vg;go_upto_region 7 with (at_builtin;refine bw rfl (.tmp 57) (.tmp 62) rfl Q8 rfl Qm.out.SS rfl (by simp) rfl (by intro u hu;simp at hu;rcases hu with rfl | rfl | rfl<;>rfl) (by omega) (by omega) (by omega) ?_;intro vp7 w7 Ic qi dI mB;obtain ⟨A7,c7,rfl,hc7⟩:=ak Ic;obtain ⟨NA,m47⟩:=Qm.out.atP qi.out;have Mu:b<w7.heap.size:=Nat.lt_of_lt_of_le GP dI.size)
  generalize J3:World.setCell w7 _ _=w8;have RN:PM B b x ⟨vr,.slice (some ⟨gl,0,none⟩) L.length cl,.slice (some ⟨go,0,none⟩) O.length co,vn,.slice A7 (P.length+1) c7⟩ l L2 O N (P++[(oj,c,s)]) w8:=by
   rw [← J3];exact Qm.out.ZQ qi.out (by simpa [gI,uT,← hsz.out] using Ic) mB.out
  have LQ:Below B w w8:=by rw [← J3];exact (ES.out.trans dI).setCell (p:=⟨b,4,none⟩) hB _
  clear J3 Qm ES Ic qi dI mB NA m47 Mu YZ m1 m2 m4 GP N8;obtain ⟨_,aad,ZO,_,m1,m2,_,m4⟩:=RN.blk;simp only at m1 m2 m4;have hcut:=Ik go O.length co (i+1) (v:=(i:Int)+1) rfl (by omega);have Yo:=Lib.hid (RN.Xp (g:=go) (c:=co) rfl (k:=i+1) (by omega));replace RN:=Lib.hid RN;replace LQ:=Lib.hid LQ;go_upto_region 8 with fail
  generalize YI:World.setCell w8 _ _=w9;have Vi:PM B b x ⟨vr,.slice (some ⟨gl,0,none⟩) L.length cl,.slice (some ⟨go,0,none⟩) (i+1) co,vn,.slice A7 (P.length+1) c7⟩ l L2 (O.take (i+1)) N (P++[(oj,c,s)]) w9:=by rw [← YI];exact Yo.out
  have R3:Below B w w9:=by rw [← YI];exact LQ.out.setCell (p:=⟨b,2,none⟩) hB _
  clear YI Yo RN LQ ZO m1 m2 m4 aad hcut;obtain ⟨_,acI,ab8,_,m1,m2,_,m4⟩:=Vi.blk;have S9:=Vi.ri;simp only [ZE] at m1 m2 m4 S9;have l9:=eM S9 (k:=oj) (by omega);rw [Vg.out] at l9;have hcut:=Ik go (i+1) co i (v:=(i:Int)) rfl (by omega);have hlen:(O.take (i+1)).length=i+1:=by rw [List.length_take];omega
  have Ql:(O.take (i+1)).take i=O.take i:=by rw [List.take_take];congr 1;omega
  have PU:=Lib.hid (Vi.Xp (g:=go) (c:=co) (by rw [hlen]) (k:=i) (by omega));rw [Ql] at PU;have acm:gl<w9.heap.size:=Nat.lt_of_lt_of_le Df R3.size;have Yn:=Lib.hid (R3.setCell (p:=⟨b,2,none⟩) hB (.slice (some ⟨go,0,none⟩) i co));replace Vi:=Lib.hid Vi;replace R3:=Lib.hid R3;replace hlen:=Lib.hid hlen;replace Ql:=Lib.hid Ql;replace S9:=Lib.hid S9;rw [hL2.out,hro.out,hrc.out] at Vi;rw [hL2.out,hro.out,hrc.out] at PU;rcases Nat.eq_zero_or_pos ro with hz | hz
  ·have t0:((ro:Int)==0)=true:=by simpa using hz
   have Rq:Hid (Em.ox O i (lo-s)=O.take i):=Lib.hid (by rw [I1.out,if_pos hz]);clear hz;go_wp2_with fail;go_returns;exact ⟨rfl,⟨_,rfl,rfl,by rw [Rq.out];exact PU.out⟩,Yn.out⟩
  ·have t0:((ro:Int)==0)=false:=by
    rw [beq_eq_false_iff_ne];omega
   have Rq:Hid (Em.ox O i (lo-s)=O.take (i+1)):=Lib.hid (by rw [I1.out,if_neg (by omega)]);clear hz;go_wp2_with fail;go_returns;exact ⟨rfl,⟨_,rfl,rfl,by rw [Rq.out];exact Vi.out⟩,R3.out⟩
end Go.Proofs.YtddkjkockbcamaaGreatDoor
end
section
namespace Go.Proofs.YtddkjkockbcamaaGreatDoor
open Go.RowKit
def AN (B b:Nat) (x:Option Part) (l:List Em.R) (c gl cl:Nat) (fin:Em.St) (r0:Value) (w wr:World):Prop :=
 ∃ (v:Vs) (st:Em.St) (L O N:List Nat),Hid (v.r=r0)∧Hid (v.l=.slice (some ⟨gl,0,none⟩) l.length cl)∧Hid (PM B b x v l L O N st.2 wr)∧Hid (Em.sF l c st L O N)∧Hid (Em.inner l c st=fin)∧Hid (Below B w wr)
theorem GW {B b:Nat}{x:Option Part}{v:Vs}{l:List Em.R}{L O N:List Nat}{w:World}(c:Nat) (st:Em.St) (hM:PM B b x v l L O N st.2 w) (hS:Em.sF l c st L O N) (hc:c<l.length) (hl:l.length≤4000000) (hH:Em.Held l) (hcc:(Em.get l c).c=true) :
  Calls Tryz.prog 227 #[.pointer (some ⟨b,0,none⟩),.int .i64 (c:Int)] w fun e w'=>e=.returned (.tuple #[]) ∧
   (∃ v',v'.r=v.r∧∃ L' O' N',PM B b x v' l L' O' N' (Em.inner l c st).2 w'∧Em.sF l c (Em.inner l c st) L' O' N')∧Below B w w':=by
 obtain ⟨gl,cl,hvl,hcl,hBl,Df⟩:=gh hM.ri (by rw [hS.1.len];omega);rw [hS.1.len] at hvl;obtain ⟨fin,aL⟩:∃ fin,fin=Em.inner l c st:=⟨_,rfl⟩
 rw [← aL];obtain ⟨r0,hr0⟩:∃ r0,v.r=r0:=⟨_,rfl⟩
 rw [hr0];have hIn:AN B b x l c gl cl fin r0 w w:=⟨v,st,L,O,N,Lib.hid hr0,Lib.hid hvl,Lib.hid hM,Lib.hid hS,Lib.hid aL.symm,Lib.hid (Below.refl _ _)⟩
 have Wr:=Lib.hid hH;have Vr:=Lib.hid hcc;clear hM hS aL hvl hH hcc Df hr0;go_enter Tryz.func227,Tryz.ntmps227;go_wp2_with fail
 go_loopw [] (fun wr=>AN B b x l c gl cl fin r0 w wr) (fun wr=>match wr.cell? ⟨gl,c,none⟩ with | some (.int _ n)=>n.toNat | _=>0)
 case atStart=>exact hIn
 case round =>
  obtain ⟨v,st,L,O,N,Gl,hvl,hM,hS,FN,hBw⟩:=hrel;clear hIn;have Wo:=hS.out.1.len;have Uf:c<L.length:=by omega
  obtain ⟨hB,oa,hfz,_,m1,_,_,_⟩:=hM.out.blk;have hrl:=hM.out.ri;rw [hvl.out] at m1 hrl;rw [Wo] at hrl;have Df:=(hrl.lt _ rfl).2;have l0:=eM hrl Uf;obtain ⟨lc,hlc⟩:∃ n,n=L[c]:=⟨_,rfl⟩
  rw [← hlc] at l0;have S0:Em.lf L c=lc:=by rw [Em.pU Uf,hlc]
  have G5:Em.lf st.1 c=lc:=by rw [← hS.out.2,S0]
  have hbd:=hS.out.1.bd c;have Bb:=hS.out.1.few;have hOf:=hS.out.1.uO;replace hlc:=Lib.hid hlc;replace S0:=Lib.hid S0;replace G5:=Lib.hid G5;replace hrl:=Lib.hid hrl;rw [G5.out] at hbd Bb;rcases Nat.eq_zero_or_pos lc with hz | hz
  ·subst hz
   have hstop:Hid (Em.inner l c st=st):=Lib.hid (Em.o8 (by rw [G5.out];omega));have um:Hid (st=fin):=Lib.hid (hstop.out.symm.trans FN.out);clear FN hstop Bb;go_wp2_with fail;go_returns;exact ⟨rfl,⟨v,Gl.out,L,O,N,by rw [← um.out];exact hM.out,by rw [← um.out];exact hS.out⟩,hBw.out⟩
  ·have t0:decide ((0:Int)<(lc:Int))=true:=decide_eq_true (by omega)
   have Xs:Hid ((match wr.cell? ⟨gl,c,none⟩ with | some (.int _ n)=>n.toNat | _=>0)=lc):=Lib.hid (by rw [l0];simp);have q:=BG hM.out c hc hl Wr.out (by omega) (fun j hj=>(hS.out.1.iV hj).2) hS.out.1.sorted hS.out.1.nlen (fun j hj h=>hS.out.1.none _ j hj h);clear hrl;go_wp2_with fail;refine q.mono ?_;rintro e w2 ⟨r,rfl,hr,hb2,HP⟩;replace hr:=Lib.hid hr;replace HP:=Lib.hid HP;have Xj:=Lib.hid (hBw.out.trans hb2);clear q hb2 m1 l0 hfz oa;cases r with
   | none =>
    have hstop:Hid (Em.inner l c st=st):=Lib.hid (Em.Nx Wr.out hS.out Vr.out hr.out);have um:Hid (st=fin):=Lib.hid (hstop.out.symm.trans FN.out);have ie:=Lib.hid (Em.M6 hS.out hr.out);have kP:Hid (PM B b x v l L O (N.set (Em.iJ (Em.get l c)) c) st.2 w2):=Lib.hid (by have:=HP.out;rwa [if_pos rfl] at this);clear FN hstop HP;unfold Ow;go_wp2_with fail;go_returns;exact ⟨rfl,⟨v,Gl.out,L,O,_,by rw [← um.out];exact kP.out,by rw [← um.out];exact ie.out⟩,Xj.out⟩
   | some i =>
    obtain ⟨hi,hf,hn⟩:=hr.out;have hfound:=Em.Lx Wr.out hS.out Vr.out hi hf hn;have hmem:=List.getElem_mem hi;have hlt:=hS.out.1.iV hmem;have hm:=(hS.out.1.mem _).1 hmem;have hleft:=hS.out.1.left _ hmem;have hstep:=Em.FE Vr.out (by rw [G5.out];exact hz) hfound;have eV:=Em.O1 hS.out hc (by rw [G5.out];exact hz) hi rfl;have aax:=hS.out.1.bd O[i];have kP:PM B b x v l L O N st.2 w2:=by have:=HP.out;rwa [if_neg (by simp)] at this
    have hsz:Em.size st.1 O[i] c=if (decide (2≤Em.lf L O[i])&&decide (2≤lc))=true then 2 else 1:=by
     unfold Em.size;rw [hleft,G5.out]
     by_cases h1:1<Em.lf st.1 O[i]∧1<lc
     ·rw [if_pos h1,if_pos (by rw [Bool.and_eq_true];exact ⟨decide_eq_true h1.1,decide_eq_true h1.2⟩)]
     ·rw [if_neg h1,if_neg]
      rw [Bool.and_eq_true];rintro ⟨h2,h3⟩;exact h1 ⟨of_decide_eq_true h2,of_decide_eq_true h3⟩
    have q2:=Lb kP i c O[i] (Em.size st.1 O[i] c) (Em.lf L O[i]) lc hi rfl (by omega) Uf (by omega) (by rw [Em.pU (by omega)]) (hlc.out.symm) (by rw [hleft];omega) (by omega) (by omega) (by omega) (by omega) _ _ rfl rfl hsz;have hsp:=Em.size_pos st.1 O[i] c;rw [hstep] at FN;obtain ⟨sz,XH⟩:∃ s,s=Em.size st.1 O[i] c:=⟨_,rfl⟩
    rw [← XH] at q2 eV FN hsp;obtain ⟨oj,zj⟩:∃ o,o=O[i]:=⟨_,rfl⟩
    rw [← zj] at q2 eV FN hlt;replace eV:=Lib.hid eV;clear hstep hfound hf hn hr HP kP hm hleft aax hmem zj XH hsz;unfold Ow;go_wp2_with fail;refine q2.mono ?_;rintro e w3 ⟨rfl,⟨v3,hv3,hr3,NJ⟩,hb3⟩;have tX:=NJ.ri;rw [hv3,hvl.out] at tX;simp only [List.length_set,Wo] at tX;have hpl:Em.zO L oj c sz=(L.set oj (Em.lf L oj-sz)).set c (lc-sz):=by unfold Em.zO;rw [S0.out]
    have l3:=eM tX (k:=c) (by rw [List.length_set,List.length_set];exact Uf);rw [List.getElem_set_self] at l3;have WU:Hid (AN B b x l c gl cl fin r0 w w3):=Lib.hid ⟨v3,_,_,_,N,Lib.hid (hr3.trans Gl.out),Lib.hid (hv3.trans hvl.out),Lib.hid NJ,Lib.hid (by rw [← hpl];exact eV.out),FN,Lib.hid (Xj.out.trans hb3)⟩;replace l3:=Lib.hid l3;clear q2 eV NJ hb3 tX hpl hv3 hr3 FN hM hS;go_wp2_with fail
    go_roundw
    case rel=>exact WU.out
    case measure=>rw [Xs.out,l3.out];simp;omega
end Go.Proofs.YtddkjkockbcamaaGreatDoor
end
section
namespace Go.Proofs.YtddkjkockbcamaaGreatDoor
open Go.RowKit
attribute [local go_sem] aD av aq
section
variable {P:Program}{ops:Array Oper}{Q:Exit→Act→World→Prop}
theorem bO {fuel:Nat}{listed:Array Bool}{a:Act}{w:World}(is:List Nat) (hr:Region.ready .any ops listed=is) (hne:is≠[])
  (h:∀ i∈is,wpOp P ops Q i (fun a' w'=>True∧wpAnyH P .any ops Q (fun _=>True) fuel (listed.setIfInBounds i true) a' w') a w):wpAnyH P .any ops Q (fun _=>True) (fuel+1) listed a w :=
 wpAnyH_all hr hne h
theorem aY {fuel i:Nat}{listed:Array Bool}{a:Act}{w:World}{o:Oper}(ho:ops[i]? = some o) (hg:o.guard=none)
  (h:∀ K:Act→World→Prop,(∀ a' w',wpAnyH P .any ops Q (fun _=>True) fuel (listed.setIfInBounds i true) a' w'→K a' w')→o.wp P a w K Q) :
  wpOp P ops Q i (fun a' w'=>True∧wpAnyH P .any ops Q (fun _=>True) fuel (listed.setIfInBounds i true) a' w') a w:=by
 unfold wpOp;simp only [ho];rw [if_pos (by simp [Region.wanted,hg])];exact .inl (h _ fun _ _ hh=>⟨trivial,hh⟩)
theorem pW {fuel i:Nat}{listed:Array Bool}{a:Act}{w:World}{o:Oper}(v:Value) (ho:ops[i]? = some o) (hg:o.guard=none) (hs:Region.noSelect ops=true) (h1:(Region.ready .any ops listed).contains i=true) (h2:Region.free .any ops listed i=true)
  (hQ:∀ c a d v w,Q (.panic c) (Act.put a d v) w→Q (.panic c) a w) (hv:∀ w',(execOp a.eval o).run P w'=.ok (.value v) w') (k:wpAnyH P .any ops Q (fun _=>True) fuel (listed.setIfInBounds i true) (a.put o.dst v) w) :
  wpAnyH P .any ops Q (fun _=>True) (fuel+1) listed a w :=
 wpAnyH_take ho hs h2 h1 (fun c a w=>hQ c a o.dst v w) (.inl ⟨by simp [Region.wanted,hg],fun w' _=>hv w'⟩) trivial k
end
noncomputable def j8:Array Oper:=match Dw Tryz.f201 1 with | .region _ ops _=>ops | _=>#[]
def rm (o0 o1 o2 o4:Option Part):Nat→Option Part
 | 0=>o0
 | 1=>o1
 | 2=>o2
 | 4=>o4
 | _=>none
theorem O2 (w:World) (B:Nat):Hp w B (rm none none none none):=by
 have h:∀ (k:Nat) (a:Part),rm none none none none k≠some a:=by
  intro k a h
  match k with
  | 0 | 1 | 2 | 3 | 4=>cases h
  | _+5=>cases h
 exact ⟨fun k a ha=>absurd ha (h k a),fun k k' a a' g h1=>absurd h1 (h k a)⟩
theorem bP (n:Nat):(madeCells #[.int .i64 0] (n*1)).toList=aB (List.replicate n 0):=by
 rw [Nat.mul_one,Go.toList_madeCells_one,aB,List.map_replicate];rfl
abbrev nk:Array Value:=#[.slice none 0 0,.slice none 0 0,.slice none 0 0,.slice none 0 0,.slice none 0 0]
abbrev uw (l:List Em.R) (v:Value):Option Part:=some (.row 240 4 v l.length (aF (Em.hold l)))
abbrev iU (n:Nat) (v:Value):Option Part:=some (.row 3 1 v n (aB (List.replicate n 0)))
abbrev wV (b:Nat):Option Part:=some (.blk b nk 257)
theorem Vh {l:List Em.R}{B b:Nat}{vr vl vn:Value}{w:World}(h:Hp w B (rm (wV b) (uw l vr) (iU l.length vl) (iU 1536 vn))) :
  PM B b none ⟨vr,vl,.slice none 0 0,vn,.slice none 0 0⟩ (Em.hold l) (List.replicate l.length 0) [] (List.replicate 1536 0) []
   (((((w.setCell ⟨b,0,none⟩ vr).setCell ⟨b,1,none⟩ vl).setCell ⟨b,2,none⟩ (.slice none 0 0)).setCell ⟨b,3,none⟩ vn).setCell ⟨b,4,none⟩ (.slice none 0 0)):=by
 have e1:(Em.hold l).length=l.length:=by simp [Em.hold]
 have h3:Hp w B (CS b nk none (Em.hold l) vr (List.replicate l.length 0) vl [] (.slice none 0 0) (List.replicate 1536 0) vn [] (.slice none 0 0)):=by
  refine ⟨fun k a ha=>?_,fun k k' a a' g h1 h2 hg hg'=>?_⟩
  ·match k with
   | 0=>exact h.holds 0 a ha
   | 1=>exact h.holds 1 a (by simpa only [CS,rm,e1] using ha)
   | 2=>exact h.holds 2 a (by simpa only [CS,rm,List.length_replicate] using ha)
   | 4=>exact h.holds 4 a (by simpa only [CS,rm,List.length_replicate] using ha)
   | 3=>cases ha;exact World.ownsRow_nil _ _ _ _
   | 5=>cases ha;exact World.ownsRow_nil _ _ _ _
   | 6=>cases ha
   | _+7=>cases ha
  ·have key:∀ (k:Nat) (a:Part) (g:Nat),CS b nk none (Em.hold l) vr (List.replicate l.length 0) vl [] (.slice none 0 0) (List.replicate 1536 0) vn [] (.slice none 0 0) k=some a→a.block=some g→rm (wV b) (uw l vr) (iU l.length vl) (iU 1536 vn) k=some a:=by
    intro k a g ha hb
    match k with
    | 0=>exact ha
    | 1=>simpa only [CS,rm,e1] using ha
    | 2=>simpa only [CS,rm,List.length_replicate] using ha
    | 4=>simpa only [CS,rm,List.length_replicate] using ha
    | 3=>cases ha;simp [Part.block,Value.ownBlock] at hb
    | 5=>cases ha;simp [Part.block,Value.ownBlock] at hb
    | 6=>cases ha
    | _+7=>cases ha
   exact h.apart k k' a a' g (key k a g h1 hg) (key k' a' g h2 hg') hg hg'
 have st:∀ (w:World) (cs:Array Value) (j:Nat) (v:Value),Hp w B (CS b cs none (Em.hold l) vr (List.replicate l.length 0) vl [] (.slice none 0 0) (List.replicate 1536 0) vn [] (.slice none 0 0)) →
   Hp (w.setCell ⟨b,j,none⟩ v) B (CS b (cs.setIfInBounds j v) none (Em.hold l) vr (List.replicate l.length 0) vl [] (.slice none 0 0) (List.replicate 1536 0) vn [] (.slice none 0 0)):=by
  intro w cs j v h;refine Hp.store (k:=0) (cs:=cs) (t:=257) h rfl ?_ rfl;intro j hj
  match j with
  | 0=>exact absurd rfl hj
  | 1 | 2 | 3 | 4 | 5 | 6=>rfl
  | _+7=>rfl
 exact st _ _ 4 _ (st _ _ 3 _ (st _ _ 2 _ (st _ _ 1 _ (st _ _ 0 _ h3))))
def dR (l:List Em.R) (A:Option Addr) (c:Nat) (w0:World) (Q:Exit→Act→World→Prop):Prop :=
 ∀ (b:Nat) (v:Vs) (v12:Value) (wq:World),PM w0.heap.size b none v (Em.hold l) (List.replicate l.length 0) [] (List.replicate 1536 0) [] wq→Below w0.heap.size w0 wq→Q .normal ⟨(.slice A l.length c::undef :: .slice none 0 0 :: .pointer (some ⟨b,0,none⟩)::undef::undef :: .slice A l.length c::v.r :: .slice A l.length c :: .int .i64 (l.length:Int)::v.l::v.n::v12::undef::undef::undef::undef::undef::undef::undef::undef::undef::undef::undef::undef::undef::undef::undef::undef::undef::undef::undef::undef::undef::undef::undef::undef::undef::undef::undef::undef::undef::undef::undef::undef::undef::undef::undef::undef::undef::[]).toArray,[]⟩ wq
abbrev ld (Q:Exit→Act→World→Prop):Prop:=∀ c a d v w,Q (.panic c) (Act.put a d v) w→Q (.panic c) a w
theorem Ey {l:List Em.R}{A:Option Addr}{c:Nat}{w0 w:World}{Q:Exit→Act→World→Prop}{vr:Value}{vl:Value}{vn:Value}{b:Nat}(_hpan:ld Q) (hq:dR l A c w0 Q) (_hR:Row w0 w0.heap.size 4 A l.length (aF l)) (_hl:l.length≤4000000) (hb:Below w0.heap.size w0 w)
  (hH:Hp w w0.heap.size (rm (wV b) (uw l vr) (iU l.length vl) (iU 1536 vn))):wpAnyH Tryz.prog .any j8 Q (fun _=>True) 1 #[true,true,true,true,true,true,true,true,false] ⟨(.slice A l.length c::undef :: .slice none 0 0 :: .pointer (some ⟨b,0,none⟩)::undef::undef :: .slice A l.length c::vr :: .slice A l.length c :: .int .i64 (l.length:Int)::vl::vn::(.agg #[vr,vl,.slice none 0 0,vn,.slice none 0 0])::undef::undef::undef::undef::undef::undef::undef::undef::undef::undef::undef::undef::undef::undef::undef::undef::undef::undef::undef::undef::undef::undef::undef::undef::undef::undef::undef::undef::undef::undef::undef::undef::undef::undef::undef::undef::undef::[]).toArray,[]⟩ w:=by
 replace hq:=Lib.hid hq;obtain ⟨A1,c1,rfl,_⟩:=ak (Hp.own hH (k:=1) rfl);obtain ⟨A2,c2,rfl,_⟩:=ak (Hp.own hH (k:=2) rfl);obtain ⟨A4,c4,rfl,_⟩:=ak (Hp.own hH (k:=4) rfl);obtain ⟨hB,oa,pP⟩:=Hp.base hH (k:=0) rfl;have z0:=ah pP 0;have z1:=ah pP 1;have z2:=ah pP 2;have z3:=ah pP 3;have z4:=ah pP 4;have hfz:=aW pP;have hP:=Lib.hid (Vh hH);have hB2:=Lib.hid (((((hb.setCell (p:=⟨b,0,none⟩) hB (.slice A1 l.length c1)).setCell (p:=⟨b,1,none⟩) hB (.slice A2 l.length c2)).setCell (p:=⟨b,2,none⟩) hB (.slice none 0 0)).setCell (p:=⟨b,3,none⟩) hB (.slice A4 1536 c4)).setCell (p:=⟨b,4,none⟩) hB (.slice none 0 0));clear pP hH;refine bO [8] (by kernel_rfl) (by simp) ?_;intro i hi;obtain rfl:i=8:=by simpa using hi
 refine aY (o:=⟨none,.store 257 (.tmp 3) (.tmp 12),_,_,_,none⟩) rfl rfl ?_;intro K hK;go_simp;refine hK _ _ (wpAnyH_done (by kernel_rfl) ?_ _);exact hq.out b ⟨_,_,_,_,_⟩ _ _ hP.out hB2.out
theorem Bg {l:List Em.R}{A:Option Addr}{c:Nat}{w0 w:World}{Q:Exit→Act→World→Prop}{vr:Value}{vl:Value}{vn:Value}{b:Nat}(bI:ld Q) (hq:dR l A c w0 Q) (hR:Row w0 w0.heap.size 4 A l.length (aF l)) (hl:l.length≤4000000) (hb:Below w0.heap.size w0 w)
  (hH:Hp w w0.heap.size (rm (wV b) (uw l vr) (iU l.length vl) (iU 1536 vn))):wpAnyH Tryz.prog .any j8 Q (fun _=>True) 2 #[true,true,true,true,true,true,false,true,false] ⟨(.slice A l.length c::undef :: .slice none 0 0 :: .pointer (some ⟨b,0,none⟩)::undef::undef :: .slice A l.length c::vr :: .slice A l.length c :: .int .i64 (l.length:Int)::vl::vn::undef::undef::undef::undef::undef::undef::undef::undef::undef::undef::undef::undef::undef::undef::undef::undef::undef::undef::undef::undef::undef::undef::undef::undef::undef::undef::undef::undef::undef::undef::undef::undef::undef::undef::undef::undef::undef::undef::[]).toArray,[]⟩ w:=by
 obtain ⟨A1,c1,rfl,_⟩:=ak (Hp.own hH (k:=1) rfl);obtain ⟨A2,c2,rfl,_⟩:=ak (Hp.own hH (k:=2) rfl);obtain ⟨A4,c4,rfl,_⟩:=ak (Hp.own hH (k:=4) rfl);refine pW (i:=6) (o:=⟨some 12,.build 257 #[(0,.tmp 7),(1,.tmp 10),(3,.tmp 11)],_,_,_,none⟩) (.agg #[.slice A1 l.length c1,.slice A2 l.length c2,.slice none 0 0,.slice A4 1536 c4,.slice none 0 0]) rfl rfl (by kernel_rfl) (by kernel_rfl) (by kernel_rfl) bI (fun w'=>by go_simp) ?_;exact Ey bI hq hR hl hb hH
theorem O9 {l:List Em.R}{A:Option Addr}{c:Nat}{w0 w:World}{Q:Exit→Act→World→Prop}{vr:Value}{vl:Value}{vn:Value}(bI:ld Q) (hq:dR l A c w0 Q) (hR:Row w0 w0.heap.size 4 A l.length (aF l)) (hl:l.length≤4000000) (hb:Below w0.heap.size w0 w)
  (hH:Hp w w0.heap.size (rm none (uw l vr) (iU l.length vl) (iU 1536 vn))):wpAnyH Tryz.prog .any j8 Q (fun _=>True) 2 #[true,true,true,true,true,true,true,false,false] ⟨(.slice A l.length c::undef :: .slice none 0 0::undef::undef::undef :: .slice A l.length c::vr :: .slice A l.length c :: .int .i64 (l.length:Int)::vl::vn::(.agg #[vr,vl,.slice none 0 0,vn,.slice none 0 0])::undef::undef::undef::undef::undef::undef::undef::undef::undef::undef::undef::undef::undef::undef::undef::undef::undef::undef::undef::undef::undef::undef::undef::undef::undef::undef::undef::undef::undef::undef::undef::undef::undef::undef::undef::undef::undef::[]).toArray,[]⟩ w:=by
 refine bO [7] (by kernel_rfl) (by simp) ?_;intro i hi;obtain rfl:i=7:=by simpa using hi
 ·refine aY (o:=⟨some 3,.alloc 257,_,_,_,none⟩) rfl rfl ?_
  intro K hK;go_simp;refine hK _ _ (Ey bI hq hR hl (hb.alloc hb.size _) ?_);exact Hp.more (k:=0) hH (a':=.blk w.heap.size nk 257) rfl (aa w _) ⟨hb.size,heap_alloc_new w _⟩ (fun g hg=>by have e:w.heap.size=g:=Option.some.inj hg;omega) (fun j hj=>by match j with | 0=>exact absurd rfl hj | 1 | 2 | 3 | 4 | 5 | 6=>rfl | _+7=>rfl) rfl
theorem AT {l:List Em.R}{A:Option Addr}{c:Nat}{w0 w:World}{Q:Exit→Act→World→Prop}{vr:Value}{vl:Value}{vn:Value}(bI:ld Q) (hq:dR l A c w0 Q) (hR:Row w0 w0.heap.size 4 A l.length (aF l)) (hl:l.length≤4000000) (hb:Below w0.heap.size w0 w)
  (hH:Hp w w0.heap.size (rm none (uw l vr) (iU l.length vl) (iU 1536 vn))):wpAnyH Tryz.prog .any j8 Q (fun _=>True) 3 #[true,true,true,true,true,true,false,false,false] ⟨(.slice A l.length c::undef :: .slice none 0 0::undef::undef::undef :: .slice A l.length c::vr :: .slice A l.length c :: .int .i64 (l.length:Int)::vl::vn::undef::undef::undef::undef::undef::undef::undef::undef::undef::undef::undef::undef::undef::undef::undef::undef::undef::undef::undef::undef::undef::undef::undef::undef::undef::undef::undef::undef::undef::undef::undef::undef::undef::undef::undef::undef::undef::undef::[]).toArray,[]⟩ w:=by
 obtain ⟨A1,c1,rfl,_⟩:=ak (Hp.own hH (k:=1) rfl);obtain ⟨A2,c2,rfl,_⟩:=ak (Hp.own hH (k:=2) rfl);obtain ⟨A4,c4,rfl,_⟩:=ak (Hp.own hH (k:=4) rfl);refine pW (i:=6) (o:=⟨some 12,.build 257 #[(0,.tmp 7),(1,.tmp 10),(3,.tmp 11)],_,_,_,none⟩) (.agg #[.slice A1 l.length c1,.slice A2 l.length c2,.slice none 0 0,.slice A4 1536 c4,.slice none 0 0]) rfl rfl (by kernel_rfl) (by kernel_rfl) (by kernel_rfl) bI (fun w'=>by go_simp) ?_;exact O9 bI hq hR hl hb hH
theorem As {l:List Em.R}{A:Option Addr}{c:Nat}{w0 w:World}{Q:Exit→Act→World→Prop}{vr:Value}{vl:Value}{b:Nat}(bI:ld Q) (hq:dR l A c w0 Q) (hR:Row w0 w0.heap.size 4 A l.length (aF l)) (hl:l.length≤4000000) (hb:Below w0.heap.size w0 w)
  (hH:Hp w w0.heap.size (rm (wV b) (uw l vr) (iU l.length vl) none)):wpAnyH Tryz.prog .any j8 Q (fun _=>True) 3 #[true,true,true,true,true,false,false,true,false] ⟨(.slice A l.length c::undef :: .slice none 0 0 :: .pointer (some ⟨b,0,none⟩)::undef::undef :: .slice A l.length c::vr :: .slice A l.length c :: .int .i64 (l.length:Int)::vl::undef::undef::undef::undef::undef::undef::undef::undef::undef::undef::undef::undef::undef::undef::undef::undef::undef::undef::undef::undef::undef::undef::undef::undef::undef::undef::undef::undef::undef::undef::undef::undef::undef::undef::undef::undef::undef::undef::undef::[]).toArray,[]⟩ w:=by
 refine bO [5] (by kernel_rfl) (by simp) ?_;intro i hi;obtain rfl:i=5:=by simpa using hi
 ·refine aY (o:=⟨some 11,.makeSlice 23 (.const (.int .i64 1536)) (.const (.int .i64 1536)),_,_,_,none⟩) rfl rfl ?_
  intro K hK;have hmk:∀ w,(Instr.makeSlice 23 (.int .i64 1536) (.int .i64 1536)).run Tryz.prog w=.ok (.slice (some ⟨w.heap.size,0,none⟩) 1536 1536) (w.alloc (.cells (madeCells (Value.int .i64 0).cells (1536*1)) 3)):=fun w=>run_mk dZ (z:=.int .i64 0) (by kernel_rfl) 1536 (by omega) (by omega) w;have hown:=Lib.hid (cW w w0.heap.size 1 1536 3 #[.int .i64 0] hb.size (by omega));replace hown:=Lib.hid (by have:=hown.out;rwa [bP] at this);simp only [Value.cells] at hmk;generalize madeCells _ (1536*1)=C at *;go_simp;refine hK _ _ (Bg bI hq hR hl (hb.alloc hb.size _) ?_);exact Hp.more (k:=4) hH (a':=.row 3 1 (.slice (some ⟨w.heap.size,0,none⟩) 1536 1536) 1536 (aB (List.replicate 1536 0))) rfl (aa w _) hown.out (fun g hg=>by have e:w.heap.size=g:=Option.some.inj hg;omega) (fun j hj=>by match j with | 0 | 1 | 2 | 3 | 5 | 6=>rfl | 4=>exact absurd rfl hj | _+7=>rfl) rfl
theorem Av {l:List Em.R}{A:Option Addr}{c:Nat}{w0 w:World}{Q:Exit→Act→World→Prop}{vr:Value}{vn:Value}{b:Nat}(bI:ld Q) (hq:dR l A c w0 Q) (hR:Row w0 w0.heap.size 4 A l.length (aF l)) (hl:l.length≤4000000) (hb:Below w0.heap.size w0 w)
  (hH:Hp w w0.heap.size (rm (wV b) (uw l vr) none (iU 1536 vn))):wpAnyH Tryz.prog .any j8 Q (fun _=>True) 3 #[true,true,true,true,false,true,false,true,false] ⟨(.slice A l.length c::undef :: .slice none 0 0 :: .pointer (some ⟨b,0,none⟩)::undef::undef :: .slice A l.length c::vr :: .slice A l.length c :: .int .i64 (l.length:Int)::undef::vn::undef::undef::undef::undef::undef::undef::undef::undef::undef::undef::undef::undef::undef::undef::undef::undef::undef::undef::undef::undef::undef::undef::undef::undef::undef::undef::undef::undef::undef::undef::undef::undef::undef::undef::undef::undef::undef::undef::[]).toArray,[]⟩ w:=by
 refine bO [4] (by kernel_rfl) (by simp) ?_;intro i hi;obtain rfl:i=4:=by simpa using hi
 ·refine aY (o:=⟨some 10,.makeSlice 23 (.tmp 9) (.tmp 9),_,_,_,none⟩) rfl rfl ?_
  intro K hK;have hmk:=fun w=>run_mk dZ (z:=.int .i64 0) (by kernel_rfl) l.length (by omega) (by omega) w;have hown:=Lib.hid (cW w w0.heap.size 1 l.length 3 #[.int .i64 0] hb.size (by omega));replace hown:=Lib.hid (by have:=hown.out;rwa [bP] at this);simp only [Value.cells] at hmk;generalize madeCells _ (l.length*1)=C at *;go_simp;refine hK _ _ (Bg bI hq hR hl (hb.alloc hb.size _) ?_);exact Hp.more (k:=2) hH (a':=.row 3 1 (.slice (some ⟨w.heap.size,0,none⟩) l.length l.length) l.length (aB (List.replicate l.length 0))) rfl (aa w _) hown.out (fun g hg=>by have e:w.heap.size=g:=Option.some.inj hg;omega) (fun j hj=>by match j with | 0 | 1 | 3 | 4 | 5 | 6=>rfl | 2=>exact absurd rfl hj | _+7=>rfl) rfl
theorem BE {l:List Em.R}{A:Option Addr}{c:Nat}{w0 w:World}{Q:Exit→Act→World→Prop}{vl:Value}{vn:Value}{b:Nat}(bI:ld Q) (hq:dR l A c w0 Q) (hR:Row w0 w0.heap.size 4 A l.length (aF l)) (hl:l.length≤4000000) (hb:Below w0.heap.size w0 w)
  (hH:Hp w w0.heap.size (rm (wV b) none (iU l.length vl) (iU 1536 vn))):wpAnyH Tryz.prog .any j8 Q (fun _=>True) 3 #[true,false,true,true,true,true,false,true,false] ⟨(.slice A l.length c::undef :: .slice none 0 0 :: .pointer (some ⟨b,0,none⟩)::undef::undef :: .slice A l.length c::undef :: .slice A l.length c :: .int .i64 (l.length:Int)::vl::vn::undef::undef::undef::undef::undef::undef::undef::undef::undef::undef::undef::undef::undef::undef::undef::undef::undef::undef::undef::undef::undef::undef::undef::undef::undef::undef::undef::undef::undef::undef::undef::undef::undef::undef::undef::undef::undef::undef::[]).toArray,[]⟩ w:=by
 refine bO [1] (by kernel_rfl) (by simp) ?_;intro i hi;obtain rfl:i=1:=by simpa using hi
 ·refine aY (o:=⟨some 7,.call { callee:=.value (.func 226),args:=#[.tmp 6],argTypes:=#[219] },_,_,_,none⟩) rfl rfl ?_
  intro K hK;go_simp;refine (fB l A c w (hR.ext hb) hl).mono ?_;rintro e w2 ⟨⟨vr,rfl,hown⟩,hb2⟩;refine hK _ _ (Bg bI hq hR hl (ag hb hb2) ?_);exact Hp.more (k:=1) hH (a':=.row 240 4 vr l.length (aF (Em.hold l))) rfl hb2 (gY hown hb.size) (fun g hg=>(hown.lt g hg).1) (fun j hj=>by match j with | 0 | 2 | 3 | 4 | 5 | 6=>rfl | 1=>exact absurd rfl hj | _+7=>rfl) rfl
theorem ID {l:List Em.R}{A:Option Addr}{c:Nat}{w0 w:World}{Q:Exit→Act→World→Prop}{vr:Value}{vl:Value}(bI:ld Q) (hq:dR l A c w0 Q) (hR:Row w0 w0.heap.size 4 A l.length (aF l)) (hl:l.length≤4000000) (hb:Below w0.heap.size w0 w)
  (hH:Hp w w0.heap.size (rm none (uw l vr) (iU l.length vl) none)):wpAnyH Tryz.prog .any j8 Q (fun _=>True) 4 #[true,true,true,true,true,false,false,false,false] ⟨(.slice A l.length c::undef :: .slice none 0 0::undef::undef::undef :: .slice A l.length c::vr :: .slice A l.length c :: .int .i64 (l.length:Int)::vl::undef::undef::undef::undef::undef::undef::undef::undef::undef::undef::undef::undef::undef::undef::undef::undef::undef::undef::undef::undef::undef::undef::undef::undef::undef::undef::undef::undef::undef::undef::undef::undef::undef::undef::undef::undef::undef::undef::undef::[]).toArray,[]⟩ w:=by
 refine bO [5,7] (by kernel_rfl) (by simp) ?_;intro i hi;have hi2:i=5∨i=7:=by simpa using hi
 clear hi;rcases hi2 with rfl | rfl
 ·refine aY (o:=⟨some 11,.makeSlice 23 (.const (.int .i64 1536)) (.const (.int .i64 1536)),_,_,_,none⟩) rfl rfl ?_
  intro K hK;have hmk:∀ w,(Instr.makeSlice 23 (.int .i64 1536) (.int .i64 1536)).run Tryz.prog w=.ok (.slice (some ⟨w.heap.size,0,none⟩) 1536 1536) (w.alloc (.cells (madeCells (Value.int .i64 0).cells (1536*1)) 3)):=fun w=>run_mk dZ (z:=.int .i64 0) (by kernel_rfl) 1536 (by omega) (by omega) w;have hown:=Lib.hid (cW w w0.heap.size 1 1536 3 #[.int .i64 0] hb.size (by omega));replace hown:=Lib.hid (by have:=hown.out;rwa [bP] at this);simp only [Value.cells] at hmk;generalize madeCells _ (1536*1)=C at *;go_simp;refine hK _ _ (AT bI hq hR hl (hb.alloc hb.size _) ?_);exact Hp.more (k:=4) hH (a':=.row 3 1 (.slice (some ⟨w.heap.size,0,none⟩) 1536 1536) 1536 (aB (List.replicate 1536 0))) rfl (aa w _) hown.out (fun g hg=>by have e:w.heap.size=g:=Option.some.inj hg;omega) (fun j hj=>by match j with | 0 | 1 | 2 | 3 | 5 | 6=>rfl | 4=>exact absurd rfl hj | _+7=>rfl) rfl
 ·refine aY (o:=⟨some 3,.alloc 257,_,_,_,none⟩) rfl rfl ?_
  intro K hK;go_simp;refine hK _ _ (As bI hq hR hl (hb.alloc hb.size _) ?_);exact Hp.more (k:=0) hH (a':=.blk w.heap.size nk 257) rfl (aa w _) ⟨hb.size,heap_alloc_new w _⟩ (fun g hg=>by have e:w.heap.size=g:=Option.some.inj hg;omega) (fun j hj=>by match j with | 0=>exact absurd rfl hj | 1 | 2 | 3 | 4 | 5 | 6=>rfl | _+7=>rfl) rfl
theorem HO {l:List Em.R}{A:Option Addr}{c:Nat}{w0 w:World}{Q:Exit→Act→World→Prop}{vr:Value}{vn:Value}(bI:ld Q) (hq:dR l A c w0 Q) (hR:Row w0 w0.heap.size 4 A l.length (aF l)) (hl:l.length≤4000000) (hb:Below w0.heap.size w0 w)
  (hH:Hp w w0.heap.size (rm none (uw l vr) none (iU 1536 vn))):wpAnyH Tryz.prog .any j8 Q (fun _=>True) 4 #[true,true,true,true,false,true,false,false,false] ⟨(.slice A l.length c::undef :: .slice none 0 0::undef::undef::undef :: .slice A l.length c::vr :: .slice A l.length c :: .int .i64 (l.length:Int)::undef::vn::undef::undef::undef::undef::undef::undef::undef::undef::undef::undef::undef::undef::undef::undef::undef::undef::undef::undef::undef::undef::undef::undef::undef::undef::undef::undef::undef::undef::undef::undef::undef::undef::undef::undef::undef::undef::undef::undef::[]).toArray,[]⟩ w:=by
 refine bO [4,7] (by kernel_rfl) (by simp) ?_;intro i hi;have hi2:i=4∨i=7:=by simpa using hi
 clear hi;rcases hi2 with rfl | rfl
 ·refine aY (o:=⟨some 10,.makeSlice 23 (.tmp 9) (.tmp 9),_,_,_,none⟩) rfl rfl ?_
  intro K hK;have hmk:=fun w=>run_mk dZ (z:=.int .i64 0) (by kernel_rfl) l.length (by omega) (by omega) w;have hown:=Lib.hid (cW w w0.heap.size 1 l.length 3 #[.int .i64 0] hb.size (by omega));replace hown:=Lib.hid (by have:=hown.out;rwa [bP] at this);simp only [Value.cells] at hmk;generalize madeCells _ (l.length*1)=C at *;go_simp;refine hK _ _ (AT bI hq hR hl (hb.alloc hb.size _) ?_);exact Hp.more (k:=2) hH (a':=.row 3 1 (.slice (some ⟨w.heap.size,0,none⟩) l.length l.length) l.length (aB (List.replicate l.length 0))) rfl (aa w _) hown.out (fun g hg=>by have e:w.heap.size=g:=Option.some.inj hg;omega) (fun j hj=>by match j with | 0 | 1 | 3 | 4 | 5 | 6=>rfl | 2=>exact absurd rfl hj | _+7=>rfl) rfl
 ·refine aY (o:=⟨some 3,.alloc 257,_,_,_,none⟩) rfl rfl ?_
  intro K hK;go_simp;refine hK _ _ (Av bI hq hR hl (hb.alloc hb.size _) ?_);exact Hp.more (k:=0) hH (a':=.blk w.heap.size nk 257) rfl (aa w _) ⟨hb.size,heap_alloc_new w _⟩ (fun g hg=>by have e:w.heap.size=g:=Option.some.inj hg;omega) (fun j hj=>by match j with | 0=>exact absurd rfl hj | 1 | 2 | 3 | 4 | 5 | 6=>rfl | _+7=>rfl) rfl
theorem IM {l:List Em.R}{A:Option Addr}{c:Nat}{w0 w:World}{Q:Exit→Act→World→Prop}{vr:Value}{b:Nat}(bI:ld Q) (hq:dR l A c w0 Q) (hR:Row w0 w0.heap.size 4 A l.length (aF l)) (hl:l.length≤4000000) (hb:Below w0.heap.size w0 w)
  (hH:Hp w w0.heap.size (rm (wV b) (uw l vr) none none)):wpAnyH Tryz.prog .any j8 Q (fun _=>True) 4 #[true,true,true,true,false,false,false,true,false] ⟨(.slice A l.length c::undef :: .slice none 0 0 :: .pointer (some ⟨b,0,none⟩)::undef::undef :: .slice A l.length c::vr :: .slice A l.length c :: .int .i64 (l.length:Int)::undef::undef::undef::undef::undef::undef::undef::undef::undef::undef::undef::undef::undef::undef::undef::undef::undef::undef::undef::undef::undef::undef::undef::undef::undef::undef::undef::undef::undef::undef::undef::undef::undef::undef::undef::undef::undef::undef::undef::undef::[]).toArray,[]⟩ w:=by
 refine bO [4,5] (by kernel_rfl) (by simp) ?_;intro i hi;have hi2:i=4∨i=5:=by simpa using hi
 clear hi;rcases hi2 with rfl | rfl
 ·refine aY (o:=⟨some 10,.makeSlice 23 (.tmp 9) (.tmp 9),_,_,_,none⟩) rfl rfl ?_
  intro K hK;have hmk:=fun w=>run_mk dZ (z:=.int .i64 0) (by kernel_rfl) l.length (by omega) (by omega) w;have hown:=Lib.hid (cW w w0.heap.size 1 l.length 3 #[.int .i64 0] hb.size (by omega));replace hown:=Lib.hid (by have:=hown.out;rwa [bP] at this);simp only [Value.cells] at hmk;generalize madeCells _ (l.length*1)=C at *;go_simp;refine hK _ _ (As bI hq hR hl (hb.alloc hb.size _) ?_);exact Hp.more (k:=2) hH (a':=.row 3 1 (.slice (some ⟨w.heap.size,0,none⟩) l.length l.length) l.length (aB (List.replicate l.length 0))) rfl (aa w _) hown.out (fun g hg=>by have e:w.heap.size=g:=Option.some.inj hg;omega) (fun j hj=>by match j with | 0 | 1 | 3 | 4 | 5 | 6=>rfl | 2=>exact absurd rfl hj | _+7=>rfl) rfl
 ·refine aY (o:=⟨some 11,.makeSlice 23 (.const (.int .i64 1536)) (.const (.int .i64 1536)),_,_,_,none⟩) rfl rfl ?_
  intro K hK;have hmk:∀ w,(Instr.makeSlice 23 (.int .i64 1536) (.int .i64 1536)).run Tryz.prog w=.ok (.slice (some ⟨w.heap.size,0,none⟩) 1536 1536) (w.alloc (.cells (madeCells (Value.int .i64 0).cells (1536*1)) 3)):=fun w=>run_mk dZ (z:=.int .i64 0) (by kernel_rfl) 1536 (by omega) (by omega) w;have hown:=Lib.hid (cW w w0.heap.size 1 1536 3 #[.int .i64 0] hb.size (by omega));replace hown:=Lib.hid (by have:=hown.out;rwa [bP] at this);simp only [Value.cells] at hmk;generalize madeCells _ (1536*1)=C at *;go_simp;refine hK _ _ (Av bI hq hR hl (hb.alloc hb.size _) ?_);exact Hp.more (k:=4) hH (a':=.row 3 1 (.slice (some ⟨w.heap.size,0,none⟩) 1536 1536) 1536 (aB (List.replicate 1536 0))) rfl (aa w _) hown.out (fun g hg=>by have e:w.heap.size=g:=Option.some.inj hg;omega) (fun j hj=>by match j with | 0 | 1 | 2 | 3 | 5 | 6=>rfl | 4=>exact absurd rfl hj | _+7=>rfl) rfl
theorem Ir {l:List Em.R}{A:Option Addr}{c:Nat}{w0 w:World}{Q:Exit→Act→World→Prop}{vl:Value}{vn:Value}(bI:ld Q) (hq:dR l A c w0 Q) (hR:Row w0 w0.heap.size 4 A l.length (aF l)) (hl:l.length≤4000000) (hb:Below w0.heap.size w0 w)
  (hH:Hp w w0.heap.size (rm none none (iU l.length vl) (iU 1536 vn))):wpAnyH Tryz.prog .any j8 Q (fun _=>True) 4 #[true,false,true,true,true,true,false,false,false] ⟨(.slice A l.length c::undef :: .slice none 0 0::undef::undef::undef :: .slice A l.length c::undef :: .slice A l.length c :: .int .i64 (l.length:Int)::vl::vn::undef::undef::undef::undef::undef::undef::undef::undef::undef::undef::undef::undef::undef::undef::undef::undef::undef::undef::undef::undef::undef::undef::undef::undef::undef::undef::undef::undef::undef::undef::undef::undef::undef::undef::undef::undef::undef::undef::[]).toArray,[]⟩ w:=by
 refine bO [1,7] (by kernel_rfl) (by simp) ?_;intro i hi;have hi2:i=1∨i=7:=by simpa using hi
 clear hi;rcases hi2 with rfl | rfl
 ·refine aY (o:=⟨some 7,.call { callee:=.value (.func 226),args:=#[.tmp 6],argTypes:=#[219] },_,_,_,none⟩) rfl rfl ?_
  intro K hK;go_simp;refine (fB l A c w (hR.ext hb) hl).mono ?_;rintro e w2 ⟨⟨vr,rfl,hown⟩,hb2⟩;refine hK _ _ (AT bI hq hR hl (ag hb hb2) ?_);exact Hp.more (k:=1) hH (a':=.row 240 4 vr l.length (aF (Em.hold l))) rfl hb2 (gY hown hb.size) (fun g hg=>(hown.lt g hg).1) (fun j hj=>by match j with | 0 | 2 | 3 | 4 | 5 | 6=>rfl | 1=>exact absurd rfl hj | _+7=>rfl) rfl
 ·refine aY (o:=⟨some 3,.alloc 257,_,_,_,none⟩) rfl rfl ?_
  intro K hK;go_simp;refine hK _ _ (BE bI hq hR hl (hb.alloc hb.size _) ?_);exact Hp.more (k:=0) hH (a':=.blk w.heap.size nk 257) rfl (aa w _) ⟨hb.size,heap_alloc_new w _⟩ (fun g hg=>by have e:w.heap.size=g:=Option.some.inj hg;omega) (fun j hj=>by match j with | 0=>exact absurd rfl hj | 1 | 2 | 3 | 4 | 5 | 6=>rfl | _+7=>rfl) rfl
theorem HV {l:List Em.R}{A:Option Addr}{c:Nat}{w0 w:World}{Q:Exit→Act→World→Prop}{vl:Value}{b:Nat}(bI:ld Q) (hq:dR l A c w0 Q) (hR:Row w0 w0.heap.size 4 A l.length (aF l)) (hl:l.length≤4000000) (hb:Below w0.heap.size w0 w)
  (hH:Hp w w0.heap.size (rm (wV b) none (iU l.length vl) none)):wpAnyH Tryz.prog .any j8 Q (fun _=>True) 4 #[true,false,true,true,true,false,false,true,false] ⟨(.slice A l.length c::undef :: .slice none 0 0 :: .pointer (some ⟨b,0,none⟩)::undef::undef :: .slice A l.length c::undef :: .slice A l.length c :: .int .i64 (l.length:Int)::vl::undef::undef::undef::undef::undef::undef::undef::undef::undef::undef::undef::undef::undef::undef::undef::undef::undef::undef::undef::undef::undef::undef::undef::undef::undef::undef::undef::undef::undef::undef::undef::undef::undef::undef::undef::undef::undef::undef::undef::[]).toArray,[]⟩ w:=by
 refine bO [1,5] (by kernel_rfl) (by simp) ?_;intro i hi;have hi2:i=1∨i=5:=by simpa using hi
 clear hi;rcases hi2 with rfl | rfl
 ·refine aY (o:=⟨some 7,.call { callee:=.value (.func 226),args:=#[.tmp 6],argTypes:=#[219] },_,_,_,none⟩) rfl rfl ?_
  intro K hK;go_simp;refine (fB l A c w (hR.ext hb) hl).mono ?_;rintro e w2 ⟨⟨vr,rfl,hown⟩,hb2⟩;refine hK _ _ (As bI hq hR hl (ag hb hb2) ?_);exact Hp.more (k:=1) hH (a':=.row 240 4 vr l.length (aF (Em.hold l))) rfl hb2 (gY hown hb.size) (fun g hg=>(hown.lt g hg).1) (fun j hj=>by match j with | 0 | 2 | 3 | 4 | 5 | 6=>rfl | 1=>exact absurd rfl hj | _+7=>rfl) rfl
 ·refine aY (o:=⟨some 11,.makeSlice 23 (.const (.int .i64 1536)) (.const (.int .i64 1536)),_,_,_,none⟩) rfl rfl ?_
  intro K hK;have hmk:∀ w,(Instr.makeSlice 23 (.int .i64 1536) (.int .i64 1536)).run Tryz.prog w=.ok (.slice (some ⟨w.heap.size,0,none⟩) 1536 1536) (w.alloc (.cells (madeCells (Value.int .i64 0).cells (1536*1)) 3)):=fun w=>run_mk dZ (z:=.int .i64 0) (by kernel_rfl) 1536 (by omega) (by omega) w;have hown:=Lib.hid (cW w w0.heap.size 1 1536 3 #[.int .i64 0] hb.size (by omega));replace hown:=Lib.hid (by have:=hown.out;rwa [bP] at this);simp only [Value.cells] at hmk;generalize madeCells _ (1536*1)=C at *;go_simp;refine hK _ _ (BE bI hq hR hl (hb.alloc hb.size _) ?_);exact Hp.more (k:=4) hH (a':=.row 3 1 (.slice (some ⟨w.heap.size,0,none⟩) 1536 1536) 1536 (aB (List.replicate 1536 0))) rfl (aa w _) hown.out (fun g hg=>by have e:w.heap.size=g:=Option.some.inj hg;omega) (fun j hj=>by match j with | 0 | 1 | 2 | 3 | 5 | 6=>rfl | 4=>exact absurd rfl hj | _+7=>rfl) rfl
theorem Im {l:List Em.R}{A:Option Addr}{c:Nat}{w0 w:World}{Q:Exit→Act→World→Prop}{vn:Value}{b:Nat}(bI:ld Q) (hq:dR l A c w0 Q) (hR:Row w0 w0.heap.size 4 A l.length (aF l)) (hl:l.length≤4000000) (hb:Below w0.heap.size w0 w)
  (hH:Hp w w0.heap.size (rm (wV b) none none (iU 1536 vn))):wpAnyH Tryz.prog .any j8 Q (fun _=>True) 4 #[true,false,true,true,false,true,false,true,false] ⟨(.slice A l.length c::undef :: .slice none 0 0 :: .pointer (some ⟨b,0,none⟩)::undef::undef :: .slice A l.length c::undef :: .slice A l.length c :: .int .i64 (l.length:Int)::undef::vn::undef::undef::undef::undef::undef::undef::undef::undef::undef::undef::undef::undef::undef::undef::undef::undef::undef::undef::undef::undef::undef::undef::undef::undef::undef::undef::undef::undef::undef::undef::undef::undef::undef::undef::undef::undef::undef::undef::[]).toArray,[]⟩ w:=by
 refine bO [1,4] (by kernel_rfl) (by simp) ?_;intro i hi;have hi2:i=1∨i=4:=by simpa using hi
 clear hi;rcases hi2 with rfl | rfl
 ·refine aY (o:=⟨some 7,.call { callee:=.value (.func 226),args:=#[.tmp 6],argTypes:=#[219] },_,_,_,none⟩) rfl rfl ?_
  intro K hK;go_simp;refine (fB l A c w (hR.ext hb) hl).mono ?_;rintro e w2 ⟨⟨vr,rfl,hown⟩,hb2⟩;refine hK _ _ (Av bI hq hR hl (ag hb hb2) ?_);exact Hp.more (k:=1) hH (a':=.row 240 4 vr l.length (aF (Em.hold l))) rfl hb2 (gY hown hb.size) (fun g hg=>(hown.lt g hg).1) (fun j hj=>by match j with | 0 | 2 | 3 | 4 | 5 | 6=>rfl | 1=>exact absurd rfl hj | _+7=>rfl) rfl
 ·refine aY (o:=⟨some 10,.makeSlice 23 (.tmp 9) (.tmp 9),_,_,_,none⟩) rfl rfl ?_
  intro K hK;have hmk:=fun w=>run_mk dZ (z:=.int .i64 0) (by kernel_rfl) l.length (by omega) (by omega) w;have hown:=Lib.hid (cW w w0.heap.size 1 l.length 3 #[.int .i64 0] hb.size (by omega));replace hown:=Lib.hid (by have:=hown.out;rwa [bP] at this);simp only [Value.cells] at hmk;generalize madeCells _ (l.length*1)=C at *;go_simp;refine hK _ _ (BE bI hq hR hl (hb.alloc hb.size _) ?_);exact Hp.more (k:=2) hH (a':=.row 3 1 (.slice (some ⟨w.heap.size,0,none⟩) l.length l.length) l.length (aB (List.replicate l.length 0))) rfl (aa w _) hown.out (fun g hg=>by have e:w.heap.size=g:=Option.some.inj hg;omega) (fun j hj=>by match j with | 0 | 1 | 3 | 4 | 5 | 6=>rfl | 2=>exact absurd rfl hj | _+7=>rfl) rfl
theorem Ry {l:List Em.R}{A:Option Addr}{c:Nat}{w0 w:World}{Q:Exit→Act→World→Prop}{vr:Value}(bI:ld Q) (hq:dR l A c w0 Q) (hR:Row w0 w0.heap.size 4 A l.length (aF l)) (hl:l.length≤4000000) (hb:Below w0.heap.size w0 w)
  (hH:Hp w w0.heap.size (rm none (uw l vr) none none)):wpAnyH Tryz.prog .any j8 Q (fun _=>True) 5 #[true,true,true,true,false,false,false,false,false] ⟨(.slice A l.length c::undef :: .slice none 0 0::undef::undef::undef :: .slice A l.length c::vr :: .slice A l.length c :: .int .i64 (l.length:Int)::undef::undef::undef::undef::undef::undef::undef::undef::undef::undef::undef::undef::undef::undef::undef::undef::undef::undef::undef::undef::undef::undef::undef::undef::undef::undef::undef::undef::undef::undef::undef::undef::undef::undef::undef::undef::undef::undef::undef::undef::[]).toArray,[]⟩ w:=by
 refine bO [4,5,7] (by kernel_rfl) (by simp) ?_;intro i hi;have hi2:i=4∨i=5∨i=7:=by simpa using hi
 clear hi;rcases hi2 with rfl | rfl | rfl
 ·refine aY (o:=⟨some 10,.makeSlice 23 (.tmp 9) (.tmp 9),_,_,_,none⟩) rfl rfl ?_
  intro K hK;have hmk:=fun w=>run_mk dZ (z:=.int .i64 0) (by kernel_rfl) l.length (by omega) (by omega) w;have hown:=Lib.hid (cW w w0.heap.size 1 l.length 3 #[.int .i64 0] hb.size (by omega));replace hown:=Lib.hid (by have:=hown.out;rwa [bP] at this);simp only [Value.cells] at hmk;generalize madeCells _ (l.length*1)=C at *;go_simp;refine hK _ _ (ID bI hq hR hl (hb.alloc hb.size _) ?_);exact Hp.more (k:=2) hH (a':=.row 3 1 (.slice (some ⟨w.heap.size,0,none⟩) l.length l.length) l.length (aB (List.replicate l.length 0))) rfl (aa w _) hown.out (fun g hg=>by have e:w.heap.size=g:=Option.some.inj hg;omega) (fun j hj=>by match j with | 0 | 1 | 3 | 4 | 5 | 6=>rfl | 2=>exact absurd rfl hj | _+7=>rfl) rfl
 ·refine aY (o:=⟨some 11,.makeSlice 23 (.const (.int .i64 1536)) (.const (.int .i64 1536)),_,_,_,none⟩) rfl rfl ?_
  intro K hK;have hmk:∀ w,(Instr.makeSlice 23 (.int .i64 1536) (.int .i64 1536)).run Tryz.prog w=.ok (.slice (some ⟨w.heap.size,0,none⟩) 1536 1536) (w.alloc (.cells (madeCells (Value.int .i64 0).cells (1536*1)) 3)):=fun w=>run_mk dZ (z:=.int .i64 0) (by kernel_rfl) 1536 (by omega) (by omega) w;have hown:=Lib.hid (cW w w0.heap.size 1 1536 3 #[.int .i64 0] hb.size (by omega));replace hown:=Lib.hid (by have:=hown.out;rwa [bP] at this);simp only [Value.cells] at hmk;generalize madeCells _ (1536*1)=C at *;go_simp;refine hK _ _ (HO bI hq hR hl (hb.alloc hb.size _) ?_);exact Hp.more (k:=4) hH (a':=.row 3 1 (.slice (some ⟨w.heap.size,0,none⟩) 1536 1536) 1536 (aB (List.replicate 1536 0))) rfl (aa w _) hown.out (fun g hg=>by have e:w.heap.size=g:=Option.some.inj hg;omega) (fun j hj=>by match j with | 0 | 1 | 2 | 3 | 5 | 6=>rfl | 4=>exact absurd rfl hj | _+7=>rfl) rfl
 ·refine aY (o:=⟨some 3,.alloc 257,_,_,_,none⟩) rfl rfl ?_
  intro K hK;go_simp;refine hK _ _ (IM bI hq hR hl (hb.alloc hb.size _) ?_);exact Hp.more (k:=0) hH (a':=.blk w.heap.size nk 257) rfl (aa w _) ⟨hb.size,heap_alloc_new w _⟩ (fun g hg=>by have e:w.heap.size=g:=Option.some.inj hg;omega) (fun j hj=>by match j with | 0=>exact absurd rfl hj | 1 | 2 | 3 | 4 | 5 | 6=>rfl | _+7=>rfl) rfl
theorem Rh {l:List Em.R}{A:Option Addr}{c:Nat}{w0 w:World}{Q:Exit→Act→World→Prop}{vl:Value}(bI:ld Q) (hq:dR l A c w0 Q) (hR:Row w0 w0.heap.size 4 A l.length (aF l)) (hl:l.length≤4000000) (hb:Below w0.heap.size w0 w)
  (hH:Hp w w0.heap.size (rm none none (iU l.length vl) none)):wpAnyH Tryz.prog .any j8 Q (fun _=>True) 5 #[true,false,true,true,true,false,false,false,false] ⟨(.slice A l.length c::undef :: .slice none 0 0::undef::undef::undef :: .slice A l.length c::undef :: .slice A l.length c :: .int .i64 (l.length:Int)::vl::undef::undef::undef::undef::undef::undef::undef::undef::undef::undef::undef::undef::undef::undef::undef::undef::undef::undef::undef::undef::undef::undef::undef::undef::undef::undef::undef::undef::undef::undef::undef::undef::undef::undef::undef::undef::undef::undef::undef::[]).toArray,[]⟩ w:=by
 refine bO [1,5,7] (by kernel_rfl) (by simp) ?_;intro i hi;have hi2:i=1∨i=5∨i=7:=by simpa using hi
 clear hi;rcases hi2 with rfl | rfl | rfl
 ·refine aY (o:=⟨some 7,.call { callee:=.value (.func 226),args:=#[.tmp 6],argTypes:=#[219] },_,_,_,none⟩) rfl rfl ?_
  intro K hK;go_simp;refine (fB l A c w (hR.ext hb) hl).mono ?_;rintro e w2 ⟨⟨vr,rfl,hown⟩,hb2⟩;refine hK _ _ (ID bI hq hR hl (ag hb hb2) ?_);exact Hp.more (k:=1) hH (a':=.row 240 4 vr l.length (aF (Em.hold l))) rfl hb2 (gY hown hb.size) (fun g hg=>(hown.lt g hg).1) (fun j hj=>by match j with | 0 | 2 | 3 | 4 | 5 | 6=>rfl | 1=>exact absurd rfl hj | _+7=>rfl) rfl
 ·refine aY (o:=⟨some 11,.makeSlice 23 (.const (.int .i64 1536)) (.const (.int .i64 1536)),_,_,_,none⟩) rfl rfl ?_
  intro K hK;have hmk:∀ w,(Instr.makeSlice 23 (.int .i64 1536) (.int .i64 1536)).run Tryz.prog w=.ok (.slice (some ⟨w.heap.size,0,none⟩) 1536 1536) (w.alloc (.cells (madeCells (Value.int .i64 0).cells (1536*1)) 3)):=fun w=>run_mk dZ (z:=.int .i64 0) (by kernel_rfl) 1536 (by omega) (by omega) w;have hown:=Lib.hid (cW w w0.heap.size 1 1536 3 #[.int .i64 0] hb.size (by omega));replace hown:=Lib.hid (by have:=hown.out;rwa [bP] at this);simp only [Value.cells] at hmk;generalize madeCells _ (1536*1)=C at *;go_simp;refine hK _ _ (Ir bI hq hR hl (hb.alloc hb.size _) ?_);exact Hp.more (k:=4) hH (a':=.row 3 1 (.slice (some ⟨w.heap.size,0,none⟩) 1536 1536) 1536 (aB (List.replicate 1536 0))) rfl (aa w _) hown.out (fun g hg=>by have e:w.heap.size=g:=Option.some.inj hg;omega) (fun j hj=>by match j with | 0 | 1 | 2 | 3 | 5 | 6=>rfl | 4=>exact absurd rfl hj | _+7=>rfl) rfl
 ·refine aY (o:=⟨some 3,.alloc 257,_,_,_,none⟩) rfl rfl ?_
  intro K hK;go_simp;refine hK _ _ (HV bI hq hR hl (hb.alloc hb.size _) ?_);exact Hp.more (k:=0) hH (a':=.blk w.heap.size nk 257) rfl (aa w _) ⟨hb.size,heap_alloc_new w _⟩ (fun g hg=>by have e:w.heap.size=g:=Option.some.inj hg;omega) (fun j hj=>by match j with | 0=>exact absurd rfl hj | 1 | 2 | 3 | 4 | 5 | 6=>rfl | _+7=>rfl) rfl
theorem RC {l:List Em.R}{A:Option Addr}{c:Nat}{w0 w:World}{Q:Exit→Act→World→Prop}{vn:Value}(bI:ld Q) (hq:dR l A c w0 Q) (hR:Row w0 w0.heap.size 4 A l.length (aF l)) (hl:l.length≤4000000) (hb:Below w0.heap.size w0 w)
  (hH:Hp w w0.heap.size (rm none none none (iU 1536 vn))):wpAnyH Tryz.prog .any j8 Q (fun _=>True) 5 #[true,false,true,true,false,true,false,false,false] ⟨(.slice A l.length c::undef :: .slice none 0 0::undef::undef::undef :: .slice A l.length c::undef :: .slice A l.length c :: .int .i64 (l.length:Int)::undef::vn::undef::undef::undef::undef::undef::undef::undef::undef::undef::undef::undef::undef::undef::undef::undef::undef::undef::undef::undef::undef::undef::undef::undef::undef::undef::undef::undef::undef::undef::undef::undef::undef::undef::undef::undef::undef::undef::undef::[]).toArray,[]⟩ w:=by
 refine bO [1,4,7] (by kernel_rfl) (by simp) ?_;intro i hi;have hi2:i=1∨i=4∨i=7:=by simpa using hi
 clear hi;rcases hi2 with rfl | rfl | rfl
 ·refine aY (o:=⟨some 7,.call { callee:=.value (.func 226),args:=#[.tmp 6],argTypes:=#[219] },_,_,_,none⟩) rfl rfl ?_
  intro K hK;go_simp;refine (fB l A c w (hR.ext hb) hl).mono ?_;rintro e w2 ⟨⟨vr,rfl,hown⟩,hb2⟩;refine hK _ _ (HO bI hq hR hl (ag hb hb2) ?_);exact Hp.more (k:=1) hH (a':=.row 240 4 vr l.length (aF (Em.hold l))) rfl hb2 (gY hown hb.size) (fun g hg=>(hown.lt g hg).1) (fun j hj=>by match j with | 0 | 2 | 3 | 4 | 5 | 6=>rfl | 1=>exact absurd rfl hj | _+7=>rfl) rfl
 ·refine aY (o:=⟨some 10,.makeSlice 23 (.tmp 9) (.tmp 9),_,_,_,none⟩) rfl rfl ?_
  intro K hK;have hmk:=fun w=>run_mk dZ (z:=.int .i64 0) (by kernel_rfl) l.length (by omega) (by omega) w;have hown:=Lib.hid (cW w w0.heap.size 1 l.length 3 #[.int .i64 0] hb.size (by omega));replace hown:=Lib.hid (by have:=hown.out;rwa [bP] at this);simp only [Value.cells] at hmk;generalize madeCells _ (l.length*1)=C at *;go_simp;refine hK _ _ (Ir bI hq hR hl (hb.alloc hb.size _) ?_);exact Hp.more (k:=2) hH (a':=.row 3 1 (.slice (some ⟨w.heap.size,0,none⟩) l.length l.length) l.length (aB (List.replicate l.length 0))) rfl (aa w _) hown.out (fun g hg=>by have e:w.heap.size=g:=Option.some.inj hg;omega) (fun j hj=>by match j with | 0 | 1 | 3 | 4 | 5 | 6=>rfl | 2=>exact absurd rfl hj | _+7=>rfl) rfl
 ·refine aY (o:=⟨some 3,.alloc 257,_,_,_,none⟩) rfl rfl ?_
  intro K hK;go_simp;refine hK _ _ (Im bI hq hR hl (hb.alloc hb.size _) ?_);exact Hp.more (k:=0) hH (a':=.blk w.heap.size nk 257) rfl (aa w _) ⟨hb.size,heap_alloc_new w _⟩ (fun g hg=>by have e:w.heap.size=g:=Option.some.inj hg;omega) (fun j hj=>by match j with | 0=>exact absurd rfl hj | 1 | 2 | 3 | 4 | 5 | 6=>rfl | _+7=>rfl) rfl
theorem S4 {l:List Em.R}{A:Option Addr}{c:Nat}{w0 w:World}{Q:Exit→Act→World→Prop}{b:Nat}(bI:ld Q) (hq:dR l A c w0 Q) (hR:Row w0 w0.heap.size 4 A l.length (aF l)) (hl:l.length≤4000000) (hb:Below w0.heap.size w0 w)
  (hH:Hp w w0.heap.size (rm (wV b) none none none)):wpAnyH Tryz.prog .any j8 Q (fun _=>True) 5 #[true,false,true,true,false,false,false,true,false] ⟨(.slice A l.length c::undef :: .slice none 0 0 :: .pointer (some ⟨b,0,none⟩)::undef::undef :: .slice A l.length c::undef :: .slice A l.length c :: .int .i64 (l.length:Int)::undef::undef::undef::undef::undef::undef::undef::undef::undef::undef::undef::undef::undef::undef::undef::undef::undef::undef::undef::undef::undef::undef::undef::undef::undef::undef::undef::undef::undef::undef::undef::undef::undef::undef::undef::undef::undef::undef::undef::undef::[]).toArray,[]⟩ w:=by
 refine bO [1,4,5] (by kernel_rfl) (by simp) ?_;intro i hi;have hi2:i=1∨i=4∨i=5:=by simpa using hi
 clear hi;rcases hi2 with rfl | rfl | rfl
 ·refine aY (o:=⟨some 7,.call { callee:=.value (.func 226),args:=#[.tmp 6],argTypes:=#[219] },_,_,_,none⟩) rfl rfl ?_
  intro K hK;go_simp;refine (fB l A c w (hR.ext hb) hl).mono ?_;rintro e w2 ⟨⟨vr,rfl,hown⟩,hb2⟩;refine hK _ _ (IM bI hq hR hl (ag hb hb2) ?_);exact Hp.more (k:=1) hH (a':=.row 240 4 vr l.length (aF (Em.hold l))) rfl hb2 (gY hown hb.size) (fun g hg=>(hown.lt g hg).1) (fun j hj=>by match j with | 0 | 2 | 3 | 4 | 5 | 6=>rfl | 1=>exact absurd rfl hj | _+7=>rfl) rfl
 ·refine aY (o:=⟨some 10,.makeSlice 23 (.tmp 9) (.tmp 9),_,_,_,none⟩) rfl rfl ?_
  intro K hK;have hmk:=fun w=>run_mk dZ (z:=.int .i64 0) (by kernel_rfl) l.length (by omega) (by omega) w;have hown:=Lib.hid (cW w w0.heap.size 1 l.length 3 #[.int .i64 0] hb.size (by omega));replace hown:=Lib.hid (by have:=hown.out;rwa [bP] at this);simp only [Value.cells] at hmk;generalize madeCells _ (l.length*1)=C at *;go_simp;refine hK _ _ (HV bI hq hR hl (hb.alloc hb.size _) ?_);exact Hp.more (k:=2) hH (a':=.row 3 1 (.slice (some ⟨w.heap.size,0,none⟩) l.length l.length) l.length (aB (List.replicate l.length 0))) rfl (aa w _) hown.out (fun g hg=>by have e:w.heap.size=g:=Option.some.inj hg;omega) (fun j hj=>by match j with | 0 | 1 | 3 | 4 | 5 | 6=>rfl | 2=>exact absurd rfl hj | _+7=>rfl) rfl
 ·refine aY (o:=⟨some 11,.makeSlice 23 (.const (.int .i64 1536)) (.const (.int .i64 1536)),_,_,_,none⟩) rfl rfl ?_
  intro K hK;have hmk:∀ w,(Instr.makeSlice 23 (.int .i64 1536) (.int .i64 1536)).run Tryz.prog w=.ok (.slice (some ⟨w.heap.size,0,none⟩) 1536 1536) (w.alloc (.cells (madeCells (Value.int .i64 0).cells (1536*1)) 3)):=fun w=>run_mk dZ (z:=.int .i64 0) (by kernel_rfl) 1536 (by omega) (by omega) w;have hown:=Lib.hid (cW w w0.heap.size 1 1536 3 #[.int .i64 0] hb.size (by omega));replace hown:=Lib.hid (by have:=hown.out;rwa [bP] at this);simp only [Value.cells] at hmk;generalize madeCells _ (1536*1)=C at *;go_simp;refine hK _ _ (Im bI hq hR hl (hb.alloc hb.size _) ?_);exact Hp.more (k:=4) hH (a':=.row 3 1 (.slice (some ⟨w.heap.size,0,none⟩) 1536 1536) 1536 (aB (List.replicate 1536 0))) rfl (aa w _) hown.out (fun g hg=>by have e:w.heap.size=g:=Option.some.inj hg;omega) (fun j hj=>by match j with | 0 | 1 | 2 | 3 | 5 | 6=>rfl | 4=>exact absurd rfl hj | _+7=>rfl) rfl
theorem SX {l:List Em.R}{A:Option Addr}{c:Nat}{w0 w:World}{Q:Exit→Act→World→Prop}(bI:ld Q) (hq:dR l A c w0 Q) (hR:Row w0 w0.heap.size 4 A l.length (aF l)) (hl:l.length≤4000000) (hb:Below w0.heap.size w0 w)
  (hH:Hp w w0.heap.size (rm none none none none)):wpAnyH Tryz.prog .any j8 Q (fun _=>True) 6 #[true,false,true,true,false,false,false,false,false] ⟨(.slice A l.length c::undef :: .slice none 0 0::undef::undef::undef :: .slice A l.length c::undef :: .slice A l.length c :: .int .i64 (l.length:Int)::undef::undef::undef::undef::undef::undef::undef::undef::undef::undef::undef::undef::undef::undef::undef::undef::undef::undef::undef::undef::undef::undef::undef::undef::undef::undef::undef::undef::undef::undef::undef::undef::undef::undef::undef::undef::undef::undef::undef::undef::[]).toArray,[]⟩ w:=by
 refine bO [1,4,5,7] (by kernel_rfl) (by simp) ?_;intro i hi;have hi2:i=1∨i=4∨i=5∨i=7:=by simpa using hi
 clear hi;rcases hi2 with rfl | rfl | rfl | rfl
 ·refine aY (o:=⟨some 7,.call { callee:=.value (.func 226),args:=#[.tmp 6],argTypes:=#[219] },_,_,_,none⟩) rfl rfl ?_
  intro K hK;go_simp;refine (fB l A c w (hR.ext hb) hl).mono ?_;rintro e w2 ⟨⟨vr,rfl,hown⟩,hb2⟩;refine hK _ _ (Ry bI hq hR hl (ag hb hb2) ?_);exact Hp.more (k:=1) hH (a':=.row 240 4 vr l.length (aF (Em.hold l))) rfl hb2 (gY hown hb.size) (fun g hg=>(hown.lt g hg).1) (fun j hj=>by match j with | 0 | 2 | 3 | 4 | 5 | 6=>rfl | 1=>exact absurd rfl hj | _+7=>rfl) rfl
 ·refine aY (o:=⟨some 10,.makeSlice 23 (.tmp 9) (.tmp 9),_,_,_,none⟩) rfl rfl ?_
  intro K hK;have hmk:=fun w=>run_mk dZ (z:=.int .i64 0) (by kernel_rfl) l.length (by omega) (by omega) w;have hown:=Lib.hid (cW w w0.heap.size 1 l.length 3 #[.int .i64 0] hb.size (by omega));replace hown:=Lib.hid (by have:=hown.out;rwa [bP] at this);simp only [Value.cells] at hmk;generalize madeCells _ (l.length*1)=C at *;go_simp;refine hK _ _ (Rh bI hq hR hl (hb.alloc hb.size _) ?_);exact Hp.more (k:=2) hH (a':=.row 3 1 (.slice (some ⟨w.heap.size,0,none⟩) l.length l.length) l.length (aB (List.replicate l.length 0))) rfl (aa w _) hown.out (fun g hg=>by have e:w.heap.size=g:=Option.some.inj hg;omega) (fun j hj=>by match j with | 0 | 1 | 3 | 4 | 5 | 6=>rfl | 2=>exact absurd rfl hj | _+7=>rfl) rfl
 ·refine aY (o:=⟨some 11,.makeSlice 23 (.const (.int .i64 1536)) (.const (.int .i64 1536)),_,_,_,none⟩) rfl rfl ?_
  intro K hK;have hmk:∀ w,(Instr.makeSlice 23 (.int .i64 1536) (.int .i64 1536)).run Tryz.prog w=.ok (.slice (some ⟨w.heap.size,0,none⟩) 1536 1536) (w.alloc (.cells (madeCells (Value.int .i64 0).cells (1536*1)) 3)):=fun w=>run_mk dZ (z:=.int .i64 0) (by kernel_rfl) 1536 (by omega) (by omega) w;have hown:=Lib.hid (cW w w0.heap.size 1 1536 3 #[.int .i64 0] hb.size (by omega));replace hown:=Lib.hid (by have:=hown.out;rwa [bP] at this);simp only [Value.cells] at hmk;generalize madeCells _ (1536*1)=C at *;go_simp;refine hK _ _ (RC bI hq hR hl (hb.alloc hb.size _) ?_);exact Hp.more (k:=4) hH (a':=.row 3 1 (.slice (some ⟨w.heap.size,0,none⟩) 1536 1536) 1536 (aB (List.replicate 1536 0))) rfl (aa w _) hown.out (fun g hg=>by have e:w.heap.size=g:=Option.some.inj hg;omega) (fun j hj=>by match j with | 0 | 1 | 2 | 3 | 5 | 6=>rfl | 4=>exact absurd rfl hj | _+7=>rfl) rfl
 ·refine aY (o:=⟨some 3,.alloc 257,_,_,_,none⟩) rfl rfl ?_
  intro K hK;go_simp;refine hK _ _ (S4 bI hq hR hl (hb.alloc hb.size _) ?_);exact Hp.more (k:=0) hH (a':=.blk w.heap.size nk 257) rfl (aa w _) ⟨hb.size,heap_alloc_new w _⟩ (fun g hg=>by have e:w.heap.size=g:=Option.some.inj hg;omega) (fun j hj=>by match j with | 0=>exact absurd rfl hj | 1 | 2 | 3 | 4 | 5 | 6=>rfl | _+7=>rfl) rfl
theorem MZ {l:List Em.R}{A:Option Addr}{c:Nat}{w0:World}{Q:Exit→Act→World→Prop}(bI:ld Q) (hq:dR l A c w0 Q) (hR:Row w0 w0.heap.size 4 A l.length (aF l)) (hl:l.length≤4000000) :
  Code.wp Tryz.prog (Dw Tryz.f201 1) Q ⟨(.slice A l.length c::undef :: .slice none 0 0::undef::undef::undef::undef::undef::undef::undef::undef::undef::undef::undef::undef::undef::undef::undef::undef::undef::undef::undef::undef::undef::undef::undef::undef::undef::undef::undef::undef::undef::undef::undef::undef::undef::undef::undef::undef::undef::undef::undef::undef::undef::undef::undef::undef::undef::undef::undef::[]).toArray,[]⟩ w0:=by
 show Code.wp Tryz.prog (Code.region 1 j8 true) Q _ w0;refine wp_region_held (S:=fun _=>True) (by kernel_rfl) ?_;show wpAnyH Tryz.prog .any j8 Q (fun _=>True) 9 #[false,false,false,false,false,false,false,false,false] _ _;refine pW (i:=0) (o:=⟨some 6,.move (.tmp 0),_,_,_,none⟩) (.slice A l.length c) rfl rfl (by kernel_rfl) (by kernel_rfl) (by kernel_rfl) bI (fun w'=>by go_simp) ?_;refine pW (i:=2) (o:=⟨some 8,.move (.tmp 0),_,_,_,none⟩) (.slice A l.length c) rfl rfl (by kernel_rfl) (by kernel_rfl) (by kernel_rfl) bI (fun w'=>by go_simp) ?_;refine pW (i:=3) (o:=⟨some 9,.call { callee:=.builtin .len,args:=#[.tmp 8],argTypes:=#[219] },_,_,_,none⟩) (.int .i64 (l.length:Int)) rfl rfl (by kernel_rfl) (by kernel_rfl) (by kernel_rfl) bI (fun w'=>by go_simp) ?_;exact SX bI hq hR hl (Below.refl _ _).drew (O2 _ _)
end Go.Proofs.YtddkjkockbcamaaGreatDoor
end
set_option maxHeartbeats 16000000
set_option maxRecDepth 100000
namespace Go.Proofs.YtddkjkockbcamaaGreatDoor.Il
open Go.Lib
theorem E6 {t:List UInt8}(h:t≠[]):Ru.enc (Ru.aP t)≠[]:=by
 intro h0;have:=(Ru.wZ).1 h0;rw [Ru.dM h] at this;cases this
end Go.Proofs.YtddkjkockbcamaaGreatDoor.Il
namespace Go.Proofs.YtddkjkockbcamaaGreatDoor.Hm
open Go.Lib
theorem zk:∀ {l:List UInt8},(∀ b∈l,b≠62)→upTo l=none
 | [],_=>rfl
 | b::l,h=>by
  unfold upTo;rw [if_neg (h b (by simp)),zk (fun c hc=>h c (by simp [hc]))];rfl
theorem Hs {t:List UInt8}(h0:t≠[]) (h:t.getLastD 0=47) (st:List (List UInt8)):turn t st=some st:=by unfold turn;rw [if_pos ⟨h0,h⟩]
theorem MW {t:List UInt8}(h:t=[]∨(t.getLastD 0≠47∧t.getD 0 0≠47)) (st:List (List UInt8)):turn t st=some (name t::st):=by
 unfold turn;rcases h with rfl | ⟨h1,h2⟩
 ·rfl
 ·rw [if_neg (fun hc=>h1 hc.2),if_neg (fun hc=>h2 hc.1)]
theorem KQ {t:List UInt8}(h0:t≠[]) (h1:t.getLastD 0≠47) (h2:t.getD 0 0=47):turn t []=none:=by
 unfold turn;rw [if_neg (fun hc=>h1 hc.2),if_pos ⟨h2,h0⟩]
theorem O5 {t:List UInt8}(h0:t≠[]) (h1:t.getLastD 0≠47) (h2:t.getD 0 0=47) {n:List UInt8}{s:List (List UInt8)}(hn:n≠(name t).drop 1):turn t (n::s)=none:=by
 unfold turn;rw [if_neg (fun hc=>h1 hc.2),if_pos ⟨h2,h0⟩];simp only;rw [if_neg hn]
theorem SQ {t:List UInt8}(h0:t≠[]) (h1:t.getLastD 0≠47) (h2:t.getD 0 0=47) {n:List UInt8}{s:List (List UInt8)}(hn:n=(name t).drop 1):turn t (n::s)=some s:=by
 unfold turn;rw [if_neg (fun hc=>h1 hc.2),if_pos ⟨h2,h0⟩];simp only;rw [if_pos hn]
end Go.Proofs.YtddkjkockbcamaaGreatDoor.Hm
