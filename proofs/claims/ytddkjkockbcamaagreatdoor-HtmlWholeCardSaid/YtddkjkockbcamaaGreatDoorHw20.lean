/- IlPPut IlPSay2 EmKd EmPB IlRightM HmBalM HmBal -/
import Derived.Test.YtddkjkockbcamaaGreatDoorHw19
import Derived.Test.YtddkjkockbcamaaGreatDoorHw18
import Derived.Test.YtddkjkockbcamaaGreatDoorHw17
import Derived.Test.YtddkjkockbcamaaGreatDoorHw03
import Derived.Deep.DeepCutAuto
import Derived.Test.YtddkjkockbcamaaGreatDoorHw04
import Derived.Test.YtddkjkockbcamaaGreatDoorHw02
import Derived.Deep.QuietTactic
import Derived.BigQuiet
set_option maxHeartbeats 16000000
set_option maxRecDepth 100000
namespace Go.Proofs.YtddkjkockbcamaaGreatDoor
open Go.RowKit
attribute [local go_sem] aD av aq
theorem Hq.oD {K:Type}{w:World}{B:Nat}{m:K→Option Pa}(h:Hq w B m):b7 B m w m w.drew :=
 ⟨⟨fun k a ha=>by have:=h.holds k a ha;cases a<;>exact this,h.apart⟩,⟨rfl,rfl,rfl,Nat.le_refl _,fun _ _=>rfl⟩,fun _ hb=>⟨rfl,hb⟩⟩
theorem Lb {w:World}{g size n:Nat}{C:Array Value}{T:TypeId}(h:w.heap[g]? = some (.cells C T)) (hn:C.size=n*size):Row w w.heap.size size (some ⟨g,0,none⟩) n C.toList:=by
 refine ⟨by simpa using hn,fun _=>⟨g,0,rfl,(Array.getElem?_eq_some_iff.1 h).1,fun j u hj=>?_⟩⟩;rw [ah h];simpa using hj
section
variable {m:Ky→Option Pa}{k:Ks}{C:Value→Value→Pa}{R:Il.Rw}{vi vp:Value}{css:List (List Value)}{w:World}{B g o:Nat}
theorem Bg (hk:k.ok) (hC:Cn g o C) (h:Hq w B (aR m k C ⟨R.full,[]⟩ vi vp css)) (hI:iq w (Fr w B (aR m k C ⟨R.full,[]⟩ vi vp css)) R.full css) (hB:B≤w.heap.size) {x:Il.In}{xc:List Value}(hx:IC w (Fr w B (aR m k C ⟨R.full,[]⟩ vi vp css)) x xc)
  {w':World}{v':Value}(ho:w'.ownsRow B 35 4 v' (R.full.length+1) (css.flatten++xc)) (hg:w.grownBy w' vi.ownBlock) (hat:At w.heap.size vi v') :
  b7 B (aR m k C ⟨R.full,[]⟩ vi vp css) w (aR m k C (R.put x) v' vp (css++[xc])) (w'.setCell ⟨g,o,none⟩ v')∧iq (w'.setCell ⟨g,o,none⟩ v') (Fr (w'.setCell ⟨g,o,none⟩ v') B (aR m k C (R.put x) v' vp (css++[xc]))) (R.put x).l (css++[xc]):=by
 have t:=oX hk hC h hB (R':=R.put x) (css':=css++[xc]) rfl hg (by
  have e:(R.put x).l.length=R.full.length+1:=by simp [Il.Rw.put]
  rw [e];simpa using ho) hat
 exact ⟨t,oY (t.kids hI) (t.kid hx)⟩
theorem yT (hk:k.ok) (hC:Cn g o C) (h:Hq w B (aR m k C R vi vp css)) (hI:iq w (Fr w B (aR m k C R vi vp css)) R.l css) (hB:B≤w.heap.size) (hl:R.p.length≤10000000000) (rG:R.l.length≤10000000000)
  (kd:Nat) (t d:List UInt8) (ks:List Il.In) (AK:Option Addr) (cK:Nat) (hx:IC w (Fr w B (aR m k C R vi vp css)) (.mk kd t d ks) [.int .i64 (kd:Int),.string (bs t),.string (bs d),.slice AK ks.length cK]) :
  Calls Tryz.prog 198 #[.pointer (some ⟨g,o,none⟩),.agg #[.int .i64 (kd:Int),.string (bs t),.string (bs d),.slice AK ks.length cK]] w fun e w'=>e=.returned (.tuple #[])∧∃ vi' vp' css',b7 B (aR m k C R vi vp css) w (aR m k C (R.put (.mk kd t d ks)) vi' vp' css') w'∧iq w' (Fr w' B (aR m k C (R.put (.mk kd t d ks)) vi' vp' css')) (R.put (.mk kd t d ks)).l css':=by
 have hfl:=R.La.1;have t0:=h.call (w':=w.alloc (.cells #[.int .i64 (kd:Int),.string (bs t),.string (bs d),.slice AK ks.length cK] 35)) hB (aa w _);have hf0:=Hq.new (w':=w.alloc (.cells #[.int .i64 (kd:Int),.string (bs t),.string (bs d),.slice AK ks.length cK] 35)) h hB (b:=w.heap.size) (Nat.le_refl _) (by simp);have hb0:(w.alloc (.cells #[.int .i64 (kd:Int),.string (bs t),.string (bs d),.slice AK ks.length cK] 35)).heap[w.heap.size]? = some (.cells #[.int .i64 (kd:Int),.string (bs t),.string (bs d),.slice AK ks.length cK] 35):=heap_alloc_new w _;have td:=t0.trans t0.hp.oD;have hID:=td.kids hI;have hxD:=td.kid hx;obtain ⟨wd,hwd⟩:∃ wd,wd=(w.alloc (.cells #[.int .i64 (kd:Int),.string (bs t),.string (bs d),.slice AK ks.length cK] 35)).drew:=⟨_,rfl⟩
 have Ua:(fun u:World=>u.heap[w.heap.size]? = some (.cells #[.int .i64 (kd:Int),.string (bs t),.string (bs d),.slice AK ks.length cK] 35)) wd:=by rw [hwd];exact hb0
 have CU:Fr wd B (aR m k C R vi vp css) w.heap.size:=by rw [hwd];exact hf0
 have HP:B≤wd.heap.size:=by rw [hwd];simp;omega
 rw [← hwd] at td hID hxD;clear t0 hf0 hb0 h hI hx;go_enter Tryz.func198,Tryz.ntmps198;go_upto_region 1 with fail
 refine aF (.rd 0 (.rd 1 (.rd 3 (.fk 2 (.mk 4 (.mk 5 (.rd 6 (.rd 7 (.mk 8 .fin))))) 4 (.mk 2 (.mk 5 (.rd 6 (.rd 7 (.mk 8 .fin))))))))) (fun u:World=>u.heap[w.heap.size]? = some (.cells #[.int .i64 (kd:Int),.string (bs t),.string (bs d),.slice AK ks.length cK] 35)) (hwd▸Ua) (by kernel_rfl) (by kernel_rfl) (by kernel_rfl) (fun _ _ d _ _ h=>by cases d<;>exact h) ?_;rw [← hwd];clear hwd
 iterate 2 (first | refine an rfl ?_ | (refine az rfl ?_;intro K hK;go_simp;refine hK _ _ _ ?_;clear hK K))
 refine aJ (.agg #[.int .i64 (kd:Int),.string (bs t),.string (bs d),.slice AK ks.length cK]) rfl rfl Ua (fun u hu=>by
  have h0:=ah (j:=0) hu;have h1:=ah (j:=1) hu;have h2:=ah (j:=2) hu;have h3:=ah (j:=3) hu;go_simp) ?_
 refine jh ?wa ?wb
 case' wa =>
  refine aE rfl ?_;intro K hK;go_simp;refine (lB hk hC td.hp hID HP (by omega) (by omega)).mono ?_;rintro e w1 ⟨vi1,rfl,vp1,css1,t1,J3⟩;have hx1:=t1.kid hxD;obtain ⟨FQ,Ct⟩:=t1.fre _ CU;have hS1:(fun u:World=>u.heap[w.heap.size]? = some (.cells #[.int .i64 (kd:Int),.string (bs t),.string (bs d),.slice AK ks.length cK] 35)) w1:=FQ.trans Ua;refine ⟨_,hS1,fun _ h=>h,hK _ _ _ ?_⟩;clear hK K;refine aE rfl ?_;intro K hK;go_simp;have Zv:=Nat.le_trans HP t1.bel.size;have ta:=t1.hp.call (w':=w1.alloc (.cells #[.int .i64 (kd:Int),.string (bs t),.string (bs d),.slice AK ks.length cK] 35)) Zv (aa w1 _);have zJ:(w1.alloc (.cells #[.int .i64 (kd:Int),.string (bs t),.string (bs d),.slice AK ks.length cK] 35)).heap[w1.heap.size]? = some (.cells #[.int .i64 (kd:Int),.string (bs t),.string (bs d),.slice AK ks.length cK] 35):=heap_alloc_new w1 _;obtain ⟨Ef,hfr2⟩:=ta.fre _ Ct;replace hS1:(fun u:World=>u.heap[w.heap.size]? = some (.cells #[.int .i64 (kd:Int),.string (bs t),.string (bs d),.slice AK ks.length cK] 35)) (w1.alloc (.cells #[.int .i64 (kd:Int),.string (bs t),.string (bs d),.slice AK ks.length cK] 35)):=Ef.trans hS1;replace J3:=ta.kids J3;replace hx1:=ta.kid hx1;replace t1:=t1.trans ta;replace Ct:=hfr2;refine ⟨_,hS1,fun _ h=>h,hK _ _ _ ?_⟩;clear hK K ta Ef FQ;obtain ⟨bx,tv⟩:∃ bx,bx=w1.heap.size:=⟨_,rfl⟩
  rw [← tv] at zJ ⊢;clear tv;generalize w1.alloc (.cells #[.int .i64 (kd:Int),.string (bs t),.string (bs d),.slice AK ks.length cK] 35)=w2 at *;obtain ⟨c0,c1,cf,hBg,JZ,oi,op,nei,nep⟩:=eT hk hC t1.hp;have hBs:=Nat.le_trans HP t1.bel.size;have oi:w2.ownsRow B 35 4 vi1 R.full.length css1.flatten:=oi;obtain ⟨A2,c2,rfl,hc4⟩:=ak oi;refine mP rfl rfl (.tmp 6) (.tmp 8) rfl LU (v:=.slice A2 R.full.length c2) rfl oi rfl (Lb zJ (n:=1) rfl) (by intro u hu;simp at hu;rcases hu with rfl | rfl | rfl | rfl<;>rfl) (by omega) (by omega) hBs ?_;intro v' w' ho hg hb hat;obtain ⟨g',c',rfl,hc',J1,IV⟩:=gU ho (by omega);obtain ⟨d0,d1,df,dz⟩:=jI hk hC t1.hp hg.out nei;have Vl:(Value.slice A2 R.full.length c2).ownBlock≠some w.heap.size:=Ct.2.2 _ _ (iB hk);have fG:(fun u:World=>u.heap[w.heap.size]? = some (.cells #[.int .i64 (kd:Int),.string (bs t),.string (bs d),.slice AK ks.length cK] 35)) w':=(hg.out.block _ Ct.2.1 (fun e=>Vl e.symm)).trans hS1;refine ⟨_,fG,fun _ h=>h,?_⟩;obtain ⟨t3,qZ⟩:=Bg hk hC t1.hp J3 hBs hx1 ho hg.out hat.out;have t4:=Lib.hid (td.trans (t1.trans t3));have Z1:=Lib.hid qZ;have hgn:g≠w.heap.size:=fun e=>Ct.2.2 _ _ (mV hk) (by rw [hC.block,e]);have Af:(fun u:World=>u.heap[w.heap.size]? = some (.cells #[.int .i64 (kd:Int),.string (bs t),.string (bs d),.slice AK ks.length cK] 35)) (w'.setCell ⟨g,o,none⟩ (.slice (some ⟨g',0,none⟩) (R.full.length+1) c')):=(Below.heap_setCell _ _ _ _ (fun e=>hgn e.symm)).trans fG;clear t3 qZ ho hg hb hat d1 t1 J3 hx1 oi op nei nep c0 c1 cf
  iterate 2 (first | refine an rfl ?_ | (refine az rfl ?_;intro K hK;go_simp;refine hK _ _ _ ?_;clear hK K))
  refine aE rfl ?_;intro K hK;go_simp;refine ⟨_,Af,fun _ h=>h,hK _ _ _ ?_⟩;clear hK K;refine aQ ?_;go_wp2_with fail;go_returns;exact ⟨rfl,_,_,_,t4.out,Z1.out⟩
 case' wb =>
  refine aE rfl ?_;intro K hK;go_simp;have ta:=td.hp.call (w':=wd.alloc (.cells #[.int .i64 (kd:Int),.string (bs t),.string (bs d),.slice AK ks.length cK] 35)) HP (aa wd _);have zJ:(wd.alloc (.cells #[.int .i64 (kd:Int),.string (bs t),.string (bs d),.slice AK ks.length cK] 35)).heap[wd.heap.size]? = some (.cells #[.int .i64 (kd:Int),.string (bs t),.string (bs d),.slice AK ks.length cK] 35):=heap_alloc_new wd _;have ZT:=Hq.new (w':=wd.alloc (.cells #[.int .i64 (kd:Int),.string (bs t),.string (bs d),.slice AK ks.length cK] 35)) td.hp HP (b:=wd.heap.size) (Nat.le_refl _) (by simp);obtain ⟨Ef,hfr2⟩:=ta.fre _ CU;have hS1:(fun u:World=>u.heap[w.heap.size]? = some (.cells #[.int .i64 (kd:Int),.string (bs t),.string (bs d),.slice AK ks.length cK] 35)) (wd.alloc (.cells #[.int .i64 (kd:Int),.string (bs t),.string (bs d),.slice AK ks.length cK] 35)):=Ef.trans Ua;have TY:=ta.kids hID;have hx0:=ta.kid hxD;refine ⟨_,hS1,fun _ h=>h,hK _ _ _ ?_⟩;clear hK K Ef;have hBb:B≤(wd.alloc (.cells #[.int .i64 (kd:Int),.string (bs t),.string (bs d),.slice AK ks.length cK] 35)).heap.size:=by simp;omega
  obtain ⟨bx,tv⟩:∃ bx,bx=wd.heap.size:=⟨_,rfl⟩
  rw [← tv] at zJ ZT ⊢;clear tv;generalize wd.alloc (.cells #[.int .i64 (kd:Int),.string (bs t),.string (bs d),.slice AK ks.length cK] 35)=w1 at *;refine aE rfl ?_;intro K hK;go_simp;refine (lB hk hC ta.hp TY hBb (by omega) (by omega)).mono ?_;rintro e w2 ⟨vi1,rfl,vp1,css1,t1,J3⟩;have hx1:=t1.kid hx0;obtain ⟨FQ,Ct⟩:=t1.fre _ hfr2;replace zJ:=(t1.fre _ ZT).1.trans zJ;replace hS1:(fun u:World=>u.heap[w.heap.size]? = some (.cells #[.int .i64 (kd:Int),.string (bs t),.string (bs d),.slice AK ks.length cK] 35)) w2:=FQ.trans hS1;replace t1:=ta.trans t1;refine ⟨_,hS1,fun _ h=>h,hK _ _ _ ?_⟩;clear hK K TY hx0 ZT hfr2 FQ;obtain ⟨c0,c1,cf,hBg,JZ,oi,op,nei,nep⟩:=eT hk hC t1.hp;have hBs:=Nat.le_trans HP t1.bel.size;have oi:w2.ownsRow B 35 4 vi1 R.full.length css1.flatten:=oi;obtain ⟨A2,c2,rfl,hc4⟩:=ak oi;refine mP rfl rfl (.tmp 6) (.tmp 8) rfl LU (v:=.slice A2 R.full.length c2) rfl oi rfl (Lb zJ (n:=1) rfl) (by intro u hu;simp at hu;rcases hu with rfl | rfl | rfl | rfl<;>rfl) (by omega) (by omega) hBs ?_;intro v' w' ho hg hb hat;obtain ⟨g',c',rfl,hc',J1,IV⟩:=gU ho (by omega);obtain ⟨d0,d1,df,dz⟩:=jI hk hC t1.hp hg.out nei;have Vl:(Value.slice A2 R.full.length c2).ownBlock≠some w.heap.size:=Ct.2.2 _ _ (iB hk);have fG:(fun u:World=>u.heap[w.heap.size]? = some (.cells #[.int .i64 (kd:Int),.string (bs t),.string (bs d),.slice AK ks.length cK] 35)) w':=(hg.out.block _ Ct.2.1 (fun e=>Vl e.symm)).trans hS1;refine ⟨_,fG,fun _ h=>h,?_⟩;obtain ⟨t3,qZ⟩:=Bg hk hC t1.hp J3 hBs hx1 ho hg.out hat.out;have t4:=Lib.hid (td.trans (t1.trans t3));have Z1:=Lib.hid qZ;have hgn:g≠w.heap.size:=fun e=>Ct.2.2 _ _ (mV hk) (by rw [hC.block,e]);have Af:(fun u:World=>u.heap[w.heap.size]? = some (.cells #[.int .i64 (kd:Int),.string (bs t),.string (bs d),.slice AK ks.length cK] 35)) (w'.setCell ⟨g,o,none⟩ (.slice (some ⟨g',0,none⟩) (R.full.length+1) c')):=(Below.heap_setCell _ _ _ _ (fun e=>hgn e.symm)).trans fG;clear t3 qZ ho hg hb hat d1 t1 J3 hx1 oi op nei nep c0 c1 cf
  iterate 2 (first | refine an rfl ?_ | (refine az rfl ?_;intro K hK;go_simp;refine hK _ _ _ ?_;clear hK K))
  refine aE rfl ?_;intro K hK;go_simp;refine ⟨_,Af,fun _ h=>h,hK _ _ _ ?_⟩;clear hK K;refine aQ ?_;go_wp2_with fail;go_returns;exact ⟨rfl,_,_,_,t4.out,Z1.out⟩
end
end Go.Proofs.YtddkjkockbcamaaGreatDoor
namespace Go.Proofs.YtddkjkockbcamaaGreatDoor
open Go.RowKit
theorem b7.aside {K K':Type}{B:Nat}{m:K→Option Pa}{m':K'→Option Pa}{w wr wr2:World}{k0:Nat}(t:b7 B m w m' wr) (hk0:w.heap.size≤k0) (hB:B≤w.heap.size) (hfr:Fr wr B m' k0) (hg:wr.grownBy wr2 (some k0)):b7 B m w m' wr2∧Fr wr2 B m' k0:=by
 refine ⟨⟨⟨fun k a ha=>Pa.kept (t.hp.holds k a ha) hg (.inr (hfr.2.2 k a ha)),t.hp.apart⟩,?_,fun b hb=>?_⟩,hfr.1,Nat.lt_of_lt_of_le hfr.2.1 hg.size,hfr.2.2⟩
 ·exact ⟨hg.os.trans t.bel.os,hg.tape.trans t.bel.tape,hg.output.trans t.bel.output,Nat.le_trans t.bel.size hg.size,fun k hk=>(hg.block k (by have:=t.bel.size;omega) (fun e=>by injection e with e;omega)).trans (t.bel.block k hk)⟩
 ·obtain ⟨h1,h2⟩:=t.fre b hb
  exact ⟨(hg.block b h2.2.1 (fun e=>by have:=hb.2.1;injection e with e;omega)).trans h1,h2.1,Nat.lt_of_lt_of_le h2.2.1 hg.size,h2.2.2⟩
theorem Du (w:World) (k:Nat) (s:ByteArray) (pos:Nat):w.grownBy (w.iterAt k s pos) (some k) :=
 ⟨rfl,rfl,rfl,by rw [Lib.iterAt_size];exact Nat.le_refl _,fun j _ hne=>Lib.iterAt_other w k j s pos (fun e=>hne (by rw [e]))⟩
section
variable {m:Ky→Option Pa}{k:Ks}{C:Value→Value→Pa}{R:Il.Rw}{vi vp:Value}{css:List (List Value)}{w:World}{B g o:Nat}
theorem zu (hk:k.ok) (hC:Cn g o C) (h:Hq w B (aR m k C R vi vp css)) (hB:B≤w.heap.size) (l:List UInt8) (hl:R.p.length+4*l.length≤10000000000) :
  Calls Tryz.prog 220 #[.pointer (some ⟨g,o,none⟩),.string (bs l)] w fun e w'=>e=.returned (.tuple #[])∧∃ vp',b7 B (aR m k C R vi vp css) w (aR m k C (R.say (Ru.enc (Ru.aS l))) vi vp' css) w':=by
 have hstep:=Lib.hid (fun (D:List Nat) (vp':Value) (wz:World) (hz:Hq wz B (aR m k C (R.say (Ru.enc D)) vi vp' css)) (x:Nat) (hx:Ru.vr x) (hBz:B≤wz.heap.size) (hD:(Ru.enc D).length≤4*l.length) =>
  jv hk hC hz hBz x hx (by show (R.p++Ru.enc D).length≤_;rw [List.length_append];omega))
 have h0:=Lib.hid ((h.call (w':=w.alloc (.stringIter (bs l) 0)) hB (aa w _)));have hf0:=Lib.hid (Hq.new (w':=w.alloc (.stringIter (bs l) 0)) h hB (b:=w.heap.size) (Nat.le_refl _) (by simp));have YY:R.say (Ru.enc [])=R:=by unfold Il.Rw.say;rw [Ru.rM,List.append_nil]
 clear h;go_enter Tryz.func220,Tryz.ntmps220;go_wp2_with fail
 go_loopw [] (fun wr=>∃ (pos:Nat) (D:List Nat) (vp':Value),Hid (b7 B (aR m k C R vi vp css) w (aR m k C (R.say (Ru.enc D)) vi vp' css) wr)∧Hid (Fr wr B (aR m k C (R.say (Ru.enc D)) vi vp' css) w.heap.size)∧Hid (wr.heap[w.heap.size]? = some (.stringIter (bs l) pos))∧Hid (D++Ru.aS (l.drop pos)=Ru.aS l))
  (fun wr=>l.length-wr.iterPos w.heap.size)
 case atStart=>exact ⟨0,[],vp,by rw [YY];exact h0,by rw [YY];exact hf0,Lib.hid (j9 _ _ _ rfl),Lib.hid (by simp)⟩
 case round =>
  obtain ⟨pos,D,vp',hT,hF,hit,hD⟩:=hrel;have hdl:=nK hD.out;have hbz:=hT.out.bel.size;have hlt:w.heap.size<wr.heap.size:=(Array.getElem?_eq_some_iff.1 hit.out).1
  by_cases hp:pos<l.length
  ·obtain ⟨x,kk,hkk,hv,hd,vf⟩:=dx hp hD.out
   have j7:=bQ hit.out hp hd;replace vf:=Lib.hid vf;replace hd:=Lib.hid hd;have gZ:=Lib.hid (Lib.iterAt_heap wr w.heap.size (bs l) pos (pos+kk) hit.out);have hpos:Hid (wr.iterPos w.heap.size=pos):=Lib.hid (by simp only [World.iterPos,hit.out]);have FY:x≤1114111:=by unfold Ru.vr at hv;omega
   have Wz:=(Ru.gJ D).2;obtain ⟨kX,hF2⟩:=hT.out.aside (Nat.le_refl _) hB hF.out (Du wr w.heap.size (bs l) (pos+kk));have hst:=Lib.hid (hstep.out D vp' _ kX.hp x hv (by have:=kX.bel.size;omega) (by omega));replace kX:=Lib.hid kX;replace hF2:=Lib.hid hF2;have hsn:Hid ((R.say (Ru.enc D)).say (Lib.encodeRune (x:Int))=R.say (Ru.enc (D++[x]))):=Lib.hid (by unfold Il.Rw.say;rw [Ru.oG,List.append_assoc]);have N7:(wr.iterAt w.heap.size (bs l) (pos+kk)).heap.size=wr.heap.size:=Lib.iterAt_size _ _ _ _;obtain ⟨w2,hw2⟩:∃ w2,w2=wr.iterAt w.heap.size (bs l) (pos+kk):=⟨_,rfl⟩
   rw [← hw2] at j7 gZ kX hF2 hst N7;clear hT hF hit hw2;go_wp2_with fail;refine hst.out.mono ?_;rintro e w3 ⟨rfl,vp3,ia⟩;rw [hsn.out] at ia;have Wb:=ia.fre _ hF2.out;have Xb:=Lib.hid (kX.out.trans ia);have wD:=Lib.hid (Wb.1.trans gZ.out);have hF4:=Lib.hid Wb.2;have aa8:Hid (w3.iterPos w.heap.size=pos+kk):=Lib.hid (by simp only [World.iterPos,wD.out]);clear ia Wb;go_wp2_with fail
   go_roundw
   case rel=>exact ⟨pos+kk,D++[x],vp3,Xb,hF4,wD,vf⟩
   case measure=>rw [hpos.out,aa8.out];omega
  ·have j7:=cq hit.out hp
   have hDD:=nJ hp hD.out;subst hDD;go_wp2_with fail;go_returns;exact ⟨rfl,vp',hT.out⟩
end
theorem SF (l:List UInt8) (a:Nat) (c:UInt8) (w:World) (hl:l.length≤1000000000000) (hle:a≤l.length) :
  Calls Tryz.prog 219 #[.string (bs l),.int .i64 (a:Int),.int .u8 (c.toNat:Int)] w fun e w'=>e=.returned (.int .i64 (Fn.run c (l.drop a):Nat))∧w=w':=by
 have hsz:=au l;go_enter Tryz.func219,Tryz.ntmps219;go_wp2_with fail
 go_loop [7] (fun u=>∃ k:Nat,a≤k∧k≤l.length∧u=.int .i64 (k:Int)∧Hid (k+Fn.run c (l.drop k)=a+Fn.run c (l.drop a))) (fun u=>l.length-(intOf u).toNat)
 case atStart=>exact ⟨a,by omega,hle,rfl,Lib.hid rfl⟩
 case round =>
  obtain ⟨k,jq,hk,rfl,hf⟩:=hrel
  by_cases hlt:k<l.length
  ·have hx:=bG hlt w
   by_cases hc:l[k]=c
   ·have ht:=jK hc
    have hf2:Hid (k+1+Fn.run c (l.drop (k+1))=a+Fn.run c (l.drop a)):=Lib.hid (by have:=hf.out;rw [Fn.jS hlt hc] at this;omega);clear hc;go_wp2
    go_round
    case rel=>exact ⟨k+1,by omega,by omega,by go_num,hf2⟩
    case measure=>simp [intOf];omega
   ·have ht:=gz hc
    have aP:=Lib.hid (show k=a+Fn.run c (l.drop a) from by have:=hf.out;rw [Fn.qM hlt hc] at this;omega);clear hc;go_wp2;go_returns;exact ⟨by refine nr ?_;have:=aP.out;omega,rfl⟩
  ·have aP:=Lib.hid (show k=a+Fn.run c (l.drop a) from by have:=hf.out;rw [Fn.jF hlt] at this;omega)
   go_wp2;go_returns;exact ⟨by refine nr ?_;have:=aP.out;omega,rfl⟩
theorem pg (l:List UInt8) (at_:Int) (_hs:l.length≤1000000000000) (ho:at_<0∨(0≤at_∧(l.length:Int)≤at_)∨(0≤at_∧∃ h:at_.toNat<l.length,((l[at_.toNat].toNat:Int)==42)=false∧((l[at_.toNat].toNat:Int)==95)=false)) (w:World) :
  Calls Tryz.prog 238 #[.string (bs l),.int .i64 at_] w fun e w'=>e=.returned (.bool false)∧Below w.heap.size w w':=by
 have hsz:=au l;rcases ho with h | ⟨h0,h⟩ | ⟨h0,hl,h1,h2⟩
 ·have d1:decide (at_<0)=true:=decide_eq_true h
  go_enter Tryz.func238,Tryz.ntmps238;go_wp2_with fail;go_ret;exact ⟨rfl,Below.refl _ _⟩
 ·have d1:decide (at_<0)=false:=decide_eq_false (by omega)
  have d2:decide (((l.length:Nat):Int)≤at_)=true:=decide_eq_true h;go_enter Tryz.func238,Tryz.ntmps238;go_wp2_with fail;go_ret;exact ⟨rfl,Below.refl _ _⟩
 ·have d1:decide (at_<0)=false:=decide_eq_false (by omega)
  have d2:decide (((l.length:Nat):Int)≤at_)=false:=decide_eq_false (by omega);have hix:=ec (i:=at_.toNat) (v:=at_) (S:=l) hl (by omega);have e1:((l[at_.toNat].toNat:Int) != 42)=true:=by simp only [bne,h1];rfl
  have e2:((l[at_.toNat].toNat:Int) != 95)=true:=by simp only [bne,h2];rfl
  generalize l[at_.toNat]=ch at *;go_enter Tryz.func238,Tryz.ntmps238;go_wp2_with fail;go_ret;exact ⟨rfl,Below.refl _ _⟩
theorem ry (l:List UInt8) (k:Nat) (hs:l.length≤1000000000000) (hk:k<l.length) (h1:((l[k].toNat:Int)==42)=true∨(((l[k].toNat:Int)==42)=false∧((l[k].toNat:Int)==95)=true)) (t:Bool)
  (ht:(k=0∧t=true)∨(0<k∧∃ h:k-1<l.length,((l[k-1].toNat:Int)==(l[k].toNat:Int))=!t)) (w:World) :
  Calls Tryz.prog 238 #[.string (bs l),.int .i64 (k:Int)] w fun e w'=>e=.returned (.bool t)∧Below w.heap.size w w':=by
 have hsz:=au l;have hbz:=fun nq=>below_drewN (Below.refl w.heap.size w) nq;replace hbz:=Lib.hid hbz;have d1:decide ((k:Int)<0)=false:=decide_eq_false (by omega);have d2:decide (((l.length:Nat):Int)≤(k:Int))=false:=decide_eq_false (by omega);have hix:=bG hk;have e1:((l[k].toNat:Int) != 42)=!((l[k].toNat:Int)==42):=rfl;have e2:((l[k].toNat:Int) != 95)=!((l[k].toNat:Int)==95):=rfl;rcases ht with ⟨h0,rfl⟩ | ⟨h0,hp,ht⟩
 ·have d3:((k:Int)==0)=true:=by simpa using h0
  generalize l[k]=ch at *;clear h0;rcases h1 with h1 | ⟨h1,h1'⟩
  all_goals
   go_enter Tryz.func238,Tryz.ntmps238;go_wp2_with fail;go_quiet (fail);go_wp2_with fail;go_ret;exact ⟨rfl,hbz.out nq⟩
 ·have d3:((k:Int)==0)=false:=by
   rw [beq_eq_false_iff_ne];omega
  have Yv:=ec (i:=k-1) (v:=(k:Int)-1) (S:=l) hp (by omega);have e3:((l[k-1].toNat:Int) != (l[k].toNat:Int))=t:=by simp only [bne,ht,Bool.not_not]
  clear ht;generalize l[k]=ch at *;generalize l[k-1]=cp at *;rcases h1 with h1 | ⟨h1,h1'⟩
  all_goals
   go_enter Tryz.func238,Tryz.ntmps238;go_wp2_with fail;go_quiet (fail);go_wp2_with fail;go_ret;exact ⟨rfl,hbz.out nq⟩
theorem wk (l:List UInt8) (at_:Int) (hs:l.length≤1000000000000) (w:World) :
  Calls Tryz.prog 238 #[.string (bs l),.int .i64 at_] w fun e w'=>e=.returned (.bool (Em.starts l at_))∧Below w.heap.size w w':=by
 by_cases h0:at_<0
 ·rw [Em.iH (.inl h0)]
  exact pg l at_ hs (.inl h0) w
 ·by_cases h1:(l.length:Int)≤at_
  ·rw [Em.iH (.inr (.inl h1))]
   exact pg l at_ hs (.inr (.inl ⟨by omega,h1⟩)) w
  ·obtain ⟨k,rfl⟩:∃ k:Nat,at_=(k:Int):=⟨at_.toNat,by omega⟩
   have hk:k<l.length:=by omega
   by_cases h2:l[k]=42∨l[k]=95
   ·have Ei:((l[k].toNat:Int)==42)=true∨(((l[k].toNat:Int)==42)=false∧((l[k].toNat:Int)==95)=true):=by
     rcases h2 with h2 | h2
     ·rw [h2];exact .inl rfl
     ·rw [h2];exact .inr ⟨rfl,rfl⟩
    rcases Nat.eq_zero_or_pos k with hz | hz
    ·rw [Em.zq hk h2 (.inl hz)]
     exact ry l k hs hk Ei true (.inl ⟨hz,rfl⟩) w
    ·by_cases h3:l[k-1]=l[k]
     ·rw [Em.iH (l:=l) (at_:=(k:Int)) (.inr (.inr (.inr ⟨by omega,hk,h3⟩)))]
      exact ry l k hs hk Ei false (.inr ⟨hz,by omega,jK h3⟩) w
     ·rw [Em.zq hk h2 (.inr ⟨by omega,h3⟩)]
      exact ry l k hs hk Ei true (.inr ⟨hz,by omega,gz h3⟩) w
   ·have hn:l[k]≠42∧l[k]≠95:=⟨fun h=>h2 (.inl h),fun h=>h2 (.inr h)⟩
    rw [Em.iH (l:=l) (at_:=(k:Int)) (.inr (.inr (.inl ⟨hk,hn⟩)))];exact pg l (k:Int) hs (.inr (.inr ⟨by omega,hk,dw (n:=42) (by omega) hn.1,dw (n:=95) (by omega) hn.2⟩)) w
theorem yb (a b:Nat) (w:World) :
  Calls Tryz.prog 240 #[.int .i32 (a:Int),.int .i32 (b:Int)] w fun e w'=>e=.returned (.bool (Em.jn b a))∧w=w':=by
 unfold Em.jn;obtain ⟨BA,hBA⟩:∃ x,dP (a:Int)=x:=⟨_,rfl⟩
 obtain ⟨BB,TS⟩:∃ x,dP (b:Int)=x:=⟨_,rfl⟩
 obtain ⟨PA,Xr⟩:∃ x,gP (a:Int)=x:=⟨_,rfl⟩
 obtain ⟨PB,hPB⟩:∃ x,gP (b:Int)=x:=⟨_,rfl⟩
 have q1:=fun w=>fA (a:Int) w;have q2:=fun w=>fA (b:Int) w;have q3:=fun w=>lY (a:Int) w;have q4:=fun w=>lY (b:Int) w;rw [hBA] at q1 ⊢;rw [TS] at q2 ⊢;rw [Xr] at q3 ⊢;rw [hPB] at q4 ⊢;clear hBA TS Xr hPB;go_enter Tryz.func240,Tryz.ntmps240;go_wp2_with fail;refine (q1 _).mono ?_;rintro e w1 ⟨rfl,rfl⟩;cases BA with
 | true =>
  go_wp2_with fail;go_ret;exact ⟨rfl,rfl⟩
 | false =>
  go_wp2_with fail;refine (q3 _).mono ?_;rintro e w1 ⟨rfl,rfl⟩;cases PA with
  | false =>
   go_wp2_with fail;go_ret;exact ⟨rfl,rfl⟩
  | true =>
   go_wp2_with fail;refine (q2 _).mono ?_;rintro e w1 ⟨rfl,rfl⟩;cases BB with
   | true =>
    go_wp2_with fail;go_ret;exact ⟨rfl,rfl⟩
   | false =>
    go_wp2_with fail;refine (q4 _).mono ?_;rintro e w1 ⟨rfl,rfl⟩;go_wp2_with fail;go_ret;exact ⟨rfl,rfl⟩
end Go.Proofs.YtddkjkockbcamaaGreatDoor
section
namespace Go.Proofs.YtddkjkockbcamaaGreatDoor
open Go.RowKit
theorem Uv:EI Tryz.prog 219 240 4 24:=EI.mk' Tryz.underlying219 (z:=.agg #[.int .u8 0,.int .i64 0,.bool false,.bool false]) (by kernel_rfl) rfl (by omega)
theorem OF (n:Nat):(madeCells #[.int .u8 0,.int .i64 0,.bool false,.bool false] (n*4)).toList=aG (List.replicate n Em.none_):=by
 apply List.ext_getElem?;intro j
 by_cases hj:j<n*4
 ·have hk:j / 4<(List.replicate n Em.none_).length:=by rw [List.length_replicate];omega
  have h1:=iM (f:=kK) (m:=4) (fun _=>rfl) (List.replicate n Em.none_) (j / 4) (j%4) hk (by omega);rw [show j / 4*4+j%4=j by omega] at h1;rw [show aG (List.replicate n Em.none_)=(List.replicate n Em.none_).flatMap kK from rfl,h1,List.getElem_replicate];simp only [madeCells,Array.toList_map,Array.toList_range,List.getElem?_map,List.getElem?_range hj,Option.map_some];have h4:j%4=0∨j%4=1∨j%4=2∨j%4=3:=by omega
  rcases h4 with h | h | h | h<;>(simp only [List.size_toArray,List.length_cons,List.length_nil,h];rfl)
 ·rw [List.getElem?_eq_none (by simp [madeCells];omega),List.getElem?_eq_none (by rw [Kp,List.length_replicate];omega)]
theorem KF (X:List Em.R) (r:Em.R):∀ (k:Nat),k<X.length→((((aG X).set (k*4) (.int .u8 (r.ch.toNat:Int))).set (k*4+1) (.int .i64 r.n)).set (k*4+2) (.bool r.o)).set (k*4+3) (.bool r.c)=aG (X.set k r):=by
 induction X with
 | nil=>intro k hk;simp at hk
 | cons x X ih =>
  intro k hk;cases k with
  | zero=>rfl
  | succ k =>
   have:=ih k (by simpa using hk);rw [List.set_cons_succ,show aG (x::X.set k r)=kK x++aG (X.set k r) from rfl,← this,show aG (x::X)=kK x++aG X from rfl];have h4:(kK x).length=4:=rfl;rw [List.set_append_right _ _ (by rw [h4];omega),List.set_append_right _ _ (by rw [h4];omega),List.set_append_right _ _ (by rw [h4];omega),List.set_append_right _ _ (by rw [h4];omega),h4,
    show (k+1)*4-4=k*4 by omega,show (k+1)*4+1-4=k*4+1 by omega,show (k+1)*4+2-4=k*4+2 by omega,show (k+1)*4+3-4=k*4+3 by omega]
def wL (l:List Em.R) (k:Nat):List Em.R:=(Em.hold l).take k++List.replicate (l.length-k) Em.none_
theorem ym (l:List Em.R):(Em.hold l).length=l.length:=by simp [Em.hold]
theorem TI {l:List Em.R}{k:Nat}(h:k≤l.length):(wL l k).length=l.length:=by simp [wL,ym];omega
theorem Oq (l:List Em.R):wL l 0=List.replicate l.length Em.none_:=by simp [wL]
theorem Rc (l:List Em.R):wL l l.length=Em.hold l:=by
 unfold wL;rw [List.take_of_length_le (by rw [ym];exact Nat.le_refl _),Nat.sub_self];simp
theorem SE {l:List Em.R}{k:Nat}(h:k<l.length):(wL l k).set k ⟨l[k].ch,Em.held l[k].n,l[k].o,l[k].c⟩=wL l (k+1):=by
 unfold wL;have hh:k<(Em.hold l).length:=by rw [ym];exact h
 obtain ⟨m,hm⟩:∃ m,l.length-k=m+1:=⟨l.length-k-1,by omega⟩
 have hl:((Em.hold l).take k).length=k:=by rw [List.length_take];omega
 rw [List.set_append_right _ _ (by omega),hl,Nat.sub_self,hm,List.replicate_succ,List.set_cons_zero,show l.length-(k+1)=m by omega,List.take_succ_eq_append_getElem hh,List.append_assoc];simp [Em.hold]
theorem RH {w:World}{B g n c:Nat}{X:List Em.R}{E:TypeId}(h:w.ownsRow B E 4 (.slice (some ⟨g,0,none⟩) n c) n (aG X)) (r:Em.R) {k:Nat}(hk:k<X.length) :
  ((((w.setCell ⟨g,k*4,none⟩ (.int .u8 (r.ch.toNat:Int))).setCell ⟨g,k*4+1,none⟩ (.int .i64 r.n)).setCell ⟨g,k*4+2,none⟩ (.bool r.o)).setCell ⟨g,k*4+3,none⟩ (.bool r.c)).ownsRow B E 4 (.slice (some ⟨g,0,none⟩) n c) n (aG (X.set k r)):=by
 have:=((((h.stored (k*4) (.int .u8 (r.ch.toNat:Int))).1.stored (k*4+1) (.int .i64 r.n)).1.stored (k*4+2) (.bool r.o)).1.stored (k*4+3) (.bool r.c)).1;rwa [KF X r k hk] at this
theorem mb {w:World}{B g n c:Nat}{X:List Em.R}{E:TypeId}(h:w.ownsRow B E 4 (.slice (some ⟨g,0,none⟩) n c) n (aG X)) {k:Nat}(hk:k<X.length) :
  w.cell? ⟨g,k*4,none⟩=some (.int .u8 (X[k].ch.toNat:Int))∧w.cell? ⟨g,k*4+1,none⟩=some (.int .i64 X[k].n)∧w.cell? ⟨g,k*4+2,none⟩=some (.bool X[k].o)∧w.cell? ⟨g,k*4+3,none⟩=some (.bool X[k].c):=by
 have hat:=fun i (hi:i<4)=>iM (f:=kK) (m:=4) (fun _=>rfl) X k i hk hi;have hc:=fun j u hu=>h.cells (g:=g) rfl j u hu;have ha:∀ j,(⟨g,0,none⟩:Addr).add j=⟨g,j,none⟩:=fun j=>by unfold Addr.add;split<;>simp_all
 simp only [ha] at hc;exact ⟨hc _ _ ((hat 0 (by omega)).trans rfl),hc _ _ ((hat 1 (by omega)).trans rfl),hc _ _ ((hat 2 (by omega)).trans rfl),hc _ _ ((hat 3 (by omega)).trans rfl)⟩
theorem JR {B:Nat}{a w:World}{g j:Nat}(h:Below B a w) (hg:B≤g) (p q r s:Value):Below B a ((((w.setCell ⟨g,j,none⟩ p).setCell ⟨g,j+1,none⟩ q).setCell ⟨g,j+2,none⟩ r).setCell ⟨g,j+3,none⟩ s) :=
 (((h.setCell (p:=⟨g,j,none⟩) hg _).setCell (p:=⟨g,j+1,none⟩) hg _).setCell (p:=⟨g,j+2,none⟩) hg _).setCell (p:=⟨g,j+3,none⟩) hg _
theorem gh (l:List Em.R) (A:Option Addr) (c:Nat) (w:World) (h:Row w w.heap.size 4 A l.length (aG l)) (hl:l.length≤4000000) :
  Calls Tryz.prog 226 #[.slice A l.length c] w fun e w'=>(∃ v,e=.returned v∧w'.ownsRow w.heap.size 240 4 v l.length (aG (Em.hold l)))∧Below w.heap.size w w':=by
 have hR:=Lib.hid h;clear h;have hmk:=fun w=>run_mk Uv (z:=.agg #[.int .u8 0,.int .i64 0,.bool false,.bool false]) (by kernel_rfl) l.length (by omega) (by omega) w;have LS:=Lib.hid (dI w w.heap.size 4 l.length 240 #[.int .u8 0,.int .i64 0,.bool false,.bool false] (Nat.le_refl _) (by omega));replace LS:=Lib.hid (by have:=LS.out;rwa [OF,← Oq] at this);simp only [Value.cells] at hmk;generalize madeCells _ (l.length*4)=C at *;have hb0:=Lib.hid (aa w (.cells C 240));go_enter Tryz.func226,Tryz.ntmps226;go_wp2_with fail
 go_loopw [11] (fun i wr=>∃ k:Nat,k≤l.length∧i=.int .i64 k∧Hid (wr.ownsRow w.heap.size 240 4 (.slice (some ⟨w.heap.size,0,none⟩) l.length l.length) l.length (aG (wL l k)))∧Below w.heap.size w wr) (fun i _=>l.length-(intOf i).toNat)
 case atStart=>exact ⟨0,Nat.zero_le _,rfl,LS,hb0.out⟩
 case round =>
  obtain ⟨k,hk,rfl,hown,hb⟩:=hrel;clear LS hb0 hmk;have hz:=hb.size
  by_cases hkl:k<l.length
  ·obtain ⟨b,o,rfl,kr,hc⟩:=Ra hR.out (by omega)
   obtain ⟨c0,c1,c2,c3⟩:=hc k hkl;have d0:=(hb.cell (p:=⟨b,o+k*4,none⟩) kr).trans c0;have d1:=(hb.cell (p:=⟨b,o+k*4+1,none⟩) kr).trans c1;have d2:=(hb.cell (p:=⟨b,o+k*4+2,none⟩) kr).trans c2;have d3:=(hb.cell (p:=⟨b,o+k*4+3,none⟩) kr).trans c3;clear hc c0 c1 c2 c3;obtain ⟨X,hX,hXs,hkX⟩:∃ X:List Em.R,wL l k=X∧X.set k ⟨l[k].ch,Em.held l[k].n,l[k].o,l[k].c⟩=wL l (k+1)∧k<X.length:=⟨_,rfl,SE hkl,by rw [TI (by omega)];exact hkl⟩
   rw [hX] at hown;clear hX;replace hXs:=Lib.hid hXs;have hlt:=hown.out.lt _ rfl;go_upto_region 5 with fail
   generalize hw2:World.alloc wr _=w2;have hb2:Below wr.heap.size wr w2:=by rw [← hw2];exact aa _ _
   have hloc:w2.heap[wr.heap.size]? = some (.cells #[.int .u8 (l[k].ch.toNat:Int),.int .i64 l[k].n,.bool l[k].o,.bool l[k].c] 240 (0,0)):=by rw [← hw2];exact heap_alloc_new _ _
   clear hw2;have hown2:=bX hown.out hb2;have hB2:=hb.trans (hb2.mono hz);obtain ⟨y0,y1,y2,y3⟩:=four hloc;have hfz:=bf hloc;obtain ⟨kk,hkk⟩:∃ kk:Int,kk=(if l[k].n<0 then 0 else l[k].n):=⟨_,rfl⟩
   have jq:(if l[k].n<0 then 0 else l[k].n)=kk:=hkk.symm;have hk2:max l[k].n 0=kk:=by rw [hkk];split<;>omega
   have hk3:(if (100:Int)<kk then (100:Int) else kk)=((Em.held l[k].n:Nat):Int):=by unfold Em.held;rw [hkk];split<;>split<;>omega
   have hk4:min kk 100=((Em.held l[k].n:Nat):Int):=by unfold Em.held;rw [hkk];split<;>omega
   have hset:=fun (v:Value)=>heap_setCell_same w2 wr.heap.size 1 _ _ v hloc;replace hset:=Lib.hid hset;replace hloc:=Lib.hid hloc;replace hown2:=Lib.hid hown2;replace hB2:=Lib.hid hB2;clear hkk d0 d1 d2 d3;go_upto_region 6 with fail
   generalize hw3:World.setCell w2 _ _=w3;have vL:w3.heap[wr.heap.size]? = some (.cells #[.int .u8 (l[k].ch.toNat:Int),.int .i64 (Em.held l[k].n:Nat),.bool l[k].o,.bool l[k].c] 240 (0,0)):=by rw [← hw3];exact hset.out _
   have eR:=Lib.hid (show w3.ownsRow w.heap.size 240 4 (.slice (some ⟨w.heap.size,0,none⟩) l.length l.length) l.length (aG X) from by
    rw [← hw3];exact World.ownsRow.kept hown2.out (ay w2 ⟨wr.heap.size,1,none⟩ _) (.inr fun e=>by
     have e2:w.heap.size=wr.heap.size:=Option.some.inj e;omega))
   have jy:Below w.heap.size w w3:=by rw [← hw3];exact hB2.out.setCell (p:=⟨wr.heap.size,1,none⟩) hz _
   clear hw3 hset hown2 hB2 y0 y1 y2 y3 hfz hloc hown hb hb2;obtain ⟨y0,y1,y2,y3⟩:=four vL;obtain ⟨x0,x1,x2,x3⟩:=mb eR.out hkX;have hfx:=fun j=>eR.out.frozenAt j;have aaH:=Lib.hid (RH eR.out ⟨l[k].ch,Em.held l[k].n,l[k].o,l[k].c⟩ hkX);have abG:=Lib.hid (JR (j:=k*4) jy (Nat.le_refl w.heap.size) (.int .u8 (l[k].ch.toNat:Int)) (.int .i64 (Em.held l[k].n:Nat)) (.bool l[k].o) (.bool l[k].c));clear vL eR jy;go_wp2_with fail
   go_roundw
   case rel=>exact ⟨k+1,hkl,by go_num,Lib.hid (by rw [← hXs.out];exact aaH.out),abG.out⟩
   case measure=>simp [intOf];omega
  ·have Au:k=l.length:=by omega
   subst Au;rw [Rc] at hown;go_wp2_with fail;go_ret;exact ⟨⟨_,rfl,hown.out⟩,hb⟩
end Go.Proofs.YtddkjkockbcamaaGreatDoor
end
section
namespace Go.Proofs.YtddkjkockbcamaaGreatDoor
open Go.RowKit
attribute [local go_sem] aD av aq
theorem fB {w:World}{B g n c:Nat}{E:TypeId}{L:List Nat}(h:w.ownsRow B E 1 (.slice (some ⟨g,0,none⟩) n c) n (aC L)) {k:Nat}(hk:k<L.length):w.cell? ⟨g,k,none⟩=some (.int .i64 (L[k]:Int)):=by
 have:=h.cells (g:=g) rfl k _ (Ns hk);rwa [show (⟨g,0,none⟩:Addr).add k=⟨g,k,none⟩ from by unfold Addr.add;split<;>simp_all] at this
def Li (O:List Nat) (l:List Em.R) (c:Nat):Option Nat→Prop
 | some i=>∃ hi:i<O.length,Em.kj (Em.get l O[i]) (Em.get l c)=true∧∀ k (hk:k<O.length),i<k→Em.kj (Em.get l O[k]) (Em.get l c)=false
 | none=>∀ j∈O,Em.kj (Em.get l j) (Em.get l c)=false
def QJ:Option Nat→Value
 | some i=>.tuple #[.int .i64 (i:Int),.bool true]
 | none=>.tuple #[.int .i64 0,.bool false]
def Yi (O:List Nat) (l:List Em.R) (c:Nat) (v:Value):Prop:=∃ (z:Int) (m:Nat),v=.int .i64 z∧z=(m:Int)-1∧m≤O.length∧Hid (∀ k (hk:k<O.length),m≤k→Em.kj (Em.get l O[k]) (Em.get l c)=false)
theorem CL {B b:Nat}{x:Option Part}{v:Vs}{l:List Em.R}{L O N:List Nat}{P:List (Nat×Nat×Nat)}{w:World}(hM:PM B b x v l L O N P w) (c:Nat) (hc:c<l.length) (hl:l.length≤4000000) (hH:Em.Held l)
  (hO:O.length≤4000000) (hOl:∀ j∈O,j<l.length) (hs:O.Pairwise (· < ·)) (hNl:N.length=1536) (hN:∀ j∈O,j<Em.lf N (Em.jo (Em.get l c))→Em.kj (Em.get l j) (Em.get l c)=false) :
  Calls Tryz.prog 243 #[.pointer (some ⟨b,0,none⟩),.int .i64 (c:Int)] w fun e w'=>∃ r,e=.returned (QJ r)∧Li O l c r∧Below B w w'∧PM B b x v l L O (if r=none then N.set (Em.jo (Em.get l c)) c else N) P w':=by
 obtain ⟨hB,nS,hfz,m0,m1,m2,m3,m4⟩:=hM.blk;obtain ⟨gr,cr,JY,hcr,wF,hgr⟩:=gK hM.IK (by omega);obtain ⟨gn,cn,hvn,rH,hBn,hgn⟩:=gK hM.Y3 (by omega);obtain ⟨A,co,ZX,Y9⟩:=ak hM.zW;have qX:Em.get l c=l[c]:=Em.get_at hc;have q1:=fun w=>NC l[c] (hH _ (List.getElem_mem hc)) w;obtain ⟨s,Yj⟩:∃ s,s=Em.jo (Em.get l c):=⟨_,rfl⟩
 have hs6:s<1536:=by rw [Yj];exact Em.G9 _
 rw [← qX,← Yj] at q1;have hM0:=Lib.hid hM;have Wm:=Lib.hid hvn;have Wr:=Lib.hid ZX;have Uy:=Lib.hid JY;have Fo:=hM.IK;rw [JY] at Fo;obtain ⟨x0,x1,x2,x3⟩:=mb Fo hc;rw [JY] at m0;rw [hvn] at m3;rw [ZX] at m2;unfold yh at q1;rw [qX] at q1;have hbl:=Lib.hid (aa w (.cells #[.int .u8 (l[c].ch.toNat:Int),.int .i64 l[c].n,.bool l[c].o,.bool l[c].c] 240));have hloc:=Lib.hid (heap_alloc_new w (.cells #[.int .u8 (l[c].ch.toNat:Int),.int .i64 l[c].n,.bool l[c].o,.bool l[c].c] 240));have hH0:=Lib.hid hH;replace hs:=Lib.hid hs;replace hN:=Lib.hid hN;replace hOl:=Lib.hid hOl;replace Yj:=Lib.hid Yj;replace qX:=Lib.hid qX;clear Fo hM m1 m4 JY hvn ZX hH;go_enter Tryz.func243,Tryz.ntmps243;go_wp2_with fail;refine (q1 _).mono ?_;rintro e w1 ⟨rfl,hb1⟩;have L7:=(keep hloc.out hb1).1;have hw1:=ag hbl.out hb1;have Qx:=hM0.out.ext hw1;clear hM0 hbl hloc hb1 q1 m0 m2 m3 x0 x1 x2 x3 hfz;have hz1:=hw1.size;obtain ⟨_,abq,_,m0,m1,m2,m3,m4⟩:=Qx.blk;rw [Uy.out] at m0;rw [Wm.out] at m3;rw [Wr.out] at m2;replace hw1:=Lib.hid hw1;replace Qx:=Lib.hid Qx;replace L7:=Lib.hid L7;clear m1 m4;go_wp2_with fail
 go_loopw [8] (fun u wr=>Yi O l c u∧Hid (Below w1.heap.size w1 wr)) (fun u _=>(intOf u+1).toNat)
 case atStart=>exact ⟨⟨(O.length:Int)-1,O.length,rfl,rfl,Nat.le_refl _,Lib.hid fun k hk h=>by omega⟩,Lib.hid (Below.refl _ _)⟩
 case round =>
  obtain ⟨⟨z,m,rfl,hz,hm,hno⟩,hq⟩:=hrel;clear m0 m2 m3;have AH:=Qx.out.ext hq.out;obtain ⟨_,aeb,_,m0,m1,m2,m3,m4⟩:=AH.blk;rw [Uy.out] at m0;rw [Wm.out] at m3;rw [Wr.out] at m2;have hnn:=AH.Y3;rw [Wm.out] at hnn;have n0:=fB hnn (k:=s) (by omega);have nf:=fun n=>(bX hnn (below_drewN (Below.refl wr.heap.size wr) n)).frozenAt s;have WH:Em.lf N s=N[s]'(by omega):=Em.rX (by omega);have YH:=Lib.hid (fun n=>(AH.ext (below_drewN (Below.refl wr.heap.size wr) n)).aey Wm.out s c);have hwr:=ag hw1.out (show Below w1.heap.size w1 wr from hq.out);have Zf:=Lib.hid (fun n=>(below_drewN (hwr.mono (Nat.le_trans hB (Nat.le_of_lt nS))) n).setCell (p:=⟨gn,s,none⟩) hBn (.int .i64 (c:Int)));have ac4:=Lib.hid (hwr.mono (Nat.le_trans hB (Nat.le_of_lt nS)));have ahi:gn<wr.heap.size:=Nat.lt_of_lt_of_le hgn hwr.size;replace AH:=Lib.hid AH;clear hnn hwr m1 m4;rcases Nat.eq_zero_or_pos m with rfl | hmp
  ·obtain rfl:z = -1:=by omega
   have hall:Hid (Li O l c none):=Lib.hid fun j hj=>by
    obtain ⟨k,hk,rfl⟩:=List.getElem_of_mem hj;exact hno.out k hk (Nat.zero_le _)
   clear hno hz hN m2 WH;go_wp2_with fail;go_quiet (fail);go_wp2_with fail;go_ret2;exact ⟨none,rfl,hall.out,Zf.out nq,by rw [if_pos rfl,← Yj.out];exact YH.out nq⟩
  ·obtain ⟨j,rfl⟩:∃ j,m=j+1:=⟨m-1,by omega⟩
   obtain rfl:z=(j:Int):=by omega
   have hjO:j<O.length:=by omega
   have GB:=AH.out.zW;rw [Wr.out] at GB;obtain ⟨go,rfl⟩:∃ g,A=some ⟨g,0,none⟩:=by
    rcases GB.2 with ⟨hv,h0⟩ | ⟨g,cap,cur,hv,_⟩
    ·omega
    ·injection hv with h1 _ _;exact ⟨g,h1⟩
   have o0:=fB GB hjO;clear GB;obtain ⟨oj,B9⟩:∃ o,o=O[j]:=⟨_,rfl⟩
   rw [← B9] at o0;have UA:oj<l.length:=by rw [B9];exact hOl.out _ (List.getElem_mem hjO)
   by_cases hge:N[s]≤oj
   ·have d0:decide ((N[s]:Int)≤(oj:Int))=true:=decide_eq_true (by omega)
    have d1:decide (N[s]≤oj)=true:=decide_eq_true hge;have Fo:=AH.out.IK;rw [Uy.out] at Fo;obtain ⟨y0,y1,y2,y3⟩:=mb Fo UA;clear Fo;obtain ⟨z0,z1,z2,z3⟩:=four (keep L7.out hq.out).1;have hgo:Em.get l oj=l[oj]:=Em.get_at UA;have q:=fun w=>PD l[oj] l[c] (hH0.out _ (List.getElem_mem UA)) (hH0.out _ (List.getElem_mem hc)) w;obtain ⟨F,hF⟩:∃ F,F=Em.kj l[oj] l[c]:=⟨_,rfl⟩
    have hFO:Hid (F=Em.kj (Em.get l O[j]) (Em.get l c)):=Lib.hid (by rw [← B9,hF,hgo,qX.out]);rw [← hF] at q;unfold yh at q;clear hF hgo hz hN WH hge;replace B9:=Lib.hid B9;generalize N[s]=ns at *;have ET:=(keep L7.out hq.out).1;have Ua:Hid (∀ n u,Below (wr.drewN n).heap.size (wr.drewN n) u→(u.cell? ⟨b,0,none⟩=some (.slice (some ⟨gr,0,none⟩) l.length cr)∧u.cell? ⟨b,2,none⟩=some (.slice (some ⟨go,0,none⟩) O.length co)∧u.cell? ⟨go,j,none⟩=some (.int .i64 (oj:Int))) ∧
      (u.cell? ⟨gr,oj*4,none⟩=some (.int .u8 (l[oj].ch.toNat:Int))∧u.cell? ⟨gr,oj*4+1,none⟩=some (.int .i64 l[oj].n)∧u.cell? ⟨gr,oj*4+2,none⟩=some (.bool l[oj].o)∧u.cell? ⟨gr,oj*4+3,none⟩=some (.bool l[oj].c)) ∧
      (u.cell? ⟨w.heap.size,0,none⟩=some (.int .u8 (l[c].ch.toNat:Int))∧u.cell? ⟨w.heap.size,1,none⟩=some (.int .i64 l[c].n)∧u.cell? ⟨w.heap.size,2,none⟩=some (.bool l[c].o)∧u.cell? ⟨w.heap.size,3,none⟩=some (.bool l[c].c))):=Lib.hid fun n u hu=>by
     have hu2:Below wr.heap.size wr u:=ag (below_drewN (Below.refl wr.heap.size wr) n) hu;have hMu:=AH.out.ext hu2;obtain ⟨_,_,_,m0,_,m2,_,_⟩:=hMu.blk;have Fo:=hMu.IK;have GB:=hMu.zW;rw [Uy.out] at m0 Fo;rw [Wr.out] at m2 GB;exact ⟨⟨m0,m2,by rw [B9.out];exact fB GB hjO⟩,mb Fo UA,four (keep ET hu2).1⟩
    have Vv:=Lib.hid (fun (n:Nat)=>below_drewN ac4.out n);have VD:=Lib.hid (fun (n:Nat)=>AH.out.ext (below_drewN (Below.refl wr.heap.size wr) n));clear ET YH Zf;go_wp2_with fail;go_quiet (fail);go_wp2_with fail;clear m0 m2 m3 n0 o0 y0 y1 y2 y3 z0 z1 z2 z3;replace Ua:=Lib.hid (Ua.out nq);replace Vv:=Lib.hid (Vv.out nq);replace VD:=Lib.hid (VD.out nq);have TZ:b<(wr.drewN nq).heap.size:=aeb;have hnr:w1.heap.size≤(wr.drewN nq).heap.size:=hq.out.size;have hqn:=Lib.hid (below_drewN hq.out nq);generalize wr.drewN nq=wd at *;have hS:Ext wd wd.drew:=bC wd;obtain ⟨⟨m0,m2,o0⟩,⟨y0,y1,y2,y3⟩,⟨z0,z1,z2,z3⟩⟩:=Ua.out wd.drew hS;refine eH ((true,0)::(true,1)::(true,2)::(true,3)::(true,4)::(true,5)::(true,6)::(true,7)::(true,8)::(true,9)::(true,10)::(true,11)::(true,12)::(true,13)::(false,14)::[]) (Ext wd) hS (by kernel_rfl) (by kernel_rfl) (by kernel_rfl) (fun _ _ d _ _ h=>by cases d<;>exact h) ?_
    iterate 14 (first | refine bN rfl ?_ | (refine aO rfl ?_;intro K hK;go_simp;first | (refine hK _ _ _ ?_;clear hK K) | (refine ⟨fun w' hw'=>by obtain ⟨⟨m0,m2,o0⟩,⟨y0,y1,y2,y3⟩,⟨z0,z1,z2,z3⟩⟩:=Ua.out w' hw';go_simp,hK _ _ _ ?_⟩;clear hK K)))
    refine aO rfl ?_;intro K hK;go_simp;refine (q _).mono ?_;rintro e w4 ⟨rfl,hb4⟩;replace hb4:=ag (bC wd) hb4;refine Di hb4 (hK _ _ _ ?_);clear hK K q;refine jJ ?_;have tB:=Lib.hid (Vv.out.trans (hb4.mono (Nat.le_trans (Nat.le_trans hB (Nat.le_of_lt nS)) (Nat.le_trans hz1 hnr))));have PI:=Lib.hid (VD.out.ext hb4);have hq4:=Lib.hid (show Below w1.heap.size w1 w4 from hqn.out.trans (hb4.mono hnr));clear VD Vv hb4 m0 m2 o0 y0 y1 y2 y3 z0 z1 z2 z3 Ua hS;cases F with
    | true =>
     have hsome:Hid (Li O l c (some j)):=Lib.hid ⟨hjO,hFO.out.symm,fun k hk h=>hno.out k hk h⟩;go_wp2_with fail;go_ret2;exact ⟨some j,rfl,hsome.out,tB.out,PI.out⟩
    | false =>
     have PE:Hid (∀ k (hk:k<O.length),j≤k→Em.kj (Em.get l O[k]) (Em.get l c)=false):=Lib.hid fun k hk h=>by
      rcases Nat.lt_or_eq_of_le h with h1 | h1
      ·exact hno.out k hk h1
      ·subst h1;exact hFO.out.symm
     go_wp2_with fail
     go_roundw
     case rel=>exact ⟨⟨(j:Int)-1,j,rfl,rfl,by omega,PE⟩,hq4⟩
     case measure=>simp [intOf]<;>omega
   ·have d0:decide ((N[s]:Int)≤(oj:Int))=false:=decide_eq_false (by omega)
    have d1:decide (N[s]≤oj)=false:=decide_eq_false hge;have hall:Hid (Li O l c none):=Lib.hid fun i hi=>by
     obtain ⟨k,hk,rfl⟩:=List.getElem_of_mem hi;rcases Nat.lt_or_ge j k with h1 | h1
     ·exact hno.out k hk h1
     ·refine hN.out _ hi ?_
      rw [← Yj.out,WH];have:O[k]≤O[j]:=by
       rcases Nat.lt_or_eq_of_le h1 with h2 | h2
       ·exact Nat.le_of_lt (List.pairwise_iff_getElem.1 hs.out k j hk hjO h2)
       ·subst h2;exact Nat.le_refl _
      omega
    clear hno hz hN WH B9 hge;generalize N[s]=ns at *;go_wp2_with fail;go_quiet (fail);go_wp2_with fail;go_ret2;exact ⟨none,rfl,hall.out,Zf.out nq,by rw [if_pos rfl,← Yj.out];exact YH.out nq⟩
end Go.Proofs.YtddkjkockbcamaaGreatDoor
end
section
namespace Go.Proofs.YtddkjkockbcamaaGreatDoor
open Go.RowKit
theorem VN:EI Tryz.prog 236 241 3 24:=EI.mk' Tryz.underlying236 (z:=.agg #[.int .i64 0,.int .i64 0,.int .i64 0]) (by kernel_rfl) rfl (by omega)
theorem eJ:EI Tryz.prog 23 3 1 8:=EI.mk' Tryz.underlying23 (z:=.int .i64 0) (by kernel_rfl) rfl (by omega)
theorem K9 (g n c hi:Nat) {v:Int}(hv:v=(hi:Int)) (h2:hi≤c) (w:World) :
  (Instr.slice 23 (.slice (some ⟨g,0,none⟩) n c) none (some (.int .i64 v)) none).run Tryz.prog w=.ok (.slice (some ⟨g,0,none⟩) hi c) w :=
 Mw (by kernel_rfl) 1 (fun w=>by kernel_rfl) g n c hi hv h2 w
theorem PM.atP {B b:Nat}{x:Option Part}{v:Vs}{l:List Em.R}{L O N:List Nat}{P:List (Nat×Nat×Nat)}{w u:World}(h:PM B b x v l L O N P w) (hg:w.grownBy u v.p.ownBlock):(∀ j,u.frozen? ⟨b,j,none⟩=false)∧u.cell? ⟨b,4,none⟩=some v.p:=by
 obtain ⟨h1,h2,h3⟩:=Hp.base h (k:=0) rfl;have h4:u.heap[b]? = _:=(hg.block b h2 (fun e=>by
  have:=h.apart 5 0 _ _ b rfl rfl e.symm rfl;cases this)).trans h3
 exact ⟨bf h4,ah h4 4⟩
theorem PM.atO {B b:Nat}{x:Option Part}{v:Vs}{l:List Em.R}{L O N:List Nat}{P:List (Nat×Nat×Nat)}{w u:World}(h:PM B b x v l L O N P w) (hg:w.grownBy u v.o.ownBlock):(∀ j,u.frozen? ⟨b,j,none⟩=false)∧u.cell? ⟨b,2,none⟩=some v.o:=by
 obtain ⟨h1,h2,h3⟩:=Hp.base h (k:=0) rfl;have h4:u.heap[b]? = _:=(hg.block b h2 (fun e=>by
  have:=h.apart 3 0 _ _ b rfl rfl e.symm rfl;cases this)).trans h3
 exact ⟨bf h4,ah h4 2⟩
theorem PM.aao {B b:Nat}{x:Option Part}{v:Vs}{l:List Em.R}{L O N:List Nat}{P:List (Nat×Nat×Nat)}{w:World}(h:PM B b x v l L O N P w) {g c:Nat}(hv:v.o=.slice (some ⟨g,0,none⟩) O.length c) {k:Nat}(hk:k≤O.length) :
  PM B b x ⟨v.r,v.l,.slice (some ⟨g,0,none⟩) k c,v.n,v.p⟩ l L (O.take k) N P (w.setCell ⟨b,2,none⟩ (.slice (some ⟨g,0,none⟩) k c)):=by
 have ho:=h.zW;rw [hv] at ho;refine h.Yn (World.grownBy.refl w _) (Q1 ho hk rfl) (fun g' hg'=>.inl ?_);rw [hv];exact hg'
theorem Ng {B b:Nat}{x:Option Part}{v:Vs}{l:List Em.R}{L O N:List Nat}{P:List (Nat×Nat×Nat)}{w:World}(hM:PM B b x v l L O N P w) (i c oj s lo lc:Nat) (hi:i<O.length) (B9:O[i]=oj) (hjL:oj<L.length) (ZF:c<L.length) (hne:oj≠c)
  (hlo:L[oj]=lo) (hlc:L[c]=lc) (aho:1≤lo∧lo≤100) (ahx:1≤lc∧lc≤100) (hL:L.length≤4000000) (hO:O.length≤4000000) (hP:P.length≤1000000000)
  (d1:Bool) (d2:Bool) (hd1:decide (2≤lo)=d1) (BF:decide (2≤lc)=d2) (hs:s=if (d1&&d2)=true then 2 else 1) :
  Calls Tryz.prog 244 #[.pointer (some ⟨b,0,none⟩),.int .i64 (i:Int),.int .i64 (c:Int)] w fun e w'=>e=.returned (.tuple #[]) ∧
   (∃ v',v'.l=v.l∧v'.r=v.r∧PM B b x v' l ((L.set oj (lo-s)).set c (lc-s)) (Em.qG O i (lo-s)) N (P++[(oj,c,s)]) w')∧Below B w w':=by
 have hs2:1≤s∧s≤2∧s≤lo∧s≤lc∧(s:Int)=(if (d1&&d2)=true then 2 else 1):=by
  have h1:d1=true→2≤lo:=fun h=>of_decide_eq_true (hd1.trans h);have h2:d2=true→2≤lc:=fun h=>of_decide_eq_true (BF.trans h);cases d1<;>cases d2<;>simp_all
 obtain ⟨hs0,hs1,qm,hsc,hsi⟩:=hs2;have e1:decide ((2:Int)≤(lo:Int))=d1:=by rw [← hd1];exact decide_eq_decide.2 (by omega)
 have e2:decide ((2:Int)≤(lc:Int))=d2:=by rw [← BF];exact decide_eq_decide.2 (by omega)
 obtain ⟨ro,hro⟩:∃ r,r=lo-s:=⟨_,rfl⟩
 obtain ⟨rc,hrc⟩:∃ r,r=lc-s:=⟨_,rfl⟩
 obtain ⟨sz,hsz⟩:∃ z:Int,z=(s:Int):=⟨_,rfl⟩
 have ahr:(lo:Int)-sz=(ro:Int):=by omega
 have afY:(lc:Int)-sz=(rc:Int):=by omega
 have zN:(d1=false∧sz=1)∨(d1=true∧d2=false∧sz=1)∨(d1=true∧d2=true∧sz=2):=by
  rw [hsz,hsi];cases d1<;>cases d2<;>simp
 have agE:ro≤100:=by omega
 have afT:rc≤100:=by omega
 obtain ⟨vr,vl,vo,vn,vp⟩:=v;obtain ⟨hB,nS,hfz,m0,m1,m2,m3,m4⟩:=hM.blk;obtain ⟨gl,cl,hvl,hcl,hBl,FG⟩:=gK hM.rY (by omega);obtain ⟨go,co,ZX,Y9,hBo,hgo⟩:=gK hM.zW (by omega);obtain ⟨AP,cp,hvp,XL⟩:=ak hM.Wp;simp only at hvl ZX hvp m0 m1 m2 m3 m4;subst hvl ZX hvp;have hrl:=hM.rY;have VA:=hM.zW;simp only at hrl VA;have o0:=fB VA hi;rw [B9] at o0;have l0:=fB hrl hjL;rw [hlo] at l0;have l1:=fB hrl ZF;rw [hlc] at l1;have lf:=fun j=>hrl.frozenAt j;have PI:=Lib.hid (fun y:Nat=>hM.Sb (g:=gl) (c:=cl) rfl oj y);have T4:=Lib.hid (fun y z:Nat=>(hM.Sb (g:=gl) (c:=cl) rfl oj y).Sb (g:=gl) (c:=cl) (by rw [List.length_set]) c z);have tB:=Lib.hid (fun y:Value=>(Below.refl B w).setCell (p:=⟨gl,oj,none⟩) hBl y);replace hrl:=Lib.hid hrl;replace VA:=Lib.hid VA;replace hs:=Lib.hid hs;replace hro:=Lib.hid hro;replace hrc:=Lib.hid hrc;replace hsz:=Lib.hid hsz;replace hlo:=Lib.hid hlo;replace hlc:=Lib.hid hlc;replace B9:=Lib.hid B9;clear hM;have agv:(lo:Int)≤100:=by omega
 have age:(lc:Int)≤100:=by omega
 have hzero:Hid (Em.qG O i (lo-s)=if ro=0 then O.take i else O.take (i+1)):=Lib.hid (by rw [← hro.out];rfl);have L8:Hid (Em.qG O i (lo-s)=if ro=0 then O.take i else O.take (i+1)):=hzero;clear m0 m3 hd1 BF hs0 qm hsc hsi hs1 hzero hs;replace L8:=L8;rcases zN with ⟨rfl,rfl⟩ | ⟨rfl,rfl,rfl⟩ | ⟨rfl,rfl,rfl⟩
 all_goals
  go_enter Tryz.func244,Tryz.ntmps244;go_upto_region 5 with fail
  generalize hw4:World.setCell w _ _=w4;have NP:PM B b x ⟨vr,.slice (some ⟨gl,0,none⟩) L.length cl,.slice (some ⟨go,0,none⟩) O.length co,vn,.slice AP P.length cp⟩ l (L.set oj ro) O N P w4:=by rw [← hw4];exact PI.out ro
  have QL:Below B w w4:=by rw [← hw4];exact tB.out _
  obtain ⟨_,U5,adM,_,m1',_,_,_⟩:=NP.blk;have Uu:=NP.rY;simp only [List.length_set] at m1' Uu;have l1':=fB Uu (k:=c) (by rw [List.length_set];exact ZF);rw [List.getElem_set_ne hne,hlc.out] at l1';have lf':=fun j=>Uu.frozenAt j;have aeC:gl<w4.heap.size:=Nat.lt_of_lt_of_le FG QL.size;have abw:=Lib.hid (NP.Sb (g:=gl) (c:=cl) (by rw [List.length_set]) c rc);replace QL:=Lib.hid QL;replace NP:=Lib.hid NP;clear hw4 m1 m2 m4 o0 l0 l1 lf PI T4 Uu hfz;go_upto_region 6 with fail
  generalize TX:World.setCell w4 _ _=w5;have T4:PM B b x ⟨vr,.slice (some ⟨gl,0,none⟩) L.length cl,.slice (some ⟨go,0,none⟩) O.length co,vn,.slice AP P.length cp⟩ l ((L.set oj ro).set c rc) O N P w5:=by rw [← TX];exact abw.out
  have D9:Below B w w5:=by rw [← TX];exact QL.out.setCell (p:=⟨gl,c,none⟩) hBl _
  clear TX abw QL NP m1' l1' lf' adM U5 aeC;obtain ⟨L2,hL2⟩:∃ L2,L2=(L.set oj ro).set c rc:=⟨_,rfl⟩
  have aeu:L2.length=L.length:=by rw [hL2,List.length_set,List.length_set]
  have Yk:L2[oj]'(by omega)=ro:=by subst hL2;rw [List.getElem_set_ne (Ne.symm hne),List.getElem_set_self]
  rw [← hL2] at T4;obtain ⟨_,Jo,aeg,_,m1,m2,_,m4⟩:=T4.blk;simp only at m1 m2 m4;have P5:=D9.size;replace T4:=Lib.hid T4;replace D9:=Lib.hid D9;replace hL2:=Lib.hid hL2;replace Yk:=Lib.hid Yk;go_upto_region 7 with (at_builtin;refine bE rfl (.tmp 57) (.tmp 62) rfl VN rfl T4.out.Wp rfl (by simp) rfl (by intro u hu;simp at hu;rcases hu with rfl | rfl | rfl<;>rfl) (by omega) (by omega) (by omega) ?_;intro vp7 w7 LB sY eA nY;obtain ⟨A7,c7,rfl,hc7⟩:=ak LB;obtain ⟨TG,m47⟩:=T4.out.atP sY.out;have Ta:b<w7.heap.size:=Nat.lt_of_lt_of_le Jo eA.size)
  generalize Nu:World.setCell w7 _ _=w8;have Wk:PM B b x ⟨vr,.slice (some ⟨gl,0,none⟩) L.length cl,.slice (some ⟨go,0,none⟩) O.length co,vn,.slice A7 (P.length+1) c7⟩ l L2 O N (P++[(oj,c,s)]) w8:=by
   rw [← Nu];exact T4.out.aed sY.out (by simpa [iE,xh,← hsz.out] using LB) nY.out
  have Pc:Below B w w8:=by rw [← Nu];exact (D9.out.trans eA).setCell (p:=⟨b,4,none⟩) hB _
  clear Nu T4 D9 LB sY eA nY TG m47 Ta aeg m1 m2 m4 Jo P5;obtain ⟨_,aex,ad0,_,m1,m2,_,m4⟩:=Wk.blk;simp only at m1 m2 m4;have hcut:=K9 go O.length co (i+1) (v:=(i:Int)+1) rfl (by omega);have aaI:=Lib.hid (Wk.aao (g:=go) (c:=co) rfl (k:=i+1) (by omega));replace Wk:=Lib.hid Wk;replace Pc:=Lib.hid Pc;go_upto_region 8 with fail
  generalize hw9:World.setCell w8 _ _=w9;have X5:PM B b x ⟨vr,.slice (some ⟨gl,0,none⟩) L.length cl,.slice (some ⟨go,0,none⟩) (i+1) co,vn,.slice A7 (P.length+1) c7⟩ l L2 (O.take (i+1)) N (P++[(oj,c,s)]) w9:=by rw [← hw9];exact aaI.out
  have WV:Below B w w9:=by rw [← hw9];exact Pc.out.setCell (p:=⟨b,2,none⟩) hB _
  clear hw9 aaI Wk Pc ad0 m1 m2 m4 aex hcut;obtain ⟨_,ago,af2,_,m1,m2,_,m4⟩:=X5.blk;have Wi:=X5.rY;simp only [aeu] at m1 m2 m4 Wi;have l9:=fB Wi (k:=oj) (by omega);rw [Yk.out] at l9;have hcut:=K9 go (i+1) co i (v:=(i:Int)) rfl (by omega);have hlen:(O.take (i+1)).length=i+1:=by rw [List.length_take];omega
  have TW:(O.take (i+1)).take i=O.take i:=by rw [List.take_take];congr 1;omega
  have Td:=Lib.hid (X5.aao (g:=go) (c:=co) (by rw [hlen]) (k:=i) (by omega));rw [TW] at Td;have aga:gl<w9.heap.size:=Nat.lt_of_lt_of_le FG WV.size;have abf:=Lib.hid (WV.setCell (p:=⟨b,2,none⟩) hB (.slice (some ⟨go,0,none⟩) i co));replace X5:=Lib.hid X5;replace WV:=Lib.hid WV;replace hlen:=Lib.hid hlen;replace TW:=Lib.hid TW;replace Wi:=Lib.hid Wi;rw [hL2.out,hro.out,hrc.out] at X5;rw [hL2.out,hro.out,hrc.out] at Td;rcases Nat.eq_zero_or_pos ro with hz | hz
  ·have t0:((ro:Int)==0)=true:=by simpa using hz
   have VV:Hid (Em.qG O i (lo-s)=O.take i):=Lib.hid (by rw [L8.out,if_pos hz]);clear hz;go_wp2_with fail;go_returns;exact ⟨rfl,⟨_,rfl,rfl,by rw [VV.out];exact Td.out⟩,abf.out⟩
  ·have t0:((ro:Int)==0)=false:=by
    rw [beq_eq_false_iff_ne];omega
   have VV:Hid (Em.qG O i (lo-s)=O.take (i+1)):=Lib.hid (by rw [L8.out,if_neg (by omega)]);clear hz;go_wp2_with fail;go_returns;exact ⟨rfl,⟨_,rfl,rfl,by rw [VV.out];exact X5.out⟩,WV.out⟩
end Go.Proofs.YtddkjkockbcamaaGreatDoor
end
section
namespace Go.Proofs.YtddkjkockbcamaaGreatDoor
open Go.RowKit
def DM (B b:Nat) (x:Option Part) (l:List Em.R) (c gl cl:Nat) (fin:Em.St) (r0:Value) (w wr:World):Prop :=
 ∃ (v:Vs) (st:Em.St) (L O N:List Nat),Hid (v.r=r0)∧Hid (v.l=.slice (some ⟨gl,0,none⟩) l.length cl)∧Hid (PM B b x v l L O N st.2 wr)∧Hid (Em.uD l c st L O N)∧Hid (Em.inner l c st=fin)∧Hid (Below B w wr)
theorem I2 {B b:Nat}{x:Option Part}{v:Vs}{l:List Em.R}{L O N:List Nat}{w:World}(c:Nat) (st:Em.St) (hM:PM B b x v l L O N st.2 w) (hS:Em.uD l c st L O N) (hc:c<l.length) (hl:l.length≤4000000) (hH:Em.Held l) (hcc:(Em.get l c).c=true) :
  Calls Tryz.prog 227 #[.pointer (some ⟨b,0,none⟩),.int .i64 (c:Int)] w fun e w'=>e=.returned (.tuple #[]) ∧
   (∃ v',v'.r=v.r∧∃ L' O' N',PM B b x v' l L' O' N' (Em.inner l c st).2 w'∧Em.uD l c (Em.inner l c st) L' O' N')∧Below B w w':=by
 obtain ⟨gl,cl,hvl,hcl,hBl,FG⟩:=gK hM.rY (by rw [hS.1.len];omega);rw [hS.1.len] at hvl;obtain ⟨fin,aP⟩:∃ fin,fin=Em.inner l c st:=⟨_,rfl⟩
 rw [← aP];obtain ⟨r0,hr0⟩:∃ r0,v.r=r0:=⟨_,rfl⟩
 rw [hr0];have hIn:DM B b x l c gl cl fin r0 w w:=⟨v,st,L,O,N,Lib.hid hr0,Lib.hid hvl,Lib.hid hM,Lib.hid hS,Lib.hid aP.symm,Lib.hid (Below.refl _ _)⟩
 have hH0:=Lib.hid hH;have YS:=Lib.hid hcc;clear hM hS aP hvl hH hcc FG hr0;go_enter Tryz.func227,Tryz.ntmps227;go_wp2_with fail
 go_loopw [] (fun wr=>DM B b x l c gl cl fin r0 w wr) (fun wr=>match wr.cell? ⟨gl,c,none⟩ with | some (.int _ n)=>n.toNat | _=>0)
 case atStart=>exact hIn
 case round =>
  obtain ⟨v,st,L,O,N,JY,hvl,hM,hS,zU,hBw⟩:=hrel;clear hIn;have HO:=hS.out.1.len;have ZF:c<L.length:=by omega
  obtain ⟨hB,nS,hfz,_,m1,_,_,_⟩:=hM.out.blk;have hrl:=hM.out.rY;rw [hvl.out] at m1 hrl;rw [HO] at hrl;have FG:=(hrl.lt _ rfl).2;have l0:=fB hrl ZF;obtain ⟨lc,hlc⟩:∃ n,n=L[c]:=⟨_,rfl⟩
  rw [← hlc] at l0;have U0:Em.lf L c=lc:=by rw [Em.rX ZF,hlc]
  have Ix:Em.lf st.1 c=lc:=by rw [← hS.out.2,U0]
  have hbd:=hS.out.1.bd c;have Ai:=hS.out.1.few;have hOf:=hS.out.1.xg;replace hlc:=Lib.hid hlc;replace U0:=Lib.hid U0;replace Ix:=Lib.hid Ix;replace hrl:=Lib.hid hrl;rw [Ix.out] at hbd Ai;rcases Nat.eq_zero_or_pos lc with hz | hz
  ·subst hz
   have hstop:Hid (Em.inner l c st=st):=Lib.hid (Em.rz (by rw [Ix.out];omega));have wA:Hid (st=fin):=Lib.hid (hstop.out.symm.trans zU.out);clear zU hstop Ai;go_wp2_with fail;go_returns;exact ⟨rfl,⟨v,JY.out,L,O,N,by rw [← wA.out];exact hM.out,by rw [← wA.out];exact hS.out⟩,hBw.out⟩
  ·have t0:decide ((0:Int)<(lc:Int))=true:=decide_eq_true (by omega)
   have abE:Hid ((match wr.cell? ⟨gl,c,none⟩ with | some (.int _ n)=>n.toNat | _=>0)=lc):=Lib.hid (by rw [l0];simp);have q:=CL hM.out c hc hl hH0.out (by omega) (fun j hj=>(hS.out.1.jx hj).2) hS.out.1.sorted hS.out.1.nlen (fun j hj h=>hS.out.1.none _ j hj h);clear hrl;go_wp2_with fail;refine q.mono ?_;rintro e w2 ⟨r,rfl,hr,hb2,Lj⟩;replace hr:=Lib.hid hr;replace Lj:=Lib.hid Lj;have aaN:=Lib.hid (hBw.out.trans hb2);clear q hb2 m1 l0 hfz nS;cases r with
   | none =>
    have hstop:Hid (Em.inner l c st=st):=Lib.hid (Em.PY hH0.out hS.out YS.out hr.out);have wA:Hid (st=fin):=Lib.hid (hstop.out.symm.trans zU.out);have iU:=Lib.hid (Em.Qj hS.out hr.out);have mj:Hid (PM B b x v l L O (N.set (Em.jo (Em.get l c)) c) st.2 w2):=Lib.hid (by have:=Lj.out;rwa [if_pos rfl] at this);clear zU hstop Lj;unfold QJ;go_wp2_with fail;go_returns;exact ⟨rfl,⟨v,JY.out,L,O,_,by rw [← wA.out];exact mj.out,by rw [← wA.out];exact iU.out⟩,aaN.out⟩
   | some i =>
    obtain ⟨hi,hf,hn⟩:=hr.out;have hfound:=Em.Mp hH0.out hS.out YS.out hi hf hn;have hmem:=List.getElem_mem hi;have hlt:=hS.out.1.jx hmem;have hm:=(hS.out.1.mem _).1 hmem;have hleft:=hS.out.1.left _ hmem;have hstep:=Em.Jh YS.out (by rw [Ix.out];exact hz) hfound;have fG:=Em.QF hS.out hc (by rw [Ix.out];exact hz) hi rfl;have aep:=hS.out.1.bd O[i];have mj:PM B b x v l L O N st.2 w2:=by have:=Lj.out;rwa [if_neg (by simp)] at this
    have hsz:Em.size st.1 O[i] c=if (decide (2≤Em.lf L O[i])&&decide (2≤lc))=true then 2 else 1:=by
     unfold Em.size;rw [hleft,Ix.out]
     by_cases h1:1<Em.lf st.1 O[i]∧1<lc
     ·rw [if_pos h1,if_pos (by rw [Bool.and_eq_true];exact ⟨decide_eq_true h1.1,decide_eq_true h1.2⟩)]
     ·rw [if_neg h1,if_neg]
      rw [Bool.and_eq_true];rintro ⟨h2,h3⟩;exact h1 ⟨of_decide_eq_true h2,of_decide_eq_true h3⟩
    have q2:=Ng mj i c O[i] (Em.size st.1 O[i] c) (Em.lf L O[i]) lc hi rfl (by omega) ZF (by omega) (by rw [Em.rX (by omega)]) (hlc.out.symm) (by rw [hleft];omega) (by omega) (by omega) (by omega) (by omega) _ _ rfl rfl hsz;have hsp:=Em.size_pos st.1 O[i] c;rw [hstep] at zU;obtain ⟨sz,aap⟩:∃ s,s=Em.size st.1 O[i] c:=⟨_,rfl⟩
    rw [← aap] at q2 fG zU hsp;obtain ⟨oj,B9⟩:∃ o,o=O[i]:=⟨_,rfl⟩
    rw [← B9] at q2 fG zU hlt;replace fG:=Lib.hid fG;clear hstep hfound hf hn hr Lj mj hm hleft aep hmem B9 aap hsz;unfold QJ;go_wp2_with fail;refine q2.mono ?_;rintro e w3 ⟨rfl,⟨v3,hv3,hr3,PI⟩,hb3⟩;have wm:=PI.rY;rw [hv3,hvl.out] at wm;simp only [List.length_set,HO] at wm;have hpl:Em.AT L oj c sz=(L.set oj (Em.lf L oj-sz)).set c (lc-sz):=by unfold Em.AT;rw [U0.out]
    have l3:=fB wm (k:=c) (by rw [List.length_set,List.length_set];exact ZF);rw [List.getElem_set_self] at l3;have ab5:Hid (DM B b x l c gl cl fin r0 w w3):=Lib.hid ⟨v3,_,_,_,N,Lib.hid (hr3.trans JY.out),Lib.hid (hv3.trans hvl.out),Lib.hid PI,Lib.hid (by rw [← hpl];exact fG.out),zU,Lib.hid (aaN.out.trans hb3)⟩;replace l3:=Lib.hid l3;clear q2 fG PI hb3 wm hpl hv3 hr3 zU hM hS;go_wp2_with fail
    go_roundw
    case rel=>exact ab5.out
    case measure=>rw [abE.out,l3.out];simp;omega
end Go.Proofs.YtddkjkockbcamaaGreatDoor
end
section
namespace Go.Proofs.YtddkjkockbcamaaGreatDoor
open Go.RowKit
attribute [local go_sem] aD av aq
section
variable {P:Program}{ops:Array Oper}{Q:Exit→Act→World→Prop}
theorem bW {fuel:Nat}{listed:Array Bool}{a:Act}{w:World}(is:List Nat) (hr:Region.ready .any ops listed=is) (hne:is≠[])
  (h:∀ i∈is,wpOp P ops Q i (fun a' w'=>True∧wpAnyH P .any ops Q (fun _=>True) fuel (listed.setIfInBounds i true) a' w') a w):wpAnyH P .any ops Q (fun _=>True) (fuel+1) listed a w :=
 wpAnyH_all hr hne h
theorem bh {fuel i:Nat}{listed:Array Bool}{a:Act}{w:World}{o:Oper}(ho:ops[i]? = some o) (hg:o.guard=none)
  (h:∀ K:Act→World→Prop,(∀ a' w',wpAnyH P .any ops Q (fun _=>True) fuel (listed.setIfInBounds i true) a' w'→K a' w')→o.wp P a w K Q) :
  wpOp P ops Q i (fun a' w'=>True∧wpAnyH P .any ops Q (fun _=>True) fuel (listed.setIfInBounds i true) a' w') a w:=by
 unfold wpOp;simp only [ho];rw [if_pos (by simp [Region.wanted,hg])];exact .inl (h _ fun _ _ hh=>⟨trivial,hh⟩)
theorem sG {fuel i:Nat}{listed:Array Bool}{a:Act}{w:World}{o:Oper}(v:Value) (ho:ops[i]? = some o) (hg:o.guard=none) (hs:Region.noSelect ops=true) (h1:(Region.ready .any ops listed).contains i=true) (h2:Region.free .any ops listed i=true)
  (hQ:∀ c a d v w,Q (.panic c) (Act.put a d v) w→Q (.panic c) a w) (hv:∀ w',(execOp a.eval o).run P w'=.ok (.value v) w') (k:wpAnyH P .any ops Q (fun _=>True) fuel (listed.setIfInBounds i true) (a.put o.dst v) w) :
  wpAnyH P .any ops Q (fun _=>True) (fuel+1) listed a w :=
 wpAnyH_take ho hs h2 h1 (fun c a w=>hQ c a o.dst v w) (.inl ⟨by simp [Region.wanted,hg],fun w' _=>hv w'⟩) trivial k
end
noncomputable def lT:Array Oper:=match F7 Tryz.f201 1 with | .region _ ops _=>ops | _=>#[]
def tD (o0 o1 o2 o4:Option Part):Nat→Option Part
 | 0=>o0
 | 1=>o1
 | 2=>o2
 | 4=>o4
 | _=>none
theorem Sx (w:World) (B:Nat):Hp w B (tD none none none none):=by
 have h:∀ (k:Nat) (a:Part),tD none none none none k≠some a:=by
  intro k a h
  match k with
  | 0 | 1 | 2 | 3 | 4=>cases h
  | _+5=>cases h
 exact ⟨fun k a ha=>absurd ha (h k a),fun k k' a a' g h1=>absurd h1 (h k a)⟩
theorem bV (n:Nat):(madeCells #[.int .i64 0] (n*1)).toList=aC (List.replicate n 0):=by
 rw [Nat.mul_one,Go.toList_madeCells_one,aC,List.map_replicate];rfl
abbrev oe:Array Value:=#[.slice none 0 0,.slice none 0 0,.slice none 0 0,.slice none 0 0,.slice none 0 0]
abbrev wI (l:List Em.R) (v:Value):Option Part:=some (.row 240 4 v l.length (aG (Em.hold l)))
abbrev jz (n:Nat) (v:Value):Option Part:=some (.row 3 1 v n (aC (List.replicate n 0)))
abbrev x9 (b:Nat):Option Part:=some (.blk b oe 257)
theorem ZD {l:List Em.R}{B b:Nat}{vr vl vn:Value}{w:World}(h:Hp w B (tD (x9 b) (wI l vr) (jz l.length vl) (jz 1536 vn))) :
  PM B b none ⟨vr,vl,.slice none 0 0,vn,.slice none 0 0⟩ (Em.hold l) (List.replicate l.length 0) [] (List.replicate 1536 0) []
   (((((w.setCell ⟨b,0,none⟩ vr).setCell ⟨b,1,none⟩ vl).setCell ⟨b,2,none⟩ (.slice none 0 0)).setCell ⟨b,3,none⟩ vn).setCell ⟨b,4,none⟩ (.slice none 0 0)):=by
 have e1:(Em.hold l).length=l.length:=by simp [Em.hold]
 have h3:Hp w B (FU b oe none (Em.hold l) vr (List.replicate l.length 0) vl [] (.slice none 0 0) (List.replicate 1536 0) vn [] (.slice none 0 0)):=by
  refine ⟨fun k a ha=>?_,fun k k' a a' g h1 h2 hg hg'=>?_⟩
  ·match k with
   | 0=>exact h.holds 0 a ha
   | 1=>exact h.holds 1 a (by simpa only [FU,tD,e1] using ha)
   | 2=>exact h.holds 2 a (by simpa only [FU,tD,List.length_replicate] using ha)
   | 4=>exact h.holds 4 a (by simpa only [FU,tD,List.length_replicate] using ha)
   | 3=>cases ha;exact World.ownsRow_nil _ _ _ _
   | 5=>cases ha;exact World.ownsRow_nil _ _ _ _
   | 6=>cases ha
   | _+7=>cases ha
  ·have key:∀ (k:Nat) (a:Part) (g:Nat),FU b oe none (Em.hold l) vr (List.replicate l.length 0) vl [] (.slice none 0 0) (List.replicate 1536 0) vn [] (.slice none 0 0) k=some a→a.block=some g→tD (x9 b) (wI l vr) (jz l.length vl) (jz 1536 vn) k=some a:=by
    intro k a g ha hb
    match k with
    | 0=>exact ha
    | 1=>simpa only [FU,tD,e1] using ha
    | 2=>simpa only [FU,tD,List.length_replicate] using ha
    | 4=>simpa only [FU,tD,List.length_replicate] using ha
    | 3=>cases ha;simp [Part.block,Value.ownBlock] at hb
    | 5=>cases ha;simp [Part.block,Value.ownBlock] at hb
    | 6=>cases ha
    | _+7=>cases ha
   exact h.apart k k' a a' g (key k a g h1 hg) (key k' a' g h2 hg') hg hg'
 have st:∀ (w:World) (cs:Array Value) (j:Nat) (v:Value),Hp w B (FU b cs none (Em.hold l) vr (List.replicate l.length 0) vl [] (.slice none 0 0) (List.replicate 1536 0) vn [] (.slice none 0 0)) →
   Hp (w.setCell ⟨b,j,none⟩ v) B (FU b (cs.setIfInBounds j v) none (Em.hold l) vr (List.replicate l.length 0) vl [] (.slice none 0 0) (List.replicate 1536 0) vn [] (.slice none 0 0)):=by
  intro w cs j v h;refine Hp.store (k:=0) (cs:=cs) (t:=257) h rfl ?_ rfl;intro j hj
  match j with
  | 0=>exact absurd rfl hj
  | 1 | 2 | 3 | 4 | 5 | 6=>rfl
  | _+7=>rfl
 exact st _ _ 4 _ (st _ _ 3 _ (st _ _ 2 _ (st _ _ 1 _ (st _ _ 0 _ h3))))
def ew (l:List Em.R) (A:Option Addr) (c:Nat) (w0:World) (Q:Exit→Act→World→Prop):Prop :=
 ∀ (b:Nat) (v:Vs) (v12:Value) (wq:World),PM w0.heap.size b none v (Em.hold l) (List.replicate l.length 0) [] (List.replicate 1536 0) [] wq→Below w0.heap.size w0 wq→Q .normal ⟨(.slice A l.length c::undef :: .slice none 0 0 :: .pointer (some ⟨b,0,none⟩)::undef::undef :: .slice A l.length c::v.r :: .slice A l.length c :: .int .i64 (l.length:Int)::v.l::v.n::v12::undef::undef::undef::undef::undef::undef::undef::undef::undef::undef::undef::undef::undef::undef::undef::undef::undef::undef::undef::undef::undef::undef::undef::undef::undef::undef::undef::undef::undef::undef::undef::undef::undef::undef::undef::undef::undef::[]).toArray,[]⟩ wq
abbrev mU (Q:Exit→Act→World→Prop):Prop:=∀ c a d v w,Q (.panic c) (Act.put a d v) w→Q (.panic c) a w
theorem GA {l:List Em.R}{A:Option Addr}{c:Nat}{w0 w:World}{Q:Exit→Act→World→Prop}{vr:Value}{vl:Value}{vn:Value}{b:Nat}(_hpan:mU Q) (hq:ew l A c w0 Q) (_hR:Row w0 w0.heap.size 4 A l.length (aG l)) (_hl:l.length≤4000000) (hb:Below w0.heap.size w0 w)
  (hH:Hp w w0.heap.size (tD (x9 b) (wI l vr) (jz l.length vl) (jz 1536 vn))):wpAnyH Tryz.prog .any lT Q (fun _=>True) 1 #[true,true,true,true,true,true,true,true,false] ⟨(.slice A l.length c::undef :: .slice none 0 0 :: .pointer (some ⟨b,0,none⟩)::undef::undef :: .slice A l.length c::vr :: .slice A l.length c :: .int .i64 (l.length:Int)::vl::vn::(.agg #[vr,vl,.slice none 0 0,vn,.slice none 0 0])::undef::undef::undef::undef::undef::undef::undef::undef::undef::undef::undef::undef::undef::undef::undef::undef::undef::undef::undef::undef::undef::undef::undef::undef::undef::undef::undef::undef::undef::undef::undef::undef::undef::undef::undef::undef::undef::[]).toArray,[]⟩ w:=by
 replace hq:=Lib.hid hq;obtain ⟨A1,c1,rfl,_⟩:=ak (Hp.own hH (k:=1) rfl);obtain ⟨A2,c2,rfl,_⟩:=ak (Hp.own hH (k:=2) rfl);obtain ⟨A4,c4,rfl,_⟩:=ak (Hp.own hH (k:=4) rfl);obtain ⟨hB,nS,q9⟩:=Hp.base hH (k:=0) rfl;have z0:=ah q9 0;have z1:=ah q9 1;have z2:=ah q9 2;have z3:=ah q9 3;have z4:=ah q9 4;have hfz:=bf q9;have hP:=Lib.hid (ZD hH);have hB2:=Lib.hid (((((hb.setCell (p:=⟨b,0,none⟩) hB (.slice A1 l.length c1)).setCell (p:=⟨b,1,none⟩) hB (.slice A2 l.length c2)).setCell (p:=⟨b,2,none⟩) hB (.slice none 0 0)).setCell (p:=⟨b,3,none⟩) hB (.slice A4 1536 c4)).setCell (p:=⟨b,4,none⟩) hB (.slice none 0 0));clear q9 hH;refine bW [8] (by kernel_rfl) (by simp) ?_;intro i hi;obtain rfl:i=8:=by simpa using hi
 refine bh (o:=⟨none,.store 257 (.tmp 3) (.tmp 12),_,_,_,none⟩) rfl rfl ?_;intro K hK;go_simp;refine hK _ _ (wpAnyH_done (by kernel_rfl) ?_ _);exact hq.out b ⟨_,_,_,_,_⟩ _ _ hP.out hB2.out
theorem DU {l:List Em.R}{A:Option Addr}{c:Nat}{w0 w:World}{Q:Exit→Act→World→Prop}{vr:Value}{vl:Value}{vn:Value}{b:Nat}(bO:mU Q) (hq:ew l A c w0 Q) (hR:Row w0 w0.heap.size 4 A l.length (aG l)) (hl:l.length≤4000000) (hb:Below w0.heap.size w0 w)
  (hH:Hp w w0.heap.size (tD (x9 b) (wI l vr) (jz l.length vl) (jz 1536 vn))):wpAnyH Tryz.prog .any lT Q (fun _=>True) 2 #[true,true,true,true,true,true,false,true,false] ⟨(.slice A l.length c::undef :: .slice none 0 0 :: .pointer (some ⟨b,0,none⟩)::undef::undef :: .slice A l.length c::vr :: .slice A l.length c :: .int .i64 (l.length:Int)::vl::vn::undef::undef::undef::undef::undef::undef::undef::undef::undef::undef::undef::undef::undef::undef::undef::undef::undef::undef::undef::undef::undef::undef::undef::undef::undef::undef::undef::undef::undef::undef::undef::undef::undef::undef::undef::undef::undef::undef::[]).toArray,[]⟩ w:=by
 obtain ⟨A1,c1,rfl,_⟩:=ak (Hp.own hH (k:=1) rfl);obtain ⟨A2,c2,rfl,_⟩:=ak (Hp.own hH (k:=2) rfl);obtain ⟨A4,c4,rfl,_⟩:=ak (Hp.own hH (k:=4) rfl);refine sG (i:=6) (o:=⟨some 12,.build 257 #[(0,.tmp 7),(1,.tmp 10),(3,.tmp 11)],_,_,_,none⟩) (.agg #[.slice A1 l.length c1,.slice A2 l.length c2,.slice none 0 0,.slice A4 1536 c4,.slice none 0 0]) rfl rfl (by kernel_rfl) (by kernel_rfl) (by kernel_rfl) bO (fun w'=>by go_simp) ?_;exact GA bO hq hR hl hb hH
theorem RT {l:List Em.R}{A:Option Addr}{c:Nat}{w0 w:World}{Q:Exit→Act→World→Prop}{vr:Value}{vl:Value}{vn:Value}(bO:mU Q) (hq:ew l A c w0 Q) (hR:Row w0 w0.heap.size 4 A l.length (aG l)) (hl:l.length≤4000000) (hb:Below w0.heap.size w0 w)
  (hH:Hp w w0.heap.size (tD none (wI l vr) (jz l.length vl) (jz 1536 vn))):wpAnyH Tryz.prog .any lT Q (fun _=>True) 2 #[true,true,true,true,true,true,true,false,false] ⟨(.slice A l.length c::undef :: .slice none 0 0::undef::undef::undef :: .slice A l.length c::vr :: .slice A l.length c :: .int .i64 (l.length:Int)::vl::vn::(.agg #[vr,vl,.slice none 0 0,vn,.slice none 0 0])::undef::undef::undef::undef::undef::undef::undef::undef::undef::undef::undef::undef::undef::undef::undef::undef::undef::undef::undef::undef::undef::undef::undef::undef::undef::undef::undef::undef::undef::undef::undef::undef::undef::undef::undef::undef::undef::[]).toArray,[]⟩ w:=by
 refine bW [7] (by kernel_rfl) (by simp) ?_;intro i hi;obtain rfl:i=7:=by simpa using hi
 ·refine bh (o:=⟨some 3,.alloc 257,_,_,_,none⟩) rfl rfl ?_
  intro K hK;go_simp;refine hK _ _ (GA bO hq hR hl (hb.alloc hb.size _) ?_);exact Hp.more (k:=0) hH (a':=.blk w.heap.size oe 257) rfl (aa w _) ⟨hb.size,heap_alloc_new w _⟩ (fun g hg=>by have e:w.heap.size=g:=Option.some.inj hg;omega) (fun j hj=>by match j with | 0=>exact absurd rfl hj | 1 | 2 | 3 | 4 | 5 | 6=>rfl | _+7=>rfl) rfl
theorem CK {l:List Em.R}{A:Option Addr}{c:Nat}{w0 w:World}{Q:Exit→Act→World→Prop}{vr:Value}{vl:Value}{vn:Value}(bO:mU Q) (hq:ew l A c w0 Q) (hR:Row w0 w0.heap.size 4 A l.length (aG l)) (hl:l.length≤4000000) (hb:Below w0.heap.size w0 w)
  (hH:Hp w w0.heap.size (tD none (wI l vr) (jz l.length vl) (jz 1536 vn))):wpAnyH Tryz.prog .any lT Q (fun _=>True) 3 #[true,true,true,true,true,true,false,false,false] ⟨(.slice A l.length c::undef :: .slice none 0 0::undef::undef::undef :: .slice A l.length c::vr :: .slice A l.length c :: .int .i64 (l.length:Int)::vl::vn::undef::undef::undef::undef::undef::undef::undef::undef::undef::undef::undef::undef::undef::undef::undef::undef::undef::undef::undef::undef::undef::undef::undef::undef::undef::undef::undef::undef::undef::undef::undef::undef::undef::undef::undef::undef::undef::undef::[]).toArray,[]⟩ w:=by
 obtain ⟨A1,c1,rfl,_⟩:=ak (Hp.own hH (k:=1) rfl);obtain ⟨A2,c2,rfl,_⟩:=ak (Hp.own hH (k:=2) rfl);obtain ⟨A4,c4,rfl,_⟩:=ak (Hp.own hH (k:=4) rfl);refine sG (i:=6) (o:=⟨some 12,.build 257 #[(0,.tmp 7),(1,.tmp 10),(3,.tmp 11)],_,_,_,none⟩) (.agg #[.slice A1 l.length c1,.slice A2 l.length c2,.slice none 0 0,.slice A4 1536 c4,.slice none 0 0]) rfl rfl (by kernel_rfl) (by kernel_rfl) (by kernel_rfl) bO (fun w'=>by go_simp) ?_;exact RT bO hq hR hl hb hH
theorem DI {l:List Em.R}{A:Option Addr}{c:Nat}{w0 w:World}{Q:Exit→Act→World→Prop}{vr:Value}{vl:Value}{b:Nat}(bO:mU Q) (hq:ew l A c w0 Q) (hR:Row w0 w0.heap.size 4 A l.length (aG l)) (hl:l.length≤4000000) (hb:Below w0.heap.size w0 w)
  (hH:Hp w w0.heap.size (tD (x9 b) (wI l vr) (jz l.length vl) none)):wpAnyH Tryz.prog .any lT Q (fun _=>True) 3 #[true,true,true,true,true,false,false,true,false] ⟨(.slice A l.length c::undef :: .slice none 0 0 :: .pointer (some ⟨b,0,none⟩)::undef::undef :: .slice A l.length c::vr :: .slice A l.length c :: .int .i64 (l.length:Int)::vl::undef::undef::undef::undef::undef::undef::undef::undef::undef::undef::undef::undef::undef::undef::undef::undef::undef::undef::undef::undef::undef::undef::undef::undef::undef::undef::undef::undef::undef::undef::undef::undef::undef::undef::undef::undef::undef::undef::undef::[]).toArray,[]⟩ w:=by
 refine bW [5] (by kernel_rfl) (by simp) ?_;intro i hi;obtain rfl:i=5:=by simpa using hi
 ·refine bh (o:=⟨some 11,.makeSlice 23 (.const (.int .i64 1536)) (.const (.int .i64 1536)),_,_,_,none⟩) rfl rfl ?_
  intro K hK;have hmk:∀ w,(Instr.makeSlice 23 (.int .i64 1536) (.int .i64 1536)).run Tryz.prog w=.ok (.slice (some ⟨w.heap.size,0,none⟩) 1536 1536) (w.alloc (.cells (madeCells (Value.int .i64 0).cells (1536*1)) 3)):=fun w=>run_mk eJ (z:=.int .i64 0) (by kernel_rfl) 1536 (by omega) (by omega) w;have hown:=Lib.hid (dI w w0.heap.size 1 1536 3 #[.int .i64 0] hb.size (by omega));replace hown:=Lib.hid (by have:=hown.out;rwa [bV] at this);simp only [Value.cells] at hmk;generalize madeCells _ (1536*1)=C at *;go_simp;refine hK _ _ (DU bO hq hR hl (hb.alloc hb.size _) ?_);exact Hp.more (k:=4) hH (a':=.row 3 1 (.slice (some ⟨w.heap.size,0,none⟩) 1536 1536) 1536 (aC (List.replicate 1536 0))) rfl (aa w _) hown.out (fun g hg=>by have e:w.heap.size=g:=Option.some.inj hg;omega) (fun j hj=>by match j with | 0 | 1 | 2 | 3 | 5 | 6=>rfl | 4=>exact absurd rfl hj | _+7=>rfl) rfl
theorem CP {l:List Em.R}{A:Option Addr}{c:Nat}{w0 w:World}{Q:Exit→Act→World→Prop}{vr:Value}{vn:Value}{b:Nat}(bO:mU Q) (hq:ew l A c w0 Q) (hR:Row w0 w0.heap.size 4 A l.length (aG l)) (hl:l.length≤4000000) (hb:Below w0.heap.size w0 w)
  (hH:Hp w w0.heap.size (tD (x9 b) (wI l vr) none (jz 1536 vn))):wpAnyH Tryz.prog .any lT Q (fun _=>True) 3 #[true,true,true,true,false,true,false,true,false] ⟨(.slice A l.length c::undef :: .slice none 0 0 :: .pointer (some ⟨b,0,none⟩)::undef::undef :: .slice A l.length c::vr :: .slice A l.length c :: .int .i64 (l.length:Int)::undef::vn::undef::undef::undef::undef::undef::undef::undef::undef::undef::undef::undef::undef::undef::undef::undef::undef::undef::undef::undef::undef::undef::undef::undef::undef::undef::undef::undef::undef::undef::undef::undef::undef::undef::undef::undef::undef::undef::undef::[]).toArray,[]⟩ w:=by
 refine bW [4] (by kernel_rfl) (by simp) ?_;intro i hi;obtain rfl:i=4:=by simpa using hi
 ·refine bh (o:=⟨some 10,.makeSlice 23 (.tmp 9) (.tmp 9),_,_,_,none⟩) rfl rfl ?_
  intro K hK;have hmk:=fun w=>run_mk eJ (z:=.int .i64 0) (by kernel_rfl) l.length (by omega) (by omega) w;have hown:=Lib.hid (dI w w0.heap.size 1 l.length 3 #[.int .i64 0] hb.size (by omega));replace hown:=Lib.hid (by have:=hown.out;rwa [bV] at this);simp only [Value.cells] at hmk;generalize madeCells _ (l.length*1)=C at *;go_simp;refine hK _ _ (DU bO hq hR hl (hb.alloc hb.size _) ?_);exact Hp.more (k:=2) hH (a':=.row 3 1 (.slice (some ⟨w.heap.size,0,none⟩) l.length l.length) l.length (aC (List.replicate l.length 0))) rfl (aa w _) hown.out (fun g hg=>by have e:w.heap.size=g:=Option.some.inj hg;omega) (fun j hj=>by match j with | 0 | 1 | 3 | 4 | 5 | 6=>rfl | 2=>exact absurd rfl hj | _+7=>rfl) rfl
theorem Cx {l:List Em.R}{A:Option Addr}{c:Nat}{w0 w:World}{Q:Exit→Act→World→Prop}{vl:Value}{vn:Value}{b:Nat}(bO:mU Q) (hq:ew l A c w0 Q) (hR:Row w0 w0.heap.size 4 A l.length (aG l)) (hl:l.length≤4000000) (hb:Below w0.heap.size w0 w)
  (hH:Hp w w0.heap.size (tD (x9 b) none (jz l.length vl) (jz 1536 vn))):wpAnyH Tryz.prog .any lT Q (fun _=>True) 3 #[true,false,true,true,true,true,false,true,false] ⟨(.slice A l.length c::undef :: .slice none 0 0 :: .pointer (some ⟨b,0,none⟩)::undef::undef :: .slice A l.length c::undef :: .slice A l.length c :: .int .i64 (l.length:Int)::vl::vn::undef::undef::undef::undef::undef::undef::undef::undef::undef::undef::undef::undef::undef::undef::undef::undef::undef::undef::undef::undef::undef::undef::undef::undef::undef::undef::undef::undef::undef::undef::undef::undef::undef::undef::undef::undef::undef::undef::[]).toArray,[]⟩ w:=by
 refine bW [1] (by kernel_rfl) (by simp) ?_;intro i hi;obtain rfl:i=1:=by simpa using hi
 ·refine bh (o:=⟨some 7,.call { callee:=.value (.func 226),args:=#[.tmp 6],argTypes:=#[219] },_,_,_,none⟩) rfl rfl ?_
  intro K hK;go_simp;refine (gh l A c w (hR.ext hb) hl).mono ?_;rintro e w2 ⟨⟨vr,rfl,hown⟩,hb2⟩;refine hK _ _ (DU bO hq hR hl (ag hb hb2) ?_);exact Hp.more (k:=1) hH (a':=.row 240 4 vr l.length (aG (Em.hold l))) rfl hb2 (iT hown hb.size) (fun g hg=>(hown.lt g hg).1) (fun j hj=>by match j with | 0 | 2 | 3 | 4 | 5 | 6=>rfl | 1=>exact absurd rfl hj | _+7=>rfl) rfl
theorem KY {l:List Em.R}{A:Option Addr}{c:Nat}{w0 w:World}{Q:Exit→Act→World→Prop}{vr:Value}{vl:Value}(bO:mU Q) (hq:ew l A c w0 Q) (hR:Row w0 w0.heap.size 4 A l.length (aG l)) (hl:l.length≤4000000) (hb:Below w0.heap.size w0 w)
  (hH:Hp w w0.heap.size (tD none (wI l vr) (jz l.length vl) none)):wpAnyH Tryz.prog .any lT Q (fun _=>True) 4 #[true,true,true,true,true,false,false,false,false] ⟨(.slice A l.length c::undef :: .slice none 0 0::undef::undef::undef :: .slice A l.length c::vr :: .slice A l.length c :: .int .i64 (l.length:Int)::vl::undef::undef::undef::undef::undef::undef::undef::undef::undef::undef::undef::undef::undef::undef::undef::undef::undef::undef::undef::undef::undef::undef::undef::undef::undef::undef::undef::undef::undef::undef::undef::undef::undef::undef::undef::undef::undef::undef::undef::[]).toArray,[]⟩ w:=by
 refine bW [5,7] (by kernel_rfl) (by simp) ?_;intro i hi;have hi2:i=5∨i=7:=by simpa using hi
 clear hi;rcases hi2 with rfl | rfl
 ·refine bh (o:=⟨some 11,.makeSlice 23 (.const (.int .i64 1536)) (.const (.int .i64 1536)),_,_,_,none⟩) rfl rfl ?_
  intro K hK;have hmk:∀ w,(Instr.makeSlice 23 (.int .i64 1536) (.int .i64 1536)).run Tryz.prog w=.ok (.slice (some ⟨w.heap.size,0,none⟩) 1536 1536) (w.alloc (.cells (madeCells (Value.int .i64 0).cells (1536*1)) 3)):=fun w=>run_mk eJ (z:=.int .i64 0) (by kernel_rfl) 1536 (by omega) (by omega) w;have hown:=Lib.hid (dI w w0.heap.size 1 1536 3 #[.int .i64 0] hb.size (by omega));replace hown:=Lib.hid (by have:=hown.out;rwa [bV] at this);simp only [Value.cells] at hmk;generalize madeCells _ (1536*1)=C at *;go_simp;refine hK _ _ (CK bO hq hR hl (hb.alloc hb.size _) ?_);exact Hp.more (k:=4) hH (a':=.row 3 1 (.slice (some ⟨w.heap.size,0,none⟩) 1536 1536) 1536 (aC (List.replicate 1536 0))) rfl (aa w _) hown.out (fun g hg=>by have e:w.heap.size=g:=Option.some.inj hg;omega) (fun j hj=>by match j with | 0 | 1 | 2 | 3 | 5 | 6=>rfl | 4=>exact absurd rfl hj | _+7=>rfl) rfl
 ·refine bh (o:=⟨some 3,.alloc 257,_,_,_,none⟩) rfl rfl ?_
  intro K hK;go_simp;refine hK _ _ (DI bO hq hR hl (hb.alloc hb.size _) ?_);exact Hp.more (k:=0) hH (a':=.blk w.heap.size oe 257) rfl (aa w _) ⟨hb.size,heap_alloc_new w _⟩ (fun g hg=>by have e:w.heap.size=g:=Option.some.inj hg;omega) (fun j hj=>by match j with | 0=>exact absurd rfl hj | 1 | 2 | 3 | 4 | 5 | 6=>rfl | _+7=>rfl) rfl
theorem Ld {l:List Em.R}{A:Option Addr}{c:Nat}{w0 w:World}{Q:Exit→Act→World→Prop}{vr:Value}{vn:Value}(bO:mU Q) (hq:ew l A c w0 Q) (hR:Row w0 w0.heap.size 4 A l.length (aG l)) (hl:l.length≤4000000) (hb:Below w0.heap.size w0 w)
  (hH:Hp w w0.heap.size (tD none (wI l vr) none (jz 1536 vn))):wpAnyH Tryz.prog .any lT Q (fun _=>True) 4 #[true,true,true,true,false,true,false,false,false] ⟨(.slice A l.length c::undef :: .slice none 0 0::undef::undef::undef :: .slice A l.length c::vr :: .slice A l.length c :: .int .i64 (l.length:Int)::undef::vn::undef::undef::undef::undef::undef::undef::undef::undef::undef::undef::undef::undef::undef::undef::undef::undef::undef::undef::undef::undef::undef::undef::undef::undef::undef::undef::undef::undef::undef::undef::undef::undef::undef::undef::undef::undef::undef::undef::[]).toArray,[]⟩ w:=by
 refine bW [4,7] (by kernel_rfl) (by simp) ?_;intro i hi;have hi2:i=4∨i=7:=by simpa using hi
 clear hi;rcases hi2 with rfl | rfl
 ·refine bh (o:=⟨some 10,.makeSlice 23 (.tmp 9) (.tmp 9),_,_,_,none⟩) rfl rfl ?_
  intro K hK;have hmk:=fun w=>run_mk eJ (z:=.int .i64 0) (by kernel_rfl) l.length (by omega) (by omega) w;have hown:=Lib.hid (dI w w0.heap.size 1 l.length 3 #[.int .i64 0] hb.size (by omega));replace hown:=Lib.hid (by have:=hown.out;rwa [bV] at this);simp only [Value.cells] at hmk;generalize madeCells _ (l.length*1)=C at *;go_simp;refine hK _ _ (CK bO hq hR hl (hb.alloc hb.size _) ?_);exact Hp.more (k:=2) hH (a':=.row 3 1 (.slice (some ⟨w.heap.size,0,none⟩) l.length l.length) l.length (aC (List.replicate l.length 0))) rfl (aa w _) hown.out (fun g hg=>by have e:w.heap.size=g:=Option.some.inj hg;omega) (fun j hj=>by match j with | 0 | 1 | 3 | 4 | 5 | 6=>rfl | 2=>exact absurd rfl hj | _+7=>rfl) rfl
 ·refine bh (o:=⟨some 3,.alloc 257,_,_,_,none⟩) rfl rfl ?_
  intro K hK;go_simp;refine hK _ _ (CP bO hq hR hl (hb.alloc hb.size _) ?_);exact Hp.more (k:=0) hH (a':=.blk w.heap.size oe 257) rfl (aa w _) ⟨hb.size,heap_alloc_new w _⟩ (fun g hg=>by have e:w.heap.size=g:=Option.some.inj hg;omega) (fun j hj=>by match j with | 0=>exact absurd rfl hj | 1 | 2 | 3 | 4 | 5 | 6=>rfl | _+7=>rfl) rfl
theorem Lt {l:List Em.R}{A:Option Addr}{c:Nat}{w0 w:World}{Q:Exit→Act→World→Prop}{vr:Value}{b:Nat}(bO:mU Q) (hq:ew l A c w0 Q) (hR:Row w0 w0.heap.size 4 A l.length (aG l)) (hl:l.length≤4000000) (hb:Below w0.heap.size w0 w)
  (hH:Hp w w0.heap.size (tD (x9 b) (wI l vr) none none)):wpAnyH Tryz.prog .any lT Q (fun _=>True) 4 #[true,true,true,true,false,false,false,true,false] ⟨(.slice A l.length c::undef :: .slice none 0 0 :: .pointer (some ⟨b,0,none⟩)::undef::undef :: .slice A l.length c::vr :: .slice A l.length c :: .int .i64 (l.length:Int)::undef::undef::undef::undef::undef::undef::undef::undef::undef::undef::undef::undef::undef::undef::undef::undef::undef::undef::undef::undef::undef::undef::undef::undef::undef::undef::undef::undef::undef::undef::undef::undef::undef::undef::undef::undef::undef::undef::undef::undef::[]).toArray,[]⟩ w:=by
 refine bW [4,5] (by kernel_rfl) (by simp) ?_;intro i hi;have hi2:i=4∨i=5:=by simpa using hi
 clear hi;rcases hi2 with rfl | rfl
 ·refine bh (o:=⟨some 10,.makeSlice 23 (.tmp 9) (.tmp 9),_,_,_,none⟩) rfl rfl ?_
  intro K hK;have hmk:=fun w=>run_mk eJ (z:=.int .i64 0) (by kernel_rfl) l.length (by omega) (by omega) w;have hown:=Lib.hid (dI w w0.heap.size 1 l.length 3 #[.int .i64 0] hb.size (by omega));replace hown:=Lib.hid (by have:=hown.out;rwa [bV] at this);simp only [Value.cells] at hmk;generalize madeCells _ (l.length*1)=C at *;go_simp;refine hK _ _ (DI bO hq hR hl (hb.alloc hb.size _) ?_);exact Hp.more (k:=2) hH (a':=.row 3 1 (.slice (some ⟨w.heap.size,0,none⟩) l.length l.length) l.length (aC (List.replicate l.length 0))) rfl (aa w _) hown.out (fun g hg=>by have e:w.heap.size=g:=Option.some.inj hg;omega) (fun j hj=>by match j with | 0 | 1 | 3 | 4 | 5 | 6=>rfl | 2=>exact absurd rfl hj | _+7=>rfl) rfl
 ·refine bh (o:=⟨some 11,.makeSlice 23 (.const (.int .i64 1536)) (.const (.int .i64 1536)),_,_,_,none⟩) rfl rfl ?_
  intro K hK;have hmk:∀ w,(Instr.makeSlice 23 (.int .i64 1536) (.int .i64 1536)).run Tryz.prog w=.ok (.slice (some ⟨w.heap.size,0,none⟩) 1536 1536) (w.alloc (.cells (madeCells (Value.int .i64 0).cells (1536*1)) 3)):=fun w=>run_mk eJ (z:=.int .i64 0) (by kernel_rfl) 1536 (by omega) (by omega) w;have hown:=Lib.hid (dI w w0.heap.size 1 1536 3 #[.int .i64 0] hb.size (by omega));replace hown:=Lib.hid (by have:=hown.out;rwa [bV] at this);simp only [Value.cells] at hmk;generalize madeCells _ (1536*1)=C at *;go_simp;refine hK _ _ (CP bO hq hR hl (hb.alloc hb.size _) ?_);exact Hp.more (k:=4) hH (a':=.row 3 1 (.slice (some ⟨w.heap.size,0,none⟩) 1536 1536) 1536 (aC (List.replicate 1536 0))) rfl (aa w _) hown.out (fun g hg=>by have e:w.heap.size=g:=Option.some.inj hg;omega) (fun j hj=>by match j with | 0 | 1 | 2 | 3 | 5 | 6=>rfl | 4=>exact absurd rfl hj | _+7=>rfl) rfl
theorem LY {l:List Em.R}{A:Option Addr}{c:Nat}{w0 w:World}{Q:Exit→Act→World→Prop}{vl:Value}{vn:Value}(bO:mU Q) (hq:ew l A c w0 Q) (hR:Row w0 w0.heap.size 4 A l.length (aG l)) (hl:l.length≤4000000) (hb:Below w0.heap.size w0 w)
  (hH:Hp w w0.heap.size (tD none none (jz l.length vl) (jz 1536 vn))):wpAnyH Tryz.prog .any lT Q (fun _=>True) 4 #[true,false,true,true,true,true,false,false,false] ⟨(.slice A l.length c::undef :: .slice none 0 0::undef::undef::undef :: .slice A l.length c::undef :: .slice A l.length c :: .int .i64 (l.length:Int)::vl::vn::undef::undef::undef::undef::undef::undef::undef::undef::undef::undef::undef::undef::undef::undef::undef::undef::undef::undef::undef::undef::undef::undef::undef::undef::undef::undef::undef::undef::undef::undef::undef::undef::undef::undef::undef::undef::undef::undef::[]).toArray,[]⟩ w:=by
 refine bW [1,7] (by kernel_rfl) (by simp) ?_;intro i hi;have hi2:i=1∨i=7:=by simpa using hi
 clear hi;rcases hi2 with rfl | rfl
 ·refine bh (o:=⟨some 7,.call { callee:=.value (.func 226),args:=#[.tmp 6],argTypes:=#[219] },_,_,_,none⟩) rfl rfl ?_
  intro K hK;go_simp;refine (gh l A c w (hR.ext hb) hl).mono ?_;rintro e w2 ⟨⟨vr,rfl,hown⟩,hb2⟩;refine hK _ _ (CK bO hq hR hl (ag hb hb2) ?_);exact Hp.more (k:=1) hH (a':=.row 240 4 vr l.length (aG (Em.hold l))) rfl hb2 (iT hown hb.size) (fun g hg=>(hown.lt g hg).1) (fun j hj=>by match j with | 0 | 2 | 3 | 4 | 5 | 6=>rfl | 1=>exact absurd rfl hj | _+7=>rfl) rfl
 ·refine bh (o:=⟨some 3,.alloc 257,_,_,_,none⟩) rfl rfl ?_
  intro K hK;go_simp;refine hK _ _ (Cx bO hq hR hl (hb.alloc hb.size _) ?_);exact Hp.more (k:=0) hH (a':=.blk w.heap.size oe 257) rfl (aa w _) ⟨hb.size,heap_alloc_new w _⟩ (fun g hg=>by have e:w.heap.size=g:=Option.some.inj hg;omega) (fun j hj=>by match j with | 0=>exact absurd rfl hj | 1 | 2 | 3 | 4 | 5 | 6=>rfl | _+7=>rfl) rfl
theorem KS {l:List Em.R}{A:Option Addr}{c:Nat}{w0 w:World}{Q:Exit→Act→World→Prop}{vl:Value}{b:Nat}(bO:mU Q) (hq:ew l A c w0 Q) (hR:Row w0 w0.heap.size 4 A l.length (aG l)) (hl:l.length≤4000000) (hb:Below w0.heap.size w0 w)
  (hH:Hp w w0.heap.size (tD (x9 b) none (jz l.length vl) none)):wpAnyH Tryz.prog .any lT Q (fun _=>True) 4 #[true,false,true,true,true,false,false,true,false] ⟨(.slice A l.length c::undef :: .slice none 0 0 :: .pointer (some ⟨b,0,none⟩)::undef::undef :: .slice A l.length c::undef :: .slice A l.length c :: .int .i64 (l.length:Int)::vl::undef::undef::undef::undef::undef::undef::undef::undef::undef::undef::undef::undef::undef::undef::undef::undef::undef::undef::undef::undef::undef::undef::undef::undef::undef::undef::undef::undef::undef::undef::undef::undef::undef::undef::undef::undef::undef::undef::undef::[]).toArray,[]⟩ w:=by
 refine bW [1,5] (by kernel_rfl) (by simp) ?_;intro i hi;have hi2:i=1∨i=5:=by simpa using hi
 clear hi;rcases hi2 with rfl | rfl
 ·refine bh (o:=⟨some 7,.call { callee:=.value (.func 226),args:=#[.tmp 6],argTypes:=#[219] },_,_,_,none⟩) rfl rfl ?_
  intro K hK;go_simp;refine (gh l A c w (hR.ext hb) hl).mono ?_;rintro e w2 ⟨⟨vr,rfl,hown⟩,hb2⟩;refine hK _ _ (DI bO hq hR hl (ag hb hb2) ?_);exact Hp.more (k:=1) hH (a':=.row 240 4 vr l.length (aG (Em.hold l))) rfl hb2 (iT hown hb.size) (fun g hg=>(hown.lt g hg).1) (fun j hj=>by match j with | 0 | 2 | 3 | 4 | 5 | 6=>rfl | 1=>exact absurd rfl hj | _+7=>rfl) rfl
 ·refine bh (o:=⟨some 11,.makeSlice 23 (.const (.int .i64 1536)) (.const (.int .i64 1536)),_,_,_,none⟩) rfl rfl ?_
  intro K hK;have hmk:∀ w,(Instr.makeSlice 23 (.int .i64 1536) (.int .i64 1536)).run Tryz.prog w=.ok (.slice (some ⟨w.heap.size,0,none⟩) 1536 1536) (w.alloc (.cells (madeCells (Value.int .i64 0).cells (1536*1)) 3)):=fun w=>run_mk eJ (z:=.int .i64 0) (by kernel_rfl) 1536 (by omega) (by omega) w;have hown:=Lib.hid (dI w w0.heap.size 1 1536 3 #[.int .i64 0] hb.size (by omega));replace hown:=Lib.hid (by have:=hown.out;rwa [bV] at this);simp only [Value.cells] at hmk;generalize madeCells _ (1536*1)=C at *;go_simp;refine hK _ _ (Cx bO hq hR hl (hb.alloc hb.size _) ?_);exact Hp.more (k:=4) hH (a':=.row 3 1 (.slice (some ⟨w.heap.size,0,none⟩) 1536 1536) 1536 (aC (List.replicate 1536 0))) rfl (aa w _) hown.out (fun g hg=>by have e:w.heap.size=g:=Option.some.inj hg;omega) (fun j hj=>by match j with | 0 | 1 | 2 | 3 | 5 | 6=>rfl | 4=>exact absurd rfl hj | _+7=>rfl) rfl
theorem LZ {l:List Em.R}{A:Option Addr}{c:Nat}{w0 w:World}{Q:Exit→Act→World→Prop}{vn:Value}{b:Nat}(bO:mU Q) (hq:ew l A c w0 Q) (hR:Row w0 w0.heap.size 4 A l.length (aG l)) (hl:l.length≤4000000) (hb:Below w0.heap.size w0 w)
  (hH:Hp w w0.heap.size (tD (x9 b) none none (jz 1536 vn))):wpAnyH Tryz.prog .any lT Q (fun _=>True) 4 #[true,false,true,true,false,true,false,true,false] ⟨(.slice A l.length c::undef :: .slice none 0 0 :: .pointer (some ⟨b,0,none⟩)::undef::undef :: .slice A l.length c::undef :: .slice A l.length c :: .int .i64 (l.length:Int)::undef::vn::undef::undef::undef::undef::undef::undef::undef::undef::undef::undef::undef::undef::undef::undef::undef::undef::undef::undef::undef::undef::undef::undef::undef::undef::undef::undef::undef::undef::undef::undef::undef::undef::undef::undef::undef::undef::undef::undef::[]).toArray,[]⟩ w:=by
 refine bW [1,4] (by kernel_rfl) (by simp) ?_;intro i hi;have hi2:i=1∨i=4:=by simpa using hi
 clear hi;rcases hi2 with rfl | rfl
 ·refine bh (o:=⟨some 7,.call { callee:=.value (.func 226),args:=#[.tmp 6],argTypes:=#[219] },_,_,_,none⟩) rfl rfl ?_
  intro K hK;go_simp;refine (gh l A c w (hR.ext hb) hl).mono ?_;rintro e w2 ⟨⟨vr,rfl,hown⟩,hb2⟩;refine hK _ _ (CP bO hq hR hl (ag hb hb2) ?_);exact Hp.more (k:=1) hH (a':=.row 240 4 vr l.length (aG (Em.hold l))) rfl hb2 (iT hown hb.size) (fun g hg=>(hown.lt g hg).1) (fun j hj=>by match j with | 0 | 2 | 3 | 4 | 5 | 6=>rfl | 1=>exact absurd rfl hj | _+7=>rfl) rfl
 ·refine bh (o:=⟨some 10,.makeSlice 23 (.tmp 9) (.tmp 9),_,_,_,none⟩) rfl rfl ?_
  intro K hK;have hmk:=fun w=>run_mk eJ (z:=.int .i64 0) (by kernel_rfl) l.length (by omega) (by omega) w;have hown:=Lib.hid (dI w w0.heap.size 1 l.length 3 #[.int .i64 0] hb.size (by omega));replace hown:=Lib.hid (by have:=hown.out;rwa [bV] at this);simp only [Value.cells] at hmk;generalize madeCells _ (l.length*1)=C at *;go_simp;refine hK _ _ (Cx bO hq hR hl (hb.alloc hb.size _) ?_);exact Hp.more (k:=2) hH (a':=.row 3 1 (.slice (some ⟨w.heap.size,0,none⟩) l.length l.length) l.length (aC (List.replicate l.length 0))) rfl (aa w _) hown.out (fun g hg=>by have e:w.heap.size=g:=Option.some.inj hg;omega) (fun j hj=>by match j with | 0 | 1 | 3 | 4 | 5 | 6=>rfl | 2=>exact absurd rfl hj | _+7=>rfl) rfl
theorem UF {l:List Em.R}{A:Option Addr}{c:Nat}{w0 w:World}{Q:Exit→Act→World→Prop}{vr:Value}(bO:mU Q) (hq:ew l A c w0 Q) (hR:Row w0 w0.heap.size 4 A l.length (aG l)) (hl:l.length≤4000000) (hb:Below w0.heap.size w0 w)
  (hH:Hp w w0.heap.size (tD none (wI l vr) none none)):wpAnyH Tryz.prog .any lT Q (fun _=>True) 5 #[true,true,true,true,false,false,false,false,false] ⟨(.slice A l.length c::undef :: .slice none 0 0::undef::undef::undef :: .slice A l.length c::vr :: .slice A l.length c :: .int .i64 (l.length:Int)::undef::undef::undef::undef::undef::undef::undef::undef::undef::undef::undef::undef::undef::undef::undef::undef::undef::undef::undef::undef::undef::undef::undef::undef::undef::undef::undef::undef::undef::undef::undef::undef::undef::undef::undef::undef::undef::undef::undef::undef::[]).toArray,[]⟩ w:=by
 refine bW [4,5,7] (by kernel_rfl) (by simp) ?_;intro i hi;have hi2:i=4∨i=5∨i=7:=by simpa using hi
 clear hi;rcases hi2 with rfl | rfl | rfl
 ·refine bh (o:=⟨some 10,.makeSlice 23 (.tmp 9) (.tmp 9),_,_,_,none⟩) rfl rfl ?_
  intro K hK;have hmk:=fun w=>run_mk eJ (z:=.int .i64 0) (by kernel_rfl) l.length (by omega) (by omega) w;have hown:=Lib.hid (dI w w0.heap.size 1 l.length 3 #[.int .i64 0] hb.size (by omega));replace hown:=Lib.hid (by have:=hown.out;rwa [bV] at this);simp only [Value.cells] at hmk;generalize madeCells _ (l.length*1)=C at *;go_simp;refine hK _ _ (KY bO hq hR hl (hb.alloc hb.size _) ?_);exact Hp.more (k:=2) hH (a':=.row 3 1 (.slice (some ⟨w.heap.size,0,none⟩) l.length l.length) l.length (aC (List.replicate l.length 0))) rfl (aa w _) hown.out (fun g hg=>by have e:w.heap.size=g:=Option.some.inj hg;omega) (fun j hj=>by match j with | 0 | 1 | 3 | 4 | 5 | 6=>rfl | 2=>exact absurd rfl hj | _+7=>rfl) rfl
 ·refine bh (o:=⟨some 11,.makeSlice 23 (.const (.int .i64 1536)) (.const (.int .i64 1536)),_,_,_,none⟩) rfl rfl ?_
  intro K hK;have hmk:∀ w,(Instr.makeSlice 23 (.int .i64 1536) (.int .i64 1536)).run Tryz.prog w=.ok (.slice (some ⟨w.heap.size,0,none⟩) 1536 1536) (w.alloc (.cells (madeCells (Value.int .i64 0).cells (1536*1)) 3)):=fun w=>run_mk eJ (z:=.int .i64 0) (by kernel_rfl) 1536 (by omega) (by omega) w;have hown:=Lib.hid (dI w w0.heap.size 1 1536 3 #[.int .i64 0] hb.size (by omega));replace hown:=Lib.hid (by have:=hown.out;rwa [bV] at this);simp only [Value.cells] at hmk;generalize madeCells _ (1536*1)=C at *;go_simp;refine hK _ _ (Ld bO hq hR hl (hb.alloc hb.size _) ?_);exact Hp.more (k:=4) hH (a':=.row 3 1 (.slice (some ⟨w.heap.size,0,none⟩) 1536 1536) 1536 (aC (List.replicate 1536 0))) rfl (aa w _) hown.out (fun g hg=>by have e:w.heap.size=g:=Option.some.inj hg;omega) (fun j hj=>by match j with | 0 | 1 | 2 | 3 | 5 | 6=>rfl | 4=>exact absurd rfl hj | _+7=>rfl) rfl
 ·refine bh (o:=⟨some 3,.alloc 257,_,_,_,none⟩) rfl rfl ?_
  intro K hK;go_simp;refine hK _ _ (Lt bO hq hR hl (hb.alloc hb.size _) ?_);exact Hp.more (k:=0) hH (a':=.blk w.heap.size oe 257) rfl (aa w _) ⟨hb.size,heap_alloc_new w _⟩ (fun g hg=>by have e:w.heap.size=g:=Option.some.inj hg;omega) (fun j hj=>by match j with | 0=>exact absurd rfl hj | 1 | 2 | 3 | 4 | 5 | 6=>rfl | _+7=>rfl) rfl
theorem U3 {l:List Em.R}{A:Option Addr}{c:Nat}{w0 w:World}{Q:Exit→Act→World→Prop}{vl:Value}(bO:mU Q) (hq:ew l A c w0 Q) (hR:Row w0 w0.heap.size 4 A l.length (aG l)) (hl:l.length≤4000000) (hb:Below w0.heap.size w0 w)
  (hH:Hp w w0.heap.size (tD none none (jz l.length vl) none)):wpAnyH Tryz.prog .any lT Q (fun _=>True) 5 #[true,false,true,true,true,false,false,false,false] ⟨(.slice A l.length c::undef :: .slice none 0 0::undef::undef::undef :: .slice A l.length c::undef :: .slice A l.length c :: .int .i64 (l.length:Int)::vl::undef::undef::undef::undef::undef::undef::undef::undef::undef::undef::undef::undef::undef::undef::undef::undef::undef::undef::undef::undef::undef::undef::undef::undef::undef::undef::undef::undef::undef::undef::undef::undef::undef::undef::undef::undef::undef::undef::undef::[]).toArray,[]⟩ w:=by
 refine bW [1,5,7] (by kernel_rfl) (by simp) ?_;intro i hi;have hi2:i=1∨i=5∨i=7:=by simpa using hi
 clear hi;rcases hi2 with rfl | rfl | rfl
 ·refine bh (o:=⟨some 7,.call { callee:=.value (.func 226),args:=#[.tmp 6],argTypes:=#[219] },_,_,_,none⟩) rfl rfl ?_
  intro K hK;go_simp;refine (gh l A c w (hR.ext hb) hl).mono ?_;rintro e w2 ⟨⟨vr,rfl,hown⟩,hb2⟩;refine hK _ _ (KY bO hq hR hl (ag hb hb2) ?_);exact Hp.more (k:=1) hH (a':=.row 240 4 vr l.length (aG (Em.hold l))) rfl hb2 (iT hown hb.size) (fun g hg=>(hown.lt g hg).1) (fun j hj=>by match j with | 0 | 2 | 3 | 4 | 5 | 6=>rfl | 1=>exact absurd rfl hj | _+7=>rfl) rfl
 ·refine bh (o:=⟨some 11,.makeSlice 23 (.const (.int .i64 1536)) (.const (.int .i64 1536)),_,_,_,none⟩) rfl rfl ?_
  intro K hK;have hmk:∀ w,(Instr.makeSlice 23 (.int .i64 1536) (.int .i64 1536)).run Tryz.prog w=.ok (.slice (some ⟨w.heap.size,0,none⟩) 1536 1536) (w.alloc (.cells (madeCells (Value.int .i64 0).cells (1536*1)) 3)):=fun w=>run_mk eJ (z:=.int .i64 0) (by kernel_rfl) 1536 (by omega) (by omega) w;have hown:=Lib.hid (dI w w0.heap.size 1 1536 3 #[.int .i64 0] hb.size (by omega));replace hown:=Lib.hid (by have:=hown.out;rwa [bV] at this);simp only [Value.cells] at hmk;generalize madeCells _ (1536*1)=C at *;go_simp;refine hK _ _ (LY bO hq hR hl (hb.alloc hb.size _) ?_);exact Hp.more (k:=4) hH (a':=.row 3 1 (.slice (some ⟨w.heap.size,0,none⟩) 1536 1536) 1536 (aC (List.replicate 1536 0))) rfl (aa w _) hown.out (fun g hg=>by have e:w.heap.size=g:=Option.some.inj hg;omega) (fun j hj=>by match j with | 0 | 1 | 2 | 3 | 5 | 6=>rfl | 4=>exact absurd rfl hj | _+7=>rfl) rfl
 ·refine bh (o:=⟨some 3,.alloc 257,_,_,_,none⟩) rfl rfl ?_
  intro K hK;go_simp;refine hK _ _ (KS bO hq hR hl (hb.alloc hb.size _) ?_);exact Hp.more (k:=0) hH (a':=.blk w.heap.size oe 257) rfl (aa w _) ⟨hb.size,heap_alloc_new w _⟩ (fun g hg=>by have e:w.heap.size=g:=Option.some.inj hg;omega) (fun j hj=>by match j with | 0=>exact absurd rfl hj | 1 | 2 | 3 | 4 | 5 | 6=>rfl | _+7=>rfl) rfl
theorem WB {l:List Em.R}{A:Option Addr}{c:Nat}{w0 w:World}{Q:Exit→Act→World→Prop}{vn:Value}(bO:mU Q) (hq:ew l A c w0 Q) (hR:Row w0 w0.heap.size 4 A l.length (aG l)) (hl:l.length≤4000000) (hb:Below w0.heap.size w0 w)
  (hH:Hp w w0.heap.size (tD none none none (jz 1536 vn))):wpAnyH Tryz.prog .any lT Q (fun _=>True) 5 #[true,false,true,true,false,true,false,false,false] ⟨(.slice A l.length c::undef :: .slice none 0 0::undef::undef::undef :: .slice A l.length c::undef :: .slice A l.length c :: .int .i64 (l.length:Int)::undef::vn::undef::undef::undef::undef::undef::undef::undef::undef::undef::undef::undef::undef::undef::undef::undef::undef::undef::undef::undef::undef::undef::undef::undef::undef::undef::undef::undef::undef::undef::undef::undef::undef::undef::undef::undef::undef::undef::undef::[]).toArray,[]⟩ w:=by
 refine bW [1,4,7] (by kernel_rfl) (by simp) ?_;intro i hi;have hi2:i=1∨i=4∨i=7:=by simpa using hi
 clear hi;rcases hi2 with rfl | rfl | rfl
 ·refine bh (o:=⟨some 7,.call { callee:=.value (.func 226),args:=#[.tmp 6],argTypes:=#[219] },_,_,_,none⟩) rfl rfl ?_
  intro K hK;go_simp;refine (gh l A c w (hR.ext hb) hl).mono ?_;rintro e w2 ⟨⟨vr,rfl,hown⟩,hb2⟩;refine hK _ _ (Ld bO hq hR hl (ag hb hb2) ?_);exact Hp.more (k:=1) hH (a':=.row 240 4 vr l.length (aG (Em.hold l))) rfl hb2 (iT hown hb.size) (fun g hg=>(hown.lt g hg).1) (fun j hj=>by match j with | 0 | 2 | 3 | 4 | 5 | 6=>rfl | 1=>exact absurd rfl hj | _+7=>rfl) rfl
 ·refine bh (o:=⟨some 10,.makeSlice 23 (.tmp 9) (.tmp 9),_,_,_,none⟩) rfl rfl ?_
  intro K hK;have hmk:=fun w=>run_mk eJ (z:=.int .i64 0) (by kernel_rfl) l.length (by omega) (by omega) w;have hown:=Lib.hid (dI w w0.heap.size 1 l.length 3 #[.int .i64 0] hb.size (by omega));replace hown:=Lib.hid (by have:=hown.out;rwa [bV] at this);simp only [Value.cells] at hmk;generalize madeCells _ (l.length*1)=C at *;go_simp;refine hK _ _ (LY bO hq hR hl (hb.alloc hb.size _) ?_);exact Hp.more (k:=2) hH (a':=.row 3 1 (.slice (some ⟨w.heap.size,0,none⟩) l.length l.length) l.length (aC (List.replicate l.length 0))) rfl (aa w _) hown.out (fun g hg=>by have e:w.heap.size=g:=Option.some.inj hg;omega) (fun j hj=>by match j with | 0 | 1 | 3 | 4 | 5 | 6=>rfl | 2=>exact absurd rfl hj | _+7=>rfl) rfl
 ·refine bh (o:=⟨some 3,.alloc 257,_,_,_,none⟩) rfl rfl ?_
  intro K hK;go_simp;refine hK _ _ (LZ bO hq hR hl (hb.alloc hb.size _) ?_);exact Hp.more (k:=0) hH (a':=.blk w.heap.size oe 257) rfl (aa w _) ⟨hb.size,heap_alloc_new w _⟩ (fun g hg=>by have e:w.heap.size=g:=Option.some.inj hg;omega) (fun j hj=>by match j with | 0=>exact absurd rfl hj | 1 | 2 | 3 | 4 | 5 | 6=>rfl | _+7=>rfl) rfl
theorem Ww {l:List Em.R}{A:Option Addr}{c:Nat}{w0 w:World}{Q:Exit→Act→World→Prop}{b:Nat}(bO:mU Q) (hq:ew l A c w0 Q) (hR:Row w0 w0.heap.size 4 A l.length (aG l)) (hl:l.length≤4000000) (hb:Below w0.heap.size w0 w)
  (hH:Hp w w0.heap.size (tD (x9 b) none none none)):wpAnyH Tryz.prog .any lT Q (fun _=>True) 5 #[true,false,true,true,false,false,false,true,false] ⟨(.slice A l.length c::undef :: .slice none 0 0 :: .pointer (some ⟨b,0,none⟩)::undef::undef :: .slice A l.length c::undef :: .slice A l.length c :: .int .i64 (l.length:Int)::undef::undef::undef::undef::undef::undef::undef::undef::undef::undef::undef::undef::undef::undef::undef::undef::undef::undef::undef::undef::undef::undef::undef::undef::undef::undef::undef::undef::undef::undef::undef::undef::undef::undef::undef::undef::undef::undef::undef::undef::[]).toArray,[]⟩ w:=by
 refine bW [1,4,5] (by kernel_rfl) (by simp) ?_;intro i hi;have hi2:i=1∨i=4∨i=5:=by simpa using hi
 clear hi;rcases hi2 with rfl | rfl | rfl
 ·refine bh (o:=⟨some 7,.call { callee:=.value (.func 226),args:=#[.tmp 6],argTypes:=#[219] },_,_,_,none⟩) rfl rfl ?_
  intro K hK;go_simp;refine (gh l A c w (hR.ext hb) hl).mono ?_;rintro e w2 ⟨⟨vr,rfl,hown⟩,hb2⟩;refine hK _ _ (Lt bO hq hR hl (ag hb hb2) ?_);exact Hp.more (k:=1) hH (a':=.row 240 4 vr l.length (aG (Em.hold l))) rfl hb2 (iT hown hb.size) (fun g hg=>(hown.lt g hg).1) (fun j hj=>by match j with | 0 | 2 | 3 | 4 | 5 | 6=>rfl | 1=>exact absurd rfl hj | _+7=>rfl) rfl
 ·refine bh (o:=⟨some 10,.makeSlice 23 (.tmp 9) (.tmp 9),_,_,_,none⟩) rfl rfl ?_
  intro K hK;have hmk:=fun w=>run_mk eJ (z:=.int .i64 0) (by kernel_rfl) l.length (by omega) (by omega) w;have hown:=Lib.hid (dI w w0.heap.size 1 l.length 3 #[.int .i64 0] hb.size (by omega));replace hown:=Lib.hid (by have:=hown.out;rwa [bV] at this);simp only [Value.cells] at hmk;generalize madeCells _ (l.length*1)=C at *;go_simp;refine hK _ _ (KS bO hq hR hl (hb.alloc hb.size _) ?_);exact Hp.more (k:=2) hH (a':=.row 3 1 (.slice (some ⟨w.heap.size,0,none⟩) l.length l.length) l.length (aC (List.replicate l.length 0))) rfl (aa w _) hown.out (fun g hg=>by have e:w.heap.size=g:=Option.some.inj hg;omega) (fun j hj=>by match j with | 0 | 1 | 3 | 4 | 5 | 6=>rfl | 2=>exact absurd rfl hj | _+7=>rfl) rfl
 ·refine bh (o:=⟨some 11,.makeSlice 23 (.const (.int .i64 1536)) (.const (.int .i64 1536)),_,_,_,none⟩) rfl rfl ?_
  intro K hK;have hmk:∀ w,(Instr.makeSlice 23 (.int .i64 1536) (.int .i64 1536)).run Tryz.prog w=.ok (.slice (some ⟨w.heap.size,0,none⟩) 1536 1536) (w.alloc (.cells (madeCells (Value.int .i64 0).cells (1536*1)) 3)):=fun w=>run_mk eJ (z:=.int .i64 0) (by kernel_rfl) 1536 (by omega) (by omega) w;have hown:=Lib.hid (dI w w0.heap.size 1 1536 3 #[.int .i64 0] hb.size (by omega));replace hown:=Lib.hid (by have:=hown.out;rwa [bV] at this);simp only [Value.cells] at hmk;generalize madeCells _ (1536*1)=C at *;go_simp;refine hK _ _ (LZ bO hq hR hl (hb.alloc hb.size _) ?_);exact Hp.more (k:=4) hH (a':=.row 3 1 (.slice (some ⟨w.heap.size,0,none⟩) 1536 1536) 1536 (aC (List.replicate 1536 0))) rfl (aa w _) hown.out (fun g hg=>by have e:w.heap.size=g:=Option.some.inj hg;omega) (fun j hj=>by match j with | 0 | 1 | 2 | 3 | 5 | 6=>rfl | 4=>exact absurd rfl hj | _+7=>rfl) rfl
theorem Wq {l:List Em.R}{A:Option Addr}{c:Nat}{w0 w:World}{Q:Exit→Act→World→Prop}(bO:mU Q) (hq:ew l A c w0 Q) (hR:Row w0 w0.heap.size 4 A l.length (aG l)) (hl:l.length≤4000000) (hb:Below w0.heap.size w0 w)
  (hH:Hp w w0.heap.size (tD none none none none)):wpAnyH Tryz.prog .any lT Q (fun _=>True) 6 #[true,false,true,true,false,false,false,false,false] ⟨(.slice A l.length c::undef :: .slice none 0 0::undef::undef::undef :: .slice A l.length c::undef :: .slice A l.length c :: .int .i64 (l.length:Int)::undef::undef::undef::undef::undef::undef::undef::undef::undef::undef::undef::undef::undef::undef::undef::undef::undef::undef::undef::undef::undef::undef::undef::undef::undef::undef::undef::undef::undef::undef::undef::undef::undef::undef::undef::undef::undef::undef::undef::undef::[]).toArray,[]⟩ w:=by
 refine bW [1,4,5,7] (by kernel_rfl) (by simp) ?_;intro i hi;have hi2:i=1∨i=4∨i=5∨i=7:=by simpa using hi
 clear hi;rcases hi2 with rfl | rfl | rfl | rfl
 ·refine bh (o:=⟨some 7,.call { callee:=.value (.func 226),args:=#[.tmp 6],argTypes:=#[219] },_,_,_,none⟩) rfl rfl ?_
  intro K hK;go_simp;refine (gh l A c w (hR.ext hb) hl).mono ?_;rintro e w2 ⟨⟨vr,rfl,hown⟩,hb2⟩;refine hK _ _ (UF bO hq hR hl (ag hb hb2) ?_);exact Hp.more (k:=1) hH (a':=.row 240 4 vr l.length (aG (Em.hold l))) rfl hb2 (iT hown hb.size) (fun g hg=>(hown.lt g hg).1) (fun j hj=>by match j with | 0 | 2 | 3 | 4 | 5 | 6=>rfl | 1=>exact absurd rfl hj | _+7=>rfl) rfl
 ·refine bh (o:=⟨some 10,.makeSlice 23 (.tmp 9) (.tmp 9),_,_,_,none⟩) rfl rfl ?_
  intro K hK;have hmk:=fun w=>run_mk eJ (z:=.int .i64 0) (by kernel_rfl) l.length (by omega) (by omega) w;have hown:=Lib.hid (dI w w0.heap.size 1 l.length 3 #[.int .i64 0] hb.size (by omega));replace hown:=Lib.hid (by have:=hown.out;rwa [bV] at this);simp only [Value.cells] at hmk;generalize madeCells _ (l.length*1)=C at *;go_simp;refine hK _ _ (U3 bO hq hR hl (hb.alloc hb.size _) ?_);exact Hp.more (k:=2) hH (a':=.row 3 1 (.slice (some ⟨w.heap.size,0,none⟩) l.length l.length) l.length (aC (List.replicate l.length 0))) rfl (aa w _) hown.out (fun g hg=>by have e:w.heap.size=g:=Option.some.inj hg;omega) (fun j hj=>by match j with | 0 | 1 | 3 | 4 | 5 | 6=>rfl | 2=>exact absurd rfl hj | _+7=>rfl) rfl
 ·refine bh (o:=⟨some 11,.makeSlice 23 (.const (.int .i64 1536)) (.const (.int .i64 1536)),_,_,_,none⟩) rfl rfl ?_
  intro K hK;have hmk:∀ w,(Instr.makeSlice 23 (.int .i64 1536) (.int .i64 1536)).run Tryz.prog w=.ok (.slice (some ⟨w.heap.size,0,none⟩) 1536 1536) (w.alloc (.cells (madeCells (Value.int .i64 0).cells (1536*1)) 3)):=fun w=>run_mk eJ (z:=.int .i64 0) (by kernel_rfl) 1536 (by omega) (by omega) w;have hown:=Lib.hid (dI w w0.heap.size 1 1536 3 #[.int .i64 0] hb.size (by omega));replace hown:=Lib.hid (by have:=hown.out;rwa [bV] at this);simp only [Value.cells] at hmk;generalize madeCells _ (1536*1)=C at *;go_simp;refine hK _ _ (WB bO hq hR hl (hb.alloc hb.size _) ?_);exact Hp.more (k:=4) hH (a':=.row 3 1 (.slice (some ⟨w.heap.size,0,none⟩) 1536 1536) 1536 (aC (List.replicate 1536 0))) rfl (aa w _) hown.out (fun g hg=>by have e:w.heap.size=g:=Option.some.inj hg;omega) (fun j hj=>by match j with | 0 | 1 | 2 | 3 | 5 | 6=>rfl | 4=>exact absurd rfl hj | _+7=>rfl) rfl
 ·refine bh (o:=⟨some 3,.alloc 257,_,_,_,none⟩) rfl rfl ?_
  intro K hK;go_simp;refine hK _ _ (Ww bO hq hR hl (hb.alloc hb.size _) ?_);exact Hp.more (k:=0) hH (a':=.blk w.heap.size oe 257) rfl (aa w _) ⟨hb.size,heap_alloc_new w _⟩ (fun g hg=>by have e:w.heap.size=g:=Option.some.inj hg;omega) (fun j hj=>by match j with | 0=>exact absurd rfl hj | 1 | 2 | 3 | 4 | 5 | 6=>rfl | _+7=>rfl) rfl
theorem QW {l:List Em.R}{A:Option Addr}{c:Nat}{w0:World}{Q:Exit→Act→World→Prop}(bO:mU Q) (hq:ew l A c w0 Q) (hR:Row w0 w0.heap.size 4 A l.length (aG l)) (hl:l.length≤4000000) :
  Code.wp Tryz.prog (F7 Tryz.f201 1) Q ⟨(.slice A l.length c::undef :: .slice none 0 0::undef::undef::undef::undef::undef::undef::undef::undef::undef::undef::undef::undef::undef::undef::undef::undef::undef::undef::undef::undef::undef::undef::undef::undef::undef::undef::undef::undef::undef::undef::undef::undef::undef::undef::undef::undef::undef::undef::undef::undef::undef::undef::undef::undef::undef::undef::undef::[]).toArray,[]⟩ w0:=by
 show Code.wp Tryz.prog (Code.region 1 lT true) Q _ w0;refine wp_region_held (S:=fun _=>True) (by kernel_rfl) ?_;show wpAnyH Tryz.prog .any lT Q (fun _=>True) 9 #[false,false,false,false,false,false,false,false,false] _ _;refine sG (i:=0) (o:=⟨some 6,.move (.tmp 0),_,_,_,none⟩) (.slice A l.length c) rfl rfl (by kernel_rfl) (by kernel_rfl) (by kernel_rfl) bO (fun w'=>by go_simp) ?_;refine sG (i:=2) (o:=⟨some 8,.move (.tmp 0),_,_,_,none⟩) (.slice A l.length c) rfl rfl (by kernel_rfl) (by kernel_rfl) (by kernel_rfl) bO (fun w'=>by go_simp) ?_;refine sG (i:=3) (o:=⟨some 9,.call { callee:=.builtin .len,args:=#[.tmp 8],argTypes:=#[219] },_,_,_,none⟩) (.int .i64 (l.length:Int)) rfl rfl (by kernel_rfl) (by kernel_rfl) (by kernel_rfl) bO (fun w'=>by go_simp) ?_;exact Wq bO hq hR hl (Below.refl _ _).drew (Sx _ _)
end Go.Proofs.YtddkjkockbcamaaGreatDoor
end
set_option maxHeartbeats 16000000
set_option maxRecDepth 100000
namespace Go.Proofs.YtddkjkockbcamaaGreatDoor.Il
open Go.Lib
theorem IW {t:List UInt8}(h:t≠[]):Ru.enc (Ru.aS t)≠[]:=by
 intro h0;have:=(Ru.xC).1 h0;rw [Ru.eB h] at this;cases this
end Go.Proofs.YtddkjkockbcamaaGreatDoor.Il
namespace Go.Proofs.YtddkjkockbcamaaGreatDoor.Hm
open Go.Lib
theorem uw:∀ {l:List UInt8},(∀ b∈l,b≠62)→upTo l=none
 | [],_=>rfl
 | b::l,h=>by
  unfold upTo;rw [if_neg (h b (by simp)),uw (fun c hc=>h c (by simp [hc]))];rfl
theorem V1 {l:List UInt8}{i e:Nat}(hi:i<e) (he:e<l.length) (mm:l[e]=62) (hno:∀ j (hj:j<l.length),i<j→j<e→l[j]≠62):upTo (l.drop (i+1))=some (Go.Proofs.YtddkjkockbcamaaGreatDoor.mid l (i+1) e,l.drop (e+1)):=by
 have e1:l.drop (i+1)=Go.Proofs.YtddkjkockbcamaaGreatDoor.mid l (i+1) e++62::l.drop (e+1):=by
  unfold Go.Proofs.YtddkjkockbcamaaGreatDoor.mid;have h1:=(List.take_append_drop (e-(i+1)) (l.drop (i+1))).symm;rw [List.drop_drop,show i+1+(e-(i+1))=e from by omega,List.drop_eq_getElem_cons he,mm] at h1;exact h1
 rw [e1];refine jU _ _ ?_;intro b hb;unfold Go.Proofs.YtddkjkockbcamaaGreatDoor.mid at hb;obtain ⟨j,hj,rfl⟩:=List.mem_iff_getElem.1 hb;rw [List.length_take,List.length_drop] at hj;rw [List.getElem_take,List.getElem_drop];exact hno _ (by omega) (by omega) (by omega)
theorem Ts {l:List UInt8}{i:Nat}(hno:∀ j (hj:j<l.length),i<j→l[j]≠62):upTo (l.drop (i+1))=none:=by
 refine uw fun b hb=>?_;obtain ⟨j,hj,rfl⟩:=List.mem_iff_getElem.1 hb;rw [List.length_drop] at hj;rw [List.getElem_drop];exact hno _ (by omega) (by omega)
theorem L6 {t:List UInt8}{k:Nat}(hk:k≤t.length) (hno:∀ j (hj:j<t.length),j<k→t[j]≠32) (hend:k=t.length∨∃ h:k<t.length,t[k]=32):name t=t.take k:=by
 have hall:∀ b∈t.take k,(b != 32)=true:=by
  intro b hb;obtain ⟨j,hj,rfl⟩:=List.mem_iff_getElem.1 hb;rw [List.length_take] at hj;rw [List.getElem_take];simpa using hno j (by omega) (by omega)
 unfold name;rcases hend with h | ⟨h,h32⟩
 ·rw [h,List.take_length] at hall ⊢
  have:=List.takeWhile_append_of_pos (p:=(· != 32)) (l₁:=t) (l₂:=[]) hall;simpa using this
 ·have e:t=t.take k++32::t.drop (k+1):=by rw [← h32,← List.drop_eq_getElem_cons h,List.take_append_drop]
  conv=>lhs;rw [e]
  rw [List.takeWhile_append_of_pos hall];simp
theorem X0 {l:List UInt8}{i:Nat}(h:i<l.length) (st:List (List UInt8)):(l[i]≠60→fS (l.drop i) st=fS (l.drop (i+1)) st) ∧
  (l[i]=60→(upTo (l.drop (i+1))=none→fS (l.drop i) st=false)∧∀ t r,upTo (l.drop (i+1))=some (t,r)→fS (l.drop i) st=(match turn t st with | none=>false | some st'=>fS r st')):=by
 rw [List.drop_eq_getElem_cons h];refine ⟨fun hn=>ux hn _ _,fun hy=>?_⟩;rw [hy];exact ⟨fun hu=>Lu hu st,fun t r hu=>pY hu st⟩
theorem xP {t:List UInt8}(h0:t≠[]) (h:t.getLastD 0=47) (st:List (List UInt8)):turn t st=some st:=by unfold turn;rw [if_pos ⟨h0,h⟩]
theorem zH {t:List UInt8}(h:t=[]∨(t.getLastD 0≠47∧t.getD 0 0≠47)) (st:List (List UInt8)):turn t st=some (name t::st):=by
 unfold turn;rcases h with rfl | ⟨h1,h2⟩
 ·rfl
 ·rw [if_neg (fun hc=>h1 hc.2),if_neg (fun hc=>h2 hc.1)]
theorem Bq {t:List UInt8}(h0:t≠[]) (h1:t.getLastD 0≠47) (h2:t.getD 0 0=47):turn t []=none:=by
 unfold turn;rw [if_neg (fun hc=>h1 hc.2),if_pos ⟨h2,h0⟩]
theorem E9 {t:List UInt8}(h0:t≠[]) (h1:t.getLastD 0≠47) (h2:t.getD 0 0=47) {n:List UInt8}{s:List (List UInt8)}(hn:n≠(name t).drop 1):turn t (n::s)=none:=by
 unfold turn;rw [if_neg (fun hc=>h1 hc.2),if_pos ⟨h2,h0⟩];simp only;rw [if_neg hn]
theorem LL {t:List UInt8}(h0:t≠[]) (h1:t.getLastD 0≠47) (h2:t.getD 0 0=47) {n:List UInt8}{s:List (List UInt8)}(hn:n=(name t).drop 1):turn t (n::s)=some s:=by
 unfold turn;rw [if_neg (fun hc=>h1 hc.2),if_pos ⟨h2,h0⟩];simp only;rw [if_pos hn]
theorem Iu {t:List UInt8}(h:0<t.length):t.getLastD 0=t[t.length-1]:=by
 rcases List.eq_nil_or_concat t with rfl | ⟨m,x,rfl⟩
 ·simp at h
 ·simp
end Go.Proofs.YtddkjkockbcamaaGreatDoor.Hm
namespace Go.Proofs.YtddkjkockbcamaaGreatDoor
open Go.RowKit
attribute [local go_sem] aD av aq
theorem EU:EI Tryz.prog 39 9 1 16:=EI.mk' (z:=.string .empty) Tryz.underlying39 (by kernel_rfl) rfl (by omega)
theorem Nk {w:World}{B g n c:Nat}{E:TypeId}{xs:List Value}(h:w.ownsRow B E 1 (.slice (some ⟨g,0,none⟩) n c) n xs) {k:Nat}(hk:k≤n):w.ownsRow B E 1 (.slice (some ⟨g,0,none⟩) k c) k (xs.take k):=by
 have hx:xs.length=n:=by have:=h.1;omega
 refine ⟨by rw [List.length_take];omega,?_⟩;rcases h.2 with ⟨h0,_⟩ | ⟨g',c',cur,hv,hB,hg,hc,hm,hs,ht⟩
 ·simp at h0
 ·simp only [Value.slice.injEq,Option.some.injEq,Addr.mk.injEq,and_true,true_and] at hv
  obtain ⟨rfl,rfl⟩:=hv;refine .inr ⟨g,c,cur,rfl,hB,hg,by omega,hm,hs,?_⟩;rw [← ht,List.take_take];congr 1;omega
theorem El {w:World}{B size n:Nat}{E:TypeId}{v:Value}{xs:List Value}(h:w.ownsRow B E size v n xs) (hn:0<n):∃ g c,v=.slice (some ⟨g,0,none⟩) n c∧n≤c∧B≤g∧g<w.heap.size:=by
 rcases h.2 with ⟨_,h0⟩ | ⟨g,c,cur,rfl,hB,hg,hc,_⟩
 ·omega
 ·exact ⟨g,c,rfl,hc,hB,(Array.getElem?_eq_some_iff.1 hg).1⟩
theorem DN {P:Program}{T:TypeId}(hT:P.underlying T=some (.slice (P.elem T))) (size:Nat) (hsz:∀ w,(sizeOf (P.elem T)).run P w=.ok size w) (g n c hi:Nat) {v:Int}(hv:v=(hi:Int)) (h2:hi≤c) (w:World) :
  (Instr.slice T (.slice (some ⟨g,0,none⟩) n c) none (some (.int .i64 v)) none).run P w=.ok (.slice (some ⟨g,0,none⟩) hi c) w:=by
 subst hv;rw [run_slice_h w T (some ⟨g,0,none⟩) n c hT .i64 hi (by omega) (by omega),hsz];simp [sliced,Result.andThen];intro _;unfold Addr.add
 split<;>simp_all
theorem U1 (l:List UInt8) (i:Nat) (w:World) (hi:i<l.length) (hs:l.length≤1000000000000)
  (s1 s2 s3 s4 s6 s7 s8 s9 s10 s11 s12 s13 s14 s15 s16 s17 s18 s19 s20 s21 s22 s23 s24 s25 s26 s27 s28 s29 s30 s31 s32 s33 s34 s35 s36 s37 s38 s39 s40 s41 s42 s43 s44 s45 s46 s47 s48 s49 s50 s51 s52 s53 s54 s55 s56 s57 s58 s59 s60 s61 s62 s63 s64 s65 s66 s67 s68 s69 s70 s71 s72 s73 s74 s75 s76 s77 s78 s79 s80 s81 s82 s83 s84 s85 s86 s87 s88 s89 s90 s91 s92 s93 s94 s95 s96 s97 s98:Value) (Q0:Exit→Act→World→Prop)
  (dV:∀ (e:Nat) (v19 v20 v21 v22 v23 v24 v25 v26 v27 v28 v29 v30:Value),i≤e→e≤l.length→(∀ j (hj:j<l.length),i≤j→j<e→l[j]≠62)→(e=l.length∨∃ h:e<l.length,l[e]=62)→Q0 (.exit 2) ⟨(.string (bs l)::s1::s2::s3::s4 :: .int .i64 (e:Int)::s6::s7::s8::s9::s10::s11::s12::s13::s14::s15::s16::s17::s18::v19::v20::v21::v22::v23::v24::v25::v26::v27::v28::v29::v30::s31::s32::s33::s34::s35::s36::s37::s38::s39::s40::s41::s42::s43::s44::s45::s46::s47::s48::s49::s50::s51::s52::s53::s54::s55::s56::s57::s58::s59::s60::s61::s62::s63::s64::s65::s66::s67::s68::s69::s70::s71::s72::s73::s74::s75::s76::s77::s78::s79::s80::s81::s82::s83::s84::s85::s86::s87::s88::s89::s90::s91::s92::s93::s94::s95::s96::s97::s98::[]).toArray,[]⟩ w) :
  Code.wp Tryz.prog (Code.loop (r6 Tryz.f20 1)) Q0 ⟨(.string (bs l)::s1::s2::s3::s4 :: .int .i64 (i:Int)::s6::s7::s8::s9::s10::s11::s12::s13::s14::s15::s16::s17::s18::s19::s20::s21::s22::s23::s24::s25::s26::s27::s28::s29::s30::s31::s32::s33::s34::s35::s36::s37::s38::s39::s40::s41::s42::s43::s44::s45::s46::s47::s48::s49::s50::s51::s52::s53::s54::s55::s56::s57::s58::s59::s60::s61::s62::s63::s64::s65::s66::s67::s68::s69::s70::s71::s72::s73::s74::s75::s76::s77::s78::s79::s80::s81::s82::s83::s84::s85::s86::s87::s88::s89::s90::s91::s92::s93::s94::s95::s96::s97::s98::[]).toArray,[]⟩ w:=by
 have hsz:=au l;replace dV:=Lib.hid dV
 conv=>arg 2;arg 1;whnf
 go_loopw [5] (fun u wr=>wr=w∧∃ e:Nat,i≤e∧e≤l.length∧u=.int .i64 (e:Int)∧Hid (∀ j (hj:j<l.length),i≤j→j<e→l[j]≠62)) (fun u _=>l.length-(intOf u).toNat)
 case atStart=>exact ⟨rfl,i,by omega,by omega,rfl,Lib.hid (fun j hj h1 h2=>by omega)⟩
 case round =>
  obtain ⟨rfl,e,Ya,Pf,rfl,hno⟩:=hrel
  by_cases hel:e<l.length
  ·have hx:=fun w=>bG hel w
   by_cases mm:l[e]=62
   ·have t:((l[e].toNat:Int)==62)=true:=fQ (n:=62) (by omega) mm
    have t':((l[e].toNat:Int) != 62)=false:=by simp only [bne,t];rfl
    have hq:=dV.out e;replace hq:=Lib.hid (fun v19 v20 v21 v22 v23 v24 v25 v26 v27 v28 v29 v30=>hq v19 v20 v21 v22 v23 v24 v25 v26 v27 v28 v29 v30 Ya Pf hno.out (.inr ⟨hel,mm⟩));clear dV mm;go_wp2_with fail;exact hq.out _ _ _ _ _ _ _ _ _ _ _ _
   ·have t:((l[e].toNat:Int)==62)=false:=dw (n:=62) (by omega) mm
    have t':((l[e].toNat:Int) != 62)=true:=by simp only [bne,t];rfl
    have PE:Hid (∀ j (hj:j<l.length),i≤j→j<e+1→l[j]≠62):=Lib.hid (fun j hj h1 h2=>by
     rcases Nat.lt_or_eq_of_le (Nat.lt_succ_iff.1 h2) with h | h
     ·exact hno.out j hj h1 h
     ·subst h;exact mm)
    clear dV mm;go_wp2_with fail
    go_roundw
    case rel=>exact ⟨trivial,e+1,by omega,by omega,by go_num,PE⟩
    case measure=>simp [intOf];omega
  ·have hq:=dV.out e
   replace hq:=Lib.hid (fun v19 v20 v21 v22 v23 v24 v25 v26 v27 v28 v29 v30=>hq v19 v20 v21 v22 v23 v24 v25 v26 v27 v28 v29 v30 Ya Pf hno.out (.inl (by omega)));clear dV;go_wp2_with fail;exact hq.out _ _ _ _ _ _ _ _ _ _ _ _
theorem th (t:List UInt8) (w:World) (hs:t.length≤1000000000000)
  (s0 s1 s2 s3 s4 s5 s8 s9 s10 s11 s12 s13 s14 s15 s16 s17 s18 s19 s20 s21 s22 s23 s24 s25 s26 s27 s28 s29 s30 s31 s32 s33 s34 s35 s36 s37 s38 s39 s40 s41 s42 s43 s44 s45 s46 s47 s48 s49 s50 s51 s52 s53 s54 s55 s56 s57 s58 s59 s60 s61 s62 s63 s64 s65 s66 s67 s68 s69 s70 s71 s72 s73 s74 s75 s76 s77 s78 s79 s80 s81 s82 s83 s84 s85 s86 s87 s88 s89 s90 s91 s92 s93 s94 s95 s96 s97 s98:Value) (Q0:Exit→Act→World→Prop)
  (dV:∀ (k:Nat) (v51 v52 v53 v54 v55 v56 v57 v58 v59 v60 v61 v62:Value),k≤t.length→Hm.name t=t.take k→(t.getD 0 0=47→1≤k)→Q0 (.exit 4) ⟨(s0::s1::s2::s3::s4::s5 :: .string (bs t) :: .int .i64 (k:Int)::s8::s9::s10::s11::s12::s13::s14::s15::s16::s17::s18::s19::s20::s21::s22::s23::s24::s25::s26::s27::s28::s29::s30::s31::s32::s33::s34::s35::s36::s37::s38::s39::s40::s41::s42::s43::s44::s45::s46::s47::s48::s49::s50::v51::v52::v53::v54::v55::v56::v57::v58::v59::v60::v61::v62::s63::s64::s65::s66::s67::s68::s69::s70::s71::s72::s73::s74::s75::s76::s77::s78::s79::s80::s81::s82::s83::s84::s85::s86::s87::s88::s89::s90::s91::s92::s93::s94::s95::s96::s97::s98::[]).toArray,[]⟩ w) :
  Code.wp Tryz.prog (Code.loop (r6 Tryz.f20 2)) Q0 ⟨(s0::s1::s2::s3::s4::s5 :: .string (bs t) :: .int .i64 0::s8::s9::s10::s11::s12::s13::s14::s15::s16::s17::s18::s19::s20::s21::s22::s23::s24::s25::s26::s27::s28::s29::s30::s31::s32::s33::s34::s35::s36::s37::s38::s39::s40::s41::s42::s43::s44::s45::s46::s47::s48::s49::s50::s51::s52::s53::s54::s55::s56::s57::s58::s59::s60::s61::s62::s63::s64::s65::s66::s67::s68::s69::s70::s71::s72::s73::s74::s75::s76::s77::s78::s79::s80::s81::s82::s83::s84::s85::s86::s87::s88::s89::s90::s91::s92::s93::s94::s95::s96::s97::s98::[]).toArray,[]⟩ w:=by
 have hsz:=au t;replace dV:=Lib.hid dV
 conv=>arg 2;arg 1;whnf
 go_loopw [7] (fun u wr=>wr=w∧∃ k:Nat,k≤t.length∧u=.int .i64 (k:Int)∧Hid (∀ j (hj:j<t.length),j<k→t[j]≠32)) (fun u _=>t.length-(intOf u).toNat)
 case atStart=>exact ⟨rfl,0,by omega,by go_num,Lib.hid (fun j hj h2=>by omega)⟩
 case round =>
  obtain ⟨rfl,k,hk,rfl,hno⟩:=hrel
  by_cases hel:k<t.length
  ·have hx:=fun w=>bG hel w
   by_cases h32:t[k]=32
   ·have t1:((t[k].toNat:Int)==32)=true:=fQ (n:=32) (by omega) h32
    have t1':((t[k].toNat:Int) != 32)=false:=by simp only [bne,t1];rfl
    have hnm:=Hm.L6 hk hno.out (.inr ⟨hel,h32⟩);have jq:t.getD 0 0=47→1≤k:=by
     intro h47;rcases Nat.eq_zero_or_pos k with h | h
     ·subst h
      rw [List.getD_eq_getElem?_getD,List.getElem?_eq_getElem hel] at h47;have:t[0]=47:=h47;rw [h32] at this;exact absurd this (by decide)
     ·exact h
    have hq:=dV.out k;replace hq:=Lib.hid (fun v51 v52 v53 v54 v55 v56 v57 v58 v59 v60 v61 v62=>hq v51 v52 v53 v54 v55 v56 v57 v58 v59 v60 v61 v62 hk hnm jq);clear dV h32 hnm jq;go_wp2_with fail;exact hq.out _ _ _ _ _ _ _ _ _ _ _ _
   ·have t1:((t[k].toNat:Int)==32)=false:=dw (n:=32) (by omega) h32
    have t1':((t[k].toNat:Int) != 32)=true:=by simp only [bne,t1];rfl
    have PE:Hid (∀ j (hj:j<t.length),j<k+1→t[j]≠32):=Lib.hid (fun j hj h2=>by
     rcases Nat.lt_or_eq_of_le (Nat.lt_succ_iff.1 h2) with h | h
     ·exact hno.out j hj h
     ·subst h;exact h32)
    clear dV h32;go_wp2_with fail
    go_roundw
    case rel=>exact ⟨trivial,k+1,by omega,by go_num,PE⟩
    case measure=>simp [intOf];omega
  ·have hnm:=Hm.L6 hk hno.out (.inl (by omega))
   have jq:t.getD 0 0=47→1≤k:=by
    intro h47;rcases Nat.eq_zero_or_pos k with h | h
    ·have h0:t=[]:=List.eq_nil_of_length_eq_zero (by omega)
     rw [h0] at h47;exact absurd h47 (by decide)
    ·exact h
   have hq:=dV.out k;replace hq:=Lib.hid (fun v51 v52 v53 v54 v55 v56 v57 v58 v59 v60 v61 v62=>hq v51 v52 v53 v54 v55 v56 v57 v58 v59 v60 v61 v62 hk hnm jq);clear dV hnm jq;go_wp2_with fail;exact hq.out _ _ _ _ _ _ _ _ _ _ _ _
theorem SZ (l:List UInt8) (w:World) (hs:l.length≤1000000000000) :
  Calls Tryz.prog 20 #[.string (bs l)] w fun e w'=>e=.returned (.bool (Hm.fS l []))∧Below w.heap.size w w':=by
 have hsz:=au l;obtain ⟨R,hR⟩:∃ R,R=Hm.fS l []:=⟨_,rfl⟩
 rw [← hR];replace hR:=Lib.hid hR;go_enter Tryz.func20,Tryz.ntmps20;go_wp2_with fail
 go_loopw [3,4] (fun v u wr=>∃ (i:Nat) (st:List (List UInt8)),i≤l.length∧u=.int .i64 (i:Int)∧st.length≤i∧Hid (wr.ownsRow w.heap.size 9 1 v st.length (aY st.reverse))∧Hid (R=Hm.fS (l.drop i) st)∧Hid (Below w.heap.size w wr)) (fun _ u _=>l.length-(intOf u).toNat)
 case atStart=>exact ⟨0,[],by omega,by go_num,by simp,Lib.hid (World.ownsRow_nil _ _ _ _),hR,Lib.hid (Below.refl _ _)⟩
 case round =>
  obtain ⟨i,st,hi,rfl,adk,hown,Av,hb⟩:=hrel;clear hR;obtain ⟨Ao,co,rfl,Y9⟩:=ak hown.out
  by_cases hil:i<l.length
  ·have hx:=fun w=>bG hil w
   obtain ⟨hb1,hb2⟩:=Hm.X0 hil st;rw [← Av.out] at hb1 hb2
   by_cases fR:l[i]=60
   ·obtain ⟨TZ,hby⟩:=hb2 fR
    have t:((l[i].toNat:Int)==60)=true:=fQ (n:=60) (by omega) fR;have t':((l[i].toNat:Int) != 60)=false:=by simp only [bne,t];rfl
    replace TZ:=Lib.hid TZ;replace hby:=Lib.hid hby;replace fR:=Lib.hid fR;clear hb1 hb2 Av;go_wp2_with fail;refine U1 l i wr hil hs _ _ _ _ _ _ _ _ _ _ _ _ _ _ _ _ _ _ _ _ _ _ _ _ _ _ _ _ _ _ _ _ _ _ _ _ _ _ _ _ _ _ _ _ _ _ _ _ _ _ _ _ _ _ _ _ _ _ _ _ _ _ _ _ _ _ _ _ _ _ _ _ _ _ _ _ _ _ _ _ _ _ _ _ _ _ _ _ _ _ _ _ _ _ _ _ _ _ ?_;intro e v19 v20 v21 v22 v23 v24 v25 v26 v27 v28 v29 v30 Ya Pf hno hend;have Uw:Hid (∀ j (hj:j<l.length),i<j→j<e→l[j]≠62):=Lib.hid (fun j hj h1 h2=>hno j hj (by omega) h2);clear hno hx;rcases hend with hend | ⟨hel,mm⟩
    ·have pU:R=false:=TZ.out (Hm.Ts (fun j hj h1=>Uw.out j hj h1 (by omega)))
     have hee:((e:Int)==(l.length:Int))=true:=by rw [beq_iff_eq];omega
     subst pU;clear TZ hby Uw fR;go_wp2_with fail;go_ret;exact ⟨rfl,hb.out⟩
    ·have hie:i<e:=by
      rcases Nat.lt_or_eq_of_le Ya with h | h
      ·exact h
      ·subst h;rw [fR.out] at mm;exact absurd mm (by decide)
     have hup:=Hm.V1 hie hel mm Uw.out;have hst:=hby.out _ _ hup;have hee:((e:Int)==(l.length:Int))=false:=by rw [beq_eq_false_iff_ne];omega
     have hcut:=fun w=>iG (S:=l) (i:=i+1) (j:=e) (v:=(i:Int)+1) (u:=(e:Int)) (by omega) (by omega) (by omega) rfl w;have hTl:(mid l (i+1) e).length=e-(i+1):=ep (by omega);obtain ⟨T,hT⟩:∃ T,T=mid l (i+1) e:=⟨_,rfl⟩
     rw [← hT] at hcut hTl hst;have hTs:=au T;have ahk:T.length≤1000000000000:=by omega
     clear hTl;replace hst:=Lib.hid hst;clear TZ hby Uw fR hup hT mm
     by_cases h0:T=[]
     ·have e0:((bs T).toList==[])=true:=by rw [bH,h0];rfl
      have e0':((bs T).toList != [])=false:=by simp only [bne,e0];rfl
      have oA:Hid (R=Hm.fS (l.drop (e+1)) (Hm.name T::st)):=Lib.hid (by rw [hst.out,Hm.zH (.inl h0)]);replace h0:=Lib.hid h0;clear hst;go_wp2_with fail;refine th T wr (by omega) _ _ _ _ _ _ _ _ _ _ _ _ _ _ _ _ _ _ _ _ _ _ _ _ _ _ _ _ _ _ _ _ _ _ _ _ _ _ _ _ _ _ _ _ _ _ _ _ _ _ _ _ _ _ _ _ _ _ _ _ _ _ _ _ _ _ _ _ _ _ _ _ _ _ _ _ _ _ _ _ _ _ _ _ _ _ _ _ _ _ _ _ _ _ _ _ _ _ ?_;intro k v51 v52 v53 v54 v55 v56 v57 v58 v59 v60 v61 v62 jq hk2 hk3;have abW:=fun w=>oS (S:=T) (i:=k) jq w;have zg:Hid (R=Hm.fS (l.drop (e+1)) (T.take k::st)):=Lib.hid (by rw [oA.out,hk2]);have hbz:=hb.out.size;have hon:=hown.out;clear oA hk2 hk3;go_wp2_with (at_builtin;refine gT rfl (.tmp 90) (.tmp 94) rfl EU rfl hon rfl rfl rfl (by intro u hu;simp at hu;subst hu;rfl) (by omega) (by omega) hbz ?_;intro v2 w2 hown2 hg2 hb3)
      go_roundw
      case rel=>exact ⟨e+1,T.take k::st,by omega,by go_num,by simp;omega,Lib.hid (by
       unfold aY at hown2 ⊢;rw [List.reverse_cons,List.map_append,List.length_cons];exact hown2),zg,Lib.hid (hb.out.trans hb3)⟩
      case measure=>simp [intOf];omega
     ·have e0:((bs T).toList==[])=false:=by rw [bH];simpa using h0
      have e0':((bs T).toList != [])=true:=by simp only [bne,e0];rfl
      have TT:0<T.length:=List.length_pos_iff.2 h0;have hla:=Hm.Iu TT;have hxl:=fun w=>ec (S:=T) (i:=T.length-1) (v:=(T.length:Int)-1) (by omega) (by omega) w;have hxf:=fun w=>ec (S:=T) (i:=0) (v:=0) TT rfl w;have zU:T.getD 0 0=T[0]:=by rw [List.getD_eq_getElem?_getD,List.getElem?_eq_getElem TT];rfl
      by_cases lG:T[T.length-1]=47
      ·have t1:((T[T.length-1].toNat:Int)==47)=true:=fQ (n:=47) (by omega) lG
       have oA:Hid (R=Hm.fS (l.drop (e+1)) st):=Lib.hid (by rw [hst.out,Hm.xP h0 (hla.trans lG)]);replace h0:=Lib.hid h0;replace lG:=Lib.hid lG;clear hst hla zU;go_wp2_with fail
       go_roundw
       case rel=>exact ⟨e+1,st,by omega,by go_num,by omega,hown,oA,hb⟩
       case measure=>simp [intOf];omega
      ·have t1:((T[T.length-1].toNat:Int)==47)=false:=dw (n:=47) (by omega) lG
       have nT:T.getLastD 0≠47:=by rw [hla];exact lG
       by_cases AE:T[0]=47
       ·have t2:((T[0].toNat:Int)==47)=true:=fQ (n:=47) (by omega) AE
        have CU:T.getD 0 0=47:=zU.trans AE;cases st with
        | nil =>
         have pU:R=false:=by rw [hst.out,Hm.Bq h0 nT CU]
         subst pU;replace h0:=Lib.hid h0;replace lG:=Lib.hid lG;replace nT:=Lib.hid nT;replace AE:=Lib.hid AE;replace CU:=Lib.hid CU;clear hst hla zU;go_wp2_with fail;refine th T wr (by omega) _ _ _ _ _ _ _ _ _ _ _ _ _ _ _ _ _ _ _ _ _ _ _ _ _ _ _ _ _ _ _ _ _ _ _ _ _ _ _ _ _ _ _ _ _ _ _ _ _ _ _ _ _ _ _ _ _ _ _ _ _ _ _ _ _ _ _ _ _ _ _ _ _ _ _ _ _ _ _ _ _ _ _ _ _ _ _ _ _ _ _ _ _ _ _ _ _ _ ?_;intro k v51 v52 v53 v54 v55 v56 v57 v58 v59 v60 v61 v62 jq hk2 hk3;go_wp2_with fail;go_quiet (fail);go_wp2_with fail;go_ret;exact ⟨rfl,below_drewN hb.out _⟩
        | cons n st =>
         have zX:aY (n::st).reverse=aY st.reverse++[.string (bs n)]:=by unfold aY;rw [List.reverse_cons,List.map_append];rfl
         have hlen:(aY st.reverse).length=st.length:=by simp [aY]
         obtain ⟨g,cg,hAe,hcg,hg1,hg2⟩:=El hown.out (by simp);injection hAe with oc AA dh;subst oc dh;have hcell:wr.cell? ⟨g,st.length,none⟩=some (.string (bs n)):=by
          have h3:=hown.out.cells (g:=g) rfl st.length (.string (bs n)) (by rw [zX,List.getElem?_append_right (by omega),hlen,Nat.sub_self];rfl);rwa [show (⟨g,0,none⟩:Addr).add st.length=⟨g,st.length,none⟩ from by unfold Addr.add;split<;>simp_all] at h3
         have r9:=Lib.hid (Nk hown.out (k:=st.length) (by simp));have Ym:Hid ((aY (n::st).reverse).take st.length=aY st.reverse):=Lib.hid (by rw [zX,List.take_left' hlen]);have hsh:=fun w=>DN (P:=Tryz.prog) (T:=39) (by kernel_rfl) 1 (fun w=>by kernel_rfl) g (st.length+1) co st.length (v:=(st.length:Int)) rfl (by rw [List.length_cons] at hcg;omega) w;rw [List.length_cons] at adk Y9;replace h0:=Lib.hid h0;replace lG:=Lib.hid lG;replace AE:=Lib.hid AE;clear hla zU zX hlen hown;go_wp2_with fail;refine th T wr (by omega) _ _ _ _ _ _ _ _ _ _ _ _ _ _ _ _ _ _ _ _ _ _ _ _ _ _ _ _ _ _ _ _ _ _ _ _ _ _ _ _ _ _ _ _ _ _ _ _ _ _ _ _ _ _ _ _ _ _ _ _ _ _ _ _ _ _ _ _ _ _ _ _ _ _ _ _ _ _ _ _ _ _ _ _ _ _ _ _ _ _ _ _ _ _ _ _ _ _ ?_;intro k v51 v52 v53 v54 v55 v56 v57 v58 v59 v60 v61 v62 jq hk2 hk3;have hk4:=hk3 CU;have hm1:=fun w=>iG (S:=T) (i:=1) (j:=k) (v:=1) (u:=(k:Int)) hk4 jq rfl rfl w;have hmn:mid T 1 k=(Hm.name T).drop 1:=by rw [hk2];unfold mid;rw [List.drop_take]
         obtain ⟨X,hX⟩:∃ X,X=mid T 1 k:=⟨_,rfl⟩
         rw [← hX] at hm1 hmn;clear hX hk3 hk2;have g0:((st.length:Int)+1-1)=(st.length:Int):=by omega
         have g1:decide ((st.length:Int)<0)=false:=decide_eq_false (by omega);have g2:decide ((st.length:Int)+1≤(st.length:Int))=false:=decide_eq_false (by omega);have g3:(0:Int)≤(st.length:Int):=by omega
         have g4:(st.length:Int)<(st.length:Int)+1:=by omega
         have g5:((st.length:Int)+1==0)=false:=by rw [beq_eq_false_iff_ne];omega
         by_cases hne:n=X
         ·have hb1:=XF (a:=n) (b:=X) hne
          have oA:Hid (R=Hm.fS (l.drop (e+1)) st):=Lib.hid (by rw [hst.out,Hm.LL h0.out nT CU (hne.trans hmn)]);replace hne:=Lib.hid hne;replace hmn:=Lib.hid hmn;replace nT:=Lib.hid nT;replace CU:=Lib.hid CU;clear hst;go_wp2_with fail;go_quiet (fail);go_wp2_with fail
          go_roundw
          case rel=>exact ⟨e+1,st,by omega,by go_num,by omega,Lib.hid (by rw [← Ym.out];exact r9.out),oA,Lib.hid (below_drewN hb.out _)⟩
          case measure=>simp [intOf];omega
         ·have hb1:=W8 (a:=n) (b:=X) hne
          have pU:R=false:=by rw [hst.out,Hm.E9 h0.out nT CU (fun h=>hne (h.trans hmn.symm))]
          subst pU;replace hne:=Lib.hid hne;replace hmn:=Lib.hid hmn;replace nT:=Lib.hid nT;replace CU:=Lib.hid CU;clear hst;go_wp2_with fail;go_quiet (fail);go_wp2_with fail;go_ret;exact ⟨rfl,below_drewN hb.out _⟩
       ·have t2:((T[0].toNat:Int)==47)=false:=dw (n:=47) (by omega) AE
        have oA:Hid (R=Hm.fS (l.drop (e+1)) (Hm.name T::st)):=Lib.hid (by rw [hst.out,Hm.zH (.inr ⟨nT,by rw [zU];exact AE⟩)]);replace h0:=Lib.hid h0;replace lG:=Lib.hid lG;replace AE:=Lib.hid AE;replace nT:=Lib.hid nT;clear hst hla zU;go_wp2_with fail;refine th T wr (by omega) _ _ _ _ _ _ _ _ _ _ _ _ _ _ _ _ _ _ _ _ _ _ _ _ _ _ _ _ _ _ _ _ _ _ _ _ _ _ _ _ _ _ _ _ _ _ _ _ _ _ _ _ _ _ _ _ _ _ _ _ _ _ _ _ _ _ _ _ _ _ _ _ _ _ _ _ _ _ _ _ _ _ _ _ _ _ _ _ _ _ _ _ _ _ _ _ _ _ ?_;intro k v51 v52 v53 v54 v55 v56 v57 v58 v59 v60 v61 v62 jq hk2 hk3;have abW:=fun w=>oS (S:=T) (i:=k) jq w;have zg:Hid (R=Hm.fS (l.drop (e+1)) (T.take k::st)):=Lib.hid (by rw [oA.out,hk2]);have hbz:=hb.out.size;have hon:=hown.out;clear oA hk2 hk3;go_wp2_with (at_builtin;refine gT rfl (.tmp 90) (.tmp 94) rfl EU rfl hon rfl rfl rfl (by intro u hu;simp at hu;subst hu;rfl) (by omega) (by omega) hbz ?_;intro v2 w2 hown2 hg2 hb3)
        go_roundw
        case rel=>exact ⟨e+1,T.take k::st,by omega,by go_num,by simp;omega,Lib.hid (by
         unfold aY at hown2 ⊢;rw [List.reverse_cons,List.map_append,List.length_cons];exact hown2),zg,Lib.hid (hb.out.trans hb3)⟩
        case measure=>simp [intOf];omega
   ·have t:((l[i].toNat:Int)==60)=false:=dw (n:=60) (by omega) fR
    have t':((l[i].toNat:Int) != 60)=true:=by simp only [bne,t];rfl
    have Cj:Hid (R=Hm.fS (l.drop (i+1)) st):=Lib.hid (hb1 fR);clear hb1 hb2 Av fR;go_wp2_with fail
    go_roundw
    case rel=>exact ⟨i+1,st,by omega,by go_num,by omega,hown,Cj,hb⟩
    case measure=>simp [intOf];omega
  ·have hRe:R=st.isEmpty:=by rw [Av.out,List.drop_eq_nil_of_le (by omega),Hm.VZ]
   have hle:((st.length:Int)==0)=st.isEmpty:=by
    rw [Bool.eq_iff_iff,beq_iff_eq,List.isEmpty_iff,← List.length_eq_zero_iff];omega
   obtain ⟨E,hE⟩:∃ E,E=st.isEmpty:=⟨_,rfl⟩
   rw [← hE] at hle hRe;subst hRe;clear Av hE;go_wp2_with fail;go_ret;exact ⟨rfl,hb.out⟩
end Go.Proofs.YtddkjkockbcamaaGreatDoor
