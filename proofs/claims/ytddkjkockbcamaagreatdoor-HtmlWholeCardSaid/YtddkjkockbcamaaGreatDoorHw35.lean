/- IlPRd3 IlPRd4 IlPRd6 IlPRd7 IlPRd9 IlPRdA IlSkM IlSk IlPSk IlPEnd IlPRd5 IlPRd8 IlPRdB IlPRdC IlPRdE IlPRdF IlPRdG IlPRdH IlPParse -/
import Derived.Test.YtddkjkockbcamaaGreatDoorHw33
import Derived.Test.YtddkjkockbcamaaGreatDoorHw05
import Derived.Test.YtddkjkockbcamaaGreatDoorHw30
import Derived.Test.YtddkjkockbcamaaGreatDoorHw21
import Derived.Test.YtddkjkockbcamaaGreatDoorHw31
import Derived.Test.YtddkjkockbcamaaGreatDoorHw20
import Derived.Test.YtddkjkockbcamaaGreatDoorHw19
set_option maxHeartbeats 16000000
set_option maxRecDepth 100000
namespace Go.Proofs.YtddkjkockbcamaaGreatDoor
open Go.RowKit Go.Maps
attribute [local go_sem] aD av aq
section
variable {w w':World}{B bR:Nat}{s:List UInt8}{link:Bool}{st:Il.Sc}{gm nm:Nat}{D:DataW Unit}{vr vF:Value}{rs:List Il.Rw}{V:List V3}{i mk:Nat}
theorem RD.drew (h:RD w B bR s link st gm nm D vr vF rs V):RD w.drew B bR s link st gm nm D vr vF rs V:=⟨h.rw.along h.rw.hp.oD,h.rel,h.ends⟩
theorem Zr (h:RD w B bR s link st gm nm D vr vF rs V) (hB:B≤w.heap.size) (l:List UInt8) (hv:Il.V8 l) (hl:l.length≤1000000000) (hw:Il.ij rs≤64000000) {g c:Nat}(UT:vF=.slice (some ⟨g,0,none⟩) rs.length c) :
  Calls Tryz.prog 220 #[.pointer (some ⟨g,(rs.length-1)*2,none⟩),.string (bs l)] w fun e w'=>e=.returned (.tuple #[])∧∃ V',RD w' B bR s link ⟨Il.fL st.l l,st.runs⟩ gm nm D vr vF (Il.bg (fun R=>R.say l) rs) V'∧Below B w w':=by
 have hp:=List.length_pos_iff.2 h.ne;obtain ⟨R,hR1,hR2⟩:=lz h.ne;have Ii:=Il.mC (List.mem_of_getElem? hR1);obtain ⟨x1,y1,z1,e1,q1,i1⟩:=h.rw.look ⟨by decide,by decide,by decide⟩ hR1;have hc1:=h.rw.cn (i:=rs.length-1) UT (by omega);have aH:=zu (fh ⟨by decide,by decide,by decide⟩ (rs.length-1)) hc1 q1 hB l (by unfold Il.Rw.wt at Ii;omega);rw [Il.EA hv] at aH;refine aH.mono ?_;rintro e w' ⟨rfl,vp',t⟩;exact ⟨rfl,_,(h.last hR1 (fun R=>R.say l) (Il.KK h.rel hv) rfl (hR2 _) e1 t (t.kids i1))⟩
theorem Cs (h:RD w B bR s link st gm nm D vr vF rs V) (hB:B≤w.heap.size) (kd:Nat) (hk:kd≠0) (t d:List UInt8) (ks:List Il.In) (AK:Option Addr) (cK:Nat) (hw:Il.ij rs≤64000000) {g c:Nat}(UT:vF=.slice (some ⟨g,0,none⟩) rs.length c)
  (hx:IC w (Fr w B (aA (rR bR gm nm s link D vr vF st.runs) 3 4 5 vF rs V)) (.mk kd t d ks) [.int .i64 (kd:Int),.string (bs t),.string (bs d),.slice AK ks.length cK]) :
  Calls Tryz.prog 198 #[.pointer (some ⟨g,(rs.length-1)*2,none⟩),.agg #[.int .i64 (kd:Int),.string (bs t),.string (bs d),.slice AK ks.length cK]] w fun e w'=>e=.returned (.tuple #[])∧∃ V',RD w' B bR s link ⟨st.l++[⟨.mk kd t d ks,none,0,0⟩],st.runs⟩ gm nm D vr vF (Il.bg (fun R=>R.put (.mk kd t d ks)) rs) V'∧Below B w w':=by
 have hp:=List.length_pos_iff.2 h.ne;obtain ⟨R,hR1,hR2⟩:=lz h.ne;have Ii:=Il.mC (List.mem_of_getElem? hR1);obtain ⟨x1,y1,z1,e1,q1,i1⟩:=h.rw.look ⟨by decide,by decide,by decide⟩ hR1;have hc1:=h.rw.cn (i:=rs.length-1) UT (by omega);refine (yT (fh ⟨by decide,by decide,by decide⟩ (rs.length-1)) hc1 q1 i1 hB (by unfold Il.Rw.wt at Ii;omega) (by unfold Il.Rw.wt at Ii;omega) kd t d ks AK cK (by rw [e1];exact hx)).mono ?_;rintro e w' ⟨rfl,vi',vp',css',t,hI⟩;exact ⟨rfl,_,(h.last hR1 (fun R=>R.put (.mk kd _ _ ks)) (Il.Vo h.rel hk _ _ ks) rfl (hR2 _) e1 t hI)⟩
theorem KP (w:World) (Q:Nat→Prop) (kd:Nat) (t d:List UInt8):IC w Q (.mk kd t d []) [.int .i64 (kd:Int),.string (bs t),.string (bs d),.slice none ([]:List Il.In).length 0]:=by
 unfold IC;exact ⟨none,0,[],rfl,Nat.le_refl _,⟨rfl,fun h=>absurd h (by simp)⟩,rfl⟩
theorem RD.GV (h:RD w B bR s link st gm nm D vr vF rs V) (hl:rs.length≤1000000000):∃ g c,vF=.slice (some ⟨g,0,none⟩) rs.length c∧∀ u:World,Calls Tryz.prog 197 #[vF] u fun e u'=>e=.returned (.pointer (some ⟨g,(rs.length-1)*2,none⟩))∧u'=u:=by
 have hp:=List.length_pos_iff.2 h.ne;obtain ⟨g,c,hv,_,_,_⟩:=h.rw.slice hp;exact ⟨g,c,hv,fun u=>by rw [hv];exact iz g rs.length c hp (by omega) u⟩
theorem wR (rs:List Il.Rw) (x:Il.In):Il.ij (Il.bg (fun R=>R.put x) rs)≤Il.ij rs+(2+Il.fK x):=Il.jG (f:=fun R=>R.put x) (fun R=>by have:=R.Kc x;omega) rs
theorem VL (rs:List Il.Rw) (l:List UInt8):Il.ij (Il.bg (fun R=>R.say l) rs)≤Il.ij rs+l.length:=Il.jG (f:=fun R=>R.say l) (fun R=>by rw [Il.Rw.uu];exact Nat.le_refl _) rs
theorem P9 (h:bP w B bR s link st i mk) (ok:Il.fF st i) (hi:i<s.length) (hs:s.length≤4000000) {t:List UInt8}{n:Nat}(hc:Cd.span s (i:Int)=some (t,n)) (hn:i<n) (ht:t.length≤n-i) :
  Calls Tryz.prog 193 #[.pointer (some ⟨bR,0,none⟩),.int .i64 (i:Int)] w fun e w'=>e=.returned (.int .i64 (n:Int)) ∧
   bP w' B bR s link ⟨st.l++[⟨.mk 1 t [] [],none,0,0⟩],st.runs⟩ n mk∧Below B w w':=by
 obtain ⟨hB,gm,nm,D,vr,vF,rs,V,hR,hw,hnm⟩:=h;have hl1:=bP.mw ok (by omega) hs hR;have su:=Lib.hid (uI s (i:Int) (by omega) w);rw [hc] at su;unfold gq at su;obtain ⟨f0,f1,f2,f3,f4,f5,f6⟩:=hR.cells;obtain ⟨g,c,hv,cz⟩:=hR.GV (by omega);replace cz:=Lib.hid cz;have hput:=Lib.hid (fun (w1:World) (hb:Below w.heap.size w w1)=>Cs (hR.ext hB hb) (Nat.le_trans hB hb.size) 1 (by decide) t [] [] none 0 (by omega) hv (KP _ _ _ _ _));have hcl:=Lib.hid (fun (w1:World) (hb:Below w.heap.size w w1)=>(hR.ext hB hb).cells);have hwl:=Lib.hid (wR rs (.mk 1 t [] []));have VY:bs []=⟨#[]⟩:=rfl;replace hv:=Lib.hid hv;clear hR;go_enter Tryz.func193,Tryz.ntmps193;go_wp2_with fail;refine su.out.mono ?_;rintro e w1 ⟨rfl,hb1⟩;have FD:=Lib.hid hb1;obtain ⟨c0,c1,c2,c3,c4,c5,c6⟩:=hcl.out w1 hb1;have aby:=Lib.hid (hput.out w1 hb1);clear f0 f1 f2 f3 f4 f5 f6 hput hcl su hb1;go_wp2_with fail;refine (cz.out _).mono ?_;rintro e w2 ⟨rfl,rfl⟩;go_wp2_with fail;refine aby.out.mono ?_;rintro e w3 ⟨rfl,V',pZ,hb3⟩;have hb:=Lib.hid ((FD.out.mono hB).trans hb3);replace pZ:=Lib.hid pZ;clear c0 c1 c2 c3 c4 c5 c6 hb3;go_wp2;go_ret;exact ⟨rfl,⟨Nat.le_trans hB hb.out.size,gm,nm,D,vr,_,_,V',pZ.out,by have:=hwl.out;simp only [Il.fK] at this;omega,by omega⟩,hb.out⟩
end
theorem Hf (c:UInt8):∀ l:List UInt8,l.take (Fn.run c l)=List.replicate (Fn.run c l) c
 | []=>rfl
 | b::r=>by
  by_cases h:b=c
  ·rw [Fn.DE r h,List.take_succ_cons,Hf c r,h];rfl
  ·rw [Fn.sO r h];rfl
theorem UI (c:UInt8) (s:List UInt8) (i:Nat):mid s i (i+Fn.run c (s.drop i))=List.replicate (Fn.run c (s.drop i)) c:=by
 unfold mid;rw [Nat.add_sub_cancel_left];exact Hf c _
section
variable {w w':World}{B bR:Nat}{s:List UInt8}{link:Bool}{st:Il.Sc}{gm nm:Nat}{D:DataW Unit}{vr vF:Value}{rs:List Il.Rw}{V:List V3}{i mk:Nat}
theorem Sf (h:bP w B bR s link st i mk) (ok:Il.fF st i) (hi:i<s.length) (hs:s.length≤4000000) (hc:Cd.span s (i:Int)=none) (kV:s[i]=96) :
  Calls Tryz.prog 193 #[.pointer (some ⟨bR,0,none⟩),.int .i64 (i:Int)] w fun e w'=>e=.returned (.int .i64 ((i+Fn.run 96 (s.drop i):Nat):Int)) ∧
   bP w' B bR s link ⟨Il.fL st.l (mid s i (i+Fn.run 96 (s.drop i))),st.runs⟩ (i+Fn.run 96 (s.drop i)) mk∧Below B w w':=by
 obtain ⟨hB,gm,nm,D,vr,vF,rs,V,hR,hw,hnm⟩:=h;have hl1:=bP.mw ok (by omega) hs hR;have su:=Lib.hid (uI s (i:Int) (by omega) w);rw [hc] at su;unfold gq at su;have hpos:1≤Fn.run 96 (s.drop i):=by rw [Fn.jS hi kV];omega
 have hle:i+Fn.run 96 (s.drop i)≤s.length:=by have:=Fn.gE 96 (s.drop i);rw [List.length_drop] at this;omega
 have hmr:=UI 96 s i;have q2:=Lib.hid (fun w=>sK s (i:Int) 96 w (by omega));rw [kL] at q2;obtain ⟨n,hn⟩:∃ n,n=Fn.run 96 (s.drop i):=⟨_,rfl⟩
 rw [← hn] at q2 hpos hle hmr ⊢;clear hn;have hadd:((i:Int)+(n:Int))=((i+n:Nat):Int):=by omega
 have hmid:∀ w:World,(Instr.slice 9 (.string (bs s)) (some (.int .i64 (i:Int))) (some (.int .i64 ((i:Int)+(n:Int)))) none).run Tryz.prog w=.ok (.string (bs (mid s i (i+n)))) w:=by
  intro w;rw [hadd];exact wT (S:=s) (i:=i) (j:=i+n) (by omega) (by omega) w
 replace hadd:=Lib.hid hadd;obtain ⟨T,hT⟩:∃ T,T=mid s i (i+n):=⟨_,rfl⟩
 rw [← hT] at hmr hmid ⊢;have hTl:T.length=n:=by rw [hmr];simp
 have hTv:Il.V8 T:=by rw [hmr];exact Il.QD (by decide) n
 clear hT hmr;obtain ⟨f0,f1,f2,f3,f4,f5,f6⟩:=hR.cells;obtain ⟨g,c,hv,cz⟩:=hR.GV (by omega);replace cz:=Lib.hid cz;have q9:=Lib.hid (fun (w1:World) (hb:Below w.heap.size w w1)=>(hR.ext hB hb).blk.1);have Eh:=Lib.hid (fun (w1:World) (hb:Below w.heap.size w w1)=>Zr (hR.ext hB hb).drew (Nat.le_trans hB hb.size) T hTv (by omega) (by omega) hv);have hcl:=Lib.hid (fun (w1:World) (hb:Below w.heap.size w w1)=>(hR.ext hB hb).cells);have hwl:=Lib.hid (VL rs T);replace hv:=Lib.hid hv;replace hTv:=Lib.hid hTv;clear hR;go_enter Tryz.func193,Tryz.ntmps193;go_wp2_with fail;refine su.out.mono ?_;rintro e w1 ⟨rfl,hb1⟩;have FD:=Lib.hid hb1;obtain ⟨c0,c1,c2,c3,c4,c5,c6⟩:=hcl.out w1 hb1;have GJ:=Lib.hid (Eh.out w1 hb1);have hS:(fun u:World=>u.heap[bR]? = some (.cells (D3 s link gm vr vF) 221 (0,0))) w1.drew:=q9.out w1 hb1;clear f0 f1 f2 f3 f4 f5 f6 Eh hcl su hb1 q9;go_upto_region 6 with (go_at_call 219;refine (q2.out _).mono ?_;rintro e1 w2 ⟨rfl,rfl⟩)
 refine aF (.rd 0 (.rd 1 (.rd 2 (.rd 3 (.rd 5 (.rd 6 (.rd 7 (.rd 8 (.rd 9 (.rd 10 (.rd 11 (.mk 4 (.mk 12 .fin))))))))))))) (fun u:World=>u.heap[bR]? = some (.cells (D3 s link gm vr vF) 221 (0,0))) hS (by kernel_rfl) (by kernel_rfl) (by kernel_rfl) (fun _ _ d _ _ h=>by cases d<;>exact h) ?_
 iterate 3 (first | refine an rfl ?_ | (refine az rfl ?_;intro K hK;go_simp;refine hK _ _ _ ?_;clear hK K))
 refine aJ vF rfl rfl hS (fun u hu=>by
  have h1:u.cell? ⟨bR,5,none⟩=some vF:=ah (j:=5) hu;go_simp) ?_
 iterate 3 (first | refine an rfl ?_ | (refine az rfl ?_;intro K hK;go_simp;refine hK _ _ _ ?_;clear hK K))
 refine aJ (.string (bs s)) rfl rfl hS (fun u hu=>by
  have h1:u.cell? ⟨bR,0,none⟩=some (.string (bs s)):=ah (j:=0) hu;go_simp) ?_
 iterate 3 (first | refine an rfl ?_ | (refine az rfl ?_;intro K hK;go_simp;refine hK _ _ _ ?_;clear hK K))
 refine aE rfl ?_;intro K hK;go_simp;refine (cz.out _).mono ?_;rintro e w2 ⟨rfl,rfl⟩;refine ⟨_,hS,fun _ h=>h,hK _ _ _ ?_⟩;clear hK K;refine aE rfl ?_;intro K hK;go_simp;refine GJ.out.mono ?_;rintro e w3 ⟨rfl,V',pZ,hb3⟩;have fG:(fun u:World=>u.heap[bR]? = some (.cells (D3 s link gm vr vF) 221 (0,0))) w3:=pZ.blk.1;refine ⟨_,fG,fun _ h=>h,hK _ _ _ ?_⟩;have hdr:Below B w1 w1.drew:=⟨rfl,rfl,rfl,Nat.le_refl _,fun _ _=>rfl⟩
 have hb:=Lib.hid (((FD.out.mono hB).trans hdr).trans hb3);clear hdr;replace pZ:=Lib.hid pZ;clear hK K fG hS hb3 c0 c1 c2 c3 c4 c5 c6;refine aQ ?_;go_wp2;go_ret;exact ⟨by rw [hadd.out];rfl,⟨Nat.le_trans hB hb.out.size,gm,nm,D,vr,_,_,V',pZ.out,by have:=hwl.out;omega,by omega⟩,hb.out⟩
end
section
variable {w w':World}{B bR:Nat}{s:List UInt8}{link:Bool}{st:Il.Sc}{gm nm:Nat}{D:DataW Unit}{vr vF:Value}{rs:List Il.Rw}{V:List V3}{i mk:Nat}
theorem bP.ext (h:bP w B bR s link st i mk) (hb:Below w.heap.size w w'):bP w' B bR s link st i mk:=by
 obtain ⟨hB,gm,nm,D,vr,vF,rs,V,hR,hw,hnm⟩:=h;exact ⟨Nat.le_trans hB hb.size,gm,nm,D,vr,vF,rs,V,hR.ext hB hb,hw,hnm⟩
theorem bP.size (h:bP w B bR s link st i mk):B≤w.heap.size:=h.1
theorem bP.cells (h:bP w B bR s link st i mk):w.cell? ⟨bR,0,none⟩=some (.string (bs s))∧w.cell? ⟨bR,1,none⟩=some (.bool link)∧w.cell? ⟨bR,2,none⟩=some (.string (bs s)):=by
 obtain ⟨hB,gm,nm,D,vr,vF,rs,V,hR,hw,hnm⟩:=h;obtain ⟨f0,f1,f2,_⟩:=hR.cells;exact ⟨f0,f1,f2⟩
def fO (w:World) (B bR:Nat) (s:List UInt8) (link:Bool) (st:Il.Sc) (i mk:Nat) (e:Ending) (w':World):Prop :=
 e=.returned (.int .i64 ((Es.next s i).2.1:Int))∧bP w' B bR s link ⟨Il.fL st.l (Lib.encodeRune ((Es.next s i).1:Int)),st.runs⟩ (Es.next s i).2.1 mk∧Below B w w'
theorem R7 (h:bP w B bR s true st i mk) (ok:Il.fF st i) (hi:i<s.length) (hs:s.length≤4000000) :
  Calls Tryz.prog 195 #[.pointer (some ⟨bR,0,none⟩),.int .i64 (i:Int)] w fun e w'=>fO w B bR s true st i mk e w':=by
 have hpl:=Lib.hid (fun (w1:World) (hr:bP w1 B bR s true st i mk)=>(show Calls _ _ _ _ (fun e w'=>fO w1 B bR s true st i mk e w') from ld hr ok hi hs));unfold fO at hpl ⊢;obtain ⟨f0,f1,f2⟩:=h.cells;replace h:=Lib.hid h;obtain ⟨en,hen⟩:∃ en,en=Es.next s i:=⟨_,rfl⟩
 rw [← hen] at hpl ⊢;clear hen;go_enter Tryz.func195,Tryz.ntmps195;go_wp2_with fail;refine (hpl.out _ h.out).mono ?_;rintro e w2 ⟨rfl,hr2,hb2⟩;replace hr2:=Lib.hid hr2;replace hb2:=Lib.hid hb2;clear hpl;go_wp2;go_ret;exact ⟨rfl,hr2.out,hb2.out⟩
theorem FH (h:bP w B bR s link st i mk) (ok:Il.fF st i) (hi:i<s.length) (hs:s.length≤4000000) (hc:link=true∨Lk.auto s (i:Int)=none) :
  Calls Tryz.prog 194 #[.pointer (some ⟨bR,0,none⟩),.int .i64 (i:Int)] w fun e w'=>fO w B bR s link st i mk e w':=by
 have hpl:=Lib.hid (fun (w1:World) (hr:bP w1 B bR s link st i mk)=>(show Calls _ _ _ _ (fun e w'=>fO w1 B bR s link st i mk e w') from ld hr ok hi hs));unfold fO at hpl ⊢;obtain ⟨f0,f1,f2⟩:=h.cells;have hB:=h.size;have zT:=Lib.hid (ug s (i:Int) (by omega) w);have hcl:=Lib.hid (fun (w1:World) (hb:Below w.heap.size w w1)=>(h.ext hb).cells);have wo:=Lib.hid (fun (w1:World) (hb:Below w.heap.size w w1)=>h.ext hb);clear h;obtain ⟨en,hen⟩:∃ en,en=Es.next s i:=⟨_,rfl⟩
 rw [← hen] at hpl ⊢;clear hen;obtain ⟨X,hX⟩:∃ X,X=Lk.auto s (i:Int):=⟨_,rfl⟩
 rw [← hX] at zT hc;clear hX;rcases X with _ | ⟨t,n⟩
 ·unfold gq at zT
  clear hc;go_enter Tryz.func194,Tryz.ntmps194;go_wp2_with fail;refine zT.out.mono ?_;rintro e w1 ⟨rfl,hb1⟩;obtain ⟨c0,c1,c2⟩:=hcl.out _ hb1;have hr:=Lib.hid (wo.out _ hb1);replace hb1:=Lib.hid hb1;clear f0 f1 f2 zT hcl wo;go_wp2_with fail;refine (hpl.out _ hr.out).mono ?_;rintro e w2 ⟨rfl,hr2,hb2⟩;replace hr2:=Lib.hid hr2;have hb:=Lib.hid ((hb1.out.mono hB).trans hb2);clear hpl hb2 c0 c1 c2;go_wp2;go_ret;exact ⟨rfl,hr2.out,hb.out⟩
 ·obtain rfl:link=true:=by rcases hc with h | h;exact h;cases h
  unfold gq at zT;clear hc;go_enter Tryz.func194,Tryz.ntmps194;go_wp2_with fail;refine zT.out.mono ?_;rintro e w1 ⟨rfl,hb1⟩;obtain ⟨c0,c1,c2⟩:=hcl.out _ hb1;have hr:=Lib.hid (wo.out _ hb1);replace hb1:=Lib.hid hb1;clear f0 f1 f2 zT hcl wo;go_wp2_with fail;refine (hpl.out _ hr.out).mono ?_;rintro e w2 ⟨rfl,hr2,hb2⟩;replace hr2:=Lib.hid hr2;have hb:=Lib.hid ((hb1.out.mono hB).trans hb2);clear hpl hb2 c0 c1 c2;go_wp2;go_ret;exact ⟨rfl,hr2.out,hb.out⟩
end
end Go.Proofs.YtddkjkockbcamaaGreatDoor
namespace Go.Proofs.YtddkjkockbcamaaGreatDoor
open Go.RowKit Go.Maps
def kY (bR gm nm:Nat) (s:List UInt8) (link:Bool) (D:DataW Unit) (cr cF vr:Value) (runs:List Em.R):Ky→Option Pa:=fun q =>
 if q=(0,0) then some (.blk bR (D3 s link gm cr cF) 221)
 else if q=(1,0) then some (.row 240 4 vr runs.length (aG runs))
 else if q=(2,0) then some (.map gm nm D) else none
section
variable {w w':World}{B bR:Nat}{s:List UInt8}{link:Bool}{gm nm:Nat}{D:DataW Unit}{cr cF vr v:Value}{runs:List Em.R}{rs:List Il.Rw}{V:List V3}
theorem zP:aA (kY bR gm nm s link D cr cF vr runs) 3 4 5 v rs V (1,0)=some (.row 240 4 vr runs.length (aG runs)):=by
 unfold aA kY;rw [if_neg (by simp),if_neg (by simp),if_neg (by simp),if_neg (by simp),if_pos rfl]
theorem rZ:aA (kY bR gm nm s link D cr cF vr runs) 3 4 5 v rs V (0,0)=some (.blk bR (D3 s link gm cr cF) 221):=by
 unfold aA kY;rw [if_neg (by simp),if_neg (by simp),if_neg (by simp),if_pos rfl]
theorem Eo (vr':Value) (runs':List Em.R):uq (aA (kY bR gm nm s link D cr cF vr runs) 3 4 5 v rs V) (1,0) (.row 240 4 vr' runs'.length (aG runs'))=aA (kY bR gm nm s link D cr cF vr' runs') 3 4 5 v rs V:=by
 funext q
 unfold uq
 by_cases h:q=(1,0)
 ·subst h;rw [if_pos rfl,zP]
 ·rw [if_neg h];unfold aA kY;rw [if_neg h,if_neg h]
theorem uZ (cr' cF':Value):uq (aA (kY bR gm nm s link D cr cF vr runs) 3 4 5 v rs V) (0,0) (.blk bR (D3 s link gm cr' cF') 221)=aA (kY bR gm nm s link D cr' cF' vr runs) 3 4 5 v rs V:=by
 funext q
 unfold uq
 by_cases h:q=(0,0)
 ·subst h;rw [if_pos rfl,rZ]
 ·rw [if_neg h];unfold aA kY;rw [if_neg h,if_neg h]
theorem RS.Rz (h:RS w B (kY bR gm nm s link D cr cF vr runs) 3 4 5 v rs V):w.heap[bR]? = some (.cells (D3 s link gm cr cF) 221 (0,0))∧B≤bR∧bR<w.heap.size:=by
 have h1:=h.hp.holds _ _ rZ;exact ⟨h1.2,h1.1,(Array.getElem?_eq_some_iff.1 h1.2).1⟩
theorem RS.RY (h:RS w B (kY bR gm nm s link D cr cF vr runs) 3 4 5 v rs V) (hB:B≤w.heap.size) {vr':Value}{x:Em.R}(hg:w.grownBy w' vr.ownBlock) (ho:w'.ownsRow B 240 4 vr' (runs.length+1) (aG runs++kK x)) (hat:At w.heap.size vr vr') :
  RS w' B (kY bR gm nm s link D cr cF vr' (runs++[x])) 3 4 5 v rs V∧Below B w w':=by
 have t:=h.hp.wH (k:=(1,0)) (.row 240 4 vr' (runs++[x]).length (aG (runs++[x]))) zP hg (by
  show World.ownsRow _ _ _ _ _ _ _;rw [List.length_append,List.length_singleton,show aG (runs++[x])=aG runs++kK x by simp [aG]];exact ho) hat hB
 rw [Eo] at t;exact ⟨h.along t,t.bel⟩
theorem RS.XC (h:RS w B (kY bR gm nm s link D cr cF vr runs) 3 4 5 v rs V) (hB:B≤w.heap.size) (c':Value):RS (w.setCell ⟨bR,4,none⟩ c') B (kY bR gm nm s link D c' cF vr runs) 3 4 5 v rs V∧Below B w (w.setCell ⟨bR,4,none⟩ c'):=by
 obtain ⟨h1,h2,h3⟩:=h.Rz;have t:=h.hp.wH (k:=(0,0)) (w':=w.setCell ⟨bR,4,none⟩ c') (.blk bR (D3 s link gm c' cF) 221) rZ (ay w ⟨bR,4,none⟩ c') ⟨h2,heap_setCell_same w bR 4 (D3 s link gm cr cF) _ c' h1⟩ (fun g hg=>.inl hg) hB;rw [uZ] at t;exact ⟨h.along t,t.bel⟩
theorem RS.Xo (h:RS w B (kY bR gm nm s link D cr cF vr runs) 3 4 5 v rs V) (hB:B≤w.heap.size) (c':Value):RS (w.setCell ⟨bR,5,none⟩ c') B (kY bR gm nm s link D cr c' vr runs) 3 4 5 v rs V∧Below B w (w.setCell ⟨bR,5,none⟩ c'):=by
 obtain ⟨h1,h2,h3⟩:=h.Rz;have t:=h.hp.wH (k:=(0,0)) (w':=w.setCell ⟨bR,5,none⟩ c') (.blk bR (D3 s link gm cr c') 221) rZ (ay w ⟨bR,5,none⟩ c') ⟨h2,heap_setCell_same w bR 5 (D3 s link gm cr cF) _ c' h1⟩ (fun g hg=>.inl hg) hB;rw [uZ] at t;exact ⟨h.along t,t.bel⟩
theorem RS.LO (h:RS w B (kY bR gm nm s link D cr cF vr runs) 3 4 5 v rs V):w.ownsRow B 240 4 vr runs.length (aG runs):=h.hp.holds _ _ zP
theorem RS.oK (h:RS w B (kY bR gm nm s link D cr cF vr runs) 3 4 5 v rs V):w.cell? ⟨bR,4,none⟩=some cr∧w.cell? ⟨bR,5,none⟩=some cF∧(∀ j,w.frozen? ⟨bR,j,none⟩=false):=by
 have hb:=h.Rz.1;exact ⟨ah hb 4,ah hb 5,bf hb⟩
end
end Go.Proofs.YtddkjkockbcamaaGreatDoor
namespace Go.Proofs.YtddkjkockbcamaaGreatDoor
open Go.RowKit Go.Maps
attribute [local go_sem] aD av aq
theorem Aa (t:List UInt8):(Ru.enc (Ru.aS t)).length≤4*t.length:=by
 have h1:=(Ru.gJ (Ru.aS t)).2;have h2:=Ru.lU t;omega
section
variable {m:Ky→Option Pa}{k:Ks}{C:Value→Value→Pa}{R:Il.Rw}{vi vp:Value}{css:List (List Value)}{w w':World}{B:Nat}
theorem H8 (hk:k.ok) (h:Hq w B m) (hB:B≤w.heap.size) (hg:m k.g=none) (hi:m k.i=none) (hp:m k.p=none) (T:TypeId) :
  b7 B m w (aR m k (fun a b=>.blk w.heap.size #[a,b] T) Il.Rw.nil (.slice none 0 0) (.slice none 0 0) []) (w.alloc (.cells #[.slice none 0 0,.slice none 0 0] T)):=by
 have t1:=h.Ev (k:=k.g) (w':=w.alloc (.cells #[.slice none 0 0,.slice none 0 0] T)) (.blk w.heap.size #[.slice none 0 0,.slice none 0 0] T) hg (aa w _) ⟨hB,heap_alloc_new _ _⟩ (fun g e=>by cases e;exact Nat.le_refl _) hB;have hB1:=Nat.le_trans hB t1.bel.size;have t2:=t1.hp.Ev (k:=k.i) (w':=w.alloc (.cells #[.slice none 0 0,.slice none 0 0] T)) (mu Il.Rw.nil (.slice none 0 0) []) (by rw [aX _ _ hk.gi];exact hi) (Below.refl _ _) (World.ownsRow_nil _ _ _ _) (fun g e=>by cases e) hB1;have t3:=t2.hp.Ev (k:=k.p) (w':=w.alloc (.cells #[.slice none 0 0,.slice none 0 0] T)) (n9 Il.Rw.nil (.slice none 0 0)) (by rw [aX _ _ hk.ip,aX _ _ hk.gp];exact hp) (Below.refl _ _) (World.ownsRow_nil _ _ _ _) (fun g e=>by cases e) hB1;exact t1.trans (t2.trans t3)
theorem BK (hk:k.ok) (h:Hq w B (aR m k C R vi vp css)) (hg:m k.g=none) (hi:m k.i=none) (hp:m k.p=none) :
  b7 B (aR m k C R vi vp css) w m w∧∀ (A:Option Addr) (c:Nat),vi=.slice A R.l.length c→e9 w (Fr w B m) 4 A R.l.length css.flatten:=by
 have hsub:∀ q a,m q=some a→aR m k C R vi vp css q=some a:=fun q a hq=>by
  rw [HR (fun e=>by rw [e,hg] at hq;cases hq) (fun e=>by rw [e,hi] at hq;cases hq) (fun e=>by rw [e,hp] at hq;cases hq)];exact hq
 refine ⟨h.Py id (fun q a hq=>.inl (hsub q a hq)) (fun _ _ _ _ _ _ _ e=>e),fun A c hv=>?_⟩;have ho:w.ownsRow B 35 4 vi R.l.length css.flatten:=h.holds _ _ (iB hk);refine ⟨ho.1,fun hn=>?_⟩;obtain ⟨g,c',hv',_,hBg,JZ⟩:=gU ho hn;obtain rfl:A=some ⟨g,0,none⟩:=by rw [hv] at hv';injection hv'
 refine ⟨g,0,rfl,⟨hBg,JZ,fun q a hq e=>?_⟩,fun j u hj=>by rw [Nat.zero_add];rw [hv'] at ho;exact aN ho hj⟩;have:=h.apart k.i q _ a g (iB hk) (hsub q a hq) (by rw [hv'];rfl) e;rw [← this,hi] at hq;cases hq
end
section
variable {w w':World}{B bR:Nat}{s:List UInt8}{link:Bool}{st:Il.Sc}{gm nm:Nat}{D:DataW Unit}{vr vF:Value}{rs:List Il.Rw}{V:List V3}{i mk:Nat}
theorem gR (q:Ky) (h:6≤q.1):aA (rR bR gm nm s link D vr vF st.runs) 3 4 5 vF rs V q=none:=by
 obtain ⟨a,b⟩:=q;simp only at h;unfold aA rR;rw [if_neg (by simp;omega),if_neg (by simp;omega),if_neg (by simp;omega),if_neg (by simp;omega),if_neg (by simp;omega),if_neg (by simp;omega)]
def kKs:Ks:=⟨(9,0),(10,0),(11,0)⟩
theorem uE:kKs.ok:=⟨by decide,by decide,by decide⟩
theorem RD.Sq (h:RD w B bR s link st gm nm D vr vF rs V) (t:b7 B (aA (rR bR gm nm s link D vr vF st.runs) 3 4 5 vF rs V) w (aA (rR bR gm nm s link D vr vF st.runs) 3 4 5 vF rs V) w'):RD w' B bR s link st gm nm D vr vF rs V:=⟨h.rw.along t,h.rel,h.ends⟩
theorem Sj (h:bP w B bR s false st i mk) (ok:Il.fF st i) (hi:i<s.length) (hs:s.length≤4000000) {t:List UInt8}{n:Nat}(hc:Lk.auto s (i:Int)=some (t,n)) (hn:i<n) (ht0:Ru.enc (Ru.aS t)≠[]) (ht1:t.length≤4000000) :
  Calls Tryz.prog 194 #[.pointer (some ⟨bR,0,none⟩),.int .i64 (i:Int)] w fun e w'=>e=.returned (.int .i64 (n:Int)) ∧
   bP w' B bR s false ⟨st.l++[⟨.mk 4 [] t [Il.word (Ru.enc (Ru.aS t))],none,0,0⟩],st.runs⟩ n mk∧Below B w w':=by
 obtain ⟨hB,gm,nm,D,vr,vF,rs,V,hR,hw,hnm⟩:=h;have hl1:=bP.mw ok (by omega) hs hR;have zT:=Lib.hid (ug s (i:Int) (by omega) w);rw [hc] at zT;unfold gq at zT;obtain ⟨f0,f1,f2,f3,f4,f5,f6⟩:=hR.cells;obtain ⟨g,c,hv,cz⟩:=hR.GV (by omega);replace cz:=Lib.hid cz;replace hv:=Lib.hid hv;have VY:bs []=⟨#[]⟩:=rfl;have hwl:=Lib.hid (wR rs (.mk 4 [] t [Il.word (Ru.enc (Ru.aS t))]));have hcl:=Lib.hid (fun (w1:World) (hb:Below w.heap.size w w1)=>(hR.ext hB hb).cells);have hst:=Lib.hid (fun (w1:World) (hb:Below w.heap.size w w1)=>H8 uE (hR.ext hB hb).rw.hp (Nat.le_trans hB hb.size) (gR _ (by decide)) (gR _ (by decide)) (gR _ (by decide)) 216);have hal:=Lib.hid (fun (w1:World) (hb:Below w.heap.size w w1)=>hR.ext hB hb);replace hR:=Lib.hid hR;go_enter Tryz.func194,Tryz.ntmps194;go_wp2_with fail;refine zT.out.mono ?_;rintro e w1 ⟨rfl,hb1⟩;obtain ⟨c0,c1,c2,c3,c4,c5,c6⟩:=hcl.out w1 hb1;have t1:=hst.out w1 hb1;have hR1:=Lib.hid (hal.out w1 hb1);have hB1:=Nat.le_trans hB hb1.size;replace hb1:=Lib.hid hb1;clear f0 f1 f2 f3 f4 f5 f6 zT hcl hst hal;have hB2:=Nat.le_trans hB1 t1.bel.size;have Eh:=Lib.hid (zu uE (TK _ _) t1.hp hB2 t (by show 0+_≤_;omega));replace t1:=Lib.hid t1;go_wp2_with fail;refine Eh.out.mono ?_;rintro e w2 ⟨rfl,vp2,t2⟩;have t12:=Lib.hid (t1.out.trans t2);have jy:=Nat.le_trans hB2 t2.bel.size;have hall:=Lib.hid (lB uE (TK _ _) t2.hp (show iq _ _ [] [] from rJ) jy (by show (([]:List UInt8)++Ru.enc (Ru.aS t)).length≤_;have:=(Aa t);simp only [List.nil_append];omega) (by show 0≤_;omega));obtain ⟨d0,d1,d2,d3,d4,d5,d6⟩:=(hR1.out.Sq (t12.out.trans (BK uE t2.hp (gR _ (by decide)) (gR _ (by decide)) (gR _ (by decide))).1)).cells;clear t2 c0 c1 c2 c3 c4 c5 c6 Eh t1;have hfull:(Il.Rw.nil.say (Ru.enc (Ru.aS t))).full=[Il.word (Ru.enc (Ru.aS t))]:=by
  unfold Il.Rw.full Il.Rw.say;rw [if_neg (by simpa [Il.Rw.nil] using ht0)]
  rfl
 rw [hfull] at hall;go_wp2_with fail;refine (cz.out _).mono ?_;rintro e w2' ⟨rfl,rfl⟩;go_wp2_with fail;refine hall.out.mono ?_;rintro e w3 ⟨vi3,rfl,vp3,css3,t3,qZ⟩;have Xj:=t3.hp.holds _ _ (iB uE);obtain ⟨A3,c3,rfl,hc3⟩:=ak (show w3.ownsRow B 35 4 vi3 [Il.word (Ru.enc (Ru.aS t))].length css3.flatten from Xj);obtain ⟨t4,hrow4⟩:=BK uE t3.hp (gR _ (by decide)) (gR _ (by decide)) (gR _ (by decide));have tot:=t12.out.trans (t3.trans t4);have pZ:=hR1.out.Sq tot;have tB:=Nat.le_trans hB1 tot.bel.size;have hput:=Lib.hid (Cs pZ tB 4 (by decide) [] t [Il.word (Ru.enc (Ru.aS t))] A3 c3 (by omega) hv.out (by
  unfold IC;exact ⟨A3,c3,css3,rfl,hc3,hrow4 A3 c3 rfl,t4.kids qZ⟩))
 have hbel:=Lib.hid ((hb1.out.mono hB).trans tot.bel);clear qZ Xj hrow4 t4 t3 tot pZ t12 hall d0 d1 d2 d3 d4 d5 d6;go_wp2_with fail;refine hput.out.mono ?_;rintro e w4 ⟨rfl,V',Pj,hb4⟩;have hb:=Lib.hid (hbel.out.trans hb4);replace Pj:=Lib.hid Pj;clear hb4 hput;go_wp2;go_ret;exact ⟨rfl,⟨Nat.le_trans hB hb.out.size,gm,nm,D,vr,_,_,V',Pj.out,by have h9:=hwl.out;simp only [Il.fK,List.length_nil] at h9;omega,by omega⟩,hb.out⟩
end
section
variable {w w':World}{B bR:Nat}{s:List UInt8}{link:Bool}{st:Il.Sc}{gm nm:Nat}{D:DataW Unit}{vr vF:Value}{rs:List Il.Rw}{V:List V3}{i mk mk':Nat}
def KB:Option Nat→Value
 | none=>.tuple #[.int .i64 0,.bool false]
 | some j=>.tuple #[.int .i64 (j:Int),.bool true]
def rK (w:World) (B bR:Nat) (s:List UInt8) (st:Il.Sc) (i mk':Nat) (e:Ending) (w':World):Prop :=
 e=.returned (KB (Lk.close s (i:Int)))∧bP w' B bR s false st i mk'∧Below B w w'
theorem Qe (h:bP w B bR s false st i mk) (ok:Il.fF st i) (hi:i<s.length) (hs:s.length≤4000000) (hc:Lk.close s (i:Int)=none)
  (hE:Calls Tryz.prog 222 #[.pointer (some ⟨bR,2,none⟩),.int .i64 (i:Int)] w (rK w B bR s st i mk')) :
  Calls Tryz.prog 195 #[.pointer (some ⟨bR,0,none⟩),.int .i64 (i:Int)] w fun e w'=>fO w B bR s false st i mk' e w':=by
 have hpl:=Lib.hid (fun (w1:World) (hr:bP w1 B bR s false st i mk')=>(show Calls _ _ _ _ (fun e w'=>fO w1 B bR s false st i mk' e w') from ld hr ok hi hs));unfold fO at hpl ⊢;unfold rK at hE;rw [hc] at hE;unfold KB at hE;replace hE:=Lib.hid hE;obtain ⟨f0,f1,f2⟩:=h.cells;clear h;obtain ⟨en,hen⟩:∃ en,en=Es.next s i:=⟨_,rfl⟩
 rw [← hen] at hpl ⊢;clear hen;go_enter Tryz.func195,Tryz.ntmps195;go_wp2_with fail;refine hE.out.mono ?_;rintro e w1 ⟨rfl,hr1,hb1⟩;replace hr1:=Lib.hid hr1;replace hb1:=Lib.hid hb1;clear hE f0 f1 f2;go_wp2_with fail;refine (hpl.out _ hr1.out).mono ?_;rintro e w2 ⟨rfl,hr2,hb2⟩;replace hr2:=Lib.hid hr2;have hb:=Lib.hid (hb1.out.trans hb2);clear hpl hb2;go_wp2;go_ret;exact ⟨rfl,hr2.out,hb.out⟩
theorem Qm (h:bP w B bR s false st i mk) (ok:Il.fF st i) (hi:i<s.length) (hs:s.length≤4000000) {j:Nat}(hc:Lk.close s (i:Int)=some j) (hj:j<s.length) (hd:Lk.dest s ((j:Int)+1)=none)
  (hE:Calls Tryz.prog 222 #[.pointer (some ⟨bR,2,none⟩),.int .i64 (i:Int)] w (rK w B bR s st i mk')) :
  Calls Tryz.prog 195 #[.pointer (some ⟨bR,0,none⟩),.int .i64 (i:Int)] w fun e w'=>fO w B bR s false st i mk' e w':=by
 have hpl:=Lib.hid (fun (w1:World) (hr:bP w1 B bR s false st i mk')=>(show Calls _ _ _ _ (fun e w'=>fO w1 B bR s false st i mk' e w') from ld hr ok hi hs));unfold fO at hpl ⊢;unfold rK at hE;rw [hc] at hE;unfold KB at hE;replace hE:=Lib.hid hE;have hds:=Lib.hid (fun w=>Ce s ((j:Int)+1) (by omega) w);rw [hd] at hds;unfold gq at hds;obtain ⟨f0,f1,f2⟩:=h.cells;clear h;obtain ⟨en,hen⟩:∃ en,en=Es.next s i:=⟨_,rfl⟩
 rw [← hen] at hpl ⊢;clear hen;go_enter Tryz.func195,Tryz.ntmps195;go_wp2_with fail;refine hE.out.mono ?_;rintro e w1 ⟨rfl,hr1,hb1⟩;obtain ⟨c0,c1,c2⟩:=hr1.cells;have hB1:=hr1.size;replace hr1:=Lib.hid hr1;replace hb1:=Lib.hid hb1;clear hE f0 f1 f2;go_wp2_with fail;refine (hds.out _).mono ?_;rintro e w2 ⟨rfl,hb2⟩;have hr2:=Lib.hid (hr1.out.ext hb2);have Aq:=Lib.hid (hb1.out.trans (hb2.mono hB1));clear hb2 hds c0 c1 c2;go_wp2_with fail;refine (hpl.out _ hr2.out).mono ?_;rintro e w3 ⟨rfl,hr3,hb3⟩;replace hr3:=Lib.hid hr3;have hb:=Lib.hid (Aq.out.trans hb3);clear hpl hb3;go_wp2;go_ret;exact ⟨rfl,hr3.out,hb.out⟩
end
end Go.Proofs.YtddkjkockbcamaaGreatDoor
namespace Go.Proofs.YtddkjkockbcamaaGreatDoor
open Go.Maps
theorem PX {l:List UInt8}{i:Nat}(hi:i<l.length) (ho:(Es.next l i).2.2=false) {c:Nat}(h:(Es.next l i).1=c) (hc:c<128) (kV:c≠96) (fR:c≠60):Lk.sign l i=c∧Lk.hop l i=i+1∧l[i].toNat=c∧(Es.next l i).2.1=i+1:=by
 obtain ⟨h1,h2⟩:=((qV hi).2 ho).2.2 (by omega) (by omega);rcases sn hi ho with ⟨h3,h4,h5⟩ | ⟨h3,h4⟩
 ·exact ⟨by rw [h2,h],by rw [h1,h5],by omega,h5⟩
 ·omega
theorem Vc {l:List UInt8}{i:Nat}(hi:i<l.length) {c:Nat}(h:Lk.sign l i=c) (h0:c=91∨c=93):(Es.next l i).2.2=false∧(Es.next l i).1=c:=by
 obtain ⟨s1,s2⟩:=qV hi;cases ho:(Es.next l i).2.2 with
 | true=>have:=(s1 ho).2;omega
 | false =>
  obtain ⟨t1,t2,t3⟩:=s2 ho;refine ⟨rfl,?_⟩
  by_cases kV:(Es.next l i).1=96
  ·have:=(t1 kV).2;omega
  by_cases fR:(Es.next l i).1=60
  ·have:=(t2 fR).2;omega
  have:=(t3 kV fR).2;omega
theorem Lk.yO {l:List UInt8}{i:Nat}(hi:i<l.length) (h:Lk.sign l i=91∨Lk.sign l i=93):Lk.hop l i=i+1:=by
 obtain ⟨h1,h2⟩:=Vc hi rfl h;exact (PX hi h1 h2 (by omega) (by omega) (by omega)).2.1
theorem Lk.kJ {l:List UInt8}:∀ (n i c j d:Nat),l.length≤n+i→Lk.closes l i c=some j→Lk.closes l i (c+1+d)=Lk.closes l (j+1) d
 | 0,i,c,j,d,hn,h=>by rw [Lk.iJ (by omega)] at h;cases h
 | n+1,i,c,j,d,hn,h=>by
  by_cases hi:i<l.length
  ·have hm:=Lk.j0 hi
   by_cases M7:Lk.sign l i=93
   ·cases c with
    | zero =>
     rw [Lk.qN hi M7] at h;injection h with h;subst h;rw [show 0+1+d=d+1 by omega,Lk.ga hi M7,Lk.yO hi (.inr M7)]
    | succ c =>
     rw [Lk.ga hi M7] at h;rw [show c+1+1+d=(c+1+d)+1 by omega,Lk.ga hi M7];exact Lk.kJ n _ c j d (by omega) h
   ·by_cases o9:Lk.sign l i=91
    ·rw [Lk.ir hi o9] at h
     rw [Lk.ir hi o9,show c+1+d+1=(c+1)+1+d by omega];exact Lk.kJ n _ (c+1) j d (by omega) h
    ·rw [Lk.lO hi M7 o9] at h
     rw [Lk.lO hi M7 o9];exact Lk.kJ n _ c j d (by omega) h
  ·rw [Lk.iJ (by omega)] at h;cases h
theorem Lk.jA {l:List UInt8}:∀ (n i c d:Nat),l.length≤n+i→Lk.closes l i c=none→Lk.closes l i (c+d)=none
 | 0,i,c,d,hn,_=>Lk.iJ (by omega)
 | n+1,i,c,d,hn,h=>by
  by_cases hi:i<l.length
  ·have hm:=Lk.j0 hi
   by_cases M7:Lk.sign l i=93
   ·cases c with
    | zero=>rw [Lk.qN hi M7] at h;cases h
    | succ c =>
     rw [Lk.ga hi M7] at h;rw [show c+1+d=(c+d)+1 by omega,Lk.ga hi M7];exact Lk.jA n _ c d (by omega) h
   ·by_cases o9:Lk.sign l i=91
    ·rw [Lk.ir hi o9] at h
     rw [Lk.ir hi o9,show c+d+1=(c+1)+d by omega];exact Lk.jA n _ (c+1) d (by omega) h
    ·rw [Lk.lO hi M7 o9] at h
     rw [Lk.lO hi M7 o9];exact Lk.jA n _ c d (by omega) h
  ·exact Lk.iJ (by omega)
def Open (s:List UInt8) (i:Nat) (l:List Nat):Prop:=∀ (k a:Nat),l[k]? = some a→(a<i∧a<s.length∧s.getD a 0=91)∧Lk.close s (a:Int)=Lk.closes s i (l.length-1-k)
theorem Open.nil (s:List UInt8) (i:Nat):Open s i []:=fun k a h=>by simp at h
theorem Open.hop {s:List UInt8}{i:Nat}{l:List Nat}(h:Open s i l) (hi:i<s.length) (h1:Lk.sign s i≠91) (h2:Lk.sign s i≠93):Open s (Lk.hop s i) l:=fun k a ha=>by
 obtain ⟨h3,h4⟩:=h k a ha;have:=Lk.j0 hi;exact ⟨⟨by omega,h3.2⟩,by rw [h4,Lk.lO hi h2 h1]⟩
theorem Open.up {s:List UInt8}{i:Nat}{l:List Nat}(h:Open s i l) (hi:i<s.length) (h1:Lk.sign s i=91) (h2:s.getD i 0=91):Open s (i+1) (l++[i]):=fun k a ha=>by
 have hl:(l++[i]).length=l.length+1:=by simp
 rcases Nat.lt_or_ge k l.length with hk | hk
 ·rw [List.getElem?_append_left hk] at ha
  obtain ⟨h3,h4⟩:=h k a ha;refine ⟨⟨by omega,h3.2⟩,?_⟩;rw [h4,Lk.ir hi h1,Lk.yO hi (.inl h1),hl,show l.length-1-k+1=l.length+1-1-k by omega]
 ·rw [List.getElem?_append_right hk] at ha
  have hk2:k-l.length=0:=by
   rcases Nat.eq_zero_or_pos (k-l.length) with h | h
   ·exact h
   ·rw [List.getElem?_eq_none (by simp;omega)] at ha;cases ha
  rw [hk2] at ha;simp only [List.getElem?_cons_zero,Option.some.injEq] at ha;subst ha;refine ⟨⟨by omega,hi,h2⟩,?_⟩;rw [Lk.tc hi h2,hl,show l.length+1-1-k=0 by omega]
theorem Open.down {s:List UInt8}{i:Nat}{l:List Nat}{a:Nat}(h:Open s i (l++[a])) (hi:i<s.length) (h1:Lk.sign s i=93):Open s (i+1) l∧closing s a=i∧a<s.length∧s.getD a 0=91:=by
 have hl:(l++[a]).length=l.length+1:=by simp
 constructor
 ·intro k b hb
  have hk:=(List.getElem?_eq_some_iff.1 hb).1;obtain ⟨h3,h4⟩:=h k b (by rw [List.getElem?_append_left hk];exact hb);refine ⟨⟨by omega,h3.2⟩,?_⟩;rw [h4,hl,show l.length+1-1-k=(l.length-1-k)+1 by omega,Lk.ga hi h1,Lk.yO hi (.inr h1)]
 ·obtain ⟨h3,h4⟩:=h l.length a (by simp)
  rw [hl,show l.length+1-1-l.length=0 by omega,Lk.qN hi h1] at h4;unfold closing;rw [h4];exact ⟨rfl,h3.2⟩
theorem Open.over {s:List UInt8}{i:Nat}{l:List Nat}(h:Open s i l) (hi:i<s.length) (h1:Lk.sign s i=91) (h2:s.getD i 0=91):Open s (closing s i+1) l∧i<closing s i+1∧closing s i≤s.length:=by
 unfold closing;have hc:=Lk.tc hi h2;cases hq:Lk.close s (i:Int) with
 | none =>
  rw [hq] at hc;refine ⟨fun k a ha=>?_,by simp only [Option.getD_none];omega,Nat.le_refl _⟩;obtain ⟨h3,h4⟩:=h k a ha;simp only [Option.getD_none];refine ⟨⟨by omega,h3.2⟩,?_⟩;rw [h4,Lk.ir hi h1,Lk.yO hi (.inl h1),Lk.iJ (show s.length≤s.length+1 by omega)];have:=Lk.jA s.length (i+1) 0 (l.length-1-k+1) (by omega) hc.symm;rwa [Nat.zero_add] at this
 | some j =>
  rw [hq] at hc;have hj:=Il.dZ _ _ _ _ (show Lk.gM _ s (i+1) 0=some j from hc.symm);refine ⟨fun k a ha=>?_,by simp only [Option.getD_some];omega,by simp only [Option.getD_some];omega⟩;obtain ⟨h3,h4⟩:=h k a ha;simp only [Option.getD_some];refine ⟨⟨by omega,h3.2⟩,?_⟩;rw [h4,Lk.ir hi h1,Lk.yO hi (.inl h1)];have:=Lk.kJ s.length (i+1) 0 j (l.length-1-k) (by omega) hc.symm;rwa [show 0+1+(l.length-1-k)=l.length-1-k+1 by omega] at this
theorem Open.out {s:List UInt8}{i:Nat}{l:List Nat}(h:Open s i l) (hi:s.length≤i) {k a:Nat}(ha:l[k]? = some a):closing s a=s.length∧a<s.length∧s.getD a 0=91:=by
 obtain ⟨h3,h4⟩:=h k a ha;rw [Lk.iJ hi] at h4;unfold closing;rw [h4];exact ⟨rfl,h3.2⟩
theorem sE (i:Int):Go.WideAt.IsKeyLit (.int .i64 i):=trivial
theorem j3.put {s:List UInt8}{D:DataW Unit}(h:j3 s D) (hD:Go.Maps.IsMap D) {a c:Nat}(hc:closing s a=c) (ha:a<s.length) (o9:s.getD a 0=91):j3 s (D.put (.int .i64 (a:Int)) (.lit (.int .i64 (c:Int)))):=fun i hi=>by
 by_cases hia:i=a
 ·subst hia
  rw [Go.Maps.atKey_put_same hD (sE _),hc];exact ⟨⟨ha,o9⟩,rfl⟩
 ·have hne:(Lit.int .i64 (i:Int)) ≠ .int .i64 (a:Int):=fun e=>by injection e with _ e;omega
  rw [Go.Maps.has_put_other hne] at hi;rw [Go.Maps.atKey_put_other hne];exact h i hi
end Go.Proofs.YtddkjkockbcamaaGreatDoor
namespace Go.Proofs.YtddkjkockbcamaaGreatDoor
open Go.RowKit Go.Maps
attribute [local go_sem] aD av aq
theorem dO:Keyed Tryz.prog 3:=int_keyed Tryz.underlying3
theorem fU (w:World):(zeroValue 3).run Tryz.prog w=.ok (.int .i64 0) w:=by kernel_rfl
theorem aaG {n:Nat}(h:n≤5000000):(Lit.int .i64 (n:Int)).wf=true:=by
 show (decide (IntKind.i64.min≤(n:Int))&&decide ((n:Int)≤IntKind.i64.max))=true;have h1:IntKind.i64.min = -9223372036854775808:=by decide
 have h2:IntKind.i64.max=9223372036854775807:=by decide
 rw [h1,h2,Bool.and_eq_true,decide_eq_true_iff,decide_eq_true_iff];omega
theorem TQ {n:Nat}(h:n≤5000000):keyOf Tryz.prog 3 (.int .i64 (n:Int))=some (.int .i64 (n:Int)):=keyOf_int_mk Tryz.underlying3 (aaG h)
theorem zw {ops:Array Oper}{Q:Exit→Act→World→Prop}{S:World→Prop}{i:Nat}{r:OT}{a:Act}{w:World}{o:Oper}(ho:ops[i]? = some o) (hw:Region.wanted o (yielded ops a.tmps)=true) (mo x v:Operand)
  (hop:o.op=.mapUpdate 212 mo x v) {gm n:Nat}{D:DataW Unit}(hm:a.eval mo=.map (some gm)) (hown:nE w gm n D) (hn:n≤1000000000000000) {p c:Nat}(hp:p≤5000000) (hc:c≤5000000)
  (hx:a.eval x=.int .i64 (p:Int)) (hv:a.eval v=.int .i64 (c:Int))
  (h:∀ w',nE w' gm (n+1) (D.put (.int .i64 (p:Int)) (.lit (.int .i64 (c:Int))))→w.grownBy w' (some gm)→S w'∧vH Tryz.prog ops Q r S (a.put o.dst undef) w'):vH Tryz.prog ops Q (.mk i r) S a w:=by
 obtain ⟨w',hrun,r1,r2⟩:=World.ownsMap.update hown dO Tryz.underlying212 (by unfold maxLen;omega) (TQ hp) (plainElem_int Tryz.underlying3 (aaG hc));obtain ⟨h1,h2⟩:=h w' r1 r2;refine bw ho hw ?_ h1 h2;unfold execOp;rw [hop];simp [hm,hx,hv,hrun,Result.andThen]
theorem O4 {w:World}{B g n c:Nat}{E:TypeId}{xs:List Value}{z:Value}(h:w.ownsRow B E 1 (.slice (some ⟨g,0,none⟩) (n+1) c) (n+1) (xs++[z])):w.ownsRow B E 1 (.slice (some ⟨g,0,none⟩) n c) n xs:=by
 have hl:=h.1;rw [List.length_append,List.length_singleton] at hl;refine ⟨by omega,?_⟩;rcases h.2 with ⟨e,_⟩ | ⟨g',cap,cur,e,h1,h2,h3,h4,h5,h6⟩
 ·simp at e
 ·injection e with e1 e2 e3
  injection e1 with e1;injection e1 with e1;subst e1 e3;refine .inr ⟨g,c,cur,rfl,h1,h2,by omega,h4,h5,?_⟩;have:(cur.toList.take ((n+1)*1)).take n=(xs++[z]).take n:=by rw [h6]
  rw [List.take_take,show min n ((n+1)*1)=n*1 by omega,List.take_left' (by omega)] at this;exact this
theorem Sn (g n c hi:Nat) {v:Int}(hv:v=(hi:Int)) (h2:hi≤c) (w:World) :
  (Instr.slice 23 (.slice (some ⟨g,0,none⟩) n c) none (some (.int .i64 v)) none).run Tryz.prog w=.ok (.slice (some ⟨g,0,none⟩) hi c) w :=
 zF (by kernel_rfl) 1 (fun w=>by kernel_rfl) g n c hi hv h2 w
def QO (m:Ky→Option Pa) (gm n:Nat) (D:DataW Unit) (v:Value) (l:List Nat):Ky→Option Pa:=uq (uq m (2,0) (.map gm n D)) (6,0) (.row 3 1 v l.length (aC l))
structure Sk (w0 w:World) (B:Nat) (m:Ky→Option Pa) (gm n:Nat) (D:DataW Unit) (v:Value) (l:List Nat):Prop where
 t:b7 B m w0 (QO m gm n D v l) w
 le:B≤w.heap.size
section
variable {w0 w w':World}{B gm n:Nat}{m:Ky→Option Pa}{D:DataW Unit}{v:Value}{l:List Nat}
theorem Xv:QO m gm n D v l (6,0)=some (.row 3 1 v l.length (aC l)):=by unfold QO;rw [ez]
theorem RC:QO m gm n D v l (2,0)=some (.map gm n D):=by unfold QO;rw [aX _ _ (by decide),ez]
theorem aaV:QO m gm n D v l (0,0)=m (0,0):=by unfold QO;rw [aX _ _ (by decide),aX _ _ (by decide)]
theorem Sk.start (h:Hq w B m) (hB:B≤w.heap.size) (h2:m (2,0)=some (.map gm n D)) (h6:m (6,0)=none):Sk w w B m gm n D (.slice none 0 0) []:=by
 refine ⟨?_,hB⟩;unfold QO;rw [Wt h2];exact h.Ev _ h6 (Below.refl _ _) (World.ownsRow_nil _ _ _ _) (fun g hg=>by cases hg) hB
theorem Sk.call (h:Sk w0 w B m gm n D v l) (hb:Below w.heap.size w w'):Sk w0 w' B m gm n D v l:=⟨h.t.trans (h.t.hp.call h.le hb),Nat.le_trans h.le hb.size⟩
theorem Sk.drew (h:Sk w0 w B m gm n D v l):Sk w0 w.drew B m gm n D v l:=⟨h.t.trans h.t.hp.oD,h.le⟩
theorem Sk.cells (h:Sk w0 w B m gm n D v l) {bR:Nat}{cs:Array Value}{T:TypeId}(h0:m (0,0)=some (.blk bR cs T)):bR<w.heap.size∧∀ j u,cs[j]? = some u→w.cell? ⟨bR,j,none⟩=some u:=by
 have h1:=h.t.hp.holds (0,0) _ (aaV.trans h0);refine ⟨(Array.getElem?_eq_some_iff.1 h1.2).1,fun j u hj=>?_⟩;rw [ah h1.2 j];exact hj
theorem Sk.own (h:Sk w0 w B m gm n D v l):w.ownsRow B 3 1 v l.length (aC l):=h.t.hp.holds (6,0) _ Xv
theorem Sk.map (h:Sk w0 w B m gm n D v l):nE w gm n D:=(h.t.hp.holds (2,0) _ RC).2
theorem Sk.row (h:Sk w0 w B m gm n D v l) (l':List Nat) {v':Value}(hg:w.grownBy w' v.ownBlock) (ho:w'.ownsRow B 3 1 v' l'.length (aC l')) (hat:At w.heap.size v v'):Sk w0 w' B m gm n D v' l':=by
 have t:=h.t.hp.wH (k:=(6,0)) (.row 3 1 v' l'.length (aC l')) Xv hg ho hat h.le;unfold QO at t;rw [xJ] at t;exact ⟨h.t.trans t,Nat.le_trans h.le hg.size⟩
theorem Sk.put (h:Sk w0 w B m gm n D v l) {D':DataW Unit}{n':Nat}(hg:w.grownBy w' (some gm)) (ho:nE w' gm n' D'):Sk w0 w' B m gm n' D' v l:=by
 have t:=h.t.hp.wH (k:=(2,0)) (.map gm n' D') RC hg ⟨(h.t.hp.holds (2,0) _ RC).1,ho⟩ (fun g hg=>.inl hg) h.le;unfold QO at t;rw [nA _ (show ((6,0):Ky)≠(2,0) by decide),xJ] at t;exact ⟨h.t.trans t,Nat.le_trans h.le hg.size⟩
theorem Sk.cut {g c:Nat}{a:Nat}(h:Sk w0 w B m gm n D (.slice (some ⟨g,0,none⟩) (l.length+1) c) (l++[a])):Sk w0 w B m gm n D (.slice (some ⟨g,0,none⟩) l.length c) l:=by
 refine h.row l (World.grownBy.refl w _) ?_ (fun g' hg'=>.inl hg');have ho:=h.own;rw [kN,List.length_append,List.length_singleton] at ho;exact O4 ho
theorem Sk.done (h:Sk w0 w B m gm n D v l) (h6:m (6,0)=none):b7 B m w0 (uq m (2,0) (.map gm n D)) w:=by
 refine h.t.trans (h.t.hp.Py id (fun k a ha=>.inl ?_) (fun _ _ _ _ _ _ _ e=>e))
 by_cases hk:k=(6,0)
 ·subst hk
  rw [aX _ _ (by decide),h6] at ha;cases ha
 ·unfold QO
  rw [id,aX _ _ hk];exact ha
theorem Sk.isMap (h:Sk w0 w B m gm n D v l):IsMap D:=World.ownsMap.isMap h.map
end
structure iV (s:List UInt8) (i0 i:Nat) (l:List Nat) (D:DataW Unit) (n n0:Nat):Prop where
 op:Open s i l
 ends:j3 s D
 nil:l=[]→i=i0∧Maps.has D (.int .i64 (i0:Int))=false
 head:l≠[]→l[0]? = some i0
 cnt:n+l.length≤n0+i
 len:l.length≤i
section
variable {s:List UInt8}{i0 i:Nat}{l:List Nat}{D:DataW Unit}{n n0:Nat}
theorem iV.on (h:iV s i0 i l D n n0) (hl:l≠[]) {j:Nat}(hj:i≤j) (ho:Open s j l):iV s i0 j l D n n0 :=
 ⟨ho,h.ends,fun e=>absurd e hl,h.head,by have:=h.cnt;omega,by have:=h.len;omega⟩
theorem iV.push (h:iV s i0 i l D n n0) (hi:i<s.length) (h1:Lk.sign s i=91) (h2:s.getD i 0=91):iV s i0 (i+1) (l++[i]) D n n0:=by
 refine ⟨h.op.up hi h1 h2,h.ends,fun e=>by simp at e,fun _=>?_,by rw [List.length_append,List.length_singleton];have:=h.cnt;omega,by rw [List.length_append,List.length_singleton];have:=h.len;omega⟩;cases l with
 | nil=>rw [(h.nil rfl).1];rfl
 | cons a r=>exact h.head (by simp)
theorem iV.pop {a:Nat}(h:iV s i0 i (l++[a]) D n n0) (hD:IsMap D) (hi:i<s.length) (h1:Lk.sign s i=93) :
  j3 s (D.put (.int .i64 (a:Int)) (.lit (.int .i64 (i:Int))))∧(l=[]→a=i0)∧(l≠[]→iV s i0 (i+1) l (D.put (.int .i64 (a:Int)) (.lit (.int .i64 (i:Int)))) (n+1) n0):=by
 obtain ⟨k1,k2,k3,k4⟩:=h.op.down hi h1;have ke:=h.ends.put hD k2 k3 k4;have hh:=h.head (by simp);refine ⟨ke,fun e=>?_,fun hl=>⟨k1,ke,fun e=>absurd e hl,fun _=>?_,?_,?_⟩⟩
 ·subst e;simpa using hh
 ·rwa [List.getElem?_append_left (List.length_pos_iff.2 hl)] at hh
 ·have:=h.cnt;rw [List.length_append,List.length_singleton] at this;omega
 ·have:=h.len;rw [List.length_append,List.length_singleton] at this;omega
end
theorem Nq {m:Ky→Option Pa}{B bR gm n0 i0:Nat}{s:List UInt8}{D0:DataW Unit}{cs:Array Value}{T:TypeId}{w:World}(h:Hq w B m) (hB:B≤w.heap.size) (h0:m (0,0)=some (.blk bR cs T)) (hc2:cs[2]? = some (.string (bs s))) (hc3:cs[3]? = some (.map (some gm)))
  (h2:m (2,0)=some (.map gm n0 D0)) (h6:m (6,0)=none) (he:j3 s D0) (hi0:i0<s.length) (o9:s[i0]=91) (hno:Maps.has D0 (.int .i64 (i0:Int))=false) (hn0:n0≤100000000000000) (hs:s.length≤4000000) :
  Calls Tryz.prog 236 #[.pointer (some ⟨bR,2,none⟩),.int .i64 (i0:Int)] w fun e w'=>e=.returned (.tuple #[])∧∃ (n:Nat) (D:DataW Unit),b7 B m w (uq m (2,0) (.map gm n D)) w'∧j3 s D∧Maps.has D (.int .i64 (i0:Int))=true∧n≤n0+s.length+1:=by
 have hst:=Lib.hid (Sk.start h hB h2 h6);have hiv:Hid (iV s i0 i0 [] D0 n0 n0):=Lib.hid ⟨Open.nil _ _,he,fun _=>⟨rfl,hno⟩,fun e=>absurd rfl e,by simp,by simp⟩;have hsz:=au s;have hcl:=Lib.hid (fun (wr:World) (n:Nat) (D:DataW Unit) (v:Value) (l:List Nat) (k:Sk w wr B m gm n D v l)=>(show bR<wr.heap.size∧wr.cell? ⟨bR,2,none⟩=some (.string (bs s))∧wr.cell? ⟨bR,3,none⟩=some (.map (some gm)) from ⟨(k.cells h0).1,(k.cells h0).2 2 _ hc2,(k.cells h0).2 3 _ hc3⟩));have aP:=Lib.hid (fun (wr:World) (n:Nat) (D:DataW Unit) (v:Value) (l:List Nat) (k:Sk w wr B m gm n D v l)=>k.done h6);have T9:=Lib.hid (fun (i:Nat) (hi:i<s.length) (w:World) h1 h2=>Ez bR 2 s i hi hs w h1 h2);replace o9:=Lib.hid o9;clear h h0 hc2 hc3 h2 h6 he hno;go_enter Tryz.func236,Tryz.ntmps236;go_wp2_with fail
 go_loopw [1,4] (fun u v wr=>∃ (i:Nat) (l:List Nat) (n:Nat) (D:DataW Unit),i≤s.length+1∧u=.int .i64 (i:Int)∧Hid (Sk w wr B m gm n D v l)∧Hid (iV s i0 i l D n n0)) (fun u _ _=>s.length+1-(intOf u).toNat)
 case atStart=>exact ⟨i0,[],n0,D0,by omega,rfl,hst,hiv⟩
 case round =>
  obtain ⟨i,l,n,D,hi1,rfl,hk,hI⟩:=hrel;obtain ⟨hlt,c2,c3⟩:=hcl.out _ _ _ _ _ hk.out;clear hst hiv
  by_cases hil:i<s.length
  ·have q2:=fun w=>pM s (i:Int) (by omega) w trivial
   rw [Int.toNat_natCast] at q2;unfold nN at q2;have hmo:=Es.fj hil;have wM:=qV hil;have hrd:=@PX s i hil;have hbyte:∀ c:UInt8,c.toNat<128→(Es.next s i).2.2=false→((Es.next s i).1=c.toNat↔s[i]=c):=fun c hc ho=>jN hil ho hc;have rH:=Lib.hid hI.out.cnt;have rG:=hI.out.len;have hkey:=TQ (n:=i) (by omega);have iD:l=[]→(Es.next s i).2.2=false∧(Es.next s i).1=91∧Maps.has D (.int .i64 (i:Int))=false:=fun e=>by
    obtain ⟨e1,e2⟩:=hI.out.nil e;subst e1;have ho:(Es.next s i).2.2=false:=by
     cases ho:(Es.next s i).2.2 with
     | false=>rfl
     | true=>have:=EK hil ho;rw [o9.out] at this;exact absurd this (by decide)
    exact ⟨ho,(hbyte 91 (by decide) ho).2 o9.out,e2⟩
   have Bh:Maps.has D (.int .i64 (i:Int))=true→s[i]=91∧D.atKey (.int .i64 (i:Int)) (.lit (.int .i64 0))=.lit (.int .i64 (closing s i:Int)):=fun e=>by
    have:=hI.out.ends i e;refine ⟨?_,this.2⟩;have h3:=this.1.2;rwa [getD_at hil] at h3
   obtain ⟨⟨r,nx,its⟩,hN⟩:∃ x,x=Es.next s i:=⟨_,rfl⟩
   rw [← hN] at q2 hmo wM hrd hbyte iD;simp only at q2 hmo wM hrd hbyte iD;clear hN;obtain ⟨kn,hkn⟩:∃ kn,Maps.has D (.int .i64 (i:Int))=kn:=⟨_,rfl⟩
   replace hcl:=Lib.hid hcl;replace wM:=Lib.hid wM;replace hrd:=Lib.hid hrd;replace hbyte:=Lib.hid hbyte;replace iD:=Lib.hid iD;replace Bh:=Lib.hid Bh;replace aP:=Lib.hid aP;replace T9:=Lib.hid T9;cases its with
   | true =>
    have hl:l≠[]:=fun e=>by have:=(iD.out e).1;cases this
    obtain ⟨j1,j2⟩:=wM.out.1 rfl;have hn2:Hid (iV s i0 nx l D n n0):=Lib.hid (hI.out.on hl (by omega) (by
     have:=hI.out.op.hop hil (by rw [j2];decide) (by rw [j2];decide);rwa [j1] at this))
    replace hl:=Lib.hid hl;clear j1 j2 wM hrd hbyte iD Bh hI T9 aP;go_wp2_with fail;refine (q2 _).mono ?_;rintro e w2 ⟨rfl,hb2⟩;have k2:=Lib.hid (hk.out.call hb2);obtain ⟨hlt2,d2,d3⟩:=hcl.out.out _ _ _ _ _ k2.out;have hmap:=Lib.hid k2.out.map;clear hb2 q2 c2 c3 hlt;go_wp2_with (at_lookup;refine wpList_lookup_own_ok_int _ rfl _ _ 212 rfl 3 3 .i64 dO Tryz.underlying212 Tryz.underlying3 (fU _) gm n D rfl hmap.out _ _ rfl hkey ?_;intro c hat hwc;rw [hkn];replace hat:=Lib.hid hat;clear hwc)
    go_roundw
    case rel=>exact ⟨nx,l,n,D,by omega,rfl,k2,hn2⟩
    case measure=>simp [intOf];omega
   | false =>
    cases kn with
    | true =>
     have hl:l≠[]:=fun e=>by have:=(iD.out e).2.2;rw [hkn] at this;cases this
     obtain ⟨e1,e2⟩:=Bh.out hkn;have er:r=91:=(hbyte.out 91 (by decide) rfl).2 e1;have es:=hrd.out rfl er (by decide) (by decide) (by decide);obtain ⟨o1,o2,o3⟩:=hI.out.op.over hil es.1 (by rw [getD_at hil];exact e1);obtain ⟨H,hH⟩:∃ H,H=closing s i:=⟨_,rfl⟩
     rw [← hH] at o1 o2 o3 e2;have hn2:Hid (iV s i0 (H+1) l D n n0):=Lib.hid (hI.out.on hl (by omega) o1);have e2h:=Lib.hid e2;clear o1 e1 er es e2 hH hl wM hrd hbyte iD Bh hI T9 aP;go_wp2_with fail;refine (q2 _).mono ?_;rintro e w2 ⟨rfl,hb2⟩;have k2:=Lib.hid (hk.out.call hb2);obtain ⟨hlt2,d2,d3⟩:=hcl.out.out _ _ _ _ _ k2.out;have hmap:=Lib.hid k2.out.map;clear hb2 q2 c2 c3 hlt;go_wp2_with (at_lookup;refine wpList_lookup_own_ok_int _ rfl _ _ 212 rfl 3 3 .i64 dO Tryz.underlying212 Tryz.underlying3 (fU _) gm n D rfl hmap.out _ _ rfl hkey ?_;intro c hat hwc;rw [hkn];have hcc:c=(H:Int):=(by have h9:=hat.symm.trans e2h.out;injection h9 with h9;injection h9);have Yc:0≤c:=(by omega);have agt:c≤4000000:=(by omega);replace hcc:=Lib.hid hcc;clear hwc hat)
     go_roundw
     case rel=>exact ⟨H+1,l,n,D,by omega,by congr 1;have:=hcc.out;omega,k2,hn2⟩
     case measure=>simp [intOf];have:=hcc.out;omega
    | false =>
     clear Bh
     by_cases r91:r=91
     ·have e1:s[i]=91:=(hbyte.out 91 (by decide) rfl).1 r91
      have es:=hrd.out rfl r91 (by decide) (by decide) (by decide);have hn2:Hid (iV s i0 nx (l++[i]) D n n0):=Lib.hid (by
       rw [es.2.2.2];exact hI.out.push hil es.1 (by rw [getD_at hil];exact e1))
      have t1:(((r:Nat):Int)==91)=true:=by simp [r91]
      clear e1 es wM hrd hbyte iD hI T9 aP r91;go_wp2_with fail;refine (q2 _).mono ?_;rintro e w2 ⟨rfl,hb2⟩;have k2:=Lib.hid (hk.out.call hb2);obtain ⟨hlt2,d2,d3⟩:=hcl.out.out _ _ _ _ _ k2.out;have hmap:=Lib.hid k2.out.map;clear hb2 q2 c2 c3 hlt;have hown:=Lib.hid k2.out.own;have hB2:=k2.out.le;have aa7:=rG;go_wp2_with (first | (at_lookup;refine wpList_lookup_own_ok_int _ rfl _ _ 212 rfl 3 3 .i64 dO Tryz.underlying212 Tryz.underlying3 (fU _) gm n D rfl hmap.out _ _ rfl hkey ?_;intro c hat hwc;rw [hkn];replace hat:=Lib.hid hat;clear hwc) | (at_builtin;refine bE rfl (.tmp 48) (.tmp 50) rfl KI rfl hown.out rfl rfl rfl (by intro u hu;simp at hu;subst hu;rfl) (by omega) (by omega) hB2 ?_;intro v' w4 ho hg hb abO;have k4:=Lib.hid (k2.out.row (l++[i]) hg.out (by rw [kN,List.length_append,List.length_singleton];exact ho) abO.out);clear ho hg hb abO))
      go_roundw
      case rel=>exact ⟨nx,l++[i],n,D,by omega,rfl,k4,hn2⟩
      case measure=>simp [intOf];omega
     have t1:(((r:Nat):Int)==91)=false:=by rw [beq_eq_false_iff_ne];omega
     have hl:l≠[]:=fun e=>r91 (iD.out e).2.1
     by_cases r93:r=93
     ·have es:=hrd.out rfl r93 (by decide) (by decide) (by decide)
      have t2:(((r:Nat):Int)==93)=true:=by simp [r93]
      obtain ⟨L,a,rfl⟩:∃ L a,l=L++[a]:=⟨_,_,(List.dropLast_concat_getLast hl).symm⟩
      have ha:a≤4000000:=by
       have:=(hI.out.op L.length a (by simp)).1.2.1;omega
      have r9:=Lib.hid (fun hD=>hI.out.pop hD hil es.1);have j7:nx=i+1:=es.2.2.2;have hnn:n≤100000000000000+i:=by have:=rH.out;omega
      obtain ⟨p,hp⟩:∃ p,p=L.length:=⟨_,rfl⟩
      have hLp:(L++[a]).length=p+1:=by rw [List.length_append,List.length_singleton,hp]
      have hp4:p+1≤i:=by have:=rG;omega
      replace j7:=Lib.hid j7;clear es wM hrd hbyte iD hI T9 hl r93;go_wp2_with fail;refine (q2 _).mono ?_;rintro e w2 ⟨rfl,hb2⟩;have k2:=Lib.hid (hk.out.call hb2);obtain ⟨hlt2,d2,d3⟩:=hcl.out.out _ _ _ _ _ k2.out;have hmap:=Lib.hid k2.out.map;clear hb2 q2 c2 c3 hlt;have hown:=k2.out.own;rw [hLp] at hown;obtain ⟨g,cp,rfl,XL,hBg,JZ⟩:=gU hown (by omega);have hcut:=fun w=>Sn g (p+1) cp p (v:=(p:Int)) rfl (by omega) w;have hsub:((p+1:Nat):Int)-1=(p:Int):=by omega
      have hpp:(p:Int)<(p:Int)+1:=by omega
      have dl:w2.cell? ⟨g,p,none⟩=some (.int .i64 (a:Int)):=aN hown (by rw [kN,List.getElem?_append_right (by rw [nI];omega),nI,hp];simp);replace hLp:=Lib.hid hLp;replace hp:=Lib.hid hp;replace hown:=Lib.hid hown;go_upto_region 11 with (at_lookup;refine wpList_lookup_own_ok_int _ rfl _ _ 212 rfl 3 3 .i64 dO Tryz.underlying212 Tryz.underlying3 (fU _) gm n D rfl hmap.out _ _ rfl hkey ?_;intro c hat hwc;rw [hkn];replace hat:=Lib.hid hat;clear hwc)
      refine aF (.rd 0 (.rd 1 (.rd 2 (.rd 3 (.rd 4 (.rd 5 (.rd 6 (.rd 7 (.rd 8 (.mk 9 .fin)))))))))) (fun u:World=>u.cell? ⟨bR,3,none⟩=some (.map (some gm))∧u.cell? ⟨g,p,none⟩=some (.int .i64 (a:Int))) ⟨d3,dl⟩ (by kernel_rfl) (by kernel_rfl) (by kernel_rfl) (fun _ _ d _ _ h=>by cases d<;>exact h) ?_
      iterate 3 (first | refine an rfl ?_ | (refine az rfl ?_;intro K hK;go_simp;refine hK _ _ _ ?_;clear hK K))
      refine aJ (.map (some gm)) rfl rfl ⟨d3,dl⟩ (fun u hu=>by obtain ⟨u1,u2⟩:=hu;go_simp) ?_
      iterate 3 (first | refine an rfl ?_ | (refine az rfl ?_;intro K hK;go_simp;refine hK _ _ _ ?_;clear hK K))
      refine aJ (.int .i64 (a:Int)) rfl rfl ⟨d3,dl⟩ (fun u hu=>by obtain ⟨u1,u2⟩:=hu;go_simp) ?_
      (first | refine an rfl ?_ | (refine az rfl ?_;intro K hK;go_simp;refine hK _ _ _ ?_;clear hK K))
      refine zw rfl rfl (.tmp 61) (.tmp 65) (.tmp 66) rfl rfl k2.out.drew.map (by omega) (p:=a) (c:=i) (by omega) (by omega) rfl rfl ?_;intro w5 Sm zS;have k5:=k2.out.drew.put zS Sm;obtain ⟨UM,g2,g3⟩:=hcl.out.out _ _ _ _ _ k5;have rL:=k5.own;rw [hLp.out] at rL;refine ⟨⟨g3,aN rL (by rw [kN,List.getElem?_append_right (by rw [nI,hp.out];omega),nI,hp.out];simp)⟩,?_⟩;refine aQ ?_;obtain ⟨p1,p2,p3⟩:=r9.out k2.out.isMap;have k6:Sk w w5 B m gm (n+1) (D.put (.int .i64 (a:Int)) (.lit (.int .i64 (i:Int)))) (.slice (some ⟨g,0,none⟩) p cp) L:=by
       rw [hp.out];rw [hp.out] at k5;exact k5.cut
      have hhas:Maps.has (D.put (.int .i64 (a:Int)) (.lit (.int .i64 (i:Int)))) (.int .i64 (a:Int))=true:=has_put_same k2.out.isMap (sE _) _;replace p1:=Lib.hid p1;replace p2:=Lib.hid p2;replace p3:=Lib.hid p3;replace hhas:=Lib.hid hhas;replace k6:=Lib.hid k6;clear k5 Sm zS UM g2 g3 rL k2 d2 d3 dl hmap hown r9 hkn hkey;rcases Nat.eq_zero_or_pos p with h0 | h0
      ·have hLn:L=[]:=List.length_eq_zero_iff.1 (by rw [← hp.out];exact h0)
       have ea:=p2.out hLn;have t3:((p:Int)==0)=true:=by simp [h0]
       have hT:=Lib.hid (aP.out.out _ _ _ _ _ k6.out);replace hhas:Hid (Maps.has (D.put (.int .i64 (a:Int)) (.lit (.int .i64 (i:Int)))) (.int .i64 (i0:Int))=true):=Lib.hid (by rw [← ea];rw [← ea] at *;exact hhas.out);have hbd:Hid (n+1≤n0+s.length+1):=Lib.hid (by have:=rH.out;omega);clear h0 hLn ea p2 p3 rH;go_wp2_with fail;refine bodyPost_ret (results_none rfl ..) rfl ?_;exact ⟨rfl,_,_,hT.out,p1.out,hhas.out,hbd.out⟩
      ·have hLn:L≠[]:=fun e=>by rw [hp.out,e] at h0;simp at h0
       have t3:((p:Int)==0)=false:=by rw [beq_eq_false_iff_ne];omega
       have hn2:Hid (iV s i0 nx L (D.put (.int .i64 (a:Int)) (.lit (.int .i64 (i:Int)))) (n+1) n0):=Lib.hid (by rw [j7.out];exact p3.out hLn);clear p2 p3 hLn;go_wp2_with fail
       go_roundw
       case rel=>exact ⟨nx,L,n+1,_,by omega,rfl,k6,hn2⟩
       case measure=>simp [intOf];omega
     have t2:(((r:Nat):Int)==93)=false:=by rw [beq_eq_false_iff_ne];omega
     by_cases rb:r=96∨r=60
     ·have kr:CJ s i=Lk.hop s i∧Lk.sign s i≠91∧Lk.sign s i≠93:=by
       rcases rb with rb | rb
       ·have e1:s[i]=96:=(hbyte.out 96 (by decide) rfl).1 rb
        have:=OZ hil e1;exact ⟨this.1,by rw [this.2];decide,by rw [this.2];decide⟩
       ·have e1:s[i]=60:=(hbyte.out 60 (by decide) rfl).1 rb
        cases ha:Lk.auto s (i:Int) with
        | some x =>
         obtain ⟨t,e⟩:=x;have:=Ml hil e1 ha;exact ⟨this.1,by rw [this.2];decide,by rw [this.2];decide⟩
        | none =>
         have:=N9 hil e1 ha;exact ⟨this.1,by rw [this.2];decide,by rw [this.2];decide⟩
      have hmh:=Lk.j0 hil;have Gu:=T9.out.out i hil;rw [kr.1] at Gu;have Jz:=hI.out.op.hop hil kr.2.1 kr.2.2;obtain ⟨H,hH⟩:∃ H,H=Lk.hop s i:=⟨_,rfl⟩
      rw [← hH] at Gu hmh Jz;have hn2:Hid (iV s i0 H l D n n0):=Lib.hid (hI.out.on hl (by omega) Jz);have t4:((((r:Nat):Int)==96)=true)∨((((r:Nat):Int)==96)=false∧(((r:Nat):Int)==60)=true):=by
       rcases rb with rb | rb
       ·exact .inl (by simp [rb])
       ·exact .inr ⟨by simp [rb],by simp [rb]⟩
      replace Gu:=Lib.hid Gu;clear kr hH Jz wM hrd hbyte iD hI T9 aP rb r93 r91 hl;rcases t4 with t4 | ⟨t4,t5⟩
      ·go_wp2_with fail
       refine (q2 _).mono ?_;rintro e w2 ⟨rfl,hb2⟩;have k2:=Lib.hid (hk.out.call hb2);obtain ⟨hlt2,d2,d3⟩:=hcl.out.out _ _ _ _ _ k2.out;have hmap:=Lib.hid k2.out.map;clear hb2 q2 c2 c3 hlt;go_wp2_with (at_lookup;refine wpList_lookup_own_ok_int _ rfl _ _ 212 rfl 3 3 .i64 dO Tryz.underlying212 Tryz.underlying3 (fU _) gm n D rfl hmap.out _ _ rfl hkey ?_;intro c hat hwc;rw [hkn];replace hat:=Lib.hid hat;clear hwc);refine (Gu.out _ d2 hlt2).mono ?_;rintro e w3 ⟨rfl,hb3⟩;have k3:=Lib.hid (k2.out.call hb3);clear hb3 Gu;go_wp2_with fail
       go_roundw
       case rel=>exact ⟨H,l,n,D,by omega,rfl,k3,hn2⟩
       case measure=>simp [intOf];omega
      ·go_wp2_with fail
       refine (q2 _).mono ?_;rintro e w2 ⟨rfl,hb2⟩;have k2:=Lib.hid (hk.out.call hb2);obtain ⟨hlt2,d2,d3⟩:=hcl.out.out _ _ _ _ _ k2.out;have hmap:=Lib.hid k2.out.map;clear hb2 q2 c2 c3 hlt;go_wp2_with (at_lookup;refine wpList_lookup_own_ok_int _ rfl _ _ 212 rfl 3 3 .i64 dO Tryz.underlying212 Tryz.underlying3 (fU _) gm n D rfl hmap.out _ _ rfl hkey ?_;intro c hat hwc;rw [hkn];replace hat:=Lib.hid hat;clear hwc);refine (Gu.out _ d2 hlt2).mono ?_;rintro e w3 ⟨rfl,hb3⟩;have k3:=Lib.hid (k2.out.call hb3);clear hb3 Gu;go_wp2_with fail
       go_roundw
       case rel=>exact ⟨H,l,n,D,by omega,rfl,k3,hn2⟩
       case measure=>simp [intOf];omega
     have hmh:=(wM.out.2 rfl).2.2 (by omega) (by omega);have Jz:=hI.out.op.hop hil (by rw [hmh.2];exact r91) (by rw [hmh.2];exact r93);rw [hmh.1] at Jz;have hn2:Hid (iV s i0 nx l D n n0):=Lib.hid (hI.out.on hl (by omega) Jz);have t4:(((r:Nat):Int)==96)=false:=by rw [beq_eq_false_iff_ne];omega
     have t5:(((r:Nat):Int)==60)=false:=by rw [beq_eq_false_iff_ne];omega
     clear Jz hmh wM hrd hbyte iD hI T9 aP rb r93 r91 hl;go_wp2_with fail;refine (q2 _).mono ?_;rintro e w2 ⟨rfl,hb2⟩;have k2:=Lib.hid (hk.out.call hb2);obtain ⟨hlt2,d2,d3⟩:=hcl.out.out _ _ _ _ _ k2.out;have hmap:=Lib.hid k2.out.map;clear hb2 q2 c2 c3 hlt;go_wp2_with (at_lookup;refine wpList_lookup_own_ok_int _ rfl _ _ 212 rfl 3 3 .i64 dO Tryz.underlying212 Tryz.underlying3 (fU _) gm n D rfl hmap.out _ _ rfl hkey ?_;intro c hat hwc;rw [hkn];replace hat:=Lib.hid hat;clear hwc)
     go_roundw
     case rel=>exact ⟨nx,l,n,D,by omega,rfl,k2,hn2⟩
     case measure=>simp [intOf];omega
  ·have hl:l≠[]:=fun e=>by have:=(hI.out.nil e).1;omega
   have hpos:=List.length_pos_iff.2 hl;have xH:=hI.out.head hl;have rH:=hI.out.cnt;have rG:=hI.out.len;have hown:=hk.out.own;obtain ⟨g,cp,rfl,XL,hBg,JZ⟩:=gU hown hpos;have hout:=Lib.hid (fun k a ha=>hI.out.op.out (by omega:s.length≤i) (k:=k) (a:=a) ha);have nO:=Lib.hid hI.out.ends;obtain ⟨N,hN⟩:∃ N,N=l.length:=⟨_,rfl⟩
   rw [← hN] at hpos rH XL hk rG ⊢;replace xH:=Lib.hid xH;replace aP:=Lib.hid aP;replace hcl:=Lib.hid hcl;have hkk:=hk;replace hN:=Lib.hid hN;clear hown hI hl T9 o9;go_wp2_with fail
   go_loopw [85] (fun u wx=>∃ (j n':Nat) (D':DataW Unit),j≤N∧u=.int .i64 (j:Int)∧Hid (Sk w wx B m gm n' D' (.slice (some ⟨g,0,none⟩) N cp) l)∧Hid (j3 s D')∧Hid (0<j→Maps.has D' (.int .i64 (i0:Int))=true)∧n'+(N-j)≤n0+s.length+1) (fun u _=>N-(intOf u).toNat)
   case atStart=>exact ⟨0,n,D,by omega,rfl,hkk,nO,Lib.hid (fun h=>by omega),by omega⟩
   case round =>
    obtain ⟨j,n',D',hj,rfl,hkj,Z6,hhj,hnj⟩:=hrel;clear hk hkk nO c2 c3 hlt
    by_cases hjN:j<N
    ·obtain ⟨a,haj⟩:∃ a,l[j]? = some a:=⟨_,List.getElem?_eq_getElem (by rw [← hN.out];exact hjN)⟩
     obtain ⟨o1,o2,o3⟩:=hout.out j a haj;obtain ⟨hlt3,c2,c3⟩:=hcl.out.out _ _ _ _ _ hkj.out;have hown:=hkj.out.own;rw [← hN.out] at hown;have cj:wr.cell? ⟨g,j,none⟩=some (.int .i64 (a:Int)):=aN hown (by rw [aC,List.getElem?_map,haj];rfl);have hput:=Lib.hid (Z6.out.put hkj.out.isMap o1 o2 o3);have hhas:Hid (Maps.has (D'.put (.int .i64 (a:Int)) (.lit (.int .i64 (s.length:Int)))) (.int .i64 (i0:Int))=true):=Lib.hid (by
      rcases Nat.eq_zero_or_pos j with h0 | h0
      ·rw [h0] at haj
       have:a=i0:=by have h9:=haj.symm.trans xH.out;injection h9
       rw [this];exact has_put_same hkj.out.isMap (sE _) _
      ·by_cases ha:i0=a
       ·rw [ha];exact has_put_same hkj.out.isMap (sE _) _
       ·rw [has_put_other (fun e=>ha (by injection e with _ e;omega))]
        exact hhj.out h0)
     have ha4:a≤4000000:=by omega
     replace haj:=Lib.hid haj;clear o1 o3 hown;go_upto_region 20 with fail
     refine aF (.rd 0 (.rd 1 (.rd 2 (.rd 3 (.rd 4 (.rd 5 (.rd 6 (.rd 7 (.rd 8 (.rd 9 (.mk 10 .fin))))))))))) (fun u:World=>u.cell? ⟨bR,3,none⟩=some (.map (some gm))∧u.cell? ⟨bR,2,none⟩=some (.string (bs s))) ⟨c3,c2⟩ (by kernel_rfl) (by kernel_rfl) (by kernel_rfl) (fun _ _ d _ _ h=>by cases d<;>exact h) ?_
     iterate 3 (first | refine an rfl ?_ | (refine az rfl ?_;intro K hK;go_simp;refine hK _ _ _ ?_;clear hK K))
     refine aJ (.map (some gm)) rfl rfl ⟨c3,c2⟩ (fun u hu=>by obtain ⟨u1,u2⟩:=hu;go_simp) ?_
     iterate 4 (first | refine an rfl ?_ | (refine az rfl ?_;intro K hK;go_simp;refine hK _ _ _ ?_;clear hK K))
     refine aJ (.string (bs s)) rfl rfl ⟨c3,c2⟩ (fun u hu=>by obtain ⟨u1,u2⟩:=hu;go_simp) ?_
     (first | refine an rfl ?_ | (refine az rfl ?_;intro K hK;go_simp;refine hK _ _ _ ?_;clear hK K))
     refine zw rfl rfl (.tmp 92) (.tmp 93) (.tmp 98) rfl rfl hkj.out.drew.map (by omega) (p:=a) (c:=s.length) (by omega) (by omega) rfl rfl ?_;intro w5 Sm zS;have k5:=hkj.out.drew.put zS Sm;obtain ⟨UM,g2,g3⟩:=hcl.out.out _ _ _ _ _ k5;refine ⟨⟨g3,g2⟩,?_⟩;refine aQ ?_;replace k5:=Lib.hid k5;clear Sm zS UM g2 g3 hkj c2 c3 cj hlt3;go_wp2_with fail
     go_roundw
     case rel=>exact ⟨j+1,n'+1,_,by omega,by go_num,k5,hput,Lib.hid (fun _=>hhas.out),by omega⟩
     case measure=>simp [intOf];omega
    ·have hT:=Lib.hid (aP.out.out _ _ _ _ _ hkj.out)
     have hhas:=Lib.hid (hhj.out (by omega));have hbd:Hid (n'≤n0+s.length+1):=Lib.hid (by omega);go_wp2_with fail;go_end0;exact ⟨rfl,n',D',hT.out,Z6.out,hhas.out,hbd.out⟩
section
variable {w w':World}{B bR:Nat}{s:List UInt8}{link:Bool}{st:Il.Sc}{gm nm:Nat}{D:DataW Unit}{vr vF:Value}{rs:List Il.Rw}{V:List V3}{i mk:Nat}
theorem abp:aA (rR bR gm nm s link D vr vF st.runs) 3 4 5 vF rs V (0,0)=some (.blk bR (D3 s link gm vr vF) 221):=by
 unfold aA rR;rw [if_neg (by simp),if_neg (by simp),if_neg (by simp),if_pos rfl]
theorem Qc:aA (rR bR gm nm s link D vr vF st.runs) 3 4 5 vF rs V (2,0)=some (.map gm nm D):=by
 unfold aA rR;rw [if_neg (by simp),if_neg (by simp),if_neg (by simp),if_neg (by simp),if_neg (by simp),if_pos rfl]
theorem abT:aA (rR bR gm nm s link D vr vF st.runs) 3 4 5 vF rs V (6,0)=none:=by
 unfold aA rR;rw [if_neg (by simp),if_neg (by simp),if_neg (by simp),if_neg (by simp),if_neg (by simp),if_neg (by simp)]
theorem SC (n':Nat) (D':DataW Unit):uq (aA (rR bR gm nm s link D vr vF st.runs) 3 4 5 vF rs V) (2,0) (.map gm n' D')=aA (rR bR gm n' s link D' vr vF st.runs) 3 4 5 vF rs V:=by
 funext q
 unfold uq
 by_cases h:q=(2,0)
 ·subst h;rw [if_pos rfl,Qc]
 ·rw [if_neg h];unfold aA rR;rw [if_neg h,if_neg h]
theorem RD.Xp (h:RD w B bR s link st gm nm D vr vF rs V) {n':Nat}{D':DataW Unit}(t:b7 B (aA (rR bR gm nm s link D vr vF st.runs) 3 4 5 vF rs V) w (uq (aA (rR bR gm nm s link D vr vF st.runs) 3 4 5 vF rs V) (2,0) (.map gm n' D')) w') (he:j3 s D'):RD w' B bR s link st gm n' D' vr vF rs V:=by
 rw [SC] at t;exact ⟨h.rw.along t,h.rel,he⟩
theorem RD.map (h:RD w B bR s link st gm nm D vr vF rs V):nE w gm nm D:=(h.rw.hp.holds _ _ Qc).2
theorem SR {c:Nat}(hc:closing s i=c) (_:i<s.length):(c<s.length→KB (Lk.close s (i:Int))=.tuple #[.int .i64 (c:Int),.bool true])∧(¬ c<s.length→KB (Lk.close s (i:Int))=.tuple #[.int .i64 0,.bool false]):=by
 unfold closing at hc;cases h:Lk.close s (i:Int) with
 | none =>
  rw [h] at hc;simp only [Option.getD_none] at hc;exact ⟨fun e=>by omega,fun _=>rfl⟩
 | some j =>
  rw [h] at hc;simp only [Option.getD_some] at hc;subst hc;have:j<s.length:=by
   unfold Lk.close at h
   split at h
   ·exact (Il.dZ _ _ _ _ h).2
   ·cases h
  exact ⟨fun _=>rfl,fun e=>absurd this e⟩
theorem YD (h:bP w B bR s false st i mk) (hi:i<s.length) (o9:s[i]=91) (hs:s.length≤4000000) (hmk:mk≤100000000000000) :
  Calls Tryz.prog 222 #[.pointer (some ⟨bR,2,none⟩),.int .i64 (i:Int)] w (rK w B bR s st i (mk+s.length+1)):=by
 obtain ⟨hB,gm,nm,D,vr,vF,rs,V,hR,hw,hnm⟩:=h;have hsz:=au s;have hkey:=TQ (n:=i) (by omega);have hclose:closing s i≤s.length:=by
  unfold closing;cases h:Lk.close s (i:Int) with
  | none=>simp
  | some j =>
   simp only [Option.getD_some];unfold Lk.close at h
   split at h
   ·exact Nat.le_of_lt (Il.dZ _ _ _ _ h).2
   ·cases h
 obtain ⟨C,hC⟩:∃ C,C=closing s i:=⟨_,rfl⟩
 rw [← hC] at hclose;obtain ⟨t1,t2⟩:=SR hC.symm hi;obtain ⟨R,hRv⟩:∃ R,R=KB (Lk.close s (i:Int)):=⟨_,rfl⟩
 rw [← hRv] at t1 t2;unfold rK;rw [← hRv];clear hRv;obtain ⟨f0,f1,f2,f3,f4,f5,f6⟩:=hR.cells;have hat:∀ (D':DataW Unit),j3 s D'→Maps.has D' (.int .i64 (i:Int))=true→∀ c:Int,D'.atKey (.int .i64 (i:Int)) (.lit (.int .i64 0))=.lit (.int .i64 c)→c=(C:Int):=fun D' he hh c hc=>by
  have h9:=hc.symm.trans (he i hh).2;rw [hC];injection h9 with h9;injection h9
 have aP:=Lib.hid (fun (w':World) (n':Nat) (D':DataW Unit) (h':RD w' B bR s false st gm n' D' vr vF rs V) (hb:B≤w'.heap.size) (hn:n'≤mk+s.length+1)=>(show bP w' B bR s false st i (mk+s.length+1) from ⟨hb,gm,n',D',vr,vF,rs,V,h',hw,hn⟩));obtain ⟨kn,hkn⟩:∃ kn,Maps.has D (.int .i64 (i:Int))=kn:=⟨_,rfl⟩
 replace t1:=Lib.hid t1;replace t2:=Lib.hid t2;cases kn with
 | true =>
  have nO:=hR.ends;have hcc:=Lib.hid (hat D nO hkn);have hmap:=Lib.hid hR.map;have hres:=Lib.hid (aP.out w nm D hR hB (by omega));clear hR hat nO
  by_cases hcs:C<s.length
  ·obtain rfl:=t1.out hcs
   clear t1 t2;go_enter Tryz.func222,Tryz.ntmps222;go_wp2_with (at_lookup;first | (refine wpList_lookup_own_ok_int _ rfl _ _ 212 rfl 3 3 .i64 dO Tryz.underlying212 Tryz.underlying3 (fU _) gm nm D rfl hmap.out _ _ rfl hkey ?_;intro c0 mM KD;rw [hkn];clear mM KD) | (refine wpList_lookup_own_int _ rfl _ _ 212 rfl 3 3 .i64 dO Tryz.underlying212 Tryz.underlying3 (fU _) gm nm D rfl hmap.out _ _ rfl hkey ?_;intro c mM hwc;have hc:=hcc.out c mM;have hc0:0≤c:=(by omega);have hc1:c≤4000000:=(by omega);have hlt:c<(s.length:Int):=(by omega);replace hc:=Lib.hid hc;clear mM hwc));go_ret2;exact ⟨by rw [hc.out];rfl,hres.out,Below.refl _ _⟩
  ·obtain rfl:=t2.out hcs
   clear t1 t2;go_enter Tryz.func222,Tryz.ntmps222;go_wp2_with (at_lookup;first | (refine wpList_lookup_own_ok_int _ rfl _ _ 212 rfl 3 3 .i64 dO Tryz.underlying212 Tryz.underlying3 (fU _) gm nm D rfl hmap.out _ _ rfl hkey ?_;intro c0 mM KD;rw [hkn];clear mM KD) | (refine wpList_lookup_own_int _ rfl _ _ 212 rfl 3 3 .i64 dO Tryz.underlying212 Tryz.underlying3 (fU _) gm nm D rfl hmap.out _ _ rfl hkey ?_;intro c mM hwc;have hc:=hcc.out c mM;have hc0:0≤c:=(by omega);have hc1:c≤4000000:=(by omega);have hlt:¬ (c<(s.length:Int)):=(by omega);replace hc:=Lib.hid hc;clear mM hwc));go_ret2;exact ⟨by rfl,hres.out,Below.refl _ _⟩
 | false =>
  have hsk:=Lib.hid (Nq hR.rw.hp hB abp rfl rfl Qc abT hR.ends hi o9 hkn (by omega) hs);have hmap:=Lib.hid hR.map;replace hR:=Lib.hid hR;replace hat:=Lib.hid hat
  by_cases hcs:C<s.length
  ·obtain rfl:=t1.out hcs
   clear t1 t2;go_enter Tryz.func222,Tryz.ntmps222;go_wp2_with (at_lookup;(refine wpList_lookup_own_ok_int _ rfl _ _ 212 rfl 3 3 .i64 dO Tryz.underlying212 Tryz.underlying3 (fU _) gm nm D rfl hmap.out _ _ rfl hkey ?_;intro c0 mM KD;rw [hkn];clear mM KD));refine hsk.out.mono ?_;rintro e w1 ⟨rfl,n',D',hT,he',hh',hn'⟩;have hR1:=hR.out.Xp hT he';obtain ⟨c0,c1,c2,c3,c4,c5,c6⟩:=hR1.cells;have hB1:=Nat.le_trans hB hT.bel.size;have hres:=Lib.hid (aP.out w1 n' D' hR1 hB1 (by omega));have hbel:=Lib.hid hT.bel;have hcc:=Lib.hid (hat.out D' he' hh');have RF:=Lib.hid hR1.map;clear hT he' hh' hn' hR1 hsk hR hmap f0 f1 f2 f3 f4 f5 f6;go_wp2_with (at_lookup;(refine wpList_lookup_own_int _ rfl _ _ 212 rfl 3 3 .i64 dO Tryz.underlying212 Tryz.underlying3 (fU _) gm n' D' rfl RF.out _ _ rfl hkey ?_;intro c mM hwc;have hc:=hcc.out c mM;have hc0:0≤c:=(by omega);have hc1:c≤4000000:=(by omega);have hlt:c<(s.length:Int):=(by omega);replace hc:=Lib.hid hc;clear mM hwc));go_ret2;exact ⟨by rw [hc.out];rfl,hres.out,hbel.out⟩
  ·obtain rfl:=t2.out hcs
   clear t1 t2;go_enter Tryz.func222,Tryz.ntmps222;go_wp2_with (at_lookup;(refine wpList_lookup_own_ok_int _ rfl _ _ 212 rfl 3 3 .i64 dO Tryz.underlying212 Tryz.underlying3 (fU _) gm nm D rfl hmap.out _ _ rfl hkey ?_;intro c0 mM KD;rw [hkn];clear mM KD));refine hsk.out.mono ?_;rintro e w1 ⟨rfl,n',D',hT,he',hh',hn'⟩;have hR1:=hR.out.Xp hT he';obtain ⟨c0,c1,c2,c3,c4,c5,c6⟩:=hR1.cells;have hB1:=Nat.le_trans hB hT.bel.size;have hres:=Lib.hid (aP.out w1 n' D' hR1 hB1 (by omega));have hbel:=Lib.hid hT.bel;have hcc:=Lib.hid (hat.out D' he' hh');have RF:=Lib.hid hR1.map;clear hT he' hh' hn' hR1 hsk hR hmap f0 f1 f2 f3 f4 f5 f6;go_wp2_with (at_lookup;(refine wpList_lookup_own_int _ rfl _ _ 212 rfl 3 3 .i64 dO Tryz.underlying212 Tryz.underlying3 (fU _) gm n' D' rfl RF.out _ _ rfl hkey ?_;intro c mM hwc;have hc:=hcc.out c mM;have hc0:0≤c:=(by omega);have hc1:c≤4000000:=(by omega);have hlt:¬ (c<(s.length:Int)):=(by omega);replace hc:=Lib.hid hc;clear mM hwc));go_ret2;exact ⟨by rfl,hres.out,hbel.out⟩
end
section
variable {w w':World}{B bR:Nat}{s:List UInt8}{link:Bool}{st:Il.Sc}{gm nm:Nat}{D:DataW Unit}{vr vF:Value}{rs:List Il.Rw}{V:List V3}{i mk:Nat}
theorem UC (h:bP w B bR s link st i mk) (ok:Il.fF st i) (hi:i<s.length) (hs:s.length≤4000000) (hT:Tabs w) (hc:Em.kind s (i:Int)=none) :
  Calls Tryz.prog 196 #[.pointer (some ⟨bR,0,none⟩),.int .i64 (i:Int)] w fun e w'=>e=.returned (.int .i64 ((Es.next s i).2.1:Int)) ∧
   bP w' B bR s link ⟨Il.fL st.l (Lib.encodeRune ((Es.next s i).1:Int)),st.runs⟩ (Es.next s i).2.1 mk∧Below B w w':=by
 have DQ:=Lib.hid (Bb s (i:Int) (by omega) w hT);rw [hc] at DQ;unfold tf at DQ;have hpl:=Lib.hid (fun (w1:World) (hr:bP w1 B bR s link st i mk)=>ld hr ok hi hs);have wo:=Lib.hid (fun (w1:World) (hb:Below w.heap.size w w1)=>(show bP w1 B bR s link st i mk from by
  obtain ⟨hB,gm,nm,D,vr,vF,rs,V,hR,hw,hnm⟩:=h;exact ⟨Nat.le_trans hB hb.size,gm,nm,D,vr,vF,rs,V,hR.ext hB hb,hw,hnm⟩))
 obtain ⟨hB,gm,nm,D,vr,vF,rs,V,hR,hw,hnm⟩:=h;obtain ⟨f0,f1,f2,f3,f4,f5,f6⟩:=hR.cells;clear hR hw hnm;obtain ⟨en,hen⟩:∃ en,en=Es.next s i:=⟨_,rfl⟩
 rw [← hen] at hpl ⊢;clear hen;go_enter Tryz.func196,Tryz.ntmps196;go_wp2_with fail;refine DQ.out.mono ?_;rintro e w1 ⟨rfl,hb1⟩;have FD:=Lib.hid hb1;clear f0 f1 f2 f3 f4 f5 f6 DQ hb1;go_wp2_with fail;refine (hpl.out _ (wo.out _ (ag FD.out (aa _ _)))).mono ?_;rintro e w2 ⟨rfl,hr2,hb2⟩;have hb:=Lib.hid ((ag FD.out (aa _ _)).mono hB |>.trans hb2);replace hr2:=Lib.hid hr2;clear hpl wo hb2;go_wp2;go_ret;exact ⟨rfl,hr2.out,hb.out⟩
end
theorem KW:EI Tryz.prog 219 240 4 24:=EI.mk' Tryz.underlying219 (z:=.agg #[.int .u8 0,.int .i64 0,.bool false,.bool false]) (by kernel_rfl) rfl (by omega)
theorem heap_setCell_other (w:World) (a:Addr) (k:Nat) (u:Value) (h:a.block≠k):(w.setCell a u).heap[k]? = w.heap[k]? := Below.heap_setCell w a u k (fun e=>h e.symm)
section
variable {w w':World}{B bR:Nat}{s:List UInt8}{link:Bool}{st:Il.Sc}{gm nm:Nat}{D:DataW Unit}{vr vF:Value}{rs:List Il.Rw}{V:List V3}{i mk:Nat}
theorem Uq (h:bP w B bR s link st i mk) (ok:Il.fF st i) (hi:i<s.length) (hs:s.length≤4000000) (hT:Tabs w) {x:Em.R}{n:Nat}(hc:Em.kind s (i:Int)=some (x,n)) (hn:i<n) :
  Calls Tryz.prog 196 #[.pointer (some ⟨bR,0,none⟩),.int .i64 (i:Int)] w fun e w'=>e=.returned (.int .i64 (n:Int)) ∧
   bP w' B bR s link ⟨st.l++[⟨Il.none_,some st.runs.length,x.n.toNat,x.ch⟩],st.runs++[x]⟩ n mk∧Below B w w':=by
 have DQ:=Lib.hid (Bb s (i:Int) (by omega) w hT);rw [hc] at DQ;unfold tf yh at DQ;obtain ⟨hB,gm,nm,D,vr,vF,rs,V,hR,hw,hnm⟩:=h;have hl1:=bP.mw ok (by omega) hs hR;have hrl:=ok.rlen;obtain ⟨f0,f1,f2,f3,f4,f5,f6⟩:=hR.cells;have hrel:=Il.VH hR.rel ok.cV x;have nO:=hR.ends;have wo:=Lib.hid (fun (w1:World) (hb:Below w.heap.size w w1)=>(show RS w1 B (kY bR gm nm s link D vr vF vr st.runs) 3 4 5 vF rs V from (hR.ext hB hb).rw));replace hR:=Lib.hid hR;go_enter Tryz.func196,Tryz.ntmps196;go_wp2_with fail;refine DQ.out.mono ?_;rintro e w1 ⟨rfl,hb1⟩;have hz1:=hb1.size;obtain ⟨W1,hW1⟩:∃ W1,W1=w1.alloc (.cells #[.int .u8 (x.ch.toNat:Int),.int .i64 x.n,.bool x.o,.bool x.c] 240):=⟨_,rfl⟩
 obtain ⟨gx,hgx⟩:∃ gx,gx=w1.heap.size:=⟨_,rfl⟩
 have hbW:Below w.heap.size w W1:=by rw [hW1];exact ag hb1 (aa _ _)
 have h1:=Lib.hid (wo.out _ hbW);have hB1:=Nat.le_trans hB hbW.size;have Z2:W1.heap[gx]? = some (.cells #[.int .u8 (x.ch.toNat:Int),.int .i64 x.n,.bool x.o,.bool x.c] 240 (0,0)):=by rw [hW1,hgx];exact heap_alloc_new _ _
 have aaT:gx<W1.heap.size:=by rw [hW1,hgx];simp
 have hrow:=h1.out.LO;have EC:=(wo.out _ hb1).LO;have aar:some gx≠vr.ownBlock:=fun e=>by have:=(World.ownsRow.lt EC gx e.symm).2;omega
 have adX:gx≠bR:=by have:=(wo.out _ hb1).Rz.2.2;omega
 have XA:bR≠gx:=Ne.symm adX;obtain ⟨d4,d5,df⟩:=h1.out.oK;have hS:(fun u:World=>u.heap[gx]? = some (.cells #[.int .u8 (x.ch.toNat:Int),.int .i64 x.n,.bool x.o,.bool x.c] 240 (0,0))) W1.drew:=Z2;have hS1:(fun u:World=>u.heap[gx]? = some (.cells #[.int .u8 (x.ch.toNat:Int),.int .i64 x.n,.bool x.o,.bool x.c] 240 (0,0))) (W1.drew.alloc (.cells #[.int .u8 (x.ch.toNat:Int),.int .i64 x.n,.bool x.o,.bool x.c] 240)):=(keep (w:=W1.drew) Z2 (aa W1.drew _)).1;have aP:=Lib.hid (fun (vr':Value) (u:World) (hu:RS u B (kY bR gm nm s link D vr' vF vr' (st.runs++[x])) 3 4 5 vF rs V) (hb:Below B W1 u)=>(hbW.mono hB).trans hb);clear f0 f1 f2 f3 f4 f5 f6 DQ hb1 wo EC;go_upto_region 4 with fail
 rw [← hgx,← hW1];have adO:bR<W1.heap.size:=h1.out.Rz.2.2;clear hgx hW1 aP;refine aF (.rd 0 (.rd 1 (.rd 2 (.rd 3 (.rd 5 (.fk 4 (.mk 6 (.mk 7 (.rd 8 (.rd 9 (.mk 10 .fin))))) 6 (.mk 4 (.mk 7 (.rd 8 (.rd 9 (.mk 10 .fin))))))))))) (fun u:World=>u.heap[gx]? = some (.cells #[.int .u8 (x.ch.toNat:Int),.int .i64 x.n,.bool x.o,.bool x.c] 240 (0,0))) hS (by kernel_rfl) (by kernel_rfl) (by kernel_rfl) (fun _ _ d _ _ h=>by cases d<;>exact h) ?_
 iterate 4 (first | refine an rfl ?_ | (refine az rfl ?_;intro K hK;go_simp;refine hK _ _ _ ?_;clear hK K))
 refine aJ (.agg #[.int .u8 (x.ch.toNat:Int),.int .i64 x.n,.bool x.o,.bool x.c]) rfl rfl hS (fun u hu=>by
  have h1:u.cell? ⟨gx,0,none⟩=some (.int .u8 (x.ch.toNat:Int)):=ah (j:=0) hu;have h2:u.cell? ⟨gx,1,none⟩=some (.int .i64 x.n):=ah (j:=1) hu;have h3:u.cell? ⟨gx,2,none⟩=some (.bool x.o):=ah (j:=2) hu;have h4:u.cell? ⟨gx,3,none⟩=some (.bool x.c):=ah (j:=3) hu;go_simp) ?_
 refine jh ?wa ?wb
 case' wa =>
  refine aE rfl ?_;intro K hK;go_simp;refine ⟨_,hS,fun _ h=>h,hK _ _ _ ?_⟩;clear hK K;refine aE rfl ?_;intro K hK;go_simp;refine ⟨_,hS1,fun _ h=>h,hK _ _ _ ?_⟩;clear hK K;refine mP rfl rfl (.tmp 27) (.tmp 29) rfl KW (v:=vr) rfl (hrow.drew.alloc _) rfl (Row.kT W1.drew 240 _ rfl rfl) (by intro u hu;simp at hu;rcases hu with rfl | rfl | rfl | rfl<;>rfl) (by omega) (by omega) (by simp;omega) ?_;intro v' w' ho hg hb hat;have mh:W1.grownBy w' vr.ownBlock:=jL (w0:=W1) (grown_drew hg.out);obtain ⟨h2,hb2⟩:=h1.out.RY hB1 mh ho (Dh (w:=W1) hat.out);obtain ⟨g',c',rfl,hc',J1,IV⟩:=gU ho (by omega);have iU:(fun u:World=>u.heap[gx]? = some (.cells #[.int .u8 (x.ch.toNat:Int),.int .i64 x.n,.bool x.o,.bool x.c] 240 (0,0))) w':=(mh.block gx aaT aar).trans Z2;refine ⟨_,iU,fun _ h=>h,?_⟩
  iterate 2 (first | refine an rfl ?_ | (refine az rfl ?_;intro K hK;go_simp;refine hK _ _ _ ?_;clear hK K))
  obtain ⟨k4,k5,kf⟩:=h2.oK;have hB2:=Nat.le_trans hB1 hb2.size;obtain ⟨h3,hb3⟩:=h2.XC hB2 (.slice (some ⟨g',0,none⟩) (st.runs.length+1) c');have fG:(fun u:World=>u.heap[gx]? = some (.cells #[.int .u8 (x.ch.toNat:Int),.int .i64 x.n,.bool x.o,.bool x.c] 240 (0,0))) (w'.setCell ⟨bR,4,none⟩ (.slice (some ⟨g',0,none⟩) (st.runs.length+1) c')):=(heap_setCell_other w' ⟨bR,4,none⟩ gx _ XA).trans iU;refine bw rfl rfl (eX rfl (by kernel_rfl) rfl rfl k4 kf) fG ?_;refine aQ ?_;have jy:=Nat.le_trans hB2 hb3.size;have hbel:=Lib.hid (((hbW.mono hB).trans hb2).trans hb3);clear fG iU hS hS1 k4 k5 kf d4 d5 df ho hg hb hat mh h2 hc' J1 IV hrow Z2 hb2 hb3 h1 hbW;generalize World.setCell _ _ _=W3 at *;obtain ⟨z4,z5,zf⟩:=h3.oK;have harr:=h3.arr;have hgrow:=Lib.hid (fun (v5:Value) (w5:World) (hg:W3.grownBy w5 vF.ownBlock) ho hat=>h3.grow (w':=w5) (v':=v5) (j:=1) jy hg ho hat);replace h3:=Lib.hid h3;replace hrel:=Lib.hid hrel;replace nO:=Lib.hid nO;go_wp2_with (at_builtin;refine bE rfl (.tmp 37) (.tmp 39) rfl IX rfl harr rfl (by first | rfl | simp) rfl (by intro u hu;simp at hu;rcases hu with rfl | rfl<;>rfl) (by omega) (by omega) jy ?_;intro v5 w5 Sm zS hb5 Yg;obtain ⟨A5,c5,rfl,hc5⟩:=ak Sm;obtain ⟨h5,T5⟩:=hgrow.out _ _ zS.out Sm Yg.out;obtain ⟨y4,y5,yf⟩:=h5.oK);have D9:=Nat.le_trans jy T5.bel.size;obtain ⟨h6,b6⟩:=h5.Xo D9 (.slice A5 (rs.length+1) c5);have hb:=(hbel.out.trans T5.bel).trans b6;go_ret;exact ⟨rfl,⟨Nat.le_trans hB hb.size,gm,nm,D,_,_,_,_,⟨h6,hrel.out,nO.out⟩,by rw [Il.eS];show _+0≤_;omega,by omega⟩,hb⟩
 case' wb =>
  refine aE rfl ?_;intro K hK;go_simp;refine ⟨_,hS1,fun _ h=>h,hK _ _ _ ?_⟩;clear hK K;have d4':=(World.cell?_alloc_lt W1.drew (.cells #[.int .u8 (x.ch.toNat:Int),.int .i64 x.n,.bool x.o,.bool x.c] 240) ⟨bR,4,none⟩ adO).trans d4;refine aE rfl ?_;intro K hK;go_simp;refine ⟨_,hS1,fun _ h=>h,hK _ _ _ ?_⟩;clear hK K;refine mP rfl rfl (.tmp 27) (.tmp 29) rfl KW (v:=vr) rfl (hrow.drew.alloc _) rfl (Row.kT W1.drew 240 _ rfl rfl) (by intro u hu;simp at hu;rcases hu with rfl | rfl | rfl | rfl<;>rfl) (by omega) (by omega) (by simp;omega) ?_;intro v' w' ho hg hb hat;have mh:W1.grownBy w' vr.ownBlock:=jL (w0:=W1) (grown_drew hg.out);obtain ⟨h2,hb2⟩:=h1.out.RY hB1 mh ho (Dh (w:=W1) hat.out);obtain ⟨g',c',rfl,hc',J1,IV⟩:=gU ho (by omega);have iU:(fun u:World=>u.heap[gx]? = some (.cells #[.int .u8 (x.ch.toNat:Int),.int .i64 x.n,.bool x.o,.bool x.c] 240 (0,0))) w':=(mh.block gx aaT aar).trans Z2;refine ⟨_,iU,fun _ h=>h,?_⟩
  iterate 2 (first | refine an rfl ?_ | (refine az rfl ?_;intro K hK;go_simp;refine hK _ _ _ ?_;clear hK K))
  obtain ⟨k4,k5,kf⟩:=h2.oK;have hB2:=Nat.le_trans hB1 hb2.size;obtain ⟨h3,hb3⟩:=h2.XC hB2 (.slice (some ⟨g',0,none⟩) (st.runs.length+1) c');have fG:(fun u:World=>u.heap[gx]? = some (.cells #[.int .u8 (x.ch.toNat:Int),.int .i64 x.n,.bool x.o,.bool x.c] 240 (0,0))) (w'.setCell ⟨bR,4,none⟩ (.slice (some ⟨g',0,none⟩) (st.runs.length+1) c')):=(heap_setCell_other w' ⟨bR,4,none⟩ gx _ XA).trans iU;refine bw rfl rfl (eX rfl (by kernel_rfl) rfl rfl k4 kf) fG ?_;refine aQ ?_;have jy:=Nat.le_trans hB2 hb3.size;have hbel:=Lib.hid (((hbW.mono hB).trans hb2).trans hb3);clear fG iU hS hS1 k4 k5 kf d4 d5 df ho hg hb hat mh h2 hc' J1 IV hrow Z2 hb2 hb3 h1 hbW;generalize World.setCell _ _ _=W3 at *;obtain ⟨z4,z5,zf⟩:=h3.oK;have harr:=h3.arr;have hgrow:=Lib.hid (fun (v5:Value) (w5:World) (hg:W3.grownBy w5 vF.ownBlock) ho hat=>h3.grow (w':=w5) (v':=v5) (j:=1) jy hg ho hat);replace h3:=Lib.hid h3;replace hrel:=Lib.hid hrel;replace nO:=Lib.hid nO;go_wp2_with (at_builtin;refine bE rfl (.tmp 37) (.tmp 39) rfl IX rfl harr rfl (by first | rfl | simp) rfl (by intro u hu;simp at hu;rcases hu with rfl | rfl<;>rfl) (by omega) (by omega) jy ?_;intro v5 w5 Sm zS hb5 Yg;obtain ⟨A5,c5,rfl,hc5⟩:=ak Sm;obtain ⟨h5,T5⟩:=hgrow.out _ _ zS.out Sm Yg.out;obtain ⟨y4,y5,yf⟩:=h5.oK);have D9:=Nat.le_trans jy T5.bel.size;obtain ⟨h6,b6⟩:=h5.Xo D9 (.slice A5 (rs.length+1) c5);have hb:=(hbel.out.trans T5.bel).trans b6;go_ret;exact ⟨rfl,⟨Nat.le_trans hB hb.size,gm,nm,D,_,_,_,_,⟨h6,hrel.out,nO.out⟩,by rw [Il.eS];show _+0≤_;omega,by omega⟩,hb⟩
end
def PIn (link:Bool) (f:List UInt8→List Il.In):Prop:=∀ (s:List UInt8) (w:World),s.length≤4000000→Tabs w→Calls Tryz.prog 139 #[.string (bs s),.bool link] w fun e w' =>
 (∃ v,e=.returned v∧∃ css,w'.ownsRow w.heap.size 35 4 v (f s).length css.flatten∧iq w' (fun b=>w.heap.size≤b∧b<w'.heap.size) (f s) css)∧Below w.heap.size w w'
section
variable {w w':World}{B bR:Nat}{s:List UInt8}{link:Bool}{st:Il.Sc}{gm nm:Nat}{D:DataW Unit}{vr vF:Value}{rs:List Il.Rw}{V:List V3}{i mk mk':Nat}
theorem RN (h:bP w B bR s false st i mk) (ok:Il.fF st i) (hi:i<s.length) (hs:s.length≤4000000) (hT:∀ u,Below B w u→Tabs u) {inner:List UInt8→List Il.In}(hP:PIn true inner) {j n:Nat}{d:List UInt8}(hc:Lk.close s (i:Int)=some j) (hij:i<j) (hj:j<s.length) (hd:Lk.dest s ((j:Int)+1)=some (d,n)) (hn:j<n)
  (hE:Calls Tryz.prog 222 #[.pointer (some ⟨bR,2,none⟩),.int .i64 (i:Int)] w (rK w B bR s st i mk')) :
  Calls Tryz.prog 195 #[.pointer (some ⟨bR,0,none⟩),.int .i64 (i:Int)] w fun e w'=>e=.returned (.int .i64 (n:Int)) ∧
   bP w' B bR s false ⟨st.l++[⟨.mk 4 [] d (inner (mid s (i+1) j)),none,0,0⟩],st.runs⟩ n mk'∧Below B w w':=by
 unfold rK at hE;rw [hc] at hE;unfold KB at hE;replace hE:=Lib.hid hE;have hds:=Lib.hid (fun w=>Ce s ((j:Int)+1) (by omega) w);rw [hd] at hds;unfold gq at hds;obtain ⟨f0,f1,f2⟩:=h.cells;have hB:=h.size;clear h;have hml:=ep (l:=s) (lo:=i+1) (hi:=j) (by omega);have hmid:∀ w:World,(Instr.slice 9 (.string (bs s)) (some (.int .i64 ((i:Int)+1))) (some (.int .i64 (j:Int))) none).run Tryz.prog w=.ok (.string (bs (mid s (i+1) j))) w:=by
  intro w;have:=wT (S:=s) (i:=i+1) (j:=j) (by omega) (by omega) w;rwa [show ((i+1:Nat):Int)=(i:Int)+1 by omega] at this
 obtain ⟨T,hTm⟩:∃ T,T=mid s (i+1) j:=⟨_,rfl⟩
 rw [← hTm] at hmid hml ⊢;clear hTm;have hpar:=Lib.hid (fun w h=>hP T w (by omega) h);obtain ⟨ks,hks⟩:∃ ks,ks=inner T:=⟨_,rfl⟩
 rw [← hks] at hpar ⊢;clear hks hP;replace hT:=Lib.hid hT;go_enter Tryz.func195,Tryz.ntmps195;go_wp2_with fail;refine hE.out.mono ?_;rintro e w1 ⟨rfl,hr1,hb1⟩;obtain ⟨c0,c1,c2⟩:=hr1.cells;have hB1:=hr1.size;replace hr1:=Lib.hid hr1;replace hb1:=Lib.hid hb1;clear hE f0 f1 f2;go_wp2_with fail;refine (hds.out _).mono ?_;rintro e w2 ⟨rfl,hb2⟩;have hr2:=Lib.hid (hr1.out.ext hb2);obtain ⟨e0,e1,e2⟩:=hr2.out.cells;have Aq:=Lib.hid (hb1.out.trans (hb2.mono hB1));clear hb2 hds c0 c1 c2 hr1;go_wp2_with fail;refine (hpar.out _ (hT.out _ Aq.out)).mono ?_;rintro e w3 ⟨⟨v,rfl,css,Xj,qZ⟩,hb3⟩;clear hpar e0 e1 e2;obtain ⟨A,cA,rfl,hcA⟩:=ak Xj;obtain ⟨hB2,gm,nm,D,vr,vF,rs,V,hR2,hw2,agX⟩:=hr2.out;have hl1:=bP.mw ok (by omega) hs hR2;have pZ:=hR2.ext hB2 hb3;obtain ⟨f0,f1,f2,f3,f4,f5,f6⟩:=pZ.cells;obtain ⟨g,c,hv,cz⟩:=pZ.GV (by omega);replace cz:=Lib.hid cz;have jy:=Nat.le_trans hB2 hb3.size;have hnew:∀ b,(w2.heap.size≤b∧b<w3.heap.size)→Fr w3 B (aA (rR bR gm nm s false D vr vF st.runs) 3 4 5 vF rs V) b:=fun b hb=>Hq.new (w':=w3) hR2.rw.hp hB2 hb.1 hb.2;have hput:=Lib.hid (Cs pZ jy 4 (by decide) [] d ks A cA (by omega) hv (by
  unfold IC;exact ⟨A,cA,css,rfl,hcA,(j6 Xj).frame (fun _ _=>rfl) hnew,iw (fun _ _=>rfl) hnew qZ⟩))
 have hbel:=Lib.hid (Aq.out.trans (hb3.mono hB2));have hwl:=Lib.hid (wR rs (.mk 4 [] d ks));have VY:bs []=⟨#[]⟩:=rfl;replace hv:=Lib.hid hv;clear hnew hR2 pZ hr2 Xj qZ hb3 hT;go_wp2_with fail;refine (cz.out _).mono ?_;rintro e w3' ⟨rfl,rfl⟩;go_wp2_with fail;refine hput.out.mono ?_;rintro e w4 ⟨rfl,V',Pj,hb4⟩;have hb:=Lib.hid (hbel.out.trans hb4);replace Pj:=Lib.hid Pj;clear hb4 hput f0 f1 f2 f3 f4 f5 f6;go_wp2;go_ret;exact ⟨rfl,⟨Nat.le_trans hB hb.out.size,gm,nm,D,vr,_,_,V',Pj.out,by have h9:=hwl.out;simp only [Il.fK,List.length_nil] at h9;omega,by omega⟩,hb.out⟩
end
section
variable {w:World}{B bR:Nat}{s:List UInt8}{link:Bool}{st:Il.Sc}{i mk:Nat}
theorem jH {b c:UInt8}(h:b=c) {k:Int}(hk:(c.toNat:Int)=k):((b.toNat:Int)==k)=true:=by rw [h,hk];simp
theorem bz {b c:UInt8}(h:b≠c) {k:Int}(hk:(c.toNat:Int)=k):((b.toNat:Int)==k)=false:=by
 rw [← hk];have:b.toNat≠c.toNat:=fun e=>h (UInt8.toNat_inj.1 e);simp only [beq_eq_false_iff_ne,ne_eq];omega
theorem VO (h:bP w B bR s link st i mk) (hi:i<s.length) (hb:s[i]=96) {n:Nat}{G:World→Prop}
  (hc:Calls Tryz.prog 193 #[.pointer (some ⟨bR,0,none⟩),.int .i64 (i:Int)] w fun e w'=>e=.returned (.int .i64 (n:Int))∧G w') :
  Calls Tryz.prog 173 #[.pointer (some ⟨bR,0,none⟩),.int .i64 (i:Int)] w fun e w'=>e=.returned (.int .i64 (n:Int))∧G w':=by
 obtain ⟨f0,f1,f2⟩:=h.cells;have hix:=bG hi;have t96:=jH hb (k:=96) rfl;clear h;replace hc:=Lib.hid hc;generalize s[i]=ch at *;go_enter Tryz.func173,Tryz.ntmps173;go_wp2_with fail;refine hc.out.mono ?_;rintro e w1 ⟨rfl,hG⟩;replace hG:=Lib.hid hG;clear hc f0 f1 f2;go_wp2;go_ret;exact ⟨rfl,hG.out⟩
theorem WM (h:bP w B bR s link st i mk) (hi:i<s.length) (hb:s[i]=60) {n:Nat}{G:World→Prop}
  (hc:Calls Tryz.prog 194 #[.pointer (some ⟨bR,0,none⟩),.int .i64 (i:Int)] w fun e w'=>e=.returned (.int .i64 (n:Int))∧G w') :
  Calls Tryz.prog 173 #[.pointer (some ⟨bR,0,none⟩),.int .i64 (i:Int)] w fun e w'=>e=.returned (.int .i64 (n:Int))∧G w':=by
 obtain ⟨f0,f1,f2⟩:=h.cells;have hix:=bG hi;have t96:=bz (b:=s[i]) (c:=96) (by rw [hb];decide) (k:=96) rfl;have t60:=jH hb (k:=60) rfl;clear h;replace hc:=Lib.hid hc;generalize s[i]=ch at *;go_enter Tryz.func173,Tryz.ntmps173;go_wp2_with fail;refine hc.out.mono ?_;rintro e w1 ⟨rfl,hG⟩;replace hG:=Lib.hid hG;clear hc f0 f1 f2;go_wp2;go_ret;exact ⟨rfl,hG.out⟩
theorem V5 (h:bP w B bR s link st i mk) (hi:i<s.length) (hb:s[i]=91) {n:Nat}{G:World→Prop}
  (hc:Calls Tryz.prog 195 #[.pointer (some ⟨bR,0,none⟩),.int .i64 (i:Int)] w fun e w'=>e=.returned (.int .i64 (n:Int))∧G w') :
  Calls Tryz.prog 173 #[.pointer (some ⟨bR,0,none⟩),.int .i64 (i:Int)] w fun e w'=>e=.returned (.int .i64 (n:Int))∧G w':=by
 obtain ⟨f0,f1,f2⟩:=h.cells;have hix:=bG hi;have t96:=bz (b:=s[i]) (c:=96) (by rw [hb];decide) (k:=96) rfl;have t60:=bz (b:=s[i]) (c:=60) (by rw [hb];decide) (k:=60) rfl;have t91:=jH hb (k:=91) rfl;clear h;replace hc:=Lib.hid hc;generalize s[i]=ch at *;go_enter Tryz.func173,Tryz.ntmps173;go_wp2_with fail;refine hc.out.mono ?_;rintro e w1 ⟨rfl,hG⟩;replace hG:=Lib.hid hG;clear hc f0 f1 f2;go_wp2;go_ret;exact ⟨rfl,hG.out⟩
theorem Vi (h:bP w B bR s link st i mk) (hi:i<s.length) (hb:s[i]=42) {n:Nat}{G:World→Prop}
  (hc:Calls Tryz.prog 196 #[.pointer (some ⟨bR,0,none⟩),.int .i64 (i:Int)] w fun e w'=>e=.returned (.int .i64 (n:Int))∧G w') :
  Calls Tryz.prog 173 #[.pointer (some ⟨bR,0,none⟩),.int .i64 (i:Int)] w fun e w'=>e=.returned (.int .i64 (n:Int))∧G w':=by
 obtain ⟨f0,f1,f2⟩:=h.cells;have hix:=bG hi;have t96:=bz (b:=s[i]) (c:=96) (by rw [hb];decide) (k:=96) rfl;have t60:=bz (b:=s[i]) (c:=60) (by rw [hb];decide) (k:=60) rfl;have t91:=bz (b:=s[i]) (c:=91) (by rw [hb];decide) (k:=91) rfl;have t42:=jH hb (k:=42) rfl;clear h;replace hc:=Lib.hid hc;generalize s[i]=ch at *;go_enter Tryz.func173,Tryz.ntmps173;go_wp2_with fail;refine hc.out.mono ?_;rintro e w1 ⟨rfl,hG⟩;replace hG:=Lib.hid hG;clear hc f0 f1 f2;go_wp2;go_ret;exact ⟨rfl,hG.out⟩
theorem WC (h:bP w B bR s link st i mk) (hi:i<s.length) (hb:s[i]=95) {n:Nat}{G:World→Prop}
  (hc:Calls Tryz.prog 196 #[.pointer (some ⟨bR,0,none⟩),.int .i64 (i:Int)] w fun e w'=>e=.returned (.int .i64 (n:Int))∧G w') :
  Calls Tryz.prog 173 #[.pointer (some ⟨bR,0,none⟩),.int .i64 (i:Int)] w fun e w'=>e=.returned (.int .i64 (n:Int))∧G w':=by
 obtain ⟨f0,f1,f2⟩:=h.cells;have hix:=bG hi;have t96:=bz (b:=s[i]) (c:=96) (by rw [hb];decide) (k:=96) rfl;have t60:=bz (b:=s[i]) (c:=60) (by rw [hb];decide) (k:=60) rfl;have t91:=bz (b:=s[i]) (c:=91) (by rw [hb];decide) (k:=91) rfl;have t42:=bz (b:=s[i]) (c:=42) (by rw [hb];decide) (k:=42) rfl;have t95:=jH hb (k:=95) rfl;clear h;replace hc:=Lib.hid hc;generalize s[i]=ch at *;go_enter Tryz.func173,Tryz.ntmps173;go_wp2_with fail;refine hc.out.mono ?_;rintro e w1 ⟨rfl,hG⟩;replace hG:=Lib.hid hG;clear hc f0 f1 f2;go_wp2;go_ret;exact ⟨rfl,hG.out⟩
theorem Ic (h:bP w B bR s link st i mk) (hi:i<s.length) (kV:s[i]≠96) (fR:s[i]≠60) (o9:s[i]≠91) (Z9:s[i]≠42) (h95:s[i]≠95) (h10:s[i]≠10) {n:Nat}{G:World→Prop}
  (hc:Calls Tryz.prog 199 #[.pointer (some ⟨bR,0,none⟩),.int .i64 (i:Int)] w fun e w'=>e=.returned (.int .i64 (n:Int))∧G w') :
  Calls Tryz.prog 173 #[.pointer (some ⟨bR,0,none⟩),.int .i64 (i:Int)] w fun e w'=>e=.returned (.int .i64 (n:Int))∧G w':=by
 obtain ⟨f0,f1,f2⟩:=h.cells;have hix:=bG hi;have t96:=bz kV (k:=96) rfl;have t60:=bz fR (k:=60) rfl;have t91:=bz o9 (k:=91) rfl;have t42:=bz Z9 (k:=42) rfl;have t95:=bz h95 (k:=95) rfl;have t10:=bz h10 (k:=10) rfl;clear h;replace hc:=Lib.hid hc;generalize s[i]=ch at *;go_enter Tryz.func173,Tryz.ntmps173;go_wp2_with fail;refine hc.out.mono ?_;rintro e w1 ⟨rfl,hG⟩;replace hG:=Lib.hid hG;clear hc f0 f1 f2;go_wp2;go_ret;exact ⟨rfl,hG.out⟩
end
section
variable {w:World}{B bR:Nat}{s:List UInt8}{link:Bool}{st:Il.Sc}{i mk:Nat}
theorem U4 (h:bP w B bR s link st i mk) (ok:Il.fF st i) (hi:i<s.length) (hs:s.length≤4000000) (hb:s[i]=10) :
  Calls Tryz.prog 173 #[.pointer (some ⟨bR,0,none⟩),.int .i64 (i:Int)] w fun e w'=>e=.returned (.int .i64 ((i+1:Nat):Int)) ∧
   bP w' B bR s link ⟨st.l++[⟨.mk 5 [] [] [],none,0,0⟩],st.runs⟩ (i+1) mk∧Below B w w':=by
 have hix:=bG hi;have t96:=bz (b:=s[i]) (c:=96) (by rw [hb];decide) (k:=96) rfl;have t60:=bz (b:=s[i]) (c:=60) (by rw [hb];decide) (k:=60) rfl;have t91:=bz (b:=s[i]) (c:=91) (by rw [hb];decide) (k:=91) rfl;have t42:=bz (b:=s[i]) (c:=42) (by rw [hb];decide) (k:=42) rfl;have t95:=bz (b:=s[i]) (c:=95) (by rw [hb];decide) (k:=95) rfl;have t10:=jH hb (k:=10) rfl;generalize s[i]=ch at *;obtain ⟨hB,gm,nm,D,vr,vF,rs,V,hR,hw,hnm⟩:=h;have hl1:=bP.mw ok (by omega) hs hR;obtain ⟨f0,f1,f2,f3,f4,f5,f6⟩:=hR.cells;obtain ⟨g,c,hv,cz⟩:=hR.GV (by omega);replace cz:=Lib.hid cz;have hput:=Lib.hid (Cs hR hB 5 (by decide) [] [] [] none 0 (by omega) hv (KP _ _ _ _ _));have hwl:=Lib.hid (wR rs (.mk 5 [] [] []));have VY:bs []=⟨#[]⟩:=rfl;have hadd:Hid (((i+1:Nat):Int)=(i:Int)+1):=Lib.hid (by omega);replace hv:=Lib.hid hv;clear hR;go_enter Tryz.func173,Tryz.ntmps173;go_wp2_with fail;refine (cz.out _).mono ?_;rintro e w2 ⟨rfl,rfl⟩;go_wp2_with fail;refine hput.out.mono ?_;rintro e w3 ⟨rfl,V',pZ,hb3⟩;replace pZ:=Lib.hid pZ;replace hb3:=Lib.hid hb3;clear f0 f1 f2 f3 f4 f5 f6 hput;go_wp2;go_ret;exact ⟨by rw [hadd.out];rfl,⟨Nat.le_trans hB hb3.out.size,gm,nm,D,vr,_,_,V',pZ.out,by have h9:=hwl.out;simp only [Il.fK,List.length_nil] at h9;omega,by omega⟩,hb3.out⟩
end
end Go.Proofs.YtddkjkockbcamaaGreatDoor
namespace Go.Proofs.YtddkjkockbcamaaGreatDoor
open Go.RowKit Go.Maps
theorem Em.qH {s:List UInt8}{i:Nat}(hi:i<s.length) (h1:s[i]≠42) (h2:s[i]≠95):Em.kind s (i:Int)=none:=by
 refine Em.Gb ?_;unfold Em.starts;refine decide_eq_false fun h=>?_;have h3:=h.2.2.1;rw [Int.toNat_natCast,Em.getD_at hi] at h3;rcases h3 with h3 | h3
 ·exact h1 h3
 ·exact h2 h3
theorem si {s:List UInt8}{i:Nat}(hi:i<s.length) (h:s[i]≠91):Il.dU s i=none:=by
 unfold Il.dU;rw [Lk.Oz (.inr (by rw [Em.getD_at hi];exact h))]
theorem Lk.Oo {s:List UInt8}{i:Nat}{t:List UInt8}{n:Nat}(h:Lk.auto s (i:Int)=some (t,n)):t≠[]∧t.length≤s.length:=by
 cases hs:Lk.starts s i with
 | false=>rw [Lk.oP hs] at h;cases h
 | true =>
  rw [Lk.Cy hs rfl] at h;obtain ⟨j,hj,he⟩:=Option.map_eq_some_iff.1 h;injection he with ht he;have h1:=Lk.tY _ _ _ hj;unfold Lk.starts at hs;have h2:=(of_decide_eq_true hs).2.2.1;have h3:=ep (l:=s) (lo:=i+1) (hi:=j) (by omega);rw [ht] at h3;exact ⟨fun e=>by rw [e] at h3;simp at h3;omega,by omega⟩
section
variable {w:World}{B bR:Nat}{s:List UInt8}{link:Bool}{st:Il.Sc}{i mk mk':Nat}{inner:List UInt8→List Il.In}
theorem bP.more (h:bP w B bR s link st i mk) (hm:mk≤mk'):bP w B bR s link st i mk':=by
 obtain ⟨hB,gm,nm,D,vr,vF,rs,V,hR,hw,hnm⟩:=h;exact ⟨hB,gm,nm,D,vr,vF,rs,V,hR,hw,by omega⟩
theorem R5 (hi:i<s.length) (hb:s[i]=96):Il.piece link inner s i st=(match Cd.span s (i:Int) with
  | some (t,e)=>(e,⟨st.l++[⟨.mk 1 t [] [],none,0,0⟩],st.runs⟩)
  | none=>(i+Fn.run 96 (s.drop i),⟨Il.fL st.l (mid s i (i+Fn.run 96 (s.drop i))),st.runs⟩)):=by
 unfold Il.piece;rw [if_pos (by rw [Em.getD_at hi];exact hb)]
 rfl
theorem J6 (hi:i<s.length) (hb:s[i]≠96) {t:List UInt8}{e:Nat}(ha:Lk.auto s (i:Int)=some (t,e)):Il.piece false inner s i st=(e,⟨st.l++[⟨.mk 4 [] t [Il.word (Ru.enc (Ru.aS t))],none,0,0⟩],st.runs⟩):=by
 unfold Il.piece;rw [if_neg (by rw [Em.getD_at hi];exact hb),if_neg (by decide),ha]
theorem Jr (hi:i<s.length) (hb:s[i]≠96) (ha:Lk.auto s (i:Int)=none) {d:List UInt8}{j e:Nat}(hl:Il.dU s i=some (d,j,e)):Il.piece false inner s i st=(e,⟨st.l++[⟨.mk 4 [] d (inner (mid s (i+1) j)),none,0,0⟩],st.runs⟩):=by
 unfold Il.piece;rw [if_neg (by rw [Em.getD_at hi];exact hb),if_neg (by decide),ha];simp only;rw [if_neg (by decide),hl]
theorem qK (hi:i<s.length) (hb:s[i]≠96) (ha:link=true∨Lk.auto s (i:Int)=none) (hl:link=true∨Il.dU s i=none):Il.piece link inner s i st=(match Em.kind s (i:Int) with
   | some (r,e)=>(e,⟨st.l++[⟨Il.none_,some st.runs.length,r.n.toNat,r.ch⟩],st.runs++[r]⟩)
   | none=>if s.getD i 0=10 then (i+1,⟨st.l++[⟨.mk 5 [] [] [],none,0,0⟩],st.runs⟩)
        else ((Es.next s i).2.1,⟨Il.fL st.l (Lib.encodeRune ((Es.next s i).1:Int)),st.runs⟩)):=by
 unfold Il.piece;have h1:(if link=true then none else Lk.auto s (i:Int))=none:=by
  rcases ha with h | h
  ·rw [if_pos h]
  ·rw [h];split<;>rfl
 have h2:(if link=true then none else Il.dU s i)=none:=by
  rcases hl with h | h
  ·rw [if_pos h]
  ·rw [h];split<;>rfl
 rw [if_neg (by rw [Em.getD_at hi];exact hb),h1];simp only;rw [h2]
 rfl
theorem fe (hi:i<s.length) (hb:s[i]≠96) (ha:link=true∨Lk.auto s (i:Int)=none) (hl:link=true∨Il.dU s i=none) (hk:Em.kind s (i:Int)=none) (h10:s[i]≠10):Il.piece link inner s i st=((Es.next s i).2.1,⟨Il.fL st.l (Lib.encodeRune ((Es.next s i).1:Int)),st.runs⟩):=by
 rw [qK hi hb ha hl,hk];simp only;rw [if_neg (by rw [Em.getD_at hi];exact h10)]
theorem WY (h:bP w B bR s link st i mk) (ok:Il.fF st i) (hi:i<s.length) (hs:s.length≤4000000) (hT:∀ u,Below B w u→Tabs u) (hP:link=false→PIn true inner)
  (hE:link=false→s[i]=91→Calls Tryz.prog 222 #[.pointer (some ⟨bR,2,none⟩),.int .i64 (i:Int)] w (rK w B bR s st i mk')) (hm:mk≤mk') :
  Calls Tryz.prog 173 #[.pointer (some ⟨bR,0,none⟩),.int .i64 (i:Int)] w fun e w'=>e=.returned (.int .i64 ((Il.piece link inner s i st).1:Int)) ∧
   (bP w' B bR s link (Il.piece link inner s i st).2 (Il.piece link inner s i st).1 mk'∧Below B w w'):=by
 have oN:=Il.piece_more link inner hi st;have hw:=hT w (Below.refl _ _);have h':=h.more hm
 by_cases kV:s[i]=96
 ·refine VO h' hi kV ?_
  rw [R5 hi kV] at oN ⊢;cases hsp:Cd.span s (i:Int) with
  | some x =>
   obtain ⟨t,e⟩:=x;rw [hsp] at oN;simp only at oN;have hl:=Il.yj hsp;exact P9 (t:=t) (n:=e) h' ok hi hs hsp oN.1 (by omega)
  | none=>exact Sf h' ok hi hs hsp kV
 by_cases fR:s[i]=60
 ·refine WM h' hi fR ?_
  have hk:=Em.qH hi (by rw [fR];decide) (by rw [fR];decide);have h10:s[i]≠10:=by rw [fR];decide
  cases link with
  | true =>
   rw [fe hi kV (.inl rfl) (.inl rfl) hk h10];exact FH h' ok hi hs (.inl rfl)
  | false =>
   cases ha:Lk.auto s (i:Int) with
   | none =>
    rw [fe hi kV (.inr ha) (.inr (si hi (by rw [fR];decide))) hk h10];exact FH h' ok hi hs (.inr ha)
   | some x =>
    obtain ⟨t,e⟩:=x;rw [J6 hi kV ha] at oN ⊢;have ht:=Lk.Oo ha;exact Sj h' ok hi hs ha oN.1 (Il.IW ht.1) (by omega)
 have ha:=nF hi fR
 by_cases o9:s[i]=91
 ·refine V5 h' hi o9 ?_
  have hk:=Em.qH hi (by rw [o9];decide) (by rw [o9];decide);have h10:s[i]≠10:=by rw [o9];decide
  cases link with
  | true =>
   rw [fe hi kV (.inl rfl) (.inl rfl) hk h10];exact R7 h' ok hi hs
  | false =>
   cases hc:Lk.close s (i:Int) with
   | none =>
    have hl:Il.dU s i=none:=by unfold Il.dU;rw [hc]
    rw [fe hi kV (.inr ha) (.inr hl) hk h10];exact Qe h ok hi hs hc (hE rfl o9)
   | some j =>
    have hj:j<s.length:=by
     rw [Lk.tc hi (by rw [Em.getD_at hi];exact o9)] at hc;exact (Il.dZ _ _ _ _ hc).2
    have hij:i<j:=by
     rw [Lk.tc hi (by rw [Em.getD_at hi];exact o9)] at hc;have:=(Il.dZ _ _ _ _ hc).1;omega
    cases hd:Lk.dest s ((j:Int)+1) with
    | none =>
     have hl:Il.dU s i=none:=by unfold Il.dU;rw [hc];simp only;rw [hd]
     rw [fe hi kV (.inr ha) (.inr hl) hk h10];exact Qm h ok hi hs hc hj hd (hE rfl o9)
    | some x =>
     obtain ⟨d,e⟩:=x;have hl:Il.dU s i=some (d,j,e):=by unfold Il.dU;rw [hc];simp only;rw [hd]
     have hsp:=Il.lR hl;rw [Jr hi kV ha hl];exact RN h ok hi hs hT (hP rfl) hc hij hj hd hsp.2.1 (hE rfl o9)
 have hl:=si hi o9;have hrun:∀ (_:s[i]=42∨s[i]=95),Calls Tryz.prog 196 #[.pointer (some ⟨bR,0,none⟩),.int .i64 (i:Int)] w fun e w'=>e=.returned (.int .i64 ((Il.piece link inner s i st).1:Int)) ∧
   (bP w' B bR s link (Il.piece link inner s i st).2 (Il.piece link inner s i st).1 mk'∧Below B w w'):=fun hr=>by
  have h10:s[i]≠10:=by rcases hr with e | e<;>rw [e]<;>decide
  cases hk:Em.kind s (i:Int) with
  | none =>
   rw [fe hi kV (.inr ha) (.inr hl) hk h10];exact UC h' ok hi hs hw hk
  | some x =>
   obtain ⟨r,e⟩:=x;rw [qK hi kV (.inr ha) (.inr hl),hk];exact Uq h' ok hi hs hw hk (Il.BC hk).1
 by_cases Z9:s[i]=42
 ·exact Vi h' hi Z9 (hrun (.inl Z9))
 by_cases h95:s[i]=95
 ·exact WC h' hi h95 (hrun (.inr h95))
 have hk:=Em.qH hi Z9 h95
 by_cases h10:s[i]=10
 ·rw [qK hi kV (.inr ha) (.inr hl),hk]
  simp only;rw [if_pos (by rw [Em.getD_at hi];exact h10)];exact U4 h' ok hi hs h10
 rw [fe hi kV (.inr ha) (.inr hl) hk h10];exact Ic h' hi kV fR o9 Z9 h95 h10 (ld h' ok hi hs)
end
end Go.Proofs.YtddkjkockbcamaaGreatDoor
namespace Go.Proofs.YtddkjkockbcamaaGreatDoor
structure Il.At (link:Bool) (inner:List UInt8→List Il.In) (s:List UInt8) (i:Nat) (st:Il.Sc):Prop where
 le:i≤s.length
 ok:Il.fF st i
 few:Il.zm st i
 rest:Il.scan link inner s i st=Il.scan link inner s 0 ⟨[],[]⟩
theorem Il.At.start (link:Bool) (inner:List UInt8→List Il.In) (s:List UInt8):Il.At link inner s 0 ⟨[],[]⟩:=⟨Nat.zero_le _,Il.mG,⟨by simp,by simp [Il.weight]⟩,rfl⟩
theorem Il.At.more {link:Bool}{inner:List UInt8→List Il.In}(hin:link=false→Il.iN inner) {s:List UInt8}(hs:s.length≤4000000) {i:Nat}{st:Il.Sc}(h:Il.At link inner s i st) (hi:i<s.length) :
  Il.At link inner s (Il.piece link inner s i st).1 (Il.piece link inner s i st).2∧i<(Il.piece link inner s i st).1:=by
 have hm:=Il.piece_more link inner hi st;obtain ⟨k1,k2⟩:=Il.rW link inner hin hs hi h.ok h.few;refine ⟨⟨hm.2,k1,k2,?_⟩,hm.1⟩;rw [← h.rest,Il.Nr link inner hi]
theorem Il.At.done {link:Bool}{inner:List UInt8→List Il.In}{s:List UInt8}{i:Nat}{st:Il.Sc}(h:Il.At link inner s i st) (hi:¬ i<s.length):Il.cY st.l st.runs=Il.within link inner s:=by
 have:=h.rest;rw [Il.RZ link inner (by omega)] at this;unfold Il.within;rw [← this]
theorem Em.Ft (c:UInt8) (n b a:Nat):(Em.qv c n b a).ch=c∧(Em.qv c n b a).n=(n:Int):=by
 unfold Em.qv
 split<;>exact ⟨rfl,rfl⟩
theorem Em.WQ {s:List UInt8}{i:Nat}{r:Em.R}{e:Nat}(h:Em.kind s (i:Int)=some (r,e)):r.ch.toNat<128∧r.n=((e-i:Nat):Int):=by
 unfold Em.kind at h
 split at h
 ·rename_i hs
  unfold Em.starts at hs;have h3:=(of_decide_eq_true hs).2.2.1;rw [Int.toNat_natCast] at h h3;injection h with h;injection h with h1 h2;subst h1 h2;refine ⟨?_,?_⟩
  ·rw [(Em.Ft _ _ _ _).1]
   rcases h3 with e | e<;>rw [e]<;>decide
  ·rw [(Em.Ft _ _ _ _).2,Nat.add_sub_cancel_left]
 ·cases h
structure Il.Sg (st:Il.Sc) (i:Nat):Prop where
 ch:∀ r∈st.runs,r.ch.toNat<128
 ct:Mn st.runs≤i
theorem Il.WG (link:Bool) (inner:List UInt8→List Il.In) {s:List UInt8}{i:Nat}{st:Il.Sc}(h:Il.Sg st i) (hi:i<s.length):Il.Sg (Il.piece link inner s i st).2 (Il.piece link inner s i st).1:=by
 have hm:=Il.piece_more link inner hi st;have hk:(Il.piece link inner s i st).2.runs=st.runs∨∃ r e,Em.kind s (i:Int)=some (r,e)∧(Il.piece link inner s i st).1=e∧(Il.piece link inner s i st).2.runs=st.runs++[r]:=by
  unfold Il.piece
  split
  ·split<;>exact .inl rfl
  ·split
   ·exact .inl rfl
   ·split
    ·exact .inl rfl
    ·split
     ·rename_i r e hk
      exact .inr ⟨r,e,hk,rfl,rfl⟩
     ·split<;>exact .inl rfl
 rcases hk with hk | ⟨r,e,hk,he,hr⟩
 ·exact ⟨by rw [hk];exact h.ch,by rw [hk];have:=h.ct;omega⟩
 ·obtain ⟨k1,k2⟩:=Em.WQ hk
  refine ⟨?_,?_⟩
  ·rw [hr]
   intro x hx;rcases List.mem_append.1 hx with hx | hx
   ·exact h.ch x hx
   ·obtain rfl:=List.mem_singleton.1 hx;exact k1
  ·rw [hr]
   have h2:=h.ct;have e1:Mn (st.runs++[r])=Mn st.runs+r.n.toNat:=by simp [Mn]
   have hm1:=hm.1;rw [he] at hm1 ⊢;rw [e1];omega
end Go.Proofs.YtddkjkockbcamaaGreatDoor
namespace Go.Proofs.YtddkjkockbcamaaGreatDoor
open Go.RowKit Go.Maps
attribute [local go_sem] aD av aq
theorem yG {gm gF bR:Nat}{s:List UInt8}{link:Bool}{k:Ky}{a:Pa}(h:aA (rR bR gm 0 s link (DataW.map []) (.slice none 0 0) (.slice (some ⟨gF,0,none⟩) 1 1) []) 3 4 5 (.slice (some ⟨gF,0,none⟩) 1 1) [Il.Rw.nil] [(.slice none 0 0,.slice none 0 0,[])] k=some a) :
  (k=(3,0)∧a=.row 216 2 (.slice (some ⟨gF,0,none⟩) 1 1) 1 [.slice none 0 0,.slice none 0 0])∨(k=(0,0)∧a=.blk bR (D3 s link gm (.slice none 0 0) (.slice (some ⟨gF,0,none⟩) 1 1)) 221)∨(k=(2,0)∧a=.map gm 0 (DataW.map [])) ∨
   (∃ e size,a=.row e size (.slice none 0 0) 0 []):=by
 obtain ⟨k1,k2⟩:=k;have hat:∀ (f:Il.Rw→V3→Pa),atR [Il.Rw.nil] [(.slice none 0 0,.slice none 0 0,[])] f k2=some a→a=f Il.Rw.nil (.slice none 0 0,.slice none 0 0,[]):=fun f hf=>by
  unfold atR at hf;cases k2 with
  | zero=>simp at hf;exact hf.symm
  | succ j=>simp at hf
 unfold aA at h
 by_cases h3:(k1,k2)=(3,0)
 ·rw [if_pos h3] at h
  injection h with h;exact .inl ⟨h3,h.symm⟩
 rw [if_neg h3] at h
 by_cases h4:k1=4
 ·rw [if_pos h4] at h
  exact .inr (.inr (.inr ⟨_,_,hat _ h⟩))
 rw [if_neg h4] at h
 by_cases h5:k1=5
 ·rw [if_pos h5] at h
  exact .inr (.inr (.inr ⟨_,_,hat _ h⟩))
 rw [if_neg h5] at h;unfold rR at h
 by_cases h0:(k1,k2)=(0,0)
 ·rw [if_pos h0] at h
  injection h with h;exact .inr (.inl ⟨h0,h.symm⟩)
 rw [if_neg h0] at h
 by_cases h1:(k1,k2)=(1,0)
 ·rw [if_pos h1] at h
  injection h with h;exact .inr (.inr (.inr ⟨_,_,h.symm⟩))
 rw [if_neg h1] at h
 by_cases h2:(k1,k2)=(2,0)
 ·rw [if_pos h2] at h
  injection h with h;exact .inr (.inr (.inl ⟨h2,h.symm⟩))
 rw [if_neg h2] at h;cases h
theorem Qn {W:World}{B gm gF bR:Nat}{s:List UInt8}{link:Bool}(hB:B≤gm) (h1:gm<gF) (h2:gF<bR) (hm:nE W gm 0 (DataW.map []))
  (hF:W.heap[gF]? = some (.cells #[.slice none 0 0,.slice none 0 0] 216 (0,0))) (hR:W.heap[bR]? = some (.cells (D3 s link gm (.slice none 0 0) (.slice (some ⟨gF,0,none⟩) 1 1)) 221 (0,0))):bP W B bR s link ⟨[],[]⟩ 0 0:=by
 have hz:=(Array.getElem?_eq_some_iff.1 hR).1;refine ⟨by omega,gm,0,DataW.map [],.slice none 0 0,.slice (some ⟨gF,0,none⟩) 1 1,[Il.Rw.nil],[(.slice none 0 0,.slice none 0 0,[])],⟨⟨⟨fun k a ha=>?_,fun k k' a a' g ha ha' hg hg'=>?_⟩,rfl,fun i hi hi'=>?_⟩,Il.My,fun i hi=>?_⟩,by simp [Il.ij,Il.Rw.wt,Il.Rw.nil,Il.eY],Nat.le_refl _⟩
 ·rcases yG ha with ⟨_,rfl⟩ | ⟨_,rfl⟩ | ⟨_,rfl⟩ | ⟨e,size,rfl⟩
  ·exact ⟨rfl,.inr ⟨gF,1,_,rfl,by omega,hF,Nat.le_refl _,by unfold maxLen;omega,rfl,rfl⟩⟩
  ·exact ⟨by omega,hR⟩
  ·exact ⟨hB,hm⟩
  ·exact World.ownsRow_nil _ _ _ _
 ·rcases yG ha with ⟨e1,rfl⟩ | ⟨e1,rfl⟩ | ⟨e1,rfl⟩ | ⟨e,size,rfl⟩<;>rcases yG ha' with ⟨e2,rfl⟩ | ⟨e2,rfl⟩ | ⟨e2,rfl⟩ | ⟨e',size',rfl⟩<;>first | exact e1.trans e2.symm | (exfalso;simp only [Pa.block,Value.ownBlock,Option.some.injEq,reduceCtorEq] at hg hg'<;>omega)
 ·have:i=0:=by simp at hi;exact hi
  subst this;exact rJ
 ·simp [Maps.has_eq] at hi
section
variable {link:Bool}{inner:List UInt8→List Il.In}
theorem BO (hP:link=false→PIn true inner) (hin:link=false→Il.iN inner):PIn link (Il.within link inner):=by
 intro s w hs hT;have hsz:=au s;have hmm:=@run_makeMap Tryz.prog;go_enter Tryz.func139,Tryz.ntmps139;go_upto_region 2 with fail
 have M6:bP (((w.alloc (.map #[] 0)).alloc (.cells #[.slice none 0 0,.slice none 0 0] 216)).alloc (.cells #[.string (bs s),.bool link,.string (bs s),.map (some w.heap.size),.slice none 0 0,.slice (some ⟨w.heap.size+1,0,none⟩) 1 1] 221)) w.heap.size (w.heap.size+1+1) s link ⟨[],[]⟩ 0 0:=by
  refine Qn (gm:=w.heap.size) (gF:=w.heap.size+1) (Nat.le_refl _) (by omega) (by omega) (World.ownsMap.alloc (World.ownsMap.alloc (World.ownsMap_made w _ _ _) _) _) ?_ ?_
  ·refine (keep ?_ (aa _ _)).1
   have:=heap_alloc_new (w.alloc (.map #[] 0)) (.cells #[.slice none 0 0,.slice none 0 0] 216);rwa [show (w.alloc (.map #[] 0)).heap.size=w.heap.size+1 by simp] at this
  ·have:=heap_alloc_new ((w.alloc (.map #[] 0)).alloc (.cells #[.slice none 0 0,.slice none 0 0] 216)) (.cells (D3 s link w.heap.size (.slice none 0 0) (.slice (some ⟨w.heap.size+1,0,none⟩) 1 1)) 221)
   rwa [show ((w.alloc (.map #[] 0)).alloc (.cells #[.slice none 0 0,.slice none 0 0] 216)).heap.size=w.heap.size+1+1 by simp] at this
 have hb0:Below w.heap.size w (((w.alloc (.map #[] 0)).alloc (.cells #[.slice none 0 0,.slice none 0 0] 216)).alloc (.cells #[.string (bs s),.bool link,.string (bs s),.map (some w.heap.size),.slice none 0 0,.slice (some ⟨w.heap.size+1,0,none⟩) 1 1] 221)):=ag (ag (aa _ _) (aa _ _)) (aa _ _);generalize hW:World.alloc (World.alloc (World.alloc w _) _) _=W at M6 hb0 ⊢;obtain ⟨B,Z5⟩:∃ B,B=w.heap.size:=⟨_,rfl⟩
 obtain ⟨bR,hbR⟩:∃ bR,bR=w.heap.size+1+1:=⟨_,rfl⟩
 rw [← hbR,← Z5] at M6;rw [← Z5] at hb0;rw [← hbR,← Z5];have hTx:=Lib.hid (fun (u:World) (hu:Below B w u)=>cM hT (by rw [← Z5];exact hu));replace M6:=Lib.hid M6;replace hb0:=Lib.hid hb0;have hBh:=Lib.hid Z5;clear hW hbR Z5 hT hmm;go_wp2_with fail
 go_loopw [6] (fun u wr=>∃ (i:Nat) (st:Il.Sc),u=.int .i64 (i:Int)∧Hid (bP wr B bR s link st i (5000000*i))∧Hid (Il.At link inner s i st)∧Hid (Il.Sg st i)∧Hid (Below B w wr)) (fun u _=>s.length-(intOf u).toNat)
 case atStart=>exact ⟨0,⟨[],[]⟩,rfl,M6,Lib.hid (Il.At.start _ _ _),Lib.hid ⟨by simp,by simp [Mn]⟩,hb0⟩
 case round =>
  obtain ⟨i,st,rfl,hr,hat,Ei,hb⟩:=hrel;clear M6 hb0
  by_cases hil:i<s.length
  ·have hrd:=WY (mk':=5000000*i+s.length+1) hr.out hat.out.ok hil hs (fun u hu=>hTx.out u (hb.out.trans hu)) hP (fun hl o9=>by subst hl;exact YD hr.out hil o9 hs (by omega)) (by omega)
   obtain ⟨hm1,hm2⟩:=hat.out.more hin hs hil;have hs2:=Il.WG link inner Ei.out hil;obtain ⟨P,Dj⟩:∃ P,P=Il.piece link inner s i st:=⟨_,rfl⟩
   rw [← Dj] at hrd hm1 hm2 hs2;obtain ⟨j,st2⟩:=P;simp only at hrd hm1 hm2 hs2;have hjl:=hm1.le;replace hrd:=Lib.hid hrd;replace hm1:=Lib.hid hm1;replace hs2:=Lib.hid hs2;clear Dj hr hat Ei;go_wp2_with fail;refine hrd.out.mono ?_;rintro e w2 ⟨rfl,hr2,hb2⟩;have hr3:=Lib.hid (hr2.more (mk':=5000000*j) (by omega));have hb3:=Lib.hid (hb.out.trans hb2);clear hr2 hb2 hrd;go_wp2_with fail
   go_roundw
   case rel=>exact ⟨j,st2,rfl,hr3,hm1,hs2,hb3⟩
   case measure=>simp [intOf];omega
  ·have hd:=hat.out.done hil
   have hle:=hat.out.le;obtain ⟨hB,gm,nm,D,vr,vF,rs,V,hR,hw,hnm⟩:=hr.out;obtain ⟨f0,f1,f2,f3,f4,f5,f6⟩:=hR.cells;have hrow:=hR.rw.hp.holds (1,0) (.row 240 4 vr st.runs.length (aG st.runs)) (by unfold aA rR;rw [if_neg (by simp),if_neg (by simp),if_neg (by simp),if_neg (by simp),if_pos rfl]);replace hrow:wr.ownsRow B 240 4 vr st.runs.length (aG st.runs):=hrow;obtain ⟨AR,cR,rfl,Za⟩:=ak hrow;have Et:=NZ (AR:=AR) (cR:=cR) st hR.rw hB (by unfold rR;rw [if_neg (by simp),if_pos rfl]) hR.rel hat.out.ok (by omega) Ei.out.ch (by omega) (by have:=Ei.out.ct;omega);rw [hd] at Et;replace Et:=Lib.hid Et;clear hd hR hrow hr hat Ei hTx;go_wp2_with fail;refine Et.out.mono ?_;rintro e w9 ⟨v,rfl,css,ho,hI,KL⟩;have Ki:=Lib.hid (hb.out.trans KL);replace ho:=Lib.hid ho;replace hI:=Lib.hid hI;clear KL Et;go_wp2_with fail;go_ret;have k1:=ho.out;have k2:=hI.out;have k3:=Ki.out;rw [hBh.out] at k1 k2 k3;exact ⟨⟨_,rfl,css,k1,k2⟩,k3⟩
end
theorem Gd:PIn true Il.inLink:=BO (fun h=>absurd h (by decide)) (fun h=>absurd h (by decide))
theorem Kx:PIn false Il.parse:=BO (fun _=>Gd) (fun _=>Il.ue true (fun _=>[]) (fun h=>absurd h (by decide)))
theorem N8:YV:=by
 intro s w hs hT;have q:=Lib.hid (fun w hT=>Kx s w hs hT);obtain ⟨X,hX⟩:∃ X,X=Il.parse s:=⟨_,rfl⟩
 rw [← hX] at q ⊢;replace hT:=Lib.hid hT;clear hX;go_enter Tryz.func96,Tryz.ntmps96;go_wp2_with fail;refine (q.out _ hT.out).mono ?_;rintro e w1 ⟨⟨v,rfl,css,ho,hI⟩,hb⟩;replace ho:=Lib.hid ho;replace hI:=Lib.hid hI;replace hb:=Lib.hid hb;go_wp2_with fail;go_ret;exact ⟨⟨_,rfl,css,ho.out,hI.out⟩,hb.out⟩
end Go.Proofs.YtddkjkockbcamaaGreatDoor
