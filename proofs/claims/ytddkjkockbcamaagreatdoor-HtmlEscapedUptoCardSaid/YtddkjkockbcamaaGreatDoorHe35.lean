/- IlPRd3 IlPRd4 IlPRd6 IlPRd7 IlPRd9 IlPRdA IlSkM IlSk IlPSk IlPEnd IlPRd5 IlPRd8 IlPRdB IlPRdC IlPRdE IlPRdF IlPRdG IlPRdH IlPParse -/
import Derived.Test.YtddkjkockbcamaaGreatDoorHe33
import Derived.Test.YtddkjkockbcamaaGreatDoorHe05
import Derived.Test.YtddkjkockbcamaaGreatDoorHe30
import Derived.Test.YtddkjkockbcamaaGreatDoorHe21
import Derived.Test.YtddkjkockbcamaaGreatDoorHe31
import Derived.Test.YtddkjkockbcamaaGreatDoorHe20
import Derived.Test.YtddkjkockbcamaaGreatDoorHe19
set_option maxHeartbeats 16000000
set_option maxRecDepth 100000
namespace Go.Proofs.YtddkjkockbcamaaGreatDoor
open Go.RowKit Go.Maps
attribute [local go_sem] aD av aq
section
variable {w w':World}{B bR:Nat}{s:List UInt8}{link:Bool}{st:Il.Sc}{gm nm:Nat}{D:DataW Unit}{vr vF:Value}{rs:List Il.Rw}{V:List V3}{i mk:Nat}
theorem RD.drew (h:RD w B bR s link st gm nm D vr vF rs V):RD w.drew B bR s link st gm nm D vr vF rs V:=⟨h.rw.along h.rw.hp.mM,h.rel,h.ends⟩
theorem Ue (h:RD w B bR s link st gm nm D vr vF rs V) (hB:B≤w.heap.size) (l:List UInt8) (hv:Il.V8 l) (hl:l.length≤1000000000) (hw:Il.gD rs≤64000000) {g c:Nat}(RB:vF=.slice (some ⟨g,0,none⟩) rs.length c) :
  Calls Tryz.prog 220 #[.pointer (some ⟨g,(rs.length-1)*2,none⟩),.string (bs l)] w fun e w'=>e=.returned (.tuple #[])∧∃ V',RD w' B bR s link ⟨Il.eW st.l l,st.runs⟩ gm nm D vr vF (Il.aX (fun R=>R.say l) rs) V'∧Below B w w':=by
 have hp:=List.length_pos_iff.2 h.ne;obtain ⟨R,hR1,hR2⟩:=kj h.ne;have Fm:=Il.lQ (List.mem_of_getElem? hR1);obtain ⟨x1,y1,z1,e1,q1,i1⟩:=h.rw.look ⟨by decide,by decide,by decide⟩ hR1;have hc1:=h.rw.cn (i:=rs.length-1) RB (by omega);have aG:=vJ (eN ⟨by decide,by decide,by decide⟩ (rs.length-1)) hc1 q1 hB l (by unfold Il.Rw.wt at Fm;omega);rw [Il.CH hv] at aG;refine aG.mono ?_;rintro e w' ⟨rfl,vp',t⟩;exact ⟨rfl,_,(h.last hR1 (fun R=>R.say l) (Il.Iu h.rel hv) rfl (hR2 _) e1 t (t.kids i1))⟩
theorem Ba (h:RD w B bR s link st gm nm D vr vF rs V) (hB:B≤w.heap.size) (kd:Nat) (hk:kd≠0) (t d:List UInt8) (ks:List Il.In) (AK:Option Addr) (cK:Nat) (hw:Il.gD rs≤64000000) {g c:Nat}(RB:vF=.slice (some ⟨g,0,none⟩) rs.length c)
  (hx:IC w (Fr w B (az (pV bR gm nm s link D vr vF st.runs) 3 4 5 vF rs V)) (.mk kd t d ks) [.int .i64 (kd:Int),.string (bs t),.string (bs d),.slice AK ks.length cK]) :
  Calls Tryz.prog 198 #[.pointer (some ⟨g,(rs.length-1)*2,none⟩),.agg #[.int .i64 (kd:Int),.string (bs t),.string (bs d),.slice AK ks.length cK]] w fun e w'=>e=.returned (.tuple #[])∧∃ V',RD w' B bR s link ⟨st.l++[⟨.mk kd t d ks,none,0,0⟩],st.runs⟩ gm nm D vr vF (Il.aX (fun R=>R.put (.mk kd t d ks)) rs) V'∧Below B w w':=by
 have hp:=List.length_pos_iff.2 h.ne;obtain ⟨R,hR1,hR2⟩:=kj h.ne;have Fm:=Il.lQ (List.mem_of_getElem? hR1);obtain ⟨x1,y1,z1,e1,q1,i1⟩:=h.rw.look ⟨by decide,by decide,by decide⟩ hR1;have hc1:=h.rw.cn (i:=rs.length-1) RB (by omega);refine (vM (eN ⟨by decide,by decide,by decide⟩ (rs.length-1)) hc1 q1 i1 hB (by unfold Il.Rw.wt at Fm;omega) (by unfold Il.Rw.wt at Fm;omega) kd t d ks AK cK (by rw [e1];exact hx)).mono ?_;rintro e w' ⟨rfl,vi',vp',css',t,hI⟩;exact ⟨rfl,_,(h.last hR1 (fun R=>R.put (.mk kd _ _ ks)) (Il.R1 h.rel hk _ _ ks) rfl (hR2 _) e1 t hI)⟩
theorem Iw (w:World) (Q:Nat→Prop) (kd:Nat) (t d:List UInt8):IC w Q (.mk kd t d []) [.int .i64 (kd:Int),.string (bs t),.string (bs d),.slice none ([]:List Il.In).length 0]:=by
 unfold IC;exact ⟨none,0,[],rfl,Nat.le_refl _,⟨rfl,fun h=>absurd h (by simp)⟩,rfl⟩
theorem RD.En (h:RD w B bR s link st gm nm D vr vF rs V) (hl:rs.length≤1000000000):∃ g c,vF=.slice (some ⟨g,0,none⟩) rs.length c∧∀ u:World,Calls Tryz.prog 197 #[vF] u fun e u'=>e=.returned (.pointer (some ⟨g,(rs.length-1)*2,none⟩))∧u'=u:=by
 have hp:=List.length_pos_iff.2 h.ne;obtain ⟨g,c,hv,_,_,_⟩:=h.rw.slice hp;exact ⟨g,c,hv,fun u=>by rw [hv];exact gT g rs.length c hp (by omega) u⟩
theorem uJ (rs:List Il.Rw) (x:Il.In):Il.gD (Il.aX (fun R=>R.put x) rs)≤Il.gD rs+(2+Il.eS x):=Il.iX (f:=fun R=>R.put x) (fun R=>by have:=R.E7 x;omega) rs
theorem Q7 (rs:List Il.Rw) (l:List UInt8):Il.gD (Il.aX (fun R=>R.say l) rs)≤Il.gD rs+l.length:=Il.iX (f:=fun R=>R.say l) (fun R=>by rw [Il.Rw.rS];exact Nat.le_refl _) rs
theorem NL (h:bJ w B bR s link st i mk) (ok:Il.fh st i) (hi:i<s.length) (hs:s.length≤4000000) {t:List UInt8}{n:Nat}(hc:Cd.span s (i:Int)=some (t,n)) (hn:i<n) (ht:t.length≤n-i) :
  Calls Tryz.prog 193 #[.pointer (some ⟨bR,0,none⟩),.int .i64 (i:Int)] w fun e w'=>e=.returned (.int .i64 (n:Int)) ∧
   bJ w' B bR s link ⟨st.l++[⟨.mk 1 t [] [],none,0,0⟩],st.runs⟩ n mk∧Below B w w':=by
 obtain ⟨hB,gm,nm,D,vr,vF,rs,V,hR,hw,hnm⟩:=h;have hl1:=bJ.lJ ok (by omega) hs hR;have p7:=Lib.hid (rL s (i:Int) (by omega) w);rw [hc] at p7;unfold fH at p7;obtain ⟨f0,f1,f2,f3,f4,f5,f6⟩:=hR.cells;obtain ⟨g,c,hv,b9⟩:=hR.En (by omega);replace b9:=Lib.hid b9;have hput:=Lib.hid (fun (w1:World) (hb:Below w.heap.size w w1)=>Ba (hR.ext hB hb) (Nat.le_trans hB hb.size) 1 (by decide) t [] [] none 0 (by omega) hv (Iw _ _ _ _ _));have hcl:=Lib.hid (fun (w1:World) (hb:Below w.heap.size w w1)=>(hR.ext hB hb).cells);have hwl:=Lib.hid (uJ rs (.mk 1 t [] []));have QM:bs []=⟨#[]⟩:=rfl;replace hv:=Lib.hid hv;clear hR;go_enter Tryz.func193,Tryz.ntmps193;go_wp2_with fail;refine p7.out.mono ?_;rintro e w1 ⟨rfl,hb1⟩;have CV:=Lib.hid hb1;obtain ⟨c0,c1,c2,c3,c4,c5,c6⟩:=hcl.out w1 hb1;have XD:=Lib.hid (hput.out w1 hb1);clear f0 f1 f2 f3 f4 f5 f6 hput hcl p7 hb1;go_wp2_with fail;refine (b9.out _).mono ?_;rintro e w2 ⟨rfl,rfl⟩;go_wp2_with fail;refine XD.out.mono ?_;rintro e w3 ⟨rfl,V',nN,hb3⟩;have hb:=Lib.hid ((CV.out.mono hB).trans hb3);replace nN:=Lib.hid nN;clear c0 c1 c2 c3 c4 c5 c6 hb3;go_wp2;go_ret;exact ⟨rfl,⟨Nat.le_trans hB hb.out.size,gm,nm,D,vr,_,_,V',nN.out,by have:=hwl.out;simp only [Il.eS] at this;omega,by omega⟩,hb.out⟩
end
theorem DM (c:UInt8):∀ l:List UInt8,l.take (Fn.run c l)=List.replicate (Fn.run c l) c
 | []=>rfl
 | b::r=>by
  by_cases h:b=c
  ·rw [Fn.Ak r h,List.take_succ_cons,DM c r,h];rfl
  ·rw [Fn.qK r h];rfl
theorem QI (c:UInt8) (s:List UInt8) (i:Nat):mid s i (i+Fn.run c (s.drop i))=List.replicate (Fn.run c (s.drop i)) c:=by
 unfold mid;rw [Nat.add_sub_cancel_left];exact DM c _
section
variable {w w':World}{B bR:Nat}{s:List UInt8}{link:Bool}{st:Il.Sc}{gm nm:Nat}{D:DataW Unit}{vr vF:Value}{rs:List Il.Rw}{V:List V3}{i mk:Nat}
theorem P7 (h:bJ w B bR s link st i mk) (ok:Il.fh st i) (hi:i<s.length) (hs:s.length≤4000000) (hc:Cd.span s (i:Int)=none) (jW:s[i]=96) :
  Calls Tryz.prog 193 #[.pointer (some ⟨bR,0,none⟩),.int .i64 (i:Int)] w fun e w'=>e=.returned (.int .i64 ((i+Fn.run 96 (s.drop i):Nat):Int)) ∧
   bJ w' B bR s link ⟨Il.eW st.l (mid s i (i+Fn.run 96 (s.drop i))),st.runs⟩ (i+Fn.run 96 (s.drop i)) mk∧Below B w w':=by
 obtain ⟨hB,gm,nm,D,vr,vF,rs,V,hR,hw,hnm⟩:=h;have hl1:=bJ.lJ ok (by omega) hs hR;have p7:=Lib.hid (rL s (i:Int) (by omega) w);rw [hc] at p7;unfold fH at p7;have hpos:1≤Fn.run 96 (s.drop i):=by rw [Fn.jm hi jW];omega
 have hle:i+Fn.run 96 (s.drop i)≤s.length:=by have:=Fn.gq 96 (s.drop i);rw [List.length_drop] at this;omega
 have hmr:=QI 96 s i;have q2:=Lib.hid (fun w=>qy s (i:Int) 96 w (by omega));rw [jH] at q2;obtain ⟨n,hn⟩:∃ n,n=Fn.run 96 (s.drop i):=⟨_,rfl⟩
 rw [← hn] at q2 hpos hle hmr ⊢;clear hn;have hadd:((i:Int)+(n:Int))=((i+n:Nat):Int):=by omega
 have hmid:∀ w:World,(Instr.slice 9 (.string (bs s)) (some (.int .i64 (i:Int))) (some (.int .i64 ((i:Int)+(n:Int)))) none).run Tryz.prog w=.ok (.string (bs (mid s i (i+n)))) w:=by
  intro w;rw [hadd];exact uH (S:=s) (i:=i) (j:=i+n) (by omega) (by omega) w
 replace hadd:=Lib.hid hadd;obtain ⟨T,hT⟩:∃ T,T=mid s i (i+n):=⟨_,rfl⟩
 rw [← hT] at hmr hmid ⊢;have hTl:T.length=n:=by rw [hmr];simp
 have ZX:Il.V8 T:=by rw [hmr];exact Il.OI (by decide) n
 clear hT hmr;obtain ⟨f0,f1,f2,f3,f4,f5,f6⟩:=hR.cells;obtain ⟨g,c,hv,b9⟩:=hR.En (by omega);replace b9:=Lib.hid b9;have pP:=Lib.hid (fun (w1:World) (hb:Below w.heap.size w w1)=>(hR.ext hB hb).blk.1);have BY:=Lib.hid (fun (w1:World) (hb:Below w.heap.size w w1)=>Ue (hR.ext hB hb).drew (Nat.le_trans hB hb.size) T ZX (by omega) (by omega) hv);have hcl:=Lib.hid (fun (w1:World) (hb:Below w.heap.size w w1)=>(hR.ext hB hb).cells);have hwl:=Lib.hid (Q7 rs T);replace hv:=Lib.hid hv;replace ZX:=Lib.hid ZX;clear hR;go_enter Tryz.func193,Tryz.ntmps193;go_wp2_with fail;refine p7.out.mono ?_;rintro e w1 ⟨rfl,hb1⟩;have CV:=Lib.hid hb1;obtain ⟨c0,c1,c2,c3,c4,c5,c6⟩:=hcl.out w1 hb1;have EN:=Lib.hid (BY.out w1 hb1);have hS:(fun u:World=>u.heap[bR]? = some (.cells (BS s link gm vr vF) 221 (0,0))) w1.drew:=pP.out w1 hb1;clear f0 f1 f2 f3 f4 f5 f6 BY hcl p7 hb1 pP;go_upto_region 6 with (go_at_call 219;refine (q2.out _).mono ?_;rintro e1 w2 ⟨rfl,rfl⟩)
 refine aE (.rd 0 (.rd 1 (.rd 2 (.rd 3 (.rd 5 (.rd 6 (.rd 7 (.rd 8 (.rd 9 (.rd 10 (.rd 11 (.mk 4 (.mk 12 .fin))))))))))))) (fun u:World=>u.heap[bR]? = some (.cells (BS s link gm vr vF) 221 (0,0))) hS (by kernel_rfl) (by kernel_rfl) (by kernel_rfl) (fun _ _ d _ _ h=>by cases d<;>exact h) ?_
 iterate 3 (first | refine an rfl ?_ | (refine ay rfl ?_;intro K hK;go_simp;refine hK _ _ _ ?_;clear hK K))
 refine aH vF rfl rfl hS (fun u hu=>by
  have h1:u.cell? ⟨bR,5,none⟩=some vF:=ah (j:=5) hu;go_simp) ?_
 iterate 3 (first | refine an rfl ?_ | (refine ay rfl ?_;intro K hK;go_simp;refine hK _ _ _ ?_;clear hK K))
 refine aH (.string (bs s)) rfl rfl hS (fun u hu=>by
  have h1:u.cell? ⟨bR,0,none⟩=some (.string (bs s)):=ah (j:=0) hu;go_simp) ?_
 iterate 3 (first | refine an rfl ?_ | (refine ay rfl ?_;intro K hK;go_simp;refine hK _ _ _ ?_;clear hK K))
 refine aC rfl ?_;intro K hK;go_simp;refine (b9.out _).mono ?_;rintro e w2 ⟨rfl,rfl⟩;refine ⟨_,hS,fun _ h=>h,hK _ _ _ ?_⟩;clear hK K;refine aC rfl ?_;intro K hK;go_simp;refine EN.out.mono ?_;rintro e w3 ⟨rfl,V',nN,hb3⟩;have eV:(fun u:World=>u.heap[bR]? = some (.cells (BS s link gm vr vF) 221 (0,0))) w3:=nN.blk.1;refine ⟨_,eV,fun _ h=>h,hK _ _ _ ?_⟩;have hdr:Below B w1 w1.drew:=⟨rfl,rfl,rfl,Nat.le_refl _,fun _ _=>rfl⟩
 have hb:=Lib.hid (((CV.out.mono hB).trans hdr).trans hb3);clear hdr;replace nN:=Lib.hid nN;clear hK K eV hS hb3 c0 c1 c2 c3 c4 c5 c6;refine aM ?_;go_wp2;go_ret;exact ⟨by rw [hadd.out];rfl,⟨Nat.le_trans hB hb.out.size,gm,nm,D,vr,_,_,V',nN.out,by have:=hwl.out;omega,by omega⟩,hb.out⟩
end
section
variable {w w':World}{B bR:Nat}{s:List UInt8}{link:Bool}{st:Il.Sc}{gm nm:Nat}{D:DataW Unit}{vr vF:Value}{rs:List Il.Rw}{V:List V3}{i mk:Nat}
theorem bJ.ext (h:bJ w B bR s link st i mk) (hb:Below w.heap.size w w'):bJ w' B bR s link st i mk:=by
 obtain ⟨hB,gm,nm,D,vr,vF,rs,V,hR,hw,hnm⟩:=h;exact ⟨Nat.le_trans hB hb.size,gm,nm,D,vr,vF,rs,V,hR.ext hB hb,hw,hnm⟩
theorem bJ.size (h:bJ w B bR s link st i mk):B≤w.heap.size:=h.1
theorem bJ.cells (h:bJ w B bR s link st i mk):w.cell? ⟨bR,0,none⟩=some (.string (bs s))∧w.cell? ⟨bR,1,none⟩=some (.bool link)∧w.cell? ⟨bR,2,none⟩=some (.string (bs s)):=by
 obtain ⟨hB,gm,nm,D,vr,vF,rs,V,hR,hw,hnm⟩:=h;obtain ⟨f0,f1,f2,_⟩:=hR.cells;exact ⟨f0,f1,f2⟩
def e9 (w:World) (B bR:Nat) (s:List UInt8) (link:Bool) (st:Il.Sc) (i mk:Nat) (e:Ending) (w':World):Prop :=
 e=.returned (.int .i64 ((Es.next s i).2.1:Int))∧bJ w' B bR s link ⟨Il.eW st.l (Lib.encodeRune ((Es.next s i).1:Int)),st.runs⟩ (Es.next s i).2.1 mk∧Below B w w'
theorem Mh (h:bJ w B bR s true st i mk) (ok:Il.fh st i) (hi:i<s.length) (hs:s.length≤4000000) :
  Calls Tryz.prog 195 #[.pointer (some ⟨bR,0,none⟩),.int .i64 (i:Int)] w fun e w'=>e9 w B bR s true st i mk e w':=by
 have hpl:=Lib.hid (fun (w1:World) (hr:bJ w1 B bR s true st i mk)=>(show Calls _ _ _ _ (fun e w'=>e9 w1 B bR s true st i mk e w') from kJ hr ok hi hs));unfold e9 at hpl ⊢;obtain ⟨f0,f1,f2⟩:=h.cells;replace h:=Lib.hid h;obtain ⟨en,hen⟩:∃ en,en=Es.next s i:=⟨_,rfl⟩
 rw [← hen] at hpl ⊢;clear hen;go_enter Tryz.func195,Tryz.ntmps195;go_wp2_with fail;refine (hpl.out _ h.out).mono ?_;rintro e w2 ⟨rfl,hr2,hb2⟩;replace hr2:=Lib.hid hr2;replace hb2:=Lib.hid hb2;clear hpl;go_wp2;go_ret;exact ⟨rfl,hr2.out,hb2.out⟩
theorem Er (h:bJ w B bR s link st i mk) (ok:Il.fh st i) (hi:i<s.length) (hs:s.length≤4000000) (hc:link=true∨Lk.auto s (i:Int)=none) :
  Calls Tryz.prog 194 #[.pointer (some ⟨bR,0,none⟩),.int .i64 (i:Int)] w fun e w'=>e9 w B bR s link st i mk e w':=by
 have hpl:=Lib.hid (fun (w1:World) (hr:bJ w1 B bR s link st i mk)=>(show Calls _ _ _ _ (fun e w'=>e9 w1 B bR s link st i mk e w') from kJ hr ok hi hs));unfold e9 at hpl ⊢;obtain ⟨f0,f1,f2⟩:=h.cells;have hB:=h.size;have xE:=Lib.hid (su s (i:Int) (by omega) w);have hcl:=Lib.hid (fun (w1:World) (hb:Below w.heap.size w w1)=>(h.ext hb).cells);have tW:=Lib.hid (fun (w1:World) (hb:Below w.heap.size w w1)=>h.ext hb);clear h;obtain ⟨en,hen⟩:∃ en,en=Es.next s i:=⟨_,rfl⟩
 rw [← hen] at hpl ⊢;clear hen;obtain ⟨X,hX⟩:∃ X,X=Lk.auto s (i:Int):=⟨_,rfl⟩
 rw [← hX] at xE hc;clear hX;rcases X with _ | ⟨t,n⟩
 ·unfold fH at xE
  clear hc;go_enter Tryz.func194,Tryz.ntmps194;go_wp2_with fail;refine xE.out.mono ?_;rintro e w1 ⟨rfl,hb1⟩;obtain ⟨c0,c1,c2⟩:=hcl.out _ hb1;have hr:=Lib.hid (tW.out _ hb1);replace hb1:=Lib.hid hb1;clear f0 f1 f2 xE hcl tW;go_wp2_with fail;refine (hpl.out _ hr.out).mono ?_;rintro e w2 ⟨rfl,hr2,hb2⟩;replace hr2:=Lib.hid hr2;have hb:=Lib.hid ((hb1.out.mono hB).trans hb2);clear hpl hb2 c0 c1 c2;go_wp2;go_ret;exact ⟨rfl,hr2.out,hb.out⟩
 ·obtain rfl:link=true:=by rcases hc with h | h;exact h;cases h
  unfold fH at xE;clear hc;go_enter Tryz.func194,Tryz.ntmps194;go_wp2_with fail;refine xE.out.mono ?_;rintro e w1 ⟨rfl,hb1⟩;obtain ⟨c0,c1,c2⟩:=hcl.out _ hb1;have hr:=Lib.hid (tW.out _ hb1);replace hb1:=Lib.hid hb1;clear f0 f1 f2 xE hcl tW;go_wp2_with fail;refine (hpl.out _ hr.out).mono ?_;rintro e w2 ⟨rfl,hr2,hb2⟩;replace hr2:=Lib.hid hr2;have hb:=Lib.hid ((hb1.out.mono hB).trans hb2);clear hpl hb2 c0 c1 c2;go_wp2;go_ret;exact ⟨rfl,hr2.out,hb.out⟩
end
end Go.Proofs.YtddkjkockbcamaaGreatDoor
namespace Go.Proofs.YtddkjkockbcamaaGreatDoor
open Go.RowKit Go.Maps
def jY (bR gm nm:Nat) (s:List UInt8) (link:Bool) (D:DataW Unit) (cr cF vr:Value) (runs:List Em.R):Ky→Option Pa:=fun q =>
 if q=(0,0) then some (.blk bR (BS s link gm cr cF) 221)
 else if q=(1,0) then some (.row 240 4 vr runs.length (aF runs))
 else if q=(2,0) then some (.map gm nm D) else none
section
variable {w w':World}{B bR:Nat}{s:List UInt8}{link:Bool}{gm nm:Nat}{D:DataW Unit}{cr cF vr v:Value}{runs:List Em.R}{rs:List Il.Rw}{V:List V3}
theorem xw:az (jY bR gm nm s link D cr cF vr runs) 3 4 5 v rs V (1,0)=some (.row 240 4 vr runs.length (aF runs)):=by
 unfold az jY;rw [if_neg (by simp),if_neg (by simp),if_neg (by simp),if_neg (by simp),if_pos rfl]
theorem qA:az (jY bR gm nm s link D cr cF vr runs) 3 4 5 v rs V (0,0)=some (.blk bR (BS s link gm cr cF) 221):=by
 unfold az jY;rw [if_neg (by simp),if_neg (by simp),if_neg (by simp),if_pos rfl]
theorem DT (vr':Value) (runs':List Em.R):uq (az (jY bR gm nm s link D cr cF vr runs) 3 4 5 v rs V) (1,0) (.row 240 4 vr' runs'.length (aF runs'))=az (jY bR gm nm s link D cr cF vr' runs') 3 4 5 v rs V:=by
 funext q
 unfold uq
 by_cases h:q=(1,0)
 ·subst h;rw [if_pos rfl,xw]
 ·rw [if_neg h];unfold az jY;rw [if_neg h,if_neg h]
theorem sX (cr' cF':Value):uq (az (jY bR gm nm s link D cr cF vr runs) 3 4 5 v rs V) (0,0) (.blk bR (BS s link gm cr' cF') 221)=az (jY bR gm nm s link D cr' cF' vr runs) 3 4 5 v rs V:=by
 funext q
 unfold uq
 by_cases h:q=(0,0)
 ·subst h;rw [if_pos rfl,qA]
 ·rw [if_neg h];unfold az jY;rw [if_neg h,if_neg h]
theorem RS.Ns (h:RS w B (jY bR gm nm s link D cr cF vr runs) 3 4 5 v rs V):w.heap[bR]? = some (.cells (BS s link gm cr cF) 221 (0,0))∧B≤bR∧bR<w.heap.size:=by
 have h1:=h.hp.holds _ _ qA;exact ⟨h1.2,h1.1,(Array.getElem?_eq_some_iff.1 h1.2).1⟩
theorem RS.L6 (h:RS w B (jY bR gm nm s link D cr cF vr runs) 3 4 5 v rs V) (hB:B≤w.heap.size) {vr':Value}{x:Em.R}(hg:w.grownBy w' vr.ownBlock) (ho:w'.ownsRow B 240 4 vr' (runs.length+1) (aF runs++jT x)) (hat:At w.heap.size vr vr') :
  RS w' B (jY bR gm nm s link D cr cF vr' (runs++[x])) 3 4 5 v rs V∧Below B w w':=by
 have t:=h.hp.ue (k:=(1,0)) (.row 240 4 vr' (runs++[x]).length (aF (runs++[x]))) xw hg (by
  show World.ownsRow _ _ _ _ _ _ _;rw [List.length_append,List.length_singleton,show aF (runs++[x])=aF runs++jT x by simp [aF]];exact ho) hat hB
 rw [DT] at t;exact ⟨h.along t,t.bel⟩
theorem RS.Tf (h:RS w B (jY bR gm nm s link D cr cF vr runs) 3 4 5 v rs V) (hB:B≤w.heap.size) (c':Value):RS (w.setCell ⟨bR,4,none⟩ c') B (jY bR gm nm s link D c' cF vr runs) 3 4 5 v rs V∧Below B w (w.setCell ⟨bR,4,none⟩ c'):=by
 obtain ⟨h1,h2,h3⟩:=h.Ns;have t:=h.hp.ue (k:=(0,0)) (w':=w.setCell ⟨bR,4,none⟩ c') (.blk bR (BS s link gm c' cF) 221) qA (ax w ⟨bR,4,none⟩ c') ⟨h2,heap_setCell_same w bR 4 (BS s link gm cr cF) _ c' h1⟩ (fun g hg=>.inl hg) hB;rw [sX] at t;exact ⟨h.along t,t.bel⟩
theorem RS.Th (h:RS w B (jY bR gm nm s link D cr cF vr runs) 3 4 5 v rs V) (hB:B≤w.heap.size) (c':Value):RS (w.setCell ⟨bR,5,none⟩ c') B (jY bR gm nm s link D cr c' vr runs) 3 4 5 v rs V∧Below B w (w.setCell ⟨bR,5,none⟩ c'):=by
 obtain ⟨h1,h2,h3⟩:=h.Ns;have t:=h.hp.ue (k:=(0,0)) (w':=w.setCell ⟨bR,5,none⟩ c') (.blk bR (BS s link gm cr c') 221) qA (ax w ⟨bR,5,none⟩ c') ⟨h2,heap_setCell_same w bR 5 (BS s link gm cr cF) _ c' h1⟩ (fun g hg=>.inl hg) hB;rw [sX] at t;exact ⟨h.along t,t.bel⟩
theorem RS.Ii (h:RS w B (jY bR gm nm s link D cr cF vr runs) 3 4 5 v rs V):w.ownsRow B 240 4 vr runs.length (aF runs):=h.hp.holds _ _ xw
theorem RS.nA (h:RS w B (jY bR gm nm s link D cr cF vr runs) 3 4 5 v rs V):w.cell? ⟨bR,4,none⟩=some cr∧w.cell? ⟨bR,5,none⟩=some cF∧(∀ j,w.frozen? ⟨bR,j,none⟩=false):=by
 have hb:=h.Ns.1;exact ⟨ah hb 4,ah hb 5,aW hb⟩
end
end Go.Proofs.YtddkjkockbcamaaGreatDoor
namespace Go.Proofs.YtddkjkockbcamaaGreatDoor
open Go.RowKit Go.Maps
attribute [local go_sem] aD av aq
theorem xQ (t:List UInt8):(Ru.enc (Ru.aP t)).length≤4*t.length:=by
 have h1:=(Ru.gf (Ru.aP t)).2;have h2:=Ru.nT t;omega
section
variable {m:Ky→Option Pa}{k:Ks}{C:Value→Value→Pa}{R:Il.Rw}{vi vp:Value}{css:List (List Value)}{w w':World}{B:Nat}
theorem G1 (hk:k.ok) (h:Hq w B m) (hB:B≤w.heap.size) (hg:m k.g=none) (hi:m k.i=none) (hp:m k.p=none) (T:TypeId) :
  bV B m w (aN m k (fun a b=>.blk w.heap.size #[a,b] T) Il.Rw.nil (.slice none 0 0) (.slice none 0 0) []) (w.alloc (.cells #[.slice none 0 0,.slice none 0 0] T)):=by
 have t1:=h.CP (k:=k.g) (w':=w.alloc (.cells #[.slice none 0 0,.slice none 0 0] T)) (.blk w.heap.size #[.slice none 0 0,.slice none 0 0] T) hg (aa w _) ⟨hB,heap_alloc_new _ _⟩ (fun g e=>by cases e;exact Nat.le_refl _) hB;have hB1:=Nat.le_trans hB t1.bel.size;have t2:=t1.hp.CP (k:=k.i) (w':=w.alloc (.cells #[.slice none 0 0,.slice none 0 0] T)) (kX Il.Rw.nil (.slice none 0 0) []) (by rw [aT _ _ hk.gi];exact hi) (Below.refl _ _) (World.ownsRow_nil _ _ _ _) (fun g e=>by cases e) hB1;have t3:=t2.hp.CP (k:=k.p) (w':=w.alloc (.cells #[.slice none 0 0,.slice none 0 0] T)) (mA Il.Rw.nil (.slice none 0 0)) (by rw [aT _ _ hk.ip,aT _ _ hk.gp];exact hp) (Below.refl _ _) (World.ownsRow_nil _ _ _ _) (fun g e=>by cases e) hB1;exact t1.trans (t2.trans t3)
theorem zB (hk:k.ok) (h:Hq w B (aN m k C R vi vp css)) (hg:m k.g=none) (hi:m k.i=none) (hp:m k.p=none) :
  bV B (aN m k C R vi vp css) w m w∧∀ (A:Option Addr) (c:Nat),vi=.slice A R.l.length c→eu w (Fr w B m) 4 A R.l.length css.flatten:=by
 have hsub:∀ q a,m q=some a→aN m k C R vi vp css q=some a:=fun q a hq=>by
  rw [G3 (fun e=>by rw [e,hg] at hq;cases hq) (fun e=>by rw [e,hi] at hq;cases hq) (fun e=>by rw [e,hp] at hq;cases hq)];exact hq
 refine ⟨h.MN id (fun q a hq=>.inl (hsub q a hq)) (fun _ _ _ _ _ _ _ e=>e),fun A c hv=>?_⟩;have ho:w.ownsRow B 35 4 vi R.l.length css.flatten:=h.holds _ _ (gS hk);refine ⟨ho.1,fun hn=>?_⟩;obtain ⟨g,c',hv',_,hBg,F4⟩:=fT ho hn;obtain rfl:A=some ⟨g,0,none⟩:=by rw [hv] at hv';injection hv'
 refine ⟨g,0,rfl,⟨hBg,F4,fun q a hq e=>?_⟩,fun j u hj=>by rw [Nat.zero_add];rw [hv'] at ho;exact aK ho hj⟩;have:=h.apart k.i q _ a g (gS hk) (hsub q a hq) (by rw [hv'];rfl) e;rw [← this,hi] at hq;cases hq
end
section
variable {w w':World}{B bR:Nat}{s:List UInt8}{link:Bool}{st:Il.Sc}{gm nm:Nat}{D:DataW Unit}{vr vF:Value}{rs:List Il.Rw}{V:List V3}{i mk:Nat}
theorem gw (q:Ky) (h:6≤q.1):az (pV bR gm nm s link D vr vF st.runs) 3 4 5 vF rs V q=none:=by
 obtain ⟨a,b⟩:=q;simp only at h;unfold az pV;rw [if_neg (by simp;omega),if_neg (by simp;omega),if_neg (by simp;omega),if_neg (by simp;omega),if_neg (by simp;omega),if_neg (by simp;omega)]
def kKs:Ks:=⟨(9,0),(10,0),(11,0)⟩
theorem rG:kKs.ok:=⟨by decide,by decide,by decide⟩
theorem RD.P9 (h:RD w B bR s link st gm nm D vr vF rs V) (t:bV B (az (pV bR gm nm s link D vr vF st.runs) 3 4 5 vF rs V) w (az (pV bR gm nm s link D vr vF st.runs) 3 4 5 vF rs V) w'):RD w' B bR s link st gm nm D vr vF rs V:=⟨h.rw.along t,h.rel,h.ends⟩
theorem PR (h:bJ w B bR s false st i mk) (ok:Il.fh st i) (hi:i<s.length) (hs:s.length≤4000000) {t:List UInt8}{n:Nat}(hc:Lk.auto s (i:Int)=some (t,n)) (hn:i<n) (YW:Ru.enc (Ru.aP t)≠[]) (Z2:t.length≤4000000) :
  Calls Tryz.prog 194 #[.pointer (some ⟨bR,0,none⟩),.int .i64 (i:Int)] w fun e w'=>e=.returned (.int .i64 (n:Int)) ∧
   bJ w' B bR s false ⟨st.l++[⟨.mk 4 [] t [Il.word (Ru.enc (Ru.aP t))],none,0,0⟩],st.runs⟩ n mk∧Below B w w':=by
 obtain ⟨hB,gm,nm,D,vr,vF,rs,V,hR,hw,hnm⟩:=h;have hl1:=bJ.lJ ok (by omega) hs hR;have xE:=Lib.hid (su s (i:Int) (by omega) w);rw [hc] at xE;unfold fH at xE;obtain ⟨f0,f1,f2,f3,f4,f5,f6⟩:=hR.cells;obtain ⟨g,c,hv,b9⟩:=hR.En (by omega);replace b9:=Lib.hid b9;replace hv:=Lib.hid hv;have QM:bs []=⟨#[]⟩:=rfl;have hwl:=Lib.hid (uJ rs (.mk 4 [] t [Il.word (Ru.enc (Ru.aP t))]));have hcl:=Lib.hid (fun (w1:World) (hb:Below w.heap.size w w1)=>(hR.ext hB hb).cells);have hst:=Lib.hid (fun (w1:World) (hb:Below w.heap.size w w1)=>G1 rG (hR.ext hB hb).rw.hp (Nat.le_trans hB hb.size) (gw _ (by decide)) (gw _ (by decide)) (gw _ (by decide)) 216);have hal:=Lib.hid (fun (w1:World) (hb:Below w.heap.size w w1)=>hR.ext hB hb);replace hR:=Lib.hid hR;go_enter Tryz.func194,Tryz.ntmps194;go_wp2_with fail;refine xE.out.mono ?_;rintro e w1 ⟨rfl,hb1⟩;obtain ⟨c0,c1,c2,c3,c4,c5,c6⟩:=hcl.out w1 hb1;have t1:=hst.out w1 hb1;have hR1:=Lib.hid (hal.out w1 hb1);have hB1:=Nat.le_trans hB hb1.size;replace hb1:=Lib.hid hb1;clear f0 f1 f2 f3 f4 f5 f6 xE hcl hst hal;have hB2:=Nat.le_trans hB1 t1.bel.size;have BY:=Lib.hid (vJ rG (MG _ _) t1.hp hB2 t (by show 0+_≤_;omega));replace t1:=Lib.hid t1;go_wp2_with fail;refine BY.out.mono ?_;rintro e w2 ⟨rfl,vp2,t2⟩;have t12:=Lib.hid (t1.out.trans t2);have jy:=Nat.le_trans hB2 t2.bel.size;have hall:=Lib.hid (j9 rG (MG _ _) t2.hp (show gB _ _ [] [] from p4) jy (by show (([]:List UInt8)++Ru.enc (Ru.aP t)).length≤_;have:=(xQ t);simp only [List.nil_append];omega) (by show 0≤_;omega));obtain ⟨d0,d1,d2,d3,d4,d5,d6⟩:=(hR1.out.P9 (t12.out.trans (zB rG t2.hp (gw _ (by decide)) (gw _ (by decide)) (gw _ (by decide))).1)).cells;clear t2 c0 c1 c2 c3 c4 c5 c6 BY t1;have hfull:(Il.Rw.nil.say (Ru.enc (Ru.aP t))).full=[Il.word (Ru.enc (Ru.aP t))]:=by
  unfold Il.Rw.full Il.Rw.say;rw [if_neg (by simpa [Il.Rw.nil] using YW)]
  rfl
 rw [hfull] at hall;go_wp2_with fail;refine (b9.out _).mono ?_;rintro e w2' ⟨rfl,rfl⟩;go_wp2_with fail;refine hall.out.mono ?_;rintro e w3 ⟨vi3,rfl,vp3,css3,t3,pF⟩;have Tu:=t3.hp.holds _ _ (gS rG);obtain ⟨A3,c3,rfl,hc3⟩:=ak (show w3.ownsRow B 35 4 vi3 [Il.word (Ru.enc (Ru.aP t))].length css3.flatten from Tu);obtain ⟨t4,hrow4⟩:=zB rG t3.hp (gw _ (by decide)) (gw _ (by decide)) (gw _ (by decide));have tot:=t12.out.trans (t3.trans t4);have nN:=hR1.out.P9 tot;have tr:=Nat.le_trans hB1 tot.bel.size;have hput:=Lib.hid (Ba nN tr 4 (by decide) [] t [Il.word (Ru.enc (Ru.aP t))] A3 c3 (by omega) hv.out (by
  unfold IC;exact ⟨A3,c3,css3,rfl,hc3,hrow4 A3 c3 rfl,t4.kids pF⟩))
 have hbel:=Lib.hid ((hb1.out.mono hB).trans tot.bel);clear pF Tu hrow4 t4 t3 tot nN t12 hall d0 d1 d2 d3 d4 d5 d6;go_wp2_with fail;refine hput.out.mono ?_;rintro e w4 ⟨rfl,V',LM,hb4⟩;have hb:=Lib.hid (hbel.out.trans hb4);replace LM:=Lib.hid LM;clear hb4 hput;go_wp2;go_ret;exact ⟨rfl,⟨Nat.le_trans hB hb.out.size,gm,nm,D,vr,_,_,V',LM.out,by have h9:=hwl.out;simp only [Il.eS,List.length_nil] at h9;omega,by omega⟩,hb.out⟩
end
section
variable {w w':World}{B bR:Nat}{s:List UInt8}{link:Bool}{st:Il.Sc}{gm nm:Nat}{D:DataW Unit}{vr vF:Value}{rs:List Il.Rw}{V:List V3}{i mk mk':Nat}
def Gk:Option Nat→Value
 | none=>.tuple #[.int .i64 0,.bool false]
 | some j=>.tuple #[.int .i64 (j:Int),.bool true]
def qz (w:World) (B bR:Nat) (s:List UInt8) (st:Il.Sc) (i mk':Nat) (e:Ending) (w':World):Prop :=
 e=.returned (Gk (Lk.close s (i:Int)))∧bJ w' B bR s false st i mk'∧Below B w w'
theorem Nu (h:bJ w B bR s false st i mk) (ok:Il.fh st i) (hi:i<s.length) (hs:s.length≤4000000) (hc:Lk.close s (i:Int)=none)
  (hE:Calls Tryz.prog 222 #[.pointer (some ⟨bR,2,none⟩),.int .i64 (i:Int)] w (qz w B bR s st i mk')) :
  Calls Tryz.prog 195 #[.pointer (some ⟨bR,0,none⟩),.int .i64 (i:Int)] w fun e w'=>e9 w B bR s false st i mk' e w':=by
 have hpl:=Lib.hid (fun (w1:World) (hr:bJ w1 B bR s false st i mk')=>(show Calls _ _ _ _ (fun e w'=>e9 w1 B bR s false st i mk' e w') from kJ hr ok hi hs));unfold e9 at hpl ⊢;unfold qz at hE;rw [hc] at hE;unfold Gk at hE;replace hE:=Lib.hid hE;obtain ⟨f0,f1,f2⟩:=h.cells;clear h;obtain ⟨en,hen⟩:∃ en,en=Es.next s i:=⟨_,rfl⟩
 rw [← hen] at hpl ⊢;clear hen;go_enter Tryz.func195,Tryz.ntmps195;go_wp2_with fail;refine hE.out.mono ?_;rintro e w1 ⟨rfl,hr1,hb1⟩;replace hr1:=Lib.hid hr1;replace hb1:=Lib.hid hb1;clear hE f0 f1 f2;go_wp2_with fail;refine (hpl.out _ hr1.out).mono ?_;rintro e w2 ⟨rfl,hr2,hb2⟩;replace hr2:=Lib.hid hr2;have hb:=Lib.hid (hb1.out.trans hb2);clear hpl hb2;go_wp2;go_ret;exact ⟨rfl,hr2.out,hb.out⟩
theorem Pw (h:bJ w B bR s false st i mk) (ok:Il.fh st i) (hi:i<s.length) (hs:s.length≤4000000) {j:Nat}(hc:Lk.close s (i:Int)=some j) (hj:j<s.length) (hd:Lk.dest s ((j:Int)+1)=none)
  (hE:Calls Tryz.prog 222 #[.pointer (some ⟨bR,2,none⟩),.int .i64 (i:Int)] w (qz w B bR s st i mk')) :
  Calls Tryz.prog 195 #[.pointer (some ⟨bR,0,none⟩),.int .i64 (i:Int)] w fun e w'=>e9 w B bR s false st i mk' e w':=by
 have hpl:=Lib.hid (fun (w1:World) (hr:bJ w1 B bR s false st i mk')=>(show Calls _ _ _ _ (fun e w'=>e9 w1 B bR s false st i mk' e w') from kJ hr ok hi hs));unfold e9 at hpl ⊢;unfold qz at hE;rw [hc] at hE;unfold Gk at hE;replace hE:=Lib.hid hE;have hds:=Lib.hid (fun w=>zF s ((j:Int)+1) (by omega) w);rw [hd] at hds;unfold fH at hds;obtain ⟨f0,f1,f2⟩:=h.cells;clear h;obtain ⟨en,hen⟩:∃ en,en=Es.next s i:=⟨_,rfl⟩
 rw [← hen] at hpl ⊢;clear hen;go_enter Tryz.func195,Tryz.ntmps195;go_wp2_with fail;refine hE.out.mono ?_;rintro e w1 ⟨rfl,hr1,hb1⟩;obtain ⟨c0,c1,c2⟩:=hr1.cells;have hB1:=hr1.size;replace hr1:=Lib.hid hr1;replace hb1:=Lib.hid hb1;clear hE f0 f1 f2;go_wp2_with fail;refine (hds.out _).mono ?_;rintro e w2 ⟨rfl,hb2⟩;have hr2:=Lib.hid (hr1.out.ext hb2);have xV:=Lib.hid (hb1.out.trans (hb2.mono hB1));clear hb2 hds c0 c1 c2;go_wp2_with fail;refine (hpl.out _ hr2.out).mono ?_;rintro e w3 ⟨rfl,hr3,hb3⟩;replace hr3:=Lib.hid hr3;have hb:=Lib.hid (xV.out.trans hb3);clear hpl hb3;go_wp2;go_ret;exact ⟨rfl,hr3.out,hb.out⟩
end
end Go.Proofs.YtddkjkockbcamaaGreatDoor
namespace Go.Proofs.YtddkjkockbcamaaGreatDoor
open Go.Maps
theorem Mj {l:List UInt8}{i:Nat}(hi:i<l.length) (ho:(Es.next l i).2.2=false) {c:Nat}(h:(Es.next l i).1=c) (hc:c<128) (jW:c≠96) (eB:c≠60):Lk.sign l i=c∧Lk.hop l i=i+1∧l[i].toNat=c∧(Es.next l i).2.1=i+1:=by
 obtain ⟨h1,h2⟩:=((oX hi).2 ho).2.2 (by omega) (by omega);rcases qT hi ho with ⟨h3,h4,h5⟩ | ⟨h3,h4⟩
 ·exact ⟨by rw [h2,h],by rw [h1,h5],by omega,h5⟩
 ·omega
theorem QY {l:List UInt8}{i:Nat}(hi:i<l.length) {c:Nat}(h:Lk.sign l i=c) (h0:c=91∨c=93):(Es.next l i).2.2=false∧(Es.next l i).1=c:=by
 obtain ⟨s1,s2⟩:=oX hi;cases ho:(Es.next l i).2.2 with
 | true=>have:=(s1 ho).2;omega
 | false =>
  obtain ⟨t1,t2,t3⟩:=s2 ho;refine ⟨rfl,?_⟩
  by_cases jW:(Es.next l i).1=96
  ·have:=(t1 jW).2;omega
  by_cases eB:(Es.next l i).1=60
  ·have:=(t2 eB).2;omega
  have:=(t3 jW eB).2;omega
theorem Lk.wS {l:List UInt8}{i:Nat}(hi:i<l.length) (h:Lk.sign l i=91∨Lk.sign l i=93):Lk.hop l i=i+1:=by
 obtain ⟨h1,h2⟩:=QY hi rfl h;exact (Mj hi h1 h2 (by omega) (by omega) (by omega)).2.1
theorem Lk.jN {l:List UInt8}:∀ (n i c j d:Nat),l.length≤n+i→Lk.closes l i c=some j→Lk.closes l i (c+1+d)=Lk.closes l (j+1) d
 | 0,i,c,j,d,hn,h=>by rw [Lk.gJ (by omega)] at h;cases h
 | n+1,i,c,j,d,hn,h=>by
  by_cases hi:i<l.length
  ·have hm:=Lk.jk hi
   by_cases KY:Lk.sign l i=93
   ·cases c with
    | zero =>
     rw [Lk.pq hi KY] at h;injection h with h;subst h;rw [show 0+1+d=d+1 by omega,Lk.fA hi KY,Lk.wS hi (.inr KY)]
    | succ c =>
     rw [Lk.fA hi KY] at h;rw [show c+1+1+d=(c+1+d)+1 by omega,Lk.fA hi KY];exact Lk.jN n _ c j d (by omega) h
   ·by_cases mI:Lk.sign l i=91
    ·rw [Lk.gO hi mI] at h
     rw [Lk.gO hi mI,show c+1+d+1=(c+1)+1+d by omega];exact Lk.jN n _ (c+1) j d (by omega) h
    ·rw [Lk.ko hi KY mI] at h
     rw [Lk.ko hi KY mI];exact Lk.jN n _ c j d (by omega) h
  ·rw [Lk.gJ (by omega)] at h;cases h
theorem Lk.iM {l:List UInt8}:∀ (n i c d:Nat),l.length≤n+i→Lk.closes l i c=none→Lk.closes l i (c+d)=none
 | 0,i,c,d,hn,_=>Lk.gJ (by omega)
 | n+1,i,c,d,hn,h=>by
  by_cases hi:i<l.length
  ·have hm:=Lk.jk hi
   by_cases KY:Lk.sign l i=93
   ·cases c with
    | zero=>rw [Lk.pq hi KY] at h;cases h
    | succ c =>
     rw [Lk.fA hi KY] at h;rw [show c+1+d=(c+d)+1 by omega,Lk.fA hi KY];exact Lk.iM n _ c d (by omega) h
   ·by_cases mI:Lk.sign l i=91
    ·rw [Lk.gO hi mI] at h
     rw [Lk.gO hi mI,show c+d+1=(c+1)+d by omega];exact Lk.iM n _ (c+1) d (by omega) h
    ·rw [Lk.ko hi KY mI] at h
     rw [Lk.ko hi KY mI];exact Lk.iM n _ c d (by omega) h
  ·exact Lk.gJ (by omega)
def Open (s:List UInt8) (i:Nat) (l:List Nat):Prop:=∀ (k a:Nat),l[k]? = some a→(a<i∧a<s.length∧s.getD a 0=91)∧Lk.close s (a:Int)=Lk.closes s i (l.length-1-k)
theorem Open.nil (s:List UInt8) (i:Nat):Open s i []:=fun k a h=>by simp at h
theorem Open.hop {s:List UInt8}{i:Nat}{l:List Nat}(h:Open s i l) (hi:i<s.length) (h1:Lk.sign s i≠91) (h2:Lk.sign s i≠93):Open s (Lk.hop s i) l:=fun k a ha=>by
 obtain ⟨h3,h4⟩:=h k a ha;have:=Lk.jk hi;exact ⟨⟨by omega,h3.2⟩,by rw [h4,Lk.ko hi h2 h1]⟩
theorem Open.up {s:List UInt8}{i:Nat}{l:List Nat}(h:Open s i l) (hi:i<s.length) (h1:Lk.sign s i=91) (h2:s.getD i 0=91):Open s (i+1) (l++[i]):=fun k a ha=>by
 have hl:(l++[i]).length=l.length+1:=by simp
 rcases Nat.lt_or_ge k l.length with hk | hk
 ·rw [List.getElem?_append_left hk] at ha
  obtain ⟨h3,h4⟩:=h k a ha;refine ⟨⟨by omega,h3.2⟩,?_⟩;rw [h4,Lk.gO hi h1,Lk.wS hi (.inl h1),hl,show l.length-1-k+1=l.length+1-1-k by omega]
 ·rw [List.getElem?_append_right hk] at ha
  have hk2:k-l.length=0:=by
   rcases Nat.eq_zero_or_pos (k-l.length) with h | h
   ·exact h
   ·rw [List.getElem?_eq_none (by simp;omega)] at ha;cases ha
  rw [hk2] at ha;simp only [List.getElem?_cons_zero,Option.some.injEq] at ha;subst ha;refine ⟨⟨by omega,hi,h2⟩,?_⟩;rw [Lk.qa hi h2,hl,show l.length+1-1-k=0 by omega]
theorem Open.down {s:List UInt8}{i:Nat}{l:List Nat}{a:Nat}(h:Open s i (l++[a])) (hi:i<s.length) (h1:Lk.sign s i=93):Open s (i+1) l∧closing s a=i∧a<s.length∧s.getD a 0=91:=by
 have hl:(l++[a]).length=l.length+1:=by simp
 constructor
 ·intro k b hb
  have hk:=(List.getElem?_eq_some_iff.1 hb).1;obtain ⟨h3,h4⟩:=h k b (by rw [List.getElem?_append_left hk];exact hb);refine ⟨⟨by omega,h3.2⟩,?_⟩;rw [h4,hl,show l.length+1-1-k=(l.length-1-k)+1 by omega,Lk.fA hi h1,Lk.wS hi (.inr h1)]
 ·obtain ⟨h3,h4⟩:=h l.length a (by simp)
  rw [hl,show l.length+1-1-l.length=0 by omega,Lk.pq hi h1] at h4;unfold closing;rw [h4];exact ⟨rfl,h3.2⟩
theorem Open.over {s:List UInt8}{i:Nat}{l:List Nat}(h:Open s i l) (hi:i<s.length) (h1:Lk.sign s i=91) (h2:s.getD i 0=91):Open s (closing s i+1) l∧i<closing s i+1∧closing s i≤s.length:=by
 unfold closing;have hc:=Lk.qa hi h2;cases hq:Lk.close s (i:Int) with
 | none =>
  rw [hq] at hc;refine ⟨fun k a ha=>?_,by simp only [Option.getD_none];omega,Nat.le_refl _⟩;obtain ⟨h3,h4⟩:=h k a ha;simp only [Option.getD_none];refine ⟨⟨by omega,h3.2⟩,?_⟩;rw [h4,Lk.gO hi h1,Lk.wS hi (.inl h1),Lk.gJ (show s.length≤s.length+1 by omega)];have:=Lk.iM s.length (i+1) 0 (l.length-1-k+1) (by omega) hc.symm;rwa [Nat.zero_add] at this
 | some j =>
  rw [hq] at hc;have hj:=Il.dK _ _ _ _ (show Lk.gu _ s (i+1) 0=some j from hc.symm);refine ⟨fun k a ha=>?_,by simp only [Option.getD_some];omega,by simp only [Option.getD_some];omega⟩;obtain ⟨h3,h4⟩:=h k a ha;simp only [Option.getD_some];refine ⟨⟨by omega,h3.2⟩,?_⟩;rw [h4,Lk.gO hi h1,Lk.wS hi (.inl h1)];have:=Lk.jN s.length (i+1) 0 j (l.length-1-k) (by omega) hc.symm;rwa [show 0+1+(l.length-1-k)=l.length-1-k+1 by omega] at this
theorem Open.out {s:List UInt8}{i:Nat}{l:List Nat}(h:Open s i l) (hi:s.length≤i) {k a:Nat}(ha:l[k]? = some a):closing s a=s.length∧a<s.length∧s.getD a 0=91:=by
 obtain ⟨h3,h4⟩:=h k a ha;rw [Lk.gJ hi] at h4;unfold closing;rw [h4];exact ⟨rfl,h3.2⟩
theorem qp (i:Int):Go.WideAt.IsKeyLit (.int .i64 i):=trivial
theorem jt.put {s:List UInt8}{D:DataW Unit}(h:jt s D) (hD:Go.Maps.IsMap D) {a c:Nat}(hc:closing s a=c) (ha:a<s.length) (mI:s.getD a 0=91):jt s (D.put (.int .i64 (a:Int)) (.lit (.int .i64 (c:Int)))):=fun i hi=>by
 by_cases hia:i=a
 ·subst hia
  rw [Go.Maps.atKey_put_same hD (qp _),hc];exact ⟨⟨ha,mI⟩,rfl⟩
 ·have hne:(Lit.int .i64 (i:Int)) ≠ .int .i64 (a:Int):=fun e=>by injection e with _ e;omega
  rw [Go.Maps.has_put_other hne] at hi;rw [Go.Maps.atKey_put_other hne];exact h i hi
end Go.Proofs.YtddkjkockbcamaaGreatDoor
namespace Go.Proofs.YtddkjkockbcamaaGreatDoor
open Go.RowKit Go.Maps
attribute [local go_sem] aD av aq
theorem dm:Keyed Tryz.prog 3:=int_keyed Tryz.underlying3
theorem fj (w:World):(zeroValue 3).run Tryz.prog w=.ok (.int .i64 0) w:=by kernel_rfl
theorem W8 {n:Nat}(h:n≤5000000):(Lit.int .i64 (n:Int)).wf=true:=by
 show (decide (IntKind.i64.min≤(n:Int))&&decide ((n:Int)≤IntKind.i64.max))=true;have h1:IntKind.i64.min = -9223372036854775808:=by decide
 have h2:IntKind.i64.max=9223372036854775807:=by decide
 rw [h1,h2,Bool.and_eq_true,decide_eq_true_iff,decide_eq_true_iff];omega
theorem MM {n:Nat}(h:n≤5000000):keyOf Tryz.prog 3 (.int .i64 (n:Int))=some (.int .i64 (n:Int)):=keyOf_int_mk Tryz.underlying3 (W8 h)
theorem wM {ops:Array Oper}{Q:Exit→Act→World→Prop}{S:World→Prop}{i:Nat}{r:OT}{a:Act}{w:World}{o:Oper}(ho:ops[i]? = some o) (hw:Region.wanted o (yielded ops a.tmps)=true) (mo x v:Operand)
  (hop:o.op=.mapUpdate 212 mo x v) {gm n:Nat}{D:DataW Unit}(hm:a.eval mo=.map (some gm)) (hown:l5 w gm n D) (hn:n≤1000000000000000) {p c:Nat}(hp:p≤5000000) (hc:c≤5000000)
  (hx:a.eval x=.int .i64 (p:Int)) (hv:a.eval v=.int .i64 (c:Int))
  (h:∀ w',l5 w' gm (n+1) (D.put (.int .i64 (p:Int)) (.lit (.int .i64 (c:Int))))→w.grownBy w' (some gm)→S w'∧th Tryz.prog ops Q r S (a.put o.dst undef) w'):th Tryz.prog ops Q (.mk i r) S a w:=by
 obtain ⟨w',hrun,r1,r2⟩:=World.ownsMap.update hown dm Tryz.underlying212 (by unfold maxLen;omega) (MM hp) (plainElem_int Tryz.underlying3 (W8 hc));obtain ⟨h1,h2⟩:=h w' r1 r2;refine bg ho hw ?_ h1 h2;unfold execOp;rw [hop];simp [hm,hx,hv,hrun,Result.andThen]
theorem JV {w:World}{B g n c:Nat}{E:TypeId}{xs:List Value}{z:Value}(h:w.ownsRow B E 1 (.slice (some ⟨g,0,none⟩) (n+1) c) (n+1) (xs++[z])):w.ownsRow B E 1 (.slice (some ⟨g,0,none⟩) n c) n xs:=by
 have hl:=h.1;rw [List.length_append,List.length_singleton] at hl;refine ⟨by omega,?_⟩;rcases h.2 with ⟨e,_⟩ | ⟨g',cap,cur,e,h1,h2,h3,h4,h5,h6⟩
 ·simp at e
 ·injection e with e1 e2 e3
  injection e1 with e1;injection e1 with e1;subst e1 e3;refine .inr ⟨g,c,cur,rfl,h1,h2,by omega,h4,h5,?_⟩;have:(cur.toList.take ((n+1)*1)).take n=(xs++[z]).take n:=by rw [h6]
  rw [List.take_take,show min n ((n+1)*1)=n*1 by omega,List.take_left' (by omega)] at this;exact this
theorem N4 (g n c hi:Nat) {v:Int}(hv:v=(hi:Int)) (h2:hi≤c) (w:World) :
  (Instr.slice 23 (.slice (some ⟨g,0,none⟩) n c) none (some (.int .i64 v)) none).run Tryz.prog w=.ok (.slice (some ⟨g,0,none⟩) hi c) w :=
 vj (by kernel_rfl) 1 (fun w=>by kernel_rfl) g n c hi hv h2 w
def My (m:Ky→Option Pa) (gm n:Nat) (D:DataW Unit) (v:Value) (l:List Nat):Ky→Option Pa:=uq (uq m (2,0) (.map gm n D)) (6,0) (.row 3 1 v l.length (aB l))
structure Sk (w0 w:World) (B:Nat) (m:Ky→Option Pa) (gm n:Nat) (D:DataW Unit) (v:Value) (l:List Nat):Prop where
 t:bV B m w0 (My m gm n D v l) w
 le:B≤w.heap.size
section
variable {w0 w w':World}{B gm n:Nat}{m:Ky→Option Pa}{D:DataW Unit}{v:Value}{l:List Nat}
theorem Tk:My m gm n D v l (6,0)=some (.row 3 1 v l.length (aB l)):=by unfold My;rw [dO]
theorem N7:My m gm n D v l (2,0)=some (.map gm n D):=by unfold My;rw [aT _ _ (by decide),dO]
theorem Ye:My m gm n D v l (0,0)=m (0,0):=by unfold My;rw [aT _ _ (by decide),aT _ _ (by decide)]
theorem Sk.start (h:Hq w B m) (hB:B≤w.heap.size) (h2:m (2,0)=some (.map gm n D)) (h6:m (6,0)=none):Sk w w B m gm n D (.slice none 0 0) []:=by
 refine ⟨?_,hB⟩;unfold My;rw [SM h2];exact h.CP _ h6 (Below.refl _ _) (World.ownsRow_nil _ _ _ _) (fun g hg=>by cases hg) hB
theorem Sk.call (h:Sk w0 w B m gm n D v l) (hb:Below w.heap.size w w'):Sk w0 w' B m gm n D v l:=⟨h.t.trans (h.t.hp.call h.le hb),Nat.le_trans h.le hb.size⟩
theorem Sk.drew (h:Sk w0 w B m gm n D v l):Sk w0 w.drew B m gm n D v l:=⟨h.t.trans h.t.hp.mM,h.le⟩
theorem Sk.cells (h:Sk w0 w B m gm n D v l) {bR:Nat}{cs:Array Value}{T:TypeId}(h0:m (0,0)=some (.blk bR cs T)):bR<w.heap.size∧∀ j u,cs[j]? = some u→w.cell? ⟨bR,j,none⟩=some u:=by
 have h1:=h.t.hp.holds (0,0) _ (Ye.trans h0);refine ⟨(Array.getElem?_eq_some_iff.1 h1.2).1,fun j u hj=>?_⟩;rw [ah h1.2 j];exact hj
theorem Sk.own (h:Sk w0 w B m gm n D v l):w.ownsRow B 3 1 v l.length (aB l):=h.t.hp.holds (6,0) _ Tk
theorem Sk.map (h:Sk w0 w B m gm n D v l):l5 w gm n D:=(h.t.hp.holds (2,0) _ N7).2
theorem Sk.row (h:Sk w0 w B m gm n D v l) (l':List Nat) {v':Value}(hg:w.grownBy w' v.ownBlock) (ho:w'.ownsRow B 3 1 v' l'.length (aB l')) (hat:At w.heap.size v v'):Sk w0 w' B m gm n D v' l':=by
 have t:=h.t.hp.ue (k:=(6,0)) (.row 3 1 v' l'.length (aB l')) Tk hg ho hat h.le;unfold My at t;rw [vC] at t;exact ⟨h.t.trans t,Nat.le_trans h.le hg.size⟩
theorem Sk.put (h:Sk w0 w B m gm n D v l) {D':DataW Unit}{n':Nat}(hg:w.grownBy w' (some gm)) (ho:l5 w' gm n' D'):Sk w0 w' B m gm n' D' v l:=by
 have t:=h.t.hp.ue (k:=(2,0)) (.map gm n' D') N7 hg ⟨(h.t.hp.holds (2,0) _ N7).1,ho⟩ (fun g hg=>.inl hg) h.le;unfold My at t;rw [lS _ (show ((6,0):Ky)≠(2,0) by decide),vC] at t;exact ⟨h.t.trans t,Nat.le_trans h.le hg.size⟩
theorem Sk.cut {g c:Nat}{a:Nat}(h:Sk w0 w B m gm n D (.slice (some ⟨g,0,none⟩) (l.length+1) c) (l++[a])):Sk w0 w B m gm n D (.slice (some ⟨g,0,none⟩) l.length c) l:=by
 refine h.row l (World.grownBy.refl w _) ?_ (fun g' hg'=>.inl hg');have ho:=h.own;rw [jU,List.length_append,List.length_singleton] at ho;exact JV ho
theorem Sk.done (h:Sk w0 w B m gm n D v l) (h6:m (6,0)=none):bV B m w0 (uq m (2,0) (.map gm n D)) w:=by
 refine h.t.trans (h.t.hp.MN id (fun k a ha=>.inl ?_) (fun _ _ _ _ _ _ _ e=>e))
 by_cases hk:k=(6,0)
 ·subst hk
  rw [aT _ _ (by decide),h6] at ha;cases ha
 ·unfold My
  rw [id,aT _ _ hk];exact ha
theorem Sk.isMap (h:Sk w0 w B m gm n D v l):IsMap D:=World.ownsMap.isMap h.map
end
structure iu (s:List UInt8) (i0 i:Nat) (l:List Nat) (D:DataW Unit) (n n0:Nat):Prop where
 op:Open s i l
 ends:jt s D
 nil:l=[]→i=i0∧Maps.has D (.int .i64 (i0:Int))=false
 head:l≠[]→l[0]? = some i0
 cnt:n+l.length≤n0+i
 len:l.length≤i
section
variable {s:List UInt8}{i0 i:Nat}{l:List Nat}{D:DataW Unit}{n n0:Nat}
theorem iu.on (h:iu s i0 i l D n n0) (hl:l≠[]) {j:Nat}(hj:i≤j) (ho:Open s j l):iu s i0 j l D n n0 :=
 ⟨ho,h.ends,fun e=>absurd e hl,h.head,by have:=h.cnt;omega,by have:=h.len;omega⟩
theorem iu.push (h:iu s i0 i l D n n0) (hi:i<s.length) (h1:Lk.sign s i=91) (h2:s.getD i 0=91):iu s i0 (i+1) (l++[i]) D n n0:=by
 refine ⟨h.op.up hi h1 h2,h.ends,fun e=>by simp at e,fun _=>?_,by rw [List.length_append,List.length_singleton];have:=h.cnt;omega,by rw [List.length_append,List.length_singleton];have:=h.len;omega⟩;cases l with
 | nil=>rw [(h.nil rfl).1];rfl
 | cons a r=>exact h.head (by simp)
theorem iu.pop {a:Nat}(h:iu s i0 i (l++[a]) D n n0) (hD:IsMap D) (hi:i<s.length) (h1:Lk.sign s i=93) :
  jt s (D.put (.int .i64 (a:Int)) (.lit (.int .i64 (i:Int))))∧(l=[]→a=i0)∧(l≠[]→iu s i0 (i+1) l (D.put (.int .i64 (a:Int)) (.lit (.int .i64 (i:Int)))) (n+1) n0):=by
 obtain ⟨k1,k2,k3,k4⟩:=h.op.down hi h1;have ke:=h.ends.put hD k2 k3 k4;have hh:=h.head (by simp);refine ⟨ke,fun e=>?_,fun hl=>⟨k1,ke,fun e=>absurd e hl,fun _=>?_,?_,?_⟩⟩
 ·subst e;simpa using hh
 ·rwa [List.getElem?_append_left (List.length_pos_iff.2 hl)] at hh
 ·have:=h.cnt;rw [List.length_append,List.length_singleton] at this;omega
 ·have:=h.len;rw [List.length_append,List.length_singleton] at this;omega
end
theorem JH {m:Ky→Option Pa}{B bR gm n0 i0:Nat}{s:List UInt8}{D0:DataW Unit}{cs:Array Value}{T:TypeId}{w:World}(h:Hq w B m) (hB:B≤w.heap.size) (h0:m (0,0)=some (.blk bR cs T)) (hc2:cs[2]? = some (.string (bs s))) (hc3:cs[3]? = some (.map (some gm)))
  (h2:m (2,0)=some (.map gm n0 D0)) (h6:m (6,0)=none) (he:jt s D0) (hi0:i0<s.length) (mI:s[i0]=91) (hno:Maps.has D0 (.int .i64 (i0:Int))=false) (hn0:n0≤100000000000000) (hs:s.length≤4000000) :
  Calls Tryz.prog 236 #[.pointer (some ⟨bR,2,none⟩),.int .i64 (i0:Int)] w fun e w'=>e=.returned (.tuple #[])∧∃ (n:Nat) (D:DataW Unit),bV B m w (uq m (2,0) (.map gm n D)) w'∧jt s D∧Maps.has D (.int .i64 (i0:Int))=true∧n≤n0+s.length+1:=by
 have hst:=Lib.hid (Sk.start h hB h2 h6);have hiv:Hid (iu s i0 i0 [] D0 n0 n0):=Lib.hid ⟨Open.nil _ _,he,fun _=>⟨rfl,hno⟩,fun e=>absurd rfl e,by simp,by simp⟩;have hsz:=au s;have hcl:=Lib.hid (fun (wr:World) (n:Nat) (D:DataW Unit) (v:Value) (l:List Nat) (k:Sk w wr B m gm n D v l)=>(show bR<wr.heap.size∧wr.cell? ⟨bR,2,none⟩=some (.string (bs s))∧wr.cell? ⟨bR,3,none⟩=some (.map (some gm)) from ⟨(k.cells h0).1,(k.cells h0).2 2 _ hc2,(k.cells h0).2 3 _ hc3⟩));have aL:=Lib.hid (fun (wr:World) (n:Nat) (D:DataW Unit) (v:Value) (l:List Nat) (k:Sk w wr B m gm n D v l)=>k.done h6);have Qy:=Lib.hid (fun (i:Nat) (hi:i<s.length) (w:World) h1 h2=>Ee bR 2 s i hi hs w h1 h2);replace mI:=Lib.hid mI;clear h h0 hc2 hc3 h2 h6 he hno;go_enter Tryz.func236,Tryz.ntmps236;go_wp2_with fail
 go_loopw [1,4] (fun u v wr=>∃ (i:Nat) (l:List Nat) (n:Nat) (D:DataW Unit),i≤s.length+1∧u=.int .i64 (i:Int)∧Hid (Sk w wr B m gm n D v l)∧Hid (iu s i0 i l D n n0)) (fun u _ _=>s.length+1-(intOf u).toNat)
 case atStart=>exact ⟨i0,[],n0,D0,by omega,rfl,hst,hiv⟩
 case round =>
  obtain ⟨i,l,n,D,hi1,rfl,hk,hI⟩:=hrel;obtain ⟨hlt,c2,c3⟩:=hcl.out _ _ _ _ _ hk.out;clear hst hiv
  by_cases hil:i<s.length
  ·have q2:=fun w=>oe s (i:Int) (by omega) w trivial
   rw [Int.toNat_natCast] at q2;unfold mj at q2;have hmo:=Es.eP hil;have uv:=oX hil;have hrd:=@Mj s i hil;have hbyte:∀ c:UInt8,c.toNat<128→(Es.next s i).2.2=false→((Es.next s i).1=c.toNat↔s[i]=c):=fun c hc ho=>je hil ho hc;have pS:=Lib.hid hI.out.cnt;have uU:=hI.out.len;have hkey:=MM (n:=i) (by omega);have gG:l=[]→(Es.next s i).2.2=false∧(Es.next s i).1=91∧Maps.has D (.int .i64 (i:Int))=false:=fun e=>by
    obtain ⟨e1,e2⟩:=hI.out.nil e;subst e1;have ho:(Es.next s i).2.2=false:=by
     cases ho:(Es.next s i).2.2 with
     | false=>rfl
     | true=>have:=DY hil ho;rw [mI.out] at this;exact absurd this (by decide)
    exact ⟨ho,(hbyte 91 (by decide) ho).2 mI.out,e2⟩
   have zl:Maps.has D (.int .i64 (i:Int))=true→s[i]=91∧D.atKey (.int .i64 (i:Int)) (.lit (.int .i64 0))=.lit (.int .i64 (closing s i:Int)):=fun e=>by
    have:=hI.out.ends i e;refine ⟨?_,this.2⟩;have h3:=this.1.2;rwa [getD_at hil] at h3
   obtain ⟨⟨r,nx,its⟩,hN⟩:∃ x,x=Es.next s i:=⟨_,rfl⟩
   rw [← hN] at q2 hmo uv hrd hbyte gG;simp only at q2 hmo uv hrd hbyte gG;clear hN;obtain ⟨kn,hkn⟩:∃ kn,Maps.has D (.int .i64 (i:Int))=kn:=⟨_,rfl⟩
   replace hcl:=Lib.hid hcl;replace uv:=Lib.hid uv;replace hrd:=Lib.hid hrd;replace hbyte:=Lib.hid hbyte;replace gG:=Lib.hid gG;replace zl:=Lib.hid zl;replace aL:=Lib.hid aL;replace Qy:=Lib.hid Qy;cases its with
   | true =>
    have hl:l≠[]:=fun e=>by have:=(gG.out e).1;cases this
    obtain ⟨j1,j2⟩:=uv.out.1 rfl;have hn2:Hid (iu s i0 nx l D n n0):=Lib.hid (hI.out.on hl (by omega) (by
     have:=hI.out.op.hop hil (by rw [j2];decide) (by rw [j2];decide);rwa [j1] at this))
    replace hl:=Lib.hid hl;clear j1 j2 uv hrd hbyte gG zl hI Qy aL;go_wp2_with fail;refine (q2 _).mono ?_;rintro e w2 ⟨rfl,hb2⟩;have k2:=Lib.hid (hk.out.call hb2);obtain ⟨hlt2,d2,d3⟩:=hcl.out.out _ _ _ _ _ k2.out;have hmap:=Lib.hid k2.out.map;clear hb2 q2 c2 c3 hlt;go_wp2_with (at_lookup;refine wpList_lookup_own_ok_int _ rfl _ _ 212 rfl 3 3 .i64 dm Tryz.underlying212 Tryz.underlying3 (fj _) gm n D rfl hmap.out _ _ rfl hkey ?_;intro c hat hwc;rw [hkn];replace hat:=Lib.hid hat;clear hwc)
    go_roundw
    case rel=>exact ⟨nx,l,n,D,by omega,rfl,k2,hn2⟩
    case measure=>simp [intOf];omega
   | false =>
    cases kn with
    | true =>
     have hl:l≠[]:=fun e=>by have:=(gG.out e).2.2;rw [hkn] at this;cases this
     obtain ⟨e1,e2⟩:=zl.out hkn;have er:r=91:=(hbyte.out 91 (by decide) rfl).2 e1;have es:=hrd.out rfl er (by decide) (by decide) (by decide);obtain ⟨o1,o2,o3⟩:=hI.out.op.over hil es.1 (by rw [getD_at hil];exact e1);obtain ⟨H,hH⟩:∃ H,H=closing s i:=⟨_,rfl⟩
     rw [← hH] at o1 o2 o3 e2;have hn2:Hid (iu s i0 (H+1) l D n n0):=Lib.hid (hI.out.on hl (by omega) o1);have e2h:=Lib.hid e2;clear o1 e1 er es e2 hH hl uv hrd hbyte gG zl hI Qy aL;go_wp2_with fail;refine (q2 _).mono ?_;rintro e w2 ⟨rfl,hb2⟩;have k2:=Lib.hid (hk.out.call hb2);obtain ⟨hlt2,d2,d3⟩:=hcl.out.out _ _ _ _ _ k2.out;have hmap:=Lib.hid k2.out.map;clear hb2 q2 c2 c3 hlt;go_wp2_with (at_lookup;refine wpList_lookup_own_ok_int _ rfl _ _ 212 rfl 3 3 .i64 dm Tryz.underlying212 Tryz.underlying3 (fj _) gm n D rfl hmap.out _ _ rfl hkey ?_;intro c hat hwc;rw [hkn];have hcc:c=(H:Int):=(by have h9:=hat.symm.trans e2h.out;injection h9 with h9;injection h9);have VZ:0≤c:=(by omega);have acR:c≤4000000:=(by omega);replace hcc:=Lib.hid hcc;clear hwc hat)
     go_roundw
     case rel=>exact ⟨H+1,l,n,D,by omega,by congr 1;have:=hcc.out;omega,k2,hn2⟩
     case measure=>simp [intOf];have:=hcc.out;omega
    | false =>
     clear zl
     by_cases r91:r=91
     ·have e1:s[i]=91:=(hbyte.out 91 (by decide) rfl).1 r91
      have es:=hrd.out rfl r91 (by decide) (by decide) (by decide);have hn2:Hid (iu s i0 nx (l++[i]) D n n0):=Lib.hid (by
       rw [es.2.2.2];exact hI.out.push hil es.1 (by rw [getD_at hil];exact e1))
      have t1:(((r:Nat):Int)==91)=true:=by simp [r91]
      clear e1 es uv hrd hbyte gG hI Qy aL r91;go_wp2_with fail;refine (q2 _).mono ?_;rintro e w2 ⟨rfl,hb2⟩;have k2:=Lib.hid (hk.out.call hb2);obtain ⟨hlt2,d2,d3⟩:=hcl.out.out _ _ _ _ _ k2.out;have hmap:=Lib.hid k2.out.map;clear hb2 q2 c2 c3 hlt;have hown:=Lib.hid k2.out.own;have hB2:=k2.out.le;have acP:=uU;go_wp2_with (first | (at_lookup;refine wpList_lookup_own_ok_int _ rfl _ _ 212 rfl 3 3 .i64 dm Tryz.underlying212 Tryz.underlying3 (fj _) gm n D rfl hmap.out _ _ rfl hkey ?_;intro c hat hwc;rw [hkn];replace hat:=Lib.hid hat;clear hwc) | (at_builtin;refine bw rfl (.tmp 48) (.tmp 50) rfl IV rfl hown.out rfl rfl rfl (by intro u hu;simp at hu;subst hu;rfl) (by omega) (by omega) hB2 ?_;intro v' w4 ho hg hb XN;have k4:=Lib.hid (k2.out.row (l++[i]) hg.out (by rw [jU,List.length_append,List.length_singleton];exact ho) XN.out);clear ho hg hb XN))
      go_roundw
      case rel=>exact ⟨nx,l++[i],n,D,by omega,rfl,k4,hn2⟩
      case measure=>simp [intOf];omega
     have t1:(((r:Nat):Int)==91)=false:=by rw [beq_eq_false_iff_ne];omega
     have hl:l≠[]:=fun e=>r91 (gG.out e).2.1
     by_cases r93:r=93
     ·have es:=hrd.out rfl r93 (by decide) (by decide) (by decide)
      have t2:(((r:Nat):Int)==93)=true:=by simp [r93]
      obtain ⟨L,a,rfl⟩:∃ L a,l=L++[a]:=⟨_,_,(List.dropLast_concat_getLast hl).symm⟩
      have ha:a≤4000000:=by
       have:=(hI.out.op L.length a (by simp)).1.2.1;omega
      have uh:=Lib.hid (fun hD=>hI.out.pop hD hil es.1);have jr:nx=i+1:=es.2.2.2;have hnn:n≤100000000000000+i:=by have:=pS.out;omega
      obtain ⟨p,hp⟩:∃ p,p=L.length:=⟨_,rfl⟩
      have YD:(L++[a]).length=p+1:=by rw [List.length_append,List.length_singleton,hp]
      have hp4:p+1≤i:=by have:=uU;omega
      replace jr:=Lib.hid jr;clear es uv hrd hbyte gG hI Qy hl r93;go_wp2_with fail;refine (q2 _).mono ?_;rintro e w2 ⟨rfl,hb2⟩;have k2:=Lib.hid (hk.out.call hb2);obtain ⟨hlt2,d2,d3⟩:=hcl.out.out _ _ _ _ _ k2.out;have hmap:=Lib.hid k2.out.map;clear hb2 q2 c2 c3 hlt;have hown:=k2.out.own;rw [YD] at hown;obtain ⟨g,cp,rfl,Vp,hBg,F4⟩:=fT hown (by omega);have hcut:=fun w=>N4 g (p+1) cp p (v:=(p:Int)) rfl (by omega) w;have hsub:((p+1:Nat):Int)-1=(p:Int):=by omega
      have hpp:(p:Int)<(p:Int)+1:=by omega
      have dl:w2.cell? ⟨g,p,none⟩=some (.int .i64 (a:Int)):=aK hown (by rw [jU,List.getElem?_append_right (by rw [lN];omega),lN,hp];simp);replace YD:=Lib.hid YD;replace hp:=Lib.hid hp;replace hown:=Lib.hid hown;go_upto_region 11 with (at_lookup;refine wpList_lookup_own_ok_int _ rfl _ _ 212 rfl 3 3 .i64 dm Tryz.underlying212 Tryz.underlying3 (fj _) gm n D rfl hmap.out _ _ rfl hkey ?_;intro c hat hwc;rw [hkn];replace hat:=Lib.hid hat;clear hwc)
      refine aE (.rd 0 (.rd 1 (.rd 2 (.rd 3 (.rd 4 (.rd 5 (.rd 6 (.rd 7 (.rd 8 (.mk 9 .fin)))))))))) (fun u:World=>u.cell? ⟨bR,3,none⟩=some (.map (some gm))∧u.cell? ⟨g,p,none⟩=some (.int .i64 (a:Int))) ⟨d3,dl⟩ (by kernel_rfl) (by kernel_rfl) (by kernel_rfl) (fun _ _ d _ _ h=>by cases d<;>exact h) ?_
      iterate 3 (first | refine an rfl ?_ | (refine ay rfl ?_;intro K hK;go_simp;refine hK _ _ _ ?_;clear hK K))
      refine aH (.map (some gm)) rfl rfl ⟨d3,dl⟩ (fun u hu=>by obtain ⟨u1,u2⟩:=hu;go_simp) ?_
      iterate 3 (first | refine an rfl ?_ | (refine ay rfl ?_;intro K hK;go_simp;refine hK _ _ _ ?_;clear hK K))
      refine aH (.int .i64 (a:Int)) rfl rfl ⟨d3,dl⟩ (fun u hu=>by obtain ⟨u1,u2⟩:=hu;go_simp) ?_
      (first | refine an rfl ?_ | (refine ay rfl ?_;intro K hK;go_simp;refine hK _ _ _ ?_;clear hK K))
      refine wM rfl rfl (.tmp 61) (.tmp 65) (.tmp 66) rfl rfl k2.out.drew.map (by omega) (p:=a) (c:=i) (by omega) (by omega) rfl rfl ?_;intro w5 NK xF;have k5:=k2.out.drew.put xF NK;obtain ⟨Vc,g2,g3⟩:=hcl.out.out _ _ _ _ _ k5;have zo:=k5.own;rw [YD.out] at zo;refine ⟨⟨g3,aK zo (by rw [jU,List.getElem?_append_right (by rw [lN,hp.out];omega),lN,hp.out];simp)⟩,?_⟩;refine aM ?_;obtain ⟨p1,p2,p3⟩:=uh.out k2.out.isMap;have k6:Sk w w5 B m gm (n+1) (D.put (.int .i64 (a:Int)) (.lit (.int .i64 (i:Int)))) (.slice (some ⟨g,0,none⟩) p cp) L:=by
       rw [hp.out];rw [hp.out] at k5;exact k5.cut
      have hhas:Maps.has (D.put (.int .i64 (a:Int)) (.lit (.int .i64 (i:Int)))) (.int .i64 (a:Int))=true:=has_put_same k2.out.isMap (qp _) _;replace p1:=Lib.hid p1;replace p2:=Lib.hid p2;replace p3:=Lib.hid p3;replace hhas:=Lib.hid hhas;replace k6:=Lib.hid k6;clear k5 NK xF Vc g2 g3 zo k2 d2 d3 dl hmap hown uh hkn hkey;rcases Nat.eq_zero_or_pos p with h0 | h0
      ·have X9:L=[]:=List.length_eq_zero_iff.1 (by rw [← hp.out];exact h0)
       have ea:=p2.out X9;have t3:((p:Int)==0)=true:=by simp [h0]
       have hT:=Lib.hid (aL.out.out _ _ _ _ _ k6.out);replace hhas:Hid (Maps.has (D.put (.int .i64 (a:Int)) (.lit (.int .i64 (i:Int)))) (.int .i64 (i0:Int))=true):=Lib.hid (by rw [← ea];rw [← ea] at *;exact hhas.out);have hbd:Hid (n+1≤n0+s.length+1):=Lib.hid (by have:=pS.out;omega);clear h0 X9 ea p2 p3 pS;go_wp2_with fail;refine bodyPost_ret (results_none rfl ..) rfl ?_;exact ⟨rfl,_,_,hT.out,p1.out,hhas.out,hbd.out⟩
      ·have X9:L≠[]:=fun e=>by rw [hp.out,e] at h0;simp at h0
       have t3:((p:Int)==0)=false:=by rw [beq_eq_false_iff_ne];omega
       have hn2:Hid (iu s i0 nx L (D.put (.int .i64 (a:Int)) (.lit (.int .i64 (i:Int)))) (n+1) n0):=Lib.hid (by rw [jr.out];exact p3.out X9);clear p2 p3 X9;go_wp2_with fail
       go_roundw
       case rel=>exact ⟨nx,L,n+1,_,by omega,rfl,k6,hn2⟩
       case measure=>simp [intOf];omega
     have t2:(((r:Nat):Int)==93)=false:=by rw [beq_eq_false_iff_ne];omega
     by_cases rb:r=96∨r=60
     ·have jB:Bl s i=Lk.hop s i∧Lk.sign s i≠91∧Lk.sign s i≠93:=by
       rcases rb with rb | rb
       ·have e1:s[i]=96:=(hbyte.out 96 (by decide) rfl).1 rb
        have:=Ll hil e1;exact ⟨this.1,by rw [this.2];decide,by rw [this.2];decide⟩
       ·have e1:s[i]=60:=(hbyte.out 60 (by decide) rfl).1 rb
        cases ha:Lk.auto s (i:Int) with
        | some x =>
         obtain ⟨t,e⟩:=x;have:=Lg hil e1 ha;exact ⟨this.1,by rw [this.2];decide,by rw [this.2];decide⟩
        | none =>
         have:=Lc hil e1 ha;exact ⟨this.1,by rw [this.2];decide,by rw [this.2];decide⟩
      have Wv:=Lk.jk hil;have Cs:=Qy.out.out i hil;rw [jB.1] at Cs;have Ff:=hI.out.op.hop hil jB.2.1 jB.2.2;obtain ⟨H,hH⟩:∃ H,H=Lk.hop s i:=⟨_,rfl⟩
      rw [← hH] at Cs Wv Ff;have hn2:Hid (iu s i0 H l D n n0):=Lib.hid (hI.out.on hl (by omega) Ff);have t4:((((r:Nat):Int)==96)=true)∨((((r:Nat):Int)==96)=false∧(((r:Nat):Int)==60)=true):=by
       rcases rb with rb | rb
       ·exact .inl (by simp [rb])
       ·exact .inr ⟨by simp [rb],by simp [rb]⟩
      replace Cs:=Lib.hid Cs;clear jB hH Ff uv hrd hbyte gG hI Qy aL rb r93 r91 hl;rcases t4 with t4 | ⟨t4,t5⟩
      ·go_wp2_with fail
       refine (q2 _).mono ?_;rintro e w2 ⟨rfl,hb2⟩;have k2:=Lib.hid (hk.out.call hb2);obtain ⟨hlt2,d2,d3⟩:=hcl.out.out _ _ _ _ _ k2.out;have hmap:=Lib.hid k2.out.map;clear hb2 q2 c2 c3 hlt;go_wp2_with (at_lookup;refine wpList_lookup_own_ok_int _ rfl _ _ 212 rfl 3 3 .i64 dm Tryz.underlying212 Tryz.underlying3 (fj _) gm n D rfl hmap.out _ _ rfl hkey ?_;intro c hat hwc;rw [hkn];replace hat:=Lib.hid hat;clear hwc);refine (Cs.out _ d2 hlt2).mono ?_;rintro e w3 ⟨rfl,hb3⟩;have k3:=Lib.hid (k2.out.call hb3);clear hb3 Cs;go_wp2_with fail
       go_roundw
       case rel=>exact ⟨H,l,n,D,by omega,rfl,k3,hn2⟩
       case measure=>simp [intOf];omega
      ·go_wp2_with fail
       refine (q2 _).mono ?_;rintro e w2 ⟨rfl,hb2⟩;have k2:=Lib.hid (hk.out.call hb2);obtain ⟨hlt2,d2,d3⟩:=hcl.out.out _ _ _ _ _ k2.out;have hmap:=Lib.hid k2.out.map;clear hb2 q2 c2 c3 hlt;go_wp2_with (at_lookup;refine wpList_lookup_own_ok_int _ rfl _ _ 212 rfl 3 3 .i64 dm Tryz.underlying212 Tryz.underlying3 (fj _) gm n D rfl hmap.out _ _ rfl hkey ?_;intro c hat hwc;rw [hkn];replace hat:=Lib.hid hat;clear hwc);refine (Cs.out _ d2 hlt2).mono ?_;rintro e w3 ⟨rfl,hb3⟩;have k3:=Lib.hid (k2.out.call hb3);clear hb3 Cs;go_wp2_with fail
       go_roundw
       case rel=>exact ⟨H,l,n,D,by omega,rfl,k3,hn2⟩
       case measure=>simp [intOf];omega
     have Wv:=(uv.out.2 rfl).2.2 (by omega) (by omega);have Ff:=hI.out.op.hop hil (by rw [Wv.2];exact r91) (by rw [Wv.2];exact r93);rw [Wv.1] at Ff;have hn2:Hid (iu s i0 nx l D n n0):=Lib.hid (hI.out.on hl (by omega) Ff);have t4:(((r:Nat):Int)==96)=false:=by rw [beq_eq_false_iff_ne];omega
     have t5:(((r:Nat):Int)==60)=false:=by rw [beq_eq_false_iff_ne];omega
     clear Ff Wv uv hrd hbyte gG hI Qy aL rb r93 r91 hl;go_wp2_with fail;refine (q2 _).mono ?_;rintro e w2 ⟨rfl,hb2⟩;have k2:=Lib.hid (hk.out.call hb2);obtain ⟨hlt2,d2,d3⟩:=hcl.out.out _ _ _ _ _ k2.out;have hmap:=Lib.hid k2.out.map;clear hb2 q2 c2 c3 hlt;go_wp2_with (at_lookup;refine wpList_lookup_own_ok_int _ rfl _ _ 212 rfl 3 3 .i64 dm Tryz.underlying212 Tryz.underlying3 (fj _) gm n D rfl hmap.out _ _ rfl hkey ?_;intro c hat hwc;rw [hkn];replace hat:=Lib.hid hat;clear hwc)
     go_roundw
     case rel=>exact ⟨nx,l,n,D,by omega,rfl,k2,hn2⟩
     case measure=>simp [intOf];omega
  ·have hl:l≠[]:=fun e=>by have:=(hI.out.nil e).1;omega
   have hpos:=List.length_pos_iff.2 hl;have wm:=hI.out.head hl;have pS:=hI.out.cnt;have uU:=hI.out.len;have hown:=hk.out.own;obtain ⟨g,cp,rfl,Vp,hBg,F4⟩:=fT hown hpos;have hout:=Lib.hid (fun k a ha=>hI.out.op.out (by omega:s.length≤i) (k:=k) (a:=a) ha);have mc:=Lib.hid hI.out.ends;obtain ⟨N,hN⟩:∃ N,N=l.length:=⟨_,rfl⟩
   rw [← hN] at hpos pS Vp hk uU ⊢;replace wm:=Lib.hid wm;replace aL:=Lib.hid aL;replace hcl:=Lib.hid hcl;have hkk:=hk;replace hN:=Lib.hid hN;clear hown hI hl Qy mI;go_wp2_with fail
   go_loopw [85] (fun u wx=>∃ (j n':Nat) (D':DataW Unit),j≤N∧u=.int .i64 (j:Int)∧Hid (Sk w wx B m gm n' D' (.slice (some ⟨g,0,none⟩) N cp) l)∧Hid (jt s D')∧Hid (0<j→Maps.has D' (.int .i64 (i0:Int))=true)∧n'+(N-j)≤n0+s.length+1) (fun u _=>N-(intOf u).toNat)
   case atStart=>exact ⟨0,n,D,by omega,rfl,hkk,mc,Lib.hid (fun h=>by omega),by omega⟩
   case round =>
    obtain ⟨j,n',D',hj,rfl,hkj,Wi,hhj,hnj⟩:=hrel;clear hk hkk mc c2 c3 hlt
    by_cases hjN:j<N
    ·obtain ⟨a,Wz⟩:∃ a,l[j]? = some a:=⟨_,List.getElem?_eq_getElem (by rw [← hN.out];exact hjN)⟩
     obtain ⟨o1,o2,o3⟩:=hout.out j a Wz;obtain ⟨hlt3,c2,c3⟩:=hcl.out.out _ _ _ _ _ hkj.out;have hown:=hkj.out.own;rw [← hN.out] at hown;have cj:wr.cell? ⟨g,j,none⟩=some (.int .i64 (a:Int)):=aK hown (by rw [aB,List.getElem?_map,Wz];rfl);have hput:=Lib.hid (Wi.out.put hkj.out.isMap o1 o2 o3);have hhas:Hid (Maps.has (D'.put (.int .i64 (a:Int)) (.lit (.int .i64 (s.length:Int)))) (.int .i64 (i0:Int))=true):=Lib.hid (by
      rcases Nat.eq_zero_or_pos j with h0 | h0
      ·rw [h0] at Wz
       have:a=i0:=by have h9:=Wz.symm.trans wm.out;injection h9
       rw [this];exact has_put_same hkj.out.isMap (qp _) _
      ·by_cases ha:i0=a
       ·rw [ha];exact has_put_same hkj.out.isMap (qp _) _
       ·rw [has_put_other (fun e=>ha (by injection e with _ e;omega))]
        exact hhj.out h0)
     have ha4:a≤4000000:=by omega
     replace Wz:=Lib.hid Wz;clear o1 o3 hown;go_upto_region 20 with fail
     refine aE (.rd 0 (.rd 1 (.rd 2 (.rd 3 (.rd 4 (.rd 5 (.rd 6 (.rd 7 (.rd 8 (.rd 9 (.mk 10 .fin))))))))))) (fun u:World=>u.cell? ⟨bR,3,none⟩=some (.map (some gm))∧u.cell? ⟨bR,2,none⟩=some (.string (bs s))) ⟨c3,c2⟩ (by kernel_rfl) (by kernel_rfl) (by kernel_rfl) (fun _ _ d _ _ h=>by cases d<;>exact h) ?_
     iterate 3 (first | refine an rfl ?_ | (refine ay rfl ?_;intro K hK;go_simp;refine hK _ _ _ ?_;clear hK K))
     refine aH (.map (some gm)) rfl rfl ⟨c3,c2⟩ (fun u hu=>by obtain ⟨u1,u2⟩:=hu;go_simp) ?_
     iterate 4 (first | refine an rfl ?_ | (refine ay rfl ?_;intro K hK;go_simp;refine hK _ _ _ ?_;clear hK K))
     refine aH (.string (bs s)) rfl rfl ⟨c3,c2⟩ (fun u hu=>by obtain ⟨u1,u2⟩:=hu;go_simp) ?_
     (first | refine an rfl ?_ | (refine ay rfl ?_;intro K hK;go_simp;refine hK _ _ _ ?_;clear hK K))
     refine wM rfl rfl (.tmp 92) (.tmp 93) (.tmp 98) rfl rfl hkj.out.drew.map (by omega) (p:=a) (c:=s.length) (by omega) (by omega) rfl rfl ?_;intro w5 NK xF;have k5:=hkj.out.drew.put xF NK;obtain ⟨Vc,g2,g3⟩:=hcl.out.out _ _ _ _ _ k5;refine ⟨⟨g3,g2⟩,?_⟩;refine aM ?_;replace k5:=Lib.hid k5;clear NK xF Vc g2 g3 hkj c2 c3 cj hlt3;go_wp2_with fail
     go_roundw
     case rel=>exact ⟨j+1,n'+1,_,by omega,by go_num,k5,hput,Lib.hid (fun _=>hhas.out),by omega⟩
     case measure=>simp [intOf];omega
    ·have hT:=Lib.hid (aL.out.out _ _ _ _ _ hkj.out)
     have hhas:=Lib.hid (hhj.out (by omega));have hbd:Hid (n'≤n0+s.length+1):=Lib.hid (by omega);go_wp2_with fail;go_end0;exact ⟨rfl,n',D',hT.out,Wi.out,hhas.out,hbd.out⟩
section
variable {w w':World}{B bR:Nat}{s:List UInt8}{link:Bool}{st:Il.Sc}{gm nm:Nat}{D:DataW Unit}{vr vF:Value}{rs:List Il.Rw}{V:List V3}{i mk:Nat}
theorem X5:az (pV bR gm nm s link D vr vF st.runs) 3 4 5 vF rs V (0,0)=some (.blk bR (BS s link gm vr vF) 221):=by
 unfold az pV;rw [if_neg (by simp),if_neg (by simp),if_neg (by simp),if_pos rfl]
theorem OJ:az (pV bR gm nm s link D vr vF st.runs) 3 4 5 vF rs V (2,0)=some (.map gm nm D):=by
 unfold az pV;rw [if_neg (by simp),if_neg (by simp),if_neg (by simp),if_neg (by simp),if_neg (by simp),if_pos rfl]
theorem Ym:az (pV bR gm nm s link D vr vF st.runs) 3 4 5 vF rs V (6,0)=none:=by
 unfold az pV;rw [if_neg (by simp),if_neg (by simp),if_neg (by simp),if_neg (by simp),if_neg (by simp),if_neg (by simp)]
theorem NY (n':Nat) (D':DataW Unit):uq (az (pV bR gm nm s link D vr vF st.runs) 3 4 5 vF rs V) (2,0) (.map gm n' D')=az (pV bR gm n' s link D' vr vF st.runs) 3 4 5 vF rs V:=by
 funext q
 unfold uq
 by_cases h:q=(2,0)
 ·subst h;rw [if_pos rfl,OJ]
 ·rw [if_neg h];unfold az pV;rw [if_neg h,if_neg h]
theorem RD.Tx (h:RD w B bR s link st gm nm D vr vF rs V) {n':Nat}{D':DataW Unit}(t:bV B (az (pV bR gm nm s link D vr vF st.runs) 3 4 5 vF rs V) w (uq (az (pV bR gm nm s link D vr vF st.runs) 3 4 5 vF rs V) (2,0) (.map gm n' D')) w') (he:jt s D'):RD w' B bR s link st gm n' D' vr vF rs V:=by
 rw [NY] at t;exact ⟨h.rw.along t,h.rel,he⟩
theorem RD.map (h:RD w B bR s link st gm nm D vr vF rs V):l5 w gm nm D:=(h.rw.hp.holds _ _ OJ).2
theorem Mc {c:Nat}(hc:closing s i=c) (_:i<s.length):(c<s.length→Gk (Lk.close s (i:Int))=.tuple #[.int .i64 (c:Int),.bool true])∧(¬ c<s.length→Gk (Lk.close s (i:Int))=.tuple #[.int .i64 0,.bool false]):=by
 unfold closing at hc;cases h:Lk.close s (i:Int) with
 | none =>
  rw [h] at hc;simp only [Option.getD_none] at hc;exact ⟨fun e=>by omega,fun _=>rfl⟩
 | some j =>
  rw [h] at hc;simp only [Option.getD_some] at hc;subst hc;have:j<s.length:=by
   unfold Lk.close at h
   split at h
   ·exact (Il.dK _ _ _ _ h).2
   ·cases h
  exact ⟨fun _=>rfl,fun e=>absurd this e⟩
theorem Wa (h:bJ w B bR s false st i mk) (hi:i<s.length) (mI:s[i]=91) (hs:s.length≤4000000) (hmk:mk≤100000000000000) :
  Calls Tryz.prog 222 #[.pointer (some ⟨bR,2,none⟩),.int .i64 (i:Int)] w (qz w B bR s st i (mk+s.length+1)):=by
 obtain ⟨hB,gm,nm,D,vr,vF,rs,V,hR,hw,hnm⟩:=h;have hsz:=au s;have hkey:=MM (n:=i) (by omega);have hclose:closing s i≤s.length:=by
  unfold closing;cases h:Lk.close s (i:Int) with
  | none=>simp
  | some j =>
   simp only [Option.getD_some];unfold Lk.close at h
   split at h
   ·exact Nat.le_of_lt (Il.dK _ _ _ _ h).2
   ·cases h
 obtain ⟨C,hC⟩:∃ C,C=closing s i:=⟨_,rfl⟩
 rw [← hC] at hclose;obtain ⟨t1,t2⟩:=Mc hC.symm hi;obtain ⟨R,hRv⟩:∃ R,R=Gk (Lk.close s (i:Int)):=⟨_,rfl⟩
 rw [← hRv] at t1 t2;unfold qz;rw [← hRv];clear hRv;obtain ⟨f0,f1,f2,f3,f4,f5,f6⟩:=hR.cells;have hat:∀ (D':DataW Unit),jt s D'→Maps.has D' (.int .i64 (i:Int))=true→∀ c:Int,D'.atKey (.int .i64 (i:Int)) (.lit (.int .i64 0))=.lit (.int .i64 c)→c=(C:Int):=fun D' he hh c hc=>by
  have h9:=hc.symm.trans (he i hh).2;rw [hC];injection h9 with h9;injection h9
 have aL:=Lib.hid (fun (w':World) (n':Nat) (D':DataW Unit) (h':RD w' B bR s false st gm n' D' vr vF rs V) (hb:B≤w'.heap.size) (hn:n'≤mk+s.length+1)=>(show bJ w' B bR s false st i (mk+s.length+1) from ⟨hb,gm,n',D',vr,vF,rs,V,h',hw,hn⟩));obtain ⟨kn,hkn⟩:∃ kn,Maps.has D (.int .i64 (i:Int))=kn:=⟨_,rfl⟩
 replace t1:=Lib.hid t1;replace t2:=Lib.hid t2;cases kn with
 | true =>
  have mc:=hR.ends;have hcc:=Lib.hid (hat D mc hkn);have hmap:=Lib.hid hR.map;have hres:=Lib.hid (aL.out w nm D hR hB (by omega));clear hR hat mc
  by_cases hcs:C<s.length
  ·obtain rfl:=t1.out hcs
   clear t1 t2;go_enter Tryz.func222,Tryz.ntmps222;go_wp2_with (at_lookup;first | (refine wpList_lookup_own_ok_int _ rfl _ _ 212 rfl 3 3 .i64 dm Tryz.underlying212 Tryz.underlying3 (fj _) gm nm D rfl hmap.out _ _ rfl hkey ?_;intro c0 kS GZ;rw [hkn];clear kS GZ) | (refine wpList_lookup_own_int _ rfl _ _ 212 rfl 3 3 .i64 dm Tryz.underlying212 Tryz.underlying3 (fj _) gm nm D rfl hmap.out _ _ rfl hkey ?_;intro c kS hwc;have hc:=hcc.out c kS;have hc0:0≤c:=(by omega);have hc1:c≤4000000:=(by omega);have hlt:c<(s.length:Int):=(by omega);replace hc:=Lib.hid hc;clear kS hwc));go_ret2;exact ⟨by rw [hc.out];rfl,hres.out,Below.refl _ _⟩
  ·obtain rfl:=t2.out hcs
   clear t1 t2;go_enter Tryz.func222,Tryz.ntmps222;go_wp2_with (at_lookup;first | (refine wpList_lookup_own_ok_int _ rfl _ _ 212 rfl 3 3 .i64 dm Tryz.underlying212 Tryz.underlying3 (fj _) gm nm D rfl hmap.out _ _ rfl hkey ?_;intro c0 kS GZ;rw [hkn];clear kS GZ) | (refine wpList_lookup_own_int _ rfl _ _ 212 rfl 3 3 .i64 dm Tryz.underlying212 Tryz.underlying3 (fj _) gm nm D rfl hmap.out _ _ rfl hkey ?_;intro c kS hwc;have hc:=hcc.out c kS;have hc0:0≤c:=(by omega);have hc1:c≤4000000:=(by omega);have hlt:¬ (c<(s.length:Int)):=(by omega);replace hc:=Lib.hid hc;clear kS hwc));go_ret2;exact ⟨by rfl,hres.out,Below.refl _ _⟩
 | false =>
  have hsk:=Lib.hid (JH hR.rw.hp hB X5 rfl rfl OJ Ym hR.ends hi mI hkn (by omega) hs);have hmap:=Lib.hid hR.map;replace hR:=Lib.hid hR;replace hat:=Lib.hid hat
  by_cases hcs:C<s.length
  ·obtain rfl:=t1.out hcs
   clear t1 t2;go_enter Tryz.func222,Tryz.ntmps222;go_wp2_with (at_lookup;(refine wpList_lookup_own_ok_int _ rfl _ _ 212 rfl 3 3 .i64 dm Tryz.underlying212 Tryz.underlying3 (fj _) gm nm D rfl hmap.out _ _ rfl hkey ?_;intro c0 kS GZ;rw [hkn];clear kS GZ));refine hsk.out.mono ?_;rintro e w1 ⟨rfl,n',D',hT,he',Xm,hn'⟩;have hR1:=hR.out.Tx hT he';obtain ⟨c0,c1,c2,c3,c4,c5,c6⟩:=hR1.cells;have hB1:=Nat.le_trans hB hT.bel.size;have hres:=Lib.hid (aL.out w1 n' D' hR1 hB1 (by omega));have hbel:=Lib.hid hT.bel;have hcc:=Lib.hid (hat.out D' he' Xm);have PX:=Lib.hid hR1.map;clear hT he' Xm hn' hR1 hsk hR hmap f0 f1 f2 f3 f4 f5 f6;go_wp2_with (at_lookup;(refine wpList_lookup_own_int _ rfl _ _ 212 rfl 3 3 .i64 dm Tryz.underlying212 Tryz.underlying3 (fj _) gm n' D' rfl PX.out _ _ rfl hkey ?_;intro c kS hwc;have hc:=hcc.out c kS;have hc0:0≤c:=(by omega);have hc1:c≤4000000:=(by omega);have hlt:c<(s.length:Int):=(by omega);replace hc:=Lib.hid hc;clear kS hwc));go_ret2;exact ⟨by rw [hc.out];rfl,hres.out,hbel.out⟩
  ·obtain rfl:=t2.out hcs
   clear t1 t2;go_enter Tryz.func222,Tryz.ntmps222;go_wp2_with (at_lookup;(refine wpList_lookup_own_ok_int _ rfl _ _ 212 rfl 3 3 .i64 dm Tryz.underlying212 Tryz.underlying3 (fj _) gm nm D rfl hmap.out _ _ rfl hkey ?_;intro c0 kS GZ;rw [hkn];clear kS GZ));refine hsk.out.mono ?_;rintro e w1 ⟨rfl,n',D',hT,he',Xm,hn'⟩;have hR1:=hR.out.Tx hT he';obtain ⟨c0,c1,c2,c3,c4,c5,c6⟩:=hR1.cells;have hB1:=Nat.le_trans hB hT.bel.size;have hres:=Lib.hid (aL.out w1 n' D' hR1 hB1 (by omega));have hbel:=Lib.hid hT.bel;have hcc:=Lib.hid (hat.out D' he' Xm);have PX:=Lib.hid hR1.map;clear hT he' Xm hn' hR1 hsk hR hmap f0 f1 f2 f3 f4 f5 f6;go_wp2_with (at_lookup;(refine wpList_lookup_own_int _ rfl _ _ 212 rfl 3 3 .i64 dm Tryz.underlying212 Tryz.underlying3 (fj _) gm n' D' rfl PX.out _ _ rfl hkey ?_;intro c kS hwc;have hc:=hcc.out c kS;have hc0:0≤c:=(by omega);have hc1:c≤4000000:=(by omega);have hlt:¬ (c<(s.length:Int)):=(by omega);replace hc:=Lib.hid hc;clear kS hwc));go_ret2;exact ⟨by rfl,hres.out,hbel.out⟩
end
section
variable {w w':World}{B bR:Nat}{s:List UInt8}{link:Bool}{st:Il.Sc}{gm nm:Nat}{D:DataW Unit}{vr vF:Value}{rs:List Il.Rw}{V:List V3}{i mk:Nat}
theorem Q1 (h:bJ w B bR s link st i mk) (ok:Il.fh st i) (hi:i<s.length) (hs:s.length≤4000000) (hT:Tabs w) (hc:Em.kind s (i:Int)=none) :
  Calls Tryz.prog 196 #[.pointer (some ⟨bR,0,none⟩),.int .i64 (i:Int)] w fun e w'=>e=.returned (.int .i64 ((Es.next s i).2.1:Int)) ∧
   bJ w' B bR s link ⟨Il.eW st.l (Lib.encodeRune ((Es.next s i).1:Int)),st.runs⟩ (Es.next s i).2.1 mk∧Below B w w':=by
 have Be:=Lib.hid (yl s (i:Int) (by omega) w hT);rw [hc] at Be;unfold qP at Be;have hpl:=Lib.hid (fun (w1:World) (hr:bJ w1 B bR s link st i mk)=>kJ hr ok hi hs);have tW:=Lib.hid (fun (w1:World) (hb:Below w.heap.size w w1)=>(show bJ w1 B bR s link st i mk from by
  obtain ⟨hB,gm,nm,D,vr,vF,rs,V,hR,hw,hnm⟩:=h;exact ⟨Nat.le_trans hB hb.size,gm,nm,D,vr,vF,rs,V,hR.ext hB hb,hw,hnm⟩))
 obtain ⟨hB,gm,nm,D,vr,vF,rs,V,hR,hw,hnm⟩:=h;obtain ⟨f0,f1,f2,f3,f4,f5,f6⟩:=hR.cells;clear hR hw hnm;obtain ⟨en,hen⟩:∃ en,en=Es.next s i:=⟨_,rfl⟩
 rw [← hen] at hpl ⊢;clear hen;go_enter Tryz.func196,Tryz.ntmps196;go_wp2_with fail;refine Be.out.mono ?_;rintro e w1 ⟨rfl,hb1⟩;have CV:=Lib.hid hb1;clear f0 f1 f2 f3 f4 f5 f6 Be hb1;go_wp2_with fail;refine (hpl.out _ (tW.out _ (ag CV.out (aa _ _)))).mono ?_;rintro e w2 ⟨rfl,hr2,hb2⟩;have hb:=Lib.hid ((ag CV.out (aa _ _)).mono hB |>.trans hb2);replace hr2:=Lib.hid hr2;clear hpl tW hb2;go_wp2;go_ret;exact ⟨rfl,hr2.out,hb.out⟩
end
theorem IX:EI Tryz.prog 219 240 4 24:=EI.mk' Tryz.underlying219 (z:=.agg #[.int .u8 0,.int .i64 0,.bool false,.bool false]) (by kernel_rfl) rfl (by omega)
theorem heap_setCell_other (w:World) (a:Addr) (k:Nat) (u:Value) (h:a.block≠k):(w.setCell a u).heap[k]? = w.heap[k]? := Below.heap_setCell w a u k (fun e=>h e.symm)
section
variable {w w':World}{B bR:Nat}{s:List UInt8}{link:Bool}{st:Il.Sc}{gm nm:Nat}{D:DataW Unit}{vr vF:Value}{rs:List Il.Rw}{V:List V3}{i mk:Nat}
theorem Rm (h:bJ w B bR s link st i mk) (ok:Il.fh st i) (hi:i<s.length) (hs:s.length≤4000000) (hT:Tabs w) {x:Em.R}{n:Nat}(hc:Em.kind s (i:Int)=some (x,n)) (hn:i<n) :
  Calls Tryz.prog 196 #[.pointer (some ⟨bR,0,none⟩),.int .i64 (i:Int)] w fun e w'=>e=.returned (.int .i64 (n:Int)) ∧
   bJ w' B bR s link ⟨st.l++[⟨Il.none_,some st.runs.length,x.n.toNat,x.ch⟩],st.runs++[x]⟩ n mk∧Below B w w':=by
 have Be:=Lib.hid (yl s (i:Int) (by omega) w hT);rw [hc] at Be;unfold qP uP at Be;obtain ⟨hB,gm,nm,D,vr,vF,rs,V,hR,hw,hnm⟩:=h;have hl1:=bJ.lJ ok (by omega) hs hR;have hrl:=ok.rlen;obtain ⟨f0,f1,f2,f3,f4,f5,f6⟩:=hR.cells;have hrel:=Il.SY hR.rel ok.cQ x;have mc:=hR.ends;have tW:=Lib.hid (fun (w1:World) (hb:Below w.heap.size w w1)=>(show RS w1 B (jY bR gm nm s link D vr vF vr st.runs) 3 4 5 vF rs V from (hR.ext hB hb).rw));replace hR:=Lib.hid hR;go_enter Tryz.func196,Tryz.ntmps196;go_wp2_with fail;refine Be.out.mono ?_;rintro e w1 ⟨rfl,hb1⟩;have hz1:=hb1.size;obtain ⟨W1,hW1⟩:∃ W1,W1=w1.alloc (.cells #[.int .u8 (x.ch.toNat:Int),.int .i64 x.n,.bool x.o,.bool x.c] 240):=⟨_,rfl⟩
 obtain ⟨gx,hgx⟩:∃ gx,gx=w1.heap.size:=⟨_,rfl⟩
 have hbW:Below w.heap.size w W1:=by rw [hW1];exact ag hb1 (aa _ _)
 have h1:=Lib.hid (tW.out _ hbW);have hB1:=Nat.le_trans hB hbW.size;have Wm:W1.heap[gx]? = some (.cells #[.int .u8 (x.ch.toNat:Int),.int .i64 x.n,.bool x.o,.bool x.c] 240 (0,0)):=by rw [hW1,hgx];exact heap_alloc_new _ _
 have XX:gx<W1.heap.size:=by rw [hW1,hgx];simp
 have hrow:=h1.out.Ii;have Eu:=(tW.out _ hb1).Ii;have Xt:some gx≠vr.ownBlock:=fun e=>by have:=(World.ownsRow.lt Eu gx e.symm).2;omega
 have ZD:gx≠bR:=by have:=(tW.out _ hb1).Ns.2.2;omega
 have TE:bR≠gx:=Ne.symm ZD;obtain ⟨d4,d5,df⟩:=h1.out.nA;have hS:(fun u:World=>u.heap[gx]? = some (.cells #[.int .u8 (x.ch.toNat:Int),.int .i64 x.n,.bool x.o,.bool x.c] 240 (0,0))) W1.drew:=Wm;have hS1:(fun u:World=>u.heap[gx]? = some (.cells #[.int .u8 (x.ch.toNat:Int),.int .i64 x.n,.bool x.o,.bool x.c] 240 (0,0))) (W1.drew.alloc (.cells #[.int .u8 (x.ch.toNat:Int),.int .i64 x.n,.bool x.o,.bool x.c] 240)):=(keep (w:=W1.drew) Wm (aa W1.drew _)).1;have aL:=Lib.hid (fun (vr':Value) (u:World) (hu:RS u B (jY bR gm nm s link D vr' vF vr' (st.runs++[x])) 3 4 5 vF rs V) (hb:Below B W1 u)=>(hbW.mono hB).trans hb);clear f0 f1 f2 f3 f4 f5 f6 Be hb1 tW Eu;go_upto_region 4 with fail
 rw [← hgx,← hW1];have ZA:bR<W1.heap.size:=h1.out.Ns.2.2;clear hgx hW1 aL;refine aE (.rd 0 (.rd 1 (.rd 2 (.rd 3 (.rd 5 (.fk 4 (.mk 6 (.mk 7 (.rd 8 (.rd 9 (.mk 10 .fin))))) 6 (.mk 4 (.mk 7 (.rd 8 (.rd 9 (.mk 10 .fin))))))))))) (fun u:World=>u.heap[gx]? = some (.cells #[.int .u8 (x.ch.toNat:Int),.int .i64 x.n,.bool x.o,.bool x.c] 240 (0,0))) hS (by kernel_rfl) (by kernel_rfl) (by kernel_rfl) (fun _ _ d _ _ h=>by cases d<;>exact h) ?_
 iterate 4 (first | refine an rfl ?_ | (refine ay rfl ?_;intro K hK;go_simp;refine hK _ _ _ ?_;clear hK K))
 refine aH (.agg #[.int .u8 (x.ch.toNat:Int),.int .i64 x.n,.bool x.o,.bool x.c]) rfl rfl hS (fun u hu=>by
  have h1:u.cell? ⟨gx,0,none⟩=some (.int .u8 (x.ch.toNat:Int)):=ah (j:=0) hu;have h2:u.cell? ⟨gx,1,none⟩=some (.int .i64 x.n):=ah (j:=1) hu;have h3:u.cell? ⟨gx,2,none⟩=some (.bool x.o):=ah (j:=2) hu;have h4:u.cell? ⟨gx,3,none⟩=some (.bool x.c):=ah (j:=3) hu;go_simp) ?_
 refine iF ?wa ?wb
 case' wa =>
  refine aC rfl ?_;intro K hK;go_simp;refine ⟨_,hS,fun _ h=>h,hK _ _ _ ?_⟩;clear hK K;refine aC rfl ?_;intro K hK;go_simp;refine ⟨_,hS1,fun _ h=>h,hK _ _ _ ?_⟩;clear hK K;refine lV rfl rfl (.tmp 27) (.tmp 29) rfl IX (v:=vr) rfl (hrow.drew.alloc _) rfl (Row.jV W1.drew 240 _ rfl rfl) (by intro u hu;simp at hu;rcases hu with rfl | rfl | rfl | rfl<;>rfl) (by omega) (by omega) (by simp;omega) ?_;intro v' w' ho hg hb hat;have kQ:W1.grownBy w' vr.ownBlock:=jb (w0:=W1) (grown_drew hg.out);obtain ⟨h2,hb2⟩:=h1.out.L6 hB1 kQ ho (AO (w:=W1) hat.out);obtain ⟨g',c',rfl,hc',Gq,Hy⟩:=fT ho (by omega);have ie:(fun u:World=>u.heap[gx]? = some (.cells #[.int .u8 (x.ch.toNat:Int),.int .i64 x.n,.bool x.o,.bool x.c] 240 (0,0))) w':=(kQ.block gx XX Xt).trans Wm;refine ⟨_,ie,fun _ h=>h,?_⟩
  iterate 2 (first | refine an rfl ?_ | (refine ay rfl ?_;intro K hK;go_simp;refine hK _ _ _ ?_;clear hK K))
  obtain ⟨k4,k5,kf⟩:=h2.nA;have hB2:=Nat.le_trans hB1 hb2.size;obtain ⟨h3,hb3⟩:=h2.Tf hB2 (.slice (some ⟨g',0,none⟩) (st.runs.length+1) c');have eV:(fun u:World=>u.heap[gx]? = some (.cells #[.int .u8 (x.ch.toNat:Int),.int .i64 x.n,.bool x.o,.bool x.c] 240 (0,0))) (w'.setCell ⟨bR,4,none⟩ (.slice (some ⟨g',0,none⟩) (st.runs.length+1) c')):=(heap_setCell_other w' ⟨bR,4,none⟩ gx _ TE).trans ie;refine bg rfl rfl (eD rfl (by kernel_rfl) rfl rfl k4 kf) eV ?_;refine aM ?_;have jy:=Nat.le_trans hB2 hb3.size;have hbel:=Lib.hid (((hbW.mono hB).trans hb2).trans hb3);clear eV ie hS hS1 k4 k5 kf d4 d5 df ho hg hb hat kQ h2 hc' Gq Hy hrow Wm hb2 hb3 h1 hbW;generalize World.setCell _ _ _=W3 at *;obtain ⟨z4,z5,zf⟩:=h3.nA;have harr:=h3.arr;have hgrow:=Lib.hid (fun (v5:Value) (w5:World) (hg:W3.grownBy w5 vF.ownBlock) ho hat=>h3.grow (w':=w5) (v':=v5) (j:=1) jy hg ho hat);replace h3:=Lib.hid h3;replace hrel:=Lib.hid hrel;replace mc:=Lib.hid mc;go_wp2_with (at_builtin;refine bw rfl (.tmp 37) (.tmp 39) rfl GV rfl harr rfl (by first | rfl | simp) rfl (by intro u hu;simp at hu;rcases hu with rfl | rfl<;>rfl) (by omega) (by omega) jy ?_;intro v5 w5 NK xF hb5 Ui;obtain ⟨A5,c5,rfl,hc5⟩:=ak NK;obtain ⟨h5,T5⟩:=hgrow.out _ _ xF.out NK Ui.out;obtain ⟨y4,y5,yf⟩:=h5.nA);have ES:=Nat.le_trans jy T5.bel.size;obtain ⟨h6,b6⟩:=h5.Th ES (.slice A5 (rs.length+1) c5);have hb:=(hbel.out.trans T5.bel).trans b6;go_ret;exact ⟨rfl,⟨Nat.le_trans hB hb.size,gm,nm,D,_,_,_,_,⟨h6,hrel.out,mc.out⟩,by rw [Il.eI];show _+0≤_;omega,by omega⟩,hb⟩
 case' wb =>
  refine aC rfl ?_;intro K hK;go_simp;refine ⟨_,hS1,fun _ h=>h,hK _ _ _ ?_⟩;clear hK K;have d4':=(World.cell?_alloc_lt W1.drew (.cells #[.int .u8 (x.ch.toNat:Int),.int .i64 x.n,.bool x.o,.bool x.c] 240) ⟨bR,4,none⟩ ZA).trans d4;refine aC rfl ?_;intro K hK;go_simp;refine ⟨_,hS1,fun _ h=>h,hK _ _ _ ?_⟩;clear hK K;refine lV rfl rfl (.tmp 27) (.tmp 29) rfl IX (v:=vr) rfl (hrow.drew.alloc _) rfl (Row.jV W1.drew 240 _ rfl rfl) (by intro u hu;simp at hu;rcases hu with rfl | rfl | rfl | rfl<;>rfl) (by omega) (by omega) (by simp;omega) ?_;intro v' w' ho hg hb hat;have kQ:W1.grownBy w' vr.ownBlock:=jb (w0:=W1) (grown_drew hg.out);obtain ⟨h2,hb2⟩:=h1.out.L6 hB1 kQ ho (AO (w:=W1) hat.out);obtain ⟨g',c',rfl,hc',Gq,Hy⟩:=fT ho (by omega);have ie:(fun u:World=>u.heap[gx]? = some (.cells #[.int .u8 (x.ch.toNat:Int),.int .i64 x.n,.bool x.o,.bool x.c] 240 (0,0))) w':=(kQ.block gx XX Xt).trans Wm;refine ⟨_,ie,fun _ h=>h,?_⟩
  iterate 2 (first | refine an rfl ?_ | (refine ay rfl ?_;intro K hK;go_simp;refine hK _ _ _ ?_;clear hK K))
  obtain ⟨k4,k5,kf⟩:=h2.nA;have hB2:=Nat.le_trans hB1 hb2.size;obtain ⟨h3,hb3⟩:=h2.Tf hB2 (.slice (some ⟨g',0,none⟩) (st.runs.length+1) c');have eV:(fun u:World=>u.heap[gx]? = some (.cells #[.int .u8 (x.ch.toNat:Int),.int .i64 x.n,.bool x.o,.bool x.c] 240 (0,0))) (w'.setCell ⟨bR,4,none⟩ (.slice (some ⟨g',0,none⟩) (st.runs.length+1) c')):=(heap_setCell_other w' ⟨bR,4,none⟩ gx _ TE).trans ie;refine bg rfl rfl (eD rfl (by kernel_rfl) rfl rfl k4 kf) eV ?_;refine aM ?_;have jy:=Nat.le_trans hB2 hb3.size;have hbel:=Lib.hid (((hbW.mono hB).trans hb2).trans hb3);clear eV ie hS hS1 k4 k5 kf d4 d5 df ho hg hb hat kQ h2 hc' Gq Hy hrow Wm hb2 hb3 h1 hbW;generalize World.setCell _ _ _=W3 at *;obtain ⟨z4,z5,zf⟩:=h3.nA;have harr:=h3.arr;have hgrow:=Lib.hid (fun (v5:Value) (w5:World) (hg:W3.grownBy w5 vF.ownBlock) ho hat=>h3.grow (w':=w5) (v':=v5) (j:=1) jy hg ho hat);replace h3:=Lib.hid h3;replace hrel:=Lib.hid hrel;replace mc:=Lib.hid mc;go_wp2_with (at_builtin;refine bw rfl (.tmp 37) (.tmp 39) rfl GV rfl harr rfl (by first | rfl | simp) rfl (by intro u hu;simp at hu;rcases hu with rfl | rfl<;>rfl) (by omega) (by omega) jy ?_;intro v5 w5 NK xF hb5 Ui;obtain ⟨A5,c5,rfl,hc5⟩:=ak NK;obtain ⟨h5,T5⟩:=hgrow.out _ _ xF.out NK Ui.out;obtain ⟨y4,y5,yf⟩:=h5.nA);have ES:=Nat.le_trans jy T5.bel.size;obtain ⟨h6,b6⟩:=h5.Th ES (.slice A5 (rs.length+1) c5);have hb:=(hbel.out.trans T5.bel).trans b6;go_ret;exact ⟨rfl,⟨Nat.le_trans hB hb.size,gm,nm,D,_,_,_,_,⟨h6,hrel.out,mc.out⟩,by rw [Il.eI];show _+0≤_;omega,by omega⟩,hb⟩
end
def Wk (link:Bool) (f:List UInt8→List Il.In):Prop:=∀ (s:List UInt8) (w:World),s.length≤4000000→Tabs w→Calls Tryz.prog 139 #[.string (bs s),.bool link] w fun e w' =>
 (∃ v,e=.returned v∧∃ css,w'.ownsRow w.heap.size 35 4 v (f s).length css.flatten∧gB w' (fun b=>w.heap.size≤b∧b<w'.heap.size) (f s) css)∧Below w.heap.size w w'
section
variable {w w':World}{B bR:Nat}{s:List UInt8}{link:Bool}{st:Il.Sc}{gm nm:Nat}{D:DataW Unit}{vr vF:Value}{rs:List Il.Rw}{V:List V3}{i mk mk':Nat}
theorem P5 (h:bJ w B bR s false st i mk) (ok:Il.fh st i) (hi:i<s.length) (hs:s.length≤4000000) (hT:∀ u,Below B w u→Tabs u) {inner:List UInt8→List Il.In}(hP:Wk true inner) {j n:Nat}{d:List UInt8}(hc:Lk.close s (i:Int)=some j) (hij:i<j) (hj:j<s.length) (hd:Lk.dest s ((j:Int)+1)=some (d,n)) (hn:j<n)
  (hE:Calls Tryz.prog 222 #[.pointer (some ⟨bR,2,none⟩),.int .i64 (i:Int)] w (qz w B bR s st i mk')) :
  Calls Tryz.prog 195 #[.pointer (some ⟨bR,0,none⟩),.int .i64 (i:Int)] w fun e w'=>e=.returned (.int .i64 (n:Int)) ∧
   bJ w' B bR s false ⟨st.l++[⟨.mk 4 [] d (inner (mid s (i+1) j)),none,0,0⟩],st.runs⟩ n mk'∧Below B w w':=by
 unfold qz at hE;rw [hc] at hE;unfold Gk at hE;replace hE:=Lib.hid hE;have hds:=Lib.hid (fun w=>zF s ((j:Int)+1) (by omega) w);rw [hd] at hds;unfold fH at hds;obtain ⟨f0,f1,f2⟩:=h.cells;have hB:=h.size;clear h;have hml:=eZ (l:=s) (lo:=i+1) (hi:=j) (by omega);have hmid:∀ w:World,(Instr.slice 9 (.string (bs s)) (some (.int .i64 ((i:Int)+1))) (some (.int .i64 (j:Int))) none).run Tryz.prog w=.ok (.string (bs (mid s (i+1) j))) w:=by
  intro w;have:=uH (S:=s) (i:=i+1) (j:=j) (by omega) (by omega) w;rwa [show ((i+1:Nat):Int)=(i:Int)+1 by omega] at this
 obtain ⟨T,hTm⟩:∃ T,T=mid s (i+1) j:=⟨_,rfl⟩
 rw [← hTm] at hmid hml ⊢;clear hTm;have hpar:=Lib.hid (fun w h=>hP T w (by omega) h);obtain ⟨ks,hks⟩:∃ ks,ks=inner T:=⟨_,rfl⟩
 rw [← hks] at hpar ⊢;clear hks hP;replace hT:=Lib.hid hT;go_enter Tryz.func195,Tryz.ntmps195;go_wp2_with fail;refine hE.out.mono ?_;rintro e w1 ⟨rfl,hr1,hb1⟩;obtain ⟨c0,c1,c2⟩:=hr1.cells;have hB1:=hr1.size;replace hr1:=Lib.hid hr1;replace hb1:=Lib.hid hb1;clear hE f0 f1 f2;go_wp2_with fail;refine (hds.out _).mono ?_;rintro e w2 ⟨rfl,hb2⟩;have hr2:=Lib.hid (hr1.out.ext hb2);obtain ⟨e0,e1,e2⟩:=hr2.out.cells;have xV:=Lib.hid (hb1.out.trans (hb2.mono hB1));clear hb2 hds c0 c1 c2 hr1;go_wp2_with fail;refine (hpar.out _ (hT.out _ xV.out)).mono ?_;rintro e w3 ⟨⟨v,rfl,css,Tu,pF⟩,hb3⟩;clear hpar e0 e1 e2;obtain ⟨A,cA,rfl,Y7⟩:=ak Tu;obtain ⟨hB2,gm,nm,D,vr,vF,rs,V,hR2,hw2,acJ⟩:=hr2.out;have hl1:=bJ.lJ ok (by omega) hs hR2;have nN:=hR2.ext hB2 hb3;obtain ⟨f0,f1,f2,f3,f4,f5,f6⟩:=nN.cells;obtain ⟨g,c,hv,b9⟩:=nN.En (by omega);replace b9:=Lib.hid b9;have jy:=Nat.le_trans hB2 hb3.size;have hnew:∀ b,(w2.heap.size≤b∧b<w3.heap.size)→Fr w3 B (az (pV bR gm nm s false D vr vF st.runs) 3 4 5 vF rs V) b:=fun b hb=>Hq.new (w':=w3) hR2.rw.hp hB2 hb.1 hb.2;have hput:=Lib.hid (Ba nN jy 4 (by decide) [] d ks A cA (by omega) hv (by
  unfold IC;exact ⟨A,cA,css,rfl,Y7,(jl Tu).frame (fun _ _=>rfl) hnew,gP (fun _ _=>rfl) hnew pF⟩))
 have hbel:=Lib.hid (xV.out.trans (hb3.mono hB2));have hwl:=Lib.hid (uJ rs (.mk 4 [] d ks));have QM:bs []=⟨#[]⟩:=rfl;replace hv:=Lib.hid hv;clear hnew hR2 nN hr2 Tu pF hb3 hT;go_wp2_with fail;refine (b9.out _).mono ?_;rintro e w3' ⟨rfl,rfl⟩;go_wp2_with fail;refine hput.out.mono ?_;rintro e w4 ⟨rfl,V',LM,hb4⟩;have hb:=Lib.hid (hbel.out.trans hb4);replace LM:=Lib.hid LM;clear hb4 hput f0 f1 f2 f3 f4 f5 f6;go_wp2;go_ret;exact ⟨rfl,⟨Nat.le_trans hB hb.out.size,gm,nm,D,vr,_,_,V',LM.out,by have h9:=hwl.out;simp only [Il.eS,List.length_nil] at h9;omega,by omega⟩,hb.out⟩
end
section
variable {w:World}{B bR:Nat}{s:List UInt8}{link:Bool}{st:Il.Sc}{i mk:Nat}
theorem jf {b c:UInt8}(h:b=c) {k:Int}(hk:(c.toNat:Int)=k):((b.toNat:Int)==k)=true:=by rw [h,hk];simp
theorem bf {b c:UInt8}(h:b≠c) {k:Int}(hk:(c.toNat:Int)=k):((b.toNat:Int)==k)=false:=by
 rw [← hk];have:b.toNat≠c.toNat:=fun e=>h (UInt8.toNat_inj.1 e);simp only [beq_eq_false_iff_ne,ne_eq];omega
theorem S6 (h:bJ w B bR s link st i mk) (hi:i<s.length) (hb:s[i]=96) {n:Nat}{G:World→Prop}
  (hc:Calls Tryz.prog 193 #[.pointer (some ⟨bR,0,none⟩),.int .i64 (i:Int)] w fun e w'=>e=.returned (.int .i64 (n:Int))∧G w') :
  Calls Tryz.prog 173 #[.pointer (some ⟨bR,0,none⟩),.int .i64 (i:Int)] w fun e w'=>e=.returned (.int .i64 (n:Int))∧G w':=by
 obtain ⟨f0,f1,f2⟩:=h.cells;have hix:=bC hi;have t96:=jf hb (k:=96) rfl;clear h;replace hc:=Lib.hid hc;generalize s[i]=ch at *;go_enter Tryz.func173,Tryz.ntmps173;go_wp2_with fail;refine hc.out.mono ?_;rintro e w1 ⟨rfl,hG⟩;replace hG:=Lib.hid hG;clear hc f0 f1 f2;go_wp2;go_ret;exact ⟨rfl,hG.out⟩
theorem Rr (h:bJ w B bR s link st i mk) (hi:i<s.length) (hb:s[i]=60) {n:Nat}{G:World→Prop}
  (hc:Calls Tryz.prog 194 #[.pointer (some ⟨bR,0,none⟩),.int .i64 (i:Int)] w fun e w'=>e=.returned (.int .i64 (n:Int))∧G w') :
  Calls Tryz.prog 173 #[.pointer (some ⟨bR,0,none⟩),.int .i64 (i:Int)] w fun e w'=>e=.returned (.int .i64 (n:Int))∧G w':=by
 obtain ⟨f0,f1,f2⟩:=h.cells;have hix:=bC hi;have t96:=bf (b:=s[i]) (c:=96) (by rw [hb];decide) (k:=96) rfl;have t60:=jf hb (k:=60) rfl;clear h;replace hc:=Lib.hid hc;generalize s[i]=ch at *;go_enter Tryz.func173,Tryz.ntmps173;go_wp2_with fail;refine hc.out.mono ?_;rintro e w1 ⟨rfl,hG⟩;replace hG:=Lib.hid hG;clear hc f0 f1 f2;go_wp2;go_ret;exact ⟨rfl,hG.out⟩
theorem S5 (h:bJ w B bR s link st i mk) (hi:i<s.length) (hb:s[i]=91) {n:Nat}{G:World→Prop}
  (hc:Calls Tryz.prog 195 #[.pointer (some ⟨bR,0,none⟩),.int .i64 (i:Int)] w fun e w'=>e=.returned (.int .i64 (n:Int))∧G w') :
  Calls Tryz.prog 173 #[.pointer (some ⟨bR,0,none⟩),.int .i64 (i:Int)] w fun e w'=>e=.returned (.int .i64 (n:Int))∧G w':=by
 obtain ⟨f0,f1,f2⟩:=h.cells;have hix:=bC hi;have t96:=bf (b:=s[i]) (c:=96) (by rw [hb];decide) (k:=96) rfl;have t60:=bf (b:=s[i]) (c:=60) (by rw [hb];decide) (k:=60) rfl;have t91:=jf hb (k:=91) rfl;clear h;replace hc:=Lib.hid hc;generalize s[i]=ch at *;go_enter Tryz.func173,Tryz.ntmps173;go_wp2_with fail;refine hc.out.mono ?_;rintro e w1 ⟨rfl,hG⟩;replace hG:=Lib.hid hG;clear hc f0 f1 f2;go_wp2;go_ret;exact ⟨rfl,hG.out⟩
theorem S8 (h:bJ w B bR s link st i mk) (hi:i<s.length) (hb:s[i]=42) {n:Nat}{G:World→Prop}
  (hc:Calls Tryz.prog 196 #[.pointer (some ⟨bR,0,none⟩),.int .i64 (i:Int)] w fun e w'=>e=.returned (.int .i64 (n:Int))∧G w') :
  Calls Tryz.prog 173 #[.pointer (some ⟨bR,0,none⟩),.int .i64 (i:Int)] w fun e w'=>e=.returned (.int .i64 (n:Int))∧G w':=by
 obtain ⟨f0,f1,f2⟩:=h.cells;have hix:=bC hi;have t96:=bf (b:=s[i]) (c:=96) (by rw [hb];decide) (k:=96) rfl;have t60:=bf (b:=s[i]) (c:=60) (by rw [hb];decide) (k:=60) rfl;have t91:=bf (b:=s[i]) (c:=91) (by rw [hb];decide) (k:=91) rfl;have t42:=jf hb (k:=42) rfl;clear h;replace hc:=Lib.hid hc;generalize s[i]=ch at *;go_enter Tryz.func173,Tryz.ntmps173;go_wp2_with fail;refine hc.out.mono ?_;rintro e w1 ⟨rfl,hG⟩;replace hG:=Lib.hid hG;clear hc f0 f1 f2;go_wp2;go_ret;exact ⟨rfl,hG.out⟩
theorem Qz (h:bJ w B bR s link st i mk) (hi:i<s.length) (hb:s[i]=95) {n:Nat}{G:World→Prop}
  (hc:Calls Tryz.prog 196 #[.pointer (some ⟨bR,0,none⟩),.int .i64 (i:Int)] w fun e w'=>e=.returned (.int .i64 (n:Int))∧G w') :
  Calls Tryz.prog 173 #[.pointer (some ⟨bR,0,none⟩),.int .i64 (i:Int)] w fun e w'=>e=.returned (.int .i64 (n:Int))∧G w':=by
 obtain ⟨f0,f1,f2⟩:=h.cells;have hix:=bC hi;have t96:=bf (b:=s[i]) (c:=96) (by rw [hb];decide) (k:=96) rfl;have t60:=bf (b:=s[i]) (c:=60) (by rw [hb];decide) (k:=60) rfl;have t91:=bf (b:=s[i]) (c:=91) (by rw [hb];decide) (k:=91) rfl;have t42:=bf (b:=s[i]) (c:=42) (by rw [hb];decide) (k:=42) rfl;have t95:=jf hb (k:=95) rfl;clear h;replace hc:=Lib.hid hc;generalize s[i]=ch at *;go_enter Tryz.func173,Tryz.ntmps173;go_wp2_with fail;refine hc.out.mono ?_;rintro e w1 ⟨rfl,hG⟩;replace hG:=Lib.hid hG;clear hc f0 f1 f2;go_wp2;go_ret;exact ⟨rfl,hG.out⟩
theorem GR (h:bJ w B bR s link st i mk) (hi:i<s.length) (jW:s[i]≠96) (eB:s[i]≠60) (mI:s[i]≠91) (Wy:s[i]≠42) (Wj:s[i]≠95) (h10:s[i]≠10) {n:Nat}{G:World→Prop}
  (hc:Calls Tryz.prog 199 #[.pointer (some ⟨bR,0,none⟩),.int .i64 (i:Int)] w fun e w'=>e=.returned (.int .i64 (n:Int))∧G w') :
  Calls Tryz.prog 173 #[.pointer (some ⟨bR,0,none⟩),.int .i64 (i:Int)] w fun e w'=>e=.returned (.int .i64 (n:Int))∧G w':=by
 obtain ⟨f0,f1,f2⟩:=h.cells;have hix:=bC hi;have t96:=bf jW (k:=96) rfl;have t60:=bf eB (k:=60) rfl;have t91:=bf mI (k:=91) rfl;have t42:=bf Wy (k:=42) rfl;have t95:=bf Wj (k:=95) rfl;have t10:=bf h10 (k:=10) rfl;clear h;replace hc:=Lib.hid hc;generalize s[i]=ch at *;go_enter Tryz.func173,Tryz.ntmps173;go_wp2_with fail;refine hc.out.mono ?_;rintro e w1 ⟨rfl,hG⟩;replace hG:=Lib.hid hG;clear hc f0 f1 f2;go_wp2;go_ret;exact ⟨rfl,hG.out⟩
end
section
variable {w:World}{B bR:Nat}{s:List UInt8}{link:Bool}{st:Il.Sc}{i mk:Nat}
theorem Ra (h:bJ w B bR s link st i mk) (ok:Il.fh st i) (hi:i<s.length) (hs:s.length≤4000000) (hb:s[i]=10) :
  Calls Tryz.prog 173 #[.pointer (some ⟨bR,0,none⟩),.int .i64 (i:Int)] w fun e w'=>e=.returned (.int .i64 ((i+1:Nat):Int)) ∧
   bJ w' B bR s link ⟨st.l++[⟨.mk 5 [] [] [],none,0,0⟩],st.runs⟩ (i+1) mk∧Below B w w':=by
 have hix:=bC hi;have t96:=bf (b:=s[i]) (c:=96) (by rw [hb];decide) (k:=96) rfl;have t60:=bf (b:=s[i]) (c:=60) (by rw [hb];decide) (k:=60) rfl;have t91:=bf (b:=s[i]) (c:=91) (by rw [hb];decide) (k:=91) rfl;have t42:=bf (b:=s[i]) (c:=42) (by rw [hb];decide) (k:=42) rfl;have t95:=bf (b:=s[i]) (c:=95) (by rw [hb];decide) (k:=95) rfl;have t10:=jf hb (k:=10) rfl;generalize s[i]=ch at *;obtain ⟨hB,gm,nm,D,vr,vF,rs,V,hR,hw,hnm⟩:=h;have hl1:=bJ.lJ ok (by omega) hs hR;obtain ⟨f0,f1,f2,f3,f4,f5,f6⟩:=hR.cells;obtain ⟨g,c,hv,b9⟩:=hR.En (by omega);replace b9:=Lib.hid b9;have hput:=Lib.hid (Ba hR hB 5 (by decide) [] [] [] none 0 (by omega) hv (Iw _ _ _ _ _));have hwl:=Lib.hid (uJ rs (.mk 5 [] [] []));have QM:bs []=⟨#[]⟩:=rfl;have hadd:Hid (((i+1:Nat):Int)=(i:Int)+1):=Lib.hid (by omega);replace hv:=Lib.hid hv;clear hR;go_enter Tryz.func173,Tryz.ntmps173;go_wp2_with fail;refine (b9.out _).mono ?_;rintro e w2 ⟨rfl,rfl⟩;go_wp2_with fail;refine hput.out.mono ?_;rintro e w3 ⟨rfl,V',nN,hb3⟩;replace nN:=Lib.hid nN;replace hb3:=Lib.hid hb3;clear f0 f1 f2 f3 f4 f5 f6 hput;go_wp2;go_ret;exact ⟨by rw [hadd.out];rfl,⟨Nat.le_trans hB hb3.out.size,gm,nm,D,vr,_,_,V',nN.out,by have h9:=hwl.out;simp only [Il.eS,List.length_nil] at h9;omega,by omega⟩,hb3.out⟩
end
end Go.Proofs.YtddkjkockbcamaaGreatDoor
namespace Go.Proofs.YtddkjkockbcamaaGreatDoor
open Go.RowKit Go.Maps
theorem Em.pG {s:List UInt8}{i:Nat}(hi:i<s.length) (h1:s[i]≠42) (h2:s[i]≠95):Em.kind s (i:Int)=none:=by
 refine Em.Eh ?_;unfold Em.starts;refine decide_eq_false fun h=>?_;have h3:=h.2.2.1;rw [Int.toNat_natCast,Em.getD_at hi] at h3;rcases h3 with h3 | h3
 ·exact h1 h3
 ·exact h2 h3
theorem qV {s:List UInt8}{i:Nat}(hi:i<s.length) (h:s[i]≠91):Il.dy s i=none:=by
 unfold Il.dy;rw [Lk.JG (.inr (by rw [Em.getD_at hi];exact h))]
theorem Lk.J6 {s:List UInt8}{i:Nat}{t:List UInt8}{n:Nat}(h:Lk.auto s (i:Int)=some (t,n)):t≠[]∧t.length≤s.length:=by
 cases hs:Lk.starts s i with
 | false=>rw [Lk.nr hs] at h;cases h
 | true =>
  rw [Lk.Bc hs rfl] at h;obtain ⟨j,hj,he⟩:=Option.map_eq_some_iff.1 h;injection he with ht he;have h1:=Lk.sG _ _ _ hj;unfold Lk.starts at hs;have h2:=(of_decide_eq_true hs).2.2.1;have h3:=eZ (l:=s) (lo:=i+1) (hi:=j) (by omega);rw [ht] at h3;exact ⟨fun e=>by rw [e] at h3;simp at h3;omega,by omega⟩
section
variable {w:World}{B bR:Nat}{s:List UInt8}{link:Bool}{st:Il.Sc}{i mk mk':Nat}{inner:List UInt8→List Il.In}
theorem bJ.more (h:bJ w B bR s link st i mk) (hm:mk≤mk'):bJ w B bR s link st i mk':=by
 obtain ⟨hB,gm,nm,D,vr,vF,rs,V,hR,hw,hnm⟩:=h;exact ⟨hB,gm,nm,D,vr,vF,rs,V,hR,hw,by omega⟩
theorem MV (hi:i<s.length) (hb:s[i]=96):Il.piece link inner s i st=(match Cd.span s (i:Int) with
  | some (t,e)=>(e,⟨st.l++[⟨.mk 1 t [] [],none,0,0⟩],st.runs⟩)
  | none=>(i+Fn.run 96 (s.drop i),⟨Il.eW st.l (mid s i (i+Fn.run 96 (s.drop i))),st.runs⟩)):=by
 unfold Il.piece;rw [if_pos (by rw [Em.getD_at hi];exact hb)]
 rfl
theorem Fq (hi:i<s.length) (hb:s[i]≠96) {t:List UInt8}{e:Nat}(ha:Lk.auto s (i:Int)=some (t,e)):Il.piece false inner s i st=(e,⟨st.l++[⟨.mk 4 [] t [Il.word (Ru.enc (Ru.aP t))],none,0,0⟩],st.runs⟩):=by
 unfold Il.piece;rw [if_neg (by rw [Em.getD_at hi];exact hb),if_neg (by decide),ha]
theorem Hg (hi:i<s.length) (hb:s[i]≠96) (ha:Lk.auto s (i:Int)=none) {d:List UInt8}{j e:Nat}(hl:Il.dy s i=some (d,j,e)):Il.piece false inner s i st=(e,⟨st.l++[⟨.mk 4 [] d (inner (mid s (i+1) j)),none,0,0⟩],st.runs⟩):=by
 unfold Il.piece;rw [if_neg (by rw [Em.getD_at hi];exact hb),if_neg (by decide),ha];simp only;rw [if_neg (by decide),hl]
theorem pN (hi:i<s.length) (hb:s[i]≠96) (ha:link=true∨Lk.auto s (i:Int)=none) (hl:link=true∨Il.dy s i=none):Il.piece link inner s i st=(match Em.kind s (i:Int) with
   | some (r,e)=>(e,⟨st.l++[⟨Il.none_,some st.runs.length,r.n.toNat,r.ch⟩],st.runs++[r]⟩)
   | none=>if s.getD i 0=10 then (i+1,⟨st.l++[⟨.mk 5 [] [] [],none,0,0⟩],st.runs⟩)
        else ((Es.next s i).2.1,⟨Il.eW st.l (Lib.encodeRune ((Es.next s i).1:Int)),st.runs⟩)):=by
 unfold Il.piece;have h1:(if link=true then none else Lk.auto s (i:Int))=none:=by
  rcases ha with h | h
  ·rw [if_pos h]
  ·rw [h];split<;>rfl
 have h2:(if link=true then none else Il.dy s i)=none:=by
  rcases hl with h | h
  ·rw [if_pos h]
  ·rw [h];split<;>rfl
 rw [if_neg (by rw [Em.getD_at hi];exact hb),h1];simp only;rw [h2]
 rfl
theorem ez (hi:i<s.length) (hb:s[i]≠96) (ha:link=true∨Lk.auto s (i:Int)=none) (hl:link=true∨Il.dy s i=none) (hk:Em.kind s (i:Int)=none) (h10:s[i]≠10):Il.piece link inner s i st=((Es.next s i).2.1,⟨Il.eW st.l (Lib.encodeRune ((Es.next s i).1:Int)),st.runs⟩):=by
 rw [pN hi hb ha hl,hk];simp only;rw [if_neg (by rw [Em.getD_at hi];exact h10)]
theorem Sr (h:bJ w B bR s link st i mk) (ok:Il.fh st i) (hi:i<s.length) (hs:s.length≤4000000) (hT:∀ u,Below B w u→Tabs u) (hP:link=false→Wk true inner)
  (hE:link=false→s[i]=91→Calls Tryz.prog 222 #[.pointer (some ⟨bR,2,none⟩),.int .i64 (i:Int)] w (qz w B bR s st i mk')) (hm:mk≤mk') :
  Calls Tryz.prog 173 #[.pointer (some ⟨bR,0,none⟩),.int .i64 (i:Int)] w fun e w'=>e=.returned (.int .i64 ((Il.piece link inner s i st).1:Int)) ∧
   (bJ w' B bR s link (Il.piece link inner s i st).2 (Il.piece link inner s i st).1 mk'∧Below B w w'):=by
 have zy:=Il.piece_more link inner hi st;have hw:=hT w (Below.refl _ _);have h':=h.more hm
 by_cases jW:s[i]=96
 ·refine S6 h' hi jW ?_
  rw [MV hi jW] at zy ⊢;cases hsp:Cd.span s (i:Int) with
  | some x =>
   obtain ⟨t,e⟩:=x;rw [hsp] at zy;simp only at zy;have hl:=Il.vO hsp;exact NL (t:=t) (n:=e) h' ok hi hs hsp zy.1 (by omega)
  | none=>exact P7 h' ok hi hs hsp jW
 by_cases eB:s[i]=60
 ·refine Rr h' hi eB ?_
  have hk:=Em.pG hi (by rw [eB];decide) (by rw [eB];decide);have h10:s[i]≠10:=by rw [eB];decide
  cases link with
  | true =>
   rw [ez hi jW (.inl rfl) (.inl rfl) hk h10];exact Er h' ok hi hs (.inl rfl)
  | false =>
   cases ha:Lk.auto s (i:Int) with
   | none =>
    rw [ez hi jW (.inr ha) (.inr (qV hi (by rw [eB];decide))) hk h10];exact Er h' ok hi hs (.inr ha)
   | some x =>
    obtain ⟨t,e⟩:=x;rw [Fq hi jW ha] at zy ⊢;have ht:=Lk.J6 ha;exact PR h' ok hi hs ha zy.1 (Il.E6 ht.1) (by omega)
 have ha:=lO hi eB
 by_cases mI:s[i]=91
 ·refine S5 h' hi mI ?_
  have hk:=Em.pG hi (by rw [mI];decide) (by rw [mI];decide);have h10:s[i]≠10:=by rw [mI];decide
  cases link with
  | true =>
   rw [ez hi jW (.inl rfl) (.inl rfl) hk h10];exact Mh h' ok hi hs
  | false =>
   cases hc:Lk.close s (i:Int) with
   | none =>
    have hl:Il.dy s i=none:=by unfold Il.dy;rw [hc]
    rw [ez hi jW (.inr ha) (.inr hl) hk h10];exact Nu h ok hi hs hc (hE rfl mI)
   | some j =>
    have hj:j<s.length:=by
     rw [Lk.qa hi (by rw [Em.getD_at hi];exact mI)] at hc;exact (Il.dK _ _ _ _ hc).2
    have hij:i<j:=by
     rw [Lk.qa hi (by rw [Em.getD_at hi];exact mI)] at hc;have:=(Il.dK _ _ _ _ hc).1;omega
    cases hd:Lk.dest s ((j:Int)+1) with
    | none =>
     have hl:Il.dy s i=none:=by unfold Il.dy;rw [hc];simp only;rw [hd]
     rw [ez hi jW (.inr ha) (.inr hl) hk h10];exact Pw h ok hi hs hc hj hd (hE rfl mI)
    | some x =>
     obtain ⟨d,e⟩:=x;have hl:Il.dy s i=some (d,j,e):=by unfold Il.dy;rw [hc];simp only;rw [hd]
     have hsp:=Il.kz hl;rw [Hg hi jW ha hl];exact P5 h ok hi hs hT (hP rfl) hc hij hj hd hsp.2.1 (hE rfl mI)
 have hl:=qV hi mI;have hrun:∀ (_:s[i]=42∨s[i]=95),Calls Tryz.prog 196 #[.pointer (some ⟨bR,0,none⟩),.int .i64 (i:Int)] w fun e w'=>e=.returned (.int .i64 ((Il.piece link inner s i st).1:Int)) ∧
   (bJ w' B bR s link (Il.piece link inner s i st).2 (Il.piece link inner s i st).1 mk'∧Below B w w'):=fun hr=>by
  have h10:s[i]≠10:=by rcases hr with e | e<;>rw [e]<;>decide
  cases hk:Em.kind s (i:Int) with
  | none =>
   rw [ez hi jW (.inr ha) (.inr hl) hk h10];exact Q1 h' ok hi hs hw hk
  | some x =>
   obtain ⟨r,e⟩:=x;rw [pN hi jW (.inr ha) (.inr hl),hk];exact Rm h' ok hi hs hw hk (Il.yh hk).1
 by_cases Wy:s[i]=42
 ·exact S8 h' hi Wy (hrun (.inl Wy))
 by_cases Wj:s[i]=95
 ·exact Qz h' hi Wj (hrun (.inr Wj))
 have hk:=Em.pG hi Wy Wj
 by_cases h10:s[i]=10
 ·rw [pN hi jW (.inr ha) (.inr hl),hk]
  simp only;rw [if_pos (by rw [Em.getD_at hi];exact h10)];exact Ra h' ok hi hs h10
 rw [ez hi jW (.inr ha) (.inr hl) hk h10];exact GR h' hi jW eB mI Wy Wj h10 (kJ h' ok hi hs)
end
end Go.Proofs.YtddkjkockbcamaaGreatDoor
namespace Go.Proofs.YtddkjkockbcamaaGreatDoor
structure Il.At (link:Bool) (inner:List UInt8→List Il.In) (s:List UInt8) (i:Nat) (st:Il.Sc):Prop where
 le:i≤s.length
 ok:Il.fh st i
 few:Il.xO st i
 rest:Il.scan link inner s i st=Il.scan link inner s 0 ⟨[],[]⟩
theorem Il.At.start (link:Bool) (inner:List UInt8→List Il.In) (s:List UInt8):Il.At link inner s 0 ⟨[],[]⟩:=⟨Nat.zero_le _,Il.pI,⟨by simp,by simp [Il.weight]⟩,rfl⟩
theorem Il.At.more {link:Bool}{inner:List UInt8→List Il.In}(hin:link=false→Il.jJ inner) {s:List UInt8}(hs:s.length≤4000000) {i:Nat}{st:Il.Sc}(h:Il.At link inner s i st) (hi:i<s.length) :
  Il.At link inner s (Il.piece link inner s i st).1 (Il.piece link inner s i st).2∧i<(Il.piece link inner s i st).1:=by
 have hm:=Il.piece_more link inner hi st;obtain ⟨k1,k2⟩:=Il.wC link inner hin hs hi h.ok h.few;refine ⟨⟨hm.2,k1,k2,?_⟩,hm.1⟩;rw [← h.rest,Il.Ju link inner hi]
theorem Il.At.done {link:Bool}{inner:List UInt8→List Il.In}{s:List UInt8}{i:Nat}{st:Il.Sc}(h:Il.At link inner s i st) (hi:¬ i<s.length):Il.dY st.l st.runs=Il.within link inner s:=by
 have:=h.rest;rw [Il.Mn link inner (by omega)] at this;unfold Il.within;rw [← this]
theorem Em.Dj (c:UInt8) (n b a:Nat):(Em.qd c n b a).ch=c∧(Em.qd c n b a).n=(n:Int):=by
 unfold Em.qd
 split<;>exact ⟨rfl,rfl⟩
theorem Em.SD {s:List UInt8}{i:Nat}{r:Em.R}{e:Nat}(h:Em.kind s (i:Int)=some (r,e)):r.ch.toNat<128∧r.n=((e-i:Nat):Int):=by
 unfold Em.kind at h
 split at h
 ·rename_i hs
  unfold Em.starts at hs;have h3:=(of_decide_eq_true hs).2.2.1;rw [Int.toNat_natCast] at h h3;injection h with h;injection h with h1 h2;subst h1 h2;refine ⟨?_,?_⟩
  ·rw [(Em.Dj _ _ _ _).1]
   rcases h3 with e | e<;>rw [e]<;>decide
  ·rw [(Em.Dj _ _ _ _).2,Nat.add_sub_cancel_left]
 ·cases h
structure Il.Sg (st:Il.Sc) (i:Nat):Prop where
 ch:∀ r∈st.runs,r.ch.toNat<128
 ct:I6 st.runs≤i
theorem Il.QJ (link:Bool) (inner:List UInt8→List Il.In) {s:List UInt8}{i:Nat}{st:Il.Sc}(h:Il.Sg st i) (hi:i<s.length):Il.Sg (Il.piece link inner s i st).2 (Il.piece link inner s i st).1:=by
 have hm:=Il.piece_more link inner hi st;have hk:(Il.piece link inner s i st).2.runs=st.runs∨∃ r e,Em.kind s (i:Int)=some (r,e)∧(Il.piece link inner s i st).1=e∧(Il.piece link inner s i st).2.runs=st.runs++[r]:=by
  unfold Il.piece
  split
  ·split<;>exact .inl rfl
  ·split
   ·exact .inl rfl
   ·split
    ·exact .inl rfl
    ·split
     ·rename_i r e hk
      exact .inr ⟨r,e,hk,rfl,rfl⟩
     ·split<;>exact .inl rfl
 rcases hk with hk | ⟨r,e,hk,he,hr⟩
 ·exact ⟨by rw [hk];exact h.ch,by rw [hk];have:=h.ct;omega⟩
 ·obtain ⟨k1,k2⟩:=Em.SD hk
  refine ⟨?_,?_⟩
  ·rw [hr]
   intro x hx;rcases List.mem_append.1 hx with hx | hx
   ·exact h.ch x hx
   ·obtain rfl:=List.mem_singleton.1 hx;exact k1
  ·rw [hr]
   have h2:=h.ct;have e1:I6 (st.runs++[r])=I6 st.runs+r.n.toNat:=by simp [I6]
   have hm1:=hm.1;rw [he] at hm1 ⊢;rw [e1];omega
end Go.Proofs.YtddkjkockbcamaaGreatDoor
namespace Go.Proofs.YtddkjkockbcamaaGreatDoor
open Go.RowKit Go.Maps
attribute [local go_sem] aD av aq
theorem uV {gm gF bR:Nat}{s:List UInt8}{link:Bool}{k:Ky}{a:Pa}(h:az (pV bR gm 0 s link (DataW.map []) (.slice none 0 0) (.slice (some ⟨gF,0,none⟩) 1 1) []) 3 4 5 (.slice (some ⟨gF,0,none⟩) 1 1) [Il.Rw.nil] [(.slice none 0 0,.slice none 0 0,[])] k=some a) :
  (k=(3,0)∧a=.row 216 2 (.slice (some ⟨gF,0,none⟩) 1 1) 1 [.slice none 0 0,.slice none 0 0])∨(k=(0,0)∧a=.blk bR (BS s link gm (.slice none 0 0) (.slice (some ⟨gF,0,none⟩) 1 1)) 221)∨(k=(2,0)∧a=.map gm 0 (DataW.map [])) ∨
   (∃ e size,a=.row e size (.slice none 0 0) 0 []):=by
 obtain ⟨k1,k2⟩:=k;have hat:∀ (f:Il.Rw→V3→Pa),atR [Il.Rw.nil] [(.slice none 0 0,.slice none 0 0,[])] f k2=some a→a=f Il.Rw.nil (.slice none 0 0,.slice none 0 0,[]):=fun f hf=>by
  unfold atR at hf;cases k2 with
  | zero=>simp at hf;exact hf.symm
  | succ j=>simp at hf
 unfold az at h
 by_cases h3:(k1,k2)=(3,0)
 ·rw [if_pos h3] at h
  injection h with h;exact .inl ⟨h3,h.symm⟩
 rw [if_neg h3] at h
 by_cases h4:k1=4
 ·rw [if_pos h4] at h
  exact .inr (.inr (.inr ⟨_,_,hat _ h⟩))
 rw [if_neg h4] at h
 by_cases h5:k1=5
 ·rw [if_pos h5] at h
  exact .inr (.inr (.inr ⟨_,_,hat _ h⟩))
 rw [if_neg h5] at h;unfold pV at h
 by_cases h0:(k1,k2)=(0,0)
 ·rw [if_pos h0] at h
  injection h with h;exact .inr (.inl ⟨h0,h.symm⟩)
 rw [if_neg h0] at h
 by_cases h1:(k1,k2)=(1,0)
 ·rw [if_pos h1] at h
  injection h with h;exact .inr (.inr (.inr ⟨_,_,h.symm⟩))
 rw [if_neg h1] at h
 by_cases h2:(k1,k2)=(2,0)
 ·rw [if_pos h2] at h
  injection h with h;exact .inr (.inr (.inl ⟨h2,h.symm⟩))
 rw [if_neg h2] at h;cases h
theorem Ph {W:World}{B gm gF bR:Nat}{s:List UInt8}{link:Bool}(hB:B≤gm) (h1:gm<gF) (h2:gF<bR) (hm:l5 W gm 0 (DataW.map []))
  (hF:W.heap[gF]? = some (.cells #[.slice none 0 0,.slice none 0 0] 216 (0,0))) (hR:W.heap[bR]? = some (.cells (BS s link gm (.slice none 0 0) (.slice (some ⟨gF,0,none⟩) 1 1)) 221 (0,0))):bJ W B bR s link ⟨[],[]⟩ 0 0:=by
 have hz:=(Array.getElem?_eq_some_iff.1 hR).1;refine ⟨by omega,gm,0,DataW.map [],.slice none 0 0,.slice (some ⟨gF,0,none⟩) 1 1,[Il.Rw.nil],[(.slice none 0 0,.slice none 0 0,[])],⟨⟨⟨fun k a ha=>?_,fun k k' a a' g ha ha' hg hg'=>?_⟩,rfl,fun i hi hi'=>?_⟩,Il.Kh,fun i hi=>?_⟩,by simp [Il.gD,Il.Rw.wt,Il.Rw.nil,Il.eA],Nat.le_refl _⟩
 ·rcases uV ha with ⟨_,rfl⟩ | ⟨_,rfl⟩ | ⟨_,rfl⟩ | ⟨e,size,rfl⟩
  ·exact ⟨rfl,.inr ⟨gF,1,_,rfl,by omega,hF,Nat.le_refl _,by unfold maxLen;omega,rfl,rfl⟩⟩
  ·exact ⟨by omega,hR⟩
  ·exact ⟨hB,hm⟩
  ·exact World.ownsRow_nil _ _ _ _
 ·rcases uV ha with ⟨e1,rfl⟩ | ⟨e1,rfl⟩ | ⟨e1,rfl⟩ | ⟨e,size,rfl⟩<;>rcases uV ha' with ⟨e2,rfl⟩ | ⟨e2,rfl⟩ | ⟨e2,rfl⟩ | ⟨e',size',rfl⟩<;>first | exact e1.trans e2.symm | (exfalso;simp only [Pa.block,Value.ownBlock,Option.some.injEq,reduceCtorEq] at hg hg'<;>omega)
 ·have:i=0:=by simp at hi;exact hi
  subst this;exact p4
 ·simp [Maps.has_eq] at hi
section
variable {link:Bool}{inner:List UInt8→List Il.In}
theorem zI (hP:link=false→Wk true inner) (hin:link=false→Il.jJ inner):Wk link (Il.within link inner):=by
 intro s w hs hT;have hsz:=au s;have hmm:=@run_makeMap Tryz.prog;go_enter Tryz.func139,Tryz.ntmps139;go_upto_region 2 with fail
 have Kj:bJ (((w.alloc (.map #[] 0)).alloc (.cells #[.slice none 0 0,.slice none 0 0] 216)).alloc (.cells #[.string (bs s),.bool link,.string (bs s),.map (some w.heap.size),.slice none 0 0,.slice (some ⟨w.heap.size+1,0,none⟩) 1 1] 221)) w.heap.size (w.heap.size+1+1) s link ⟨[],[]⟩ 0 0:=by
  refine Ph (gm:=w.heap.size) (gF:=w.heap.size+1) (Nat.le_refl _) (by omega) (by omega) (World.ownsMap.alloc (World.ownsMap.alloc (World.ownsMap_made w _ _ _) _) _) ?_ ?_
  ·refine (keep ?_ (aa _ _)).1
   have:=heap_alloc_new (w.alloc (.map #[] 0)) (.cells #[.slice none 0 0,.slice none 0 0] 216);rwa [show (w.alloc (.map #[] 0)).heap.size=w.heap.size+1 by simp] at this
  ·have:=heap_alloc_new ((w.alloc (.map #[] 0)).alloc (.cells #[.slice none 0 0,.slice none 0 0] 216)) (.cells (BS s link w.heap.size (.slice none 0 0) (.slice (some ⟨w.heap.size+1,0,none⟩) 1 1)) 221)
   rwa [show ((w.alloc (.map #[] 0)).alloc (.cells #[.slice none 0 0,.slice none 0 0] 216)).heap.size=w.heap.size+1+1 by simp] at this
 have hb0:Below w.heap.size w (((w.alloc (.map #[] 0)).alloc (.cells #[.slice none 0 0,.slice none 0 0] 216)).alloc (.cells #[.string (bs s),.bool link,.string (bs s),.map (some w.heap.size),.slice none 0 0,.slice (some ⟨w.heap.size+1,0,none⟩) 1 1] 221)):=ag (ag (aa _ _) (aa _ _)) (aa _ _);generalize hW:World.alloc (World.alloc (World.alloc w _) _) _=W at Kj hb0 ⊢;obtain ⟨B,Ww⟩:∃ B,B=w.heap.size:=⟨_,rfl⟩
 obtain ⟨bR,Yf⟩:∃ bR,bR=w.heap.size+1+1:=⟨_,rfl⟩
 rw [← Yf,← Ww] at Kj;rw [← Ww] at hb0;rw [← Yf,← Ww];have hTx:=Lib.hid (fun (u:World) (hu:Below B w u)=>cy hT (by rw [← Ww];exact hu));replace Kj:=Lib.hid Kj;replace hb0:=Lib.hid hb0;have hBh:=Lib.hid Ww;clear hW Yf Ww hT hmm;go_wp2_with fail
 go_loopw [6] (fun u wr=>∃ (i:Nat) (st:Il.Sc),u=.int .i64 (i:Int)∧Hid (bJ wr B bR s link st i (5000000*i))∧Hid (Il.At link inner s i st)∧Hid (Il.Sg st i)∧Hid (Below B w wr)) (fun u _=>s.length-(intOf u).toNat)
 case atStart=>exact ⟨0,⟨[],[]⟩,rfl,Kj,Lib.hid (Il.At.start _ _ _),Lib.hid ⟨by simp,by simp [I6]⟩,hb0⟩
 case round =>
  obtain ⟨i,st,rfl,hr,hat,B0,hb⟩:=hrel;clear Kj hb0
  by_cases hil:i<s.length
  ·have hrd:=Sr (mk':=5000000*i+s.length+1) hr.out hat.out.ok hil hs (fun u hu=>hTx.out u (hb.out.trans hu)) hP (fun hl mI=>by subst hl;exact Wa hr.out hil mI hs (by omega)) (by omega)
   obtain ⟨hm1,hm2⟩:=hat.out.more hin hs hil;have hs2:=Il.QJ link inner B0.out hil;obtain ⟨P,Bq⟩:∃ P,P=Il.piece link inner s i st:=⟨_,rfl⟩
   rw [← Bq] at hrd hm1 hm2 hs2;obtain ⟨j,st2⟩:=P;simp only at hrd hm1 hm2 hs2;have hjl:=hm1.le;replace hrd:=Lib.hid hrd;replace hm1:=Lib.hid hm1;replace hs2:=Lib.hid hs2;clear Bq hr hat B0;go_wp2_with fail;refine hrd.out.mono ?_;rintro e w2 ⟨rfl,hr2,hb2⟩;have hr3:=Lib.hid (hr2.more (mk':=5000000*j) (by omega));have hb3:=Lib.hid (hb.out.trans hb2);clear hr2 hb2 hrd;go_wp2_with fail
   go_roundw
   case rel=>exact ⟨j,st2,rfl,hr3,hm1,hs2,hb3⟩
   case measure=>simp [intOf];omega
  ·have hd:=hat.out.done hil
   have hle:=hat.out.le;obtain ⟨hB,gm,nm,D,vr,vF,rs,V,hR,hw,hnm⟩:=hr.out;obtain ⟨f0,f1,f2,f3,f4,f5,f6⟩:=hR.cells;have hrow:=hR.rw.hp.holds (1,0) (.row 240 4 vr st.runs.length (aF st.runs)) (by unfold az pV;rw [if_neg (by simp),if_neg (by simp),if_neg (by simp),if_neg (by simp),if_pos rfl]);replace hrow:wr.ownsRow B 240 4 vr st.runs.length (aF st.runs):=hrow;obtain ⟨AR,cR,rfl,UN⟩:=ak hrow;have Dq:=J8 (AR:=AR) (cR:=cR) st hR.rw hB (by unfold pV;rw [if_neg (by simp),if_pos rfl]) hR.rel hat.out.ok (by omega) B0.out.ch (by omega) (by have:=B0.out.ct;omega);rw [hd] at Dq;replace Dq:=Lib.hid Dq;clear hd hR hrow hr hat B0 hTx;go_wp2_with fail;refine Dq.out.mono ?_;rintro e w9 ⟨v,rfl,css,ho,hI,DC⟩;have AD:=Lib.hid (hb.out.trans DC);replace ho:=Lib.hid ho;replace hI:=Lib.hid hI;clear DC Dq;go_wp2_with fail;go_ret;have k1:=ho.out;have k2:=hI.out;have k3:=AD.out;rw [hBh.out] at k1 k2 k3;exact ⟨⟨_,rfl,css,k1,k2⟩,k3⟩
end
theorem Ed:Wk true Il.inLink:=zI (fun h=>absurd h (by decide)) (fun h=>absurd h (by decide))
theorem GS:Wk false Il.parse:=zI (fun _=>Ed) (fun _=>Il.zN true (fun _=>[]) (fun h=>absurd h (by decide)))
theorem KH:V5:=by
 intro s w hs hT;have q:=Lib.hid (fun w hT=>GS s w hs hT);obtain ⟨X,hX⟩:∃ X,X=Il.parse s:=⟨_,rfl⟩
 rw [← hX] at q ⊢;replace hT:=Lib.hid hT;clear hX;go_enter Tryz.func96,Tryz.ntmps96;go_wp2_with fail;refine (q.out _ hT.out).mono ?_;rintro e w1 ⟨⟨v,rfl,css,ho,hI⟩,hb⟩;replace ho:=Lib.hid ho;replace hI:=Lib.hid hI;replace hb:=Lib.hid hb;go_wp2_with fail;go_ret;exact ⟨⟨_,rfl,css,ho.out,hI.out⟩,hb.out⟩
end Go.Proofs.YtddkjkockbcamaaGreatDoor
