/- PbRead PbParse -/
import Derived.Test.YtddkjkockbcamaaGreatDoorHe27
import Derived.Test.YtddkjkockbcamaaGreatDoorHe05
import Derived.Test.YtddkjkockbcamaaGreatDoorHe28
set_option maxHeartbeats 16000000
set_option maxRecDepth 100000
namespace Go.Proofs.YtddkjkockbcamaaGreatDoor
open Go.RowKit
attribute [local go_sem] aD av aq
def Pb.bh (l:List UInt8):List (List UInt8):=(Ln.texts (l.take 65536) 0).map Ru.text
theorem JM {l:List UInt8}{k:Nat}:∀ s∈Ln.texts l k,s.length≤l.length:=by
 intro s hs;unfold Ln.texts at hs;obtain ⟨x,_,rfl⟩:=List.mem_map.1 hs;unfold mid;rw [List.length_take,List.length_drop];omega
theorem I8 {ts:List (List UInt8)}{k:Nat}(h:k<ts.length) (r:Pb.Rd):Pb.lines ((ts.drop k).map Ru.text) k r=Pb.lines ((ts.drop (k+1)).map Ru.text) (k+1) (Pb.iB k (Ru.text ts[k]) r):=by
 rw [List.drop_eq_getElem_cons h,List.map_cons,Pb.lines]
theorem FK {ts:List (List UInt8)}{k:Nat}(h:¬ k<ts.length) (r:Pb.Rd):Pb.lines ((ts.drop k).map Ru.text) k r=r:=by
 rw [List.drop_eq_nil_of_le (by omega)];rfl
theorem Hp.low {K:Type}{w w':World}{B g:Nat}{m:K→Option Part}(h:Hp w B m) (hg:w.grownBy w' (some g)) (hl:g<B):Hp w' B m :=
 ⟨fun k a ha=>Part.kept (h.holds k a ha) hg (by
  cases hb:a.block with
  | none=>exact .inl rfl
  | some b=>exact .inr fun e=>by have:=(Part.lt (h.holds k a ha) hb).1;cases e;omega),h.apart⟩
abbrev lB:Array Value:=#[.int .i64 0,.int .i64 0,.string ⟨#[]⟩,.string ⟨#[]⟩,.int .i64 0,.slice none 0 0,.int .u8 0,.int .i64 0,.int .u8 0]
abbrev Ej (rv lv pv:Value) (l:Pb.Of):Array Value:=#[rv,.int .i64 (l.kind:Int),.int .i64 (l.line:Int),lv,.int .u8 (l.op.c.toNat:Int),.int .i64 (l.op.n:Int),.int .i64 (l.op.ind:Int),.string (bs l.op.info),.bool l.ended,pv]
abbrev Is (rv:Value):Array Value:=#[rv,.int .i64 0,.int .i64 0,.slice none 0 0,.int .u8 0,.int .i64 0,.int .i64 0,.string ⟨#[]⟩,.bool false,.slice none 0 0]
def Tl:MC:=⟨⟨0,0,[],0,0,none⟩,.slice none 0 0,[],.slice none 0 0,[]⟩
theorem Lj (w:World):cC ((w.alloc (.cells lB 76)).alloc (.cells (Is (.slice (some ⟨w.heap.size,0,none⟩) 1 1)) 73)) w.heap.size (fun _=>none) (w.heap.size+1) (.slice (some ⟨w.heap.size,0,none⟩) 1 1) (.slice none 0 0) (.slice none 0 0) (fun _=>none) [Tl] Pb.bH []:=by
 have H0:Hp w w.heap.size (fun _:mC=>(none:Option Part)):=⟨fun _ _ h=>(by cases h),fun _ _ _ _ _ h=>(by cases h)⟩
 have H1:=H0.yJ (k:=.row) (.row 76 9 (.slice (some ⟨w.heap.size,0,none⟩) 1 1) 1 lB.toList) rfl (aa w (.cells lB 76)) ⟨rfl,.inr ⟨w.heap.size,1,lB,rfl,Nat.le_refl _,heap_alloc_new w _,Nat.le_refl _,by unfold maxLen;omega,rfl,rfl⟩⟩ (fun g e=>by cases e;exact Nat.le_refl _);have hz:(w.alloc (.cells lB 76)).heap.size=w.heap.size+1:=by simp
 have H2:=H1.yJ (k:=.rd) (.blk (w.heap.size+1) (Is (.slice (some ⟨w.heap.size,0,none⟩) 1 1)) 73) (ai _ _ (by simp)) (aa _ (.cells (Is (.slice (some ⟨w.heap.size,0,none⟩) 1 1)) 73)) ⟨by omega,by
  have:=heap_alloc_new (w.alloc (.cells lB 76)) (.cells (Is (.slice (some ⟨w.heap.size,0,none⟩) 1 1)) 73);rw [hz] at this;exact this⟩ (fun g e=>by cases e;exact Nat.le_of_eq hz)
 have H3:=H2.yJ (k:=.lns) (.row 9 1 (.slice none 0 0) 0 []) ((ai _ _ (by simp)).trans (ai _ _ (by simp))) (Below.refl _ _) (World.ownsRow_nil _ _ _ _) (fun g e=>by cases e);have H4:=H3.yJ (k:=.pls) (.row 185 8 (.slice none 0 0) 0 []) ((ai _ _ (by simp)).trans ((ai _ _ (by simp)).trans (ai _ _ (by simp)))) (Below.refl _ _) (World.ownsRow_nil _ _ _ _) (fun g e=>by cases e);have H5:=H4.yJ (k:=.kid 0) (.row 32 6 (.slice none 0 0) 0 []) ((ai _ _ (by simp)).trans ((ai _ _ (by simp)).trans ((ai _ _ (by simp)).trans (ai _ _ (by simp))))) (Below.refl _ _) (World.ownsRow_nil _ _ _ _) (fun g e=>by cases e);refine ⟨H5.same fun j=>?_,fun x hx=>?_,fun b a e=>by cases e⟩
 ·cases j with
  | kid i =>
   cases i with
   | zero=>rfl
   | succ i=>rfl
  | itm i =>
   cases i with
   | zero=>rfl
   | succ i=>rfl
  | _=>rfl
 ·rw [List.mem_singleton.1 hx]
  exact ⟨nY,fun _ _ _ e=>by cases e⟩
theorem L9:Pb.Sz 0 0 Pb.start:=by
 refine ⟨by decide,by decide,fun c hc=>?_,fun c hc s ln is e=>?_,fun c hc e=>?_,by decide,fun s hs=>(by cases hs),by decide,by decide⟩
 ·rw [List.mem_singleton.1 hc];decide
 ·rw [List.mem_singleton.1 hc] at e;cases e
 ·rw [List.mem_singleton.1 hc] at e;cases e
def ten (w:World) (g:Nat) (a0 a1 a2 a3 a4 a5 a6 a7 a8 a9:Value):World:=((((((((((w.setCell ⟨g,0,none⟩ a0).setCell ⟨g,1,none⟩ a1).setCell ⟨g,2,none⟩ a2).setCell ⟨g,3,none⟩ a3).setCell ⟨g,4,none⟩ a4).setCell ⟨g,5,none⟩ a5).setCell ⟨g,6,none⟩ a6).setCell ⟨g,7,none⟩ a7).setCell ⟨g,8,none⟩ a8).setCell ⟨g,9,none⟩ a9)
theorem Uj {w:World}{g:Nat}{z0 z1 z2 z3 z4 z5 z6 z7 z8 z9:Value}{t:TypeId}(h:w.heap[g]? = some (.cells #[z0,z1,z2,z3,z4,z5,z6,z7,z8,z9] t (0,0))) (a0 a1 a2 a3 a4 a5 a6 a7 a8 a9:Value):(ten w g a0 a1 a2 a3 a4 a5 a6 a7 a8 a9).heap[g]? = some (.cells #[a0,a1,a2,a3,a4,a5,a6,a7,a8,a9] t (0,0)):=by
 unfold ten;have h1:(w.setCell ⟨g,0,none⟩ a0).heap[g]? = some (.cells #[a0,z1,z2,z3,z4,z5,z6,z7,z8,z9] t (0,0)):=heap_setCell_same w g 0 _ t a0 h;generalize hw1:(w.setCell ⟨g,0,none⟩ a0)=w1 at h1 ⊢;have h2:(w1.setCell ⟨g,1,none⟩ a1).heap[g]? = some (.cells #[a0,a1,z2,z3,z4,z5,z6,z7,z8,z9] t (0,0)):=heap_setCell_same w1 g 1 _ t a1 h1;generalize hw2:(w1.setCell ⟨g,1,none⟩ a1)=w2 at h2 ⊢;have h3:(w2.setCell ⟨g,2,none⟩ a2).heap[g]? = some (.cells #[a0,a1,a2,z3,z4,z5,z6,z7,z8,z9] t (0,0)):=heap_setCell_same w2 g 2 _ t a2 h2;generalize hw3:(w2.setCell ⟨g,2,none⟩ a2)=w3 at h3 ⊢;have h4:(w3.setCell ⟨g,3,none⟩ a3).heap[g]? = some (.cells #[a0,a1,a2,a3,z4,z5,z6,z7,z8,z9] t (0,0)):=heap_setCell_same w3 g 3 _ t a3 h3;generalize hw4:(w3.setCell ⟨g,3,none⟩ a3)=w4 at h4 ⊢;have h5:(w4.setCell ⟨g,4,none⟩ a4).heap[g]? = some (.cells #[a0,a1,a2,a3,a4,z5,z6,z7,z8,z9] t (0,0)):=heap_setCell_same w4 g 4 _ t a4 h4;generalize Qj:(w4.setCell ⟨g,4,none⟩ a4)=w5 at h5 ⊢;have h6:(w5.setCell ⟨g,5,none⟩ a5).heap[g]? = some (.cells #[a0,a1,a2,a3,a4,a5,z6,z7,z8,z9] t (0,0)):=heap_setCell_same w5 g 5 _ t a5 h5;generalize WD:(w5.setCell ⟨g,5,none⟩ a5)=w6 at h6 ⊢;have h7:(w6.setCell ⟨g,6,none⟩ a6).heap[g]? = some (.cells #[a0,a1,a2,a3,a4,a5,a6,z7,z8,z9] t (0,0)):=heap_setCell_same w6 g 6 _ t a6 h6;generalize hw7:(w6.setCell ⟨g,6,none⟩ a6)=w7 at h7 ⊢;have h8:(w7.setCell ⟨g,7,none⟩ a7).heap[g]? = some (.cells #[a0,a1,a2,a3,a4,a5,a6,a7,z8,z9] t (0,0)):=heap_setCell_same w7 g 7 _ t a7 h7;generalize J3:(w7.setCell ⟨g,7,none⟩ a7)=w8 at h8 ⊢;have h9:(w8.setCell ⟨g,8,none⟩ a8).heap[g]? = some (.cells #[a0,a1,a2,a3,a4,a5,a6,a7,a8,z9] t (0,0)):=heap_setCell_same w8 g 8 _ t a8 h8;generalize YI:(w8.setCell ⟨g,8,none⟩ a8)=w9 at h9 ⊢;have h10:(w9.setCell ⟨g,9,none⟩ a9).heap[g]? = some (.cells #[a0,a1,a2,a3,a4,a5,a6,a7,a8,a9] t (0,0)):=heap_setCell_same w9 g 9 _ t a9 h9;exact h10
theorem K3 {B:Nat}{w0 w:World}(hb:Below B w0 w) {g:Nat}(hg:B≤g) (a0 a1 a2 a3 a4 a5 a6 a7 a8 a9:Value):Below B w0 (ten w g a0 a1 a2 a3 a4 a5 a6 a7 a8 a9):=by
 unfold ten;exact ((((((((((hb.setCell (p:=⟨g,0,none⟩) hg a0).setCell (p:=⟨g,1,none⟩) hg a1).setCell (p:=⟨g,2,none⟩) hg a2).setCell (p:=⟨g,3,none⟩) hg a3).setCell (p:=⟨g,4,none⟩) hg a4).setCell (p:=⟨g,5,none⟩) hg a5).setCell (p:=⟨g,6,none⟩) hg a6).setCell (p:=⟨g,7,none⟩) hg a7).setCell (p:=⟨g,8,none⟩) hg a8).setCell (p:=⟨g,9,none⟩) hg a9)
theorem JD (w:World) (g:Nat) (a0 a1 a2 a3 a4 a5 a6 a7 a8 a9:Value):w.grownBy (ten w g a0 a1 a2 a3 a4 a5 a6 a7 a8 a9) (some g):=by
 unfold ten;exact ((((((((((ax w ⟨g,0,none⟩ a0).trans (ax _ ⟨g,1,none⟩ a1)).trans (ax _ ⟨g,2,none⟩ a2)).trans (ax _ ⟨g,3,none⟩ a3)).trans (ax _ ⟨g,4,none⟩ a4)).trans (ax _ ⟨g,5,none⟩ a5)).trans (ax _ ⟨g,6,none⟩ a6)).trans (ax _ ⟨g,7,none⟩ a7)).trans (ax _ ⟨g,8,none⟩ a8)).trans (ax _ ⟨g,9,none⟩ a9))
theorem pread (l:List UInt8) (A:Option Addr) (c:Nat) (w:World) (hR:Row w w.heap.size 1 A l.length (aj l)) (hlc:l.length≤c) (hl:l.length≤9223372036854775807) :
  Calls Tryz.prog 40 #[.slice A l.length c] w fun e w'=>∃ R rv lv pv M row,e=.returned (.agg (Ej rv lv pv (Pb.read (Pb.bh l)).leaf))∧row.map (·.c)=(Pb.read (Pb.bh l)).row∧cC w' (w.heap.size+1) (fun _=>none) R rv lv pv M row (Pb.read (Pb.bh l)).leaf (Pb.read (Pb.bh l)).places∧Pb.Sz 800000000 0 (Pb.read (Pb.bh l))∧Pb.Doc (Pb.read (Pb.bh l)).row∧Below w.heap.size w w':=by
 obtain ⟨m,hm⟩:∃ m,(l.take 65536).length=m:=⟨_,rfl⟩
 have hml:m≤65536∧m≤l.length:=by rw [← hm,List.length_take];omega
 have hmin:(if (65536:Int)<(l.length:Int) then (65536:Int) else (l.length:Int))=(m:Int)∧min (l.length:Int) 65536=(m:Int):=by
  rw [List.length_take] at hm;refine ⟨?_,by omega⟩
  split<;>omega
 have hR2:Row w w.heap.size 1 A m (aj (l.take 65536)):=by
  have:=hR.take hml.2;rw [Nat.mul_one] at this;have e:(aj l).take m=aj (l.take 65536):=by
   unfold aj;rw [← List.map_take];congr 1;rw [← hm,List.length_take];rcases Nat.le_total 65536 l.length with h | h
   ·rw [Nat.min_eq_left h]
   ·rw [Nat.min_eq_right h,List.take_of_length_le (Nat.le_refl _),List.take_of_length_le h]
  rwa [e] at this
 have YB:=fun w' h=>JK (l.take 65536) A c w' h (by rw [hm];omega) (by rw [hm];omega);have hlo:Pb.bh l=(Ln.texts (l.take 65536) 0).map Ru.text:=rfl;have uU:=@JM (l.take 65536) 0;have htn:=Ln.Ko (l.take 65536) 0;rw [hm] at YB uU htn;obtain ⟨ts,hts⟩:∃ ts,Ln.texts (l.take 65536) 0=ts:=⟨_,rfl⟩
 rw [hts] at YB hlo uU htn;rw [hlo];have hcs:(l.length:Int)≤(c:Int):=by omega
 have hmc:(m:Int)≤(c:Int):=by omega
 obtain ⟨aa2,abE⟩:=hmin;obtain ⟨G,hG⟩:∃ G,Pb.read (ts.map Ru.text)=G:=⟨_,rfl⟩
 rw [hG];obtain ⟨gl,Rt⟩:∃ gl,G.leaf=gl:=⟨_,rfl⟩
 rw [Rt];replace Rt:=Lib.hid Rt;obtain ⟨G0,YC⟩:∃ G0,Pb.lines ((ts.drop 0).map Ru.text) 0 Pb.start=G0:=⟨_,rfl⟩
 have Zd:Pb.aR 1 G0=G:=by rw [← YC,← hG];rfl
 have hs0:=aa w (.cells (Is (.slice none 0 0)) 73);have hn0:=heap_alloc_new w (.cells (Is (.slice none 0 0)) 73);have hz0:(w.alloc (.cells (Is (.slice none 0 0)) 73)).heap.size=w.heap.size+1:=by simp
 have JY:=Lj (w.alloc (.cells (Is (.slice none 0 0)) 73));have hb0:Below (w.heap.size+1) (w.alloc (.cells (Is (.slice none 0 0)) 73)) _:=(((Below.refl _ _).alloc (by rw [hz0];exact Nat.le_refl _) (.cells lB 76)).alloc (by simp) (.cells (Is (.slice (some ⟨(w.alloc (.cells (Is (.slice none 0 0)) 73)).heap.size,0,none⟩) 1 1)) 73))
 rw [hz0] at JY hb0;obtain ⟨wa,xD⟩:∃ wa,w.alloc (.cells (Is (.slice none 0 0)) 73)=wa:=⟨_,rfl⟩
 rw [xD] at JY hb0 hs0 hn0 hz0;obtain ⟨w0,hw0⟩:∃ w0,(wa.alloc (.cells lB 76)).alloc (.cells (Is (.slice (some ⟨w.heap.size+1,0,none⟩) 1 1)) 73)=w0:=⟨_,rfl⟩
 rw [hw0] at JY hb0;have hRw:Row w0 w0.heap.size 1 A m (aj (l.take 65536)):=hR2.ext (hs0.trans (hb0.mono (by omega)));have UO:PS w0 (w.heap.size+1) (fun _=>none) (w.heap.size+1+1) Pb.start:=⟨_,_,_,_,[Tl],rfl,JY⟩
 replace hR:=Lib.hid hR;replace xD:=Lib.hid xD;replace hw0:=Lib.hid hw0;replace UO:=Lib.hid UO;replace hG:=Lib.hid hG;replace YC:=Lib.hid YC;replace Zd:=Lib.hid Zd;clear hlo JY hR2;go_enter Tryz.func40,Tryz.ntmps40;go_wp2_with fail;have UM:=xD.out;have U2:=hw0.out;simp only [Is,lB] at UM U2;rw [UM,U2];refine (YB w0 hRw).mono ?_;rintro e w1 ⟨v,rfl,hown,hb1⟩;obtain ⟨rv0,lv0,pv0,M0,row0,Eu,FU⟩:=UO.out;have T3:w.heap.size+1≤w0.heap.size:=by have:=hb0.size;omega
 have Tm:w1.ownsRow (w.heap.size+1) 9 1 v ts.length (aZ ts):=⟨hown.1,hown.2.imp id (fun ⟨g,cc,cur,e1,e2,e3⟩=>⟨g,cc,cur,e1,by omega,e3⟩)⟩
 have tS:=FU.iG (a:=.row 9 1 v ts.length (aZ ts)) hb1 Tm (fun g hg=>(World.ownsRow.lt hown g hg).1);obtain ⟨B,Qh⟩:∃ B,w.heap.size+1=B:=⟨_,rfl⟩
 obtain ⟨E,hE⟩:∃ E,ec (.row 9 1 v ts.length (aZ ts)) (fun _=>none)=E:=⟨_,rfl⟩
 have nJ:E 0=some (.row 9 1 v ts.length (aZ ts)):=by rw [← hE];rfl
 rw [Qh] at tS T3 hb0 ⊢;rw [hE] at tS;have hB1:Below B wa w1:=hb0.trans (hb1.mono T3);obtain ⟨vA,vc,rfl,hvc⟩:=ak hown;obtain ⟨R,HE⟩:∃ R,B+1=R:=⟨_,rfl⟩
 rw [HE] at tS ⊢;have XJ:=Lib.hid (⟨rv0,lv0,pv0,M0,row0,Eu,tS⟩:PS w1 B E R Pb.start);replace hB1:=Lib.hid hB1;replace nJ:=Lib.hid nJ;replace hE:=Lib.hid hE;replace Qh:=Lib.hid Qh;replace HE:=Lib.hid HE;have acB:ts.length≤65536:=by omega
 clear hown hb1 hb0 tS FU Eu Tm UM U2 YB T3;go_wp2_with fail
 go_loopw [17] (fun u wr=>∃ (k:Nat) (r1:Pb.Rd),k≤ts.length∧u=.int .i64 (k:Int)∧Hid (PS wr B E R r1)∧Hid (Pb.Sz (2100*k) k r1)∧Hid (Pb.Doc r1.row)∧Hid (Pb.lines ((ts.drop k).map Ru.text) k r1=G0)∧Hid (Below B wa wr)) (fun u _=>ts.length-(intOf u).toNat)
 case atStart=>exact ⟨0,Pb.start,by omega,rfl,XJ,Lib.hid L9,Lib.hid (by unfold Pb.Doc;rfl),YC,hB1⟩
 case round =>
  obtain ⟨k,r1,hk,rfl,hP,hz,hd,Df,hb⟩:=hrel;rcases Nat.lt_or_eq_of_le hk with hlt | AM
  ·obtain ⟨rv,lv,pv,M,row,hrow,hA⟩:=hP.out
   have ug:B≤wr.heap.size:=by have:=aI hA;omega
   have hrw:=hA.hp.own (k:=.ext 0) nJ.out;obtain ⟨g,gc,cur,hv,_,_,kQ,_⟩:=gK hrw (by omega);cases hv;obtain ⟨s,hs⟩:∃ s,ts[k]=s:=⟨_,rfl⟩
   have hx:=ij (j:=k) (u:=.string (bs s)) hrw (by unfold aZ;rw [List.getElem?_map,List.getElem?_eq_getElem hlt,hs];rfl);have pE:=uU s (by rw [← hs];exact List.getElem_mem hlt);have hst:=I8 hlt r1;rw [hs,Df.out] at hst;have hrb:=yE s;have htl:=Ru.L8 s;have jB:=sK wr (bs s);have Ql:=Nn s (some ⟨wr.heap.size,0,none⟩) (grownCap wr s.length 0 5) (Lib.bytesWorld wr 5 (bs s)) (Lw _ s) (by omega);have AG:=fun wz hz'=>Lh wz B E R r1 hz' hz.out hd.out (by omega) (by omega) k (by omega) (Ru.text s) (by omega);replace hs:=Lib.hid hs;replace hst:=Lib.hid hst;replace hrw:=Lib.hid hrw;replace hA:=Lib.hid hA;replace AG:=Lib.hid AG;replace jB:=Lib.hid jB;replace hrow:=Lib.hid hrow;have acz:=(Array.getElem?_eq_some_iff.1 kQ).1;clear kQ;have oZ:(k:Int)<(ts.length:Int):=by omega
   have hk0:(0:Int)≤(k:Int):=by omega
   have hcv:=hrb;clear hrb;go_wp2_with fail;refine Ql.mono ?_;rintro e w3 ⟨rfl,hb3⟩;have U1:=ag jB.out hb3;have Vv:=Lib.hid (⟨rv,lv,pv,M,row,hrow.out,cC.mk (hA.out.hp.ext U1) hA.out.good hA.out.old⟩:PS w3 B E R r1);have jy:=Lib.hid (hb.out.trans (U1.mono ug));clear hcv Ql U1 hb3;go_wp2_with fail;refine (AG.out _ Vv.out).mono ?_;rintro e w4 ⟨rfl,⟨xN,Y3,hd4⟩,hb4⟩;replace xN:=Lib.hid xN;replace Y3:=Lib.hid Y3;replace hd4:=Lib.hid hd4;replace hb4:=Lib.hid (jy.out.trans hb4);go_wp2_with fail
   go_roundw
   case rel=>exact ⟨k+1,_,by omega,by go_num,xN,Lib.hid (by have:=Y3.out;rw [show 2100*(k+1)=2100*k+2100 from by omega];exact this),hd4,Lib.hid hst.out.symm,hb4⟩
   case measure=>simp [intOf];omega
  ·have YK:=Df.out
   rw [FK (by omega)] at YK;have hto:=fun wz hz'=>iw wz B E R r1 hz' hz.out (by omega) (by omega) 1 (by omega);have hres:Pb.Sz 800000000 0 (Pb.aR 1 r1)∧Pb.Doc (Pb.aR 1 r1).row:=⟨(eG hz.out 1 0).mono (by omega) (Nat.le_refl _),nB (Nat.le_refl _) hz.out.pos hd.out⟩
   rw [show Pb.aR 1 r1=G from by rw [YK];exact Zd.out] at hto hres;replace hres:=Lib.hid hres;replace hto:=Lib.hid hto;replace YK:=Lib.hid YK;have hkn:¬ (k:Int)<(ts.length:Int):=by omega
   clear AM;go_wp2_with fail;refine (hto.out _ hP.out).mono ?_;rintro e w5 ⟨rfl,YX,hb5⟩;obtain ⟨rv,lv,pv,M,row,hrow,hA⟩:=YX;rw [← hE.out] at hA;have CR:=hA.eY;obtain ⟨rA,rc,iE,_⟩:=ak (CR.hp.own (k:=.row) rfl);obtain ⟨lA,lc,hlv,_⟩:=ak (CR.hp.own (k:=.lns) rfl);obtain ⟨pA,pc,BR,_⟩:=ak (CR.hp.own (k:=.pls) rfl);obtain ⟨rn,Qd⟩:∃ rn,row.length=rn:=⟨_,rfl⟩
   obtain ⟨ln,AG⟩:∃ ln,gl.lines.length=ln:=⟨_,rfl⟩
   obtain ⟨pn,C0⟩:∃ pn,G.places.length=pn:=⟨_,rfl⟩
   rw [Rt.out] at CR hlv;rw [Qd] at iE;rw [AG] at hlv;rw [C0] at BR;obtain ⟨hR1,hR2,_,d0,d1,d2,d3,d4,d5,d6,d7,d8,d9⟩:=aI CR;rw [iE] at d0;rw [hlv] at d3;rw [BR] at d9;have GP:=hb.out.trans hb5;have Ih:=(GP.block w.heap.size (by have:=Qh.out;omega)).trans hn0;have z0:=cell_of Ih (j:=0) rfl;have z1:=cell_of Ih (j:=1) rfl;have z2:=cell_of Ih (j:=2) rfl;have z3:=cell_of Ih (j:=3) rfl;have z4:=cell_of Ih (j:=4) rfl;have z5:=cell_of Ih (j:=5) rfl;have z6:=cell_of Ih (j:=6) rfl;have z7:=cell_of Ih (j:=7) rfl;have z8:=cell_of Ih (j:=8) rfl;have z9:=cell_of Ih (j:=9) rfl;have zf:=aW Ih;have ju:=CR.hp.low (JD w5 w.heap.size (.slice rA rn rc) (.int .i64 (gl.kind:Int)) (.int .i64 (gl.line:Int)) (.slice lA ln lc) (.int .u8 (gl.op.c.toNat:Int)) (.int .i64 (gl.op.n:Int)) (.int .i64 (gl.op.ind:Int)) (.string (bs gl.op.info)) (.bool gl.ended) (.slice pA pn pc)) (by have:=Qh.out;omega);have hW:=Uj Ih (.slice rA rn rc) (.int .i64 (gl.kind:Int)) (.int .i64 (gl.line:Int)) (.slice lA ln lc) (.int .u8 (gl.op.c.toNat:Int)) (.int .i64 (gl.op.n:Int)) (.int .i64 (gl.op.ind:Int)) (.string (bs gl.op.info)) (.bool gl.ended) (.slice pA pn pc);have N8:Below w.heap.size w w5:=hs0.trans (GP.mono (by have:=Qh.out;omega));have hBW:Below w.heap.size w (ten w5 w.heap.size (.slice rA rn rc) (.int .i64 (gl.kind:Int)) (.int .i64 (gl.line:Int)) (.slice lA ln lc) (.int .u8 (gl.op.c.toNat:Int)) (.int .i64 (gl.op.n:Int)) (.int .i64 (gl.op.ind:Int)) (.string (bs gl.op.info)) (.bool gl.ended) (.slice pA pn pc)):=K3 N8 (Nat.le_refl _) _ _ _ _ _ _ _ _ _ _;have Ts:=Lib.hid (cC.mk ju CR.good CR.old);replace CR:=Lib.hid CR;replace hA:=Lib.hid hA;replace Ih:=Lib.hid Ih;replace ju:=Lib.hid ju;replace N8:=Lib.hid N8;replace GP:=Lib.hid GP;replace hrow:=Lib.hid hrow;replace iE:=Lib.hid iE;replace hlv:=Lib.hid hlv;replace BR:=Lib.hid BR;replace hn0:=Lib.hid hn0;clear Qd AG C0;go_wp2_with fail;change bodyPost _ _ _ _ _ (ten w5 w.heap.size (.slice rA rn rc) (.int .i64 (gl.kind:Int)) (.int .i64 (gl.line:Int)) (.slice lA ln lc) (.int .u8 (gl.op.c.toNat:Int)) (.int .i64 (gl.op.n:Int)) (.int .i64 (gl.op.ind:Int)) (.string (bs gl.op.info)) (.bool gl.ended) (.slice pA pn pc));generalize ten w5 w.heap.size (.slice rA rn rc) (.int .i64 (gl.kind:Int)) (.int .i64 (gl.line:Int)) (.slice lA ln lc) (.int .u8 (gl.op.c.toNat:Int)) (.int .i64 (gl.op.n:Int)) (.int .i64 (gl.op.ind:Int)) (.string (bs gl.op.info)) (.bool gl.ended) (.slice pA pn pc)=wz at hW hBW Ts ⊢;have y0:=cell_of hW (j:=0) rfl;have y1:=cell_of hW (j:=1) rfl;have y2:=cell_of hW (j:=2) rfl;have y3:=cell_of hW (j:=3) rfl;have y4:=cell_of hW (j:=4) rfl;have y5:=cell_of hW (j:=5) rfl;have y6:=cell_of hW (j:=6) rfl;have y7:=cell_of hW (j:=7) rfl;have y8:=cell_of hW (j:=8) rfl;have y9:=cell_of hW (j:=9) rfl;clear z0 z1 z2 z3 z4 z5 z6 z7 z8 z9 zf d0 d1 d2 d3 d4 d5 d6 d7 d8 d9;refine bodyPost_ret (v:=.agg #[.slice rA rn rc,.int .i64 (gl.kind:Int),.int .i64 (gl.line:Int),.slice lA ln lc,.int .u8 (gl.op.c.toNat:Int),.int .i64 (gl.op.n:Int),.int .i64 (gl.op.ind:Int),.string (bs gl.op.info),.bool gl.ended,.slice pA pn pc]) (by rw [jX rfl];go_simp) rfl ?_;have aL:=Ts.out;rw [Qh.out];exact ⟨R,rv,lv,pv,M,row,by rw [iE.out,hlv.out,BR.out],hrow.out,aL,hres.out.1,hres.out.2,hBW⟩
theorem EW {w:World}{B R:Nat}{E:Nat→Option Part}{rv lv pv:Value}{M:Mm}{x:MC}{l:Pb.Of}{ps:List Bk.Pl}(h:cC w B E R rv lv pv M [x] l ps) :
  (∃ A n k,x.kv=.slice A n k)∧TC w (fun b=>B≤b∧b<w.heap.size) x.c.tree [.int .i64 (x.c.kind:Int),.int .i64 0,.string ⟨#[]⟩,.string ⟨#[]⟩,.int .i64 (x.c.line:Int),x.kv]:=by
 obtain ⟨M1,h1,h2,⟨cs',h3,Om⟩,h4⟩:=pO (o:=[]) (x:=x) (M:=M) h.hp rfl (fun b=>rfl) h.old (h.good x (by simp));have hk:gone (eC E R rv lv pv M [x] l ps) M1 (.itm ([]:List MC).length) (.kid 0)=some (.row 32 6 x.kv x.c.all.length (x.css.flatten++bt x.lv x.c.lst)):=by
  rw [bB (fun b e=>by cases e) (by simp)];rfl
 obtain ⟨kA,kc,hkv,hkc⟩:=ak (h4.own hk);rw [hkv,← Om] at hk;obtain ⟨M2,g1,g2,g3,g4⟩:=Fp (M:=M1) h4 hk (fun b e=>by cases e) (fun b=>rfl) h2;refine ⟨⟨kA,_,kc,hkv⟩,TK (M:=M2) (fun b cur t e=>?_) ?_⟩
 ·have:=g4.holds (.old b) _ e
  obtain ⟨f1,f2⟩:=this;exact ⟨f2,f1,(Array.getElem?_eq_some_iff.1 f2).1⟩
 ·rw [hkv]
  unfold Pb.Cn.tree TM;exact ⟨kA,kc,cs',rfl,hkc,g3,fX g1 h3⟩
theorem Rz {row:List MC}{ls:List (List UInt8)}(h:row.map (·.c)=(Pb.read ls).row) (hl:(Pb.read ls).row.length=1):∃ x,row=[x]∧x.c.tree=Pb.tree ls:=by
 cases row with
 | nil=>rw [← h] at hl;simp at hl
 | cons x t =>
  cases t with
  | cons y u=>rw [← h] at hl;simp at hl
  | nil =>
   refine ⟨x,rfl,?_⟩;unfold Pb.tree;rw [← h];rfl
theorem j0:∀ (ls:List (List UInt8)) (i:Nat) (r:Pb.Rd),Pb.Doc r.row→Pb.Doc (Pb.lines ls i r).row
 | [],_,_,h=>h
 | s::t,i,r,h=>by
  refine j0 t (i+1) _ ?_;unfold Pb.iB
  split
  ·exact oA h
  ·have hp:=Eo h s
   have hd:=rZ i (41-(Pb.take r.row.reverse s).1) (Pb.take r.row.reverse s).1 r (Pb.take r.row.reverse s).2 hp h;have hk:∀ (m k:Nat) (r:Pb.Rd) (s:List UInt8),1≤k→1≤(Pb.begin i m k r s).2.1:=by
    intro m
    induction m with
    | zero=>intro k r s hk;exact hk
    | succ m ih =>
     intro k r s hk;rw [Pb.begin];cases Bk.opener s with
     | none=>exact hk
     | some oq=>exact ih _ _ _ (by omega)
   refine qE (hk _ _ _ _ hp) ?_ hd;have:=xd hd;exact List.length_pos_iff.2 this
theorem OH (ls:List (List UInt8)):(Pb.read ls).row.length=1:=by
 have hd:=j0 ls 0 Pb.start (by unfold Pb.Doc;rfl);exact sU (Nat.le_refl _) (List.length_pos_iff.2 (xd hd))
theorem Uk (l:List UInt8) (A:Option Addr) (c:Nat) (w:World) (hR:Row w w.heap.size 1 A l.length (aj l)) (hlc:l.length≤c) (hl:l.length≤9223372036854775807) :
  Calls Tryz.prog 24 #[.slice A l.length c] w fun e w'=>∃ cs,e=.returned (.agg cs.toArray)∧TC w' (fun b=>w.heap.size≤b∧b<w'.heap.size) (Pb.tree (Pb.bh l)) cs∧Below w.heap.size w w':=by
 have hrd:=fun w' h=>pread l A c w' h hlc hl;obtain ⟨T,hT⟩:∃ T,Pb.tree (Pb.bh l)=T:=⟨_,rfl⟩
 rw [hT];have hz0:(w.alloc (.cells #[.int .i64 0,.int .i64 0,.string ⟨#[]⟩,.string ⟨#[]⟩,.int .i64 0,.slice none 0 0] 32)).heap.size=w.heap.size+1:=by simp
 have hn0:=heap_alloc_new w (.cells #[.int .i64 0,.int .i64 0,.string ⟨#[]⟩,.string ⟨#[]⟩,.int .i64 0,.slice none 0 0] 32);have hb0:=aa w (.cells #[.int .i64 0,.int .i64 0,.string ⟨#[]⟩,.string ⟨#[]⟩,.int .i64 0,.slice none 0 0] 32);replace hR:=Lib.hid hR;obtain ⟨q,hq⟩:∃ q,w.heap.size=q:=⟨_,rfl⟩
 go_enter Tryz.func24,Tryz.ntmps24;go_wp2_with fail;generalize (w.alloc (.cells #[.int .i64 0,.int .i64 0,.string ⟨#[]⟩,.string ⟨#[]⟩,.int .i64 0,.slice none 0 0] 32))=w0 at hz0 hn0 hb0 ⊢;rw [hq] at hz0 hn0;refine (hrd w0 (hR.out.ext hb0)).mono ?_;rintro e w1 ⟨R,rv,lv,pv,M,row,rfl,hrow,hA,_,_,hb1⟩;obtain ⟨x,rfl,Z8⟩:=Rz hrow (OH _);rw [hT] at Z8;obtain ⟨⟨kA,kn,kk,hkv⟩,zu⟩:=EW hA;rw [Z8,hkv] at zu;obtain ⟨g,gc,iE,_,_,hgB,kQ,LJ,oW⟩:=dV hA;obtain ⟨lA,lc,hlv,_⟩:=ak (hA.hp.own (k:=.lns) rfl);obtain ⟨pA,pc,BR,_⟩:=ak (hA.hp.own (k:=.pls) rfl);obtain ⟨gl,Df⟩:∃ gl,(Pb.read (Pb.bh l)).leaf=gl:=⟨_,rfl⟩
 rw [Df] at hlv ⊢;obtain ⟨ln,AG⟩:∃ ln,gl.lines.length=ln:=⟨_,rfl⟩
 obtain ⟨pn,C0⟩:∃ pn,(Pb.read (Pb.bh l)).places.length=pn:=⟨_,rfl⟩
 rw [AG] at hlv;rw [C0] at BR;rw [iE,hlv,BR];have k0:=oW 0 _ rfl;have k1:=oW 1 _ rfl;have k2:=oW 2 _ rfl;have k3:=oW 3 _ rfl;have k4:=oW 4 _ rfl;have k5:=oW 5 _ rfl;rw [hkv] at k5;simp only [List.length_nil,Nat.zero_mul,Nat.zero_add] at k0 k1 k2 k3 k4 k5;have hz1:=hb1.size;have Qi:=hq;obtain ⟨xk,XW⟩:∃ xk,x.c.kind=xk:=⟨_,rfl⟩
 obtain ⟨xl,hxl⟩:∃ xl,x.c.line=xl:=⟨_,rfl⟩
 rw [XW] at k0 zu;rw [hxl] at k4 zu;have hnew:=aa w1 (.cells (Ej (.slice (some ⟨g,0,none⟩) 1 gc) (.slice lA ln lc) (.slice pA pn pc) gl) 73);have hc0:=cell_of (heap_alloc_new w1 (.cells (Ej (.slice (some ⟨g,0,none⟩) 1 gc) (.slice lA ln lc) (.slice pA pn pc) gl) 73)) (j:=0) rfl;have hz2:(w1.alloc (.cells (Ej (.slice (some ⟨g,0,none⟩) 1 gc) (.slice lA ln lc) (.slice pA pn pc) gl) 73)).heap.size=w1.heap.size+1:=by simp
 go_upto_region 2 with fail
 generalize w1.alloc (.cells (Ej (.slice (some ⟨g,0,none⟩) 1 gc) (.slice lA ln lc) (.slice pA pn pc) gl) 73)=w2 at hnew hc0 hz2 ⊢;have hn2:=(hnew.block q (by omega)).trans ((hb1.block q (by omega)).trans hn0);have kq:=fun j=>hnew.cell (p:=⟨g,j,none⟩) kQ;rw [← kq] at k0 k1 k2 k3 k4 k5;have uD:TC w2 (fun b=>q+1≤b∧b<w2.heap.size) T [.int .i64 (xk:Int),.int .i64 0,.string ⟨#[]⟩,.string ⟨#[]⟩,.int .i64 (xl:Int),.slice kA kn kk]:=vz (fun b hb=>hnew.block b hb.2) (fun b hb=>⟨by have:=hb.1;omega,by have:=hb.2;omega⟩) zu;have hb2:Below w.heap.size w w2:=hb0.trans ((ag hb1 hnew).mono (by omega));have z0:=cell_of hn2 (j:=0) rfl;have z1:=cell_of hn2 (j:=1) rfl;have z2:=cell_of hn2 (j:=2) rfl;have z3:=cell_of hn2 (j:=3) rfl;have z4:=cell_of hn2 (j:=4) rfl;have z5:=cell_of hn2 (j:=5) rfl;have zf:=aW hn2;have hW:=OC hn2 (.int .i64 (xk:Int)) (.int .i64 0) (.string ⟨#[]⟩) (.string ⟨#[]⟩) (.int .i64 (xl:Int)) (.slice kA kn kk);have hBq:∀ q',w.heap.size=q'→Below w.heap.size w (wrote w2 q' (.int .i64 (xk:Int)) (.int .i64 0) (.string ⟨#[]⟩) (.string ⟨#[]⟩) (.int .i64 (xl:Int)) (.slice kA kn kk)):=fun q' e=>by subst e;exact EJ hb2 _ _ _ _ _ _
 have hBW:=hBq q hq;have WO:TC (wrote w2 q (.int .i64 (xk:Int)) (.int .i64 0) (.string ⟨#[]⟩) (.string ⟨#[]⟩) (.int .i64 (xl:Int)) (.slice kA kn kk)) (fun b=>q≤b∧b<(wrote w2 q (.int .i64 (xk:Int)) (.int .i64 0) (.string ⟨#[]⟩) (.string ⟨#[]⟩) (.int .i64 (xl:Int)) (.slice kA kn kk)).heap.size) T [.int .i64 (xk:Int),.int .i64 0,.string ⟨#[]⟩,.string ⟨#[]⟩,.int .i64 (xl:Int),.slice kA kn kk]:=vz (fun b hb=>CD w2 (by have:=hb.1;omega) _ _ _ _ _ _) (fun b hb=>⟨by have:=hb.1;omega,by rw [G6];exact hb.2⟩) uD;replace hA:=Lib.hid hA;replace zu:=Lib.hid zu;replace uD:=Lib.hid uD;replace hn2:=Lib.hid hn2;replace hrow:=Lib.hid hrow;replace hW:=Lib.hid hW;replace hBW:=Lib.hid hBW;replace WO:=Lib.hid WO;replace hq:=Lib.hid hq;clear oW LJ hrd Z8 hkv iE hlv BR hn0 AG C0 Df hT hBq kq Qi hb2;go_wp2_with fail;change bodyPost _ _ _ _ _ (wrote w2 q (.int .i64 (xk:Int)) (.int .i64 0) (.string ⟨#[]⟩) (.string ⟨#[]⟩) (.int .i64 (xl:Int)) (.slice kA kn kk));generalize wrote w2 q (.int .i64 (xk:Int)) (.int .i64 0) (.string ⟨#[]⟩) (.string ⟨#[]⟩) (.int .i64 (xl:Int)) (.slice kA kn kk)=wz at hW hBW WO ⊢;have y0:=cell_of hW.out (j:=0) rfl;have y1:=cell_of hW.out (j:=1) rfl;have y2:=cell_of hW.out (j:=2) rfl;have y3:=cell_of hW.out (j:=3) rfl;have y4:=cell_of hW.out (j:=4) rfl;have y5:=cell_of hW.out (j:=5) rfl;clear z0 z1 z2 z3 z4 z5 zf k0 k1 k2 k3 k4 k5 hc0;rw [← hq.out] at WO;exact bodyPost_ret (v:=.agg #[.int .i64 (xk:Int),.int .i64 0,.string ⟨#[]⟩,.string ⟨#[]⟩,.int .i64 (xl:Int),.slice kA kn kk]) (by rw [jX rfl];go_simp) rfl ⟨[.int .i64 (xk:Int),.int .i64 0,.string ⟨#[]⟩,.string ⟨#[]⟩,.int .i64 (xl:Int),.slice kA kn kk],rfl,WO.out,hBW.out⟩
end Go.Proofs.YtddkjkockbcamaaGreatDoor
