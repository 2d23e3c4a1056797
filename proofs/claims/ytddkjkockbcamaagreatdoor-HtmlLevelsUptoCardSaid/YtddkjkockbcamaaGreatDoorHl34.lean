/- PbRead PbParse -/
import Derived.Test.YtddkjkockbcamaaGreatDoorHl27
import Derived.Test.YtddkjkockbcamaaGreatDoorHl05
import Derived.Test.YtddkjkockbcamaaGreatDoorHl28
set_option maxHeartbeats 16000000
set_option maxRecDepth 100000
namespace Go.Proofs.YtddkjkockbcamaaGreatDoor
open Go.RowKit
attribute [local go_sem] aD av aq
def Pb.bh (l:List UInt8):List (List UInt8):=(Ln.texts (l.take 65536) 0).map Ru.text
theorem JT {l:List UInt8} {k:Nat}:∀ s∈Ln.texts l k,s.length≤l.length:=by
 intro s hs;unfold Ln.texts at hs;obtain ⟨x,_,rfl⟩:=List.mem_map.1 hs;unfold mid;rw [List.length_take,List.length_drop]; omega
theorem K5 {ts:List (List UInt8)} {k:Nat} (h:k<ts.length) (r:Pb.Rd):Pb.lines ((ts.drop k).map Ru.text) k r=Pb.lines ((ts.drop (k+1)).map Ru.text) (k+1) (Pb.ia k (Ru.text ts[k]) r):=by
 rw [List.drop_eq_getElem_cons h,List.map_cons,Pb.lines]
theorem EY {ts:List (List UInt8)} {k:Nat} (h:¬ k<ts.length) (r:Pb.Rd):Pb.lines ((ts.drop k).map Ru.text) k r=r:=by
 rw [List.drop_eq_nil_of_le (by omega)]; rfl
theorem Hp.low {K:Type} {w w':World} {B g:Nat} {m:K→Option Part} (h:Hp w B m) (hg:w.grownBy w' (some g)) (hl:g<B):Hp w' B m :=
 ⟨fun k a ha=>Part.kept (h.holds k a ha) hg (by
  cases hb:a.block with
  | none=>exact .inl rfl
  | some b=>exact .inr fun e=>by have:=(Part.lt (h.holds k a ha) hb).1; cases e; omega),h.apart⟩
abbrev lB:Array Value:=#[.int .i64 0,.int .i64 0,.string ⟨#[]⟩,.string ⟨#[]⟩,.int .i64 0,.slice none 0 0,.int .u8 0,.int .i64 0,.int .u8 0]
abbrev CG (rv lv pv:Value) (l:Pb.Of):Array Value:=#[rv,.int .i64 (l.kind:Int),.int .i64 (l.line:Int),lv,.int .u8 (l.op.c.toNat:Int),.int .i64 (l.op.n:Int),.int .i64 (l.op.ind:Int),.string (bs l.op.info),.bool l.ended,pv]
abbrev Iy (rv:Value):Array Value:=#[rv,.int .i64 0,.int .i64 0,.slice none 0 0,.int .u8 0,.int .i64 0,.int .i64 0,.string ⟨#[]⟩,.bool false,.slice none 0 0]
def TN:MC:=⟨⟨0,0,[],0,0,none⟩,.slice none 0 0,[],.slice none 0 0,[]⟩
theorem KI (w:World):cC ((w.alloc (.cells lB 76)).alloc (.cells (Iy (.slice (some ⟨w.heap.size,0,none⟩) 1 1)) 73)) w.heap.size (fun _=>none) (w.heap.size+1) (.slice (some ⟨w.heap.size,0,none⟩) 1 1) (.slice none 0 0) (.slice none 0 0) (fun _=>none) [TN] Pb.bH []:=by
 have H0:Hp w w.heap.size (fun _:mE=>(none:Option Part)):=⟨fun _ _ h=>(by cases h),fun _ _ _ _ _ h=>(by cases h)⟩
 have H1:=H0.vN (k:=.row) (.row 76 9 (.slice (some ⟨w.heap.size,0,none⟩) 1 1) 1 lB.toList) rfl (aa w (.cells lB 76)) ⟨rfl,.inr ⟨w.heap.size,1,lB,rfl,Nat.le_refl _,heap_alloc_new w _,Nat.le_refl _,by unfold maxLen; omega,rfl,rfl⟩⟩ (fun g e=>by cases e; exact Nat.le_refl _);have hz:(w.alloc (.cells lB 76)).heap.size=w.heap.size+1:=by simp
 have H2:=H1.vN (k:=.rd) (.blk (w.heap.size+1) (Iy (.slice (some ⟨w.heap.size,0,none⟩) 1 1)) 73) (ai _ _ (by simp)) (aa _ (.cells (Iy (.slice (some ⟨w.heap.size,0,none⟩) 1 1)) 73)) ⟨by omega,by
  have:=heap_alloc_new (w.alloc (.cells lB 76)) (.cells (Iy (.slice (some ⟨w.heap.size,0,none⟩) 1 1)) 73);rw [hz] at this; exact this⟩ (fun g e=>by cases e; exact Nat.le_of_eq hz)
 have H3:=H2.vN (k:=.lns) (.row 9 1 (.slice none 0 0) 0 []) ((ai _ _ (by simp)).trans (ai _ _ (by simp))) (Below.refl _ _) (World.ownsRow_nil _ _ _ _) (fun g e=>by cases e);have H4:=H3.vN (k:=.pls) (.row 185 8 (.slice none 0 0) 0 []) ((ai _ _ (by simp)).trans ((ai _ _ (by simp)).trans (ai _ _ (by simp)))) (Below.refl _ _) (World.ownsRow_nil _ _ _ _) (fun g e=>by cases e);have H5:=H4.vN (k:=.kid 0) (.row 32 6 (.slice none 0 0) 0 []) ((ai _ _ (by simp)).trans ((ai _ _ (by simp)).trans ((ai _ _ (by simp)).trans (ai _ _ (by simp))))) (Below.refl _ _) (World.ownsRow_nil _ _ _ _) (fun g e=>by cases e);refine ⟨H5.same fun j=>?_,fun x hx=>?_,fun b a e=>by cases e⟩
 ·cases j with
  | kid i =>
   cases i with
   | zero=>rfl
   | succ i=>rfl
  | itm i =>
   cases i with
   | zero=>rfl
   | succ i=>rfl
  | _=>rfl
 ·rw [List.mem_singleton.1 hx]
  exact ⟨oe,fun _ _ _ e=>by cases e⟩
theorem ON:Pb.Sz 0 0 Pb.start:=by
 refine ⟨by decide,by decide,fun c hc=>?_,fun c hc s ln is e=>?_,fun c hc e=>?_,by decide,fun s hs=>(by cases hs),by decide,by decide⟩
 ·rw [List.mem_singleton.1 hc]; decide
 ·rw [List.mem_singleton.1 hc] at e; cases e
 ·rw [List.mem_singleton.1 hc] at e; cases e
def ten (w:World) (g:Nat) (a0 a1 a2 a3 a4 a5 a6 a7 a8 a9:Value):World:=((((((((((w.setCell ⟨g,0,none⟩ a0).setCell ⟨g,1,none⟩ a1).setCell ⟨g,2,none⟩ a2).setCell ⟨g,3,none⟩ a3).setCell ⟨g,4,none⟩ a4).setCell ⟨g,5,none⟩ a5).setCell ⟨g,6,none⟩ a6).setCell ⟨g,7,none⟩ a7).setCell ⟨g,8,none⟩ a8).setCell ⟨g,9,none⟩ a9)
theorem VL {w:World} {g:Nat} {z0 z1 z2 z3 z4 z5 z6 z7 z8 z9:Value} {t:TypeId} (h:w.heap[g]?=some (.cells #[z0,z1,z2,z3,z4,z5,z6,z7,z8,z9] t (0,0))) (a0 a1 a2 a3 a4 a5 a6 a7 a8 a9:Value):(ten w g a0 a1 a2 a3 a4 a5 a6 a7 a8 a9).heap[g]?=some (.cells #[a0,a1,a2,a3,a4,a5,a6,a7,a8,a9] t (0,0)):=by
 unfold ten;have h1:(w.setCell ⟨g,0,none⟩ a0).heap[g]?=some (.cells #[a0,z1,z2,z3,z4,z5,z6,z7,z8,z9] t (0,0)):=heap_setCell_same w g 0 _ t a0 h;generalize hw1:(w.setCell ⟨g,0,none⟩ a0)=w1 at h1 ⊢;have h2:(w1.setCell ⟨g,1,none⟩ a1).heap[g]?=some (.cells #[a0,a1,z2,z3,z4,z5,z6,z7,z8,z9] t (0,0)):=heap_setCell_same w1 g 1 _ t a1 h1;generalize hw2:(w1.setCell ⟨g,1,none⟩ a1)=w2 at h2 ⊢;have h3:(w2.setCell ⟨g,2,none⟩ a2).heap[g]?=some (.cells #[a0,a1,a2,z3,z4,z5,z6,z7,z8,z9] t (0,0)):=heap_setCell_same w2 g 2 _ t a2 h2;generalize hw3:(w2.setCell ⟨g,2,none⟩ a2)=w3 at h3 ⊢;have h4:(w3.setCell ⟨g,3,none⟩ a3).heap[g]?=some (.cells #[a0,a1,a2,a3,z4,z5,z6,z7,z8,z9] t (0,0)):=heap_setCell_same w3 g 3 _ t a3 h3;generalize hw4:(w3.setCell ⟨g,3,none⟩ a3)=w4 at h4 ⊢;have h5:(w4.setCell ⟨g,4,none⟩ a4).heap[g]?=some (.cells #[a0,a1,a2,a3,a4,z5,z6,z7,z8,z9] t (0,0)):=heap_setCell_same w4 g 4 _ t a4 h4;generalize Qf:(w4.setCell ⟨g,4,none⟩ a4)=w5 at h5 ⊢;have h6:(w5.setCell ⟨g,5,none⟩ a5).heap[g]?=some (.cells #[a0,a1,a2,a3,a4,a5,z6,z7,z8,z9] t (0,0)):=heap_setCell_same w5 g 5 _ t a5 h5;generalize Wt:(w5.setCell ⟨g,5,none⟩ a5)=w6 at h6 ⊢;have h7:(w6.setCell ⟨g,6,none⟩ a6).heap[g]?=some (.cells #[a0,a1,a2,a3,a4,a5,a6,z7,z8,z9] t (0,0)):=heap_setCell_same w6 g 6 _ t a6 h6;generalize hw7:(w6.setCell ⟨g,6,none⟩ a6)=w7 at h7 ⊢;have h8:(w7.setCell ⟨g,7,none⟩ a7).heap[g]?=some (.cells #[a0,a1,a2,a3,a4,a5,a6,a7,z8,z9] t (0,0)):=heap_setCell_same w7 g 7 _ t a7 h7;generalize Kz:(w7.setCell ⟨g,7,none⟩ a7)=w8 at h8 ⊢;have h9:(w8.setCell ⟨g,8,none⟩ a8).heap[g]?=some (.cells #[a0,a1,a2,a3,a4,a5,a6,a7,a8,z9] t (0,0)):=heap_setCell_same w8 g 8 _ t a8 h8;generalize YS:(w8.setCell ⟨g,8,none⟩ a8)=w9 at h9 ⊢;have h10:(w9.setCell ⟨g,9,none⟩ a9).heap[g]?=some (.cells #[a0,a1,a2,a3,a4,a5,a6,a7,a8,a9] t (0,0)):=heap_setCell_same w9 g 9 _ t a9 h9;exact h10
theorem KL {B:Nat} {w0 w:World} (hb:Below B w0 w) {g:Nat} (hg:B≤g) (a0 a1 a2 a3 a4 a5 a6 a7 a8 a9:Value):Below B w0 (ten w g a0 a1 a2 a3 a4 a5 a6 a7 a8 a9):=by
 unfold ten;exact ((((((((((hb.setCell (p:=⟨g,0,none⟩) hg a0).setCell (p:=⟨g,1,none⟩) hg a1).setCell (p:=⟨g,2,none⟩) hg a2).setCell (p:=⟨g,3,none⟩) hg a3).setCell (p:=⟨g,4,none⟩) hg a4).setCell (p:=⟨g,5,none⟩) hg a5).setCell (p:=⟨g,6,none⟩) hg a6).setCell (p:=⟨g,7,none⟩) hg a7).setCell (p:=⟨g,8,none⟩) hg a8).setCell (p:=⟨g,9,none⟩) hg a9)
theorem KR (w:World) (g:Nat) (a0 a1 a2 a3 a4 a5 a6 a7 a8 a9:Value):w.grownBy (ten w g a0 a1 a2 a3 a4 a5 a6 a7 a8 a9) (some g):=by
 unfold ten;exact ((((((((((ax w ⟨g,0,none⟩ a0).trans (ax _ ⟨g,1,none⟩ a1)).trans (ax _ ⟨g,2,none⟩ a2)).trans (ax _ ⟨g,3,none⟩ a3)).trans (ax _ ⟨g,4,none⟩ a4)).trans (ax _ ⟨g,5,none⟩ a5)).trans (ax _ ⟨g,6,none⟩ a6)).trans (ax _ ⟨g,7,none⟩ a7)).trans (ax _ ⟨g,8,none⟩ a8)).trans (ax _ ⟨g,9,none⟩ a9))
theorem pread (l:List UInt8) (A:Option Addr) (c:Nat) (w:World) (hR:Row w w.heap.size 1 A l.length (aj l)) (hlc:l.length≤c) (hl:l.length≤9223372036854775807) :
  Calls Tryz.prog 40 #[.slice A l.length c] w fun e w'=>∃ R rv lv pv M row,e=.returned (.agg (CG rv lv pv (Pb.read (Pb.bh l)).leaf))∧row.map (·.c)=(Pb.read (Pb.bh l)).row∧cC w' (w.heap.size+1) (fun _=>none) R rv lv pv M row (Pb.read (Pb.bh l)).leaf (Pb.read (Pb.bh l)).places∧Pb.Sz 800000000 0 (Pb.read (Pb.bh l))∧Pb.Doc (Pb.read (Pb.bh l)).row∧Below w.heap.size w w':=by
 obtain ⟨m,hm⟩:∃ m,(l.take 65536).length=m:=⟨_,rfl⟩
 have hml:m≤65536∧m≤l.length:=by rw [← hm,List.length_take]; omega
 have hmin:(if (65536:Int)<(l.length:Int) then (65536:Int) else (l.length:Int))=(m:Int)∧min (l.length:Int) 65536=(m:Int):=by
  rw [List.length_take] at hm;refine ⟨?_,by omega⟩
  split<;>omega
 have hR2:Row w w.heap.size 1 A m (aj (l.take 65536)):=by
  have:=hR.take hml.2;rw [Nat.mul_one] at this;have e:(aj l).take m=aj (l.take 65536):=by
   unfold aj;rw [← List.map_take];congr 1;rw [← hm,List.length_take];rcases Nat.le_total 65536 l.length with h | h
   ·rw [Nat.min_eq_left h]
   ·rw [Nat.min_eq_right h,List.take_of_length_le (Nat.le_refl _),List.take_of_length_le h]
  rwa [e] at this
 have Y6:=fun w' h=>Ju (l.take 65536) A c w' h (by rw [hm]; omega) (by rw [hm]; omega);have hlo:Pb.bh l=(Ln.texts (l.take 65536) 0).map Ru.text:=rfl;have vG:=@JT (l.take 65536) 0;have htn:=Ln.KO (l.take 65536) 0;rw [hm] at Y6 vG htn;obtain ⟨ts,hts⟩:∃ ts,Ln.texts (l.take 65536) 0=ts:=⟨_,rfl⟩
 rw [hts] at Y6 hlo vG htn;rw [hlo];have hcs:(l.length:Int)≤(c:Int):=by omega
 have hmc:(m:Int)≤(c:Int):=by omega
 obtain ⟨hmin1,hmin2⟩:=hmin;obtain ⟨G,hG⟩:∃ G,Pb.read (ts.map Ru.text)=G:=⟨_,rfl⟩
 rw [hG];obtain ⟨gl,Rv⟩:∃ gl,G.leaf=gl:=⟨_,rfl⟩
 rw [Rv];replace Rv:=Lib.hid Rv;obtain ⟨G0,YQ⟩:∃ G0,Pb.lines ((ts.drop 0).map Ru.text) 0 Pb.start=G0:=⟨_,rfl⟩
 have ZI:Pb.aQ 1 G0=G:=by rw [← YQ,← hG]; rfl
 have hs0:=aa w (.cells (Iy (.slice none 0 0)) 73);have hn0:=heap_alloc_new w (.cells (Iy (.slice none 0 0)) 73);have hz0:(w.alloc (.cells (Iy (.slice none 0 0)) 73)).heap.size=w.heap.size+1:=by simp
 have Gy:=KI (w.alloc (.cells (Iy (.slice none 0 0)) 73));have hb0:Below (w.heap.size+1) (w.alloc (.cells (Iy (.slice none 0 0)) 73)) _:=(((Below.refl _ _).alloc (by rw [hz0]; exact Nat.le_refl _) (.cells lB 76)).alloc (by simp) (.cells (Iy (.slice (some ⟨(w.alloc (.cells (Iy (.slice none 0 0)) 73)).heap.size,0,none⟩) 1 1)) 73))
 rw [hz0] at Gy hb0;obtain ⟨wa,xJ⟩:∃ wa,w.alloc (.cells (Iy (.slice none 0 0)) 73)=wa:=⟨_,rfl⟩
 rw [xJ] at Gy hb0 hs0 hn0 hz0;obtain ⟨w0,hw0⟩:∃ w0,(wa.alloc (.cells lB 76)).alloc (.cells (Iy (.slice (some ⟨w.heap.size+1,0,none⟩) 1 1)) 73)=w0:=⟨_,rfl⟩
 rw [hw0] at Gy hb0;have hRw:Row w0 w0.heap.size 1 A m (aj (l.take 65536)):=hR2.ext (hs0.trans (hb0.mono (by omega)));have Um:PS w0 (w.heap.size+1) (fun _=>none) (w.heap.size+1+1) Pb.start:=⟨_,_,_,_,[TN],rfl,Gy⟩
 replace hR:=Lib.hid hR;replace xJ:=Lib.hid xJ;replace hw0:=Lib.hid hw0;replace Um:=Lib.hid Um;replace hG:=Lib.hid hG;replace YQ:=Lib.hid YQ;replace ZI:=Lib.hid ZI;clear hlo Gy hR2;go_enter Tryz.func40,Tryz.ntmps40;go_wp2_with fail;have UA:=xJ.out;have VN:=hw0.out;simp only [Iy,lB] at UA VN;rw [UA,VN];refine (Y6 w0 hRw).mono ?_;rintro e w1 ⟨v,rfl,hown,hb1⟩;obtain ⟨rv0,lv0,pv0,M0,row0,Cr,FK⟩:=Um.out;have Ua:w.heap.size+1≤w0.heap.size:=by have:=hb0.size; omega
 have Tg:w1.ownsRow (w.heap.size+1) 9 1 v ts.length (bp ts):=⟨hown.1,hown.2.imp id (fun ⟨g,cc,cur,e1,e2,e3⟩=>⟨g,cc,cur,e1,by omega,e3⟩)⟩
 have tL:=FK.gM (a:=.row 9 1 v ts.length (bp ts)) hb1 Tg (fun g hg=>(World.ownsRow.lt hown g hg).1);obtain ⟨B,Qp⟩:∃ B,w.heap.size+1=B:=⟨_,rfl⟩
 obtain ⟨E,hE⟩:∃ E,dG (.row 9 1 v ts.length (bp ts)) (fun _=>none)=E:=⟨_,rfl⟩
 have nO:E 0=some (.row 9 1 v ts.length (bp ts)):=by rw [← hE]; rfl
 rw [Qp] at tL Ua hb0 ⊢;rw [hE] at tL;have hB1:Below B wa w1:=hb0.trans (hb1.mono Ua);obtain ⟨vA,vc,rfl,hvc⟩:=ak hown;obtain ⟨R,IF⟩:∃ R,B+1=R:=⟨_,rfl⟩
 rw [IF] at tL ⊢;have Xz:=Lib.hid (⟨rv0,lv0,pv0,M0,row0,Cr,tL⟩:PS w1 B E R Pb.start);replace hB1:=Lib.hid hB1;replace nO:=Lib.hid nO;replace hE:=Lib.hid hE;replace Qp:=Lib.hid Qp;replace IF:=Lib.hid IF;have hts5:ts.length≤65536:=by omega
 clear hown hb1 hb0 tL FK Cr Tg UA VN Y6 Ua;go_wp2_with fail
 go_loopw [17] (fun u wr=>∃ (k:Nat) (r1:Pb.Rd),k≤ts.length∧u=.int .i64 (k:Int)∧Hid (PS wr B E R r1)∧Hid (Pb.Sz (2100*k) k r1)∧Hid (Pb.Doc r1.row)∧Hid (Pb.lines ((ts.drop k).map Ru.text) k r1=G0)∧Hid (Below B wa wr)) (fun u _=>ts.length - (intOf u).toNat)
 case atStart=>exact ⟨0,Pb.start,by omega,rfl,Xz,Lib.hid ON,Lib.hid (by unfold Pb.Doc; rfl),YQ,hB1⟩
 case round =>
  obtain ⟨k,r1,hk,rfl,hP,hz,hd,Ds,hb⟩:=hrel;rcases Nat.lt_or_eq_of_le hk with hlt | yb
  ·obtain ⟨rv,lv,pv,M,row,hrow,hA⟩:=hP.out
   have ug:B≤wr.heap.size:=by have:=aI hA; omega
   have hrw:=hA.hp.own (k:=.ext 0) nO.out;obtain ⟨g,gc,cur,hv,_,_,kT,_⟩:=gS hrw (by omega);cases hv;obtain ⟨s,hs⟩:∃ s,ts[k]=s:=⟨_,rfl⟩
   have hx:=iu (j:=k) (u:=.string (bs s)) hrw (by unfold bp; rw [List.getElem?_map,List.getElem?_eq_getElem hlt,hs]; rfl);have oH:=vG s (by rw [← hs]; exact List.getElem_mem hlt);have hst:=K5 hlt r1;rw [hs,Ds.out] at hst;have hrb:=zo s;have htl:=Ru.NJ s;have jD:=tM wr (bs s);have Qj:=Pp s (some ⟨wr.heap.size,0,none⟩) (grownCap wr s.length 0 5) (Lib.bytesWorld wr 5 (bs s)) (J8 _ s) (by omega);have AD:=fun wz hz'=>KF wz B E R r1 hz' hz.out hd.out (by omega) (by omega) k (by omega) (Ru.text s) (by omega);replace hs:=Lib.hid hs;replace hst:=Lib.hid hst;replace hrw:=Lib.hid hrw;replace hA:=Lib.hid hA;replace AD:=Lib.hid AD;replace jD:=Lib.hid jD;replace hrow:=Lib.hid hrow;have hgl1:=(Array.getElem?_eq_some_iff.1 kT).1;clear kT;have pT:(k:Int)<(ts.length:Int):=by omega
   have hk0:(0:Int)≤(k:Int):=by omega
   have hcv:=hrb;clear hrb;go_wp2_with fail;refine Qj.mono ?_;rintro e w3 ⟨rfl,hb3⟩;have UH:=ag jD.out hb3;have Vx:=Lib.hid (⟨rv,lv,pv,M,row,hrow.out,cC.mk (hA.out.hp.ext UH) hA.out.good hA.out.old⟩:PS w3 B E R r1);have jw:=Lib.hid (hb.out.trans (UH.mono ug));clear hcv Qj UH hb3;go_wp2_with fail;refine (AD.out _ Vx.out).mono ?_;rintro e w4 ⟨rfl,⟨yg,Z3,hd4⟩,hb4⟩;replace yg:=Lib.hid yg;replace Z3:=Lib.hid Z3;replace hd4:=Lib.hid hd4;replace hb4:=Lib.hid (jw.out.trans hb4);go_wp2_with fail
   go_roundw
   case rel=>exact ⟨k+1,_,by omega,by go_num,yg,Lib.hid (by have:=Z3.out; rw [show 2100*(k+1)=2100*k+2100 from by omega]; exact this),hd4,Lib.hid hst.out.symm,hb4⟩
   case measure=>simp [intOf]; omega
  ·have YT:=Ds.out
   rw [EY (by omega)] at YT;have hto:=fun wz hz'=>ig wz B E R r1 hz' hz.out (by omega) (by omega) 1 (by omega);have hres:Pb.Sz 800000000 0 (Pb.aQ 1 r1)∧Pb.Doc (Pb.aQ 1 r1).row:=⟨(eF hz.out 1 0).mono (by omega) (Nat.le_refl _),mP (Nat.le_refl _) hz.out.pos hd.out⟩
   rw [show Pb.aQ 1 r1=G from by rw [YT]; exact ZI.out] at hto hres;replace hres:=Lib.hid hres;replace hto:=Lib.hid hto;replace YT:=Lib.hid YT;have hkn:¬ (k:Int)<(ts.length:Int):=by omega
   clear yb;go_wp2_with fail;refine (hto.out _ hP.out).mono ?_;rintro e w5 ⟨rfl,YW,hb5⟩;obtain ⟨rv,lv,pv,M,row,hrow,hA⟩:=YW;rw [← hE.out] at hA;have Ck:=hA.eM;obtain ⟨rA,rc,iF,_⟩:=ak (Ck.hp.own (k:=.row) rfl);obtain ⟨lA,lc,hlv,_⟩:=ak (Ck.hp.own (k:=.lns) rfl);obtain ⟨pA,pc,BZ,_⟩:=ak (Ck.hp.own (k:=.pls) rfl);obtain ⟨rn,MN⟩:∃ rn,row.length=rn:=⟨_,rfl⟩
   obtain ⟨ln,AD⟩:∃ ln,gl.lines.length=ln:=⟨_,rfl⟩
   obtain ⟨pn,DT⟩:∃ pn,G.places.length=pn:=⟨_,rfl⟩
   rw [Rv.out] at Ck hlv;rw [MN] at iF;rw [AD] at hlv;rw [DT] at BZ;obtain ⟨hR1,hR2,_,d0,d1,d2,d3,d4,d5,d6,d7,d8,d9⟩:=aI Ck;rw [iF] at d0;rw [hlv] at d3;rw [BZ] at d9;have Fu:=hb.out.trans hb5;have IY:=(Fu.block w.heap.size (by have:=Qp.out; omega)).trans hn0;have z0:=cell_of IY (j:=0) rfl;have z1:=cell_of IY (j:=1) rfl;have z2:=cell_of IY (j:=2) rfl;have z3:=cell_of IY (j:=3) rfl;have z4:=cell_of IY (j:=4) rfl;have z5:=cell_of IY (j:=5) rfl;have z6:=cell_of IY (j:=6) rfl;have z7:=cell_of IY (j:=7) rfl;have z8:=cell_of IY (j:=8) rfl;have z9:=cell_of IY (j:=9) rfl;have zf:=aW IY;have jm:=Ck.hp.low (KR w5 w.heap.size (.slice rA rn rc) (.int .i64 (gl.kind:Int)) (.int .i64 (gl.line:Int)) (.slice lA ln lc) (.int .u8 (gl.op.c.toNat:Int)) (.int .i64 (gl.op.n:Int)) (.int .i64 (gl.op.ind:Int)) (.string (bs gl.op.info)) (.bool gl.ended) (.slice pA pn pc)) (by have:=Qp.out; omega);have hW:=VL IY (.slice rA rn rc) (.int .i64 (gl.kind:Int)) (.int .i64 (gl.line:Int)) (.slice lA ln lc) (.int .u8 (gl.op.c.toNat:Int)) (.int .i64 (gl.op.n:Int)) (.int .i64 (gl.op.ind:Int)) (.string (bs gl.op.info)) (.bool gl.ended) (.slice pA pn pc);have Ow:Below w.heap.size w w5:=hs0.trans (Fu.mono (by have:=Qp.out; omega));have hBW:Below w.heap.size w (ten w5 w.heap.size (.slice rA rn rc) (.int .i64 (gl.kind:Int)) (.int .i64 (gl.line:Int)) (.slice lA ln lc) (.int .u8 (gl.op.c.toNat:Int)) (.int .i64 (gl.op.n:Int)) (.int .i64 (gl.op.ind:Int)) (.string (bs gl.op.info)) (.bool gl.ended) (.slice pA pn pc)):=KL Ow (Nat.le_refl _) _ _ _ _ _ _ _ _ _ _;have Ty:=Lib.hid (cC.mk jm Ck.good Ck.old);replace Ck:=Lib.hid Ck;replace hA:=Lib.hid hA;replace IY:=Lib.hid IY;replace jm:=Lib.hid jm;replace Ow:=Lib.hid Ow;replace Fu:=Lib.hid Fu;replace hrow:=Lib.hid hrow;replace iF:=Lib.hid iF;replace hlv:=Lib.hid hlv;replace BZ:=Lib.hid BZ;replace hn0:=Lib.hid hn0;clear MN AD DT;go_wp2_with fail;change bodyPost _ _ _ _ _ (ten w5 w.heap.size (.slice rA rn rc) (.int .i64 (gl.kind:Int)) (.int .i64 (gl.line:Int)) (.slice lA ln lc) (.int .u8 (gl.op.c.toNat:Int)) (.int .i64 (gl.op.n:Int)) (.int .i64 (gl.op.ind:Int)) (.string (bs gl.op.info)) (.bool gl.ended) (.slice pA pn pc));generalize ten w5 w.heap.size (.slice rA rn rc) (.int .i64 (gl.kind:Int)) (.int .i64 (gl.line:Int)) (.slice lA ln lc) (.int .u8 (gl.op.c.toNat:Int)) (.int .i64 (gl.op.n:Int)) (.int .i64 (gl.op.ind:Int)) (.string (bs gl.op.info)) (.bool gl.ended) (.slice pA pn pc)=wz at hW hBW Ty ⊢;have y0:=cell_of hW (j:=0) rfl;have y1:=cell_of hW (j:=1) rfl;have y2:=cell_of hW (j:=2) rfl;have y3:=cell_of hW (j:=3) rfl;have y4:=cell_of hW (j:=4) rfl;have y5:=cell_of hW (j:=5) rfl;have y6:=cell_of hW (j:=6) rfl;have y7:=cell_of hW (j:=7) rfl;have y8:=cell_of hW (j:=8) rfl;have y9:=cell_of hW (j:=9) rfl;clear z0 z1 z2 z3 z4 z5 z6 z7 z8 z9 zf d0 d1 d2 d3 d4 d5 d6 d7 d8 d9;refine bodyPost_ret (v:=.agg #[.slice rA rn rc,.int .i64 (gl.kind:Int),.int .i64 (gl.line:Int),.slice lA ln lc,.int .u8 (gl.op.c.toNat:Int),.int .i64 (gl.op.n:Int),.int .i64 (gl.op.ind:Int),.string (bs gl.op.info),.bool gl.ended,.slice pA pn pc]) (by rw [jY rfl]; go_simp) rfl ?_;have aL:=Ty.out;rw [Qp.out];exact ⟨R,rv,lv,pv,M,row,by rw [iF.out,hlv.out,BZ.out],hrow.out,aL,hres.out.1,hres.out.2,hBW⟩
end Go.Proofs.YtddkjkockbcamaaGreatDoor

set_option maxHeartbeats 16000000
set_option maxRecDepth 100000
namespace Go.Proofs.YtddkjkockbcamaaGreatDoor
open Go.RowKit
attribute [local go_sem] aD av aq
theorem G1 {w:World} {B R:Nat} {E:Nat→Option Part} {rv lv pv:Value} {M:Mm} {x:MC} {l:Pb.Of} {ps:List Bk.Pl} (h:cC w B E R rv lv pv M [x] l ps) :
  (∃ A n k,x.kv=.slice A n k)∧TC w (fun b=>B≤b∧b<w.heap.size) x.c.tree [.int .i64 (x.c.kind:Int),.int .i64 0,.string ⟨#[]⟩,.string ⟨#[]⟩,.int .i64 (x.c.line:Int),x.kv]:=by
 obtain ⟨M1,h1,h2,⟨cs',h3,Mh⟩,h4⟩:=oO (o:=[]) (x:=x) (M:=M) h.hp rfl (fun b=>rfl) h.old (h.good x (by simp));have hk:gone (eG E R rv lv pv M [x] l ps) M1 (.itm ([]:List MC).length) (.kid 0)=some (.row 32 6 x.kv x.c.all.length (x.css.flatten++bw x.lv x.c.lst)):=by
  rw [bz (fun b e=>by cases e) (by simp)]; rfl
 obtain ⟨kA,kc,hkv,hkc⟩:=ak (h4.own hk);rw [hkv,← Mh] at hk;obtain ⟨M2,g1,g2,g3,g4⟩:=EW (M:=M1) h4 hk (fun b e=>by cases e) (fun b=>rfl) h2;refine ⟨⟨kA,_,kc,hkv⟩,Ti (M:=M2) (fun b cur t e=>?_) ?_⟩
 ·have:=g4.holds (.old b) _ e
  obtain ⟨f1,f2⟩:=this;exact ⟨f2,f1,(Array.getElem?_eq_some_iff.1 f2).1⟩
 ·rw [hkv]
  unfold Pb.Cn.tree TM;exact ⟨kA,kc,cs',rfl,hkc,g3,fV g1 h3⟩
theorem RH {row:List MC} {ls:List (List UInt8)} (h:row.map (·.c)=(Pb.read ls).row) (hl:(Pb.read ls).row.length=1):∃ x,row=[x]∧x.c.tree=Pb.tree ls:=by
 cases row with
 | nil=>rw [← h] at hl; simp at hl
 | cons x t =>
  cases t with
  | cons y u=>rw [← h] at hl; simp at hl
  | nil =>
   refine ⟨x,rfl,?_⟩;unfold Pb.tree;rw [← h]; rfl
theorem kz:∀ (ls:List (List UInt8)) (i:Nat) (r:Pb.Rd),Pb.Doc r.row→Pb.Doc (Pb.lines ls i r).row
 | [],_,_,h=>h
 | s::t,i,r,h=>by
  refine kz t (i+1) _ ?_;unfold Pb.ia
  split
  ·exact oE h
  ·have hp:=Ev h s
   have hd:=rK i (41 - (Pb.take r.row.reverse s).1) (Pb.take r.row.reverse s).1 r (Pb.take r.row.reverse s).2 hp h;have hk:∀ (m k:Nat) (r:Pb.Rd) (s:List UInt8),1≤k→1≤(Pb.begin i m k r s).2.1:=by
    intro m
    induction m with
    | zero=>intro k r s hk; exact hk
    | succ m ih =>
     intro k r s hk;rw [Pb.begin];cases Bk.opener s with
     | none=>exact hk
     | some oq=>exact ih _ _ _ (by omega)
   refine pW (hk _ _ _ _ hp) ?_ hd;have:=vO hd;exact List.length_pos_iff.2 this
theorem Oi (ls:List (List UInt8)):(Pb.read ls).row.length=1:=by
 have hd:=kz ls 0 Pb.start (by unfold Pb.Doc; rfl);exact sO (Nat.le_refl _) (List.length_pos_iff.2 (vO hd))
theorem VJ (l:List UInt8) (A:Option Addr) (c:Nat) (w:World) (hR:Row w w.heap.size 1 A l.length (aj l)) (hlc:l.length≤c) (hl:l.length≤9223372036854775807) :
  Calls Tryz.prog 24 #[.slice A l.length c] w fun e w'=>∃ cs,e=.returned (.agg cs.toArray)∧TC w' (fun b=>w.heap.size≤b∧b<w'.heap.size) (Pb.tree (Pb.bh l)) cs∧Below w.heap.size w w':=by
 have hrd:=fun w' h=>pread l A c w' h hlc hl;obtain ⟨T,hT⟩:∃ T,Pb.tree (Pb.bh l)=T:=⟨_,rfl⟩
 rw [hT];have hz0:(w.alloc (.cells #[.int .i64 0,.int .i64 0,.string ⟨#[]⟩,.string ⟨#[]⟩,.int .i64 0,.slice none 0 0] 32)).heap.size=w.heap.size+1:=by simp
 have hn0:=heap_alloc_new w (.cells #[.int .i64 0,.int .i64 0,.string ⟨#[]⟩,.string ⟨#[]⟩,.int .i64 0,.slice none 0 0] 32);have hb0:=aa w (.cells #[.int .i64 0,.int .i64 0,.string ⟨#[]⟩,.string ⟨#[]⟩,.int .i64 0,.slice none 0 0] 32);replace hR:=Lib.hid hR;obtain ⟨q,hq⟩:∃ q,w.heap.size=q:=⟨_,rfl⟩
 go_enter Tryz.func24,Tryz.ntmps24;go_wp2_with fail;generalize (w.alloc (.cells #[.int .i64 0,.int .i64 0,.string ⟨#[]⟩,.string ⟨#[]⟩,.int .i64 0,.slice none 0 0] 32))=w0 at hz0 hn0 hb0 ⊢;rw [hq] at hz0 hn0;refine (hrd w0 (hR.out.ext hb0)).mono ?_;rintro e w1 ⟨R,rv,lv,pv,M,row,rfl,hrow,hA,_,_,hb1⟩;obtain ⟨x,rfl,Zi⟩:=RH hrow (Oi _);rw [hT] at Zi;obtain ⟨⟨kA,kn,kk,hkv⟩,yO⟩:=G1 hA;rw [Zi,hkv] at yO;obtain ⟨g,gc,iF,_,_,hgB,kT,LU,oP⟩:=dW hA;obtain ⟨lA,lc,hlv,_⟩:=ak (hA.hp.own (k:=.lns) rfl);obtain ⟨pA,pc,BZ,_⟩:=ak (hA.hp.own (k:=.pls) rfl);obtain ⟨gl,Ds⟩:∃ gl,(Pb.read (Pb.bh l)).leaf=gl:=⟨_,rfl⟩
 rw [Ds] at hlv ⊢;obtain ⟨ln,AD⟩:∃ ln,gl.lines.length=ln:=⟨_,rfl⟩
 obtain ⟨pn,DT⟩:∃ pn,(Pb.read (Pb.bh l)).places.length=pn:=⟨_,rfl⟩
 rw [AD] at hlv;rw [DT] at BZ;rw [iF,hlv,BZ];have k0:=oP 0 _ rfl;have k1:=oP 1 _ rfl;have k2:=oP 2 _ rfl;have k3:=oP 3 _ rfl;have k4:=oP 4 _ rfl;have k5:=oP 5 _ rfl;rw [hkv] at k5;simp only [List.length_nil,Nat.zero_mul,Nat.zero_add] at k0 k1 k2 k3 k4 k5;have hz1:=hb1.size;have Qm:=hq;obtain ⟨xk,W7⟩:∃ xk,x.c.kind=xk:=⟨_,rfl⟩
 obtain ⟨xl,hxl⟩:∃ xl,x.c.line=xl:=⟨_,rfl⟩
 rw [W7] at k0 yO;rw [hxl] at k4 yO;have hnew:=aa w1 (.cells (CG (.slice (some ⟨g,0,none⟩) 1 gc) (.slice lA ln lc) (.slice pA pn pc) gl) 73);have hc0:=cell_of (heap_alloc_new w1 (.cells (CG (.slice (some ⟨g,0,none⟩) 1 gc) (.slice lA ln lc) (.slice pA pn pc) gl) 73)) (j:=0) rfl;have hz2:(w1.alloc (.cells (CG (.slice (some ⟨g,0,none⟩) 1 gc) (.slice lA ln lc) (.slice pA pn pc) gl) 73)).heap.size=w1.heap.size+1:=by simp
 go_upto_region 2 with fail
 generalize w1.alloc (.cells (CG (.slice (some ⟨g,0,none⟩) 1 gc) (.slice lA ln lc) (.slice pA pn pc) gl) 73)=w2 at hnew hc0 hz2 ⊢;have hn2:=(hnew.block q (by omega)).trans ((hb1.block q (by omega)).trans hn0);have kq:=fun j=>hnew.cell (p:=⟨g,j,none⟩) kT;rw [← kq] at k0 k1 k2 k3 k4 k5;have uH:TC w2 (fun b=>q+1≤b∧b<w2.heap.size) T [.int .i64 (xk:Int),.int .i64 0,.string ⟨#[]⟩,.string ⟨#[]⟩,.int .i64 (xl:Int),.slice kA kn kk]:=vV (fun b hb=>hnew.block b hb.2) (fun b hb=>⟨by have:=hb.1; omega,by have:=hb.2; omega⟩) yO;have hb2:Below w.heap.size w w2:=hb0.trans ((ag hb1 hnew).mono (by omega));have z0:=cell_of hn2 (j:=0) rfl;have z1:=cell_of hn2 (j:=1) rfl;have z2:=cell_of hn2 (j:=2) rfl;have z3:=cell_of hn2 (j:=3) rfl;have z4:=cell_of hn2 (j:=4) rfl;have z5:=cell_of hn2 (j:=5) rfl;have zf:=aW hn2;have hW:=N5 hn2 (.int .i64 (xk:Int)) (.int .i64 0) (.string ⟨#[]⟩) (.string ⟨#[]⟩) (.int .i64 (xl:Int)) (.slice kA kn kk);have hBq:∀ q',w.heap.size=q'→Below w.heap.size w (wrote w2 q' (.int .i64 (xk:Int)) (.int .i64 0) (.string ⟨#[]⟩) (.string ⟨#[]⟩) (.int .i64 (xl:Int)) (.slice kA kn kk)):=fun q' e=>by subst e; exact B0 hb2 _ _ _ _ _ _
 have hBW:=hBq q hq;have Yn:TC (wrote w2 q (.int .i64 (xk:Int)) (.int .i64 0) (.string ⟨#[]⟩) (.string ⟨#[]⟩) (.int .i64 (xl:Int)) (.slice kA kn kk)) (fun b=>q≤b∧b<(wrote w2 q (.int .i64 (xk:Int)) (.int .i64 0) (.string ⟨#[]⟩) (.string ⟨#[]⟩) (.int .i64 (xl:Int)) (.slice kA kn kk)).heap.size) T [.int .i64 (xk:Int),.int .i64 0,.string ⟨#[]⟩,.string ⟨#[]⟩,.int .i64 (xl:Int),.slice kA kn kk]:=vV (fun b hb=>Cy w2 (by have:=hb.1; omega) _ _ _ _ _ _) (fun b hb=>⟨by have:=hb.1; omega,by rw [Fc]; exact hb.2⟩) uH;replace hA:=Lib.hid hA;replace yO:=Lib.hid yO;replace uH:=Lib.hid uH;replace hn2:=Lib.hid hn2;replace hrow:=Lib.hid hrow;replace hW:=Lib.hid hW;replace hBW:=Lib.hid hBW;replace Yn:=Lib.hid Yn;replace hq:=Lib.hid hq;clear oP LU hrd Zi hkv iF hlv BZ hn0 AD DT Ds hT hBq kq Qm hb2;go_wp2_with fail;change bodyPost _ _ _ _ _ (wrote w2 q (.int .i64 (xk:Int)) (.int .i64 0) (.string ⟨#[]⟩) (.string ⟨#[]⟩) (.int .i64 (xl:Int)) (.slice kA kn kk));generalize wrote w2 q (.int .i64 (xk:Int)) (.int .i64 0) (.string ⟨#[]⟩) (.string ⟨#[]⟩) (.int .i64 (xl:Int)) (.slice kA kn kk)=wz at hW hBW Yn ⊢;have y0:=cell_of hW.out (j:=0) rfl;have y1:=cell_of hW.out (j:=1) rfl;have y2:=cell_of hW.out (j:=2) rfl;have y3:=cell_of hW.out (j:=3) rfl;have y4:=cell_of hW.out (j:=4) rfl;have y5:=cell_of hW.out (j:=5) rfl;clear z0 z1 z2 z3 z4 z5 zf k0 k1 k2 k3 k4 k5 hc0;rw [← hq.out] at Yn;exact bodyPost_ret (v:=.agg #[.int .i64 (xk:Int),.int .i64 0,.string ⟨#[]⟩,.string ⟨#[]⟩,.int .i64 (xl:Int),.slice kA kn kk]) (by rw [jY rfl]; go_simp) rfl ⟨[.int .i64 (xk:Int),.int .i64 0,.string ⟨#[]⟩,.string ⟨#[]⟩,.int .i64 (xl:Int),.slice kA kn kk],rfl,Yn.out,hBW.out⟩
end Go.Proofs.YtddkjkockbcamaaGreatDoor
