/- PbRead PbParse -/
import Derived.Test.YtddkjkockbcamaaGreatDoorHw27
import Derived.Test.YtddkjkockbcamaaGreatDoorHw05
import Derived.Test.YtddkjkockbcamaaGreatDoorHw28
set_option maxHeartbeats 16000000
set_option maxRecDepth 100000
namespace Go.Proofs.YtddkjkockbcamaaGreatDoor
open Go.RowKit
attribute [local go_sem] aD av aq
def Pb.aU (l:List UInt8):List (List UInt8):=(Ln.texts (l.take 65536) 0).map Ru.text
theorem MN {l:List UInt8}{k:Nat}:∀ s∈Ln.texts l k,s.length≤l.length:=by
 intro s hs;unfold Ln.texts at hs;obtain ⟨x,_,rfl⟩:=List.mem_map.1 hs;unfold mid;rw [List.length_take,List.length_drop];omega
theorem NJ {ts:List (List UInt8)}{k:Nat}(h:k<ts.length) (r:Pb.Rd):Pb.lines ((ts.drop k).map Ru.text) k r=Pb.lines ((ts.drop (k+1)).map Ru.text) (k+1) (Pb.fJ k (Ru.text ts[k]) r):=by
 rw [List.drop_eq_getElem_cons h,List.map_cons,Pb.lines]
theorem IU {ts:List (List UInt8)}{k:Nat}(h:¬ k<ts.length) (r:Pb.Rd):Pb.lines ((ts.drop k).map Ru.text) k r=r:=by
 rw [List.drop_eq_nil_of_le (by omega)];rfl
theorem Hp.low {K:Type}{w w':World}{B g:Nat}{m:K→Option Part}(h:Hp w B m) (hg:w.grownBy w' (some g)) (hl:g<B):Hp w' B m :=
 ⟨fun k a ha=>Part.kept (h.holds k a ha) hg (by
  cases hb:a.block with
  | none=>exact .inl rfl
  | some b=>exact .inr fun e=>by have:=(Part.lt (h.holds k a ha) hb).1;cases e;omega),h.apart⟩
abbrev ng:Array Value:=#[.int .i64 0,.int .i64 0,.string ⟨#[]⟩,.string ⟨#[]⟩,.int .i64 0,.slice none 0 0,.int .u8 0,.int .i64 0,.int .u8 0]
abbrev G2 (rv lv pv:Value) (l:Pb.Of):Array Value:=#[rv,.int .i64 (l.kind:Int),.int .i64 (l.line:Int),lv,.int .u8 (l.op.c.toNat:Int),.int .i64 (l.op.n:Int),.int .i64 (l.op.ind:Int),.string (bs l.op.info),.bool l.ended,pv]
abbrev KU (rv:Value):Array Value:=#[rv,.int .i64 0,.int .i64 0,.slice none 0 0,.int .u8 0,.int .i64 0,.int .i64 0,.string ⟨#[]⟩,.bool false,.slice none 0 0]
def Xk:MC:=⟨⟨0,0,[],0,0,none⟩,.slice none 0 0,[],.slice none 0 0,[]⟩
theorem No (w:World):cT ((w.alloc (.cells ng 76)).alloc (.cells (KU (.slice (some ⟨w.heap.size,0,none⟩) 1 1)) 73)) w.heap.size (fun _=>none) (w.heap.size+1) (.slice (some ⟨w.heap.size,0,none⟩) 1 1) (.slice none 0 0) (.slice none 0 0) (fun _=>none) [Xk] Pb.bB []:=by
 have H0:Hp w w.heap.size (fun _:nV=>(none:Option Part)):=⟨fun _ _ h=>(by cases h),fun _ _ _ _ _ h=>(by cases h)⟩
 have H1:=H0.AO (k:=.row) (.row 76 9 (.slice (some ⟨w.heap.size,0,none⟩) 1 1) 1 ng.toList) rfl (aa w (.cells ng 76)) ⟨rfl,.inr ⟨w.heap.size,1,ng,rfl,Nat.le_refl _,heap_alloc_new w _,Nat.le_refl _,by unfold maxLen;omega,rfl,rfl⟩⟩ (fun g e=>by cases e;exact Nat.le_refl _);have hz:(w.alloc (.cells ng 76)).heap.size=w.heap.size+1:=by simp
 have H2:=H1.AO (k:=.rd) (.blk (w.heap.size+1) (KU (.slice (some ⟨w.heap.size,0,none⟩) 1 1)) 73) (aj _ _ (by simp)) (aa _ (.cells (KU (.slice (some ⟨w.heap.size,0,none⟩) 1 1)) 73)) ⟨by omega,by
  have:=heap_alloc_new (w.alloc (.cells ng 76)) (.cells (KU (.slice (some ⟨w.heap.size,0,none⟩) 1 1)) 73);rw [hz] at this;exact this⟩ (fun g e=>by cases e;exact Nat.le_of_eq hz)
 have H3:=H2.AO (k:=.lns) (.row 9 1 (.slice none 0 0) 0 []) ((aj _ _ (by simp)).trans (aj _ _ (by simp))) (Below.refl _ _) (World.ownsRow_nil _ _ _ _) (fun g e=>by cases e);have H4:=H3.AO (k:=.pls) (.row 185 8 (.slice none 0 0) 0 []) ((aj _ _ (by simp)).trans ((aj _ _ (by simp)).trans (aj _ _ (by simp)))) (Below.refl _ _) (World.ownsRow_nil _ _ _ _) (fun g e=>by cases e);have H5:=H4.AO (k:=.kid 0) (.row 32 6 (.slice none 0 0) 0 []) ((aj _ _ (by simp)).trans ((aj _ _ (by simp)).trans ((aj _ _ (by simp)).trans (aj _ _ (by simp))))) (Below.refl _ _) (World.ownsRow_nil _ _ _ _) (fun g e=>by cases e);refine ⟨H5.same fun j=>?_,fun x hx=>?_,fun b a e=>by cases e⟩
 ·cases j with
  | kid i =>
   cases i with
   | zero=>rfl
   | succ i=>rfl
  | itm i =>
   cases i with
   | zero=>rfl
   | succ i=>rfl
  | _=>rfl
 ·rw [List.mem_singleton.1 hx]
  exact ⟨pP,fun _ _ _ e=>by cases e⟩
theorem Q8:Pb.Sz 0 0 Pb.start:=by
 refine ⟨by decide,by decide,fun c hc=>?_,fun c hc s ln is e=>?_,fun c hc e=>?_,by decide,fun s hs=>(by cases hs),by decide,by decide⟩
 ·rw [List.mem_singleton.1 hc];decide
 ·rw [List.mem_singleton.1 hc] at e;cases e
 ·rw [List.mem_singleton.1 hc] at e;cases e
def ten (w:World) (g:Nat) (a0 a1 a2 a3 a4 a5 a6 a7 a8 a9:Value):World:=((((((((((w.setCell ⟨g,0,none⟩ a0).setCell ⟨g,1,none⟩ a1).setCell ⟨g,2,none⟩ a2).setCell ⟨g,3,none⟩ a3).setCell ⟨g,4,none⟩ a4).setCell ⟨g,5,none⟩ a5).setCell ⟨g,6,none⟩ a6).setCell ⟨g,7,none⟩ a7).setCell ⟨g,8,none⟩ a8).setCell ⟨g,9,none⟩ a9)
theorem XS {w:World}{g:Nat}{z0 z1 z2 z3 z4 z5 z6 z7 z8 z9:Value}{t:TypeId}(h:w.heap[g]? = some (.cells #[z0,z1,z2,z3,z4,z5,z6,z7,z8,z9] t (0,0))) (a0 a1 a2 a3 a4 a5 a6 a7 a8 a9:Value):(ten w g a0 a1 a2 a3 a4 a5 a6 a7 a8 a9).heap[g]? = some (.cells #[a0,a1,a2,a3,a4,a5,a6,a7,a8,a9] t (0,0)):=by
 unfold ten;have h1:(w.setCell ⟨g,0,none⟩ a0).heap[g]? = some (.cells #[a0,z1,z2,z3,z4,z5,z6,z7,z8,z9] t (0,0)):=heap_setCell_same w g 0 _ t a0 h;generalize hw1:(w.setCell ⟨g,0,none⟩ a0)=w1 at h1 ⊢;have h2:(w1.setCell ⟨g,1,none⟩ a1).heap[g]? = some (.cells #[a0,a1,z2,z3,z4,z5,z6,z7,z8,z9] t (0,0)):=heap_setCell_same w1 g 1 _ t a1 h1;generalize hw2:(w1.setCell ⟨g,1,none⟩ a1)=w2 at h2 ⊢;have h3:(w2.setCell ⟨g,2,none⟩ a2).heap[g]? = some (.cells #[a0,a1,a2,z3,z4,z5,z6,z7,z8,z9] t (0,0)):=heap_setCell_same w2 g 2 _ t a2 h2;generalize hw3:(w2.setCell ⟨g,2,none⟩ a2)=w3 at h3 ⊢;have h4:(w3.setCell ⟨g,3,none⟩ a3).heap[g]? = some (.cells #[a0,a1,a2,a3,z4,z5,z6,z7,z8,z9] t (0,0)):=heap_setCell_same w3 g 3 _ t a3 h3;generalize hw4:(w3.setCell ⟨g,3,none⟩ a3)=w4 at h4 ⊢;have h5:(w4.setCell ⟨g,4,none⟩ a4).heap[g]? = some (.cells #[a0,a1,a2,a3,a4,z5,z6,z7,z8,z9] t (0,0)):=heap_setCell_same w4 g 4 _ t a4 h4;generalize TX:(w4.setCell ⟨g,4,none⟩ a4)=w5 at h5 ⊢;have h6:(w5.setCell ⟨g,5,none⟩ a5).heap[g]? = some (.cells #[a0,a1,a2,a3,a4,a5,z6,z7,z8,z9] t (0,0)):=heap_setCell_same w5 g 5 _ t a5 h5;generalize hw6:(w5.setCell ⟨g,5,none⟩ a5)=w6 at h6 ⊢;have h7:(w6.setCell ⟨g,6,none⟩ a6).heap[g]? = some (.cells #[a0,a1,a2,a3,a4,a5,a6,z7,z8,z9] t (0,0)):=heap_setCell_same w6 g 6 _ t a6 h6;generalize hw7:(w6.setCell ⟨g,6,none⟩ a6)=w7 at h7 ⊢;have h8:(w7.setCell ⟨g,7,none⟩ a7).heap[g]? = some (.cells #[a0,a1,a2,a3,a4,a5,a6,a7,z8,z9] t (0,0)):=heap_setCell_same w7 g 7 _ t a7 h7;generalize Nu:(w7.setCell ⟨g,7,none⟩ a7)=w8 at h8 ⊢;have h9:(w8.setCell ⟨g,8,none⟩ a8).heap[g]? = some (.cells #[a0,a1,a2,a3,a4,a5,a6,a7,a8,z9] t (0,0)):=heap_setCell_same w8 g 8 _ t a8 h8;generalize hw9:(w8.setCell ⟨g,8,none⟩ a8)=w9 at h9 ⊢;have h10:(w9.setCell ⟨g,9,none⟩ a9).heap[g]? = some (.cells #[a0,a1,a2,a3,a4,a5,a6,a7,a8,a9] t (0,0)):=heap_setCell_same w9 g 9 _ t a9 h9;exact h10
theorem Np {B:Nat}{w0 w:World}(hb:Below B w0 w) {g:Nat}(hg:B≤g) (a0 a1 a2 a3 a4 a5 a6 a7 a8 a9:Value):Below B w0 (ten w g a0 a1 a2 a3 a4 a5 a6 a7 a8 a9):=by
 unfold ten;exact ((((((((((hb.setCell (p:=⟨g,0,none⟩) hg a0).setCell (p:=⟨g,1,none⟩) hg a1).setCell (p:=⟨g,2,none⟩) hg a2).setCell (p:=⟨g,3,none⟩) hg a3).setCell (p:=⟨g,4,none⟩) hg a4).setCell (p:=⟨g,5,none⟩) hg a5).setCell (p:=⟨g,6,none⟩) hg a6).setCell (p:=⟨g,7,none⟩) hg a7).setCell (p:=⟨g,8,none⟩) hg a8).setCell (p:=⟨g,9,none⟩) hg a9)
theorem Mk (w:World) (g:Nat) (a0 a1 a2 a3 a4 a5 a6 a7 a8 a9:Value):w.grownBy (ten w g a0 a1 a2 a3 a4 a5 a6 a7 a8 a9) (some g):=by
 unfold ten;exact ((((((((((ay w ⟨g,0,none⟩ a0).trans (ay _ ⟨g,1,none⟩ a1)).trans (ay _ ⟨g,2,none⟩ a2)).trans (ay _ ⟨g,3,none⟩ a3)).trans (ay _ ⟨g,4,none⟩ a4)).trans (ay _ ⟨g,5,none⟩ a5)).trans (ay _ ⟨g,6,none⟩ a6)).trans (ay _ ⟨g,7,none⟩ a7)).trans (ay _ ⟨g,8,none⟩ a8)).trans (ay _ ⟨g,9,none⟩ a9))
theorem pread (l:List UInt8) (A:Option Addr) (c:Nat) (w:World) (hR:Row w w.heap.size 1 A l.length (ai l)) (hlc:l.length≤c) (hl:l.length≤9223372036854775807) :
  Calls Tryz.prog 40 #[.slice A l.length c] w fun e w'=>∃ R rv lv pv M row,e=.returned (.agg (G2 rv lv pv (Pb.read (Pb.aU l)).leaf))∧row.map (·.c)=(Pb.read (Pb.aU l)).row∧cT w' (w.heap.size+1) (fun _=>none) R rv lv pv M row (Pb.read (Pb.aU l)).leaf (Pb.read (Pb.aU l)).places∧Pb.Sz 800000000 0 (Pb.read (Pb.aU l))∧Pb.Doc (Pb.read (Pb.aU l)).row∧Below w.heap.size w w':=by
 obtain ⟨m,hm⟩:∃ m,(l.take 65536).length=m:=⟨_,rfl⟩
 have hml:m≤65536∧m≤l.length:=by rw [← hm,List.length_take];omega
 have hmin:(if (65536:Int)<(l.length:Int) then (65536:Int) else (l.length:Int))=(m:Int)∧min (l.length:Int) 65536=(m:Int):=by
  rw [List.length_take] at hm;refine ⟨?_,by omega⟩
  split<;>omega
 have hR2:Row w w.heap.size 1 A m (ai (l.take 65536)):=by
  have:=hR.take hml.2;rw [Nat.mul_one] at this;have e:(ai l).take m=ai (l.take 65536):=by
   unfold ai;rw [← List.map_take];congr 1;rw [← hm,List.length_take];rcases Nat.le_total 65536 l.length with h | h
   ·rw [Nat.min_eq_left h]
   ·rw [Nat.min_eq_right h,List.take_of_length_le (Nat.le_refl _),List.take_of_length_le h]
  rwa [e] at this
 have QE:=fun w' h=>MW (l.take 65536) A c w' h (by rw [hm];omega) (by rw [hm];omega);have hlo:Pb.aU l=(Ln.texts (l.take 65536) 0).map Ru.text:=rfl;have rG:=@MN (l.take 65536) 0;have htn:=Ln.Bf (l.take 65536) 0;rw [hm] at QE rG htn;obtain ⟨ts,hts⟩:∃ ts,Ln.texts (l.take 65536) 0=ts:=⟨_,rfl⟩
 rw [hts] at QE hlo rG htn;rw [hlo];have hcs:(l.length:Int)≤(c:Int):=by omega
 have hmc:(m:Int)≤(c:Int):=by omega
 obtain ⟨afp,afB⟩:=hmin;obtain ⟨G,hG⟩:∃ G,Pb.read (ts.map Ru.text)=G:=⟨_,rfl⟩
 rw [hG];obtain ⟨gl,Ve⟩:∃ gl,G.leaf=gl:=⟨_,rfl⟩
 rw [Ve];replace Ve:=Lib.hid Ve;obtain ⟨G0,hG0⟩:∃ G0,Pb.lines ((ts.drop 0).map Ru.text) 0 Pb.start=G0:=⟨_,rfl⟩
 have hGG:Pb.aI 1 G0=G:=by rw [← hG0,← hG];rfl
 have hs0:=aa w (.cells (KU (.slice none 0 0)) 73);have hn0:=heap_alloc_new w (.cells (KU (.slice none 0 0)) 73);have hz0:(w.alloc (.cells (KU (.slice none 0 0)) 73)).heap.size=w.heap.size+1:=by simp
 have MB:=No (w.alloc (.cells (KU (.slice none 0 0)) 73));have hb0:Below (w.heap.size+1) (w.alloc (.cells (KU (.slice none 0 0)) 73)) _:=(((Below.refl _ _).alloc (by rw [hz0];exact Nat.le_refl _) (.cells ng 76)).alloc (by simp) (.cells (KU (.slice (some ⟨(w.alloc (.cells (KU (.slice none 0 0)) 73)).heap.size,0,none⟩) 1 1)) 73))
 rw [hz0] at MB hb0;obtain ⟨wa,zV⟩:∃ wa,w.alloc (.cells (KU (.slice none 0 0)) 73)=wa:=⟨_,rfl⟩
 rw [zV] at MB hb0 hs0 hn0 hz0;obtain ⟨w0,hw0⟩:∃ w0,(wa.alloc (.cells ng 76)).alloc (.cells (KU (.slice (some ⟨w.heap.size+1,0,none⟩) 1 1)) 73)=w0:=⟨_,rfl⟩
 rw [hw0] at MB hb0;have hRw:Row w0 w0.heap.size 1 A m (ai (l.take 65536)):=hR2.ext (hs0.trans (hb0.mono (by omega)));have Y6:PS w0 (w.heap.size+1) (fun _=>none) (w.heap.size+1+1) Pb.start:=⟨_,_,_,_,[Xk],rfl,MB⟩
 replace hR:=Lib.hid hR;replace zV:=Lib.hid zV;replace hw0:=Lib.hid hw0;replace Y6:=Lib.hid Y6;replace hG:=Lib.hid hG;replace hG0:=Lib.hid hG0;replace hGG:=Lib.hid hGG;clear hlo MB hR2;go_enter Tryz.func40,Tryz.ntmps40;go_wp2_with fail;have ZK:=zV.out;have Y0:=hw0.out;simp only [KU,ng] at ZK Y0;rw [ZK,Y0];refine (QE w0 hRw).mono ?_;rintro e w1 ⟨v,rfl,hown,hb1⟩;obtain ⟨rv0,lv0,pv0,M0,row0,EC,Ik⟩:=Y6.out;have YE:w.heap.size+1≤w0.heap.size:=by have:=hb0.size;omega
 have XE:w1.ownsRow (w.heap.size+1) 9 1 v ts.length (aY ts):=⟨hown.1,hown.2.imp id (fun ⟨g,cc,cur,e1,e2,e3⟩=>⟨g,cc,cur,e1,by omega,e3⟩)⟩
 have oc:=Ik.jk (a:=.row 9 1 v ts.length (aY ts)) hb1 XE (fun g hg=>(World.ownsRow.lt hown g hg).1);obtain ⟨B,TS⟩:∃ B,w.heap.size+1=B:=⟨_,rfl⟩
 obtain ⟨E,hE⟩:∃ E,eL (.row 9 1 v ts.length (aY ts)) (fun _=>none)=E:=⟨_,rfl⟩
 have qh:E 0=some (.row 9 1 v ts.length (aY ts)):=by rw [← hE];rfl
 rw [TS] at oc YE hb0 ⊢;rw [hE] at oc;have hB1:Below B wa w1:=hb0.trans (hb1.mono YE);obtain ⟨vA,vc,rfl,hvc⟩:=ak hown;obtain ⟨R,LN⟩:∃ R,B+1=R:=⟨_,rfl⟩
 rw [LN] at oc ⊢;have hP1:=Lib.hid (⟨rv0,lv0,pv0,M0,row0,EC,oc⟩:PS w1 B E R Pb.start);replace hB1:=Lib.hid hB1;replace qh:=Lib.hid qh;replace hE:=Lib.hid hE;replace TS:=Lib.hid TS;replace LN:=Lib.hid LN;have agA:ts.length≤65536:=by omega
 clear hown hb1 hb0 oc Ik EC XE ZK Y0 QE YE;go_wp2_with fail
 go_loopw [17] (fun u wr=>∃ (k:Nat) (r1:Pb.Rd),k≤ts.length∧u=.int .i64 (k:Int)∧Hid (PS wr B E R r1)∧Hid (Pb.Sz (2100*k) k r1)∧Hid (Pb.Doc r1.row)∧Hid (Pb.lines ((ts.drop k).map Ru.text) k r1=G0)∧Hid (Below B wa wr)) (fun u _=>ts.length-(intOf u).toNat)
 case atStart=>exact ⟨0,Pb.start,by omega,rfl,hP1,Lib.hid Q8,Lib.hid (by unfold Pb.Doc;rfl),hG0,hB1⟩
 case round =>
  obtain ⟨k,r1,hk,rfl,hP,hz,hd,FG,hb⟩:=hrel;rcases Nat.lt_or_eq_of_le hk with hlt | Au
  ·obtain ⟨rv,lv,pv,M,row,hrow,hA⟩:=hP.out
   have wF:B≤wr.heap.size:=by have:=aK hA;omega
   have hrw:=hA.hp.own (k:=.ext 0) qh.out;obtain ⟨g,gc,cur,hv,_,_,mh,_⟩:=iI hrw (by omega);cases hv;obtain ⟨s,hs⟩:∃ s,ts[k]=s:=⟨_,rfl⟩
   have hx:=jf (j:=k) (u:=.string (bs s)) hrw (by unfold aY;rw [List.getElem?_map,List.getElem?_eq_getElem hlt,hs];rfl);have qm:=rG s (by rw [← hs];exact List.getElem_mem hlt);have hst:=NJ hlt r1;rw [hs,FG.out] at hst;have hrb:=BU s;have htl:=Ru.Gm s;have kr:=vT wr (bs s);have TW:=Q5 s (some ⟨wr.heap.size,0,none⟩) (grownCap wr s.length 0 5) (Lib.bytesWorld wr 5 (bs s)) (Nn _ s) (by omega);have wO:=fun wz hz'=>OW wz B E R r1 hz' hz.out hd.out (by omega) (by omega) k (by omega) (Ru.text s) (by omega);replace hs:=Lib.hid hs;replace hst:=Lib.hid hst;replace hrw:=Lib.hid hrw;replace hA:=Lib.hid hA;replace wO:=Lib.hid wO;replace kr:=Lib.hid kr;replace hrow:=Lib.hid hrow;have ahg:=(Array.getElem?_eq_some_iff.1 mh).1;clear mh;have jq:(k:Int)<(ts.length:Int):=by omega
   have hk0:(0:Int)≤(k:Int):=by omega
   have hcv:=hrb;clear hrb;go_wp2_with fail;refine TW.mono ?_;rintro e w3 ⟨rfl,hb3⟩;have Yl:=ag kr.out hb3;have XY:=Lib.hid (⟨rv,lv,pv,M,row,hrow.out,cT.mk (hA.out.hp.ext Yl) hA.out.good hA.out.old⟩:PS w3 B E R r1);have jy:=Lib.hid (hb.out.trans (Yl.mono wF));clear hcv TW Yl hb3;go_wp2_with fail;refine (wO.out _ XY.out).mono ?_;rintro e w4 ⟨rfl,⟨Ay,hz4,hd4⟩,hb4⟩;replace Ay:=Lib.hid Ay;replace hz4:=Lib.hid hz4;replace hd4:=Lib.hid hd4;replace hb4:=Lib.hid (jy.out.trans hb4);go_wp2_with fail
   go_roundw
   case rel=>exact ⟨k+1,_,by omega,by go_num,Ay,Lib.hid (by have:=hz4.out;rw [show 2100*(k+1)=2100*k+2100 from by omega];exact this),hd4,Lib.hid hst.out.symm,hb4⟩
   case measure=>simp [intOf];omega
  ·have hG1:=FG.out
   rw [IU (by omega)] at hG1;have hto:=fun wz hz'=>je wz B E R r1 hz' hz.out (by omega) (by omega) 1 (by omega);have hres:Pb.Sz 800000000 0 (Pb.aI 1 r1)∧Pb.Doc (Pb.aI 1 r1).row:=⟨(eP hz.out 1 0).mono (by omega) (Nat.le_refl _),oL (Nat.le_refl _) hz.out.pos hd.out⟩
   rw [show Pb.aI 1 r1=G from by rw [hG1];exact hGG.out] at hto hres;replace hres:=Lib.hid hres;replace hto:=Lib.hid hto;replace hG1:=Lib.hid hG1;have hkn:¬ (k:Int)<(ts.length:Int):=by omega
   clear Au;go_wp2_with fail;refine (hto.out _ hP.out).mono ?_;rintro e w5 ⟨rfl,hP5,hb5⟩;obtain ⟨rv,lv,pv,M,row,hrow,hA⟩:=hP5;rw [← hE.out] at hA;have Ae:=hA.fP;obtain ⟨rA,rc,jl,_⟩:=ak (Ae.hp.own (k:=.row) rfl);obtain ⟨lA,lc,hlv,_⟩:=ak (Ae.hp.own (k:=.lns) rfl);obtain ⟨pA,pc,D5,_⟩:=ak (Ae.hp.own (k:=.pls) rfl);obtain ⟨rn,OX⟩:∃ rn,row.length=rn:=⟨_,rfl⟩
   obtain ⟨ln,wO⟩:∃ ln,gl.lines.length=ln:=⟨_,rfl⟩
   obtain ⟨pn,F5⟩:∃ pn,G.places.length=pn:=⟨_,rfl⟩
   rw [Ve.out] at Ae hlv;rw [OX] at jl;rw [wO] at hlv;rw [F5] at D5;obtain ⟨hR1,hR2,_,d0,d1,d2,d3,d4,d5,d6,d7,d8,d9⟩:=aK Ae;rw [jl] at d0;rw [hlv] at d3;rw [D5] at d9;have Jo:=hb.out.trans hb5;have LJ:=(Jo.block w.heap.size (by have:=TS.out;omega)).trans hn0;have z0:=cell_of LJ (j:=0) rfl;have z1:=cell_of LJ (j:=1) rfl;have z2:=cell_of LJ (j:=2) rfl;have z3:=cell_of LJ (j:=3) rfl;have z4:=cell_of LJ (j:=4) rfl;have z5:=cell_of LJ (j:=5) rfl;have z6:=cell_of LJ (j:=6) rfl;have z7:=cell_of LJ (j:=7) rfl;have z8:=cell_of LJ (j:=8) rfl;have z9:=cell_of LJ (j:=9) rfl;have zf:=bf LJ;have jY:=Ae.hp.low (Mk w5 w.heap.size (.slice rA rn rc) (.int .i64 (gl.kind:Int)) (.int .i64 (gl.line:Int)) (.slice lA ln lc) (.int .u8 (gl.op.c.toNat:Int)) (.int .i64 (gl.op.n:Int)) (.int .i64 (gl.op.ind:Int)) (.string (bs gl.op.info)) (.bool gl.ended) (.slice pA pn pc)) (by have:=TS.out;omega);have hW:=XS LJ (.slice rA rn rc) (.int .i64 (gl.kind:Int)) (.int .i64 (gl.line:Int)) (.slice lA ln lc) (.int .u8 (gl.op.c.toNat:Int)) (.int .i64 (gl.op.n:Int)) (.int .i64 (gl.op.ind:Int)) (.string (bs gl.op.info)) (.bool gl.ended) (.slice pA pn pc);have P5:Below w.heap.size w w5:=hs0.trans (Jo.mono (by have:=TS.out;omega));have hBW:Below w.heap.size w (ten w5 w.heap.size (.slice rA rn rc) (.int .i64 (gl.kind:Int)) (.int .i64 (gl.line:Int)) (.slice lA ln lc) (.int .u8 (gl.op.c.toNat:Int)) (.int .i64 (gl.op.n:Int)) (.int .i64 (gl.op.ind:Int)) (.string (bs gl.op.info)) (.bool gl.ended) (.slice pA pn pc)):=Np P5 (Nat.le_refl _) _ _ _ _ _ _ _ _ _ _;have XB:=Lib.hid (cT.mk jY Ae.good Ae.old);replace Ae:=Lib.hid Ae;replace hA:=Lib.hid hA;replace LJ:=Lib.hid LJ;replace jY:=Lib.hid jY;replace P5:=Lib.hid P5;replace Jo:=Lib.hid Jo;replace hrow:=Lib.hid hrow;replace jl:=Lib.hid jl;replace hlv:=Lib.hid hlv;replace D5:=Lib.hid D5;replace hn0:=Lib.hid hn0;clear OX wO F5;go_wp2_with fail;change bodyPost _ _ _ _ _ (ten w5 w.heap.size (.slice rA rn rc) (.int .i64 (gl.kind:Int)) (.int .i64 (gl.line:Int)) (.slice lA ln lc) (.int .u8 (gl.op.c.toNat:Int)) (.int .i64 (gl.op.n:Int)) (.int .i64 (gl.op.ind:Int)) (.string (bs gl.op.info)) (.bool gl.ended) (.slice pA pn pc));generalize ten w5 w.heap.size (.slice rA rn rc) (.int .i64 (gl.kind:Int)) (.int .i64 (gl.line:Int)) (.slice lA ln lc) (.int .u8 (gl.op.c.toNat:Int)) (.int .i64 (gl.op.n:Int)) (.int .i64 (gl.op.ind:Int)) (.string (bs gl.op.info)) (.bool gl.ended) (.slice pA pn pc)=wz at hW hBW XB ⊢;have y0:=cell_of hW (j:=0) rfl;have y1:=cell_of hW (j:=1) rfl;have y2:=cell_of hW (j:=2) rfl;have y3:=cell_of hW (j:=3) rfl;have y4:=cell_of hW (j:=4) rfl;have y5:=cell_of hW (j:=5) rfl;have y6:=cell_of hW (j:=6) rfl;have y7:=cell_of hW (j:=7) rfl;have y8:=cell_of hW (j:=8) rfl;have y9:=cell_of hW (j:=9) rfl;clear z0 z1 z2 z3 z4 z5 z6 z7 z8 z9 zf d0 d1 d2 d3 d4 d5 d6 d7 d8 d9;refine bodyPost_ret (v:=.agg #[.slice rA rn rc,.int .i64 (gl.kind:Int),.int .i64 (gl.line:Int),.slice lA ln lc,.int .u8 (gl.op.c.toNat:Int),.int .i64 (gl.op.n:Int),.int .i64 (gl.op.ind:Int),.string (bs gl.op.info),.bool gl.ended,.slice pA pn pc]) (by rw [kZ rfl];go_simp) rfl ?_;have aP:=XB.out;rw [TS.out];exact ⟨R,rv,lv,pv,M,row,by rw [jl.out,hlv.out,D5.out],hrow.out,aP,hres.out.1,hres.out.2,hBW⟩
theorem Km {w:World}{B R:Nat}{E:Nat→Option Part}{rv lv pv:Value}{M:Mm}{x:MC}{l:Pb.Of}{ps:List Bk.Pl}(h:cT w B E R rv lv pv M [x] l ps) :
  (∃ A n k,x.kv=.slice A n k)∧TC w (fun b=>B≤b∧b<w.heap.size) x.c.tree [.int .i64 (x.c.kind:Int),.int .i64 0,.string ⟨#[]⟩,.string ⟨#[]⟩,.int .i64 (x.c.line:Int),x.kv]:=by
 obtain ⟨M1,h1,h2,⟨cs',h3,Sp⟩,h4⟩:=qW (o:=[]) (x:=x) (M:=M) h.hp rfl (fun b=>rfl) h.old (h.good x (by simp));have hk:gone (eU E R rv lv pv M [x] l ps) M1 (.itm ([]:List MC).length) (.kid 0)=some (.row 32 6 x.kv x.c.all.length (x.css.flatten++bD x.lv x.c.lst)):=by
  rw [bI (fun b e=>by cases e) (by simp)];rfl
 obtain ⟨kA,kc,hkv,hkc⟩:=ak (h4.own hk);rw [hkv,← Sp] at hk;obtain ⟨M2,g1,g2,g3,g4⟩:=HV (M:=M1) h4 hk (fun b e=>by cases e) (fun b=>rfl) h2;refine ⟨⟨kA,_,kc,hkv⟩,Xq (M:=M2) (fun b cur t e=>?_) ?_⟩
 ·have:=g4.holds (.old b) _ e
  obtain ⟨f1,f2⟩:=this;exact ⟨f2,f1,(Array.getElem?_eq_some_iff.1 f2).1⟩
 ·rw [hkv]
  unfold Pb.Cn.tree TM;exact ⟨kA,kc,cs',rfl,hkc,g3,gV g1 h3⟩
theorem Vn {row:List MC}{ls:List (List UInt8)}(h:row.map (·.c)=(Pb.read ls).row) (hl:(Pb.read ls).row.length=1):∃ x,row=[x]∧x.c.tree=Pb.tree ls:=by
 cases row with
 | nil=>rw [← h] at hl;simp at hl
 | cons x t =>
  cases t with
  | cons y u=>rw [← h] at hl;simp at hl
  | nil =>
   refine ⟨x,rfl,?_⟩;unfold Pb.tree;rw [← h];rfl
theorem lQ:∀ (ls:List (List UInt8)) (i:Nat) (r:Pb.Rd),Pb.Doc r.row→Pb.Doc (Pb.lines ls i r).row
 | [],_,_,h=>h
 | s::t,i,r,h=>by
  refine lQ t (i+1) _ ?_;unfold Pb.fJ
  split
  ·exact qy h
  ·have hp:=EW h s
   have hd:=uv i (41-(Pb.take r.row.reverse s).1) (Pb.take r.row.reverse s).1 r (Pb.take r.row.reverse s).2 hp h;have hk:∀ (m k:Nat) (r:Pb.Rd) (s:List UInt8),1≤k→1≤(Pb.begin i m k r s).2.1:=by
    intro m
    induction m with
    | zero=>intro k r s hk;exact hk
    | succ m ih =>
     intro k r s hk;rw [Pb.begin];cases Bk.opener s with
     | none=>exact hk
     | some oq=>exact ih _ _ _ (by omega)
   refine rP (hk _ _ _ _ hp) ?_ hd;have:=zQ hd;exact List.length_pos_iff.2 this
theorem TJ (ls:List (List UInt8)):(Pb.read ls).row.length=1:=by
 have hd:=lQ ls 0 Pb.start (by unfold Pb.Doc;rfl);exact vX (Nat.le_refl _) (List.length_pos_iff.2 (zQ hd))
theorem YL (l:List UInt8) (A:Option Addr) (c:Nat) (w:World) (hR:Row w w.heap.size 1 A l.length (ai l)) (hlc:l.length≤c) (hl:l.length≤9223372036854775807) :
  Calls Tryz.prog 24 #[.slice A l.length c] w fun e w'=>∃ cs,e=.returned (.agg cs.toArray)∧TC w' (fun b=>w.heap.size≤b∧b<w'.heap.size) (Pb.tree (Pb.aU l)) cs∧Below w.heap.size w w':=by
 have hrd:=fun w' h=>pread l A c w' h hlc hl;obtain ⟨T,hT⟩:∃ T,Pb.tree (Pb.aU l)=T:=⟨_,rfl⟩
 rw [hT];have hz0:(w.alloc (.cells #[.int .i64 0,.int .i64 0,.string ⟨#[]⟩,.string ⟨#[]⟩,.int .i64 0,.slice none 0 0] 32)).heap.size=w.heap.size+1:=by simp
 have hn0:=heap_alloc_new w (.cells #[.int .i64 0,.int .i64 0,.string ⟨#[]⟩,.string ⟨#[]⟩,.int .i64 0,.slice none 0 0] 32);have hb0:=aa w (.cells #[.int .i64 0,.int .i64 0,.string ⟨#[]⟩,.string ⟨#[]⟩,.int .i64 0,.slice none 0 0] 32);replace hR:=Lib.hid hR;obtain ⟨q,hq⟩:∃ q,w.heap.size=q:=⟨_,rfl⟩
 go_enter Tryz.func24,Tryz.ntmps24;go_wp2_with fail;generalize (w.alloc (.cells #[.int .i64 0,.int .i64 0,.string ⟨#[]⟩,.string ⟨#[]⟩,.int .i64 0,.slice none 0 0] 32))=w0 at hz0 hn0 hb0 ⊢;rw [hq] at hz0 hn0;refine (hrd w0 (hR.out.ext hb0)).mono ?_;rintro e w1 ⟨R,rv,lv,pv,M,row,rfl,hrow,hA,_,_,hb1⟩;obtain ⟨x,rfl,hxt⟩:=Vn hrow (TJ _);rw [hT] at hxt;obtain ⟨⟨kA,kn,kk,hkv⟩,BP⟩:=Km hA;rw [hxt,hkv] at BP;obtain ⟨g,gc,jl,_,_,hgB,mh,Po,qX⟩:=eF hA;obtain ⟨lA,lc,hlv,_⟩:=ak (hA.hp.own (k:=.lns) rfl);obtain ⟨pA,pc,D5,_⟩:=ak (hA.hp.own (k:=.pls) rfl);obtain ⟨gl,FG⟩:∃ gl,(Pb.read (Pb.aU l)).leaf=gl:=⟨_,rfl⟩
 rw [FG] at hlv ⊢;obtain ⟨ln,wO⟩:∃ ln,gl.lines.length=ln:=⟨_,rfl⟩
 obtain ⟨pn,F5⟩:∃ pn,(Pb.read (Pb.aU l)).places.length=pn:=⟨_,rfl⟩
 rw [wO] at hlv;rw [F5] at D5;rw [jl,hlv,D5];have k0:=qX 0 _ rfl;have k1:=qX 1 _ rfl;have k2:=qX 2 _ rfl;have k3:=qX 3 _ rfl;have k4:=qX 4 _ rfl;have k5:=qX 5 _ rfl;rw [hkv] at k5;simp only [List.length_nil,Nat.zero_mul,Nat.zero_add] at k0 k1 k2 k3 k4 k5;have hz1:=hb1.size;have Uc:=hq;obtain ⟨xk,hxk⟩:∃ xk,x.c.kind=xk:=⟨_,rfl⟩
 obtain ⟨xl,hxl⟩:∃ xl,x.c.line=xl:=⟨_,rfl⟩
 rw [hxk] at k0 BP;rw [hxl] at k4 BP;have hnew:=aa w1 (.cells (G2 (.slice (some ⟨g,0,none⟩) 1 gc) (.slice lA ln lc) (.slice pA pn pc) gl) 73);have hc0:=cell_of (heap_alloc_new w1 (.cells (G2 (.slice (some ⟨g,0,none⟩) 1 gc) (.slice lA ln lc) (.slice pA pn pc) gl) 73)) (j:=0) rfl;have hz2:(w1.alloc (.cells (G2 (.slice (some ⟨g,0,none⟩) 1 gc) (.slice lA ln lc) (.slice pA pn pc) gl) 73)).heap.size=w1.heap.size+1:=by simp
 go_upto_region 2 with fail
 generalize w1.alloc (.cells (G2 (.slice (some ⟨g,0,none⟩) 1 gc) (.slice lA ln lc) (.slice pA pn pc) gl) 73)=w2 at hnew hc0 hz2 ⊢;have hn2:=(hnew.block q (by omega)).trans ((hb1.block q (by omega)).trans hn0);have kq:=fun j=>hnew.cell (p:=⟨g,j,none⟩) mh;rw [← kq] at k0 k1 k2 k3 k4 k5;have kX:TC w2 (fun b=>q+1≤b∧b<w2.heap.size) T [.int .i64 (xk:Int),.int .i64 0,.string ⟨#[]⟩,.string ⟨#[]⟩,.int .i64 (xl:Int),.slice kA kn kk]:=yS (fun b hb=>hnew.block b hb.2) (fun b hb=>⟨by have:=hb.1;omega,by have:=hb.2;omega⟩) BP;have hb2:Below w.heap.size w w2:=hb0.trans ((ag hb1 hnew).mono (by omega));have z0:=cell_of hn2 (j:=0) rfl;have z1:=cell_of hn2 (j:=1) rfl;have z2:=cell_of hn2 (j:=2) rfl;have z3:=cell_of hn2 (j:=3) rfl;have z4:=cell_of hn2 (j:=4) rfl;have z5:=cell_of hn2 (j:=5) rfl;have zf:=bf hn2;have hW:=Sl hn2 (.int .i64 (xk:Int)) (.int .i64 0) (.string ⟨#[]⟩) (.string ⟨#[]⟩) (.int .i64 (xl:Int)) (.slice kA kn kk);have hBq:∀ q',w.heap.size=q'→Below w.heap.size w (wrote w2 q' (.int .i64 (xk:Int)) (.int .i64 0) (.string ⟨#[]⟩) (.string ⟨#[]⟩) (.int .i64 (xl:Int)) (.slice kA kn kk)):=fun q' e=>by subst e;exact Fi hb2 _ _ _ _ _ _
 have hBW:=hBq q hq;have hTW:TC (wrote w2 q (.int .i64 (xk:Int)) (.int .i64 0) (.string ⟨#[]⟩) (.string ⟨#[]⟩) (.int .i64 (xl:Int)) (.slice kA kn kk)) (fun b=>q≤b∧b<(wrote w2 q (.int .i64 (xk:Int)) (.int .i64 0) (.string ⟨#[]⟩) (.string ⟨#[]⟩) (.int .i64 (xl:Int)) (.slice kA kn kk)).heap.size) T [.int .i64 (xk:Int),.int .i64 0,.string ⟨#[]⟩,.string ⟨#[]⟩,.int .i64 (xl:Int),.slice kA kn kk]:=yS (fun b hb=>Hv w2 (by have:=hb.1;omega) _ _ _ _ _ _) (fun b hb=>⟨by have:=hb.1;omega,by rw [JF];exact hb.2⟩) kX;replace hA:=Lib.hid hA;replace BP:=Lib.hid BP;replace kX:=Lib.hid kX;replace hn2:=Lib.hid hn2;replace hrow:=Lib.hid hrow;replace hW:=Lib.hid hW;replace hBW:=Lib.hid hBW;replace hTW:=Lib.hid hTW;replace hq:=Lib.hid hq;clear qX Po hrd hxt hkv jl hlv D5 hn0 wO F5 FG hT hBq kq Uc hb2;go_wp2_with fail;change bodyPost _ _ _ _ _ (wrote w2 q (.int .i64 (xk:Int)) (.int .i64 0) (.string ⟨#[]⟩) (.string ⟨#[]⟩) (.int .i64 (xl:Int)) (.slice kA kn kk));generalize wrote w2 q (.int .i64 (xk:Int)) (.int .i64 0) (.string ⟨#[]⟩) (.string ⟨#[]⟩) (.int .i64 (xl:Int)) (.slice kA kn kk)=wz at hW hBW hTW ⊢;have y0:=cell_of hW.out (j:=0) rfl;have y1:=cell_of hW.out (j:=1) rfl;have y2:=cell_of hW.out (j:=2) rfl;have y3:=cell_of hW.out (j:=3) rfl;have y4:=cell_of hW.out (j:=4) rfl;have y5:=cell_of hW.out (j:=5) rfl;clear z0 z1 z2 z3 z4 z5 zf k0 k1 k2 k3 k4 k5 hc0;rw [← hq.out] at hTW;exact bodyPost_ret (v:=.agg #[.int .i64 (xk:Int),.int .i64 0,.string ⟨#[]⟩,.string ⟨#[]⟩,.int .i64 (xl:Int),.slice kA kn kk]) (by rw [kZ rfl];go_simp) rfl ⟨[.int .i64 (xk:Int),.int .i64 0,.string ⟨#[]⟩,.string ⟨#[]⟩,.int .i64 (xl:Int),.slice kA kn kk],rfl,hTW.out,hBW.out⟩
end Go.Proofs.YtddkjkockbcamaaGreatDoor
