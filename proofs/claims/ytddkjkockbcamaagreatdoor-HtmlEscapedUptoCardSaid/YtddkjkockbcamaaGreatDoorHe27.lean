/- BkLeaf BkLeaf2 BkText BkGrow BkLine BkTree PbClose PbClose2 PbPlace PbClose3 PbPop PbTo PbTake PbThrough PbBegin PbLeaf PbLeaf2 PbLeaf3 PbLine PbLine2 -/
import Derived.Test.YtddkjkockbcamaaGreatDoorHe15
import Derived.Test.YtddkjkockbcamaaGreatDoorHe23
import Derived.Test.YtddkjkockbcamaaGreatDoorHe04
import Derived.StillTailTactics
import Derived.Test.YtddkjkockbcamaaGreatDoorHe03
import Derived.Laws.ResultCell
import Derived.Test.YtddkjkockbcamaaGreatDoorHe16
import Derived.Test.YtddkjkockbcamaaGreatDoorHe25
import Derived.Test.YtddkjkockbcamaaGreatDoorHe26
import Derived.Test.YtddkjkockbcamaaGreatDoorHe24
set_option maxHeartbeats 16000000
set_option maxRecDepth 100000
namespace Go.Proofs.YtddkjkockbcamaaGreatDoor
open Go.RowKit
attribute [local go_sem] aD av aq
section
variable {w w':World}{B P:Nat}{E:Nat→Option Part}{A:Nat→Nat}{KV:Nat→Value}{ov pv:Value}{st:Bk.St}
def jQ:Key→Option Key
 | .ext 0=>none
 | .ext (i+1)=>some (.ext i)
 | k=>some k
theorem Wt (i j:Key) (h:jQ i=jQ j):i=j:=by
 cases i with
 | ext a =>
  cases j with
  | ext b =>
   rcases a with _ | a<;>rcases b with _ | b<;>simp [jQ] at h
   ·rfl
   ·rw [h]
  | _=>rcases a with _ | a<;>simp [jQ] at h
 | par=>cases j with
  | ext b=>rcases b with _ | b<;>simp [jQ] at h
  | _=>simp [jQ] at h;try rfl
 | opn=>cases j with
  | ext b=>rcases b with _ | b<;>simp [jQ] at h
  | _=>simp [jQ] at h;try rfl
 | pls=>cases j with
  | ext b=>rcases b with _ | b<;>simp [jQ] at h
  | _=>simp [jQ] at h;try rfl
 | node a=>cases j with
  | ext b=>rcases b with _ | b<;>simp [jQ] at h
  | _=>simp [jQ] at h;try rw [h]
 | kid a=>cases j with
  | ext b=>rcases b with _ | b<;>simp [jQ] at h
  | _=>simp [jQ] at h;try rw [h]
def FX:Key→Key
 | .ext i=>.ext (i+1)
 | k=>k
theorem Up (i j:Key) (h:FX i=FX j):i=j:=by
 cases i<;>cases j<;>simp [FX] at h<;>first | rfl | rw [h]
end
section
variable (E:Nat→Option Part) (P:Nat) (A:Nat→Nat) (KV:Nat→Value) (ov pv:Value) (st:Bk.St) (w:World) (B:Nat) (h:Hp w B (parts E P A KV ov pv st)) (hok:Bk.Ok st) (k:Nat) (hk:k≤st.opn.length) (s:List UInt8) (al be:Bool)
include h hok hk
end
section
variable (E:Nat→Option Part) (P:Nat) (A:Nat→Nat) (KV:Nat→Value) (ov pv:Value) (st:Bk.St) (w:World) (B:Nat) (h:Hp w B (parts E P A KV ov pv st)) (hok:Bk.Ok st) (k:Nat) (hk:k≤st.opn.length) (s:List UInt8) (al be:Bool)
include h hok hk
end
structure Bk.Fits (st:Bk.St):Prop where
 ok:Bk.Ok st
 texts:∀ x∈st.ns,x.text.length≤500000000000
 pls:st.places.length≤500000000
 ln:st.line≤500000000
 nodes:st.ns.length≤500000000
section
variable (E:Nat→Option Part) (P:Nat) (A:Nat→Nat) (KV:Nat→Value) (ov pv:Value) (st:Bk.St) (w:World) (B:Nat) (h:Hp w B (parts E P A KV ov pv st)) (hfit:Bk.Fits st)
 (s:List UInt8) (T:List UInt8) (hT:T.length≤100000000) (i:Nat) (FN:st.fence=some i)
 (htk:∀ w,Hp w B (parts E P A KV ov pv st)→Calls Tryz.prog 87 #[ptr P,.string (bs s)] w fun e w'=>e=.returned (.tuple #[.int .i64 (st.opn.length:Int),.string (bs T)])∧Below w.heap.size w w')
include h hfit hT FN htk
end
end Go.Proofs.YtddkjkockbcamaaGreatDoor
namespace Go.Proofs.YtddkjkockbcamaaGreatDoor
open Go.RowKit
section
variable (E:Nat→Option Part) (P B:Nat) (st:Bk.St) (k:Nat) (T:List UInt8) (G:Bk.St×List UInt8)
theorem mW {s:List UInt8}(h:Lf.quote s=none) (h2:Lf.item s=none):Bk.opener s=none:=by unfold Bk.opener;rw [h,h2]
end
end Go.Proofs.YtddkjkockbcamaaGreatDoor
namespace Go.Proofs.YtddkjkockbcamaaGreatDoor
open Go.RowKit
attribute [local go_sem] aD av aq
section
variable {w w':World}{B R:Nat}{E:Nat→Option Part}{rv lv pv:Value}{M:Mm}{x:MC}{row o:List MC}{l:Pb.Of}{ps:List Bk.Pl}
abbrev mz (w:World) (R:Nat) (a1 a2 a3 a4 a5 a6 a7 a8:Value):World:=(((((((w.setCell ⟨R,1,none⟩ a1).setCell ⟨R,2,none⟩ a2).setCell ⟨R,3,none⟩ a3).setCell ⟨R,4,none⟩ a4).setCell ⟨R,5,none⟩ a5).setCell ⟨R,6,none⟩ a6).setCell ⟨R,7,none⟩ a7).setCell ⟨R,8,none⟩ a8
theorem lF {w0:World}(hb:Below B w0 w) (hR:B≤R) (a1 a2 a3 a4 a5 a6 a7 a8:Value):Below B w0 (mz w R a1 a2 a3 a4 a5 a6 a7 a8) :=
 (((((((hb.setCell (p:=⟨R,1,none⟩) hR _).setCell (p:=⟨R,2,none⟩) hR _).setCell (p:=⟨R,3,none⟩) hR _).setCell (p:=⟨R,4,none⟩) hR _).setCell (p:=⟨R,5,none⟩) hR _).setCell (p:=⟨R,6,none⟩) hR _).setCell (p:=⟨R,7,none⟩) hR _).setCell (p:=⟨R,8,none⟩) hR _
theorem IQ {z0 z1 z2 z3 z4 z5 z6 z7 z8 z9:Value}{t:TypeId}(h:w.heap[R]? = some (.cells #[z0,z1,z2,z3,z4,z5,z6,z7,z8,z9] t (0,0))) (a1 a2 a3 a4 a5 a6 a7 a8:Value):(mz w R a1 a2 a3 a4 a5 a6 a7 a8).heap[R]? = some (.cells #[z0,a1,a2,a3,a4,a5,a6,a7,a8,z9] t (0,0)):=by
 unfold mz;have h1:(w.setCell ⟨R,1,none⟩ a1).heap[R]? = some (.cells #[z0,a1,z2,z3,z4,z5,z6,z7,z8,z9] t (0,0)):=heap_setCell_same w R 1 _ t a1 h;generalize hw1:(w.setCell ⟨R,1,none⟩ a1)=w1 at h1 ⊢;have h2:(w1.setCell ⟨R,2,none⟩ a2).heap[R]? = some (.cells #[z0,a1,a2,z3,z4,z5,z6,z7,z8,z9] t (0,0)):=heap_setCell_same w1 R 2 _ t a2 h1;generalize hw2:(w1.setCell ⟨R,2,none⟩ a2)=w2 at h2 ⊢;have h3:(w2.setCell ⟨R,3,none⟩ a3).heap[R]? = some (.cells #[z0,a1,a2,a3,z4,z5,z6,z7,z8,z9] t (0,0)):=heap_setCell_same w2 R 3 _ t a3 h2;generalize hw3:(w2.setCell ⟨R,3,none⟩ a3)=w3 at h3 ⊢;have h4:(w3.setCell ⟨R,4,none⟩ a4).heap[R]? = some (.cells #[z0,a1,a2,a3,a4,z5,z6,z7,z8,z9] t (0,0)):=heap_setCell_same w3 R 4 _ t a4 h3;generalize hw4:(w3.setCell ⟨R,4,none⟩ a4)=w4 at h4 ⊢;have h5:(w4.setCell ⟨R,5,none⟩ a5).heap[R]? = some (.cells #[z0,a1,a2,a3,a4,a5,z6,z7,z8,z9] t (0,0)):=heap_setCell_same w4 R 5 _ t a5 h4;generalize Qj:(w4.setCell ⟨R,5,none⟩ a5)=w5 at h5 ⊢;have h6:(w5.setCell ⟨R,6,none⟩ a6).heap[R]? = some (.cells #[z0,a1,a2,a3,a4,a5,a6,z7,z8,z9] t (0,0)):=heap_setCell_same w5 R 6 _ t a6 h5;generalize WD:(w5.setCell ⟨R,6,none⟩ a6)=w6 at h6 ⊢;have h7:(w6.setCell ⟨R,7,none⟩ a7).heap[R]? = some (.cells #[z0,a1,a2,a3,a4,a5,a6,a7,z8,z9] t (0,0)):=heap_setCell_same w6 R 7 _ t a7 h6;generalize hw7:(w6.setCell ⟨R,7,none⟩ a7)=w7 at h7 ⊢;have h8:(w7.setCell ⟨R,8,none⟩ a8).heap[R]? = some (.cells #[z0,a1,a2,a3,a4,a5,a6,a7,a8,z9] t (0,0)):=heap_setCell_same w7 R 8 _ t a8 h7;exact h8
theorem pM (a1 a2 a3 a4 a5 a6 a7 a8:Value):w.grownBy (mz w R a1 a2 a3 a4 a5 a6 a7 a8) (some R) :=
 (((((((ax w ⟨R,1,none⟩ a1).trans (ax _ ⟨R,2,none⟩ a2)).trans (ax _ ⟨R,3,none⟩ a3)).trans (ax _ ⟨R,4,none⟩ a4)).trans (ax _ ⟨R,5,none⟩ a5)).trans (ax _ ⟨R,6,none⟩ a6)).trans (ax _ ⟨R,7,none⟩ a7)).trans (ax _ ⟨R,8,none⟩ a8)
theorem vZ (h:cC w B E R rv lv pv M row l ps) (l':Pb.Of) {lv':Value}(hl:l'.lines=[]) (hlv:lv'=.slice none 0 0) :
  cC (mz w R (.int .i64 (l'.kind:Int)) (.int .i64 (l'.line:Int)) lv' (.int .u8 (l'.op.c.toNat:Int)) (.int .i64 (l'.op.n:Int)) (.int .i64 (l'.op.ind:Int)) (.string (bs l'.op.info)) (.bool l'.ended)) B E R rv lv' pv M row l' ps:=by
 obtain ⟨hR1,_,WN⟩:=h.hp.base (k:=.rd) rfl;have m8:=h.hp.uo (k:=.rd) (.blk R ⟨qL rv lv' pv l'⟩ 73) rfl (pM (.int .i64 (l'.kind:Int)) (.int .i64 (l'.line:Int)) lv' (.int .u8 (l'.op.c.toNat:Int)) (.int .i64 (l'.op.n:Int)) (.int .i64 (l'.op.ind:Int)) (.string (bs l'.op.info)) (.bool l'.ended)) ⟨hR1,IQ WN _ _ _ _ _ _ _ _⟩ (fun _ e=>.inl e);refine ⟨m8.turn id (fun _ _ _ _ _ _ e=>e) (fun k a hk=>?_),h.good,h.old⟩;cases k with
 | rd=>exact ⟨a,hk,m8.holds .rd a hk,fun _ e=>e⟩
 | row=>exact ⟨a,hk,m8.holds .row a hk,fun _ e=>e⟩
 | kid i=>exact ⟨a,hk,m8.holds (.kid i) a hk,fun _ e=>e⟩
 | itm i=>exact ⟨a,hk,m8.holds (.itm i) a hk,fun _ e=>e⟩
 | pls=>exact ⟨a,hk,m8.holds .pls a hk,fun _ e=>e⟩
 | old i=>exact ⟨a,hk,m8.holds (.old i) a hk,fun _ e=>e⟩
 | ext i=>exact ⟨a,hk,m8.holds (.ext i) a hk,fun _ e=>e⟩
 | lns =>
  refine ⟨_,rfl,?_,?_⟩
  ·have:(Part.row 9 1 lv' l'.lines.length (aZ l'.lines))=a:=Option.some.inj hk
   subst this;rw [hl,hlv];exact World.ownsRow_nil _ _ _ _
  ·intro g hg
   have:(Part.row 9 1 lv' l'.lines.length (aZ l'.lines))=a:=Option.some.inj hk;subst this;rw [hlv] at hg;cases hg
end
abbrev gE (lv:Value) (l:Pb.Of):Array Value:=#[.int .i64 (l.kind:Int),.int .i64 (l.line:Int),lv,.int .u8 (l.op.c.toNat:Int),.int .i64 (l.op.n:Int),.int .i64 (l.op.ind:Int),.string (bs l.op.info),.bool l.ended]
theorem Mv (w:World) (B:Nat) (E:Nat→Option Part) (R:Nat) (rv lv pv:Value) (M:Mm) (row:List MC) (l:Pb.Of) (ps:List Bk.Pl) (h:cC w B E R rv lv pv M row l ps) (h4:l.kind≠4) (h7:l.kind≠7) :
  Calls Tryz.prog 83 #[BD R] w fun e w'=>e=.returned (.tuple #[])∧cC w' B E R rv (.slice none 0 0) pv M row Pb.bH ps∧Below B w w':=by
 obtain ⟨hR1,hR2,hfr,c0,c1,c2,c3,c4,c5,c6,c7,c8,c9⟩:=aI h;have hlo:=h.hp.own (k:=.lns) rfl;obtain ⟨lA,lc,hlv,hlc⟩:=ak hlo;rw [hlv] at c3;have t4:((l.kind:Int)==4)=false:=by rw [beq_eq_false_iff_ne];omega
 have t7:((l.kind:Int)==7)=false:=by rw [beq_eq_false_iff_ne];omega
 have FU:=vZ h Pb.bH (lv':=.slice none 0 0) rfl rfl;have hB0:=lF (Below.refl B w) hR1 (.int .i64 (Pb.bH.kind:Int)) (.int .i64 (Pb.bH.line:Int)) (.slice none 0 0) (.int .u8 (Pb.bH.op.c.toNat:Int)) (.int .i64 (Pb.bH.op.n:Int)) (.int .i64 (Pb.bH.op.ind:Int)) (.string (bs Pb.bH.op.info)) (.bool Pb.bH.ended);have hA:=fun (o:Obj)=>cC.mk (FU.hp.ext (aa _ o)) FU.good FU.old;have hB:=fun (o:Obj)=>hB0.trans ((aa _ o).mono (by have:=hB0.size;omega));clear FU hB0;replace hA:=Lib.hid hA;replace hB:=Lib.hid hB;replace h:=Lib.hid h;replace hlv:=Lib.hid hlv;clear hlo c0 c9;go_enter Tryz.func83,Tryz.ntmps83;go_wp2_with fail;go_returns;exact ⟨rfl,hA.out _,hB.out _⟩
section
variable {w:World}{B R:Nat}{E:Nat→Option Part}{rv lv pv:Value}{M:Mm}{row:List MC}{l:Pb.Of}{ps:List Bk.Pl}
theorem Cz (h:cC w B E R rv lv pv M row l ps):∃ wq lA lc,lv=.slice lA l.lines.length lc∧l.lines.length≤lc ∧
  (mz w R (.int .i64 0) (.int .i64 0) (.slice none 0 0) (.int .u8 0) (.int .i64 0) (.int .i64 0) (.string ⟨#[]⟩) (.bool false)).alloc (.cells (gE lv l) 70)=wq ∧
  cC wq B (ec (.blk w.heap.size (gE lv l) 70) E) R rv (.slice none 0 0) pv M row Pb.bH ps∧Below B w wq∧wq.heap.size=w.heap.size+1∧Row wq wq.heap.size 1 lA l.lines.length (aZ l.lines) ∧
  wq.heap[w.heap.size]? = some (.cells (gE lv l) 70 (0,0)):=by
 obtain ⟨hR1,hR2,_⟩:=aI h;have hlo:=h.hp.own (k:=.lns) rfl;obtain ⟨lA,lc,hlv,hlc⟩:=ak hlo;have FU:=vZ h Pb.bH (lv':=.slice none 0 0) rfl rfl;have hB0:=lF (Below.refl B w) hR1 (.int .i64 0) (.int .i64 0) (.slice none 0 0) (.int .u8 0) (.int .i64 0) (.int .i64 0) (.string ⟨#[]⟩) (.bool false);have hz:(mz w R (.int .i64 0) (.int .i64 0) (.slice none 0 0) (.int .u8 0) (.int .i64 0) (.int .i64 0) (.string ⟨#[]⟩) (.bool false)).heap.size=w.heap.size:=by simp [mz,World.setCell]
 have hk:=hlo.kept (pM (.int .i64 0) (.int .i64 0) (.slice none 0 0) (.int .u8 0) (.int .i64 0) (.int .i64 0) (.string ⟨#[]⟩) (.bool false)) (by
  cases hv:lv.ownBlock with
  | none=>exact .inl rfl
  | some g=>exact .inr fun e=>by have:=h.hp.apart .lns .rd _ _ R rfl rfl (by rw [← e];exact hv) rfl;cases this)
 refine ⟨_,lA,lc,hlv,hlc,rfl,?_,hB0.alloc (by rw [hz];omega) _,by simp [hz],?_,?_⟩
 ·have:=FU.iG (aa _ (.cells (gE lv l) 70)) (a:=.blk w.heap.size (gE lv l) 70) ⟨by omega,by
   have:=heap_alloc_new (mz w R (.int .i64 0) (.int .i64 0) (.slice none 0 0) (.int .u8 0) (.int .i64 0) (.int .i64 0) (.string ⟨#[]⟩) (.bool false)) (.cells (gE lv l) 70);rw [hz] at this;exact this⟩ (fun g hg=>by cases hg;exact Nat.le_of_eq hz)
  exact this
 ·rw [hlv] at hk
  exact (Row.own hk).ext (aa _ _)
 ·have:=heap_alloc_new (mz w R (.int .i64 0) (.int .i64 0) (.slice none 0 0) (.int .u8 0) (.int .i64 0) (.int .i64 0) (.string ⟨#[]⟩) (.bool false)) (.cells (gE lv l) 70)
  rw [hz] at this;exact this
end
def G8 (b:Nat) (lv:Value) (l:Pb.Of) (u:World):Prop:=u.cell? ⟨b,1,none⟩=some (.int .i64 (l.line:Int))∧u.cell? ⟨b,2,none⟩=some lv∧u.cell? ⟨b,6,none⟩=some (.string (bs l.op.info))
theorem G8.of {b:Nat}{lv:Value}{l:Pb.Of}{u:World}{t:TypeId}(h:u.heap[b]? = some (.cells (gE lv l) t (0,0))):G8 b lv l u:=⟨cell_of h rfl,cell_of h rfl,cell_of h rfl⟩
theorem G8.ext {b:Nat}{lv:Value}{l:Pb.Of}{u u':World}(h:G8 b lv l u) (hb:Below u.heap.size u u') (hl:b<u.heap.size):G8 b lv l u' :=
 ⟨(hb.cell (p:=⟨b,1,none⟩) hl).trans h.1,(hb.cell (p:=⟨b,2,none⟩) hl).trans h.2.1,(hb.cell (p:=⟨b,6,none⟩) hl).trans h.2.2⟩
theorem Iy (M:Mm) (kd:Nat) (t inf:List UInt8) (ln:Nat):TM M (.mk kd 0 t inf ln []) [.int .i64 (kd:Int),.int .i64 0,.string (bs t),.string (bs inf),.int .i64 (ln:Int),.slice none 0 0]:=by
 unfold TM;exact ⟨none,0,[],rfl,Nat.le_refl _,⟨rfl,fun h=>by cases h⟩,nY⟩
theorem OE (w:World) (B:Nat) (E:Nat→Option Part) (R:Nat) (rv lv pv:Value) (M:Mm) (x:MC) (o:List MC) (l:Pb.Of) (ps:List Bk.Pl) (h:cC w B E R rv lv pv M (x::o) l ps) (h4:l.kind=4) (hlen:o.length≤1000) (cO:x.c.all.length≤1000000000) (hN:l.lines.length≤1000000000) (hJ:(Pb.fZ l.lines).length≤1000000000000) :
  Calls Tryz.prog 83 #[BD R] w fun e w'=>e=.returned (.tuple #[])∧(∃ M' x',x'.c=x.c.add (Pb.ql l)∧cC w' B E R rv (.slice none 0 0) pv M' (x'::o) Pb.bH ps)∧Below B w w':=by
 obtain ⟨kd,ln,ls,op,en⟩:=l;cases (show kd=4 from h4);clear h4;simp only at hN hJ;obtain ⟨hR1,hR2,hfr,c0,c1,c2,c3,c4,c5,c6,c7,c8,c9⟩:=aI h;obtain ⟨wq,lA,lc,hlv,hlc,LK,hA,hB,hz,hrow,hlb⟩:=Cz h;obtain ⟨E',fO⟩:∃ E',ec (.blk w.heap.size (gE lv ⟨4,ln,ls,op,en⟩) 70) E=E':=⟨_,rfl⟩
 rw [fO] at hA;have oW:=dV hA;obtain ⟨g,c,iE,_⟩:=oW;have hla:=fun wz h=>eK wz B E' R rv (.slice none 0 0) pv M x o Pb.bH ps h g c iE hlen;have hadd:=fun wz h cs ht=>mT wz B E' R rv (.slice none 0 0) pv M x o Pb.bH ps h g c iE (Pb.ql ⟨4,ln,ls,op,en⟩) cs ht hlen cO;have hjn:=fun wz h=>Kg ls lA lc wz h hlc hN hJ;have B6:=Iy M 4 (Pb.fZ ls) [] ln;obtain ⟨n,hn⟩:∃ n,ls.length=n:=⟨_,rfl⟩
 obtain ⟨J,Si⟩:∃ J,Pb.fZ ls=J:=⟨_,rfl⟩
 simp only at hlv hlc hrow;rw [hlv] at LK fO hlb c3;rw [hn] at LK hlb hlc c3 hrow hjn fO;rw [Si] at hjn B6;rw [show Pb.ql ⟨4,ln,ls,op,en⟩=.mk 4 0 J [] ln [] from by rw [← Si];rfl] at hadd ⊢;obtain ⟨P,hP⟩:∃ P,o.length*9=P:=⟨_,rfl⟩
 rw [hP] at hla hadd;have hS:=G8.of hlb;replace h:=Lib.hid h;replace hA:=Lib.hid hA;replace fO:=Lib.hid fO;replace hlb:=Lib.hid hlb;replace hla:=Lib.hid hla;replace hadd:=Lib.hid hadd;replace hjn:=Lib.hid hjn;replace B6:=Lib.hid B6;replace hrow:=Lib.hid hrow;replace hn:=Lib.hid hn;replace Si:=Lib.hid Si;replace hlv:=Lib.hid hlv;replace LK:=Lib.hid LK;clear c0 c9 hJ hN;go_enter Tryz.func83,Tryz.ntmps83;go_wp2_with fail;change Code.wp _ _ _ _ (World.alloc (mz w R (.int .i64 0) (.int .i64 0) (.slice none 0 0) (.int .u8 0) (.int .i64 0) (.int .i64 0) (.string ⟨#[]⟩) (.bool false)) (.cells (gE (.slice lA n lc) ⟨4,ln,ls,op,en⟩) 70));rw [LK.out];refine eT [(true,0),(true,2),(true,3),(true,5),(true,6),(false,1),(false,4),(true,7),(false,8)] (G8 w.heap.size (.slice lA n lc) ⟨4,ln,ls,op,en⟩) hS (by kernel_rfl) (by kernel_rfl) (by kernel_rfl) (fun _ _ d _ _ h=>by cases d<;>exact h) ?_;have OY:=Lib.hid (cC.mk (hA.out.hp.ext (bq wq)) hA.out.good hA.out.old);have hdr:=Lib.hid (hrow.out.dr);have Xw:=hB.drew;have hdz:wq.drew.heap.size=w.heap.size+1:=hz;have Qs:G8 w.heap.size (.slice lA n lc) ⟨4,ln,ls,op,en⟩ wq.drew:=hS;generalize wq.drew=wr at OY hdr Xw hdz Qs ⊢;clear hS hz hB;have hAf:=LK.out;clear hAf
 repeat (first | refine cU rfl ?_ | (refine aV rfl ?_;intro K hK;go_simp;refine hK _ _ _ ?_;clear hK K))
 refine fm (.slice lA n lc) rfl rfl Qs (fun u hu=>by obtain ⟨u1,u2,u3⟩:=hu;go_simp) ?_
 repeat (first | refine cU rfl ?_ | (refine aV rfl ?_;intro K hK;go_simp;refine hK _ _ _ ?_;clear hK K))
 refine fm (.int .i64 (ln:Int)) rfl rfl Qs (fun u hu=>by obtain ⟨u1,u2,u3⟩:=hu;go_simp) ?_;refine aV rfl ?_;intro K hK;go_simp;refine (hla.out _ OY.out).mono ?_;rintro e w1 ⟨rfl,hb1⟩;have hS1:=Qs.ext hb1 (by omega);refine aQ hS1 (hK _ _ _ ?_);clear hK K;refine aV rfl ?_;intro K hK;go_simp;refine (hjn.out _ (hdr.out.ext hb1)).mono ?_;rintro e w2 ⟨rfl,hb2⟩;have ie:=hS1.ext hb2 (by have:=hb1.size;omega);refine aQ ie (hK _ _ _ ?_);clear hK K;have xV:=ag hb1 hb2;have Iq:=cC.mk (OY.out.hp.ext xV) OY.out.good OY.out.old
 repeat (first | refine cU rfl ?_ | (refine aV rfl ?_;intro K hK;go_simp;refine hK _ _ _ ?_;clear hK K))
 refine aV rfl ?_;intro K hK;go_simp;refine (hadd.out _ Iq _ B6.out).mono ?_;rintro e w3 ⟨rfl,⟨M',x',hx',fM⟩,hb3⟩;have eV:G8 w.heap.size (.slice lA n lc) ⟨4,ln,ls,op,en⟩ w3:=G8.of (fM.hp.base (k:=.ext 0) (show E' 0=some (.blk w.heap.size (gE (.slice lA n lc) ⟨4,ln,ls,op,en⟩) 70) from by rw [← fO.out];rfl)).2.2;have Qx:=Lib.hid ((Xw.trans (xV.mono (by omega))).trans hb3);replace fM:=Lib.hid (by rw [← fO.out] at fM;exact fM.eY:cC w3 B E R rv (.slice none 0 0) pv M' (x'::o) Pb.bH ps);refine aQ eV (hK _ _ _ ?_);clear hK K;refine kK ?_;go_wp2_with fail;go_returns;exact ⟨rfl,⟨M',x',hx',fM.out⟩,Qx.out⟩
def mQ (p:Bk.Pl):Array Value:=#[.int .i64 (p.line:Int),.int .u8 (p.op.c.toNat:Int),.int .i64 (p.op.n:Int),.int .i64 (p.op.ind:Int),.string (bs p.op.info),.int .i64 (p.first:Int),.int .i64 (p.last:Int),.bool p.closed]
theorem Hf (lA:Option Addr) (lc ln n:Nat) (fc:UInt8) (fn fi:Nat) (fs:List UInt8) (en:Bool) (kd:Int) (w:World) (hl:ln≤1000000000) (hn:n≤1000000000) :
  Calls Tryz.prog 129 #[.agg #[.int .i64 kd,.int .i64 (ln:Int),.slice lA n lc,.int .u8 (fc.toNat:Int),.int .i64 (fn:Int),.int .i64 (fi:Int),.string (bs fs),.bool en]] w fun e w' =>
   e=.returned (.agg (mQ ⟨ln,⟨fc,fn,fi,fs⟩,ln+1,ln+1+n,en⟩))∧Below w.heap.size w w':=by
 have e1:IntKind.i64.wrap ((ln:Int)+1)=(ln:Int)+1:=by unfold IntKind.wrap;simp [IntKind.bits,IntKind.signed];omega
 go_enter Tryz.func129,Tryz.ntmps129;go_wp2_with fail;have hcast:mQ ⟨ln,⟨fc,fn,fi,fs⟩,ln+1,ln+1+n,en⟩=#[.int .i64 (ln:Int),.int .u8 (fc.toNat:Int),.int .i64 (fn:Int),.int .i64 (fi:Int),.string (bs fs),.int .i64 ((ln:Int)+1),.int .i64 ((ln:Int)+1+(n:Int)),.bool en]:=by
  unfold mQ;simp
 rw [hcast];exact bodyPost_ret (v:=.agg #[.int .i64 (ln:Int),.int .u8 (fc.toNat:Int),.int .i64 (fn:Int),.int .i64 (fi:Int),.string (bs fs),.int .i64 ((ln:Int)+1),.int .i64 ((ln:Int)+1+(n:Int)),.bool en]) (by rw [jX rfl];go_simp) rfl ⟨rfl,(aa w _).alloc (by simp) _⟩
theorem MX:EI Tryz.prog 71 185 8 72:=EI.mk' (z:=.agg #[.int .i64 0,.int .u8 0,.int .i64 0,.int .i64 0,.string ⟨#[]⟩,.int .i64 0,.int .i64 0,.bool false]) Tryz.underlying71 (by kernel_rfl) rfl (by omega)
def JS (R lb:Nat) (pv lv:Value) (l:Pb.Of) (u:World):Prop:=u.cell? ⟨R,9,none⟩=some pv∧u.heap[lb]? = some (.cells (gE lv l) 70 (0,0))
section
variable {w w':World}{B R:Nat}{E:Nat→Option Part}{rv lv pv:Value}{M:Mm}{row:List MC}{l:Pb.Of}{ps:List Bk.Pl}
theorem C7 (h:cC w B E R rv lv pv M row l ps) (p:Bk.Pl) {w3:World}{v:Value}(hown:w3.ownsRow B 185 8 v (ps.length+1) (fU ps++(mQ p).toList)) (hg:w.grownBy w3 pv.ownBlock) (hat:At w.heap.size pv v) :
  B≤R∧R<w3.heap.size∧w3.cell? ⟨R,9,none⟩=some pv∧(∀ j,w3.frozen? ⟨R,j,none⟩=false)∧cC (w3.setCell ⟨R,9,none⟩ v) B E R rv lv v M row l (ps++[p]):=by
 have H1:=h.hp.uo (k:=.pls) (.row 185 8 v (ps.length+1) (fU ps++(mQ p).toList)) rfl hg hown hat;obtain ⟨TS,N6,Ty⟩:=H1.base (k:=.rd) rfl;have m3:=H1.AB (k:=.rd) 9 v rfl;refine ⟨TS,N6,cell_of Ty rfl,aW Ty,m3.same fun j=>?_,h.good,h.old⟩;cases j with
 | pls =>
  show some (Part.row _ 8 v (ps++[p]).length (fU (ps++[p])))=_;rw [List.length_append,ud];rfl
 | rd=>rfl
 | _=>rfl
end
theorem JN (w:World) (B:Nat) (E:Nat→Option Part) (R:Nat) (rv lv pv:Value) (M:Mm) (x:MC) (o:List MC) (l:Pb.Of) (ps:List Bk.Pl) (h:cC w B E R rv lv pv M (x::o) l ps) (h4:l.kind=7) (hlen:o.length≤1000) (cO:x.c.all.length≤1000000000) (hN:l.lines.length≤1000000000) (hJ:(Ln.join l.lines [10]).length≤1000000000000)
  (AG:l.line≤1000000000) (hps:ps.length≤1000000000) (PL:List Bk.Pl) (Yp:PL=if o.length=0 then ps++[l.place] else ps) :
  Calls Tryz.prog 83 #[BD R] w fun e w'=>e=.returned (.tuple #[])∧(∃ pv' M' x',x'.c=x.c.add (Pb.kF l)∧cC w' B E R rv (.slice none 0 0) pv' M' (x'::o) Pb.bH PL)∧Below B w w':=by
 obtain ⟨kd,ln,ls,op,en⟩:=l;cases (show kd=7 from h4);clear h4;simp only at hN hJ AG;obtain ⟨hR1,hR2,hfr,c0,c1,c2,c3,c4,c5,c6,c7,c8,c9⟩:=aI h;obtain ⟨wq,lA,lc,hlv,hlc,LK,hA,hB,hz,hrow,hlb⟩:=Cz h;obtain ⟨E',fO⟩:∃ E',ec (.blk w.heap.size (gE lv ⟨7,ln,ls,op,en⟩) 70) E=E':=⟨_,rfl⟩
 rw [fO] at hA;have oW:=dV hA;obtain ⟨g,c,iE,_⟩:=oW;have hla:=fun wz h=>eK wz B E' R rv (.slice none 0 0) pv M x o Pb.bH ps h g c iE hlen;have hadd:=fun wz h cs ht=>mT wz B E' R rv (.slice none 0 0) pv M x o Pb.bH ps h g c iE (Pb.kF ⟨7,ln,ls,op,en⟩) cs ht hlen cO;have hjn:=fun wz h=>Pe ls [10] lA lc wz h (by omega) hJ;have B6:=Iy M 7 (Ln.join ls [10]) op.info ln;obtain ⟨n,hn⟩:∃ n,ls.length=n:=⟨_,rfl⟩
 obtain ⟨J,Si⟩:∃ J,Ln.join ls [10]=J:=⟨_,rfl⟩
 simp only at hlv hlc hrow;have hpl:=fun wz=>Hf lA lc ln n op.c op.n op.ind op.info en 7 wz AG (by omega);rw [show (Pb.Of.place ⟨7,ln,ls,op,en⟩:Bk.Pl)=⟨ln,op,ln+1,ln+1+n,en⟩ from by rw [← hn];rfl] at Yp;rw [hlv] at LK fO hlb c3;rw [hn] at LK hlb hlc c3 hrow hjn fO hN;rw [Si] at hjn B6 hJ;rw [show Pb.kF ⟨7,ln,ls,op,en⟩=.mk 7 0 J op.info ln [] from by rw [← Si];rfl] at hadd ⊢;obtain ⟨P,hP⟩:∃ P,o.length*9=P:=⟨_,rfl⟩
 rw [hP] at hla hadd;have hS:=G8.of hlb;replace h:=Lib.hid h;replace hA:=Lib.hid hA;replace fO:=Lib.hid fO;replace hlb:=Lib.hid hlb;replace hla:=Lib.hid hla;replace hadd:=Lib.hid hadd;replace hjn:=Lib.hid hjn;replace hpl:=Lib.hid hpl;replace B6:=Lib.hid B6;replace hrow:=Lib.hid hrow;replace hn:=Lib.hid hn;replace Si:=Lib.hid Si;replace hlv:=Lib.hid hlv;replace LK:=Lib.hid LK;clear c0 c9;go_enter Tryz.func83,Tryz.ntmps83;go_wp2_with fail;change Code.wp _ _ _ _ (World.alloc (mz w R (.int .i64 0) (.int .i64 0) (.slice none 0 0) (.int .u8 0) (.int .i64 0) (.int .i64 0) (.string ⟨#[]⟩) (.bool false)) (.cells (gE (.slice lA n lc) ⟨7,ln,ls,op,en⟩) 70));rw [LK.out];refine eT [(true,0),(true,2),(true,3),(true,6),(true,7),(true,8),(true,9),(true,10),(false,1),(false,4),(false,5),(true,11),(false,12)] (G8 w.heap.size (.slice lA n lc) ⟨7,ln,ls,op,en⟩) hS (by kernel_rfl) (by kernel_rfl) (by kernel_rfl) (fun _ _ d _ _ h=>by cases d<;>exact h) ?_;have OY:=Lib.hid (cC.mk (hA.out.hp.ext (bq wq)) hA.out.good hA.out.old);have hdr:=Lib.hid (hrow.out.dr);have Xw:=hB.drew;have hdz:wq.drew.heap.size=w.heap.size+1:=hz;have Qs:G8 w.heap.size (.slice lA n lc) ⟨7,ln,ls,op,en⟩ wq.drew:=hS;generalize wq.drew=wr at OY hdr Xw hdz Qs ⊢;clear hS hz hB
 repeat (first | refine cU rfl ?_ | (refine aV rfl ?_;intro K hK;go_simp;refine hK _ _ _ ?_;clear hK K))
 refine fm (.slice lA n lc) rfl rfl Qs (fun u hu=>by obtain ⟨u1,u2,u3⟩:=hu;go_simp) ?_
 repeat (first | refine cU rfl ?_ | (refine aV rfl ?_;intro K hK;go_simp;refine hK _ _ _ ?_;clear hK K))
 refine fm (.string (bs op.info)) rfl rfl Qs (fun u hu=>by obtain ⟨u1,u2,u3⟩:=hu;go_simp) ?_
 repeat (first | refine cU rfl ?_ | (refine aV rfl ?_;intro K hK;go_simp;refine hK _ _ _ ?_;clear hK K))
 refine fm (.int .i64 (ln:Int)) rfl rfl Qs (fun u hu=>by obtain ⟨u1,u2,u3⟩:=hu;go_simp) ?_;refine aV rfl ?_;intro K hK;go_simp;refine (hla.out _ OY.out).mono ?_;rintro e w1 ⟨rfl,hb1⟩;have hS1:=Qs.ext hb1 (by omega);refine aQ hS1 (hK _ _ _ ?_);clear hK K;refine aV rfl ?_;intro K hK;go_simp;refine (hjn.out _ (hdr.out.ext hb1)).mono ?_;rintro e w2 ⟨v2,rfl,hown2,hb2⟩;have ie:=hS1.ext hb2 (by have:=hb1.size;omega);obtain ⟨A2,c2',rfl,_⟩:=ak hown2;have hcv:=kO (c:=c2') (Row.own hown2) 27 5 9 Tryz.underlying27 Tryz.underlying5 Tryz.underlying9;refine aQ ie (hK _ _ _ ?_);clear hK K;have xV:=ag hb1 hb2;have Iq:=cC.mk (OY.out.hp.ext xV) OY.out.good OY.out.old;replace hown2:=Lib.hid hown2;replace Iq:=Lib.hid Iq;refine aV rfl ?_;intro K hK;go_simp;refine aQ ie (hK _ _ _ ?_);clear hK K
 repeat (first | refine cU rfl ?_ | (refine aV rfl ?_;intro K hK;go_simp;refine hK _ _ _ ?_;clear hK K))
 refine aV rfl ?_;intro K hK;go_simp;refine (hadd.out _ Iq.out _ B6.out).mono ?_;rintro e w3 ⟨rfl,⟨M',x',hx',fM⟩,hb3⟩;have O8:=(fM.hp.base (k:=.ext 0) (show E' 0=some (.blk w.heap.size (gE (.slice lA n lc) ⟨7,ln,ls,op,en⟩) 70) from by rw [← fO.out];rfl)).2.2;have eV:G8 w.heap.size (.slice lA n lc) ⟨7,ln,ls,op,en⟩ w3:=G8.of O8;have Qx:=Lib.hid ((Xw.trans (xV.mono (by omega))).trans hb3);have Zv:=aI fM;have IW:=fM.hp.own (k:=.pls) rfl;obtain ⟨pA,pc,BR,_⟩:=ak IW;obtain ⟨nn,hnn⟩:∃ nn,o.length=nn:=⟨_,rfl⟩
 obtain ⟨nN,LM,hfr3,d0,_,_,_,_,_,_,_,_,d9⟩:=Zv;rw [iE,hnn] at d0;replace fM:=Lib.hid fM;replace IW:=Lib.hid IW;replace O8:=Lib.hid O8;refine aQ eV (hK _ _ _ ?_);clear hK K;refine kK ?_
 by_cases h0:nn=0
 ·subst h0
  rw [if_pos hnn] at Yp;rw [BR] at d9;have hPS:∀ u:World,u.heap.size=w3.heap.size→u.heap=w3.heap→JS R w.heap.size (.slice pA ps.length pc) (.slice lA n lc) ⟨7,ln,ls,op,en⟩ u:=fun u _ hu=>⟨by
   have:u.cell? ⟨R,9,none⟩=w3.cell? ⟨R,9,none⟩:=World.cell?_of_block (by rw [hu]);rw [this];exact d9,by rw [hu];exact O8.out⟩
  go_wp2_with fail;have JY:JS R w.heap.size (.slice pA ps.length pc) (.slice lA n lc) ⟨7,ln,ls,op,en⟩ w3.drew:=hPS _ rfl rfl;refine cV 11 [(true,0),(true,1),(true,2),(true,3),(true,4),(true,5),(false,6),(false,7),(false,8),(false,9),(false,10)] 0 .fin (JS R w.heap.size (.slice pA ps.length pc) (.slice lA n lc) ⟨7,ln,ls,op,en⟩) JY (by kernel_rfl) (by kernel_rfl) (by kernel_rfl) (fun _ _ d _ _ h=>by cases d<;>exact h) ?_;have iI:=Lib.hid (cC.mk (fM.out.hp.ext (bq w3)) fM.out.good fM.out.old);have tr:=Lib.hid Qx.out.drew;obtain ⟨np,hnp⟩:∃ np,ps.length=np:=⟨_,rfl⟩
  rw [hnp] at JY BR hps ⊢;obtain ⟨_,hw4,_⟩:=aI iI.out;have R7:=Part.lt (iI.out.hp.holds (.ext 0) _ (show E' 0=some (.blk w.heap.size (gE (.slice lA n lc) ⟨7,ln,ls,op,en⟩) 70) from by rw [← fO.out];rfl)) (g:=w.heap.size) rfl;generalize w3.drew=w4 at iI tr JY hw4 R7 ⊢;clear O8 hPS IW eV hfr3 d0 d9 LM
  repeat (first | refine bL rfl ?_ | (refine aA rfl ?_;intro K hK;go_simp;refine hK _ _ _ ?_;clear hK K))
  refine bX (.slice pA np pc) rfl rfl JY (fun u hu=>by obtain ⟨u1,u2⟩:=hu;go_simp) ?_;refine bX (.agg (gE (.slice lA n lc) ⟨7,ln,ls,op,en⟩)) rfl rfl JY (fun u hu=>by
   obtain ⟨u1,u2⟩:=hu;have y0:=cell_of u2 (j:=0) rfl;have y1:=cell_of u2 (j:=1) rfl;have y2:=cell_of u2 (j:=2) rfl;have y3:=cell_of u2 (j:=3) rfl;have y4:=cell_of u2 (j:=4) rfl;have y5:=cell_of u2 (j:=5) rfl;have y6:=cell_of u2 (j:=6) rfl;have y7:=cell_of u2 (j:=7) rfl;clear u2;go_simp) ?_
  refine aA rfl ?_;intro K hK;go_simp;refine (hpl.out _).mono ?_;rintro e w5 ⟨rfl,hb5⟩;have hS5:JS R w.heap.size (.slice pA np pc) (.slice lA n lc) ⟨7,ln,ls,op,en⟩ w5:=⟨(hb5.cell (p:=⟨R,9,none⟩) hw4).trans JY.1,(hb5.block _ R7.2).trans JY.2⟩
  have ZW:=hb5.size;refine aQ hS5 (hK _ _ _ ?_);clear hK K;have CR:=Lib.hid (cC.mk (iI.out.hp.ext hb5) iI.out.good iI.out.old);have ES:=Lib.hid (tr.out.trans (hb5.mono (by have:=tr.out.size;omega)));obtain ⟨Z,hZ⟩:∃ Z:Array Value,mQ ⟨ln,op,ln+1,ln+1+n,en⟩=Z:=⟨_,rfl⟩
  have hZ8:Z.size=1*8:=by rw [← hZ];rfl
  have Ua:∀ u∈Z.toList,u.oneCell'=true:=by rw [← hZ];unfold mQ;intro u hu;simp at hu;rcases hu with rfl | rfl | rfl | rfl | rfl | rfl | rfl | rfl<;>rfl
  rw [show mQ ⟨ln,⟨op.c,op.n,op.ind,op.info⟩,ln+1,ln+1+n,en⟩=#[.int .i64 (ln:Int),.int .u8 (op.c.toNat:Int),.int .i64 (op.n:Int),.int .i64 (op.ind:Int),.string (bs op.info),.int .i64 ((ln+1:Nat):Int),.int .i64 ((ln+1+n:Nat):Int),.bool en] from rfl];refine aA rfl ?_;intro K hK;obtain ⟨q1,TS⟩:∃ q1:Int,((ln+1:Nat):Int)=q1:=⟨_,rfl⟩
  obtain ⟨q2,N6⟩:∃ q2:Int,((ln+1+n:Nat):Int)=q2:=⟨_,rfl⟩
  rw [TS,N6];go_simp;rw [show #[Value.int .i64 (ln:Int),.int .u8 (op.c.toNat:Int),.int .i64 (op.n:Int),.int .i64 (op.ind:Int),.string (bs op.info),.int .i64 q1,.int .i64 q2,.bool en]=Z from by rw [← hZ,← TS,← N6];rfl];have FP:JS R w.heap.size (.slice pA np pc) (.slice lA n lc) ⟨7,ln,ls,op,en⟩ (w5.alloc (.cells Z 185)):=⟨((aa w5 _).cell (p:=⟨R,9,none⟩) (by show R<w5.heap.size;omega)).trans hS5.1,((aa w5 _).block _ (by omega)).trans hS5.2⟩
  refine aQ FP (hK _ _ _ ?_);clear hK K;have Yd:=CR.out.hp.own (k:=.pls) rfl;rw [BR,hnp] at Yd;have RG:some R≠(Value.slice pA np pc).ownBlock:=fun e=>by
   have:=CR.out.hp.apart .rd .pls _ _ R rfl rfl rfl (by rw [BR];exact e.symm);cases this
  have hlo:some w.heap.size≠(Value.slice pA np pc).ownBlock:=fun e=>by
   have:=CR.out.hp.apart (.ext 0) .pls _ _ w.heap.size (show E' 0=some (.blk w.heap.size (gE (.slice lA n lc) ⟨7,ln,ls,op,en⟩) 70) from by rw [← fO.out];rfl) rfl rfl (by rw [BR];exact e.symm);cases this
  have hr5:=Row.jV w5 185 Z hZ8 rfl;have Yj:B≤w5.heap.size:=by have:=ES.out.size;omega
  refine aA rfl ?_;intro K hK;unfold aD;rw [if_pos (by rfl),if_neg (by simp)];refine dX (v:=.slice pA np pc) (.tmp 49) (.tmp 52) rfl MX rfl (Yd.alloc _) rfl hr5 Ua (by omega) (by omega) (by simp;omega) ?_;intro v7 w7 jR qi dI mB;obtain ⟨vA7,vc7,rfl,Vq⟩:=ak jR;have Ac:JS R w.heap.size (.slice pA np pc) (.slice lA n lc) ⟨7,ln,ls,op,en⟩ w7:=⟨qi.out.cell FP.1 RG,(qi.out.block _ (by simp;omega) hlo).trans FP.2⟩
  have yY:=cC.mk (CR.out.hp.ext (aa w5 (.cells Z 185))) CR.out.good CR.out.old;subst hZ;obtain ⟨Ob,hf2,hf3,ZK,IF⟩:=C7 yY ⟨ln,op,ln+1,ln+1+n,en⟩ (v:=.slice vA7 (np+1) vc7) (by rw [hnp];exact jR) (by rw [BR];exact qi.out) (by rw [BR];exact mB.out);rw [BR] at hf3;replace IF:=Lib.hid IF;have Tj:=Lib.hid (((ES.out.alloc (by omega) _).trans dI).setCell (p:=⟨R,9,none⟩) Ob (.slice vA7 (np+1) vc7));refine aQ Ac (hK _ _ _ ?_);clear hK K;refine aA rfl ?_;intro K hK;go_simp;refine aQ Ac (hK _ _ _ ?_);clear hK K;refine aA rfl ?_;intro K hK;go_simp;refine aQ Ac (hK _ _ _ ?_);clear hK K;refine gQ rfl rfl ?_;go_simp;refine ⟨fun _=>True,trivial,aM ?_⟩;go_wp2_with fail;go_returns;subst Yp;exact ⟨rfl,⟨_,M',x',hx',by have:=IF.out;rw [← fO.out] at this;exact this.eY⟩,Tj.out⟩
 ·rw [if_neg (by omega)] at Yp
  subst Yp;have t1:(((nn:Int)+1)==1)=false:=by rw [beq_eq_false_iff_ne];omega
  go_wp2_with fail;go_returns;exact ⟨rfl,⟨pv,M',x',hx',by have:=fM.out;rw [← fO.out] at this;exact this.eY⟩,Qx.out⟩
structure Pb.Sz (N i:Nat) (r:Pb.Rd):Prop where
 pos:0<r.row.length
 few:r.row.length≤41
 kids:∀ c∈r.row,c.all.length≤N
 itms:∀ c∈r.row,∀ s ln is,c.lst=some (s,ln,is)→is.length≤N
 sign:∀ c∈r.row,c.kind=3→c.sign≠0
 lines:r.leaf.lines.length≤i
 text:∀ s∈r.leaf.lines,s.length≤300010
 line:r.leaf.line≤1000000
 pls:r.places.length≤N
theorem za {m:Nat}:∀ ls:List (List UInt8),(∀ s∈ls,s.length≤m)→(Pb.fZ ls).length≤ls.length*(m+1)
 | [],_=>by simp [Pb.fZ]
 | [x],h=>by have:=h x List.mem_cons_self;simp [Pb.fZ];omega
 | x::y::r,h=>by
  have h1:=h x List.mem_cons_self;have ih:=za (y::r) (fun s hs=>h s (List.mem_cons_of_mem _ hs));simp only [Pb.fZ,List.length_append,List.length_cons,Nat.add_mul] at ih ⊢;omega
theorem yO {m:Nat}:∀ ls:List (List UInt8),(∀ s∈ls,s.length≤m)→(Ln.join ls [10]).length≤ls.length*(m+1)
 | [],_=>by simp [Ln.join]
 | x::r,h=>by
  have h1:=h x List.mem_cons_self;have ih:=yO r (fun s hs=>h s (List.mem_cons_of_mem _ hs));have e:Ln.join (x::r) [10]=x++[10]++Ln.join r [10]:=rfl;rw [e];simp only [List.length_append,List.length_cons,List.length_nil,Nat.add_mul] at ih ⊢;omega
theorem Pb.Sz.joins {N i:Nat}{r:Pb.Rd}(h:Pb.Sz N i r) (hi:i≤100000):(Pb.fZ r.leaf.lines).length≤1000000000000∧(Ln.join r.leaf.lines [10]).length≤1000000000000:=by
 have h1:=za _ h.text;have h2:=yO _ h.text;have h3:=h.lines;have h4:r.leaf.lines.length*(300010+1)≤100000*(300010+1):=Nat.mul_le_mul_right _ (by omega);omega
theorem I0 (c:Pb.Cn) (t:Bk.Tree):(c.add t).all.length=c.all.length+1:=by
 show ((c.all++[t])++[]).length=_;simp
theorem ot {N i:Nat}{r:Pb.Rd}(h:Pb.Sz N i r) (t:Bk.Tree):Pb.Sz (N+1) i (Pb.cI t r):=by
 unfold Pb.cI;cases hr:r.row with
 | nil=>have:=h.pos;rw [hr] at this;simp at this
 | cons c o =>
  have hp:=h.pos;have hf:=h.few;rw [hr] at hp hf;have hm:∀ c'∈o,c'∈r.row:=fun c' hc'=>by rw [hr];exact List.mem_cons_of_mem _ hc'
  have hc:c∈r.row:=by rw [hr];exact List.mem_cons_self
  refine ⟨by simp,by simpa using hf,fun c' hc'=>?_,fun c' hc' s ln is e=>?_,fun c' hc'=>?_,h.lines,h.text,h.line,by have:=h.pls;show r.places.length≤_;omega⟩
  ·rcases List.mem_cons.1 hc' with rfl | hc'
   ·rw [I0];have:=h.kids c hc;omega
   ·have:=h.kids c' (hm c' hc');omega
  ·rcases List.mem_cons.1 hc' with rfl | hc'
   ·cases e
   ·have:=h.itms c' (hm c' hc') s ln is e;omega
  ·rcases List.mem_cons.1 hc' with rfl | hc'
   ·exact h.sign c hc
   ·exact h.sign c' (hm c' hc')
theorem Pb.Sz.mono {N i N' i':Nat}{r:Pb.Rd}(h:Pb.Sz N i r) (hN:N≤N') (hi:i≤i'):Pb.Sz N' i' r :=
 ⟨h.pos,h.few,fun c hc=>Nat.le_trans (h.kids c hc) hN,fun c hc s ln is e=>Nat.le_trans (h.itms c hc s ln is e) hN,h.sign,Nat.le_trans h.lines hi,h.text,h.line,Nat.le_trans h.pls hN⟩
theorem Pb.Sz.leaf {N i i':Nat}{r:Pb.Rd}(h:Pb.Sz N i r) (l:Pb.Of) (h1:l.lines.length≤i') (h2:∀ s∈l.lines,s.length≤300010) (h3:l.line≤1000000):Pb.Sz N i' { r with leaf:=l } :=
 ⟨h.pos,h.few,h.kids,h.itms,h.sign,h1,h2,h3,h.pls⟩
theorem Pb.Sz.bH {N i:Nat}{r:Pb.Rd}(h:Pb.Sz N i r) (i':Nat):Pb.Sz N i' { r with leaf:=Pb.bH }:=h.leaf Pb.bH (Nat.zero_le _) (fun s hs=>by cases hs) (Nat.zero_le _)
theorem kZ {N i:Nat}{r:Pb.Rd}(h:Pb.Sz N i r) (i':Nat):Pb.Sz (N+1) i' (Pb.aO r):=by
 unfold Pb.aO
 split
 ·exact (ot h _).bH i'
 ·split
  ·have h1:=(ot h (Pb.kF r.leaf)).bH i'
   refine ⟨h1.pos,h1.few,h1.kids,h1.itms,h1.sign,h1.lines,h1.text,h1.line,?_⟩;have:=h.pls;show (if r.row.length=1 then r.places++[r.leaf.place] else r.places).length≤_
   split
   ·simp;omega
   ·omega
  ·exact (h.bH i').mono (by omega) (Nat.le_refl _)
section
variable {w w':World}{B R:Nat}{E:Nat→Option Part}{rv lv pv:Value}{M:Mm}{d x:MC}{o:List MC}{l:Pb.Of}{ps:List Bk.Pl}
theorem B1 (h:cC w B E R rv lv pv M (d::x::o) l ps) {g c:Nat}(hg:rv=.slice (some ⟨g,0,none⟩) (o.length+1+1) c) :
  ∃ M',(∀ b a,M b=some a→M' b=some a)∧cC (w.setCell ⟨R,0,none⟩ (.slice (some ⟨g,0,none⟩) (o.length+1) c)) B E R (.slice (some ⟨g,0,none⟩) (o.length+1) c) lv pv M' (x::o) l ps ∧
   (∃ A n k,d.kv=.slice A n k)∧TM M' d.c.tree [.int .i64 (d.c.kind:Int),.int .i64 0,.string ⟨#[]⟩,.string ⟨#[]⟩,.int .i64 (d.c.line:Int),d.kv]:=by
 subst hg;obtain ⟨hR1,_,WN⟩:=h.hp.base (k:=.rd) rfl;have m1:=h.hp.uo (k:=.rd) (.blk R ⟨qL (.slice (some ⟨g,0,none⟩) (o.length+1) c) lv pv l⟩ 73) rfl (ax w ⟨R,0,none⟩ (.slice (some ⟨g,0,none⟩) (o.length+1) c)) ⟨hR1,heap_setCell_same w R 0 _ _ _ WN⟩ (fun _ e=>.inl e);have ho:=m1.own (k:=.row) ((ai _ _ (by simp)).trans rfl);have uh:=ownsRow_pop (xs:=aU (x::o)) (last:=cq d) (by rw [b7];rfl) ho;have m2:=m1.uo (k:=.row) (.row 76 9 (.slice (some ⟨g,0,none⟩) (o.length+1) c) (o.length+1) (aU (x::o))) ((ai _ _ (by simp)).trans rfl) (World.grownBy.refl _ _) uh (fun _ e=>.inl e);obtain ⟨M1,h1,h2,⟨cs',h3,Om⟩,h4⟩:=pO (o:=x::o) (x:=d) (M:=M) m2 (by
  rw [ai _ _ (by simp),ai _ _ (by simp)];show (iY (d::x::o) (x::o).length).bind ck=_;rw [cT];rfl) (fun b=>by rw [ai _ _ (by simp),ai _ _ (by simp)];rfl) h.old (h.good d List.mem_cons_self)
 have hk:gone (upd (upd (eC E R (.slice (some ⟨g,0,none⟩) (o.length+1+1) c) lv pv M (d::x::o) l ps) .rd (.blk R ⟨qL (.slice (some ⟨g,0,none⟩) (o.length+1) c) lv pv l⟩ 73)) .row (.row 76 9 (.slice (some ⟨g,0,none⟩) (o.length+1) c) (o.length+1) (aU (x::o)))) M1 (.itm (x::o).length) (.kid (x::o).length)=some (.row 32 6 d.kv d.c.all.length (d.css.flatten++bt d.lv d.c.lst)):=by
  rw [bB (fun b e=>by cases e) (by simp),ai _ _ (by simp),ai _ _ (by simp)];show (iY (d::x::o) (x::o).length).map dx=_;rw [cT];rfl
 obtain ⟨kA,kc,hkv,hkc⟩:=ak (h4.own hk);rw [hkv,← Om] at hk;obtain ⟨M2,g1,g2,g3,g4⟩:=Fp (M:=M1) h4 hk (fun b e=>by cases e) (fun b=>rfl) h2;refine ⟨M2,fun b a e=>g1 b a (h1 b a e),⟨g4.same fun j=>?_,fun y hy=>(h.good y (List.mem_cons_of_mem _ hy)).mono (fun b a e=>g1 b a (h1 b a e)),g2⟩,⟨kA,_,kc,hkv⟩,?_⟩
 ·cases j with
  | kid i =>
   by_cases hi:i=(x::o).length
   ·subst hi
    rw [zX (fun b e=>by cases e)];show (iY (x::o) (x::o).length).map dx=_;rw [qU (Nat.le_refl _)];rfl
   ·rw [bB (fun b e=>by cases e) (by simpa using hi),bB (fun b e=>by cases e) (by simp),ai _ _ (by simp),ai _ _ (by simp)]
    show (iY (x::o) i).map dx=(iY (d::x::o) i).map dx;rw [qh d (x::o) hi]
  | itm i =>
   by_cases hi:i=(x::o).length
   ·subst hi
    rw [bB (fun b e=>by cases e) (by simp),zX (fun b e=>by cases e)];show (iY (x::o) (x::o).length).bind ck=_;rw [qU (Nat.le_refl _)];rfl
   ·rw [bB (fun b e=>by cases e) (by simp),bB (fun b e=>by cases e) (by simpa using hi),ai _ _ (by simp),ai _ _ (by simp)]
    show (iY (x::o) i).bind ck=(iY (d::x::o) i).bind ck;rw [qh d (x::o) hi]
  | row=>rw [bB (fun b e=>by cases e) (by simp),bB (fun b e=>by cases e) (by simp),upd_same];rfl
  | rd=>rw [bB (fun b e=>by cases e) (by simp),bB (fun b e=>by cases e) (by simp),ai _ _ (by simp),upd_same];rfl
  | old b=>rfl
  | _=>rw [bB (fun b e=>by cases e) (by simp),bB (fun b e=>by cases e) (by simp),ai _ _ (by simp),ai _ _ (by simp)];rfl
 ·rw [hkv]
  unfold Pb.Cn.tree TM;exact ⟨kA,kc,cs',rfl,hkc,g3,fX g1 h3⟩
end
theorem map_cons {row:List MC}{c:Pb.Cn}{o:List Pb.Cn}(h:row.map (·.c)=c::o):∃ x t,row=x::t∧x.c=c∧t.map (·.c)=o:=by
 cases row with
 | nil=>cases h
 | cons x t=>rw [List.map_cons] at h;exact ⟨x,t,rfl,(List.cons.inj h).1,(List.cons.inj h).2⟩
theorem vD (w:World) (B:Nat) (E:Nat→Option Part) (R:Nat) (r:Pb.Rd) (h:PS w B E R r) {N i:Nat}(hs:Pb.Sz N i r) (hN:N≤1000000000) (hi:i≤100000) :
  Calls Tryz.prog 83 #[BD R] w fun e w'=>e=.returned (.tuple #[])∧PS w' B E R (Pb.aO r)∧Below B w w':=by
 obtain ⟨rv,lv,pv,M,row,hrow,hA⟩:=h;obtain ⟨Zk,hj2⟩:=hs.joins hi;cases hr:r.row with
 | nil=>have:=hs.pos;rw [hr] at this;simp at this
 | cons c o =>
  rw [hr] at hrow;obtain ⟨x,t,rfl,hx,ht⟩:=map_cons hrow;have hlen:t.length≤1000:=by
   have:=hs.few;rw [hr,← ht] at this;simp at this;omega
  have cO:x.c.all.length≤1000000000:=by
   have:=hs.kids c (by rw [hr];exact List.mem_cons_self);rw [hx];omega
  have hrl:r.row.length=t.length+1:=by rw [hr,← ht];simp
  by_cases h4:r.leaf.kind=4
  ·refine (OE w B E R rv lv pv M x t r.leaf r.places hA h4 hlen cO (by have:=hs.lines;omega) Zk).mono fun e w' ⟨e1,⟨M',x',hx',hA'⟩,hb⟩=>⟨e1,⟨rv,.slice none 0 0,pv,M',x'::t,?_,?_⟩,hb⟩
   ·unfold Pb.aO;rw [if_pos h4];simp [Pb.cI,hr,hx',hx,ht]
   ·unfold Pb.aO;rw [if_pos h4];simp only [Pb.cI,hr];exact hA'
  ·by_cases h7:r.leaf.kind=7
   ·refine (JN w B E R rv lv pv M x t r.leaf r.places hA h7 hlen cO (by have:=hs.lines;omega) hj2 (by have:=hs.line;omega) (by have:=hs.pls;omega) _ rfl).mono fun e w' ⟨e1,⟨pv',M',x',hx',hA'⟩,hb⟩=>⟨e1,⟨rv,.slice none 0 0,pv',M',x'::t,?_,?_⟩,hb⟩
    ·unfold Pb.aO;rw [if_neg h4,if_pos h7];simp [Pb.cI,hr,hx',hx,ht]
    ·unfold Pb.aO;rw [if_neg h4,if_pos h7]
     have e2:(if r.row.length=1 then r.places++[r.leaf.place] else r.places)=if t.length=0 then r.places++[r.leaf.place] else r.places:=by
      by_cases h0:t.length=0
      ·rw [if_pos h0,if_pos (by omega)]
      ·rw [if_neg h0,if_neg (by omega)]
     show cC w' B E R rv _ pv' M' (x'::t) Pb.bH (if r.row.length=1 then r.places++[r.leaf.place] else r.places);rw [e2];exact hA'
   ·refine (Mv w B E R rv lv pv M (x::t) r.leaf r.places hA h4 h7).mono fun e w' ⟨e1,hA',hb⟩=>⟨e1,⟨rv,.slice none 0 0,pv,M,x::t,?_,?_⟩,hb⟩
    ·unfold Pb.aO;rw [if_neg h4,if_neg h7];rw [hrow,← hr]
    ·unfold Pb.aO;rw [if_neg h4,if_neg h7];exact hA'
theorem Rv {N i:Nat}{d c:Pb.Cn}{o:List Pb.Cn}{l:Pb.Of}{ps:List Bk.Pl}(h:Pb.Sz N i ⟨d::c::o,l,ps⟩):Pb.Sz (N+1) i ⟨Pb.give d c::o,l,ps⟩:=by
 have hc:c∈d::c::o:=by simp
 have hm:∀ c'∈o,c'∈d::c::o:=fun c' h=>by simp [h]
 have hk:=h.kids c hc;have hi:=h.itms c hc;have hall:c.kids.length≤c.all.length:=by unfold Pb.Cn.all;simp
 have h1:((Pb.give d c).all.length≤N+1∧(∀ s ln is,(Pb.give d c).lst=some (s,ln,is)→is.length≤N+1))∧(Pb.give d c).kind=c.kind∧(Pb.give d c).sign=c.sign:=by
  unfold Pb.give
  split
  ·have hone:∀ (l:List Bk.Tree) (t:Bk.Tree),(l++[t]).length=l.length+1:=fun l t=>by simp
   have hnew:(Pb.Cn.addItem d c={ c with kids:=c.all,lst:=some (d.sign,d.line,[d.tree]) })→((Pb.Cn.addItem d c).all.length≤N+1∧(∀ s ln is,(Pb.Cn.addItem d c).lst=some (s,ln,is)→is.length≤N+1))∧(Pb.Cn.addItem d c).kind=c.kind∧(Pb.Cn.addItem d c).sign=c.sign:=fun e=>by
    rw [e];refine ⟨⟨?_,fun s ln is e=>by cases e;simp⟩,rfl,rfl⟩;have:=hone c.all (.mk 2 0 [] [] d.line [d.tree]);show (c.all++[_]).length≤_;omega
   cases hl:c.lst with
   | none=>exact hnew (by unfold Pb.Cn.addItem;rw [hl])
   | some t =>
    obtain ⟨s,ln,is⟩:=t;have h3:=hi s ln is hl;have h4:c.all.length=c.kids.length+1:=by unfold Pb.Cn.all;rw [hl];simp [Pb.pY]
    by_cases hs:s=d.sign
    ·have e:Pb.Cn.addItem d c={ c with lst:=some (s,ln,is++[d.tree]) }:=by unfold Pb.Cn.addItem;rw [hl];exact if_pos hs
     rw [e];refine ⟨⟨?_,fun s ln is e=>by cases e;rw [hone];omega⟩,rfl,rfl⟩;have:=hone c.kids (.mk 2 0 [] [] ln (is++[d.tree]));show (c.kids++[_]).length≤_;omega
    ·exact hnew (by unfold Pb.Cn.addItem;rw [hl];exact if_neg hs)
  ·exact ⟨⟨by rw [I0];omega,fun s ln is e=>by cases e⟩,rfl,rfl⟩
 have hp:=h.pos;have hf:=h.few;simp only [List.length_cons] at hf;refine ⟨by simp,by simp only [List.length_cons];omega,fun c' hc'=>?_,fun c' hc' s ln is e=>?_,fun c' hc' e=>?_,h.lines,h.text,h.line,by have:=h.pls;exact Nat.le_trans this (by omega)⟩
 ·rcases List.mem_cons.1 hc' with rfl | hc'
  ·exact h1.1.1
  ·have:=h.kids c' (hm c' hc');omega
 ·rcases List.mem_cons.1 hc' with rfl | hc'
  ·exact h1.1.2 s ln is e
  ·have:=h.itms c' (hm c' hc') s ln is e;omega
 ·rcases List.mem_cons.1 hc' with rfl | hc'
  ·rw [h1.2.2];rw [h1.2.1] at e;exact h.sign c hc e
  ·exact h.sign c' (hm c' hc') e
theorem BJ:∀ (n:Nat) {N i:Nat}{row:List Pb.Cn}{l:Pb.Of}{ps:List Bk.Pl},Pb.Sz N i ⟨row,l,ps⟩→Pb.Sz (N+n) i ⟨Pb.pz n row,l,ps⟩
 | 0,_,_,_,_,_,h=>h
 | _+1,_,_,[],_,_,h=>absurd h.pos (by simp)
 | n+1,_,_,[c],_,_,h=>h.mono (by omega) (Nat.le_refl _)
 | n+1,N,_,d::c::o,_,_,h=>(BJ n (Rv h)).mono (by omega) (Nat.le_refl _)
theorem wB:∀ (n:Nat) (row:List Pb.Cn),n<row.length→(Pb.pz n row).length=row.length-n
 | 0,_,_=>rfl
 | _+1,[],h=>by simp at h
 | _+1,[c],h=>by simp at h
 | n+1,d::c::o,h=>by
  have:=wB n (Pb.give d c::o) (by simpa using h);rw [Pb.pz,this];simp
theorem yN:∀ (n:Nat) (row:List Pb.Cn),n+1<row.length→∃ d c o,Pb.pz n row=d::c::o∧Pb.pz (n+1) row=Pb.give d c::o
 | 0,[],h=>by simp at h
 | 0,[c],h=>by simp at h
 | 0,d::c::o,_=>⟨d,c,o,rfl,rfl⟩
 | _+1,[],h=>by simp at h
 | _+1,[c],h=>by simp at h
 | n+1,d::c::o,h=>yN n (Pb.give d c::o) (by simpa using h)
theorem eG {N i:Nat}{r:Pb.Rd}(h:Pb.Sz N i r) (k i':Nat):Pb.Sz (N+42) i' (Pb.aR k r):=by
 have h1:=kZ h i';have h2:=BJ ((Pb.aO r).row.length-k) (row:=(Pb.aO r).row) (l:=(Pb.aO r).leaf) (ps:=(Pb.aO r).places) h1;exact h2.mono (by have:=h1.few;omega) (Nat.le_refl _)
abbrev aJ (d:Pb.Cn) (A:Option Addr) (n k:Nat):Array Value:=#[.int .i64 (d.kind:Int),.int .i64 0,.string ⟨#[]⟩,.string ⟨#[]⟩,.int .i64 (d.line:Int),.slice A n k,.int .u8 (d.sign.toNat:Int),.int .i64 (d.col:Int),.int .u8 (d.cL.toNat:Int)]
theorem Pc (w:World) (B:Nat) (E:Nat→Option Part) (R:Nat) (rv lv pv:Value) (M:Mm) (x:MC) (o:List MC) (l:Pb.Of) (ps:List Bk.Pl) (h:cC w B E R rv lv pv M (x::o) l ps) (g c:Nat) (hg:rv=.slice (some ⟨g,0,none⟩) (o.length+1) c)
  (d:Pb.Cn) (dA:Option Addr) (dn dk:Nat) (ht:TM M d.tree [.int .i64 (d.kind:Int),.int .i64 0,.string ⟨#[]⟩,.string ⟨#[]⟩,.int .i64 (d.line:Int),.slice dA dn dk]) (B0:d.sign≠0) (hlen:o.length≤1000) (cO:x.c.all.length≤1000000000) (Y2:∀ s ln is,x.c.lst=some (s,ln,is)→is.length≤1000000000) :
  Calls Tryz.prog 85 #[.pointer (some ⟨g,o.length*9,none⟩),.agg (aJ d dA dn dk)] w fun e w'=>e=.returned (.tuple #[])∧(∃ M' x',x'.c=Pb.Cn.addItem d x.c∧cC w' B E R rv lv pv M' (x'::o) l ps)∧Below B w w':=by
 have hnew:=fun hne=>Je w B E R rv lv pv M x o l ps h g c hg d.sign d.line hne d.tree (d.kind:Int) 0 [] [] dA dn dk ht (d.col:Int) d.cL hlen cO;cases hl:x.c.lst with
 | none =>
  have e:Pb.Cn.addItem d x.c={ x.c with kids:=x.c.all,lst:=some (d.sign,d.line,[d.tree]) }:=by unfold Pb.Cn.addItem;rw [hl]
  rw [e];exact hnew (by unfold Pb.Cn.cL;rw [hl];exact fun e=>B0 e.symm)
 | some q =>
  obtain ⟨s,ln,is⟩:=q
  by_cases hs:s=d.sign
  ·have e:Pb.Cn.addItem d x.c={ x.c with lst:=some (s,ln,is++[d.tree]) }:=by unfold Pb.Cn.addItem;rw [hl];exact if_pos hs
   rw [e];subst hs;exact (Fj w B E R rv lv pv M x o l ps h g c hg d.sign ln is hl d.tree (d.kind:Int) 0 (d.line:Int) [] [] dA dn dk ht (d.col:Int) d.cL hlen cO (Y2 _ _ _ hl)).mono fun e w' ⟨e1,⟨x',hx',hA'⟩,hb⟩=>⟨e1,⟨M,x',hx',hA'⟩,hb⟩
  ·have e:Pb.Cn.addItem d x.c={ x.c with kids:=x.c.all,lst:=some (d.sign,d.line,[d.tree]) }:=by unfold Pb.Cn.addItem;rw [hl];exact if_neg hs
   rw [e];exact hnew (by unfold Pb.Cn.cL;rw [hl];exact hs)
def TN (cb:Nat) (cs:Array Value) (u:World):Prop:=u.heap[cb]? = some (.cells cs 76 (0,0))
def Oq (R:Nat) (v:Value) (u:World):Prop:=u.cell? ⟨R,0,none⟩=some v
theorem iw (w:World) (B:Nat) (E:Nat→Option Part) (R:Nat) (r:Pb.Rd) (h:PS w B E R r) {N i:Nat}(hs:Pb.Sz N i r) (hN:N≤900000000) (hi:i≤100000) (k:Nat) (hk:1≤k) :
  Calls Tryz.prog 53 #[BD R,.int .i64 (k:Int)] w fun e w'=>e=.returned (.tuple #[])∧PS w' B E R (Pb.aR k r)∧Below B w w':=by
 have hcl:=vD w B E R r h hs (by omega) hi;have hs1:=kZ hs 0;have hto:Pb.aR k r={ Pb.aO r with row:=Pb.pz ((Pb.aO r).row.length-k) (Pb.aO r).row }:=rfl;rw [hto];clear hto;obtain ⟨q,hq⟩:∃ q,Pb.aO r=q:=⟨_,rfl⟩
 rw [hq] at hcl hs1 ⊢;obtain ⟨L,hL⟩:∃ L,q.row.length=L:=⟨_,rfl⟩
 have hL1:1≤L∧L≤41:=by rw [← hL];exact ⟨hs1.pos,hs1.few⟩
 rw [hL];have hsz:∀ j,Pb.Sz (N+1+j) 0 ⟨Pb.pz j q.row,q.leaf,q.places⟩:=fun j=>BJ j hs1;replace hcl:=Lib.hid hcl;replace hsz:=Lib.hid hsz;replace hL:=Lib.hid hL;go_enter Tryz.func53,Tryz.ntmps53;go_wp2_with fail;refine hcl.out.mono ?_;rintro e w1 ⟨rfl,h1,hb1⟩;have h1':=Lib.hid h1;have mX:=Lib.hid hb1;clear h1 hb1 hs1;go_wp2_with fail
 go_loopw [4] (fun _ wr=>∃ j:Nat,j≤L-k∧Hid (PS wr B E R { q with row:=Pb.pz j q.row })∧Hid (Below B w wr)) (fun _ wr=>match wr.cell? ⟨R,0,none⟩ with
  | some (.slice _ n _)=>n
  | _=>0)
 case atStart=>exact ⟨0,Nat.zero_le _,h1',mX⟩
 case round =>
  obtain ⟨j,hj,hP,hb⟩:=hrel;obtain ⟨rv,lv,pv,M,row,hrow,hA⟩:=hP.out;simp only at hrow hA;have qZ:=wB j q.row (by rw [hL.out];omega);rw [hL.out] at qZ;have hsj:=hsz.out j;rcases Nat.lt_or_eq_of_le hj with hlt | Qv
  ·obtain ⟨d,c,o,KF,YR⟩:=yN j q.row (by rw [hL.out];omega)
   rw [KF] at hrow qZ hsj;obtain ⟨x,t1,rfl,hx,Z2⟩:=map_cons hrow;obtain ⟨y,t,rfl,hy,ht⟩:=map_cons Z2;obtain ⟨g,cc,iE,hcc,hgR,hgB,kQ,LJ,oW⟩:=dV hA;obtain ⟨hR1,hR2,ry,c0,_⟩:=aI hA;have htl:t.length+2=L-j:=by
    have:t.length=o.length:=by rw [← ht];simp
    simp only [List.length_cons] at qZ;omega
   obtain ⟨M2,hm2,Iq,⟨dA,dn,dk,Gv⟩,B6⟩:=B1 hA iE;clear Iq B6 hm2 M2;obtain ⟨n,hn⟩:∃ n,t.length=n:=⟨_,rfl⟩
   have uh:=fun (wz:World) (E':Nat→Option Part) (hz:cC wz B E' R rv lv pv M (x::y::t) q.leaf q.places)=>B1 hz iE;have hla:=fun wz h=>eK wz B E R rv lv pv M x (y::t) q.leaf q.places h g cc iE (by simp;omega);have Fa:=fun (E':Nat→Option Part) M' wz h=>eK wz B E' R (.slice (some ⟨g,0,none⟩) (t.length+1) cc) lv pv M' y t q.leaf q.places h g cc rfl (by omega);have B0:=hsj.sign d (by simp);have Be:=hsj.kids c (by simp);have hit:=hsj.itms c (by simp);have hadd:=fun (E':Nat→Option Part) M' wz h cs ht=>mT wz B E' R (.slice (some ⟨g,0,none⟩) (t.length+1) cc) lv pv M' y t q.leaf q.places h g cc rfl d.tree cs ht (by omega) (by rw [hy];omega);have OM:=fun (E':Nat→Option Part) M' wz h B0 ht=>Pc wz B E' R (.slice (some ⟨g,0,none⟩) (t.length+1) cc) lv pv M' y t q.leaf q.places h g cc rfl d dA dn dk ht B0 (by omega) (by rw [hy];omega) (fun s ln is e=>by rw [hy] at e;have:=hit s ln is e;omega);have wv:=fun (j:Nat) (u:Value) (hj:(aJ d dA dn dk)[j]? = some u)=>oW j u (by
    have e:cq x=(aJ d dA dn dk).toList:=by unfold cq;rw [hx,Gv]
    rw [e];simpa using hj)
   rw [iE] at c0;rw [hx] at uh;simp only [List.length_cons] at c0 hcc hla wv;rw [hn] at c0 hcc hla Fa hadd OM wv uh htl;rw [hy] at hadd OM;have k0:=wv 0 _ rfl;have k1:=wv 1 _ rfl;have k2:=wv 2 _ rfl;have k3:=wv 3 _ rfl;have k4:=wv 4 _ rfl;have k5:=wv 5 _ rfl;have k6:=wv 6 _ rfl;have k7:=wv 7 _ rfl;have k8:=wv 8 _ rfl;obtain ⟨P,hPd⟩:∃ P,(n+1)*9=P:=⟨_,rfl⟩
   rw [hPd] at k0 k1 k2 k3 k4 k5 k6 k7 k8 hla;rw [Nat.add_zero] at k0;have hkn:(k:Int)<(n:Int)+1+1:=by omega
   replace hA:=Lib.hid hA;replace hla:=Lib.hid hla;replace Fa:=Lib.hid Fa;replace hadd:=Lib.hid hadd;replace OM:=Lib.hid OM;replace uh:=Lib.hid uh;replace B0:=Lib.hid B0;replace iE:=Lib.hid iE;replace Gv:=Lib.hid Gv;replace KF:=Lib.hid KF;replace YR:=Lib.hid YR;replace hx:=Lib.hid hx;replace hy:=Lib.hid hy;replace ht:=Lib.hid ht;replace hn:=Lib.hid hn;have acy:n+2≤L-j:=by omega
   have adF:L-j≤n+2:=by omega
   clear oW LJ wv Be hit hrow Z2 hsj htl qZ;go_wp2_with fail;refine (hla.out _ hA.out).mono ?_;rintro e w2 ⟨rfl,hb2⟩;have Df:=fun (j:Nat)=>hb2.cell (p:=⟨g,j,none⟩) kQ;rw [← Df] at k0 k1 k2 k3 k4 k5 k6 k7 k8;have Iq:=Lib.hid (cC.mk (hA.out.hp.ext hb2) hA.out.good hA.out.old);have hB2:=Lib.hid (hb.out.trans (hb2.mono (by omega)));have hc2:w2.cell? ⟨R,0,none⟩=_:=(hb2.cell (p:=⟨R,0,none⟩) hR2).trans c0;have hz2:=hb2.size;clear Df c0;go_wp2_with fail;have hbc:=aa w2 (.cells (aJ d dA dn dk) 76);have fM:=Iq.out.iG hbc (a:=.blk w2.heap.size (aJ d dA dn dk) 76) ⟨by omega,heap_alloc_new w2 _⟩ (fun g hg=>by cases hg;exact Nat.le_refl _);have jy:=hB2.out.trans (hbc.mono (by omega));have hc3:(w2.alloc (.cells (aJ d dA dn dk) 76)).cell? ⟨R,0,none⟩=_:=(hbc.cell (p:=⟨R,0,none⟩) (by show R<w2.heap.size;omega)).trans hc2;obtain ⟨E',fO⟩:∃ E',ec (.blk w2.heap.size (aJ d dA dn dk) 76) E=E':=⟨_,rfl⟩
   rw [fO] at fM;have nJ:E' 0=some (.blk w2.heap.size (aJ d dA dn dk) 76):=by rw [← fO];rfl
   obtain ⟨cb,hcb⟩:∃ cb,w2.heap.size=cb:=⟨_,rfl⟩
   rw [hcb] at nJ;generalize w2.alloc (.cells (aJ d dA dn dk) 76)=w3 at fM jy hc3 ⊢;rw [hcb];have nN:=aI fM;obtain ⟨_,LM,VX,_⟩:=nN;obtain ⟨M4,hm4,iI,_,B6⟩:=uh.out w3.drew E' (cC.mk (fM.hp.ext (bq w3)) fM.good fM.old);rw [Gv.out] at B6;have tr:=Lib.hid (jy.drew.setCell (p:=⟨R,0,none⟩) hR1 (.slice (some ⟨g,0,none⟩) (n+1) cc));have F3:w3.drew.cell? ⟨R,0,none⟩=_:=hc3;have TT:∀ j,w3.drew.frozen? ⟨R,j,none⟩=false:=VX;have X0:R<w3.drew.heap.size:=LM;replace iI:=Lib.hid iI;replace B6:=Lib.hid B6;replace fO:=Lib.hid fO;replace hcb:=Lib.hid hcb;clear hc3 VX LM fM jy hbc k0 k1 k2 k3 k4 k5 k6 k7 k8 hc2;have acL:n+1≤cc:=by omega
   refine cV 14 [(true,0),(true,1),(true,2),(true,3),(true,4),(true,5),(true,6),(true,7),(true,8),(true,9),(true,10),(true,11),(false,12),(false,13)] 0 .fin (Oq R (.slice (some ⟨g,0,none⟩) (n+1+1) cc)) F3 (by kernel_rfl) (by kernel_rfl) (by kernel_rfl) (fun _ _ d _ _ h=>by cases d<;>exact h) ?_;generalize w3.drew=w4 at iI tr F3 TT X0 ⊢
   repeat (first | refine bL rfl ?_ | (refine aA rfl ?_;intro K hK;go_simp;refine hK _ _ _ ?_;clear hK K))
   refine bX (.slice (some ⟨g,0,none⟩) (n+1+1) cc) rfl rfl F3 (fun u hu=>by unfold Oq at hu;go_simp) ?_
   repeat (first | refine bL rfl ?_ | (refine aA rfl ?_;intro K hK;go_simp;refine hK _ _ _ ?_;clear hK K))
   refine bX (.slice (some ⟨g,0,none⟩) (n+1+1) cc) rfl rfl F3 (fun u hu=>by unfold Oq at hu;go_simp) ?_;have hnl:n≤1000:=by omega
   have hw1:IntKind.i64.wrap ((n:Int)+1)=(n:Int)+1:=by unfold IntKind.wrap;simp [IntKind.bits,IntKind.signed];omega
   have hn2:(0:Int)≤(n:Int)+1:=by omega
   have R9:(n:Int)+1≤(cc:Int):=by omega
   repeat (first | refine bL rfl ?_ | (refine aA rfl ?_;intro K hK;go_simp;refine hK _ _ _ ?_;clear hK K))
   refine aA rfl ?_;intro K hK;go_simp;refine aQ (S:=Oq R (.slice (some ⟨g,0,none⟩) (n+1+1) cc)) F3 (hK _ _ _ ?_);clear hK K;refine aA rfl ?_;intro K hK;go_simp;refine aQ (S:=Oq R (.slice (some ⟨g,0,none⟩) (n+1+1) cc)) F3 (hK _ _ _ ?_);clear hK K;refine gQ rfl rfl ?_;go_simp;refine ⟨fun _=>True,trivial,aM ?_⟩;generalize w4.setCell ⟨R,0,none⟩ (.slice (some ⟨g,0,none⟩) (n+1) cc)=w5 at iI tr ⊢;clear F3 TT X0;obtain ⟨acr,ado,RW⟩:=iI.out.hp.base (k:=.ext 0) nJ;have i0:=cell_of RW (j:=0) rfl;have nK:TN cb (aJ d dA dn dk) w5.drew:=RW;have ur:=Lib.hid (cC.mk (iI.out.hp.ext (bq w5)) iI.out.good iI.out.old);have ER:=Lib.hid tr.out.drew;have hSr:∀ u,TN cb (aJ d dA dn dk) u→(u.cell? ⟨cb,0,none⟩=some (.int .i64 (d.kind:Int))∧u.cell? ⟨cb,1,none⟩=some (.int .i64 0)∧u.cell? ⟨cb,2,none⟩=some (.string ⟨#[]⟩)∧u.cell? ⟨cb,3,none⟩=some (.string ⟨#[]⟩)∧u.cell? ⟨cb,4,none⟩=some (.int .i64 (d.line:Int))∧u.cell? ⟨cb,5,none⟩=some (.slice dA dn dk)) ∧
     u.cell? ⟨cb,6,none⟩=some (.int .u8 (d.sign.toNat:Int))∧u.cell? ⟨cb,7,none⟩=some (.int .i64 (d.col:Int))∧u.cell? ⟨cb,8,none⟩=some (.int .u8 (d.cL.toNat:Int)):=fun u hu =>
    ⟨⟨cell_of hu rfl,cell_of hu rfl,cell_of hu rfl,cell_of hu rfl,cell_of hu rfl,cell_of hu rfl⟩,cell_of hu rfl,cell_of hu rfl,cell_of hu rfl⟩
   have aL:∀ (w8:World) (M5:Mm) (x':MC),x'.c=Pb.give d c→cC w8 B E' R (.slice (some ⟨g,0,none⟩) (n+1) cc) lv pv M5 (x'::t) q.leaf q.places→PS w8 B E R { q with row:=Pb.pz (j+1) q.row }∧w8.cell? ⟨R,0,none⟩=some (.slice (some ⟨g,0,none⟩) (n+1) cc):=by
    intro w8 M5 x' hx' xT;obtain ⟨_,_,_,c8,_⟩:=aI xT;rw [← fO.out] at xT;refine ⟨⟨_,lv,pv,M5,x'::t,?_,xT.eY⟩,c8⟩;show (x'::t).map (·.c)=Pb.pz (j+1) q.row;rw [YR.out,List.map_cons,hx',ht.out]
   have hcr:wr.cell? ⟨R,0,none⟩=some (.slice (some ⟨g,0,none⟩) (n+1+1) cc):=by
    have:=(aI hA.out).2.2.2.1;rw [this,iE.out,List.length_cons,hn.out]
   replace hcr:=Lib.hid hcr;replace aL:=Lib.hid aL;replace RW:=Lib.hid RW;have Xg:w5.drew.heap.size=w5.heap.size:=rfl
   by_cases hk3:d.kind=3
   ·have t3:((d.kind:Int)==3)=true:=by rw [beq_iff_eq];omega
    have Z4:Pb.give d c=Pb.Cn.addItem d c:=by unfold Pb.give;exact if_pos hk3
    have aaC:=B0.out hk3;go_wp2_with fail;refine eT [(true,0),(true,2),(false,1),(false,3)] (TN cb (aJ d dA dn dk)) nK (by kernel_rfl) (by kernel_rfl) (by kernel_rfl) (fun _ _ d _ _ h=>by cases d<;>exact h) ?_;generalize w5.drew=w6 at nK ur ER Xg ⊢;clear i0
    repeat (first | refine cU rfl ?_ | (refine aV rfl ?_;intro K hK;go_simp;refine hK _ _ _ ?_;clear hK K))
    refine fm (.agg (aJ d dA dn dk)) rfl rfl nK (fun u hu=>by obtain ⟨⟨v0,v1,v2,v3,v4,v5⟩,v6,v7,v8⟩:=hSr u hu;go_simp) ?_;refine aV rfl ?_;intro K hK;go_simp;refine (Fa.out E' M4 w6 ur.out).mono ?_;rintro e w7 ⟨rfl,dI⟩;have Ac:TN cb (aJ d dA dn dk) w7:=(dI.block _ (by omega)).trans nK;refine aQ Ac (hK _ _ _ ?_);clear hK K;have V7:=cC.mk (ur.out.hp.ext dI) ur.out.good ur.out.old;refine aV rfl ?_;intro K hK;go_simp;refine (OM.out E' M4 w7 V7 aaC B6.out).mono ?_;rintro e w8 ⟨rfl,⟨M5,x',hx',xT⟩,mg⟩;obtain ⟨Hh,VE⟩:=aL.out w8 M5 x' (hx'.trans Z4.symm) xT;have Ly:TN cb (aJ d dA dn dk) w8:=(xT.hp.base (k:=.ext 0) nJ).2.2;have LQ:=Lib.hid ((ER.out.trans (dI.mono (by have:=ER.out.size;omega))).trans mg);replace Hh:=Lib.hid Hh;replace xT:=Lib.hid xT;replace VE:=Lib.hid VE;refine aQ Ly (hK _ _ _ ?_);clear hK K;refine kK ?_;go_wp2_with fail
    go_roundw
    case rel=>exact ⟨j+1,by omega,Hh,LQ⟩
    case measure=>rw [VE.out,hcr.out];simp
   ·have t3:((d.kind:Int)==3)=false:=by rw [beq_eq_false_iff_ne];omega
    have Z4:Pb.give d c=c.add d.tree:=by unfold Pb.give;exact if_neg hk3
    go_wp2_with fail;refine eT [(true,0),(true,2),(true,3),(false,1),(false,4)] (TN cb (aJ d dA dn dk)) nK (by kernel_rfl) (by kernel_rfl) (by kernel_rfl) (fun _ _ d _ _ h=>by cases d<;>exact h) ?_;generalize w5.drew=w6 at nK ur ER Xg ⊢;clear i0
    repeat (first | refine cU rfl ?_ | (refine aV rfl ?_;intro K hK;go_simp;refine hK _ _ _ ?_;clear hK K))
    refine fm (.agg #[.int .i64 (d.kind:Int),.int .i64 0,.string ⟨#[]⟩,.string ⟨#[]⟩,.int .i64 (d.line:Int),.slice dA dn dk]) rfl rfl nK (fun u hu=>by obtain ⟨⟨v0,v1,v2,v3,v4,v5⟩,v6,v7,v8⟩:=hSr u hu;go_simp) ?_;refine aV rfl ?_;intro K hK;go_simp;refine (Fa.out E' M4 w6 ur.out).mono ?_;rintro e w7 ⟨rfl,dI⟩;have Ac:TN cb (aJ d dA dn dk) w7:=(dI.block _ (by omega)).trans nK;refine aQ Ac (hK _ _ _ ?_);clear hK K;have V7:=cC.mk (ur.out.hp.ext dI) ur.out.good ur.out.old;refine aV rfl ?_;intro K hK;go_simp;refine (hadd.out E' M4 w7 V7 _ B6.out).mono ?_;rintro e w8 ⟨rfl,⟨M5,x',hx',xT⟩,mg⟩;obtain ⟨Hh,VE⟩:=aL.out w8 M5 x' (hx'.trans Z4.symm) xT;have Ly:TN cb (aJ d dA dn dk) w8:=(xT.hp.base (k:=.ext 0) nJ).2.2;have LQ:=Lib.hid ((ER.out.trans (dI.mono (by have:=ER.out.size;omega))).trans mg);replace Hh:=Lib.hid Hh;replace xT:=Lib.hid xT;replace VE:=Lib.hid VE;refine aQ Ly (hK _ _ _ ?_);clear hK K;refine kK ?_;go_wp2_with fail
    go_roundw
    case rel=>exact ⟨j+1,by omega,Hh,LQ⟩
    case measure=>rw [VE.out,hcr.out];simp
  ·cases row with
   | nil=>rw [← hrow] at qZ;simp at qZ;omega
   | cons x t =>
    obtain ⟨g,cc,iE,_⟩:=dV hA;obtain ⟨hR1,hR2,ry,c0,_⟩:=aI hA;have htl:t.length+1=L-j:=by rw [← hrow] at qZ;simpa using qZ
    obtain ⟨n,hn⟩:∃ n,t.length=n:=⟨_,rfl⟩
    rw [iE,hn] at c0;rw [hn] at htl;have hkn:¬ (k:Int)<(n:Int)+1:=by omega
    have GC:=Lib.hid (by rw [Qv] at hP;exact hP:Hid (PS wr B E R { q with row:=Pb.pz (L-k) q.row }));have hl1:n+1≤L-j:=by omega
    replace hA:=Lib.hid hA;replace hrow:=Lib.hid hrow;replace hP:=Lib.hid hP;clear htl Qv qZ iE hn;go_wp2_with fail;go_returns;exact ⟨rfl,GC.out.out,hb.out⟩
theorem sx (s:List UInt8) (E:Bool) (hE:Fn.emp s=E) (w:World) (hl:s.length≤140737488355328):Calls Tryz.prog 122 #[.string (bs s)] w fun e w'=>e=.returned (.bool E)∧w=w':=by
 subst hE;exact sD s w hl
theorem Hr (s:List UInt8) (C:Nat) (hC:Fn.cl s=C) (w:World) (hl:s.length≤140737488355328):∃ K:Nat,Calls Tryz.prog 181 #[.string (bs s)] w fun e w'=>e=.returned (.tuple #[.int .i64 (C:Int),.int .i64 (K:Int)])∧w=w':=by
 subst hC;exact ⟨_,lu s w hl⟩
theorem Jx (d:Pb.Cn) (A:Option Addr) (n k:Nat) (s:List UInt8) (w:World) (hl:s.length+100≤140737488355328) :
  Calls Tryz.prog 148 #[.agg (aJ d A n k),.string (bs s)] w fun e w'=>e=.returned (l8 (if Fn.emp s=true then some s else if Fn.cl s<d.col then none else some (Cl.strip d.col s)))∧Below w.heap.size w w':=by
 obtain ⟨E,hE⟩:∃ E,Fn.emp s=E:=⟨_,rfl⟩
 obtain ⟨C,hC⟩:∃ C,Fn.cl s=C:=⟨_,rfl⟩
 have hem:=fun w=>sx s E hE w (by omega);have hin:=fun w=>Hr s C hC w (by omega);have hst:=fun w=>n8 s (d.col:Int) w (by omega);obtain ⟨T,hT⟩:∃ T,Cl.strip (d.col:Int) s=T:=⟨_,rfl⟩
 obtain ⟨Q,hQ⟩:∃ Q,l8 (if Fn.emp s=true then some s else if Fn.cl s<d.col then none else some (Cl.strip d.col s))=Q:=⟨_,rfl⟩
 rw [hQ];rw [hE,hC,hT] at hQ;rw [hT] at hst;have hb:=aa w (.cells (aJ d A n k) 76);have hn7:=cell_of (heap_alloc_new w (.cells (aJ d A n k) 76)) (j:=7) rfl;obtain ⟨w1,hw1⟩:∃ w1,w.alloc (.cells (aJ d A n k) 76)=w1:=⟨_,rfl⟩
 rw [hw1] at hb hn7;replace hw1:=Lib.hid hw1;cases E with
 | true =>
  rw [if_pos rfl] at hQ;subst hQ;clear hin hst;go_enter Tryz.func148,Tryz.ntmps148;go_wp2_with fail;rw [hw1.out];refine (hem _).mono ?_;rintro e w2 ⟨rfl,rfl⟩;go_wp2_with fail;go_ret2;exact ⟨rfl,hb⟩
 | false =>
  rw [if_neg (by simp)] at hQ;obtain ⟨K,hK⟩:=hin w1
  by_cases hlt:C<d.col
  ·rw [if_pos hlt] at hQ
   subst hQ;have hlt':(C:Int)<(d.col:Int):=by omega
   clear hin hst;go_enter Tryz.func148,Tryz.ntmps148;go_wp2_with fail;rw [hw1.out];refine (hem _).mono ?_;rintro e w2 ⟨rfl,rfl⟩;go_wp2_with fail;refine hK.mono ?_;rintro e w2 ⟨rfl,rfl⟩;go_wp2_with fail;go_ret2;exact ⟨rfl,hb⟩
  ·rw [if_neg hlt] at hQ
   subst hQ;have hlt':¬ (C:Int)<(d.col:Int):=by omega
   clear hin;go_enter Tryz.func148,Tryz.ntmps148;go_wp2_with fail;rw [hw1.out];refine (hem _).mono ?_;rintro e w2 ⟨rfl,rfl⟩;go_wp2_with fail;refine hK.mono ?_;rintro e w2 ⟨rfl,rfl⟩;go_wp2_with fail;refine (hst _).mono ?_;rintro e w2 ⟨rfl,hb2⟩;go_wp2_with fail;go_ret2;exact ⟨rfl,ag hb hb2⟩
theorem W6 (d:Pb.Cn) (A:Option Addr) (n k:Nat) (s:List UInt8) (w:World) (hl:s.length+100≤140737488355328) :
  Calls Tryz.prog 116 #[.agg (aJ d A n k),.string (bs s)] w fun e w'=>e=.returned (l8 (d.take s))∧Below w.heap.size w w':=by
 have hq:=fun w=>ve s w hl;have hit:=fun w=>Jx d A n k s w hl;have hb:=aa w (.cells (aJ d A n k) 76);have hnew:=heap_alloc_new w (.cells (aJ d A n k) 76);obtain ⟨w1,hw1⟩:∃ w1,w.alloc (.cells (aJ d A n k) 76)=w1:=⟨_,rfl⟩
 rw [hw1] at hb hnew;have z0:=cell_of hnew (j:=0) rfl;have z1:=cell_of hnew (j:=1) rfl;have z2:=cell_of hnew (j:=2) rfl;have z3:=cell_of hnew (j:=3) rfl;have z4:=cell_of hnew (j:=4) rfl;have z5:=cell_of hnew (j:=5) rfl;have z6:=cell_of hnew (j:=6) rfl;have z7:=cell_of hnew (j:=7) rfl;have z8:=cell_of hnew (j:=8) rfl;replace hw1:=Lib.hid hw1;replace hnew:=Lib.hid hnew
 by_cases h1:d.kind=1
 ·have t1:((d.kind:Int)==1)=true:=by rw [beq_iff_eq];omega
  have e:d.take s=Lf.quote s:=by unfold Pb.Cn.take;exact if_pos h1
  rw [e];obtain ⟨qt,qo,Zp⟩:=tV (Lf.quote s);rw [Zp] at hq ⊢;clear hit;go_enter Tryz.func116,Tryz.ntmps116;go_wp2_with fail;rw [hw1.out];refine (hq _).mono ?_;rintro e w2 ⟨rfl,hb2⟩;go_wp2_with fail;go_ret2;exact ⟨rfl,ag hb hb2⟩
 ·have t1:((d.kind:Int)==1)=false:=by rw [beq_eq_false_iff_ne];omega
  by_cases h3:d.kind=3
  ·have t3:((d.kind:Int)==3)=true:=by rw [beq_iff_eq];omega
   have e:d.take s=if Fn.emp s=true then some s else if Fn.cl s<d.col then none else some (Cl.strip d.col s):=by unfold Pb.Cn.take;rw [if_neg h1];exact if_pos h3
   rw [e];obtain ⟨qt,qo,Zp⟩:=tV (if Fn.emp s=true then some s else if Fn.cl s<d.col then none else some (Cl.strip d.col s));rw [Zp] at hit ⊢;have hk3:(d.kind:Int)=3:=by omega
   simp only [aJ] at hit;rw [hk3] at hit;replace hit:=Lib.hid hit;clear hq hk3;go_enter Tryz.func116,Tryz.ntmps116;go_wp2_with fail;rw [hw1.out];refine (hit.out _).mono ?_;rintro e w2 ⟨rfl,hb2⟩;go_wp2_with fail;go_ret2;exact ⟨rfl,ag hb hb2⟩
  ·have t3:((d.kind:Int)==3)=false:=by rw [beq_eq_false_iff_ne];omega
   have e:d.take s=some s:=by unfold Pb.Cn.take;rw [if_neg h1];exact if_neg h3
   rw [e];clear hq hit;go_enter Tryz.func116,Tryz.ntmps116;go_wp2_with fail;go_ret2;exact ⟨rfl,hw1.out▸hb⟩
def Nk (ln:Nat):Option (Option (UInt8×Nat)×List UInt8)→Value
 | none=>.tuple #[.agg (aJ ⟨0,0,[],0,0,none⟩ none 0 0),.string ⟨#[]⟩,.bool false]
 | some (o,q)=>.tuple #[.agg (aJ (Pb.fresh ln o) none 0 0),.string (bs q),.bool true]
def nine (w:World) (g:Nat) (a0 a1 a2 a3 a4 a5 a6 a7 a8:Value):World:=(((((((((w.setCell ⟨g,0,none⟩ a0).setCell ⟨g,1,none⟩ a1).setCell ⟨g,2,none⟩ a2).setCell ⟨g,3,none⟩ a3).setCell ⟨g,4,none⟩ a4).setCell ⟨g,5,none⟩ a5).setCell ⟨g,6,none⟩ a6).setCell ⟨g,7,none⟩ a7).setCell ⟨g,8,none⟩ a8)
theorem AQ {w:World}{g:Nat}{z0 z1 z2 z3 z4 z5 z6 z7 z8:Value}{t:TypeId}(h:w.heap[g]? = some (.cells #[z0,z1,z2,z3,z4,z5,z6,z7,z8] t (0,0))) (a0 a1 a2 a3 a4 a5 a6 a7 a8:Value):(nine w g a0 a1 a2 a3 a4 a5 a6 a7 a8).heap[g]? = some (.cells #[a0,a1,a2,a3,a4,a5,a6,a7,a8] t (0,0)):=by
 unfold nine;have h1:(w.setCell ⟨g,0,none⟩ a0).heap[g]? = some (.cells #[a0,z1,z2,z3,z4,z5,z6,z7,z8] t (0,0)):=heap_setCell_same w g 0 _ t a0 h;generalize hw1:(w.setCell ⟨g,0,none⟩ a0)=w1 at h1 ⊢;have h2:(w1.setCell ⟨g,1,none⟩ a1).heap[g]? = some (.cells #[a0,a1,z2,z3,z4,z5,z6,z7,z8] t (0,0)):=heap_setCell_same w1 g 1 _ t a1 h1;generalize hw2:(w1.setCell ⟨g,1,none⟩ a1)=w2 at h2 ⊢;have h3:(w2.setCell ⟨g,2,none⟩ a2).heap[g]? = some (.cells #[a0,a1,a2,z3,z4,z5,z6,z7,z8] t (0,0)):=heap_setCell_same w2 g 2 _ t a2 h2;generalize hw3:(w2.setCell ⟨g,2,none⟩ a2)=w3 at h3 ⊢;have h4:(w3.setCell ⟨g,3,none⟩ a3).heap[g]? = some (.cells #[a0,a1,a2,a3,z4,z5,z6,z7,z8] t (0,0)):=heap_setCell_same w3 g 3 _ t a3 h3;generalize hw4:(w3.setCell ⟨g,3,none⟩ a3)=w4 at h4 ⊢;have h5:(w4.setCell ⟨g,4,none⟩ a4).heap[g]? = some (.cells #[a0,a1,a2,a3,a4,z5,z6,z7,z8] t (0,0)):=heap_setCell_same w4 g 4 _ t a4 h4;generalize Qj:(w4.setCell ⟨g,4,none⟩ a4)=w5 at h5 ⊢;have h6:(w5.setCell ⟨g,5,none⟩ a5).heap[g]? = some (.cells #[a0,a1,a2,a3,a4,a5,z6,z7,z8] t (0,0)):=heap_setCell_same w5 g 5 _ t a5 h5;generalize WD:(w5.setCell ⟨g,5,none⟩ a5)=w6 at h6 ⊢;have h7:(w6.setCell ⟨g,6,none⟩ a6).heap[g]? = some (.cells #[a0,a1,a2,a3,a4,a5,a6,z7,z8] t (0,0)):=heap_setCell_same w6 g 6 _ t a6 h6;generalize hw7:(w6.setCell ⟨g,6,none⟩ a6)=w7 at h7 ⊢;have h8:(w7.setCell ⟨g,7,none⟩ a7).heap[g]? = some (.cells #[a0,a1,a2,a3,a4,a5,a6,a7,z8] t (0,0)):=heap_setCell_same w7 g 7 _ t a7 h7;generalize J3:(w7.setCell ⟨g,7,none⟩ a7)=w8 at h8 ⊢;have h9:(w8.setCell ⟨g,8,none⟩ a8).heap[g]? = some (.cells #[a0,a1,a2,a3,a4,a5,a6,a7,a8] t (0,0)):=heap_setCell_same w8 g 8 _ t a8 h8;exact h9
theorem oN {B:Nat}{w0 w:World}(hb:Below B w0 w) {g:Nat}(hg:B≤g) (a0 a1 a2 a3 a4 a5 a6 a7 a8:Value):Below B w0 (nine w g a0 a1 a2 a3 a4 a5 a6 a7 a8):=by
 unfold nine;exact (((((((((hb.setCell (p:=⟨g,0,none⟩) hg a0).setCell (p:=⟨g,1,none⟩) hg a1).setCell (p:=⟨g,2,none⟩) hg a2).setCell (p:=⟨g,3,none⟩) hg a3).setCell (p:=⟨g,4,none⟩) hg a4).setCell (p:=⟨g,5,none⟩) hg a5).setCell (p:=⟨g,6,none⟩) hg a6).setCell (p:=⟨g,7,none⟩) hg a7).setCell (p:=⟨g,8,none⟩) hg a8)
theorem RO (ln:Nat) (s:List UInt8) (w:World) (hl:s.length+100≤140737488355328) :
  Calls Tryz.prog 119 #[.int .i64 (ln:Int),.string (bs s)] w fun e w'=>e=.returned (Nk ln (Bk.opener s))∧Below w.heap.size w w':=by
 have hq:=fun w=>ve s w hl;have hit:=fun w=>J9 s w hl;have hb0:=aa w (.cells #[.int .i64 0,.int .i64 0,.string ⟨#[]⟩,.string ⟨#[]⟩,.int .i64 0,.slice none 0 0,.int .u8 0,.int .i64 0,.int .u8 0] 76);have hn0:=heap_alloc_new w (.cells #[.int .i64 0,.int .i64 0,.string ⟨#[]⟩,.string ⟨#[]⟩,.int .i64 0,.slice none 0 0,.int .u8 0,.int .i64 0,.int .u8 0] 76);have hz0:(w.alloc (.cells #[.int .i64 0,.int .i64 0,.string ⟨#[]⟩,.string ⟨#[]⟩,.int .i64 0,.slice none 0 0,.int .u8 0,.int .i64 0,.int .u8 0] 76)).heap.size=w.heap.size+1:=by simp
 obtain ⟨w1,hw1⟩:∃ w1,w.alloc (.cells #[.int .i64 0,.int .i64 0,.string ⟨#[]⟩,.string ⟨#[]⟩,.int .i64 0,.slice none 0 0,.int .u8 0,.int .i64 0,.int .u8 0] 76)=w1:=⟨_,rfl⟩
 rw [hw1] at hb0 hn0 hz0;replace hw1:=Lib.hid hw1;cases Qi:Lf.quote s with
 | some q =>
  have e:Bk.opener s=some (none,q):=by unfold Bk.opener;rw [Qi]
  rw [e];rw [Qi] at hq;simp only [l8] at hq;clear hit e Qi;go_enter Tryz.func119,Tryz.ntmps119;go_wp2_with fail;rw [hw1.out];refine (hq _).mono ?_;rintro e w2 ⟨rfl,hb2⟩;have hn2:=(hb2.block w.heap.size (by omega)).trans hn0;have z0:=cell_of hn2 (j:=0) rfl;have z1:=cell_of hn2 (j:=1) rfl;have z2:=cell_of hn2 (j:=2) rfl;have z3:=cell_of hn2 (j:=3) rfl;have z4:=cell_of hn2 (j:=4) rfl;have z5:=cell_of hn2 (j:=5) rfl;have z6:=cell_of hn2 (j:=6) rfl;have z7:=cell_of hn2 (j:=7) rfl;have z8:=cell_of hn2 (j:=8) rfl;have zf:=aW hn2;have hb3:=hb0.trans (hb2.mono (by omega));replace hn2:=Lib.hid hn2;replace hn0:=Lib.hid hn0;go_wp2_with fail;have hW:=AQ hn2.out (.int .i64 1) (.int .i64 0) (.string ⟨#[]⟩) (.string ⟨#[]⟩) (.int .i64 (ln:Int)) (.slice none 0 0) (.int .u8 0) (.int .i64 0) (.int .u8 0);have hBW:=oN hb3 (Nat.le_refl _) (.int .i64 1) (.int .i64 0) (.string ⟨#[]⟩) (.string ⟨#[]⟩) (.int .i64 (ln:Int)) (.slice none 0 0) (.int .u8 0) (.int .i64 0) (.int .u8 0);change bodyPost _ _ _ _ _ (nine w2 w.heap.size (.int .i64 1) (.int .i64 0) (.string ⟨#[]⟩) (.string ⟨#[]⟩) (.int .i64 (ln:Int)) (.slice none 0 0) (.int .u8 0) (.int .i64 0) (.int .u8 0));generalize (nine w2 w.heap.size (.int .i64 1) (.int .i64 0) (.string ⟨#[]⟩) (.string ⟨#[]⟩) (.int .i64 (ln:Int)) (.slice none 0 0) (.int .u8 0) (.int .i64 0) (.int .u8 0))=wz at hW hBW ⊢;have y0:=cell_of hW (j:=0) rfl;have y1:=cell_of hW (j:=1) rfl;have y2:=cell_of hW (j:=2) rfl;have y3:=cell_of hW (j:=3) rfl;have y4:=cell_of hW (j:=4) rfl;have y5:=cell_of hW (j:=5) rfl;have y6:=cell_of hW (j:=6) rfl;have y7:=cell_of hW (j:=7) rfl;have y8:=cell_of hW (j:=8) rfl;clear z0 z1 z2 z3 z4 z5 z6 z7 z8 zf;exact bodyPost_ret (v:=.tuple #[.agg #[.int .i64 1,.int .i64 0,.string ⟨#[]⟩,.string ⟨#[]⟩,.int .i64 (ln:Int),.slice none 0 0,.int .u8 0,.int .i64 0,.int .u8 0],.string (bs q),.bool true]) (by rw [cm rfl];go_simp) rfl ⟨rfl,hBW⟩
 | none =>
  rw [Qi] at hq;simp only [l8] at hq;cases Ws:Lf.item s with
  | none =>
   have e:Bk.opener s=none:=by unfold Bk.opener;rw [Qi,Ws]
   rw [e];rw [Ws] at hit;simp only [zw] at hit;clear e Qi Ws;go_enter Tryz.func119,Tryz.ntmps119;go_wp2_with fail;rw [hw1.out];refine (hq _).mono ?_;rintro e w2 ⟨rfl,hb2⟩;go_wp2_with fail;refine (hit _).mono ?_;rintro e w3 ⟨rfl,PV⟩;replace hb2:=ag hb2 PV;have hn2:=(hb2.block w.heap.size (by omega)).trans hn0;have z0:=cell_of hn2 (j:=0) rfl;have z1:=cell_of hn2 (j:=1) rfl;have z2:=cell_of hn2 (j:=2) rfl;have z3:=cell_of hn2 (j:=3) rfl;have z4:=cell_of hn2 (j:=4) rfl;have z5:=cell_of hn2 (j:=5) rfl;have z6:=cell_of hn2 (j:=6) rfl;have z7:=cell_of hn2 (j:=7) rfl;have z8:=cell_of hn2 (j:=8) rfl;have zf:=aW hn2;have hb3:=hb0.trans (hb2.mono (by omega));replace hn2:=Lib.hid hn2;replace hn0:=Lib.hid hn0;clear PV;go_wp2_with fail;have hW:=AQ hn2.out (.int .i64 0) (.int .i64 0) (.string ⟨#[]⟩) (.string ⟨#[]⟩) (.int .i64 0) (.slice none 0 0) (.int .u8 0) (.int .i64 0) (.int .u8 0);have hBW:=oN hb3 (Nat.le_refl _) (.int .i64 0) (.int .i64 0) (.string ⟨#[]⟩) (.string ⟨#[]⟩) (.int .i64 0) (.slice none 0 0) (.int .u8 0) (.int .i64 0) (.int .u8 0);change bodyPost _ _ _ _ _ (nine w3 w.heap.size (.int .i64 0) (.int .i64 0) (.string ⟨#[]⟩) (.string ⟨#[]⟩) (.int .i64 0) (.slice none 0 0) (.int .u8 0) (.int .i64 0) (.int .u8 0));generalize (nine w3 w.heap.size (.int .i64 0) (.int .i64 0) (.string ⟨#[]⟩) (.string ⟨#[]⟩) (.int .i64 0) (.slice none 0 0) (.int .u8 0) (.int .i64 0) (.int .u8 0))=wz at hW hBW ⊢;have y0:=cell_of hW (j:=0) rfl;have y1:=cell_of hW (j:=1) rfl;have y2:=cell_of hW (j:=2) rfl;have y3:=cell_of hW (j:=3) rfl;have y4:=cell_of hW (j:=4) rfl;have y5:=cell_of hW (j:=5) rfl;have y6:=cell_of hW (j:=6) rfl;have y7:=cell_of hW (j:=7) rfl;have y8:=cell_of hW (j:=8) rfl;clear z0 z1 z2 z3 z4 z5 z6 z7 z8 zf;exact bodyPost_ret (v:=.tuple #[.agg #[.int .i64 0,.int .i64 0,.string ⟨#[]⟩,.string ⟨#[]⟩,.int .i64 0,.slice none 0 0,.int .u8 0,.int .i64 0,.int .u8 0],.string ⟨#[]⟩,.bool false]) (by rw [cm rfl];go_simp) rfl ⟨rfl,hBW⟩
  | some it =>
   obtain ⟨sg,cn,q⟩:=it;have e:Bk.opener s=some (some (sg,cn),q):=by unfold Bk.opener;rw [Qi,Ws]
   rw [e];rw [Ws] at hit;simp only [zw] at hit;clear e Qi Ws;go_enter Tryz.func119,Tryz.ntmps119;go_wp2_with fail;rw [hw1.out];refine (hq _).mono ?_;rintro e w2 ⟨rfl,hb2⟩;go_wp2_with fail;refine (hit _).mono ?_;rintro e w3 ⟨rfl,PV⟩;replace hb2:=ag hb2 PV;have hn2:=(hb2.block w.heap.size (by omega)).trans hn0;have z0:=cell_of hn2 (j:=0) rfl;have z1:=cell_of hn2 (j:=1) rfl;have z2:=cell_of hn2 (j:=2) rfl;have z3:=cell_of hn2 (j:=3) rfl;have z4:=cell_of hn2 (j:=4) rfl;have z5:=cell_of hn2 (j:=5) rfl;have z6:=cell_of hn2 (j:=6) rfl;have z7:=cell_of hn2 (j:=7) rfl;have z8:=cell_of hn2 (j:=8) rfl;have zf:=aW hn2;have hb3:=hb0.trans (hb2.mono (by omega));replace hn2:=Lib.hid hn2;replace hn0:=Lib.hid hn0;clear PV;go_wp2_with fail;have hW:=AQ hn2.out (.int .i64 3) (.int .i64 0) (.string ⟨#[]⟩) (.string ⟨#[]⟩) (.int .i64 (ln:Int)) (.slice none 0 0) (.int .u8 (sg.toNat:Int)) (.int .i64 (cn:Int)) (.int .u8 0);have hBW:=oN hb3 (Nat.le_refl _) (.int .i64 3) (.int .i64 0) (.string ⟨#[]⟩) (.string ⟨#[]⟩) (.int .i64 (ln:Int)) (.slice none 0 0) (.int .u8 (sg.toNat:Int)) (.int .i64 (cn:Int)) (.int .u8 0);change bodyPost _ _ _ _ _ (nine w3 w.heap.size (.int .i64 3) (.int .i64 0) (.string ⟨#[]⟩) (.string ⟨#[]⟩) (.int .i64 (ln:Int)) (.slice none 0 0) (.int .u8 (sg.toNat:Int)) (.int .i64 (cn:Int)) (.int .u8 0));generalize (nine w3 w.heap.size (.int .i64 3) (.int .i64 0) (.string ⟨#[]⟩) (.string ⟨#[]⟩) (.int .i64 (ln:Int)) (.slice none 0 0) (.int .u8 (sg.toNat:Int)) (.int .i64 (cn:Int)) (.int .u8 0))=wz at hW hBW ⊢;have y0:=cell_of hW (j:=0) rfl;have y1:=cell_of hW (j:=1) rfl;have y2:=cell_of hW (j:=2) rfl;have y3:=cell_of hW (j:=3) rfl;have y4:=cell_of hW (j:=4) rfl;have y5:=cell_of hW (j:=5) rfl;have y6:=cell_of hW (j:=6) rfl;have y7:=cell_of hW (j:=7) rfl;have y8:=cell_of hW (j:=8) rfl;clear z0 z1 z2 z3 z4 z5 z6 z7 z8 zf;exact bodyPost_ret (v:=.tuple #[.agg #[.int .i64 3,.int .i64 0,.string ⟨#[]⟩,.string ⟨#[]⟩,.int .i64 (ln:Int),.slice none 0 0,.int .u8 (sg.toNat:Int),.int .i64 (cn:Int),.int .u8 0],.string (bs q),.bool true]) (by rw [cm rfl];go_simp) rfl ⟨rfl,hBW⟩
theorem vR {l q:List UInt8}(h:Lf.quote l=some q):q.length≤l.length+3:=by
 unfold Lf.quote at h;have hr:(Fn.rs l).length≤l.length:=by unfold Fn.rs;rw [List.length_drop];omega
 split at h
 ·cases h
 ·rename_i c r Ri
  rw [Ri,List.length_cons] at hr
  split at h
  ·cases h
   have:=Cl.nW 1 r;omega
  ·cases h
theorem sN {d:Pb.Cn}{s q:List UInt8}(h:d.take s=some q):q.length≤s.length+3:=by
 unfold Pb.Cn.take at h
 split at h
 ·exact vR h
 ·split at h
  ·split at h
   ·cases h;omega
   ·split at h
    ·cases h
    ·cases h;have:=Cl.nW (d.col:Int) s;omega
  ·cases h;omega
theorem Uz {row:List MC}{i:Nat}(h:i<row.length):∃ x,iY row i=some x∧(row.map (·.c)).reverse[i]? = some x.c∧∀ j,j<9→(aU row)[i*9+j]? = (cq x)[j]? := by
 induction row with
 | nil=>simp at h
 | cons y o ih =>
  by_cases hi:i=o.length
  ·subst hi
   refine ⟨y,cT y o,?_,fun j hj=>?_⟩
   ·rw [List.map_cons,List.reverse_cons,List.getElem?_append_right (by simp)];simp
   ·rw [aU,List.getElem?_append_right (by rw [b7];omega),b7,Nat.add_sub_cancel_left]
  ·obtain ⟨x,h1,h2,h3⟩:=ih (by simp only [List.length_cons] at h;omega)
   simp only [List.length_cons] at h;refine ⟨x,by rw [qh y o hi];exact h1,?_,fun j hj=>?_⟩
   ·rw [List.map_cons,List.reverse_cons,List.getElem?_append_left (by simp;omega)];exact h2
   ·rw [aU,List.getElem?_append_left (by rw [b7];omega)];exact h3 j hj
def Pb.sM (L:List Pb.Cn) (i:Nat) (s:List UInt8):Nat×List UInt8:=((Pb.take (L.drop i) s).1+i,(Pb.take (L.drop i) s).2)
theorem Le {L:List Pb.Cn}{i:Nat}(h:¬ i<L.length) (s:List UInt8):Pb.sM L i s=(i,s):=by
 unfold Pb.sM;rw [List.drop_eq_nil_of_le (by omega)];simp [Pb.take]
theorem ON {L:List Pb.Cn}{i:Nat}{d:Pb.Cn}(h:L[i]? = some d) (s:List UInt8):Pb.sM L i s=match d.take s with
  | none=>(i,s)
  | some q=>Pb.sM L (i+1) q:=by
 obtain ⟨hi,e⟩:=List.getElem?_eq_some_iff.1 h;unfold Pb.sM;rw [List.drop_eq_getElem_cons hi,e,Pb.take];cases d.take s with
 | none=>simp
 | some q=>simp only;rw [Nat.add_assoc,Nat.add_comm 1 i]
theorem P4 (w:World) (B:Nat) (E:Nat→Option Part) (R:Nat) (rv lv pv:Value) (M:Mm) (row:List MC) (l:Pb.Of) (ps:List Bk.Pl) (h:cC w B E R rv lv pv M row l ps) (hrl:row.length≤41) (s:List UInt8) (hs:s.length+1000≤140737488355328) :
  Calls Tryz.prog 78 #[BD R,.string (bs s)] w fun e w'=>e=.returned (.tuple #[.int .i64 ((Pb.take (row.map (·.c)).reverse s).1:Int),.string (bs (Pb.take (row.map (·.c)).reverse s).2)])∧Below w.heap.size w w':=by
 obtain ⟨hR1,hR2,ry,c0,_⟩:=aI h;have ho:=h.hp.own (k:=.row) rfl;obtain ⟨rA,rc,iE,hrc⟩:=ak ho;rw [iE] at c0 ho;have hat:=fun i (hi:i<row.length)=>Uz hi;have hkv:=fun i x (hx:iY row i=some x)=>ak (h.hp.own (k:=.kid i) (by show (iY row i).map dx=some (dx x);rw [hx];rfl));obtain ⟨L,hL⟩:∃ L,(row.map (·.c)).reverse=L:=⟨_,rfl⟩
 have Wo:L.length=row.length:=by rw [← hL];simp
 rw [hL] at hat ⊢;obtain ⟨T,hT⟩:∃ T,Pb.take L s=T:=⟨_,rfl⟩
 rw [hT];have WB:Pb.sM L 0 s=T:=by rw [← hT];simp [Pb.sM]
 obtain ⟨n,hn⟩:∃ n,row.length=n:=⟨_,rfl⟩
 rw [hn] at c0 ho hrl hrc hat Wo;have hr:=Row.own ho;have hrow:0<n→∃ b,rA=some ⟨b,0,none⟩∧b<w.heap.size∧∀ j u,(aU row)[j]? = some u→w.cell? ⟨b,j,none⟩=some u:=fun h0=>by
  obtain ⟨g,c,cur,hv,_,_,hw,_⟩:=gK ho h0;cases hv;exact ⟨g,rfl,(Array.getElem?_eq_some_iff.1 hw).1,fun j u hj=>ij ho hj⟩
 replace h:=Lib.hid h;replace WB:=Lib.hid WB;clear hT hr ho hn ry;go_enter Tryz.func78,Tryz.ntmps78;go_wp2_with fail
 go_loopw [1,15] (fun t u wr=>∃ (i:Nat) (q:List UInt8),i≤n∧t=.string (bs q)∧u=.int .i64 (i:Int)∧q.length≤s.length+3*i∧Hid (Pb.sM L i q=T)∧Hid (Below w.heap.size w wr)) (fun _ u _=>n-(intOf u).toNat)
 case atStart=>exact ⟨0,s,Nat.zero_le _,rfl,rfl,by omega,WB,Lib.hid (Below.refl _ _)⟩
 case round =>
  obtain ⟨i,q,hi,rfl,rfl,hq,hTi,hb⟩:=hrel;rcases Nat.lt_or_eq_of_le hi with hlt | hie
  ·obtain ⟨x,hx1,hx2,hx3⟩:=hat i hlt
   obtain ⟨b,rfl,oa,hbc⟩:=hrow (by omega);obtain ⟨kA,kc,X8,_⟩:=hkv i x hx1;have wv:=fun (j:Nat) (u:Value) (hj:(aJ x.c kA x.c.all.length kc)[j]? = some u)=>(hb.out.cell (p:=⟨b,i*9+j,none⟩) oa).trans (hbc (i*9+j) u (by
    have e:cq x=(aJ x.c kA x.c.all.length kc).toList:=by unfold cq;rw [X8]
    have hj9:j<9:=(Array.getElem?_eq_some_iff.1 hj).1;rw [hx3 j hj9,e];simpa using hj))
   have k0:=wv 0 _ rfl;have k1:=wv 1 _ rfl;have k2:=wv 2 _ rfl;have k3:=wv 3 _ rfl;have k4:=wv 4 _ rfl;have k5:=wv 5 _ rfl;have k6:=wv 6 _ rfl;have k7:=wv 7 _ rfl;have k8:=wv 8 _ rfl;rw [Nat.add_zero] at k0;have hF:=ON hx2 q;rw [hTi.out] at hF;have htl:=fun q' (e:x.c.take q=some q')=>sN e;have hnl:n≤rc:=hrc;have Qp:=fun w=>W6 x.c kA x.c.all.length kc q w (by omega);obtain ⟨d,hd⟩:∃ d,x.c=d:=⟨_,rfl⟩
   obtain ⟨kn,hkn⟩:∃ kn,d.all.length=kn:=⟨_,rfl⟩
   rw [hd] at k0 k4 k5 k6 k7 k8 Qp hF htl;rw [hkn] at k5 Qp;replace Qp:=Lib.hid Qp;replace hF:=Lib.hid hF;have hbz:=hb.out.size;have hi0:(0:Int)≤(i:Int):=by omega
   have hi1:(i:Int)<(n:Int):=by omega
   clear wv hx1 hx2 hx3 X8 hd hkn hbc hat hkv hrow;have hba:=aa wr (.cells (aJ d kA kn kc) 76);have hna:=heap_alloc_new wr (.cells (aJ d kA kn kc) 76);cases htk:d.take q with
   | none =>
    have hF':=hF.out;rw [htk] at Qp hF';simp only [l8] at Qp hF';replace hF':=Lib.hid hF';go_wp2_with fail;refine (Qp.out _).mono ?_;rintro e w2 ⟨rfl,hb2⟩;have oI:=Lib.hid (hb.out.trans ((ag hba hb2).mono hbz));go_wp2_with fail;go_ret2;exact ⟨by rw [hF'.out];rfl,oI.out⟩
   | some q' =>
    have hF':=hF.out;have adD:=htl q' htk;rw [htk] at Qp hF';simp only [l8] at Qp hF';replace hF':=Lib.hid hF'.symm;go_wp2_with fail;refine (Qp.out _).mono ?_;rintro e w2 ⟨rfl,hb2⟩;have oI:=Lib.hid (hb.out.trans ((ag hba hb2).mono hbz));clear htl;go_wp2_with fail
    go_roundw
    case rel=>exact ⟨i+1,q',by omega,rfl,by go_num,by omega,hF',oI⟩
    case measure=>simp [intOf];omega
  ·have hF':=hTi.out
   rw [Le (by omega)] at hF';have UN:wr.cell? ⟨R,0,none⟩=some (.slice rA n rc):=(hb.out.cell (p:=⟨R,0,none⟩) hR2).trans c0;subst hie;replace hF':=Lib.hid hF';clear hat hkv hrow c0;go_wp2_with fail;go_ret2;exact ⟨by rw [← hF'.out];rfl,hb.out⟩
theorem tY {P:Program}{w:World}{T ty:TypeId}{E:TypeId}{size bytes:Nat}(hE:EI P T E size bytes) {base n:Nat}{v:Value}{xs:List Value}(hown:w.ownsRow base E size v n xs)
  {B m c:Nat}{A:Option Addr}{news:List Value}(hr:Row w B size A m news) (h1:∀ u∈news,u.oneCell'=true) (h63:n+m≤1000000000) (hbytes:bytes≤100000) (hbase:base≤w.heap.size) :
  ∃ v' w',(Builtin.append_ #[T,T] ty #[v,.slice A m c]).run P w=.ok v' w'∧w'.ownsRow base E size v' (n+m) (xs++news)∧w.grownBy w' v.ownBlock∧At w.heap.size v v':=by
 obtain ⟨i,z,hi,hz,hs1,hs2,LW⟩:=hE.info;rcases Nat.eq_zero_or_pos m with h0 | h0
 ·subst h0
  have hn:news=[]:=List.eq_nil_of_length_eq_zero (by simpa using hr.1);subst hn;refine ⟨v,w,?_,by simpa using hown,World.grownBy.refl w _,fun _ h=>.inl h⟩;rcases A with _ | ad
  ·rcases hown.2 with ⟨rfl,rfl⟩ | ⟨g,cap,cur,rfl,_,_,hnc,_⟩
   ·simp [Builtin.append_,run_underlying hE.ht,sizeOf,typeInfo,hi,Builtin.lenOf,Builtin.firstCells]
   ·simp [Builtin.append_,run_underlying hE.ht,sizeOf,typeInfo,hi,Builtin.lenOf,Builtin.firstCells,hnc,storeCells]
  ·rcases hown.2 with ⟨rfl,rfl⟩ | ⟨g,cap,cur,rfl,_,_,hnc,_⟩
   ·simp [Builtin.append_,run_underlying hE.ht,sizeOf,typeInfo,hi,Builtin.lenOf,Builtin.firstCells,loadCells,loadCellsFrom]
   ·simp [Builtin.append_,run_underlying hE.ht,sizeOf,typeInfo,hi,Builtin.lenOf,Builtin.firstCells,loadCells,loadCellsFrom,hnc,storeCells]
 ·obtain ⟨b,o,rfl,_,hc⟩:=hr.2 h0
  have hcell:∀ j u,news[j]? = some u→w.cell? ((⟨b,o,none⟩:Addr).add j)=some u:=by
   intro j u hu;have:(⟨b,o,none⟩:Addr).add j=⟨b,o+j,none⟩:=by unfold Addr.add;split<;>simp_all
   rw [this];exact hc j u hu
  obtain ⟨v',w',h2,h3,h4,_,h5⟩:=run_append_own_at (P:=P) w base T ty E i z size bytes hE.ht hi hz hs1 hs2 LW hE.pos v n xs hown ⟨b,o,none⟩ m c news hr.1 hcell h1
   (by unfold maxLen;omega) (by have:=Nat.mul_le_mul h63 hbytes;omega) hbase
  refine ⟨v',w',h2,h3,h4,fun q hq=>?_⟩;rcases h5 with e | e
  ·rw [e] at hq;exact .inl hq
  ·rw [e] at hq;simp at hq;exact .inr (by omega)
theorem vV {P:Program}{w:World}{o:Oper}{a:Act}{K:Act→World→Prop}{Q:Exit→Act→World→Prop}(s x:Operand) {T:TypeId}
  (ho:o.op=.call { callee:=.builtin .append,args:=#[s,x],argTypes:=#[T,T] })
  {E:TypeId}{size bytes:Nat}(hE:EI P T E size bytes) {base n:Nat}{v:Value}{xs:List Value}(hs:a.eval s=v) (hown:w.ownsRow base E size v n xs)
  {B m c:Nat}{A:Option Addr}{news:List Value}(hx:a.eval x=.slice A m c) (hr:Row w B size A m news) (h1:∀ u∈news,u.oneCell'=true) (h63:n+m≤1000000000) (hbytes:bytes≤100000) (hbase:base≤w.heap.size)
  (h:∀ v' w',w'.ownsRow base E size v' (n+m) (xs++news)→Hid (w.grownBy w' v.ownBlock)→Below base w w'→Hid (At w.heap.size v v')→K (a.put o.dst v') w'):o.wp P a w K Q:=by
 obtain ⟨v',w',hrun,h2,h3,h4⟩:=tY (ty:=o.type) (c:=c) hE hown hr h1 h63 hbytes hbase;unfold Oper.wp execOp;simp only [ho,resolve,invoke,builtin,Sem.run_bind,Sem.run_pure,Result.andThen_ok,List.map_toArray,List.map_cons,List.map_nil,hs,hx,hrun];exact h v' w' h2 h3 (gZ (Below.refl _ _) hown (Below.refl _ _) h3 hbase) h4
theorem VD:EI Tryz.prog 66 76 9 104:=EI.mk' (z:=.agg #[.int .i64 0,.int .i64 0,.string ⟨#[]⟩,.string ⟨#[]⟩,.int .i64 0,.slice none 0 0,.int .u8 0,.int .i64 0,.int .u8 0]) Tryz.underlying66 (by kernel_rfl) rfl (by omega)
theorem sU {r:Pb.Rd}{k:Nat}(h1:1≤k) (h2:k≤r.row.length):(Pb.aR k r).row.length=k:=by
 have hl:(Pb.aO r).row.length=r.row.length:=by
  have ha:∀ t,(Pb.cI t r).row.length=r.row.length:=fun t=>by
   unfold Pb.cI;cases hr:r.row with
   | nil=>simp [hr]
   | cons c o=>simp
  unfold Pb.aO
  split
  ·exact ha _
  ·split
   ·exact ha _
   ·rfl
 show (Pb.pz ((Pb.aO r).row.length-k) (Pb.aO r).row).length=k;rw [wB _ _ (by omega)];omega
theorem FA {s q:List UInt8}{o:Option (UInt8×Nat)}(h:Bk.opener s=some (o,q)):q.length≤s.length+3∧∀ c n,o=some (c,n)→c≠0:=by
 unfold Bk.opener at h;cases hq:Lf.quote s with
 | some q' =>
  rw [hq] at h;cases h;exact ⟨vR hq,fun c n e=>by cases e⟩
 | none =>
  rw [hq] at h;cases hi:Lf.item s with
  | none=>rw [hi] at h;cases h
  | some t =>
   obtain ⟨c,n,r⟩:=t;rw [hi] at h;cases h;have hr:(Fn.rs s).length≤s.length:=by unfold Fn.rs;rw [List.length_drop];omega
   unfold Lf.item at hi
   split at hi
   ·cases hi
   ·rename_i c' r' Ri
    rw [Ri,List.length_cons] at hr
    split at hi
    ·rename_i XS
     have hc0:c'≠0:=fun e=>by subst e;have:=XS.2.1;revert this;decide
     split at hi
     ·cases hi
      exact ⟨by simp,fun c n e=>by cases e;exact hc0⟩
     ·cases hi
      have:=Cl.nW (Lf.inner (Fn.cl r'):Int) r';exact ⟨by omega,fun c n e=>by cases e;exact hc0⟩
    ·cases hi
theorem QA {N i:Nat}{r:Pb.Rd}(h:Pb.Sz N i r) (hl:r.row.length<41) (ln:Nat) (o:Option (UInt8×Nat)) (hc:∀ c n,o=some (c,n)→c≠0):Pb.Sz N i (Pb.push (Pb.fresh ln o) r):=by
 have e:(Pb.fresh ln o).all=[]∧(Pb.fresh ln o).lst=none:=by cases o<;>exact ⟨rfl,rfl⟩
 refine ⟨by simp [Pb.push],by simp only [Pb.push,List.length_cons];omega,fun c hc'=>?_,fun c hc' s ln is e2=>?_,fun c hc' e2=>?_,h.lines,h.text,h.line,h.pls⟩
 ·rcases List.mem_cons.1 hc' with rfl | hc'
  ·rw [e.1];simp
  ·exact h.kids c hc'
 ·rcases List.mem_cons.1 hc' with rfl | hc'
  ·rw [e.2] at e2;cases e2
  ·exact h.itms c hc' s ln is e2
 ·rcases List.mem_cons.1 hc' with rfl | hc'
  ·cases o with
   | none=>cases e2
   | some p=>obtain ⟨c,n⟩:=p;exact hc c n rfl
  ·exact h.sign c hc' e2
section
variable {w w':World}{B R:Nat}{E:Nat→Option Part}{rv lv pv:Value}{M:Mm}{row:List MC}{l:Pb.Of}{ps:List Bk.Pl}
theorem K8 (h:cC w B E R rv lv pv M row l ps) (d:Pb.Cn) (Yu:d.all=[]) (yq:d.lst=none) (Yq:d.kids=[]) {w3:World}{v:Value}(hown:w3.ownsRow B 76 9 v (row.length+1) (aU row++(aJ d none 0 0).toList)) (hg:w.grownBy w3 rv.ownBlock) (hat:At w.heap.size rv v) :
  B≤R∧R<w3.heap.size∧w3.cell? ⟨R,0,none⟩=some rv∧(∀ j,w3.frozen? ⟨R,j,none⟩=false)∧cC (w3.setCell ⟨R,0,none⟩ v) B E R v lv pv M (⟨d,.slice none 0 0,[],.slice none 0 0,[]⟩::row) l ps:=by
 have H1:=h.hp.uo (k:=.row) (.row 76 9 v (row.length+1) (aU row++(aJ d none 0 0).toList)) rfl hg hown hat;obtain ⟨TS,N6,Ty⟩:=H1.base (k:=.rd) rfl;have m3:=H1.AB (k:=.rd) 0 v rfl;have m4:=m3.yJ (k:=.kid row.length) (.row 32 6 (.slice none 0 0) 0 []) (by
  rw [ai _ _ (by simp),ai _ _ (by simp)];show (iY row row.length).map dx=none;rw [qU (Nat.le_refl _)];rfl) (Below.refl _ _) (World.ownsRow_nil _ _ _ _) (fun g e=>by cases e)
 refine ⟨TS,N6,cell_of Ty rfl,aW Ty,m4.same fun j=>?_,fun y hy=>?_,h.old⟩
 ·cases j with
  | kid i =>
   show (iY (_::row) i).map dx=_
   by_cases hi:i=row.length
   ·subst hi
    rw [cT,upd_same];show some (Part.row _ 6 (.slice none 0 0) d.all.length ([]++bt (.slice none 0 0) d.lst))=_;rw [Yu,yq];rfl
   ·rw [qh _ row hi,ai _ _ (by simpa using hi),ai _ _ (by simp),ai _ _ (by simp)];rfl
  | itm i =>
   show (iY (_::row) i).bind ck=_;rw [ai _ _ (by simp),ai _ _ (by simp),ai _ _ (by simp)]
   by_cases hi:i=row.length
   ·subst hi
    rw [cT];show ck _=(iY row row.length).bind ck;rw [qU (Nat.le_refl _)];unfold ck;simp only;rw [yq];rfl
   ·rw [qh _ row hi];rfl
  | row =>
   rw [ai _ _ (by simp),ai _ _ (by simp),upd_same];show some (Part.row _ 9 v (row.length+1) (aU row++cq _))=_
   rfl
  | rd=>rw [ai _ _ (by simp),upd_same];rfl
  | _=>rw [ai _ _ (by simp),ai _ _ (by simp),ai _ _ (by simp)];rfl
 ·rcases List.mem_cons.1 hy with rfl | hy
  ·refine ⟨?_,fun s ln is e=>?_⟩
   ·show tL M d.kids []
    rw [Yq];exact nY
   ·rw [show (MC.mk d (.slice none 0 0) [] (.slice none 0 0) []).c.lst=d.lst from rfl,yq] at e;cases e
  ·exact h.good y hy
end
def Sj (R cb:Nat) (rv:Value) (cs:Array Value) (u:World):Prop:=u.cell? ⟨R,0,none⟩=some rv∧u.heap[cb]? = some (.cells cs 76 (0,0))
theorem UA (w:World) (B:Nat) (E:Nat→Option Part) (R:Nat) (r:Pb.Rd) (h:PS w B E R r) {N i:Nat}(hs:Pb.Sz N i r) (hN:N≤800000000) (hi:i≤100000) (ln k:Nat) (hk:1≤k) (hkr:k≤r.row.length) (s:List UInt8) (pE:s.length+1000≤1000000000) :
  Calls Tryz.prog 80 #[BD R,.int .i64 (ln:Int),.int .i64 (k:Int),.string (bs s)] w fun e w'=>e=.returned (.tuple #[.int .i64 ((Pb.begin ln (41-k) k r s).2.1:Int),.string (bs (Pb.begin ln (41-k) k r s).2.2)]) ∧
   PS w' B E R (Pb.begin ln (41-k) k r s).1∧Pb.Sz (N+2000) i (Pb.begin ln (41-k) k r s).1∧1≤(Pb.begin ln (41-k) k r s).2.1∧(Pb.begin ln (41-k) k r s).2.1≤(Pb.begin ln (41-k) k r s).1.row.length∧(Pb.begin ln (41-k) k r s).2.2.length≤s.length+130∧Below B w w':=by
 have Bb:=hs.few;obtain ⟨G,hG⟩:∃ G,Pb.begin ln (41-k) k r s=G:=⟨_,rfl⟩
 rw [hG];replace hG:=Lib.hid hG;replace hs:=Lib.hid hs;replace h:=Lib.hid h;go_enter Tryz.func80,Tryz.ntmps80;go_wp2_with fail
 go_loopw [2,3] (fun u t wr=>∃ (j:Nat) (r1:Pb.Rd) (s1:List UInt8),u=.int .i64 (j:Int)∧t=.string (bs s1)∧k≤j∧j≤41∧s1.length+3*k≤s.length+3*j∧Hid (Pb.begin ln (41-j) j r1 s1=G)∧Hid (PS wr B E R r1)∧Hid (Pb.Sz (N+43*(j-k)) i r1)∧Hid (j≤r1.row.length)∧Hid (Below B w wr)) (fun u _ _=>41-(intOf u).toNat)
 case atStart=>exact ⟨k,r,s,rfl,rfl,Nat.le_refl _,by omega,by omega,hG,h,Lib.hid (by rw [Nat.sub_self];exact hs.out),Lib.hid hkr,Lib.hid (Below.refl _ _)⟩
 case round =>
  obtain ⟨j,r1,s1,rfl,rfl,hkj,Xn,adC,hGj,hP,hz,K1,hb⟩:=hrel;have q0:=Lib.hid Xn;have q1:=Lib.hid (show N+43*(j-k)≤N+2000 by omega);have q2:=Lib.hid (show 1≤j by omega);have q3:=Lib.hid (show s1.length≤s.length+130 by omega);rcases Nat.lt_or_eq_of_le Xn with hlt | Qv
  ·have hfu:41-j=(40-j)+1:=by omega
   have mU:=hGj.out;rw [hfu,Pb.begin] at mU;have uS:=fun w=>RO ln s1 w (by omega);have Zk:(j:Int)<41:=by omega
   cases ho:Bk.opener s1 with
   | none =>
    rw [ho] at uS mU;simp only [Nk] at uS mU;replace mU:=Lib.hid mU;replace uS:=Lib.hid uS;go_wp2_with fail;refine (uS.out _).mono ?_;rintro e w2 ⟨rfl,hb2⟩;obtain ⟨rv,lv,pv,M,row,hrow,hA⟩:=hP.out;have ug:B≤wr.heap.size:=by have:=aI hA;omega
    have hnew:=ag hb2 (aa w2 (.cells #[.int .i64 0,.int .i64 0,.string ⟨#[]⟩,.string ⟨#[]⟩,.int .i64 0,.slice none 0 0,.int .u8 0,.int .i64 0,.int .u8 0] 76));have Bq:=Lib.hid (⟨rv,lv,pv,M,row,hrow,cC.mk (hA.hp.ext hnew) hA.good hA.old⟩:PS (w2.alloc (.cells #[.int .i64 0,.int .i64 0,.string ⟨#[]⟩,.string ⟨#[]⟩,.int .i64 0,.slice none 0 0,.int .u8 0,.int .i64 0,.int .u8 0] 76)) B E R r1);have oI:=Lib.hid (hb.out.trans (hnew.mono ug));clear hA hnew;go_wp2_with fail;go_ret2;rw [← mU.out];exact ⟨rfl,Bq.out,hz.out.mono q1.out (Nat.le_refl _),q2.out,K1.out,q3.out,oI.out⟩
   | some oq =>
    obtain ⟨o,q⟩:=oq;obtain ⟨hql,hqs⟩:=FA ho;rw [ho] at uS mU;simp only [Nk] at uS mU;obtain ⟨d,hd⟩:∃ d,Pb.fresh ln o=d:=⟨_,rfl⟩
    have Yq:d.all=[]∧d.lst=none∧d.kids=[]:=by rw [← hd];cases o<;>exact ⟨rfl,rfl,rfl⟩
    have hcl:=sU (r:=r1) (k:=j) (by omega) K1.out;have hsz:=eG hz.out j i;have Jp:=QA hsz (by rw [hcl];omega) ln o hqs;rw [hd] at uS mU Jp;replace mU:=Lib.hid mU;replace uS:=Lib.hid uS;replace hd:=Lib.hid hd;replace Jp:=Lib.hid Jp;clear hsz;go_wp2_with fail;refine (uS.out _).mono ?_;rintro e w2 ⟨rfl,hb2⟩;obtain ⟨rv,lv,pv,M,row,hrow,hA⟩:=hP.out;have ug:B≤wr.heap.size:=by have:=aI hA;omega
    have hz2:=hb2.size;have Iq:=(cC.mk (hA.hp.ext hb2) hA.good hA.old).iG (aa w2 (.cells (aJ d none 0 0) 76)) (a:=.blk w2.heap.size (aJ d none 0 0) 76) ⟨by omega,heap_alloc_new w2 _⟩ (fun g hg=>by cases hg;exact Nat.le_refl _);have hB2:=hb.out.trans ((ag hb2 (aa w2 (.cells (aJ d none 0 0) 76))).mono ug);obtain ⟨E',fO⟩:∃ E',ec (.blk w2.heap.size (aJ d none 0 0) 76) E=E':=⟨_,rfl⟩
    rw [fO] at Iq;have nJ:E' 0=some (.blk w2.heap.size (aJ d none 0 0) 76):=by rw [← fO];rfl
    have hto:=fun wz hz'=>iw wz B E' R r1 hz' hz.out (by omega) hi j (by omega);have Bq:=Lib.hid (⟨rv,lv,pv,M,row,hrow,Iq⟩:PS (w2.alloc (.cells (aJ d none 0 0) 76)) B E' R r1);obtain ⟨cb,hcb⟩:∃ cb,w2.heap.size=cb:=⟨_,rfl⟩
    rw [hcb] at nJ;clear hA Iq hrow row M rv lv pv;replace hB2:=Lib.hid hB2;replace fO:=Lib.hid fO;replace nJ:=Lib.hid nJ;replace hto:=Lib.hid hto;replace hcb:=Lib.hid hcb;go_wp2_with fail;refine (hto.out _ Bq.out).mono ?_;rintro e w4 ⟨rfl,xN,hb4⟩;obtain ⟨rv,lv,pv,M,row,hrow,hA⟩:=xN;have tr:=hB2.out.trans hb4;have hrl:row.length=j:=by have:=congrArg List.length hrow;rw [List.length_map,hcl] at this;exact this
    obtain ⟨hR1,hR2,_,c0,_⟩:=aI hA;have hlb:=(hA.hp.base (k:=.ext 0) (show E' 0=some _ from nJ.out)).2.2;have hown:=hA.hp.own (k:=.row) rfl;obtain ⟨rA,rc,iE,hrc⟩:=ak hown;rw [iE] at c0 hown;rw [hrl] at c0 hown hrc;have mg:cb<w4.heap.size:=(Array.getElem?_eq_some_iff.1 hlb).1;have RG:some R≠(Value.slice rA j rc).ownBlock:=fun e=>by
     have:=hA.hp.apart .rd .row _ _ R rfl rfl rfl (by rw [iE,hrl];exact e.symm);cases this
    have Xy:some cb≠(Value.slice rA j rc).ownBlock:=fun e=>by
     have:=hA.hp.apart (.ext 0) .row _ _ cb (show E' 0=some _ from nJ.out) rfl rfl (by rw [iE,hrl];exact e.symm);cases this
    have nK:Sj R cb (.slice rA j rc) (aJ d none 0 0) w4.drew:=⟨c0,hlb⟩
    have ur:=Lib.hid (cC.mk (hA.hp.ext (bq w4)) hA.good hA.old);have ER:=Lib.hid tr.drew;have tM:w4.drew.ownsRow B 76 9 (.slice rA j rc) j (aU row):=hown.drew;have hzd:w4.drew.heap.size=w4.heap.size:=rfl;replace hrow:=Lib.hid hrow;replace iE:=Lib.hid iE;replace hrl:=Lib.hid hrl;replace hA:=Lib.hid hA;replace hlb:=Lib.hid hlb;clear hcl hown;go_wp2_with fail;rw [hcb.out];refine cV 10 [(true,0),(true,1),(true,2),(true,3),(true,4),(true,5),(false,6),(false,7),(false,8),(false,9)] 0 .fin (Sj R cb (.slice rA j rc) (aJ d none 0 0)) nK (by kernel_rfl) (by kernel_rfl) (by kernel_rfl) (fun _ _ d _ _ h=>by cases d<;>exact h) ?_;generalize w4.drew=w5 at nK ur ER tM hzd ⊢;clear c0
    repeat (first | refine bL rfl ?_ | (refine aA rfl ?_;intro K hK;go_simp;refine hK _ _ _ ?_;clear hK K))
    refine bX (.slice rA j rc) rfl rfl nK (fun u hu=>by obtain ⟨u1,u2⟩:=hu;go_simp) ?_;refine bX (.agg #[.int .i64 (d.kind:Int),.int .i64 0,.string ⟨#[]⟩,.string ⟨#[]⟩,.int .i64 (d.line:Int),.slice none 0 0,.int .u8 (d.sign.toNat:Int),.int .i64 (d.col:Int),.int .u8 (d.cL.toNat:Int)]) rfl rfl nK (fun u hu=>by
     obtain ⟨u1,u2⟩:=hu;have y0:=cell_of u2 (j:=0) rfl;have y1:=cell_of u2 (j:=1) rfl;have y2:=cell_of u2 (j:=2) rfl;have y3:=cell_of u2 (j:=3) rfl;have y4:=cell_of u2 (j:=4) rfl;have y5:=cell_of u2 (j:=5) rfl;have y6:=cell_of u2 (j:=6) rfl;have y7:=cell_of u2 (j:=7) rfl;have y8:=cell_of u2 (j:=8) rfl;clear u2;go_simp) ?_
    refine aA rfl ?_;intro K hK;go_simp;obtain ⟨Z,hZ⟩:∃ Z:Array Value,aJ d none 0 0=Z:=⟨_,rfl⟩
    have hZ9:Z.size=1*9:=by rw [← hZ];rfl
    have Ua:∀ u∈Z.toList,u.oneCell'=true:=by rw [← hZ];intro u hu;simp at hu;rcases hu with rfl | rfl | rfl | rfl | rfl | rfl | rfl | rfl | rfl<;>rfl
    rw [show #[Value.int .i64 (d.kind:Int),.int .i64 0,.string ⟨#[]⟩,.string ⟨#[]⟩,.int .i64 (d.line:Int),.slice none 0 0,.int .u8 (d.sign.toNat:Int),.int .i64 (d.col:Int),.int .u8 (d.cL.toNat:Int)]=Z from hZ];have ZW:w5.heap.size=w4.heap.size:=hzd;have FP:Sj R cb (.slice rA j rc) (aJ d none 0 0) (w5.alloc (.cells Z 76)):=⟨((aa w5 _).cell (p:=⟨R,0,none⟩) (by show R<w5.heap.size;omega)).trans nK.1,((aa w5 _).block _ (by omega)).trans nK.2⟩
    have hr5:Row (w5.alloc (.cells Z 76)) (w5.alloc (.cells Z 76)).heap.size 9 (some ⟨w4.heap.size,0,none⟩) 1 Z.toList:=by
     have h9:=Row.jV w5 76 Z hZ9 rfl;rw [ZW] at h9;exact h9
    have ES:B≤(w5.alloc (.cells Z 76)).heap.size:=by
     have h9:=(aa w5 (.cells Z 76)).size;rw [ZW] at h9;omega
    have yY:=cC.mk (ur.out.hp.ext (aa w5 (.cells Z 76))) ur.out.good ur.out.old;refine aQ FP (hK _ _ _ ?_);clear hK K;refine aA rfl ?_;intro K hK;unfold aD;rw [if_pos (by rfl),if_neg (by simp)];refine vV (v:=.slice rA j rc) (.tmp 31) (.tmp 33) rfl VD rfl (tM.alloc _) rfl hr5 Ua (by have:=q0.out;omega) (by omega) ES ?_;intro v7 w7 jR qi dI mB;obtain ⟨vA7,vc7,rfl,Vq⟩:=ak jR;have Ac:Sj R cb (.slice rA j rc) (aJ d none 0 0) w7:=⟨qi.out.cell FP.1 RG,(qi.out.block _ (by simp;omega) Xy).trans FP.2⟩
    subst hZ;obtain ⟨Ob,hf2,hf3,ZK,IF⟩:=K8 yY d Yq.1 Yq.2.1 Yq.2.2 (v:=.slice vA7 (j+1) vc7) (by rw [hrl.out];exact jR) (by rw [iE.out,hrl.out];exact qi.out) (by rw [iE.out,hrl.out];exact mB.out);rw [iE.out,hrl.out] at hf3;rw [← fO.out] at IF;have GC:=Lib.hid (⟨_,lv,pv,M,_::row,by show d::row.map (·.c)=_;rw [hrow.out];rfl,IF.eY⟩:PS (w7.setCell ⟨R,0,none⟩ (.slice vA7 (j+1) vc7)) B E R (Pb.push d (Pb.aR j r1)));have Qx:=Lib.hid (((ER.out.alloc (by omega) _).trans dI).setCell (p:=⟨R,0,none⟩) Ob (.slice vA7 (j+1) vc7));have hpl:(Pb.push d (Pb.aR j r1)).row.length=j+1:=by
     show (d::(Pb.aR j r1).row).length=_;rw [← hrow.out,List.length_cons,List.length_map,hrl.out]
    replace hpl:=Lib.hid (Nat.le_of_eq hpl.symm);clear IF;refine aQ Ac (hK _ _ _ ?_);clear hK K;refine aA rfl ?_;intro K hK;go_simp;refine aQ Ac (hK _ _ _ ?_);clear hK K;refine aA rfl ?_;intro K hK;go_simp;refine aQ Ac (hK _ _ _ ?_);clear hK K;refine gQ rfl rfl ?_;go_simp;refine ⟨fun _=>True,trivial,aM ?_⟩;go_wp2_with fail
    go_roundw
    case rel=>exact ⟨j+1,Pb.push d (Pb.aR j r1),q,by go_num,rfl,by omega,by omega,by omega,Lib.hid (by rw [show 41-(j+1)=40-j from by omega];exact mU.out),GC,Lib.hid (Jp.out.mono (by omega) (Nat.le_refl _)),hpl,Qx⟩
    case measure=>simp [intOf];omega
  ·have mU:=hGj.out
   rw [show 41-j=0 from by omega,Pb.begin] at mU;have Zk:¬ (j:Int)<41:=by omega
   replace mU:=Lib.hid mU;clear Qv;go_wp2_with fail;go_ret2;rw [← mU.out];exact ⟨rfl,hP.out,hz.out.mono q1.out (Nat.le_refl _),q2.out,K1.out,q3.out,hb.out⟩
theorem Ev (M:Mm) (kd lv:Nat) (t inf:List UInt8) (ln:Nat):TM M (.mk kd lv t inf ln []) [.int .i64 (kd:Int),.int .i64 (lv:Int),.string (bs t),.string (bs inf),.int .i64 (ln:Int),.slice none 0 0]:=by
 unfold TM;exact ⟨none,0,[],rfl,Nat.le_refl _,⟨rfl,fun h=>by cases h⟩,nY⟩
abbrev bY (f:Fn.Op):Array Value:=#[.int .u8 (f.c.toNat:Int),.int .i64 (f.n:Int),.int .i64 (f.ind:Int),.string (bs f.info)]
theorem EX (o:Option Fn.Op):∃ (f:Fn.Op) (ok:Bool),ou o=.tuple #[.agg (bY f),.bool ok]∧(ok=true→o=some f)∧(ok=false→o=none):=by
 cases o with
 | none=>exact ⟨⟨0,0,0,[]⟩,false,rfl,fun h=>(by cases h),fun _=>rfl⟩
 | some f=>exact ⟨f,true,rfl,fun _=>rfl,fun h=>(by cases h)⟩
theorem CY:EI Tryz.prog 39 9 1 16:=L7
section
variable {w w':World}{B R:Nat}{E:Nat→Option Part}{rv lv pv:Value}{M:Mm}{row:List MC}{l:Pb.Of}{ps:List Bk.Pl}
theorem uR (h:cC w B E R rv lv pv M row l ps) (t:List UInt8) {w3:World}{v:Value}(hown:w3.ownsRow B 9 1 v (l.lines.length+1) (aZ l.lines++[.string (bs t)])) (hg:w.grownBy w3 lv.ownBlock) (hat:At w.heap.size lv v) :
  B≤R∧R<w3.heap.size∧w3.cell? ⟨R,3,none⟩=some lv∧(∀ j,w3.frozen? ⟨R,j,none⟩=false)∧cC (w3.setCell ⟨R,3,none⟩ v) B E R rv v pv M row { l with lines:=l.lines++[t] } ps:=by
 have H1:=h.hp.uo (k:=.lns) (.row 9 1 v (l.lines.length+1) (aZ l.lines++([.string (bs t)]:List Value))) rfl hg hown hat;obtain ⟨TS,N6,Ty⟩:=H1.base (k:=.rd) rfl;have m3:=H1.AB (k:=.rd) 3 v rfl;refine ⟨TS,N6,cell_of Ty rfl,aW Ty,m3.same fun j=>?_,h.good,h.old⟩;cases j with
 | lns =>
  show some (Part.row _ 1 v (l.lines++[t]).length (aZ (l.lines++[t])))=_;have e:aZ (l.lines++[t])=aZ l.lines++[.string (bs t)]:=by simp [aZ]
  rw [e,List.length_append];rfl
 | rd=>rfl
 | _=>rfl
theorem Qa {nb:Nat}{t:List UInt8}(h:cC w B (ec (.blk nb #[.string (bs t)] 9) E) R rv lv pv M row l ps) (l':Pb.Of) (hl:l'.lines=[t]) :
  cC (mz w R (.int .i64 (l'.kind:Int)) (.int .i64 (l'.line:Int)) (.slice (some ⟨nb,0,none⟩) 1 1) (.int .u8 (l'.op.c.toNat:Int)) (.int .i64 (l'.op.n:Int)) (.int .i64 (l'.op.ind:Int)) (.string (bs l'.op.info)) (.bool l'.ended)) B E R rv (.slice (some ⟨nb,0,none⟩) 1 1) pv M row l' ps:=by
 obtain ⟨hR1,_,WN⟩:=h.hp.base (k:=.rd) rfl;have m8:=h.hp.uo (k:=.rd) (.blk R ⟨qL rv (.slice (some ⟨nb,0,none⟩) 1 1) pv l'⟩ 73) rfl (pM (.int .i64 (l'.kind:Int)) (.int .i64 (l'.line:Int)) (.slice (some ⟨nb,0,none⟩) 1 1) (.int .u8 (l'.op.c.toNat:Int)) (.int .i64 (l'.op.n:Int)) (.int .i64 (l'.op.ind:Int)) (.string (bs l'.op.info)) (.bool l'.ended)) ⟨hR1,IQ WN _ _ _ _ _ _ _ _⟩ (fun _ e=>.inl e);have nJ:=m8.holds (.ext 0) (.blk nb #[.string (bs t)] 9) rfl;refine ⟨m8.turn (fun k=>match k with | .lns=>.ext 0 | .ext i=>.ext (i+1) | k=>k) (fun i j _ _ _ _ e=>?_) (fun k a hk=>?_),h.good,h.old⟩
 ·cases i<;>cases j<;>simp_all
 ·cases k with
  | rd=>exact ⟨a,hk,m8.holds .rd a hk,fun _ e=>e⟩
  | row=>exact ⟨a,hk,m8.holds .row a hk,fun _ e=>e⟩
  | kid i=>exact ⟨a,hk,m8.holds (.kid i) a hk,fun _ e=>e⟩
  | itm i=>exact ⟨a,hk,m8.holds (.itm i) a hk,fun _ e=>e⟩
  | pls=>exact ⟨a,hk,m8.holds .pls a hk,fun _ e=>e⟩
  | old i=>exact ⟨a,hk,m8.holds (.old i) a hk,fun _ e=>e⟩
  | ext i=>exact ⟨a,hk,m8.holds (.ext (i+1)) a hk,fun _ e=>e⟩
  | lns =>
   have e:(Part.row 9 1 (.slice (some ⟨nb,0,none⟩) 1 1) l'.lines.length (aZ l'.lines))=a:=Option.some.inj hk;subst e;rw [hl];exact ⟨_,rfl,⟨rfl,.inr ⟨nb,1,_,rfl,nJ.1,nJ.2,Nat.le_refl _,by unfold maxLen;omega,rfl,rfl⟩⟩,fun _ e=>e⟩
end
theorem Pn (w:World) (B:Nat) (E:Nat→Option Part) (R:Nat) (r:Pb.Rd) (h:PS w B E R r) {N i:Nat}(hs:Pb.Sz N i r) (hN:N≤900000000) (hi:i≤100000) (ln k:Nat) (hk:1≤k) (s:List UInt8) (hn:Nat) (ht:List UInt8) (ho:Bool) (f:Fn.Op) (fo:Bool)
  (wm:∀ w,Calls Tryz.prog 120 #[.string (bs s)] w fun e w'=>e=.returned (.tuple #[.int .i64 (hn:Int),.string (bs ht),.bool ho])∧Below w.heap.size w w')
  (hbg:∀ w,Calls Tryz.prog 121 #[.string (bs s)] w fun e w'=>e=.returned (.tuple #[.agg (bY f),.bool fo])∧Below w.heap.size w w')
  (hem:∀ w,Calls Tryz.prog 122 #[.string (bs s)] w fun e w'=>e=.returned (.bool true)∧w=w') :
  Calls Tryz.prog 81 #[BD R,.int .i64 (ln:Int),.int .i64 (k:Int),.string (bs s)] w fun e w'=>e=.returned (.tuple #[])∧PS w' B E R (Pb.aR k r)∧Below B w w':=by
 obtain ⟨rv,lv,pv,M,row,hrow,hA⟩:=h;have hBw:B≤w.heap.size:=by have:=aI hA;omega
 have hto:=fun wz hz'=>iw wz B E R r hz' hs hN hi k hk;replace hA:=Lib.hid hA;replace hrow:=Lib.hid hrow;replace hto:=Lib.hid hto;go_enter Tryz.func81,Tryz.ntmps81;go_wp2_with fail;refine (wm _).mono ?_;rintro e w1 ⟨rfl,hb1⟩;go_wp2_with fail;refine (hbg _).mono ?_;rintro e w2 ⟨rfl,hb2⟩;have hb3:=Lib.hid (ag (ag hb1 hb2) (aa w2 (.cells (bY f) 68)));have Vv:=Lib.hid (⟨rv,lv,pv,M,row,hrow.out,cC.mk (hA.out.hp.ext hb3.out) hA.out.good hA.out.old⟩:PS (w2.alloc (.cells (bY f) 68)) B E R r);clear hb1 hb2;go_wp2_with fail;refine (hem _).mono ?_;rintro e w3 ⟨rfl,rfl⟩;go_wp2_with fail;refine (hto.out _ Vv.out).mono ?_;rintro e w4 ⟨rfl,xN,hb4⟩;replace xN:=Lib.hid xN;have oI:=Lib.hid ((hb3.out.mono hBw).trans hb4);go_wp2_with fail;go_returns;exact ⟨rfl,xN.out,oI.out⟩
theorem FJ (w:World) (B:Nat) (E:Nat→Option Part) (R:Nat) (r:Pb.Rd) (h:PS w B E R r) {N i:Nat}(hs:Pb.Sz N i r) (hN:N≤800000000) (hi:i≤100000) (ln k:Nat) (hk:1≤k) (s:List UInt8) (hn:Nat) (ht:List UInt8) (f:Fn.Op) (fo:Bool)
  (wm:∀ w,Calls Tryz.prog 120 #[.string (bs s)] w fun e w'=>e=.returned (.tuple #[.int .i64 (hn:Int),.string (bs ht),.bool true])∧Below w.heap.size w w')
  (hbg:∀ w,Calls Tryz.prog 121 #[.string (bs s)] w fun e w'=>e=.returned (.tuple #[.agg (bY f),.bool fo])∧Below w.heap.size w w')
  (hem:∀ w,Calls Tryz.prog 122 #[.string (bs s)] w fun e w'=>e=.returned (.bool false)∧w=w')
  : Calls Tryz.prog 81 #[BD R,.int .i64 (ln:Int),.int .i64 (k:Int),.string (bs s)] w fun e w'=>e=.returned (.tuple #[])∧PS w' B E R (Pb.cI (.mk 5 hn ht [] ln []) (Pb.aR k r))∧Below B w w':=by
 obtain ⟨rv,lv,pv,M,row,hrow,hA⟩:=h;have hBw:B≤w.heap.size:=by have:=aI hA;omega
 have hto:=fun (E':Nat→Option Part) wz hz'=>iw wz B E' R r hz' hs (by omega) hi k hk;have hsz:=eG hs k i;replace hA:=Lib.hid hA;replace hrow:=Lib.hid hrow;replace hto:=Lib.hid hto;replace hsz:=Lib.hid hsz;go_enter Tryz.func81,Tryz.ntmps81;go_wp2_with fail;refine (wm _).mono ?_;rintro e w1 ⟨rfl,hb1⟩;go_wp2_with fail;refine (hbg _).mono ?_;rintro e w2 ⟨rfl,hb2⟩;have hb3:=Lib.hid (ag (ag hb1 hb2) (aa w2 (.cells (bY f) 68)));have fM:=Lib.hid ((cC.mk (hA.out.hp.ext (ag hb1 hb2)) hA.out.good hA.out.old).iG (aa w2 (.cells (bY f) 68)) (a:=.blk w2.heap.size (bY f) 68) ⟨by have:=hb1.size;have:=hb2.size;omega,heap_alloc_new w2 _⟩ (fun g hg=>by cases hg;exact Nat.le_refl _));obtain ⟨E',fO⟩:∃ E',ec (.blk w2.heap.size (bY f) 68) E=E':=⟨_,rfl⟩
 rw [fO] at fM;have nJ:E' 0=some (.blk w2.heap.size (bY f) 68):=by rw [← fO];rfl
 replace fO:=Lib.hid fO;replace nJ:=Lib.hid nJ;clear hb1 hb2;go_wp2_with fail;refine (hem _).mono ?_;rintro e w3 ⟨rfl,rfl⟩;go_wp2_with fail;refine (hto.out E' _ ⟨rv,lv,pv,M,row,hrow.out,fM.out⟩).mono ?_;rintro e w4 ⟨rfl,xN,hb4⟩;have hb5:=(hb3.out.mono hBw).trans hb4;obtain ⟨rv4,lv4,pv4,M4,row4,hrow4,iI⟩:=xN;cases row4 with
 | nil=>have:=hsz.out.pos;rw [← hrow4] at this;simp at this
 | cons x t =>
  obtain ⟨g,cc,iE,_⟩:=dV iI;have hlen:t.length≤1000:=by have:=hsz.out.few;rw [← hrow4] at this;simp at this;omega
  have cO:x.c.all.length≤1000000000:=by have:=hsz.out.kids x.c (by rw [← hrow4];simp);omega
  have hla:=fun wz h=>eK wz B E' R rv4 lv4 pv4 M4 x t (Pb.aR k r).leaf (Pb.aR k r).places h g cc iE hlen;have hadd:=fun wz h=>mT wz B E' R rv4 lv4 pv4 M4 x t (Pb.aR k r).leaf (Pb.aR k r).places h g cc iE (.mk 5 hn ht [] ln []) _ (Ev M4 5 hn ht [] ln) hlen cO;have aL:Pb.cI (.mk 5 hn ht [] ln []) (Pb.aR k r)={ Pb.aR k r with row:=x.c.add (.mk 5 hn ht [] ln [])::t.map (·.c) }:=by
   unfold Pb.cI;rw [← hrow4];rfl
  replace aL:=Lib.hid aL;replace hla:=Lib.hid hla;replace hadd:=Lib.hid hadd;replace iI:=Lib.hid iI;replace hb5:=Lib.hid hb5;replace hrow4:=Lib.hid hrow4;replace iE:=Lib.hid iE;go_wp2_with fail;refine (hla.out _ iI.out).mono ?_;rintro e w6 ⟨rfl,jA⟩;have yY:=Lib.hid (cC.mk (iI.out.hp.ext jA) iI.out.good iI.out.old);have dI:=Lib.hid (hb5.out.trans (jA.mono (by have:=aI iI.out;omega)));clear jA;go_wp2_with fail;refine (hadd.out _ yY.out).mono ?_;rintro e w8 ⟨rfl,⟨M8,x8,Tz,xT⟩,mg⟩;rw [← fO.out] at xT;have GC:=Lib.hid (by rw [aL.out];exact ⟨rv4,lv4,pv4,M8,x8::t,by simp [Tz],xT.eY⟩:PS w8 B E R (Pb.cI (.mk 5 hn ht [] ln []) (Pb.aR k r)));have oI:=Lib.hid (dI.out.trans mg);clear xT;go_wp2_with fail;go_returns;exact ⟨rfl,GC.out,oI.out⟩
theorem OD (w:World) (B:Nat) (E:Nat→Option Part) (R:Nat) (r:Pb.Rd) (h:PS w B E R r) {N i:Nat}(hs:Pb.Sz N i r) (hN:N≤800000000) (hi:i≤100000) (ln k:Nat) (hk:1≤k) (s:List UInt8) (hn:Nat) (ht:List UInt8) (f:Fn.Op) (fo:Bool)
  (wm:∀ w,Calls Tryz.prog 120 #[.string (bs s)] w fun e w'=>e=.returned (.tuple #[.int .i64 (hn:Int),.string (bs ht),.bool false])∧Below w.heap.size w w')
  (hbg:∀ w,Calls Tryz.prog 121 #[.string (bs s)] w fun e w'=>e=.returned (.tuple #[.agg (bY f),.bool fo])∧Below w.heap.size w w')
  (hem:∀ w,Calls Tryz.prog 122 #[.string (bs s)] w fun e w'=>e=.returned (.bool false)∧w=w')
  (hbr:∀ w,Calls Tryz.prog 123 #[.string (bs s)] w fun e w'=>e=.returned (.bool true)∧Below w.heap.size w w')
  : Calls Tryz.prog 81 #[BD R,.int .i64 (ln:Int),.int .i64 (k:Int),.string (bs s)] w fun e w'=>e=.returned (.tuple #[])∧PS w' B E R (Pb.cI (.mk 6 0 [] [] ln []) (Pb.aR k r))∧Below B w w':=by
 obtain ⟨rv,lv,pv,M,row,hrow,hA⟩:=h;have hBw:B≤w.heap.size:=by have:=aI hA;omega
 have hto:=fun (E':Nat→Option Part) wz hz'=>iw wz B E' R r hz' hs (by omega) hi k hk;have hsz:=eG hs k i;replace hA:=Lib.hid hA;replace hrow:=Lib.hid hrow;replace hto:=Lib.hid hto;replace hsz:=Lib.hid hsz;go_enter Tryz.func81,Tryz.ntmps81;go_wp2_with fail;refine (wm _).mono ?_;rintro e w1 ⟨rfl,hb1⟩;go_wp2_with fail;refine (hbg _).mono ?_;rintro e w2 ⟨rfl,hb2⟩;have hb3:=Lib.hid (ag (ag hb1 hb2) (aa w2 (.cells (bY f) 68)));have fM:=Lib.hid ((cC.mk (hA.out.hp.ext (ag hb1 hb2)) hA.out.good hA.out.old).iG (aa w2 (.cells (bY f) 68)) (a:=.blk w2.heap.size (bY f) 68) ⟨by have:=hb1.size;have:=hb2.size;omega,heap_alloc_new w2 _⟩ (fun g hg=>by cases hg;exact Nat.le_refl _));obtain ⟨E',fO⟩:∃ E',ec (.blk w2.heap.size (bY f) 68) E=E':=⟨_,rfl⟩
 rw [fO] at fM;have nJ:E' 0=some (.blk w2.heap.size (bY f) 68):=by rw [← fO];rfl
 replace fO:=Lib.hid fO;replace nJ:=Lib.hid nJ;clear hb1 hb2;go_wp2_with fail;refine (hem _).mono ?_;rintro e w3 ⟨rfl,rfl⟩;go_wp2_with fail;refine (hbr _).mono ?_;rintro e w3 ⟨rfl,xq⟩;replace fM:=Lib.hid (cC.mk (fM.out.hp.ext xq) fM.out.good fM.out.old);replace hb3:=Lib.hid (ag hb3.out xq);go_wp2_with fail;refine (hto.out E' _ ⟨rv,lv,pv,M,row,hrow.out,fM.out⟩).mono ?_;rintro e w4 ⟨rfl,xN,hb4⟩;have hb5:=(hb3.out.mono hBw).trans hb4;obtain ⟨rv4,lv4,pv4,M4,row4,hrow4,iI⟩:=xN;cases row4 with
 | nil=>have:=hsz.out.pos;rw [← hrow4] at this;simp at this
 | cons x t =>
  obtain ⟨g,cc,iE,_⟩:=dV iI;have hlen:t.length≤1000:=by have:=hsz.out.few;rw [← hrow4] at this;simp at this;omega
  have cO:x.c.all.length≤1000000000:=by have:=hsz.out.kids x.c (by rw [← hrow4];simp);omega
  have hla:=fun wz h=>eK wz B E' R rv4 lv4 pv4 M4 x t (Pb.aR k r).leaf (Pb.aR k r).places h g cc iE hlen;have hadd:=fun wz h=>mT wz B E' R rv4 lv4 pv4 M4 x t (Pb.aR k r).leaf (Pb.aR k r).places h g cc iE (.mk 6 0 [] [] ln []) _ (Ev M4 6 0 [] [] ln) hlen cO;have aL:Pb.cI (.mk 6 0 [] [] ln []) (Pb.aR k r)={ Pb.aR k r with row:=x.c.add (.mk 6 0 [] [] ln [])::t.map (·.c) }:=by
   unfold Pb.cI;rw [← hrow4];rfl
  replace aL:=Lib.hid aL;replace hla:=Lib.hid hla;replace hadd:=Lib.hid hadd;replace iI:=Lib.hid iI;replace hb5:=Lib.hid hb5;replace hrow4:=Lib.hid hrow4;replace iE:=Lib.hid iE;go_wp2_with fail;refine (hla.out _ iI.out).mono ?_;rintro e w6 ⟨rfl,jA⟩;have yY:=Lib.hid (cC.mk (iI.out.hp.ext jA) iI.out.good iI.out.old);have dI:=Lib.hid (hb5.out.trans (jA.mono (by have:=aI iI.out;omega)));clear jA;go_wp2_with fail;refine (hadd.out _ yY.out).mono ?_;rintro e w8 ⟨rfl,⟨M8,x8,Tz,xT⟩,mg⟩;rw [← fO.out] at xT;have GC:=Lib.hid (by rw [aL.out];exact ⟨rv4,lv4,pv4,M8,x8::t,by simp [Tz],xT.eY⟩:PS w8 B E R (Pb.cI (.mk 6 0 [] [] ln []) (Pb.aR k r)));have oI:=Lib.hid (dI.out.trans mg);clear xT;go_wp2_with fail;go_returns;exact ⟨rfl,GC.out,oI.out⟩
theorem PF (w:World) (B:Nat) (E:Nat→Option Part) (R:Nat) (r:Pb.Rd) (h:PS w B E R r) {N i:Nat}(hs:Pb.Sz N i r) (hN:N≤800000000) (hi:i≤100000) (ln k:Nat) (hk:1≤k) (s:List UInt8) (hn:Nat) (ht:List UInt8) (f:Fn.Op)
  (wm:∀ w,Calls Tryz.prog 120 #[.string (bs s)] w fun e w'=>e=.returned (.tuple #[.int .i64 (hn:Int),.string (bs ht),.bool false])∧Below w.heap.size w w')
  (hbg:∀ w,Calls Tryz.prog 121 #[.string (bs s)] w fun e w'=>e=.returned (.tuple #[.agg (bY f),.bool true])∧Below w.heap.size w w')
  (hem:∀ w,Calls Tryz.prog 122 #[.string (bs s)] w fun e w'=>e=.returned (.bool false)∧w=w')
  (hbr:∀ w,Calls Tryz.prog 123 #[.string (bs s)] w fun e w'=>e=.returned (.bool false)∧Below w.heap.size w w')
  : Calls Tryz.prog 81 #[BD R,.int .i64 (ln:Int),.int .i64 (k:Int),.string (bs s)] w fun e w'=>e=.returned (.tuple #[])∧PS w' B E R ({ Pb.aR k r with leaf:=⟨7,ln,[],f,false⟩ })∧Below B w w':=by
 obtain ⟨rv,lv,pv,M,row,hrow,hA⟩:=h;have hBw:B≤w.heap.size:=by have:=aI hA;omega
 have hto:=fun (E':Nat→Option Part) wz hz'=>iw wz B E' R r hz' hs (by omega) hi k hk;have hsz:=eG hs k i;replace hA:=Lib.hid hA;replace hrow:=Lib.hid hrow;replace hto:=Lib.hid hto;replace hsz:=Lib.hid hsz;go_enter Tryz.func81,Tryz.ntmps81;go_wp2_with fail;refine (wm _).mono ?_;rintro e w1 ⟨rfl,hb1⟩;go_wp2_with fail;refine (hbg _).mono ?_;rintro e w2 ⟨rfl,hb2⟩;have hb3:=Lib.hid (ag (ag hb1 hb2) (aa w2 (.cells (bY f) 68)));have fM:=Lib.hid ((cC.mk (hA.out.hp.ext (ag hb1 hb2)) hA.out.good hA.out.old).iG (aa w2 (.cells (bY f) 68)) (a:=.blk w2.heap.size (bY f) 68) ⟨by have:=hb1.size;have:=hb2.size;omega,heap_alloc_new w2 _⟩ (fun g hg=>by cases hg;exact Nat.le_refl _));obtain ⟨E',fO⟩:∃ E',ec (.blk w2.heap.size (bY f) 68) E=E':=⟨_,rfl⟩
 rw [fO] at fM;have nJ:E' 0=some (.blk w2.heap.size (bY f) 68):=by rw [← fO];rfl
 replace fO:=Lib.hid fO;replace nJ:=Lib.hid nJ;clear hb1 hb2;go_wp2_with fail;refine (hem _).mono ?_;rintro e w3 ⟨rfl,rfl⟩;go_wp2_with fail;refine (hbr _).mono ?_;rintro e w3 ⟨rfl,xq⟩;replace fM:=Lib.hid (cC.mk (fM.out.hp.ext xq) fM.out.good fM.out.old);replace hb3:=Lib.hid (ag hb3.out xq);go_wp2_with fail;refine (hto.out E' _ ⟨rv,lv,pv,M,row,hrow.out,fM.out⟩).mono ?_;rintro e w4 ⟨rfl,xN,hb4⟩;have hb5:=(hb3.out.mono hBw).trans hb4;obtain ⟨rv4,lv4,pv4,M4,row4,hrow4,iI⟩:=xN;obtain ⟨hR1,hR2,ry,c0,c1,c2,c3,c4,c5,c6,c7,c8,_⟩:=aI iI;obtain ⟨fb,hfb⟩:∃ fb,w2.heap.size=fb:=⟨_,rfl⟩
 rw [hfb] at nJ;obtain ⟨f0,f1,f2,f3⟩:=four (iI.hp.base (k:=.ext 0) (show E' 0=some _ from nJ.out)).2.2;obtain ⟨lA4,lc4,U4,_⟩:=ak (iI.hp.own (k:=.lns) rfl);rw [U4] at c3;have hset:=vZ iI ⟨7,ln,[],f,false⟩ (lv':=.slice none 0 0) rfl rfl;rw [← fO.out] at hset;have GC:=Lib.hid (⟨rv4,.slice none 0 0,pv4,M4,row4,hrow4,hset.eY⟩:PS (mz w4 R (.int .i64 ((7:Nat):Int)) (.int .i64 (ln:Int)) (.slice none 0 0) (.int .u8 (f.c.toNat:Int)) (.int .i64 (f.n:Int)) (.int .i64 (f.ind:Int)) (.string (bs f.info)) (.bool false)) B E R { Pb.aR k r with leaf:=⟨7,ln,[],f,false⟩ });have oI:=Lib.hid (lF hb5 hR1 (.int .i64 ((7:Nat):Int)) (.int .i64 (ln:Int)) (.slice none 0 0) (.int .u8 (f.c.toNat:Int)) (.int .i64 (f.n:Int)) (.int .i64 (f.ind:Int)) (.string (bs f.info)) (.bool false));replace iI:=Lib.hid iI;replace hrow4:=Lib.hid hrow4;replace hfb:=Lib.hid hfb;clear hset c0;rw [hfb.out];go_wp2_with fail;go_returns;exact ⟨rfl,GC.out,oI.out⟩
theorem wQ (w:World) (o:Obj) {R:Nat}(hR:R<w.heap.size) (a1 a2 a3 a4 a5 a6 a7 a8:Value):mz (w.alloc o) R a1 a2 a3 a4 a5 a6 a7 a8=(mz w R a1 a2 a3 a4 a5 a6 a7 a8).alloc o:=by
 unfold mz;rw [World.setCell_alloc_past _ R 1 _ hR,World.setCell_alloc_past _ R 2 _ (by simp [World.setCell];exact hR),World.setCell_alloc_past _ R 3 _ (by simp [World.setCell];exact hR),World.setCell_alloc_past _ R 4 _ (by simp [World.setCell];exact hR),
  World.setCell_alloc_past _ R 5 _ (by simp [World.setCell];exact hR),World.setCell_alloc_past _ R 6 _ (by simp [World.setCell];exact hR),World.setCell_alloc_past _ R 7 _ (by simp [World.setCell];exact hR),World.setCell_alloc_past _ R 8 _ (by simp [World.setCell];exact hR)]
def xY (R:Nat) (lv:Value) (d:Nat) (u:World):Prop:=u.cell? ⟨R,3,none⟩=some lv∧u.cell? ⟨R,6,none⟩=some (.int .i64 (d:Int))
theorem Q9 (w:World) (B:Nat) (E:Nat→Option Part) (R:Nat) (r:Pb.Rd) (h:PS w B E R r) {N i:Nat}(hs:Pb.Sz N i r) (hN:N≤800000000) (hi:i≤100000) (ln k:Nat) (hk:1≤k) (s:List UInt8) (hn:Nat) (ht:List UInt8) (f:Fn.Op)
  (wm:∀ w,Calls Tryz.prog 120 #[.string (bs s)] w fun e w'=>e=.returned (.tuple #[.int .i64 (hn:Int),.string (bs ht),.bool false])∧Below w.heap.size w w')
  (hbg:∀ w,Calls Tryz.prog 121 #[.string (bs s)] w fun e w'=>e=.returned (.tuple #[.agg (bY f),.bool false])∧Below w.heap.size w w')
  (hem:∀ w,Calls Tryz.prog 122 #[.string (bs s)] w fun e w'=>e=.returned (.bool false)∧w=w')
  (hbr:∀ w,Calls Tryz.prog 123 #[.string (bs s)] w fun e w'=>e=.returned (.bool false)∧Below w.heap.size w w')
  (h4:r.leaf.kind=4) (T:List UInt8) (pT:∀ w,Calls Tryz.prog 124 #[.string (bs s),.string ⟨#[32,9]⟩] w fun e w'=>e=.returned (.string (bs T))∧Below w.heap.size w w')
  : Calls Tryz.prog 81 #[BD R,.int .i64 (ln:Int),.int .i64 (k:Int),.string (bs s)] w fun e w'=>e=.returned (.tuple #[])∧PS w' B E R ({ r with leaf:={ r.leaf with lines:=r.leaf.lines++[T] } })∧Below B w w':=by
 obtain ⟨rv,lv,pv,M,row,hrow,hA⟩:=h;have hBw:B≤w.heap.size:=by have:=aI hA;omega
 have hto:=fun (E':Nat→Option Part) wz hz'=>iw wz B E' R r hz' hs (by omega) hi k hk;have hsz:=eG hs k i;replace hA:=Lib.hid hA;replace hrow:=Lib.hid hrow;replace hto:=Lib.hid hto;replace hsz:=Lib.hid hsz;go_enter Tryz.func81,Tryz.ntmps81;go_wp2_with fail;refine (wm _).mono ?_;rintro e w1 ⟨rfl,hb1⟩;go_wp2_with fail;refine (hbg _).mono ?_;rintro e w2 ⟨rfl,hb2⟩;have hb3:=Lib.hid (ag (ag hb1 hb2) (aa w2 (.cells (bY f) 68)));have fM:=Lib.hid ((cC.mk (hA.out.hp.ext (ag hb1 hb2)) hA.out.good hA.out.old).iG (aa w2 (.cells (bY f) 68)) (a:=.blk w2.heap.size (bY f) 68) ⟨by have:=hb1.size;have:=hb2.size;omega,heap_alloc_new w2 _⟩ (fun g hg=>by cases hg;exact Nat.le_refl _));obtain ⟨E',fO⟩:∃ E',ec (.blk w2.heap.size (bY f) 68) E=E':=⟨_,rfl⟩
 rw [fO] at fM;have nJ:E' 0=some (.blk w2.heap.size (bY f) 68):=by rw [← fO];rfl
 replace fO:=Lib.hid fO;replace nJ:=Lib.hid nJ;clear hb1 hb2;go_wp2_with fail;refine (hem _).mono ?_;rintro e w3 ⟨rfl,rfl⟩;go_wp2_with fail;refine (hbr _).mono ?_;rintro e w3 ⟨rfl,xq⟩;replace fM:=Lib.hid (cC.mk (fM.out.hp.ext xq) fM.out.good fM.out.old);replace hb3:=Lib.hid (ag hb3.out xq);obtain ⟨hR1,hR2,ry,_,c1,c2,c3,c4,c5,c6,_⟩:=aI fM.out;rw [h4] at c1;replace h4:=Lib.hid h4;have hown:=fM.out.hp.own (k:=.lns) rfl;obtain ⟨lA,lc,hlv,hlc⟩:=ak hown;rw [hlv] at c3 hown;obtain ⟨n,hnn⟩:∃ n,r.leaf.lines.length=n:=⟨_,rfl⟩
 have hnl:=hs.lines;rw [hnn] at c3 hown hnl;obtain ⟨cd,hcd⟩:∃ cd,r.leaf.op.ind=cd:=⟨_,rfl⟩
 rw [hcd] at c6;have hw3:B≤w3.heap.size:=by omega
 have tr:=Lib.hid ((hb3.out.mono hBw).drew);have nK:xY R (.slice lA n lc) cd w3.drew:=⟨c3,c6⟩
 have ur:=Lib.hid (cC.mk (fM.out.hp.ext (bq w3)) fM.out.good fM.out.old);have tM:w3.drew.ownsRow B 9 1 (.slice lA n lc) n (aZ r.leaf.lines):=hown.drew;have GN:R<w3.drew.heap.size:=hR2;have RG:some R≠(Value.slice lA n lc).ownBlock:=fun e=>by
  have:=fM.out.hp.apart .rd .lns _ _ R rfl rfl rfl (by rw [hlv,hnn];exact e.symm);cases this
 replace hnn:=Lib.hid hnn;replace hlv:=Lib.hid hlv;replace hcd:=Lib.hid hcd;clear hown c2 c4 c5 ry;go_wp2_with fail;refine cV 13 [(true,0),(true,1),(true,2),(true,3),(true,4),(true,5),(true,6),(false,7),(false,8),(false,9),(false,10),(false,11),(false,12)] 0 .fin (xY R (.slice lA n lc) cd) nK (by kernel_rfl) (by kernel_rfl) (by kernel_rfl) (fun _ _ d _ _ h=>by cases d<;>exact h) ?_;generalize w3.drew=w5 at nK ur tr tM GN ⊢;clear c1 c3 c6 hR2 hw3
 repeat (first | refine bL rfl ?_ | (refine aA rfl ?_;intro K hK;go_simp;refine hK _ _ _ ?_;clear hK K))
 refine bX (.slice lA n lc) rfl rfl nK (fun u hu=>by obtain ⟨u1,u2⟩:=hu;go_simp) ?_
 repeat (first | refine bL rfl ?_ | (refine aA rfl ?_;intro K hK;go_simp;refine hK _ _ _ ?_;clear hK K))
 refine aA rfl ?_;intro K hK;go_simp;refine (pT _).mono ?_;rintro e w6 ⟨rfl,jA⟩;have hz6:=jA.size;have FP:xY R (.slice lA n lc) cd w6:=⟨(jA.cell (p:=⟨R,3,none⟩) GN).trans nK.1,(jA.cell (p:=⟨R,6,none⟩) GN).trans nK.2⟩
 have yY:=cC.mk (ur.out.hp.ext (ag jA (aa w6 (.cells #[.string (bs T)] 9)))) ur.out.good ur.out.old;have On:(w6.alloc (.cells #[.string (bs T)] 9)).ownsRow B 9 1 (.slice lA n lc) n (aZ r.leaf.lines):=(bQ tM jA).alloc _;have Y8:=Row.jV w6 9 #[Value.string (bs T)] (size:=1) (n:=1) rfl rfl;have VA:Below B w w6:=tr.out.trans (jA.mono (by omega));have Ac:xY R (.slice lA n lc) cd (w6.alloc (.cells #[.string (bs T)] 9)):=⟨((aa w6 _).cell (p:=⟨R,3,none⟩) (by show R<w6.heap.size;omega)).trans FP.1,((aa w6 _).cell (p:=⟨R,6,none⟩) (by show R<w6.heap.size;omega)).trans FP.2⟩
 have Tj:B≤(w6.alloc (.cells #[.string (bs T)] 9)).heap.size:=by have:=(aa w6 (.cells #[.string (bs T)] 9)).size;omega
 replace yY:=Lib.hid yY;refine aQ FP (hK _ _ _ ?_);clear hK K;refine aA rfl ?_;intro K hK;go_simp;refine aQ Ac (hK _ _ _ ?_);clear hK K;refine aA rfl ?_;intro K hK;unfold aD;rw [if_pos (by rfl),if_neg (by simp)];refine dX (v:=.slice lA n lc) (.tmp 87) (.tmp 90) rfl CY rfl On rfl Y8 (by intro u hu;simp at hu;subst hu;rfl) (by omega) (by omega) Tj ?_;intro v7 w7 jR qi dI mB;obtain ⟨vA7,vc7,rfl,Vq⟩:=ak jR;have Ly:xY R (.slice lA n lc) cd w7:=⟨qi.out.cell Ac.1 RG,qi.out.cell Ac.2 RG⟩
 obtain ⟨Ob,hf2,hf3,ZK,IF⟩:=uR yY.out T (v:=.slice vA7 (n+1) vc7) (by rw [hnn.out];exact jR) (by rw [hlv.out,hnn.out];exact qi.out) (by rw [hlv.out,hnn.out];exact mB.out);rw [hlv.out,hnn.out] at hf3;rw [← fO.out] at IF;have GC:=Lib.hid (⟨rv,.slice vA7 (n+1) vc7,pv,M,row,hrow.out,IF.eY⟩:PS (w7.setCell ⟨R,3,none⟩ (.slice vA7 (n+1) vc7)) B E R { r with leaf:={ r.leaf with lines:=r.leaf.lines++[T] } });have Qx:=Lib.hid (((VA.alloc (by omega) _).trans dI).setCell (p:=⟨R,3,none⟩) Ob (.slice vA7 (n+1) vc7));clear IF;refine aQ Ly (hK _ _ _ ?_);clear hK K;refine aA rfl ?_;intro K hK;go_simp;refine aQ Ly (hK _ _ _ ?_);clear hK K;refine aA rfl ?_;intro K hK;go_simp;refine aQ Ly (hK _ _ _ ?_);clear hK K;refine aA rfl ?_;intro K hK;go_simp;refine aQ Ly (hK _ _ _ ?_);clear hK K;refine gQ rfl rfl ?_;go_simp;refine ⟨fun _=>True,trivial,aM ?_⟩;go_wp2_with fail;go_returns;exact ⟨rfl,GC.out,Qx.out⟩
theorem RV (w:World) (B:Nat) (E:Nat→Option Part) (R:Nat) (r:Pb.Rd) (h:PS w B E R r) {N i:Nat}(hs:Pb.Sz N i r) (hN:N≤800000000) (hi:i≤100000) (ln k:Nat) (hk:1≤k) (s:List UInt8) (hn:Nat) (ht:List UInt8) (f:Fn.Op)
  (wm:∀ w,Calls Tryz.prog 120 #[.string (bs s)] w fun e w'=>e=.returned (.tuple #[.int .i64 (hn:Int),.string (bs ht),.bool false])∧Below w.heap.size w w')
  (hbg:∀ w,Calls Tryz.prog 121 #[.string (bs s)] w fun e w'=>e=.returned (.tuple #[.agg (bY f),.bool false])∧Below w.heap.size w w')
  (hem:∀ w,Calls Tryz.prog 122 #[.string (bs s)] w fun e w'=>e=.returned (.bool false)∧w=w')
  (hbr:∀ w,Calls Tryz.prog 123 #[.string (bs s)] w fun e w'=>e=.returned (.bool false)∧Below w.heap.size w w')
  (h4:r.leaf.kind≠4) (T:List UInt8) (pT:∀ w,Calls Tryz.prog 124 #[.string (bs s),.string ⟨#[32,9]⟩] w fun e w'=>e=.returned (.string (bs T))∧Below w.heap.size w w')
  : Calls Tryz.prog 81 #[BD R,.int .i64 (ln:Int),.int .i64 (k:Int),.string (bs s)] w fun e w'=>e=.returned (.tuple #[])∧PS w' B E R ({ Pb.aR k r with leaf:=⟨4,ln,[T],Pb.qu,false⟩ })∧Below B w w':=by
 obtain ⟨rv,lv,pv,M,row,hrow,hA⟩:=h;have hBw:B≤w.heap.size:=by have:=aI hA;omega
 have hto:=fun (E':Nat→Option Part) wz hz'=>iw wz B E' R r hz' hs (by omega) hi k hk;have hsz:=eG hs k i;replace hA:=Lib.hid hA;replace hrow:=Lib.hid hrow;replace hto:=Lib.hid hto;replace hsz:=Lib.hid hsz;go_enter Tryz.func81,Tryz.ntmps81;go_wp2_with fail;refine (wm _).mono ?_;rintro e w1 ⟨rfl,hb1⟩;go_wp2_with fail;refine (hbg _).mono ?_;rintro e w2 ⟨rfl,hb2⟩;have hb3:=Lib.hid (ag (ag hb1 hb2) (aa w2 (.cells (bY f) 68)));have fM:=Lib.hid ((cC.mk (hA.out.hp.ext (ag hb1 hb2)) hA.out.good hA.out.old).iG (aa w2 (.cells (bY f) 68)) (a:=.blk w2.heap.size (bY f) 68) ⟨by have:=hb1.size;have:=hb2.size;omega,heap_alloc_new w2 _⟩ (fun g hg=>by cases hg;exact Nat.le_refl _));obtain ⟨E',fO⟩:∃ E',ec (.blk w2.heap.size (bY f) 68) E=E':=⟨_,rfl⟩
 rw [fO] at fM;have nJ:E' 0=some (.blk w2.heap.size (bY f) 68):=by rw [← fO];rfl
 replace fO:=Lib.hid fO;replace nJ:=Lib.hid nJ;clear hb1 hb2;go_wp2_with fail;refine (hem _).mono ?_;rintro e w3 ⟨rfl,rfl⟩;go_wp2_with fail;refine (hbr _).mono ?_;rintro e w3 ⟨rfl,xq⟩;replace fM:=Lib.hid (cC.mk (fM.out.hp.ext xq) fM.out.good fM.out.old);replace hb3:=Lib.hid (ag hb3.out xq);obtain ⟨hR1,hR2,ry,_,c1,_⟩:=aI fM.out;have t4:((r.leaf.kind:Int)==4)=false:=by rw [beq_eq_false_iff_ne];omega
 go_wp2_with fail;refine (hto.out E' _ ⟨rv,lv,pv,M,row,hrow.out,fM.out⟩).mono ?_;rintro e w4 ⟨rfl,xN,hb4⟩;have hb5:=(hb3.out.mono hBw).trans hb4;obtain ⟨rv4,lv4,pv4,M4,row4,hrow4,iI⟩:=xN;clear c1 hR2 ry hR1;replace iI:=Lib.hid iI;replace hb5:=Lib.hid hb5;replace hrow4:=Lib.hid hrow4;go_wp2_with fail;refine (pT _).mono ?_;rintro e w6 ⟨rfl,jA⟩;have aaB:B≤w4.heap.size:=by have:=aI iI.out;omega
 have hz6:=jA.size;have V7:=(cC.mk (iI.out.hp.ext jA) iI.out.good iI.out.old).iG (aa w6 (.cells #[.string (bs T)] 9)) (a:=.blk w6.heap.size #[.string (bs T)] 9) ⟨by omega,heap_alloc_new w6 _⟩ (fun g hg=>by cases hg;exact Nat.le_refl _);have dI:=(hb5.out.trans (jA.mono aaB)).alloc (by omega) (.cells #[.string (bs T)] 9);have hset:=Qa V7 ⟨4,ln,[T],Pb.qu,false⟩ rfl;have yY:=cC.mk (iI.out.hp.ext jA) iI.out.good iI.out.old;obtain ⟨hR1,hR2,ry,c0,c1,c2,c3,c4,c5,c6,c7,c8,_⟩:=aI yY;obtain ⟨lA4,lc4,U4,_⟩:=ak (yY.hp.own (k:=.lns) rfl);rw [U4] at c3;rw [← fO.out] at hset;have oI:=lF dI hR1 (.int .i64 ((4:Nat):Int)) (.int .i64 (ln:Int)) (.slice (some ⟨w6.heap.size,0,none⟩) 1 1) (.int .u8 (Pb.qu.c.toNat:Int)) (.int .i64 (Pb.qu.n:Int)) (.int .i64 (Pb.qu.ind:Int)) (.string (bs Pb.qu.info)) (.bool false);have GC:=Lib.hid (by rw [wQ _ _ hR2] at hset;exact ⟨rv4,_,pv4,M4,row4,hrow4.out,hset.eY⟩:PS ((mz w6 R (.int .i64 ((4:Nat):Int)) (.int .i64 (ln:Int)) (.slice (some ⟨w6.heap.size,0,none⟩) 1 1) (.int .u8 (Pb.qu.c.toNat:Int)) (.int .i64 (Pb.qu.n:Int)) (.int .i64 (Pb.qu.ind:Int)) (.string (bs Pb.qu.info)) (.bool false)).alloc (.cells #[.string (bs T)] 9)) B E R { Pb.aR k r with leaf:=⟨4,ln,[T],Pb.qu,false⟩ });rw [wQ _ _ hR2] at oI;replace oI:=Lib.hid oI;replace V7:=Lib.hid V7;replace yY:=Lib.hid yY;clear hset c0 dI;go_wp2_with fail;go_returns;exact ⟨rfl,GC.out,oI.out⟩
theorem K2 (w:World) (B:Nat) (E:Nat→Option Part) (R:Nat) (r:Pb.Rd) (h:PS w B E R r) {N i:Nat}(hs:Pb.Sz N i r) (hN:N≤800000000) (hi:i≤100000) (ln k:Nat) (hk:1≤k) (s:List UInt8) (hl:s.length+100≤140737488355328) :
  Calls Tryz.prog 81 #[BD R,.int .i64 (ln:Int),.int .i64 (k:Int),.string (bs s)] w fun e w'=>e=.returned (.tuple #[])∧PS w' B E R (Pb.jj ln k s r)∧Below B w w':=by
 have wm:=fun w=>LH s w hl;have hbg:=fun w=>FM s w (by omega);have hbr:=fun w=>Cm s w hl;have pT:=fun w=>uZ s w (by omega);obtain ⟨hn,ht,ho,T7⟩:=Gm (Lf.fS s);obtain ⟨f,fo,oI,hb1,hb2⟩:=EX (Fn.cu s);rw [T7] at wm;rw [oI] at hbg;unfold Pb.jj
 by_cases he:Fn.emp s=true
 ·rw [if_pos he]
  exact Pn w B E R r h hs (by omega) hi ln k hk s hn ht ho f fo wm hbg (fun w=>sx s true he w (by omega))
 ·rw [if_neg he]
  have hem:=fun w=>sx s false (by simpa using he) w (by omega);cases hh:Lf.fS s with
  | some p =>
   obtain ⟨n,t⟩:=p;rw [hh] at T7;unfold zg at T7;injection T7 with e;have e1:=congrArg (fun a=>a[0]?) e;have e2:=congrArg (fun a=>a[1]?) e;have e3:=congrArg (fun a=>a[2]?) e;simp at e1 e2 e3;obtain rfl:n=hn:=by omega
   have e4:t=ht:=by have:=congrArg ByteArray.toList e2;rwa [bG,bG] at this
   subst e4;subst e3;exact FJ w B E R r h hs hN hi ln k hk s n t f fo wm hbg hem
  | none =>
   rw [hh] at T7;unfold zg at T7;injection T7 with e;have e3:=congrArg (fun a=>a[2]?) e;simp at e3;subst e3;simp only
   by_cases hb:Lf.tD s=true
   ·rw [if_pos hb]
    exact OD w B E R r h hs hN hi ln k hk s hn ht f fo wm hbg hem (by rw [hb] at hbr;exact hbr)
   ·rw [if_neg hb]
    have Zf:Lf.tD s=false:=by simpa using hb
    rw [Zf] at hbr;cases fo with
    | true =>
     rw [hb1 rfl];exact PF w B E R r h hs hN hi ln k hk s hn ht f wm hbg hem hbr
    | false =>
     rw [hb2 rfl];simp only
     by_cases h4:r.leaf.kind=4
     ·rw [if_pos h4]
      exact Q9 w B E R r h hs hN hi ln k hk s hn ht f wm hbg hem hbr h4 (Fn.trim s) pT
     ·rw [if_neg h4]
      exact RV w B E R r h hs hN hi ln k hk s hn ht f wm hbg hem hbr h4 (Fn.trim s) pT
theorem Jm {w:World}{B R:Nat}{E:Nat→Option Part}{rv lv pv:Value}{M:Mm}{row:List MC}{l:Pb.Of}{ps:List Bk.Pl}(h:cC w B E R rv lv pv M row l ps):cC (w.setCell ⟨R,8,none⟩ (.bool true)) B E R rv lv pv M row { l with ended:=true } ps:=by
 have m:=h.hp.AB (k:=.rd) 8 (.bool true) rfl;exact ⟨m.same fun j=>by cases j<;>rfl,h.good,h.old⟩
theorem M9 (w:World) (B:Nat) (E:Nat→Option Part) (R:Nat) (r:Pb.Rd) (h:PS w B E R r) {N i:Nat}(hs:Pb.Sz N i r) (hN:N≤800000000) (hi:i≤100000) (s:List UInt8)
  (hen:∀ w,Calls Tryz.prog 117 #[.agg (bY r.leaf.op),.string (bs s)] w fun e w'=>e=.returned (.bool true)∧Below w.heap.size w w') :
  Calls Tryz.prog 79 #[BD R,.string (bs s)] w fun e w'=>e=.returned (.tuple #[])∧PS w' B E R (Pb.aO { r with leaf:={ r.leaf with ended:=true } })∧Below B w w':=by
 obtain ⟨rv,lv,pv,M,row,hrow,hA⟩:=h;obtain ⟨hR1,hR2,ry,_,_,_,_,c4,c5,c6,c7,_⟩:=aI hA;have hcl:=fun wz hz=>vD wz B E R { r with leaf:={ r.leaf with ended:=true } } hz (hs.leaf { r.leaf with ended:=true } hs.lines hs.text hs.line) (by omega) hi;replace hA:=Lib.hid hA;replace hrow:=Lib.hid hrow;replace hcl:=Lib.hid hcl;go_enter Tryz.func79,Tryz.ntmps79;go_wp2_with fail;refine (hen _).mono ?_;rintro e w1 ⟨rfl,hb1⟩;have tS:=cC.mk (hA.out.hp.ext hb1) hA.out.good hA.out.old;obtain ⟨_,nN,VX,_,_,_,_,_,_,_,_,c8,_⟩:=aI tS;have Bq:=Lib.hid (⟨rv,lv,pv,M,row,hrow.out,Jm tS⟩:PS (w1.setCell ⟨R,8,none⟩ (.bool true)) B E R { r with leaf:={ r.leaf with ended:=true } });have hB2:=Lib.hid ((hb1.mono (by omega:B≤w.heap.size)).setCell (p:=⟨R,8,none⟩) hR1 (.bool true));clear tS hb1 c4 c5 c6 c7;go_wp2_with fail;refine (hcl.out _ Bq.out).mono ?_;rintro e w3 ⟨rfl,Vv,hb3⟩;replace Vv:=Lib.hid Vv;have oI:=Lib.hid (hB2.out.trans hb3);go_wp2_with fail;go_returns;exact ⟨rfl,Vv.out,oI.out⟩
theorem PD (w:World) (B:Nat) (E:Nat→Option Part) (R:Nat) (r:Pb.Rd) (h:PS w B E R r) {N i:Nat}(hs:Pb.Sz N i r) (hi:i≤100000) (s T:List UInt8)
  (hen:∀ w,Calls Tryz.prog 117 #[.agg (bY r.leaf.op),.string (bs s)] w fun e w'=>e=.returned (.bool false)∧Below w.heap.size w w')
  (pT:∀ w,Calls Tryz.prog 118 #[.string (bs s),.int .i64 (r.leaf.op.ind:Int)] w fun e w'=>e=.returned (.string (bs T))∧Below w.heap.size w w') :
  Calls Tryz.prog 79 #[BD R,.string (bs s)] w fun e w'=>e=.returned (.tuple #[])∧PS w' B E R { r with leaf:={ r.leaf with lines:=r.leaf.lines++[T] } }∧Below B w w':=by
 obtain ⟨rv,lv,pv,M,row,hrow,Ld⟩:=h;obtain ⟨adm,ady,_,_,_,_,_,d4,d5,d6,d7,_⟩:=aI Ld;replace Ld:=Lib.hid Ld;replace hrow:=Lib.hid hrow;go_enter Tryz.func79,Tryz.ntmps79;go_wp2_with fail;refine (hen _).mono ?_;rintro e w9 ⟨rfl,DC⟩;have hA:=cC.mk (Ld.out.hp.ext DC) Ld.out.good Ld.out.old;have R3:=DC.mono (by omega:B≤w.heap.size);clear d4 d5 d6 d7 DC;obtain ⟨hR1,hR2,ry,_,c1,c2,c3,c4,c5,c6,_⟩:=aI hA;have hown:=hA.hp.own (k:=.lns) rfl;obtain ⟨lA,lc,hlv,hlc⟩:=ak hown;rw [hlv] at c3 hown;obtain ⟨n,hnn⟩:∃ n,r.leaf.lines.length=n:=⟨_,rfl⟩
 have hnl:=hs.lines;rw [hnn] at c3 hown hnl;obtain ⟨cd,hcd⟩:∃ cd,r.leaf.op.ind=cd:=⟨_,rfl⟩
 rw [hcd] at c6;have hw3:B≤w9.heap.size:=by omega
 have tr:=Lib.hid (R3.drew);have nK:xY R (.slice lA n lc) cd w9.drew:=⟨c3,c6⟩
 have ur:=Lib.hid (cC.mk (hA.hp.ext (bq w9)) hA.good hA.old);have tM:w9.drew.ownsRow B 9 1 (.slice lA n lc) n (aZ r.leaf.lines):=hown.drew;have GN:R<w9.drew.heap.size:=hR2;have RG:some R≠(Value.slice lA n lc).ownBlock:=fun e=>by
  have:=hA.hp.apart .rd .lns _ _ R rfl rfl rfl (by rw [hlv,hnn];exact e.symm);cases this
 replace hnn:=Lib.hid hnn;replace hlv:=Lib.hid hlv;replace hcd:=Lib.hid hcd;clear hown c2 c4 c5 ry;replace hA:=Lib.hid hA;rw [hcd.out] at pT;go_wp2_with fail;refine cV 19 [(true,0),(true,1),(true,2),(true,3),(true,4),(true,5),(true,6),(true,7),(true,8),(true,9),(true,10),(true,11),(true,12),(false,13),(false,14),(false,15),(false,16),(false,17),(false,18)] 0 .fin (xY R (.slice lA n lc) cd) nK (by kernel_rfl) (by kernel_rfl) (by kernel_rfl) (fun _ _ d _ _ h=>by cases d<;>exact h) ?_;generalize w9.drew=w5 at nK ur tr tM GN ⊢;clear c1 c3 c6 hR2 hw3
 repeat (first | refine bL rfl ?_ | (refine aA rfl ?_;intro K hK;go_simp;refine hK _ _ _ ?_;clear hK K))
 refine bX (.slice lA n lc) rfl rfl nK (fun u hu=>by obtain ⟨u1,u2⟩:=hu;go_simp) ?_
 repeat (first | refine bL rfl ?_ | (refine aA rfl ?_;intro K hK;go_simp;refine hK _ _ _ ?_;clear hK K))
 refine bX (.int .i64 (cd:Int)) rfl rfl nK (fun u hu=>by obtain ⟨u1,u2⟩:=hu;go_simp) ?_;refine aA rfl ?_;intro K hK;go_simp;refine (pT _).mono ?_;rintro e w6 ⟨rfl,jA⟩;have hz6:=jA.size;have FP:xY R (.slice lA n lc) cd w6:=⟨(jA.cell (p:=⟨R,3,none⟩) GN).trans nK.1,(jA.cell (p:=⟨R,6,none⟩) GN).trans nK.2⟩
 have yY:=cC.mk (ur.out.hp.ext (ag jA (aa w6 (.cells #[.string (bs T)] 9)))) ur.out.good ur.out.old;have On:(w6.alloc (.cells #[.string (bs T)] 9)).ownsRow B 9 1 (.slice lA n lc) n (aZ r.leaf.lines):=(bQ tM jA).alloc _;have Y8:=Row.jV w6 9 #[Value.string (bs T)] (size:=1) (n:=1) rfl rfl;have VA:Below B w w6:=tr.out.trans (jA.mono (by omega));have Ac:xY R (.slice lA n lc) cd (w6.alloc (.cells #[.string (bs T)] 9)):=⟨((aa w6 _).cell (p:=⟨R,3,none⟩) (by show R<w6.heap.size;omega)).trans FP.1,((aa w6 _).cell (p:=⟨R,6,none⟩) (by show R<w6.heap.size;omega)).trans FP.2⟩
 have Tj:B≤(w6.alloc (.cells #[.string (bs T)] 9)).heap.size:=by have:=(aa w6 (.cells #[.string (bs T)] 9)).size;omega
 replace yY:=Lib.hid yY;refine aQ FP (hK _ _ _ ?_);clear hK K;refine aA rfl ?_;intro K hK;go_simp;refine aQ Ac (hK _ _ _ ?_);clear hK K;refine aA rfl ?_;intro K hK;unfold aD;rw [if_pos (by rfl),if_neg (by simp)];refine dX (v:=.slice lA n lc) (.tmp 22) (.tmp 31) rfl CY rfl On rfl Y8 (by intro u hu;simp at hu;subst hu;rfl) (by omega) (by omega) Tj ?_;intro v7 w7 jR qi dI mB;obtain ⟨vA7,vc7,rfl,Vq⟩:=ak jR;have Ly:xY R (.slice lA n lc) cd w7:=⟨qi.out.cell Ac.1 RG,qi.out.cell Ac.2 RG⟩
 obtain ⟨Ob,hf2,hf3,ZK,IF⟩:=uR yY.out T (v:=.slice vA7 (n+1) vc7) (by rw [hnn.out];exact jR) (by rw [hlv.out,hnn.out];exact qi.out) (by rw [hlv.out,hnn.out];exact mB.out);rw [hlv.out,hnn.out] at hf3;have GC:=Lib.hid (⟨rv,.slice vA7 (n+1) vc7,pv,M,row,hrow.out,IF⟩:PS (w7.setCell ⟨R,3,none⟩ (.slice vA7 (n+1) vc7)) B E R { r with leaf:={ r.leaf with lines:=r.leaf.lines++[T] } });have Qx:=Lib.hid (((VA.alloc (by omega) _).trans dI).setCell (p:=⟨R,3,none⟩) Ob (.slice vA7 (n+1) vc7));clear IF;refine aQ Ly (hK _ _ _ ?_);clear hK K;refine aA rfl ?_;intro K hK;go_simp;refine aQ Ly (hK _ _ _ ?_);clear hK K;refine aA rfl ?_;intro K hK;go_simp;refine aQ Ly (hK _ _ _ ?_);clear hK K;refine aA rfl ?_;intro K hK;go_simp;refine aQ Ly (hK _ _ _ ?_);clear hK K;refine gQ rfl rfl ?_;go_simp;refine ⟨fun _=>True,trivial,aM ?_⟩;go_wp2_with fail;go_returns;exact ⟨rfl,GC.out,Qx.out⟩
def Pb.Doc (row:List Pb.Cn):Prop:=(row.map (·.kind)).getLast? = some 0
theorem D7 {c:Pb.Cn}{o:List Pb.Cn}(h:o≠[]):Pb.Doc (c::o)↔Pb.Doc o:=by
 unfold Pb.Doc;cases o with
 | nil=>exact absurd rfl h
 | cons a b=>simp [List.getLast?_cons_cons]
theorem Cr {c c':Pb.Cn}{o:List Pb.Cn}(h:c'.kind=c.kind):Pb.Doc (c'::o)↔Pb.Doc (c::o):=by
 unfold Pb.Doc;rw [List.map_cons,List.map_cons,h]
theorem J0 (d c:Pb.Cn):(Pb.give d c).kind=c.kind:=by
 unfold Pb.give
 split
 ·unfold Pb.Cn.addItem
  split
  ·rfl
  ·split<;>rfl
 ·rfl
theorem Da:∀ (n:Nat) (row:List Pb.Cn),n<row.length→Pb.Doc row→Pb.Doc (Pb.pz n row)
 | 0,_,_,h=>h
 | _+1,[],h,_=>by simp at h
 | _+1,[c],h,_=>by simp at h
 | n+1,d::c::o,h,hd=>Da n (Pb.give d c::o) (by simpa using h) ((Cr (J0 d c)).2 ((D7 (by simp)).1 hd))
theorem lY {r:Pb.Rd}(t:Bk.Tree) (h:Pb.Doc r.row):Pb.Doc (Pb.cI t r).row:=by
 unfold Pb.cI;cases hr:r.row with
 | nil=>simp only [hr];rw [hr] at h;exact h
 | cons c o=>rw [hr] at h;exact (Cr rfl).2 h
theorem oC {r:Pb.Rd}(h:Pb.Doc r.row):Pb.Doc (Pb.aO r).row:=by
 unfold Pb.aO
 split
 ·exact lY _ h
 ·split
  ·exact lY _ h
  ·exact h
theorem xI (r:Pb.Rd):(Pb.aO r).row.length=r.row.length:=by
 have ha:∀ t,(Pb.cI t r).row.length=r.row.length:=fun t=>by
  unfold Pb.cI;cases hr:r.row with
  | nil=>simp [hr]
  | cons c o=>simp
 unfold Pb.aO
 split
 ·exact ha _
 ·split
  ·exact ha _
  ·rfl
theorem nB {r:Pb.Rd}{k:Nat}(hk:1≤k) (hp:0<r.row.length) (h:Pb.Doc r.row):Pb.Doc (Pb.aR k r).row:=by
 have:=xI r;exact Da _ _ (by omega) (oC h)
theorem xd {row:List Pb.Cn}(h:Pb.Doc row):row≠[]:=fun e=>by subst e;cases h
theorem rZ (ln:Nat):∀ (m k:Nat) (r:Pb.Rd) (s:List UInt8),1≤k→Pb.Doc r.row→Pb.Doc (Pb.begin ln m k r s).1.row
 | 0,_,_,_,_,h=>h
 | m+1,k,r,s,hk,h=>by
  rw [Pb.begin];cases Bk.opener s with
  | none=>exact h
  | some oq =>
   obtain ⟨o,q⟩:=oq;have hp:0<r.row.length:=by have:=xd h;cases hr:r.row with
    | nil=>exact absurd hr this
    | cons a b=>simp
   have h2:=nB hk hp h;exact rZ ln m (k+1) _ q (by omega) ((D7 (xd h2)).2 h2)
theorem qE {ln k:Nat}{s:List UInt8}{r:Pb.Rd}(hk:1≤k) (hp:0<r.row.length) (h:Pb.Doc r.row):Pb.Doc (Pb.jj ln k s r).row:=by
 have h2:=nB hk hp h;unfold Pb.jj
 split
 ·exact h2
 ·split
  ·exact lY _ h2
  ·split
   ·exact lY _ h2
   ·split
    ·exact h2
    ·split
     ·exact h
     ·exact h2
theorem tc:∀ (L:List Pb.Cn) (s:List UInt8),(Pb.take L s).1≤L.length∧(Pb.take L s).2.length≤s.length+3*L.length
 | [],s=>by simp [Pb.take]
 | c::r,s=>by
  rw [Pb.take];cases ht:c.take s with
  | none=>simp
  | some q =>
   have:=tc r q;have:=sN ht;simp only [List.length_cons];omega
theorem Eo {row:List Pb.Cn}(h:Pb.Doc row) (s:List UInt8):1≤(Pb.take row.reverse s).1:=by
 rcases List.eq_nil_or_concat row with e | ⟨r,c,e⟩
 ·exact absurd e (xd h)
 ·rw [List.concat_eq_append] at e
  subst e;unfold Pb.Doc at h;simp only [List.map_append,List.map_cons,List.map_nil,List.getLast?_concat,Option.some.injEq] at h;rw [List.reverse_append];show 1≤(Pb.take (c::r.reverse) s).1;rw [Pb.take];have:c.take s=some s:=by unfold Pb.Cn.take;rw [if_neg (by omega),if_neg (by omega)]
  rw [this];simp only;omega
theorem p8 (s:List UInt8):(Fn.trim s).length≤s.length:=by
 unfold Fn.trim;have h1:∀ l:List UInt8,(Fn.front l).length≤l.length:=fun l=>by
  induction l with
  | nil=>simp [Fn.front]
  | cons b r ih=>unfold Fn.front;split<;>simp only [List.length_cons] at *<;>omega
 have h2:∀ l:List UInt8,(Fn.back l).length≤l.length:=fun l=>by
  induction l with
  | nil=>simp [Fn.back]
  | cons b r ih=>unfold Fn.back;split<;>simp only [List.length_cons,List.length_nil] at *<;>omega
 have:=h1 s;have:=h2 (Fn.front s);omega
theorem CB {N i:Nat}{r:Pb.Rd}(h:Pb.Sz N i r) (ln k:Nat) (AG:ln≤1000000) (s:List UInt8) (hs:s.length≤300010):Pb.Sz (N+50) (i+1) (Pb.jj ln k s r):=by
 have h2:=eG h k (i+1);have ht:=p8 s;unfold Pb.jj
 split
 ·exact h2.mono (by omega) (Nat.le_refl _)
 ·split
  ·exact (ot h2 _).mono (by omega) (Nat.le_refl _)
  ·split
   ·exact (ot h2 _).mono (by omega) (Nat.le_refl _)
   ·split
    ·exact (h2.leaf ⟨7,ln,[],_,false⟩ (Nat.zero_le _) (fun s hs=>by cases hs) AG).mono (by omega) (Nat.le_refl _)
    ·split
     ·refine (h.leaf { r.leaf with lines:=r.leaf.lines++[Fn.trim s] } (i':=i+1) (by have:=h.lines;simp;omega) (fun t ht=>?_) h.line).mono (by omega) (Nat.le_refl _)
      rcases List.mem_append.1 ht with ht | ht
      ·exact h.text t ht
      ·rw [List.mem_singleton.1 ht];omega
     ·exact (h2.leaf ⟨4,ln,[Fn.trim s],Pb.qu,false⟩ (by simp) (fun t ht=>by rw [List.mem_singleton.1 ht];omega) AG).mono (by omega) (Nat.le_refl _)
theorem Bf {N i:Nat}{r:Pb.Rd}(h:Pb.Sz N i r) (s:List UInt8) (hs:s.length≤300000):Pb.Sz (N+50) (i+1) (Pb.gL s r):=by
 unfold Pb.gL
 split
 ·exact (kZ (h.leaf { r.leaf with ended:=true } h.lines h.text h.line) (i+1)).mono (by omega) (Nat.le_refl _)
 ·refine (h.leaf { r.leaf with lines:=r.leaf.lines++[Cl.strip r.leaf.op.ind s] } (i':=i+1) (by have:=h.lines;simp;omega) (fun t ht=>?_) h.line).mono (by omega) (Nat.le_refl _)
  rcases List.mem_append.1 ht with ht | ht
  ·exact h.text t ht
  ·rw [List.mem_singleton.1 ht];have:=Cl.nW (r.leaf.op.ind:Int) s;omega
theorem oA {s:List UInt8}{r:Pb.Rd}(h:Pb.Doc r.row):Pb.Doc (Pb.gL s r).row:=by
 unfold Pb.gL
 split
 ·exact oC (r:={ r with leaf:={ r.leaf with ended:=true } }) h
 ·exact h
theorem Gb (w:World) (B:Nat) (E:Nat→Option Part) (R:Nat) (r:Pb.Rd) (h:PS w B E R r) {N i:Nat}(hs:Pb.Sz N i r) (hN:N≤800000000) (hi:i≤100000) (s:List UInt8) (hl:s.length+100≤140737488355328) :
  Calls Tryz.prog 79 #[BD R,.string (bs s)] w fun e w'=>e=.returned (.tuple #[])∧PS w' B E R (Pb.gL s r)∧Below B w w':=by
 have hen:=fun w=>PZ r.leaf.op.c (r.leaf.op.n:Int) (r.leaf.op.ind:Int) (bs r.leaf.op.info) s w (by omega);have pT:=fun w=>n8 s (r.leaf.op.ind:Int) w (by omega);unfold Pb.gL
 by_cases he:Fn.ends r.leaf.op.c r.leaf.op.n s=true
 ·rw [if_pos he]
  rw [he] at hen;exact M9 w B E R r h hs hN hi s hen
 ·rw [if_neg he]
  rw [show Fn.ends r.leaf.op.c r.leaf.op.n s=false by simpa using he] at hen;exact PD w B E R r h hs hi s _ hen pT
theorem Lh (w:World) (B:Nat) (E:Nat→Option Part) (R:Nat) (r:Pb.Rd) (h:PS w B E R r) {N i:Nat}(hs:Pb.Sz N i r) (hd:Pb.Doc r.row) (hN:N≤700000000) (hi:i≤100000) (ln:Nat) (AG:ln≤1000000) (s:List UInt8) (hl:s.length≤299000) :
  Calls Tryz.prog 51 #[BD R,.int .i64 (ln:Int),.string (bs s)] w fun e w'=>e=.returned (.tuple #[])∧(PS w' B E R (Pb.iB ln s r)∧Pb.Sz (N+2100) (i+1) (Pb.iB ln s r)∧Pb.Doc (Pb.iB ln s r).row)∧Below B w w':=by
 obtain ⟨rv,lv,pv,M,row,hrow,hA⟩:=h;have hrl:row.length=r.row.length:=by rw [← hrow];simp
 have hBw:B≤w.heap.size:=by have:=aI hA;omega
 have Ys:=P4 w B E R rv lv pv M row r.leaf r.places hA (by rw [hrl];exact hs.few) s (by omega);rw [hrow] at Ys;obtain ⟨hb1,hb2⟩:=tc r.row.reverse s;have hb0:=Eo hd s;rw [List.length_reverse] at hb1 hb2;have Bb:=hs.few;obtain ⟨K,hK⟩:∃ K,(Pb.take r.row.reverse s).1=K:=⟨_,rfl⟩
 obtain ⟨Q,hQ⟩:∃ Q,(Pb.take r.row.reverse s).2=Q:=⟨_,rfl⟩
 rw [hK] at hb0 hb1 Ys;rw [hQ] at hb2 Ys;have hQl:Q.length≤299200:=by omega
 obtain ⟨T,hT⟩:∃ T,Pb.iB ln s r=T:=⟨_,rfl⟩
 have EO:=hT;unfold Pb.iB at EO;rw [hK,hQ] at EO;rw [hT];obtain ⟨m,hm⟩:∃ m,r.row.length=m:=⟨_,rfl⟩
 rw [hm] at EO hb1 Bb hrl;replace hA:=Lib.hid hA;replace hrow:=Lib.hid hrow;replace hrl:=Lib.hid hrl;replace hm:=Lib.hid hm
 by_cases h7:r.leaf.kind=7∧K=m
 ·rw [if_pos h7] at EO
  obtain ⟨h7a,h7b⟩:=h7;subst h7b;have hfl:=fun wz hz=>Gb wz B E R r hz hs (by omega) hi Q (by omega);rw [EO] at hfl;have hres:Pb.Sz (N+2100) (i+1) T∧Pb.Doc T.row:=⟨by rw [← EO];exact (Bf hs Q (by omega)).mono (by omega) (Nat.le_refl _),by rw [← EO];exact oA hd⟩
  replace hfl:=Lib.hid hfl;replace hres:=Lib.hid hres;replace h7a:=Lib.hid h7a;clear hT EO hK hQ;go_enter Tryz.func51,Tryz.ntmps51;go_wp2_with fail;refine Ys.mono ?_;rintro e w1 ⟨rfl,hw1⟩;have tS:=cC.mk (hA.out.hp.ext hw1) hA.out.good hA.out.old;obtain ⟨hR1,hR2,ry,c0,c1,_⟩:=aI tS;obtain ⟨rA,rc,iE,_⟩:=ak (tS.hp.own (k:=.row) rfl);rw [iE,hrl.out] at c0;rw [h7a.out] at c1;have XJ:=Lib.hid (⟨rv,lv,pv,M,row,hrow.out,tS⟩:PS w1 B E R r);replace tS:=Lib.hid tS;clear ry;go_wp2_with fail;refine (hfl.out _ XJ.out).mono ?_;rintro e w2 ⟨rfl,Bq,hb3⟩;replace Bq:=Lib.hid Bq;have oI:=Lib.hid ((hw1.mono hBw).trans hb3);go_wp2_with fail;go_returns;exact ⟨rfl,⟨Bq.out,hres.out.1,hres.out.2⟩,oI.out⟩
 ·rw [if_neg h7] at EO
  have Qt:=fun wz hz=>UA wz B E R r hz hs (by omega) hi ln K (by omega) (by rw [hm.out];omega) Q (by omega);obtain ⟨G,hG⟩:∃ G,Pb.begin ln (41-K) K r Q=G:=⟨_,rfl⟩
  have hgd:=rZ ln (41-K) K r Q (by omega) hd;rw [hG] at EO Qt hgd;obtain ⟨r1,k1,s1⟩:=G;simp only at EO Qt hgd;have hnot:((r.leaf.kind:Int)==7)=false∨((((r.leaf.kind:Int)==7)=true)∧((K:Int)==(m:Int))=false):=by
   by_cases ha:r.leaf.kind=7
   ·exact .inr ⟨by rw [beq_iff_eq];omega,by rw [beq_eq_false_iff_ne];intro e;exact h7 ⟨ha,by omega⟩⟩
   ·exact .inl (by rw [beq_eq_false_iff_ne];omega)
  replace Qt:=Lib.hid Qt;replace hgd:=Lib.hid hgd;replace EO:=Lib.hid EO;clear hT hK hQ hG h7;rcases hnot with t7 | ⟨t7,tk⟩
  all_goals (
   go_enter Tryz.func51,Tryz.ntmps51;go_wp2_with fail;refine Ys.mono ?_;rintro e w1 ⟨rfl,hw1⟩;have tS:=cC.mk (hA.out.hp.ext hw1) hA.out.good hA.out.old;obtain ⟨hR1,hR2,ry,c0,c1,_⟩:=aI tS;obtain ⟨rA,rc,iE,_⟩:=ak (tS.hp.own (k:=.row) rfl);rw [iE,hrl.out] at c0;have XJ:=Lib.hid (⟨rv,lv,pv,M,row,hrow.out,tS⟩:PS w1 B E R r);replace tS:=Lib.hid tS;clear ry;go_wp2_with fail;refine (Qt.out _ XJ.out).mono ?_;rintro e w2 ⟨rfl,Bq,hz2,oZ,hk2,hs2,hb3⟩;have uU:=fun wz hz=>K2 wz B E R r1 hz hz2 (by omega) hi ln k1 oZ s1 (by omega);rw [EO.out] at uU;have hres:Pb.Sz (N+2100) (i+1) T∧Pb.Doc T.row:=⟨by rw [← EO.out];exact (CB hz2 ln k1 AG s1 (by omega)).mono (by omega) (Nat.le_refl _),by rw [← EO.out];exact qE oZ (by omega) hgd.out⟩
   replace Bq:=Lib.hid Bq;replace uU:=Lib.hid uU;replace hres:=Lib.hid hres;have hb4:=Lib.hid ((hw1.mono hBw).trans hb3);clear c0 c1 hz2 hk2;go_wp2_with fail;refine (uU.out _ Bq.out).mono ?_;rintro e w4 ⟨rfl,xN,hb5⟩;replace xN:=Lib.hid xN;have oI:=Lib.hid (hb4.out.trans hb5);go_wp2_with fail;go_returns;exact ⟨rfl,⟨xN.out,hres.out.1,hres.out.2⟩,oI.out⟩)
end Go.Proofs.YtddkjkockbcamaaGreatDoor
