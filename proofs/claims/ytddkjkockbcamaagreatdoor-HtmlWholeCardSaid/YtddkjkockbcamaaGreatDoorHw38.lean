/- WHmWhole -/
import Derived.Test.YtddkjkockbcamaaGreatDoorHw37
import Derived.Test.YtddkjkockbcamaaGreatDoorHw36
import Derived.Test.YtddkjkockbcamaaGreatDoorHw20
import Derived.Test.YtddkjkockbcamaaGreatDoorHw10
import Derived.Test.YtddkjkockbcamaaGreatDoorHw07
set_option maxHeartbeats 16000000
set_option maxRecDepth 100000
namespace Go.Proofs.YtddkjkockbcamaaGreatDoor
open Go.RowKit
attribute [local go_sem] aD av aq
theorem IT (w:World) (xs:List Int) (A:Option Addr) (c:Nat) (h:Row w w.heap.size 1 A xs.length (xR xs)) (hc:xs.length≤c) (hl:xs.length≤9223372036854775807) :
  cL (w.alloc (.cells #[.slice A xs.length c,.int .i64 0] 26)) w.heap.size :=
 ⟨A,xs.length,c,0,xs,heap_alloc_new w _,by omega,hc,hl,h.below (aa w _)⟩
theorem Jx (xs:List Int) (A0:Option Addr) (c0:Nat) (lb:List UInt8) (A1:Option Addr) (c1:Nat) (w:World)
  (h0:Row w w.heap.size 1 A0 xs.length (xR xs)) (hc0:xs.length≤c0) (hm0:c0≤maxLen) (h1:Row w w.heap.size 1 A1 lb.length (ai lb)) (hc1:lb.length≤c1) (hm1:c1≤maxLen) (Xy:Tabs w) :
  Calls Tryz.prog 5 #[.slice A0 xs.length c0,.slice A1 lb.length c1] w fun e w'=>e=.returned (.bool true)∧Below w.heap.size w w':=by
 have hx0:xs.length≤9223372036854775807:=Nat.le_trans hc0 (Nat.le_trans hm0 (by decide));have hx1:lb.length≤9223372036854775807:=Nat.le_trans hc1 (Nat.le_trans hm1 (by decide));have hTt:=Lib.hid (fun w' (hb:Below w.heap.size w w')=>cM Xy hb);have hT:=IT w xs A0 c0 h0 hc0 hx0;have HN:=aa w (.cells #[.slice A0 xs.length c0,.int .i64 0] 26);have hzA:(w.alloc (.cells #[.slice A0 xs.length c0,.int .i64 0] 26)).heap.size=w.heap.size+1:=by simp
 have hm:=fun w' h=>DF w' w.heap.size h 60 (by omega) 60 rfl;replace h1:=Lib.hid h1;replace HN:=Lib.hid HN;replace hm:=Lib.hid hm;replace hT:=Lib.hid hT;clear h0 Xy hm0 hm1;go_enter Tryz.func5,Tryz.ntmps5;go_wp2_with fail;generalize w.alloc (.cells #[.slice A0 xs.length c0,.int .i64 0] 26)=wa at hT HN hzA ⊢;refine (hm.out wa hT.out).mono ?_;rintro e w1 ⟨vx,lx,rfl,hox,hlx,_,hb1⟩;obtain ⟨Ax,cx,rfl,hcx⟩:=ak hox;have aa9:=Lib.hid (HN.out.trans hb1);have hrx:=Lib.hid (Row.own hox);have hz1:w.heap.size+1≤w1.heap.size:=by have:=hb1.size;omega
 have h11:=Lib.hid (h1.out.ext aa9.out);obtain ⟨W,hW⟩:∃ W,W=w1.alloc (.cells #[.slice Ax lx.length cx,.slice A1 lb.length c1] 27):=⟨_,rfl⟩
 have hbW:=Lib.hid (show Below w1.heap.size w1 W from by rw [hW];exact aa _ _);have hWg:Hid (W.heap[w1.heap.size]? = some (.cells #[.slice Ax lx.length cx,.slice A1 lb.length c1] 27)):=Lib.hid (by rw [hW];exact heap_alloc_new _ _);clear hb1 HN hm hT hox h1;go_wp2_with fail;rw [← hW];clear hW;obtain ⟨g,hg⟩:∃ g,g=w1.heap.size:=⟨_,rfl⟩
 rw [← hg] at hWg ⊢;have hgW:g<W.heap.size:=(Array.getElem?_eq_some_iff.1 hWg.out).1;clear hg
 go_loopw [15] (fun u wr=>∃ k:Nat,k≤2∧u=.int .i64 (k:Int)∧Hid (Below W.heap.size W wr)) (fun u _=>2-(intOf u).toNat)
 case atStart=>exact ⟨0,by omega,rfl,Lib.hid (Below.refl _ _)⟩
 case round =>
  obtain ⟨k,hk,rfl,hb⟩:=hrel;have ZO:=Lib.hid (ag hbW.out hb.out);have nS:=Lib.hid (aa9.out.trans (ZO.out.mono (by omega)));rcases Nat.lt_or_eq_of_le hk with hlt | Au
  ·obtain ⟨A,c,l,hcell,hrow,hlc,rG⟩:∃ (A:Option Addr) (c:Nat) (l:List UInt8),wr.cell? ⟨g,k,none⟩=some (.slice A l.length c)∧Hid (Row wr wr.heap.size 1 A l.length (ai l))∧l.length≤c∧l.length≤9223372036854775807:=by
    have hcg:=fun j=>(hb.out.cell (p:=⟨g,j,none⟩) hgW).trans (ah hWg.out j);rcases (show k=0∨k=1 by omega) with rfl | rfl
    ·exact ⟨Ax,cx,lx,hcg 0,Lib.hid (hrx.out.ext ZO.out),hcx,by omega⟩
    ·exact ⟨A1,c1,lb,hcg 1,Lib.hid (h11.out.ext ZO.out),hc1,hx1⟩
   have q1:=Lib.hid (GN l A c wr hrow.out hlc rG (hTt.out _ nS.out));have q2:=fun w=>SZ (Pg.page l) w (by have:=Pg.iY l;omega);have q3:=fun w=>lJ (Pg.page l) w (by have:=Pg.iY l;omega);rw [Pg.Tq] at q2 q3;obtain ⟨P,hP⟩:∃ P,P=Pg.page l:=⟨_,rfl⟩
   rw [← hP] at q1 q2 q3;replace q2:=Lib.hid q2;replace q3:=Lib.hid q3;clear hP hrow;go_wp2_with fail;refine q1.out.mono ?_;rintro e w2 ⟨rfl,hb2⟩;replace hb2:=Lib.hid (ag hb.out hb2);go_wp2_with fail;refine (q2.out _).mono ?_;rintro e w3 ⟨rfl,hb3⟩;replace hb3:=Lib.hid (ag hb2.out hb3);go_wp2_with fail;refine (q3.out _).mono ?_;rintro e w4 ⟨rfl,hb4⟩;replace hb4:=Lib.hid (ag hb3.out hb4);go_wp2_with fail
   go_roundw
   case rel=>exact ⟨k+1,by omega,by go_num,hb4⟩
   case measure=>simp [intOf];omega
  ·subst Au
   have q1:=Lib.hid (GF wr (hTt.out _ nS.out));go_wp2_with fail;refine q1.out.mono ?_;rintro e w2 ⟨rfl,hb2⟩;replace hb2:=Lib.hid (ag nS.out hb2);go_wp2_with fail;go_ret;exact ⟨rfl,hb2.out⟩
end Go.Proofs.YtddkjkockbcamaaGreatDoor
