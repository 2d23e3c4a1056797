/- WHmEscaped -/
import Derived.Test.YtddkjkockbcamaaGreatDoorHe37
import Derived.Test.YtddkjkockbcamaaGreatDoorHe07
set_option maxHeartbeats 16000000
set_option maxRecDepth 100000
namespace Go.Proofs.YtddkjkockbcamaaGreatDoor
open Go.RowKit
attribute [local go_sem] aD av aq
def ET (l:List UInt8):Nat:=l.countP (·=60)
theorem gM (a b:List UInt8):ET (a++b)=ET a+ET b:=List.countP_append
theorem OP {l:List UInt8}(h:∀ b∈l,b≠60):ET l=0:=by
 unfold ET;rw [List.countP_eq_zero];intro b hb;simpa using h b hb
theorem Ex (t:List UInt8):ET (Es.page t)=0:=OP fun b hb=>(Es.nh t b hb).1
def fP (s:List UInt8):Hm.Hb:=.mk 7 0 s [] 0 []
theorem TG (s:List UInt8):Pg.blk (fP s)=[60,112,114,101,62,60,99,111,100,101,62]++Es.page s++[60,47,99,111,100,101,62,60,47,112,114,101,62,10]:=by
 unfold fP Pg.blk;rw [if_neg (by decide),if_neg (by decide),if_neg (by decide),if_neg (by decide),if_neg (by decide),if_neg (by decide),if_neg (by decide),if_pos rfl];simp [Hm.tag,Hm.shut,Hm.Fw,Hm.cB]
theorem V0 (s:List UInt8):ET (Pg.blk (fP s))=4:=by
 rw [TG,gM,gM,Ex];rfl
def qI (s:List UInt8):List Hm.Hi:=[.mk 1 s [] [],.mk 0 s [] []]
theorem Xu {s:List UInt8}(h:s.length≤4000000):(Pg.bz (qI s) 1 Pg.start).t=Hm.bz (qI s):=by
 have hp:=(Es.kL s).2;have hl:(Hm.bz (qI s)).length≤400000000:=by
  have:=mH (qI s);have e:Hm.xK (qI s)=2*s.length+2:=by simp only [qI,Hm.xK,Hm.im,List.length_nil];omega
  omega
 have:=(Pg.mJ (qI s) 1 Pg.start rfl (by simp [qI,Pg.D5,Pg.JZ]) (by simp only [qI,Hm.xK,Hm.im,Pg.start,List.length_nil];omega) (by simp only [Pg.start,List.length_nil];omega)).2;rw [this];simp only [Pg.start,List.nil_append]
theorem Tg (s:List UInt8):Hm.bz (qI s)=Hm.tag Hm.cB++Es.page s++Hm.shut Hm.cB++Es.page s:=by
 simp only [qI,Hm.bz,List.append_nil];unfold Hm.inl;rw [if_neg (by decide),if_pos rfl,if_pos rfl]
theorem UT (s:List UInt8):ET (Hm.bz (qI s))=2:=by
 rw [Tg,gM,gM,gM,Ex];rfl
theorem EB {l:List UInt8}{k:Nat}(h:k<l.length):ET (l.take (k+1))=ET (l.take k)+if l[k]=60 then 1 else 0:=by
 rw [List.take_succ_eq_append_getElem h,gM];unfold ET;rw [List.countP_singleton];simp
theorem P3 (l:List UInt8):ET l≤l.length:=List.countP_le_length
theorem IT {w:World}{Q:Nat→Prop}(kd:Int) (t d:List UInt8):HC w Q (.mk kd t d []) [.int .i64 kd,.string (bs t),.string (bs d),.slice none 0 0]:=by
 unfold HC;exact ⟨none,0,[],rfl,Nat.le_refl _,⟨rfl,fun h=>absurd h (by simp)⟩,HK⟩
theorem Jv {w:World}{Q:Nat→Prop}{g n:Nat}{C:Array Value}{T:TypeId}(h:w.heap[g]? = some (.cells C T)) (hq:Q g) {xs:List Value}(hx:C.toList=xs) (hn:xs.length=n*4):eu w Q 4 (some ⟨g,0,none⟩) n xs:=by
 refine ⟨hn,fun _=>⟨g,0,rfl,hq,fun j u hj=>?_⟩⟩;rw [Nat.zero_add,Lib.cell_of_heap h];subst hx;simpa using hj
theorem Qb {w:World}{Q:Nat→Prop}(kd lv:Int) (t i:List UInt8) (ln:Int):HT w Q (.mk kd lv t i ln []) [.int .i64 kd,.int .i64 lv,.string (bs t),.string (bs i),.int .i64 ln,.slice none 0 0]:=by
 unfold HT;exact ⟨none,0,[],rfl,Nat.le_refl _,⟨rfl,fun h=>absurd h (by simp)⟩,HF⟩
theorem Ay (rs:List (List UInt8)) (A:Option Addr) (c:Nat) (w:World) (h:Row w w.heap.size 1 A rs.length (aZ rs)) (_:rs.length≤c) (TR:Tabs w) (hs:eF rs≤1048576) :
  Calls Tryz.prog 6 #[.slice A rs.length c] w fun e w'=>e=.returned (.bool true)∧Below w.heap.size w w':=by
 have YT:=Lib.hid (fun w' (hb:Below w.heap.size w w')=>cy TR hb);replace h:=Lib.hid h;have hlen:Hid (rs.length≤1048576):=Lib.hid (Nat.le_trans (by
  have:∀ l:List (List UInt8),l.length≤eF l:=by
   intro l;induction l with
   | nil=>simp
   | cons x r ih=>simp only [eF,List.map_cons,List.sum_cons,List.length_cons] at ih ⊢;omega
  exact this rs) hs)
 have hfl:Hid (∀ k,(rs.take k).flatten.length≤1048576):=Lib.hid (by
  intro k;have h2:∀ l:List (List UInt8),l.flatten.length≤eF l:=by
   intro l;induction l with
   | nil=>simp
   | cons x r ih=>simp only [eF,List.map_cons,List.sum_cons,List.flatten_cons,List.length_append] at ih ⊢;omega
  have h1:(rs.take k).flatten.length≤rs.flatten.length:=by
   conv=>rhs;rw [← List.take_append_drop k rs,List.flatten_append,List.length_append]
   omega
  exact Nat.le_trans h1 (Nat.le_trans (h2 rs) hs))
 have hlen':=hlen.out;clear TR hs;go_enter Tryz.func6,Tryz.ntmps6;go_wp2_with fail
 go_loopw [3,4] (fun v u wr=>wr=w∧∃ k:Nat,k≤rs.length∧k≤8∧u=.int .i64 (k:Int)∧v=.string (bs (rs.take k).flatten)) (fun _ u _=>9-(intOf u).toNat)
 case atStart=>exact ⟨rfl,0,by omega,by omega,rfl,rfl⟩
 case round =>
  obtain ⟨rfl,k,oZ,hk8,rfl,rfl⟩:=hrel
  by_cases hgo:k<rs.length∧k<8
  ·obtain ⟨hg1,hg2⟩:=hgo
   have acX:(k:Int)<(rs.length:Int):=by omega
   have abV:(k:Int)<8:=by omega
   obtain ⟨b,o,rfl,jB,hcc⟩:=h.out.2 (by omega);have hsk:=hcc k (.string (bs rs[k])) (by simp [aZ,List.getElem?_eq_getElem hg1]);have hst:(rs.take (k+1)).flatten=(rs.take k).flatten++rs[k]:=by rw [List.take_succ_eq_append_getElem hg1,List.flatten_append];simp
   have Ob:=hfl.out (k+1);rw [hst,List.length_append] at Ob;obtain ⟨s,TP⟩:∃ s,rs[k]=s:=⟨_,rfl⟩
   rw [TP] at hsk hst Ob;obtain ⟨P,hP⟩:∃ P,P=(rs.take k).flatten:=⟨_,rfl⟩
   rw [← hP] at hst Ob ⊢;have z1:=au P;have z2:=au s;have c1:bs P++bs s=bs (P++s):=yu P s;rw [← hst] at c1;replace hst:=Lib.hid hst;clear TP hP;go_wp2_with fail
   go_roundw
   case rel=>exact ⟨trivial,k+1,by omega,by omega,by go_num,rfl⟩
   case measure=>simp [intOf];omega
  ·have hstop:(rs.length:Int)≤(k:Int)∨(k:Int)<(rs.length:Int)∧(8:Int)≤(k:Int):=by omega
   obtain ⟨s,TP⟩:∃ s,s=(rs.take k).flatten:=⟨_,rfl⟩
   have pE:s.length≤1048576:=by rw [TP];exact hfl.out k
   rw [← TP];have NQ:=(Es.kL s).2;have hFl:(Pg.blk (fP s)).length≤10000000:=by
    rw [TG];simp only [List.length_append,List.length_cons,List.length_nil];omega
   have hQl:(Hm.bz (qI s)).length≤20000000:=by
    rw [Tg];simp only [Hm.tag,Hm.shut,Hm.cB,List.length_append,List.length_cons,List.length_nil];omega
   have qF:=Lib.hid (fun (w':World) (hT:Tabs w')=>vv (fP s) (.mk (by omega) (by simp)) (by simp [fP,Pg.rD,Pg.vE]) (by simp [fP,Pg.bn,Pg.sY];omega) (by omega) _ w' (fun b=>b<w'.heap.size) (fun _ h=>h) (Qb 7 0 s [] 0) hT);have qQ:=Lib.hid (fun (w':World) (g:Nat) (hg:w'.heap[g]? = some (.cells #[.int .i64 1,.string (bs s),.string (bs []),.slice none 0 0,.int .i64 0,.string (bs s),.string (bs []),.slice none 0 0] 35))=>(show Calls Tryz.prog 14 #[.slice (some ⟨g,0,none⟩) 2 2] w' fun e w''=>e=.returned (.string (bs (Hm.bz (qI s))))∧Below w'.heap.size w' w'' from by
    have h9:=qX (qI s) (by
     intro t ht;simp only [qI,List.mem_cons,List.not_mem_nil,or_false] at ht;rcases ht with rfl | rfl<;>exact .mk (by omega) (by simp) (by simp) (by simp)) (by simp [qI]) (some ⟨g,0,none⟩) 2 [[.int .i64 1,.string (bs s),.string (bs []),.slice none 0 0],[.int .i64 0,.string (bs s),.string (bs []),.slice none 0 0]] w' (fun b=>b<w'.heap.size) (fun _ h=>h) (Jv hg (Array.getElem?_eq_some_iff.1 hg).1 rfl rfl) (C6 (IT 1 s []) (C6 (IT 0 s []) HK)) (by simp only [qI,Hm.xK,Hm.im,List.length_nil];omega) (by omega)
    rw [Xu (by omega)] at h9;exact h9))
   have b1:=fun w=>jh (Pg.blk (fP s)) w (by omega);rw [Pg.CW] at b1;have b2:=fun w=>jh (Hm.bz (qI s)) w (by omega);rw [Hm.Q3] at b2;have n1:=V0 s;have n2:=UT s;obtain ⟨P,hP⟩:∃ P,P=Pg.blk (fP s):=⟨_,rfl⟩
   obtain ⟨U,hU⟩:∃ U,U=Hm.bz (qI s):=⟨_,rfl⟩
   rw [← hP] at qF b1 n1 hFl;rw [← hU] at qQ b2 n2 hQl;have zP:=au P;have zU:=au U;have hkn:=Lib.hid (fun (w':World) (hT:Tabs w')=>DI w' hT);have hsz:=au s;have qF0:=Lib.hid (qF.out wr (YT.out _ (Below.refl _ _)));replace b1:=Lib.hid b1;replace b2:=Lib.hid b2;replace n1:=Lib.hid n1;replace n2:=Lib.hid n2;clear hP hU hgo TP NQ qF;rcases hstop with hs1 | ⟨hs1,hs2⟩
   all_goals
    go_wp2_with fail;refine qF0.out.mono ?_;rintro e w1 ⟨rfl,hb1⟩;replace hb1:=Lib.hid hb1;obtain ⟨W,hW⟩:∃ W,W=w1.alloc (.cells #[.int .i64 1,.string (bs s),.string ⟨#[]⟩,.slice none 0 0,.int .i64 0,.string (bs s),.string ⟨#[]⟩,.slice none 0 0] 35):=⟨_,rfl⟩
    have hb2:=Lib.hid (show Below w1.heap.size w1 W from by rw [hW];exact aa _ _);have q2:=Lib.hid (qQ.out W w1.heap.size (by rw [hW];exact heap_alloc_new _ _));clear qF0 qQ;go_wp2_with fail;rw [← hW];clear hW;refine q2.out.mono ?_;rintro e w2 ⟨rfl,hb3⟩;have hb4:=Lib.hid (ag hb1.out (ag hb2.out hb3));clear hb3 q2 hb2;go_wp2_with fail
    go_loopw [7,9] (fun v u w8=>w8=w2∧∃ a:Nat,a≤P.length∧u=.int .i64 (a:Int)∧v=.int .i64 ((ET (P.take a):Nat):Int)) (fun _ u _=>P.length-(intOf u).toNat)
    case atStart=>exact ⟨rfl,0,by omega,rfl,rfl⟩
    case round =>
     obtain ⟨rfl,a,ha,rfl,rfl⟩:=hrel;have hle:=P3 (P.take a);rw [List.length_take] at hle;rcases Nat.lt_or_eq_of_le ha with hal | hae
     ·have hby:=fun w=>bC hal w
      have hst:=EB hal;obtain ⟨N,hN⟩:∃ N,N=ET (P.take a):=⟨_,rfl⟩
      rw [← hN] at hst hle ⊢
      by_cases eB:P[a]=60
      ·have t1:((P[a].toNat:Int)==60)=true:=iP (n:=60) (by omega) eB
       rw [if_pos eB] at hst;replace hst:=Lib.hid hst;replace eB:=Lib.hid eB;clear hN;go_wp2_with fail
       go_roundw
       case rel=>exact ⟨trivial,a+1,by omega,by go_num,by rw [hst.out];go_num⟩
       case measure=>simp [intOf];omega
      ·have t1:((P[a].toNat:Int)==60)=false:=eo (n:=60) (by omega) eB
       rw [if_neg eB] at hst;replace hst:=Lib.hid hst;replace eB:=Lib.hid eB;clear hN;go_wp2_with fail
       go_roundw
       case rel=>exact ⟨trivial,a+1,by omega,by go_num,by rw [hst.out];rfl⟩
       case measure=>simp [intOf];omega
     ·subst hae
      rw [List.take_length,n1.out];clear hle;go_wp2_with fail;obtain ⟨wo,rfl⟩:∃ wo:World,wo=wr:=⟨_,rfl⟩
      go_loopw [8,10] (fun v u w8=>w8=wo∧∃ a:Nat,a≤U.length∧u=.int .i64 (a:Int)∧v=.int .i64 ((ET (U.take a):Nat):Int)) (fun _ u _=>U.length-(intOf u).toNat)
      case atStart=>exact ⟨rfl,0,by omega,rfl,rfl⟩
      case round =>
       obtain ⟨rfl,a,ha,rfl,rfl⟩:=hrel;have hle:=P3 (U.take a);rw [List.length_take] at hle;rcases Nat.lt_or_eq_of_le ha with hal | hae
       ·have hby:=fun w=>bC hal w
        have hst:=EB hal;obtain ⟨N,hN⟩:∃ N,N=ET (U.take a):=⟨_,rfl⟩
        rw [← hN] at hst hle ⊢
        by_cases eB:U[a]=60
        ·have t1:((U[a].toNat:Int)==60)=true:=iP (n:=60) (by omega) eB
         rw [if_pos eB] at hst;replace hst:=Lib.hid hst;replace eB:=Lib.hid eB;clear hN;go_wp2_with fail
         go_roundw
         case rel=>exact ⟨trivial,a+1,by omega,by go_num,by rw [hst.out];go_num⟩
         case measure=>simp [intOf];omega
        ·have t1:((U[a].toNat:Int)==60)=false:=eo (n:=60) (by omega) eB
         rw [if_neg eB] at hst;replace hst:=Lib.hid hst;replace eB:=Lib.hid eB;clear hN;go_wp2_with fail
         go_roundw
         case rel=>exact ⟨trivial,a+1,by omega,by go_num,by rw [hst.out];rfl⟩
         case measure=>simp [intOf];omega
       ·subst hae
        rw [List.take_length,n2.out];clear hle;go_wp2_with fail;refine (b1.out _).mono ?_;rintro e w3 ⟨rfl,hb5⟩;have jA:=Lib.hid (ag hb4.out hb5);clear hb5;go_wp2_with fail;refine (b2.out _).mono ?_;rintro e w4 ⟨rfl,dI⟩;have mg:=Lib.hid (ag jA.out dI);clear dI;go_wp2_with fail;refine (hkn.out _ (YT.out _ mg.out)).mono ?_;rintro e w5 ⟨rfl,DC⟩;have AD:=Lib.hid (ag mg.out DC);clear DC;go_wp2_with fail;go_ret;exact ⟨rfl,AD.out⟩
end Go.Proofs.YtddkjkockbcamaaGreatDoor
