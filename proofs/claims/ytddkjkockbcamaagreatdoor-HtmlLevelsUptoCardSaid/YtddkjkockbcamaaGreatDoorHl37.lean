/- HmKnown WHmLevels -/
import Derived.Test.YtddkjkockbcamaaGreatDoorHl36
import Derived.Test.YtddkjkockbcamaaGreatDoorHl31
import Derived.Lib.SlBytesConst
set_option maxHeartbeats 16000000
set_option maxRecDepth 100000
namespace Go.Proofs.YtddkjkockbcamaaGreatDoor
open Go.RowKit
attribute [local go_sem] aD av aq
def pT:List UInt8:=[35,32,97,32,60,98,62,10,62,32,45,32,42,99,42,10,10,126,126,126,32,120,10,60,100,62,10,126,126,126,10,45,45,45,10,91,101,93,40,106,97,118,97,115,99,114,105,112,116,58,102,41,32,91,103,93,40,104,34,105,41,10]
def hk2:List UInt8:=[60,104,49,62,97,32,38,108,116,59,98,38,103,116,59,60,47,104,49,62,10,60,98,108,111,99,107,113,117,111,116,101,62,10,60,117,108,62,10,60,108,105,62,10,60,112,62,60,101,109,62,99,60,47,101,109,62,60,47,112,62,10,60,47,108,105,62,10,60,47,117,108,62,10,60,47,98,108,111,99,107,113,117,111,116,101,62,10,60,112,114,101,62,60,99,111,100,101,62,38,108,116,59,100,38,103,116,59,10,60,47,99,111,100,101,62,60,47,112,114,101,62,10,60,104,114,32,47,62,10,60,112,62,60,97,32,104,114,101,102,61,34,35,34,62,101,60,47,97,62,32,60,97,32,104,114,101,102,61,34,104,38,113,117,111,116,59,105,34,62,103,60,47,97,62,60,47,112,62,10]
mutual
def Xj:Hm.Hb→Bool
 | .mk _ _ t _ _ ks=>decide (t.length≤4000000)&&S5 ks
def S5:List Hm.Hb→Bool
 | []=>true
 | x::r=>Xj x&&S5 r
end
mutual
theorem rP:∀ x:Hm.Hb,Xj x=true→Pg.kS 4000000 x
 | .mk _ _ t _ _ ks,h=>by
  simp only [Xj,Bool.and_eq_true,decide_eq_true_eq] at h;exact .mk h.1 (xy ks h.2)
theorem xy:∀ l:List Hm.Hb,S5 l=true→∀ x∈l,Pg.kS 4000000 x
 | [],_=>by simp
 | x::r,h=>by
  simp only [S5,Bool.and_eq_true] at h;intro y hy;rcases List.mem_cons.1 hy with hy | hy
  ·rw [hy]; exact rP x h.1
  ·exact xy r h.2 y hy
end
theorem AW:Pg.blk (Hm.k9 (Pb.tree (Pb.bh pT)))=hk2:=by kernel_rfl
theorem MX:Xj (Hm.k9 (Pb.tree (Pb.bh pT)))=true:=by kernel_rfl
theorem V7:Nat.ble (Pg.ou (Hm.k9 (Pb.tree (Pb.bh pT)))) 1000=true:=by kernel_rfl
theorem XY:Nat.ble (Pg.bn (Hm.k9 (Pb.tree (Pb.bh pT)))) 1000=true:=by kernel_rfl
theorem HS:Pg.blk (Hm.k9 (Pb.tree (Pb.bh [])))=[]:=by kernel_rfl
theorem KA:Xj (Hm.k9 (Pb.tree (Pb.bh [])))=true:=by kernel_rfl
theorem Rj:Nat.ble (Pg.ou (Hm.k9 (Pb.tree (Pb.bh [])))) 1000=true:=by kernel_rfl
theorem T8:Nat.ble (Pg.bn (Hm.k9 (Pb.tree (Pb.bh [])))) 1000=true:=by kernel_rfl
theorem Wc:Hm.jx hk2 []=true:=by rw [← AW]; exact Pg.CP _
theorem Xp:Hm.jx [60,112,62] []=false:=by kernel_rfl
theorem Ym:Hm.jx [60,97,62,60,47,98,62] []=false:=by kernel_rfl
theorem Xu:Hm.jx [60] []=false:=by kernel_rfl
theorem Yx:Hm.jx [60,97,32,98,61,34,99,34,62,60,100,32,47,62,60,47,97,62] []=true:=by kernel_rfl
theorem Ce (w:World) (hT:Tabs w) :
  Calls Tryz.prog 16 #[] w fun e w'=>e=.returned (.bool true)∧Below w.heap.size w w':=by
 have kc:=fun (w:World) (C:Array Value) (n c:Nat)=>Lib.run_convert_bytes_const (P:=Tryz.prog) w 27 5 C n c Tryz.underlying27 Tryz.underlying5;have q1:=fun (C:Array Value) (m:Nat×Nat) (hC:C.toList=aj pT) (hs:C.size=62)=>Dq pT (some ⟨w.heap.size,0,none⟩) 62 (w.alloc (.cells C 5 m)) (Row.fresh w 5 C m hs hC) (by decide) (by decide) (cu hT (aa _ _)) (rP _ MX) (Nat.le_trans (Nat.le_of_ble_eq_true V7) (by decide)) (Nat.le_trans (Nat.le_of_ble_eq_true XY) (by decide)) (by rw [AW]; decide);rw [AW] at q1;have AD:pT.length=62:=rfl;rw [AD] at q1;have q2:=fun (w:World) (hT:Tabs w)=>Dq [] none 0 w ⟨rfl,fun h=>absurd h (by simp)⟩ (Nat.le_refl _) (by decide) hT (rP _ KA) (Nat.le_trans (Nat.le_of_ble_eq_true Rj) (by decide)) (Nat.le_trans (Nat.le_of_ble_eq_true T8) (by decide)) (by rw [HS]; decide);rw [HS] at q2;have q3:=fun w=>ku hk2 w (by decide);rw [Wc] at q3;have p0:=fun w=>ku [60,112,62] w (by decide);rw [Xp] at p0;have p1:=fun w=>ku [60,97,62,60,47,98,62] w (by decide);rw [Ym] at p1;have p2:=fun w=>ku [60] w (by decide);rw [Xu] at p2;have p3:=fun w=>ku [60,97,32,98,61,34,99,34,62,60,100,32,47,62,60,47,97,62] w (by decide);rw [Yx] at p3;have UO:=Lib.hid (fun w' (hb:Below w.heap.size w w')=>cu hT hb);have e2:((bs hk2).toList==[60,104,49,62,97,32,38,108,116,59,98,38,103,116,59,60,47,104,49,62,10,60,98,108,111,99,107,113,117,111,116,101,62,10,60,117,108,62,10,60,108,105,62,10,60,112,62,60,101,109,62,99,60,47,101,109,62,60,47,112,62,10,60,47,108,105,62,10,60,47,117,108,62,10,60,47,98,108,111,99,107,113,117,111,116,101,62,10,60,112,114,101,62,60,99,111,100,101,62,38,108,116,59,100,38,103,116,59,10,60,47,99,111,100,101,62,60,47,112,114,101,62,10,60,104,114,32,47,62,10,60,112,62,60,97,32,104,114,101,102,61,34,35,34,62,101,60,47,97,62,32,60,97,32,104,114,101,102,61,34,104,38,113,117,111,116,59,105,34,62,103,60,47,97,62,60,47,112,62,10])=true:=by rw [bD]; rfl
 have Qw:(bs []).toList.isEmpty=true:=by rw [bD]; rfl
 obtain ⟨K,hK⟩:∃ K,K=hk2:=⟨_,rfl⟩
 rw [← hK] at q1 q3 e2;replace q1:=Lib.hid q1;replace q2:=Lib.hid q2;replace q3:=Lib.hid q3;replace p0:=Lib.hid p0;replace p1:=Lib.hid p1;replace p2:=Lib.hid p2;replace p3:=Lib.hid p3;clear hK hT;go_enter Tryz.func16,Tryz.ntmps16;go_wp2_with fail;refine (q1.out _ _ rfl rfl).mono ?_;rintro e w1 ⟨rfl,mI⟩;have hb1:=Lib.hid (ag (aa _ _) mI);clear mI q1 kc;go_wp2_with fail;refine (q2.out _ (UO.out _ hb1.out)).mono ?_;rintro e w2 ⟨rfl,hb2⟩;replace hb2:=Lib.hid (ag hb1.out hb2);go_wp2_with fail;refine (q3.out _).mono ?_;rintro e w3 ⟨rfl,hb3⟩;replace hb3:=Lib.hid (ag hb2.out hb3);go_wp2_with fail;refine (p0.out _).mono ?_;rintro e w4 ⟨rfl,hb4⟩;replace hb4:=Lib.hid (ag hb3.out hb4);go_wp2_with fail;refine (p1.out _).mono ?_;rintro e w5 ⟨rfl,hb5⟩;replace hb5:=Lib.hid (ag hb4.out hb5);go_wp2_with fail;refine (p2.out _).mono ?_;rintro e w6 ⟨rfl,iV⟩;replace iV:=Lib.hid (ag hb5.out iV);go_wp2_with fail;refine (p3.out _).mono ?_;rintro e w7 ⟨rfl,dI⟩;replace dI:=Lib.hid (ag iV.out dI);go_wp2_with fail;go_ret;exact ⟨rfl,dI.out⟩
end Go.Proofs.YtddkjkockbcamaaGreatDoor

set_option maxHeartbeats 16000000
set_option maxRecDepth 100000
namespace Go.Proofs.YtddkjkockbcamaaGreatDoor
open Go.RowKit
attribute [local go_sem] aD av aq
theorem qI {w:World} {Q:Nat→Prop} (kd lv:Int) (t i:List UInt8) (ln:Int):HT w Q (.mk kd lv t i ln []) [.int .i64 kd,.int .i64 lv,.string (bs t),.string (bs i),.int .i64 ln,.slice none 0 0]:=by
 unfold HT;exact ⟨none,0,[],rfl,Nat.le_refl _,⟨rfl,fun h=>absurd h (by simp)⟩,uG⟩
theorem Ii {w:World} {Q:Nat→Prop} (kd lv:Int) (t i:List UInt8) (ln:Int) {ks:List Hm.Hb} {g n:Nat} {css:List (List Value)} (hn:ks.length=n) (hR:ec w Q 6 (some ⟨g,0,none⟩) n css.flatten) (hI:An w Q ks css):HT w Q (.mk kd lv t i ln ks) [.int .i64 kd,.int .i64 lv,.string (bs t),.string (bs i),.int .i64 ln,.slice (some ⟨g,0,none⟩) n n]:=by
 subst hn;unfold HT;exact ⟨some ⟨g,0,none⟩,ks.length,css,rfl,Nat.le_refl _,hR,hI⟩
theorem zx {w:World} {Q:Nat→Prop} {g n:Nat} {C:Array Value} {T:TypeId} (h:w.heap[g]?=some (.cells C T)) (hq:Q g) {xs:List Value} (hx:C.toList=xs) (hn:xs.length=n*6):ec w Q 6 (some ⟨g,0,none⟩) n xs:=by
 refine ⟨hn,fun _=>⟨g,0,rfl,hq,fun j u hj=>?_⟩⟩;rw [Nat.zero_add,Lib.cell_of_heap h];subst hx;simpa using hj
def pP (s:List UInt8):Hm.Hb:=.mk 4 0 s [] 0 []
def GG (s:List UInt8):List UInt8:=Pg.blk (pP s)
theorem Wa (s:List UInt8):GG s=Hm.tag Hm.nP++Pg.para s++Hm.shut Hm.nP++[10]:=by
 unfold GG pP Pg.blk;rw [if_neg (by decide),if_neg (by decide),if_neg (by decide),if_neg (by decide),if_pos rfl]
theorem Rn {s:List UInt8} (h:s.length≤4000000):(GG s).length≤210*s.length+8:=by
 have:=Pg.Cb h;rw [Wa];simp only [Hm.tag,Hm.shut,Hm.nP,List.length_append,List.length_cons,List.length_nil];omega
theorem xD {s:List UInt8} (h:s.length≤4000000):Pg.kS 4000000 (pP s):=.mk h (by simp)
def cQ (k:Int) (s:List UInt8):Hm.Hb:=.mk k 0 [] [] 0 [pP s,pP s]
def Te (k:Int):List UInt8:=if k=1 then Hm.fB else if k=2 then Hm.E6 else Hm.GF
theorem TK {k:Int} (hk:k=1∨k=2∨k=3) (s:List UInt8):Pg.blk (cQ k s)=(Hm.tag (Te k)++[10])++(GG s++GG s)++(Hm.shut (Te k)++[10]):=by
 unfold cQ Pg.blk;rcases hk with rfl | rfl | rfl
 ·rw [if_neg (by decide),if_pos rfl]; simp [Te,Pg.bG,GG]
 ·rw [if_neg (by decide),if_neg (by decide),if_pos rfl]; simp [Te,Pg.bG,GG]
 ·rw [if_neg (by decide),if_neg (by decide),if_neg (by decide),if_pos rfl]; simp [Te,Pg.bG,GG]
theorem VX {k:Int} (hk:k=1∨k=2∨k=3):∀ b∈Hm.tag (Te k),b≠10:=by
 rcases hk with rfl | rfl | rfl<;>decide
theorem Bl {k:Int} (hk:k=1∨k=2∨k=3):(Hm.tag (Te k)).length≤20∧(Hm.shut (Te k)).length≤20:=by
 rcases hk with rfl | rfl | rfl<;>decide
theorem Ov {k:Int} {s:List UInt8} (h:s.length≤4000000):Pg.kS 4000000 (cQ k s):=.mk (by simp) (by intro x hx; simp at hx; subst hx; exact xD h)
def hH (n:Int):Hm.Hb:=.mk 5 n [116] [] 0 []
theorem Vp:Pg.para [116]=[116]:=by rw [Pg.Qz (by decide)]; kernel_rfl
theorem TL (n:Int):Pg.blk (hH n)=[60,104,UInt8.ofNat (48+Hm.level n),62,116,60,47,104,UInt8.ofNat (48+Hm.level n),62,10]:=by
 unfold hH Pg.blk;rw [if_neg (by decide),if_neg (by decide),if_neg (by decide),if_neg (by decide),if_neg (by decide),if_pos rfl,Vp];simp [Hm.tag,Hm.shut,Hm.nH]
def dP (s:List UInt8):Hm.Hb:=.mk 0 0 [] [] 0 [pP s]
theorem TJ (s:List UInt8):Pg.blk (dP s)=GG s:=by
 unfold dP Pg.blk;rw [if_pos rfl];simp [Pg.bG,GG]
theorem Mw {s:List UInt8} (h:s.length≤4000000):Pg.kS 4000000 (dP s):=.mk (by simp) (by intro x hx; simp at hx; subst hx; exact xD h)
theorem Yz (s:List UInt8):Pg.bn (pP s)=s.length+1:=by simp [pP,Pg.bn,Pg.pX]
theorem X9 (k:Int) (s:List UInt8):Pg.bn (cQ k s)=1+2*(s.length+1):=by simp [cQ,pP,Pg.bn,Pg.pX]; omega
theorem Yc (s:List UInt8):Pg.bn (dP s)=1+(s.length+1):=by simp [dP,pP,Pg.bn,Pg.pX]
theorem QO {n:Nat} (h1:1≤n) (h:n≤6):mid [49,50,51,52,53,54] (n - 1) n=[UInt8.ofNat (48+n)]:=by
 rcases (show n=1∨n=2∨n=3∨n=4∨n=5∨n=6 by omega) with e | e | e | e | e | e<;>subst e<;>rfl
theorem DP (n:Int) (s:List UInt8) (w:World) (hn:-9223372036854775808≤n∧n≤9223372036854775807) (Th:Tabs w) (hs:s.length≤1048576) :
  Calls Tryz.prog 7 #[.int .i64 n,.string (bs s)] w fun e w'=>e=.returned (.bool true)∧Below w.heap.size w w':=by
 have UO:=Lib.hid (fun w' (hb:Below w.heap.size w w')=>cu Th hb);have hin:=Rn (s:=s) (by omega);have qP:=Lib.hid (fun (w':World) (hT:Tabs w')=>jt (pP s) (xD (by omega)) (by simp [pP,Pg.ou,Pg.oL]) (by rw [Yz]; omega) (by show (GG s).length≤_; omega) _ w' (fun b=>b<w'.heap.size) (fun _ h=>h) (qI 4 0 s [] 0) hT);have qK:=Lib.hid (fun (k:Int) (hk:k=1∨k=2∨k=3) (w':World) (hT:Tabs w') (g:Nat) (hg:w'.heap[g]?=some (.cells #[.int .i64 4,.int .i64 0,.string (bs s),.string (bs []),.int .i64 0,.slice none 0 0,.int .i64 4,.int .i64 0,.string (bs s),.string (bs []),.int .i64 0,.slice none 0 0] 32)) =>
  jt (cQ k s) (Ov (by omega)) (by simp [cQ,pP,Pg.ou,Pg.oL]) (by rw [X9]; omega) (by
   rw [TK hk];have:=Bl hk;simp only [List.length_append,List.length_singleton]; omega) _ w' (fun b=>b<w'.heap.size) (fun _ h=>h)
   (Ii k 0 [] [] 0 (g:=g) (n:=2) (css:=[[.int .i64 4,.int .i64 0,.string (bs s),.string (bs []),.int .i64 0,.slice none 0 0],[.int .i64 4,.int .i64 0,.string (bs s),.string (bs []),.int .i64 0,.slice none 0 0]]) rfl (zx hg (Array.getElem?_eq_some_iff.1 hg).1 rfl rfl) (p7 (qI 4 0 s [] 0) (p7 (qI 4 0 s [] 0) uG))) hT)
 have qH:=Lib.hid (fun (w':World) (hT:Tabs w')=>jt (hH n) (.mk (by simp) (by simp)) (by simp [hH,Pg.ou,Pg.oL]) (by simp [hH,Pg.bn,Pg.pX]) (by rw [TL]; simp) _ w' (fun b=>b<w'.heap.size) (fun _ h=>h) (qI 5 n [116] [] 0) hT);have qD:=Lib.hid (fun (w':World) (hT:Tabs w') (g:Nat) (hg:w'.heap[g]?=some (.cells #[.int .i64 4,.int .i64 0,.string (bs s),.string (bs []),.int .i64 0,.slice none 0 0] 32)) =>
  jt (dP s) (Mw (by omega)) (by simp [dP,pP,Pg.ou,Pg.oL]) (by rw [Yc]; omega) (by rw [TJ]; omega) _ w' (fun b=>b<w'.heap.size) (fun _ h=>h)
   (Ii 0 0 [] [] 0 (g:=g) (n:=1) (css:=[[.int .i64 4,.int .i64 0,.string (bs s),.string (bs []),.int .i64 0,.slice none 0 0]]) rfl (zx hg (Array.getElem?_eq_some_iff.1 hg).1 rfl rfl) (p7 (qI 4 0 s [] 0) uG)) hT)
 have hkn:=Lib.hid (fun (w':World) (hT:Tabs w')=>Ce w' hT);have e1:Pg.blk (pP s)=GG s:=rfl;rw [e1] at qP;simp only [TJ] at qD;have j8:Hid (∀ k,(k=1∨k=2∨k=3)→∃ T Z,Pg.blk (cQ k s)=(T++[10])++(GG s++GG s)++Z∧(∀ b∈T,b≠10)∧T.length≤20∧Z.length≤21∧Hm.jx (Pg.blk (cQ k s)) []=true):=Lib.hid (fun k hk=>⟨_,_,TK hk s,VX hk,(Bl hk).1,by have:=(Bl hk).2; simp only [List.length_append,List.length_singleton]; omega,Pg.CP _⟩);have hlv:=Hm.vE n;have hh:=TL n;have hmn:min n 6=(if 6<n then 6 else n):=by split<;>omega
 obtain ⟨m,hm⟩:∃ m,m=min n 6:=⟨_,rfl⟩
 have hm1:min n 6=m:=hm.symm;have hm2:(if (6:Int)<n then 6 else n)=m:=by rw [← hmn,hm]
 have Y2:(if n<(6:Int) then n else 6)=m:=by rw [hm]; split<;>omega
 have hx1:max m 1=(Hm.level n:Int):=by unfold Hm.level; omega
 have hx2:(if m<(1:Int) then 1 else m)=(Hm.level n:Int):=by rw [← hx1]; split<;>omega
 have hx3:(if (1:Int)<m then m else 1)=(Hm.level n:Int):=by rw [← hx1]; split<;>omega
 obtain ⟨L,hL⟩:∃ L,L=Hm.level n:=⟨_,rfl⟩
 rw [← hL] at hh hx1 hx2 hx3 hlv;have YE:=QO hlv.1 hlv.2;have hcut:=fun w=>gQ (S:=[49,50,51,52,53,54]) (i:=L - 1) (j:=L) (v:=(L:Int) - 1) (u:=(L:Int)) (by omega) (by simp; omega) (by omega) rfl w;rw [YE] at hcut;obtain ⟨D,hD⟩:∃ D,D=[UInt8.ofNat (48+L)]:=⟨_,rfl⟩
 have lD:D.length=1:=by rw [hD]; rfl
 have hhD:Pg.blk (hH n)=[60,104]++D++[62,116,60,47,104]++D++[62,10]:=by rw [hh,hD]; rfl
 rw [← hD] at hcut;have hcut2:∀ w,(Instr.slice 9 (.string ⟨#[49,50,51,52,53,54]⟩) (some (.int .i64 ((L:Int) - 1))) (some (.int .i64 (L:Int))) none).run Tryz.prog w=.ok (.string (bs D)) w:=hcut;obtain ⟨H1,YG⟩:∃ X,X=[60,104]++D:=⟨_,rfl⟩
 obtain ⟨H2,YF⟩:∃ X,X=H1++[62,116,60,47,104]:=⟨_,rfl⟩
 obtain ⟨H3,YP⟩:∃ X,X=H2++D:=⟨_,rfl⟩
 obtain ⟨H4,ZY⟩:∃ X,X=H3++[62,10]:=⟨_,rfl⟩
 have hhE:Pg.blk (hH n)=H4:=by rw [hhD,ZY,YP,YF,YG]
 rw [hhE] at qH;have c1:(⟨#[60,104]⟩:ByteArray)++bs D=bs H1:=by rw [YG]; exact iX [60,104] D
 have c2:bs H1++(⟨#[62,116,60,47,104]⟩:ByteArray)=bs H2:=by rw [YF]; exact iX H1 [62,116,60,47,104]
 have c3:bs H2++bs D=bs H3:=by rw [YP]; exact iX H2 D
 have c4:bs H3++(⟨#[62,10]⟩:ByteArray)=bs H4:=by rw [ZY]; exact iX H3 [62,10]
 have l1:H1.length=3:=by rw [YG]; simp [lD]
 have l2:H2.length=8:=by rw [YF]; simp [l1]
 have l3:H3.length=9:=by rw [YP]; simp [l2,lD]
 have z0:=au D;have z1:=au H1;have z2:=au H2;have z3:=au H3;obtain ⟨I,hI⟩:∃ I,I=GG s:=⟨_,rfl⟩
 rw [← hI] at qP qD j8 hin;have zI:=au I;have cII:bs I++bs I=bs (I++I):=iX I I;replace hcut:=Lib.hid hcut;replace hlv:=Lib.hid hlv;clear hcut hh hhD hhE YG YF YP ZY hD hL hm hmn hI Th e1 YE;have hsz:=au s;have Gy:w.alloc (.cells #[.int .i64 4,.int .i64 0,.string (bs s),.string ⟨#[]⟩,.int .i64 0,.slice none 0 0] 32)=w.alloc (.cells #[.int .i64 4,.int .i64 0,.string (bs s),.string ⟨#[]⟩,.int .i64 0,.slice none 0 0] 32):=rfl;obtain ⟨W0,hW0⟩:∃ W0,W0=w.alloc (.cells #[.int .i64 4,.int .i64 0,.string (bs s),.string ⟨#[]⟩,.int .i64 0,.slice none 0 0] 32):=⟨_,rfl⟩
 have hb0:=Lib.hid (show Below w.heap.size w W0 from by rw [hW0]; exact aa _ _);have hg0:Hid (W0.heap[w.heap.size]?=some (.cells #[.int .i64 4,.int .i64 0,.string (bs s),.string ⟨#[]⟩,.int .i64 0,.slice none 0 0] 32)):=Lib.hid (by rw [hW0]; exact heap_alloc_new _ _);have qP0:=Lib.hid (qP.out W0 (UO.out _ hb0.out));clear Gy qP;have y0:W0.cell? ⟨w.heap.size,0,none⟩=some (.int .i64 4):=ah hg0.out 0;have y1:W0.cell? ⟨w.heap.size,1,none⟩=some (.int .i64 0):=ah hg0.out 1;have y2:W0.cell? ⟨w.heap.size,2,none⟩=some (.string (bs s)):=ah hg0.out 2;have y3:W0.cell? ⟨w.heap.size,3,none⟩=some (.string ⟨#[]⟩):=ah hg0.out 3;have y4:W0.cell? ⟨w.heap.size,4,none⟩=some (.int .i64 0):=ah hg0.out 4;have y5:W0.cell? ⟨w.heap.size,5,none⟩=some (.slice none 0 0):=ah hg0.out 5;go_enter Tryz.func7,Tryz.ntmps7;go_upto_region 2 with fail
 rw [← hW0];clear hW0;obtain ⟨g,hg⟩:∃ g,g=w.heap.size:=⟨_,rfl⟩
 rw [← hg] at hg0 y0 y1 y2 y3 y4 y5 ⊢;have hgW:g<W0.heap.size:=(Array.getElem?_eq_some_iff.1 hg0.out).1;clear hg;go_wp2_with fail;refine qP0.out.mono ?_;rintro e w1 ⟨rfl,hb1⟩;have hbW:=Lib.hid (hb0.out.trans (hb1.mono hb0.out.size));have hg1:Hid (w1.heap[g]?=some (.cells #[.int .i64 4,.int .i64 0,.string (bs s),.string ⟨#[]⟩,.int .i64 0,.slice none 0 0] 32)):=Lib.hid (keep hg0.out hb1).1;clear hb1 qP0 y0 y1 y2 y3 y4 y5 hgW hb0 hg0;obtain ⟨W,hW⟩:∃ W,W=w1.alloc (.cells #[.int .i64 1,.int .i64 2,.int .i64 3] 3):=⟨_,rfl⟩
 have hb2:=Lib.hid (show Below w1.heap.size w1 W from by rw [hW]; exact aa _ _);have Zg:Hid (W.heap[w1.heap.size]?=some (.cells #[.int .i64 1,.int .i64 2,.int .i64 3] 3)):=Lib.hid (by rw [hW]; exact heap_alloc_new _ _);go_upto_region 4 with fail
 rw [← hW];clear hW;have hg2:=Lib.hid (keep hg1.out hb2.out);have hbW2:=Lib.hid (ag hbW.out hb2.out);obtain ⟨gr,hgr⟩:∃ gr,gr=w1.heap.size:=⟨_,rfl⟩
 rw [← hgr] at Zg ⊢;have Zh:gr<W.heap.size:=(Array.getElem?_eq_some_iff.1 Zg.out).1;clear hgr hg1 hbW hb2
 go_loopw [19] (fun u wr=>∃ k:Nat,k≤3∧u=.int .i64 (k:Int)∧Hid (Below W.heap.size W wr)) (fun u _=>3 - (intOf u).toNat)
 case atStart=>exact ⟨0,by omega,rfl,Lib.hid (Below.refl _ _)⟩
 case round =>
  obtain ⟨k,hk,rfl,hb⟩:=hrel;have JC:=Lib.hid (keep hg2.out.1 hb.out);have mw:=Lib.hid (ag hbW2.out hb.out);have y0:wr.cell? ⟨g,0,none⟩=some (.int .i64 4):=ah JC.out.1 0;have y1:wr.cell? ⟨g,1,none⟩=some (.int .i64 0):=ah JC.out.1 1;have y2:wr.cell? ⟨g,2,none⟩=some (.string (bs s)):=ah JC.out.1 2;have y3:wr.cell? ⟨g,3,none⟩=some (.string ⟨#[]⟩):=ah JC.out.1 3;have y4:wr.cell? ⟨g,4,none⟩=some (.int .i64 0):=ah JC.out.1 4;have y5:wr.cell? ⟨g,5,none⟩=some (.slice none 0 0):=ah JC.out.1 5;rcases Nat.lt_or_eq_of_le hk with hlt | yb
  ·have x0:wr.cell? ⟨gr,k,none⟩=some (.int .i64 ((k:Int)+1)):=by
    refine (hb.out.cell (p:=⟨gr,k,none⟩) Zh).trans ((ah Zg.out k).trans ?_);rcases (show k=0∨k=1∨k=2 by omega) with rfl | rfl | rfl<;>rfl
   obtain ⟨kk,hkk⟩:∃ kk:Int,kk=(k:Int)+1:=⟨_,rfl⟩
   have hk3:kk=1∨kk=2∨kk=3:=by omega
   rw [← hkk] at x0;obtain ⟨T,Z,N0,Zn,hTl,hZl,FT⟩:=j8.out kk hk3;obtain ⟨W4,RI⟩:∃ W4,W4=wr.alloc (.cells #[.int .i64 4,.int .i64 0,.string (bs s),.string ⟨#[]⟩,.int .i64 0,.slice none 0 0,.int .i64 4,.int .i64 0,.string (bs s),.string ⟨#[]⟩,.int .i64 0,.slice none 0 0] 32):=⟨_,rfl⟩
   have hb4:=Lib.hid (show Below wr.heap.size wr W4 from by rw [RI]; exact aa _ _);have q1:=Lib.hid (qK.out kk hk3 W4 (UO.out _ (ag mw.out hb4.out)) wr.heap.size (by rw [RI]; exact heap_alloc_new _ _));have q2:=fun w=>ku (Pg.blk (cQ kk s)) w (by rw [N0]; simp only [List.length_append,List.length_singleton]; omega);rw [FT] at q2;rw [N0] at q1 q2;obtain ⟨X,hX⟩:∃ X,X=(T++[10])++(I++I)++Z:=⟨_,rfl⟩
   rw [← hX] at q1 q2;have NX:X.length=T.length+1+2*I.length+Z.length:=by rw [hX]; simp only [List.length_append,List.length_singleton]; omega
   have zX:=au X;have hXT:Hid (∀ a (h:a<T.length) (h2:a<X.length),X[a]≠10):=Lib.hid (by
    intro a h h2;have:X[a]=T[a]:=by simp only [hX,List.append_assoc]; rw [List.getElem_append_left h]
    rw [this];exact Zn _ (List.getElem_mem h))
   have hTX:T.length<X.length:=Nat.lt_of_lt_of_le (by omega) (Nat.le_of_eq NX.symm);have Uh:X[T.length]'hTX=10:=by
    simp only [hX,List.append_assoc];rw [List.getElem_append_right (Nat.le_refl _)];simp
   have hmd:mid X (T.length+1) (T.length+1+2*I.length)=I++I:=by
    unfold mid;rw [hX];have e3:((T++[10])++(I++I)++Z).drop (T.length+1)=(I++I)++Z:=by
     rw [List.append_assoc,List.drop_append_of_le_length (by simp)];simp
    rw [e3];have e4:T.length+1+2*I.length - (T.length+1)=(I++I).length:=by simp; omega
    rw [e4,List.take_left' rfl]
   have oH:=fun w=>gQ (S:=X) (i:=T.length+1) (j:=T.length+1+2*I.length) (v:=(T.length:Int)+1) (u:=(T.length:Int)+1+2*(I.length:Int)) (by omega) (by omega) (by omega) (by omega) w;rw [hmd] at oH;have hXg:T.length+1+2*I.length≤X.length:=by omega
   replace NX:=Lib.hid NX;replace Uh:=Lib.hid Uh;replace q2:=Lib.hid q2;clear hX N0 FT Zn hmd hkk;go_wp2_with fail;rw [← RI];clear RI;refine q1.out.mono ?_;rintro e w5 ⟨rfl,hb5⟩;have iV:=Lib.hid (ag (ag hb.out hb4.out) hb5);clear hb5 q1 hb4 y0 y1 y2 y3 y4 y5 x0;go_wp2_with fail;obtain ⟨wo,rfl⟩:∃ wo:World,wo=w5:=⟨_,rfl⟩
   go_loopw [10] (fun u w8=>w8=wo∧∃ a:Nat,a≤T.length∧u=.int .i64 (a:Int)) (fun u _=>T.length+1 - (intOf u).toNat)
   case atStart=>exact ⟨rfl,0,by omega,rfl⟩
   case round =>
    obtain ⟨rfl,a,ha,rfl⟩:=hrel;have haX:a<X.length:=by omega
    have hby:=fun w=>bB haX w;have hlt:(a:Int)<(X.length:Int):=by omega
    rcases Nat.lt_or_eq_of_le ha with hal | hae
    ·have hne:=hXT.out a hal haX
     have t1:((X[a].toNat:Int)==10)=false:=eO (n:=10) (by omega) hne;have t1':((X[a].toNat:Int) != 10)=true:=by simp only [bne,t1]; rfl
     clear hne;go_wp2_with fail
     go_roundw
     case rel=>exact ⟨trivial,a+1,by omega,by go_num⟩
     case measure=>simp [intOf]; omega
    ·subst hae
     have t1:((X[T.length].toNat:Int)==10)=true:=jL (n:=10) (by omega) Uh.out;have t1':((X[T.length].toNat:Int) != 10)=false:=by simp only [bne,t1]; rfl
     have n1:((T.length:Int)==(X.length:Int))=false:=by rw [beq_eq_false_iff_ne]; omega
     have n2:decide ((X.length:Int)<(T.length:Int)+1+2*(I.length:Int))=false:=decide_eq_false (by omega);have n3:((bs (I++I)).toList != (bs (I++I)).toList)=false:=by simp
     go_wp2_with fail;refine (q2.out _).mono ?_;rintro e w9 ⟨rfl,Bj⟩;have uO:=Lib.hid (ag iV.out Bj);clear Bj;go_wp2_with fail
     go_roundw
     case rel=>exact ⟨k+1,by omega,by go_num,uO⟩
     case measure=>simp [intOf]; omega
  ·subst yb
   have q1:=Lib.hid (qH.out wr (UO.out _ mw.out));go_wp2_with fail;refine q1.out.mono ?_;rintro e w5 ⟨rfl,hb5⟩;have iV:=Lib.hid (ag mw.out hb5);have Wx:=Lib.hid (keep JC.out.1 hb5);clear hb5 q1 y0 y1 y2 y3 y4 y5;have y0:w5.cell? ⟨g,0,none⟩=some (.int .i64 4):=ah Wx.out.1 0;have y1:w5.cell? ⟨g,1,none⟩=some (.int .i64 0):=ah Wx.out.1 1;have y2:w5.cell? ⟨g,2,none⟩=some (.string (bs s)):=ah Wx.out.1 2;have y3:w5.cell? ⟨g,3,none⟩=some (.string ⟨#[]⟩):=ah Wx.out.1 3;have y4:w5.cell? ⟨g,4,none⟩=some (.int .i64 0):=ah Wx.out.1 4;have y5:w5.cell? ⟨g,5,none⟩=some (.slice none 0 0):=ah Wx.out.1 5;have Uz:=hlv.out;obtain ⟨W4,RI⟩:∃ W4,W4=w5.alloc (.cells #[.int .i64 4,.int .i64 0,.string (bs s),.string ⟨#[]⟩,.int .i64 0,.slice none 0 0] 32):=⟨_,rfl⟩
   have hb4:=Lib.hid (show Below w5.heap.size w5 W4 from by rw [RI]; exact aa _ _);have q2:=Lib.hid (qD.out W4 (UO.out _ (ag iV.out hb4.out)) w5.heap.size (by rw [RI]; exact heap_alloc_new _ _));go_wp2_with fail;rw [← RI];clear RI;refine q2.out.mono ?_;rintro e w6 ⟨rfl,dI⟩;have mu:=Lib.hid (ag iV.out (ag hb4.out dI));have q3:=Lib.hid (hkn.out w6 (UO.out _ mu.out));clear dI q2 y0 y1 y2 y3 y4 y5;go_wp2_with fail;refine q3.out.mono ?_;rintro e w7 ⟨rfl,Bj⟩;have uO:=Lib.hid (ag mu.out Bj);go_wp2_with fail;go_ret;exact ⟨rfl,uO.out⟩
end Go.Proofs.YtddkjkockbcamaaGreatDoor
