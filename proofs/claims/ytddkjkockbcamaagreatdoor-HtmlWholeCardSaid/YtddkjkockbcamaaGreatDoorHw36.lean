/- PgBlk PgBlk2 PgPage PgPage2 -/
import Derived.Test.YtddkjkockbcamaaGreatDoorHw32
import Derived.Test.YtddkjkockbcamaaGreatDoorHw35
import Derived.Test.YtddkjkockbcamaaGreatDoorHw19
import Derived.Test.YtddkjkockbcamaaGreatDoorHw34
import Derived.Test.YtddkjkockbcamaaGreatDoorHw03
set_option maxHeartbeats 16000000
set_option maxRecDepth 100000
namespace Go.Proofs.YtddkjkockbcamaaGreatDoor
open Go.RowKit
attribute [local go_sem] aD av aq
theorem tQ:∀ N,CZ N∧Io N
 | 0=>⟨fun ts hN=>by cases ts<;>simp at hN,fun t hN=>by cases t;simp at hN⟩
 | N+1=>⟨JW N (tQ N).2,Om N (tQ N).1⟩
theorem De (ts:List Hm.Hi) (hF:∀ t∈ts,Hm.FF t) (hl:ts.length≤1000000000) (A:Option Addr) (c:Nat) (css:List (List Value)) (w:World) (Q:Nat→Prop) (hQ:∀ b,Q b→b<w.heap.size) (hR:e9 w Q 4 A ts.length css.flatten) (hI:LA w Q ts css) (hm:Hm.Ni ts≤400000000000) (hx:(Hm.dm ts).length≤400000000000) :
  Calls Tryz.prog 14 #[.slice A ts.length c] w fun e w'=>e=.returned (.string (bs (Pg.dm ts 1 Pg.start).t))∧Below w.heap.size w w':=by
 obtain ⟨W,hW⟩:∃ W,W=w.alloc (.cells #[.pointer none,.slice none 0 0,.int .i64 0,.int .i64 2147483647,.bool false] 56):=⟨_,rfl⟩
 have hb0:Below w.heap.size w W:=by rw [hW];exact aa _ _
 have TT:fy w.heap.size w.heap.size Pg.start W:=.inl ⟨Nat.le_refl _,_,by rw [hW];exact heap_alloc_new _ _,World.ownsRow_nil _ _ _ _⟩;have aH:=(tQ (SizeOf.sizeOf ts)).1 ts (Nat.le_refl _) hF hl A c css W Q w.heap.size w.heap.size Pg.start 1 hQ hb0.size (hR.frame (fun b h=>hb0.block b (hQ b h)) (fun _ h=>h)) (pV (fun b h=>hb0.block b (hQ b h)) (fun _ h=>h) hI) TT (by omega) (by simp only [Pg.start];omega) (by simp only [Pg.start,List.length_nil];omega);obtain ⟨P,g1,g2,_,_⟩:=Pg.eE ts 1 Pg.start;have hlen:(Pg.dm ts 1 Pg.start).t.length≤400000000000:=by rw [g1];simp only [Pg.start,List.nil_append];omega
 obtain ⟨S,hS⟩:∃ S,S=Pg.dm ts 1 Pg.start:=⟨_,rfl⟩
 rw [← hS] at aH hlen ⊢;replace aH:=Lib.hid aH;replace hb0:=Lib.hid hb0;clear hS hx TT hR hI hQ hF g1 g2 hm;go_enter Tryz.func14,Tryz.ntmps14;go_upto_region 2 with fail
 rw [← hW];clear hW;go_wp2_with fail;refine aH.out.mono ?_;rintro e w2 ⟨rfl,kX,hb2⟩;have hB2:=Nat.le_trans hb0.out.size hb2.size;have Rm:=Lib.hid (Bo (l:=S.t) kX (by omega) hB2);have hb3:=Lib.hid (hb0.out.trans hb2);clear kX aH hb2;go_wp2_with fail;refine Rm.out.mono ?_;rintro e w3 ⟨rfl,hb4⟩;have hb:=Lib.hid (hb3.out.trans hb4);clear hb4;go_wp2_with fail;go_ret;exact ⟨rfl,hb.out⟩
theorem OB (t:List UInt8) (ht:t.length≤4000000) (A:Option Addr) (c:Nat) (css:List (List Value)) (w0 w:World) (hown:w.ownsRow w0.heap.size 35 4 (.slice A (Il.parse t).length c) (Il.parse t).length css.flatten) (hI:iq w (fun b=>w0.heap.size≤b∧b<w.heap.size) (Il.parse t) css) :
  Calls Tryz.prog 14 #[.slice A (Il.parse t).length c] w fun e w'=>e=.returned (.string (bs (Pg.para t)))∧Below w.heap.size w w':=by
 have hm:=(Il.xj (s:=t) ht).1;have hl:=rC (Il.parse t);have hp:=Hm.B4 (t:=t) ht;have h:=De (Hm.gu (Il.parse t)) (tK _ (by omega)) (by rw [Hm.jO];omega) A c css w (fun b=>b<w.heap.size) (fun _ h=>h)
  (by rw [Hm.jO];exact (j6 hown).frame (fun _ _=>rfl) (fun b h=>h.2)) (KG (iw (fun _ _=>rfl) (fun b h=>h.2) hI)) (by rw [Pg.IL];omega) (by unfold Hm.para at hp;omega)
 rw [Hm.jO] at h;exact h
def Ew (B:Nat) (w:World):Prop:=∃ w0,w0.heap.size=B∧Tabs w0∧Below B w0 w
theorem JM {B:Nat}{w:World}(h:Ew B w):Tabs w:=by
 obtain ⟨w0,rfl,hT,hb⟩:=h;exact cM hT hb
theorem FC {B:Nat}{w w':World}(h:Ew B w) (hb':Below B w w'):Ew B w':=by
 obtain ⟨w0,hs,hT,hb⟩:=h;exact ⟨w0,hs,hT,hb.trans hb'⟩
theorem FZ (n:List UInt8) (hn:n.length≤100) (t:List UInt8) (ht:t.length≤4000000) {B b:Nat}{s:Pg.St}{w:World}(h:fy B b s w) (hBw:B≤w.heap.size) (hT:Tabs w) (hl:s.t.length≤500000000000) :
  Calls Tryz.prog 60 #[.pointer (some ⟨b,0,none⟩),.string (bs n),.string (bs t)] w fun e w'=>e=.returned (.tuple #[])∧fy B b (Pg.put (Hm.tag n++Pg.para t++Hm.shut n++[10]) s) w'∧Below B w w':=by
 have q1:=N8 t w ht hT;have q2:=OB t ht;have hp:=Pg.r7 ht;obtain ⟨X,hX⟩:∃ X,X=Il.parse t:=⟨_,rfl⟩
 rw [← hX] at q1 q2;obtain ⟨G,hG⟩:∃ G,G=Pg.para t:=⟨_,rfl⟩
 rw [← hG] at q2 hp ⊢;have ef:[[60],n,[62],G,[60,47],n,[62,10]].flatten=Hm.tag n++G++Hm.shut n++[10]:=by simp [Hm.tag,Hm.shut]
 have t1:(Hm.tag n++G++Hm.shut n++[10]).length=G.length+2*n.length+6:=by simp [Hm.tag,Hm.shut];omega
 have q3:=fun (w':World) (h':fy B b s w') (VI:B≤w'.heap.size)=>bY [[60],n,[62],G,[60,47],n,[62,10]] #[.string ⟨#[60]⟩,.string (bs n),.string ⟨#[62]⟩,.string (bs G),.string ⟨#[60,47]⟩,.string (bs n),.string ⟨#[62,10]⟩] rfl h' VI (by simp) (by rw [ef,t1];omega) (n:=7) (c:=7) rfl;simp only [ef] at q3;replace q1:=Lib.hid q1;replace q2:=Lib.hid q2;replace q3:=Lib.hid q3;replace h:=Lib.hid h;replace hT:=Lib.hid hT;clear hX hG ef t1;go_enter Tryz.func60,Tryz.ntmps60;go_wp2_with fail;refine q1.out.mono ?_;rintro e w1 ⟨⟨v,rfl,css,ho,hI⟩,hb1⟩;obtain ⟨A1,k1,rfl,_⟩:=ak ho;have q4:=Lib.hid (q2.out A1 k1 css _ _ ho hI);replace hb1:=Lib.hid hb1;clear ho hI q1 q2;go_wp2_with fail;refine q4.out.mono ?_;rintro e w2 ⟨rfl,hb2⟩;have hb3:=ag hb1.out hb2;have q5:=Lib.hid (q3.out w2 (fM h.out hb3) (Nat.le_trans hBw hb3.size));replace hb3:=Lib.hid (hb3.mono hBw);clear hb2 q3 q4;go_wp2_with fail;refine q5.out.mono ?_;rintro e w3 ⟨rfl,h3,hb4⟩;have hb5:=Lib.hid (hb3.out.trans hb4);replace h3:=Lib.hid h3;clear hb4 q5;go_wp2_with fail;go_end0;exact ⟨rfl,h3.out,hb5.out⟩
theorem MV {n:Nat}(h:n≤9):mid [48,49,50,51,52,53,54,55,56,57,97,98,99,100,101,102,103,104,105,106,107,108,109,110,111,112,113,114,115,116,117,118,119,120,121,122] n (n+1)=[UInt8.ofNat (48+n)]:=by
 rcases (show n=0∨n=1∨n=2∨n=3∨n=4∨n=5∨n=6∨n=7∨n=8∨n=9 by omega) with e | e | e | e | e | e | e | e | e | e<;>subst e<;>rfl
theorem Jg (n:Nat) (h:n≤9) (w:World):Calls Tryz.prog 175 #[.int .i64 (n:Int)] w fun e w'=>e=.returned (.string (bs [UInt8.ofNat (48+n)]))∧w=w':=by
 have hcut:∀ w,(Instr.slice 9 (.string ⟨#[48,49,50,51,52,53,54,55,56,57,97,98,99,100,101,102,103,104,105,106,107,108,109,110,111,112,113,114,115,116,117,118,119,120,121,122]⟩) (some (.int .i64 (n:Int))) (some (.int .i64 ((n:Int)+1))) none).run Tryz.prog w=.ok (.string (bs [UInt8.ofNat (48+n)])) w:=fun w=>by
  have h1:=iG (S:=[48,49,50,51,52,53,54,55,56,57,97,98,99,100,101,102,103,104,105,106,107,108,109,110,111,112,113,114,115,116,117,118,119,120,121,122]) (i:=n) (j:=n+1) (v:=(n:Int)) (u:=(n:Int)+1) (by omega) (by simp;omega) rfl (by omega) w;rw [MV h] at h1;exact h1
 have hlt:(n:Int)<10:=by omega
 obtain ⟨D,hD⟩:∃ D,D=[UInt8.ofNat (48+n)]:=⟨_,rfl⟩
 rw [← hD] at hcut ⊢;clear hD;go_enter Tryz.func175,Tryz.ntmps175;go_wp2_with fail;go_ret;exact ⟨rfl,rfl⟩
theorem OV (n:Nat) (h:n≤9) (w:World):Calls Tryz.prog 61 #[.int .i64 (n:Int)] w fun e w'=>e=.returned (.string (bs [UInt8.ofNat (48+n)]))∧w=w':=by
 have q1:=fun w=>Jg n h w;obtain ⟨D,hD⟩:∃ D,D=[UInt8.ofNat (48+n)]:=⟨_,rfl⟩
 rw [← hD] at q1 ⊢;clear hD;have h0:(0:Int)≤(n:Int):=by omega
 have h1:(n:Int)<100:=by omega
 have q2:∀ w,Calls Tryz.prog 140 #[.int .i64 (n:Int),.int .i64 10] w fun e w'=>e=.returned (.string (bs D))∧w=w':=by
  intro w;go_enter Tryz.func140,Tryz.ntmps140;go_wp2_with fail;refine (q1 _).mono ?_;rintro e w1 ⟨rfl,rfl⟩;go_wp2_with fail;go_ret;exact ⟨rfl,rfl⟩
 have q3:∀ w,Calls Tryz.prog 97 #[.int .i64 (n:Int)] w fun e w'=>e=.returned (.string (bs D))∧w=w':=by
  intro w;go_enter Tryz.func97,Tryz.ntmps97;go_wp2_with fail;refine (q2 _).mono ?_;rintro e w1 ⟨rfl,rfl⟩;go_wp2_with fail;go_ret;exact ⟨rfl,rfl⟩
 go_enter Tryz.func61,Tryz.ntmps61;go_wp2_with fail;refine (q3 _).mono ?_;rintro e w1 ⟨rfl,rfl⟩;go_wp2_with fail;go_ret;exact ⟨rfl,rfl⟩
theorem MO {w w':World}{g:Nat}(h:w'.heap[g]? = w.heap[g]?) (j:Nat):w'.cell? ⟨g,j,none⟩=w.cell? ⟨g,j,none⟩:=by
 simp [World.cell?,h]
def DK (N:Nat):Prop:=∀ (ts:List Hm.Hb) (_:SizeOf.sizeOf ts≤N) (_:∀ t∈ts,Pg.ie 4000000 t) (_:ts.length≤3000000000) (A:Option Addr) (c:Nat) (css:List (List Value)) (w:World) (Q Qr:Nat→Prop) (B b:Nat) (T:List UInt8) (rd deep:Nat)
  (_:∀ q,Q q→q<B) (_:B≤w.heap.size) (_:(∀ q,Qr q→q<B)∨(ts.length≤1∧∀ q,Qr q→q≠b)) (_:e9 w Qr 6 A ts.length css.flatten) (_:D7 w Q ts css) (_:fy B b ⟨T,rd,false⟩ w) (_:Ew B w) (_:deep+Pg.vG ts≤65537) (_:rd+Pg.tj ts≤2147483647) (_:T.length+(Pg.bL ts).length≤2147483647),
  Calls Tryz.prog 26 #[.pointer (some ⟨b,0,none⟩),.slice A ts.length c,.int .i64 (deep:Int)] w fun e w'=>e=.returned (.tuple #[])∧(∃ rd',rd'≤rd+Pg.tj ts∧fy B b ⟨T++Pg.bL ts,rd',false⟩ w')∧Below B w w'
def Jy (N:Nat):Prop:=∀ (x:Hm.Hb) (_:SizeOf.sizeOf x≤N) (_:Pg.ie 4000000 x) (_:(match x with | .mk _ _ _ _ _ ks=>ks.length)≤3000000000) (cs:List Value) (w:World) (Q:Nat→Prop) (B b g o:Nat) (T:List UInt8) (rd deep:Nat)
  (_:∀ q,Q q→q<B) (_:B≤w.heap.size) (_:HT w Q x cs) (_:∀ j,j<6→w.cell? ⟨g,o+j,none⟩=cs[j]?) (_:fy B b ⟨T,rd,false⟩ w) (_:Ew B w) (_:deep+Pg.sZ x≤65537) (_:rd+Pg.bn x≤2147483647+(1+Pg.VB x)) (_:T.length+(Pg.blk x).length≤2147483647),
  Calls Tryz.prog 44 #[.pointer (some ⟨b,0,none⟩),.pointer (some ⟨g,o,none⟩),.int .i64 (deep:Int)] w fun e w'=>e=.returned (.tuple #[])∧(∃ rd',rd'+(1+Pg.VB x)≤rd+Pg.bn x∧fy B b ⟨T++Pg.blk x,rd',false⟩ w')∧Below B w w'
theorem OA (N:Nat) (ih:DK N):Jy (N+1):=by
 intro x hN hF hkl cs w Q B b g o T rd deep hQ hB hI hcell hP Xy hd hr hl;obtain ⟨kd,lv,tx,inf,ln,ks⟩:=x;obtain ⟨A2,c2,css2,rfl,hc2,hR2,nU⟩:=tg hI;obtain ⟨CG,Wb⟩:tx.length≤4000000∧∀ x∈ks,Pg.ie 4000000 x:=by cases hF with | mk a b=>exact ⟨a,b⟩
 simp only at hkl;simp only [Hm.Hb.mk.sizeOf_spec] at hN;simp only [Pg.bn,Pg.VB] at hr ⊢;simp only [Pg.sZ] at hd;have x0:w.cell? ⟨g,o,none⟩=some (.int .i64 kd):=hcell 0 (by omega);have x1:w.cell? ⟨g,o+1,none⟩=some (.int .i64 lv):=hcell 1 (by omega);have x2:w.cell? ⟨g,o+2,none⟩=some (.string (bs tx)):=hcell 2 (by omega);have x5:w.cell? ⟨g,o+5,none⟩=some (.slice A2 ks.length c2):=hcell 5 (by omega);have aH:=fun (w':World) (hb':Below B w w') (T':List UInt8) (YX:fy B b ⟨T',rd,false⟩ w') (q2:T'.length+(Pg.bL ks).length≤2147483647) =>
  ih ks (by omega) Wb hkl A2 c2 css2 w' Q Q B b T' rd (deep+1) hQ (Nat.le_trans hB hb'.size) (.inl hQ) (hR2.frame (fun b h=>hb'.block b (hQ b h)) (fun _ h=>h)) (tW (fun b h=>hb'.block b (hQ b h)) (fun _ h=>h) nU) YX (FC Xy hb') (by omega) (by omega) q2
 replace aH:=Lib.hid aH;have Xf:=JM Xy;clear ih hI hcell hR2 nU hF Wb Xy
 by_cases h0:kd=0
 ·subst h0
  have e:Pg.blk (.mk 0 lv tx inf ln ks)=Pg.bL ks:=by unfold Pg.blk;rw [if_pos rfl]
  rw [e] at hl ⊢;have q1:=aH.out w (Below.refl _ _) T hP hl;obtain ⟨Z,hZ⟩:∃ Z:World→Prop,Z=fun w'=>∃ rd',rd'+(1+tx.length)≤rd+(tx.length+1+Pg.tj ks)∧fy B b ⟨T++Pg.bL ks,rd',false⟩ w':=⟨_,rfl⟩
  have q2:Hid (Calls Tryz.prog 26 #[.pointer (some ⟨b,0,none⟩),.slice A2 ks.length c2,.int .i64 ((deep:Int)+1)] w fun e w'=>e=.returned (.tuple #[])∧Z w'∧Below B w w'):=Lib.hid (by
   rw [show ((deep:Int)+1)=((deep+1:Nat):Int) from by omega];refine q1.mono ?_;rintro e w2 ⟨rfl,⟨r2,k1,k2⟩,k3⟩;exact ⟨rfl,by rw [hZ];exact ⟨r2,by omega,k2⟩,k3⟩)
  have X7:Hid (∀ w',Z w'→∃ rd',rd'+(1+tx.length)≤rd+(tx.length+1+Pg.tj ks)∧fy B b ⟨T++Pg.bL ks,rd',false⟩ w'):=Lib.hid (by rw [hZ];exact fun _ h=>h);clear hZ q1 aH e hP;go_enter Tryz.func44,Tryz.ntmps44;go_wp2_with fail;refine q2.out.mono ?_;rintro e w2 ⟨rfl,h2,hb3⟩;replace hb3:=Lib.hid hb3;replace h2:=Lib.hid (X7.out _ h2);go_wp2_with fail;go_end0;exact ⟨rfl,h2.out,hb3.out⟩
 by_cases h1:kd=1
 ·subst h1
  have e:Pg.blk (.mk 1 lv tx inf ln ks)=Hm.tag Hm.fE++[10]++Pg.bL ks++Hm.shut Hm.fE++[10]:=by unfold Pg.blk;rw [if_neg (by decide),if_pos rfl]
  rw [e] at hl ⊢;simp only [List.length_append,List.length_singleton] at hl;have q1:=mI Hm.fE (by decide) (Pr:=fun S2=>∃ rd',rd'≤rd+Pg.tj ks∧S2=⟨T++(Hm.tag Hm.fE++[10])++Pg.bL ks,rd',false⟩) hP hB A2 ks.length c2 deep (by omega) (by simp only;omega) (by
   rintro S2 ⟨r2,k1,rfl⟩;simp only [List.length_append,List.length_singleton];omega) (fun w' h' hb'=>(aH.out w' hb' _ h' (by simp only [List.length_append,List.length_singleton];omega)).mono (by
   rintro e w2 ⟨rfl,⟨r2,k1,k2⟩,k3⟩;exact ⟨rfl,⟨_,⟨r2,k1,rfl⟩,k2⟩,k3⟩))
  obtain ⟨Z,hZ⟩:∃ Z:World→Prop,Z=fun w'=>∃ rd',rd'+(1+tx.length)≤rd+(tx.length+1+Pg.tj ks)∧fy B b ⟨T++(Hm.tag Hm.fE++[10]++Pg.bL ks++Hm.shut Hm.fE++[10]),rd',false⟩ w':=⟨_,rfl⟩
  have q2:Hid (Calls Tryz.prog 59 #[.pointer (some ⟨b,0,none⟩),.string (bs Hm.fE),.slice A2 ks.length c2,.int .i64 (deep:Int)] w fun e w'=>e=.returned (.tuple #[])∧Z w'∧Below B w w'):=Lib.hid (q1.mono (by
   rintro e w2 ⟨rfl,⟨S2,⟨r2,k1,rfl⟩,k2⟩,k3⟩;refine ⟨rfl,?_,k3⟩;rw [hZ];refine ⟨r2,by omega,?_⟩;simp only [Pg.put,List.append_assoc] at k2 ⊢;exact k2))
  have X7:Hid (∀ w',Z w'→∃ rd',rd'+(1+tx.length)≤rd+(tx.length+1+Pg.tj ks)∧fy B b ⟨T++(Hm.tag Hm.fE++[10]++Pg.bL ks++Hm.shut Hm.fE++[10]),rd',false⟩ w'):=Lib.hid (by rw [hZ];exact fun _ h=>h);clear hZ q1 aH e hP;go_enter Tryz.func44,Tryz.ntmps44;go_wp2_with fail;refine q2.out.mono ?_;rintro e w2 ⟨rfl,h2,hb3⟩;replace hb3:=Lib.hid hb3;replace h2:=Lib.hid (X7.out _ h2);go_wp2_with fail;go_end0;exact ⟨rfl,h2.out,hb3.out⟩
 by_cases h2:kd=2
 ·subst h2
  have e:Pg.blk (.mk 2 lv tx inf ln ks)=Hm.tag Hm.HG++[10]++Pg.bL ks++Hm.shut Hm.HG++[10]:=by unfold Pg.blk;rw [if_neg (by decide),if_neg (by decide),if_pos rfl]
  rw [e] at hl ⊢;simp only [List.length_append,List.length_singleton] at hl;have q1:=mI Hm.HG (by decide) (Pr:=fun S2=>∃ rd',rd'≤rd+Pg.tj ks∧S2=⟨T++(Hm.tag Hm.HG++[10])++Pg.bL ks,rd',false⟩) hP hB A2 ks.length c2 deep (by omega) (by simp only;omega) (by
   rintro S2 ⟨r2,k1,rfl⟩;simp only [List.length_append,List.length_singleton];omega) (fun w' h' hb'=>(aH.out w' hb' _ h' (by simp only [List.length_append,List.length_singleton];omega)).mono (by
   rintro e w2 ⟨rfl,⟨r2,k1,k2⟩,k3⟩;exact ⟨rfl,⟨_,⟨r2,k1,rfl⟩,k2⟩,k3⟩))
  obtain ⟨Z,hZ⟩:∃ Z:World→Prop,Z=fun w'=>∃ rd',rd'+(1+tx.length)≤rd+(tx.length+1+Pg.tj ks)∧fy B b ⟨T++(Hm.tag Hm.HG++[10]++Pg.bL ks++Hm.shut Hm.HG++[10]),rd',false⟩ w':=⟨_,rfl⟩
  have q2:Hid (Calls Tryz.prog 59 #[.pointer (some ⟨b,0,none⟩),.string (bs Hm.HG),.slice A2 ks.length c2,.int .i64 (deep:Int)] w fun e w'=>e=.returned (.tuple #[])∧Z w'∧Below B w w'):=Lib.hid (q1.mono (by
   rintro e w2 ⟨rfl,⟨S2,⟨r2,k1,rfl⟩,k2⟩,k3⟩;refine ⟨rfl,?_,k3⟩;rw [hZ];refine ⟨r2,by omega,?_⟩;simp only [Pg.put,List.append_assoc] at k2 ⊢;exact k2))
  have X7:Hid (∀ w',Z w'→∃ rd',rd'+(1+tx.length)≤rd+(tx.length+1+Pg.tj ks)∧fy B b ⟨T++(Hm.tag Hm.HG++[10]++Pg.bL ks++Hm.shut Hm.HG++[10]),rd',false⟩ w'):=Lib.hid (by rw [hZ];exact fun _ h=>h);clear hZ q1 aH e hP;go_enter Tryz.func44,Tryz.ntmps44;go_wp2_with fail;refine q2.out.mono ?_;rintro e w2 ⟨rfl,h2,hb3⟩;replace hb3:=Lib.hid hb3;replace h2:=Lib.hid (X7.out _ h2);go_wp2_with fail;go_end0;exact ⟨rfl,h2.out,hb3.out⟩
 by_cases h3:kd=3
 ·subst h3
  have e:Pg.blk (.mk 3 lv tx inf ln ks)=Hm.tag Hm.HM++[10]++Pg.bL ks++Hm.shut Hm.HM++[10]:=by unfold Pg.blk;rw [if_neg (by decide),if_neg (by decide),if_neg (by decide),if_pos rfl]
  rw [e] at hl ⊢;simp only [List.length_append,List.length_singleton] at hl;have q1:=mI Hm.HM (by decide) (Pr:=fun S2=>∃ rd',rd'≤rd+Pg.tj ks∧S2=⟨T++(Hm.tag Hm.HM++[10])++Pg.bL ks,rd',false⟩) hP hB A2 ks.length c2 deep (by omega) (by simp only;omega) (by
   rintro S2 ⟨r2,k1,rfl⟩;simp only [List.length_append,List.length_singleton];omega) (fun w' h' hb'=>(aH.out w' hb' _ h' (by simp only [List.length_append,List.length_singleton];omega)).mono (by
   rintro e w2 ⟨rfl,⟨r2,k1,k2⟩,k3⟩;exact ⟨rfl,⟨_,⟨r2,k1,rfl⟩,k2⟩,k3⟩))
  obtain ⟨Z,hZ⟩:∃ Z:World→Prop,Z=fun w'=>∃ rd',rd'+(1+tx.length)≤rd+(tx.length+1+Pg.tj ks)∧fy B b ⟨T++(Hm.tag Hm.HM++[10]++Pg.bL ks++Hm.shut Hm.HM++[10]),rd',false⟩ w':=⟨_,rfl⟩
  have q2:Hid (Calls Tryz.prog 59 #[.pointer (some ⟨b,0,none⟩),.string (bs Hm.HM),.slice A2 ks.length c2,.int .i64 (deep:Int)] w fun e w'=>e=.returned (.tuple #[])∧Z w'∧Below B w w'):=Lib.hid (q1.mono (by
   rintro e w2 ⟨rfl,⟨S2,⟨r2,k1,rfl⟩,k2⟩,k3⟩;refine ⟨rfl,?_,k3⟩;rw [hZ];refine ⟨r2,by omega,?_⟩;simp only [Pg.put,List.append_assoc] at k2 ⊢;exact k2))
  have X7:Hid (∀ w',Z w'→∃ rd',rd'+(1+tx.length)≤rd+(tx.length+1+Pg.tj ks)∧fy B b ⟨T++(Hm.tag Hm.HM++[10]++Pg.bL ks++Hm.shut Hm.HM++[10]),rd',false⟩ w'):=Lib.hid (by rw [hZ];exact fun _ h=>h);clear hZ q1 aH e hP;go_enter Tryz.func44,Tryz.ntmps44;go_wp2_with fail;refine q2.out.mono ?_;rintro e w2 ⟨rfl,h2,hb3⟩;replace hb3:=Lib.hid hb3;replace h2:=Lib.hid (X7.out _ h2);go_wp2_with fail;go_end0;exact ⟨rfl,h2.out,hb3.out⟩
 by_cases h4:kd=4
 ·subst h4
  have e:Pg.blk (.mk 4 lv tx inf ln ks)=Hm.tag Hm.nP++Pg.para tx++Hm.shut Hm.nP++[10]:=by unfold Pg.blk;rw [if_neg (by decide),if_neg (by decide),if_neg (by decide),if_neg (by decide),if_pos rfl]
  rw [e] at hl ⊢;have q1:=Lib.hid (FZ Hm.nP (by decide) tx CG hP hB Xf (by simp only;omega));clear aH e hP;go_enter Tryz.func44,Tryz.ntmps44;go_wp2_with fail;refine q1.out.mono ?_;rintro e w2 ⟨rfl,h2,hb3⟩;replace hb3:=Lib.hid hb3;replace h2:=Lib.hid h2;go_wp2_with fail;go_end0;exact ⟨rfl,⟨rd,by omega,h2.out⟩,hb3.out⟩
 by_cases h5:kd=5
 ·subst h5
  have hlv:=Hm.EX lv;have e:Pg.blk (.mk 5 lv tx inf ln ks)=Hm.tag (Hm.nH lv)++Pg.para tx++Hm.shut (Hm.nH lv)++[10]:=by unfold Pg.blk;rw [if_neg (by decide),if_neg (by decide),if_neg (by decide),if_neg (by decide),if_neg (by decide),if_pos rfl]
  rw [e] at hl ⊢;have q0:=fun w=>OV (Hm.level lv) (by omega) w;have cH:(⟨#[104]⟩:ByteArray)++bs [UInt8.ofNat (48+Hm.level lv)]=bs (Hm.nH lv):=Og [104] _;have lH:(Hm.nH lv).length=2:=rfl;have q1:=fun (w1:World) (h1:fy B b ⟨T,rd,false⟩ w1) (hB1:B≤w1.heap.size) (Ul:Tabs w1)=>FZ (Hm.nH lv) (by omega) tx CG h1 hB1 Ul (by simp only;omega);have hmx:max lv 1=(if lv<(1:Int) then 1 else lv):=by split<;>omega
  obtain ⟨m,hm⟩:∃ m,m=max lv 1:=⟨_,rfl⟩
  have hm1:max lv 1=m:=hm.symm;have hm2:(if lv<(1:Int) then 1 else lv)=m:=by rw [← hmx,hm]
  have hm3:(if (1:Int)<lv then lv else 1)=m:=by rw [hm];split<;>omega
  have uR:min m 6=(Hm.level lv:Int):=by unfold Hm.level;omega
  have hn2:(if (6:Int)<m then 6 else m)=(Hm.level lv:Int):=by rw [← uR];split<;>omega
  have UO:(if m<(6:Int) then m else 6)=(Hm.level lv:Int):=by rw [← uR];split<;>omega
  obtain ⟨L,hL⟩:∃ L,L=Hm.level lv:=⟨_,rfl⟩
  rw [← hL] at q0 cH uR hn2 UO hlv;obtain ⟨D,hD⟩:∃ D,D=[UInt8.ofNat (48+L)]:=⟨_,rfl⟩
  have lD:D.length=1:=by rw [hD];rfl
  rw [← hD] at q0 cH;have zD:=au D;obtain ⟨H,hH⟩:∃ H,H=Hm.nH lv:=⟨_,rfl⟩
  rw [← hH] at q1 cH lH ⊢;replace q1:=Lib.hid q1;replace q0:=Lib.hid q0;replace hlv:=Lib.hid hlv;replace hP:=Lib.hid hP;replace Xf:=Lib.hid Xf;clear e aH hH hD hL hm hmx hl;go_enter Tryz.func44,Tryz.ntmps44;go_upto_region 12 with fail
  have z1:w.drew.cell? ⟨g,o+1,none⟩=some (.int .i64 lv):=x1;have z2:w.drew.cell? ⟨g,o+2,none⟩=some (.string (bs tx)):=x2;refine aF (.rd 0 (.rd 1 (.rd 2 (.rd 3 (.rd 9 (.rd 10 (.rd 11 (.fk 4 (.fk 5 (.fk 6 (.fk 7 (.rd 8 (.mk 12 (.mk 13 .fin))) 12 (.mk 7 (.rd 8 (.mk 13 .fin)))) 12 (.mk 6 (.mk 7 (.rd 8 (.mk 13 .fin))))) 12 (.mk 5 (.mk 6 (.mk 7 (.rd 8 (.mk 13 .fin)))))) 12 (.mk 4 (.mk 5 (.mk 6 (.mk 7 (.rd 8 (.mk 13 .fin)))))))))))))) (fun _:World=>True) trivial (by kernel_rfl) (by kernel_rfl) (by kernel_rfl) (fun _ _ d _ _ h=>by cases d<;>exact h) ?_
  iterate 7 (first | refine an rfl ?_ | (refine az rfl ?_;intro K hK;go_simp;refine hK _ _ _ ?_;clear hK K))
  refine jh ?_ ?_
  ·skip
   refine aE rfl ?_;intro K hK;go_simp
   first | refine ⟨fun _=>True,trivial,fun _ h=>h,hK _ _ _ ?_⟩ | refine ⟨fun _=>True,trivial,hK _ _ _ ?_⟩ | refine hK _ _ _ ?_
   clear hK K;refine jh ?_ ?_
   ·skip
    refine aE rfl ?_;intro K hK;go_simp
    try simp only [hm1,hm2,hm3]
    first | refine ⟨fun _=>True,trivial,fun _ h=>h,hK _ _ _ ?_⟩ | refine ⟨fun _=>True,trivial,hK _ _ _ ?_⟩ | refine hK _ _ _ ?_
    clear hK K;refine jh ?_ ?_
    ·skip
     refine aE rfl ?_;intro K hK;go_simp
     try simp only [uR,hn2,UO]
     first | refine ⟨fun _=>True,trivial,fun _ h=>h,hK _ _ _ ?_⟩ | refine ⟨fun _=>True,trivial,hK _ _ _ ?_⟩ | refine hK _ _ _ ?_
     clear hK K;refine jh ?_ ?_
     ·skip
      refine aE rfl ?_;intro K hK;go_simp;refine (q0.out _).mono ?_;rintro e w7 ⟨rfl,rfl⟩
      first | refine ⟨fun _=>True,trivial,fun _ h=>h,hK _ _ _ ?_⟩ | refine ⟨fun _=>True,trivial,hK _ _ _ ?_⟩ | refine hK _ _ _ ?_
      clear hK K;refine aJ (.string (bs H)) rfl rfl trivial (fun u _=>by go_simp<;>omega) ?_;refine aE rfl ?_;intro K hK;go_simp
      first | refine ⟨fun _=>True,trivial,fun _ h=>h,hK _ _ _ ?_⟩ | refine ⟨fun _=>True,trivial,hK _ _ _ ?_⟩ | refine hK _ _ _ ?_
      clear hK K;refine aE rfl ?_;intro K hK;go_simp;refine (q1.out _ (fM hP.out (bC w)) hB (cM Xf.out (bC w))).mono ?_;rintro e w7 ⟨rfl,h7,eA⟩
      first | refine ⟨fun _=>True,trivial,fun _ h=>h,hK _ _ _ ?_⟩ | refine ⟨fun _=>True,trivial,hK _ _ _ ?_⟩ | refine hK _ _ _ ?_
      clear hK K;refine aQ ?_;have oE:=Lib.hid ((Below.drew (Below.refl B w)).trans eA);replace h7:=Lib.hid h7;clear eA;go_wp2_with fail;go_end0;exact ⟨rfl,⟨rd,by omega,h7.out⟩,oE.out⟩
     ·skip
      refine aE rfl ?_;intro K hK;go_simp
      first | refine ⟨fun _=>True,trivial,fun _ h=>h,hK _ _ _ ?_⟩ | refine ⟨fun _=>True,trivial,hK _ _ _ ?_⟩ | refine hK _ _ _ ?_
      clear hK K;refine aE rfl ?_;intro K hK;go_simp;refine (q0.out _).mono ?_;rintro e w7 ⟨rfl,rfl⟩
      first | refine ⟨fun _=>True,trivial,fun _ h=>h,hK _ _ _ ?_⟩ | refine ⟨fun _=>True,trivial,hK _ _ _ ?_⟩ | refine hK _ _ _ ?_
      clear hK K;refine aJ (.string (bs H)) rfl rfl trivial (fun u _=>by go_simp<;>omega) ?_;refine aE rfl ?_;intro K hK;go_simp;refine (q1.out _ (fM hP.out (bC w)) hB (cM Xf.out (bC w))).mono ?_;rintro e w7 ⟨rfl,h7,eA⟩
      first | refine ⟨fun _=>True,trivial,fun _ h=>h,hK _ _ _ ?_⟩ | refine ⟨fun _=>True,trivial,hK _ _ _ ?_⟩ | refine hK _ _ _ ?_
      clear hK K;refine aQ ?_;have oE:=Lib.hid ((Below.drew (Below.refl B w)).trans eA);replace h7:=Lib.hid h7;clear eA;go_wp2_with fail;go_end0;exact ⟨rfl,⟨rd,by omega,h7.out⟩,oE.out⟩
    ·skip
     refine aE rfl ?_;intro K hK;go_simp
     first | refine ⟨fun _=>True,trivial,fun _ h=>h,hK _ _ _ ?_⟩ | refine ⟨fun _=>True,trivial,hK _ _ _ ?_⟩ | refine hK _ _ _ ?_
     clear hK K;refine aE rfl ?_;intro K hK;go_simp
     try simp only [uR,hn2,UO]
     first | refine ⟨fun _=>True,trivial,fun _ h=>h,hK _ _ _ ?_⟩ | refine ⟨fun _=>True,trivial,hK _ _ _ ?_⟩ | refine hK _ _ _ ?_
     clear hK K;refine aE rfl ?_;intro K hK;go_simp;refine (q0.out _).mono ?_;rintro e w7 ⟨rfl,rfl⟩
     first | refine ⟨fun _=>True,trivial,fun _ h=>h,hK _ _ _ ?_⟩ | refine ⟨fun _=>True,trivial,hK _ _ _ ?_⟩ | refine hK _ _ _ ?_
     clear hK K;refine aJ (.string (bs H)) rfl rfl trivial (fun u _=>by go_simp<;>omega) ?_;refine aE rfl ?_;intro K hK;go_simp;refine (q1.out _ (fM hP.out (bC w)) hB (cM Xf.out (bC w))).mono ?_;rintro e w7 ⟨rfl,h7,eA⟩
     first | refine ⟨fun _=>True,trivial,fun _ h=>h,hK _ _ _ ?_⟩ | refine ⟨fun _=>True,trivial,hK _ _ _ ?_⟩ | refine hK _ _ _ ?_
     clear hK K;refine aQ ?_;have oE:=Lib.hid ((Below.drew (Below.refl B w)).trans eA);replace h7:=Lib.hid h7;clear eA;go_wp2_with fail;go_end0;exact ⟨rfl,⟨rd,by omega,h7.out⟩,oE.out⟩
   ·skip
    refine aE rfl ?_;intro K hK;go_simp
    first | refine ⟨fun _=>True,trivial,fun _ h=>h,hK _ _ _ ?_⟩ | refine ⟨fun _=>True,trivial,hK _ _ _ ?_⟩ | refine hK _ _ _ ?_
    clear hK K;refine aE rfl ?_;intro K hK;go_simp
    try simp only [hm1,hm2,hm3]
    first | refine ⟨fun _=>True,trivial,fun _ h=>h,hK _ _ _ ?_⟩ | refine ⟨fun _=>True,trivial,hK _ _ _ ?_⟩ | refine hK _ _ _ ?_
    clear hK K;refine aE rfl ?_;intro K hK;go_simp
    try simp only [uR,hn2,UO]
    first | refine ⟨fun _=>True,trivial,fun _ h=>h,hK _ _ _ ?_⟩ | refine ⟨fun _=>True,trivial,hK _ _ _ ?_⟩ | refine hK _ _ _ ?_
    clear hK K;refine aE rfl ?_;intro K hK;go_simp;refine (q0.out _).mono ?_;rintro e w7 ⟨rfl,rfl⟩
    first | refine ⟨fun _=>True,trivial,fun _ h=>h,hK _ _ _ ?_⟩ | refine ⟨fun _=>True,trivial,hK _ _ _ ?_⟩ | refine hK _ _ _ ?_
    clear hK K;refine aJ (.string (bs H)) rfl rfl trivial (fun u _=>by go_simp<;>omega) ?_;refine aE rfl ?_;intro K hK;go_simp;refine (q1.out _ (fM hP.out (bC w)) hB (cM Xf.out (bC w))).mono ?_;rintro e w7 ⟨rfl,h7,eA⟩
    first | refine ⟨fun _=>True,trivial,fun _ h=>h,hK _ _ _ ?_⟩ | refine ⟨fun _=>True,trivial,hK _ _ _ ?_⟩ | refine hK _ _ _ ?_
    clear hK K;refine aQ ?_;have oE:=Lib.hid ((Below.drew (Below.refl B w)).trans eA);replace h7:=Lib.hid h7;clear eA;go_wp2_with fail;go_end0;exact ⟨rfl,⟨rd,by omega,h7.out⟩,oE.out⟩
  ·skip
   refine aE rfl ?_;intro K hK;go_simp
   first | refine ⟨fun _=>True,trivial,fun _ h=>h,hK _ _ _ ?_⟩ | refine ⟨fun _=>True,trivial,hK _ _ _ ?_⟩ | refine hK _ _ _ ?_
   clear hK K;refine aE rfl ?_;intro K hK;go_simp
   first | refine ⟨fun _=>True,trivial,fun _ h=>h,hK _ _ _ ?_⟩ | refine ⟨fun _=>True,trivial,hK _ _ _ ?_⟩ | refine hK _ _ _ ?_
   clear hK K;refine aE rfl ?_;intro K hK;go_simp
   try simp only [hm1,hm2,hm3]
   first | refine ⟨fun _=>True,trivial,fun _ h=>h,hK _ _ _ ?_⟩ | refine ⟨fun _=>True,trivial,hK _ _ _ ?_⟩ | refine hK _ _ _ ?_
   clear hK K;refine aE rfl ?_;intro K hK;go_simp
   try simp only [uR,hn2,UO]
   first | refine ⟨fun _=>True,trivial,fun _ h=>h,hK _ _ _ ?_⟩ | refine ⟨fun _=>True,trivial,hK _ _ _ ?_⟩ | refine hK _ _ _ ?_
   clear hK K;refine aE rfl ?_;intro K hK;go_simp;refine (q0.out _).mono ?_;rintro e w7 ⟨rfl,rfl⟩
   first | refine ⟨fun _=>True,trivial,fun _ h=>h,hK _ _ _ ?_⟩ | refine ⟨fun _=>True,trivial,hK _ _ _ ?_⟩ | refine hK _ _ _ ?_
   clear hK K;refine aJ (.string (bs H)) rfl rfl trivial (fun u _=>by go_simp<;>omega) ?_;refine aE rfl ?_;intro K hK;go_simp;refine (q1.out _ (fM hP.out (bC w)) hB (cM Xf.out (bC w))).mono ?_;rintro e w7 ⟨rfl,h7,eA⟩
   first | refine ⟨fun _=>True,trivial,fun _ h=>h,hK _ _ _ ?_⟩ | refine ⟨fun _=>True,trivial,hK _ _ _ ?_⟩ | refine hK _ _ _ ?_
   clear hK K;refine aQ ?_;have oE:=Lib.hid ((Below.drew (Below.refl B w)).trans eA);replace h7:=Lib.hid h7;clear eA;go_wp2_with fail;go_end0;exact ⟨rfl,⟨rd,by omega,h7.out⟩,oE.out⟩
 by_cases h6:kd=6
 ·subst h6
  have e:Pg.blk (.mk 6 lv tx inf ln ks)=[60,104,114,32,47,62,10]:=by unfold Pg.blk;rw [if_neg (by decide),if_neg (by decide),if_neg (by decide),if_neg (by decide),if_neg (by decide),if_neg (by decide),if_pos rfl]
  rw [e] at hl ⊢;have q1:=bY [[60,104,114,32,47,62,10]] #[.string ⟨#[60,104,114,32,47,62,10]⟩] rfl hP hB (by simp) (by simp only [List.flatten_cons,List.flatten_nil,List.append_nil];omega) (n:=1) (c:=1) rfl;have eb:[[(60:UInt8),104,114,32,47,62,10]].flatten=[60,104,114,32,47,62,10]:=rfl;rw [eb] at q1;replace q1:=Lib.hid q1;clear e aH hP eb;go_enter Tryz.func44,Tryz.ntmps44;go_wp2_with fail;refine q1.out.mono ?_;rintro e w2 ⟨rfl,h2,hb3⟩;replace hb3:=Lib.hid hb3;replace h2:=Lib.hid h2;go_wp2_with fail;go_end0;exact ⟨rfl,⟨rd,by omega,h2.out⟩,hb3.out⟩
 by_cases h7:kd=7
 ·subst h7
  have e:Pg.blk (.mk 7 lv tx inf ln ks)=[60,112,114,101,62,60,99,111,100,101,62]++Es.page tx++[60,47,99,111,100,101,62,60,47,112,114,101,62,10]:=by unfold Pg.blk;rw [if_neg (by decide),if_neg (by decide),if_neg (by decide),if_neg (by decide),if_neg (by decide),if_neg (by decide),if_neg (by decide),if_pos rfl];simp [Hm.tag,Hm.shut,Hm.Hh,Hm.di]
  rw [e] at hl ⊢;simp only [List.length_append] at hl;have q0:=fun w=>tU tx w (by omega) trivial;obtain ⟨G,hG⟩:∃ G,G=Es.page tx:=⟨_,rfl⟩
  rw [← hG] at q0 hl ⊢;have ef:[[60,112,114,101,62,60,99,111,100,101,62],G,[60,47,99,111,100,101,62,60,47,112,114,101,62,10]].flatten=[60,112,114,101,62,60,99,111,100,101,62]++G++[60,47,99,111,100,101,62,60,47,112,114,101,62,10]:=by simp
  have q1:=fun (w1:World) (h1:fy B b ⟨T,rd,false⟩ w1) (hB1:B≤w1.heap.size)=>bY [[60,112,114,101,62,60,99,111,100,101,62],G,[60,47,99,111,100,101,62,60,47,112,114,101,62,10]] #[.string ⟨#[60,112,114,101,62,60,99,111,100,101,62]⟩,.string (bs G),.string ⟨#[60,47,99,111,100,101,62,60,47,112,114,101,62,10]⟩] rfl h1 hB1 (by simp) (by rw [ef,List.length_append,List.length_append];simp only;omega) (n:=3) (c:=3) rfl;simp only [ef] at q1;replace q1:=Lib.hid q1;replace hP:=Lib.hid hP;clear hG e aH ef;go_enter Tryz.func44,Tryz.ntmps44;go_wp2_with fail;refine (q0 _).mono ?_;rintro e w1 ⟨rfl,hb1⟩;have q2:=Lib.hid (q1.out w1 (fM hP.out hb1) (Nat.le_trans hB hb1.size));have hb2:=Lib.hid (hb1.mono hB);clear hb1 q1;go_wp2_with fail;refine q2.out.mono ?_;rintro e w2 ⟨rfl,h2,hb3⟩;have hb4:=Lib.hid (hb2.out.trans hb3);replace h2:=Lib.hid h2;clear hb3 q2;go_wp2_with fail;go_end0;exact ⟨rfl,⟨rd,by omega,h2.out⟩,hb4.out⟩
 have e:Pg.blk (.mk kd lv tx inf ln ks)=[]:=by unfold Pg.blk;rw [if_neg h0,if_neg h1,if_neg h2,if_neg h3,if_neg h4,if_neg h5,if_neg h6,if_neg h7]
 rw [e,List.append_nil];have n0:(kd==0)=false:=by rw [beq_eq_false_iff_ne];exact h0
 have n1:(kd==1)=false:=by rw [beq_eq_false_iff_ne];exact h1
 have n2:(kd==2)=false:=by rw [beq_eq_false_iff_ne];exact h2
 have n3:(kd==3)=false:=by rw [beq_eq_false_iff_ne];exact h3
 have n4:(kd==4)=false:=by rw [beq_eq_false_iff_ne];exact h4
 have n5:(kd==5)=false:=by rw [beq_eq_false_iff_ne];exact h5
 have n6:(kd==6)=false:=by rw [beq_eq_false_iff_ne];exact h6
 have n7:(kd==7)=false:=by rw [beq_eq_false_iff_ne];exact h7
 replace hP:=Lib.hid hP;clear e aH hl h0 h1 h2 h3 h4 h5 h6 h7;go_enter Tryz.func44,Tryz.ntmps44;go_wp2_with fail;go_end0;exact ⟨rfl,⟨rd,by omega,hP.out⟩,Below.refl _ _⟩
theorem H6 (N:Nat) (ih:Jy N):DK (N+1):=by
 intro ts hN hF hl A c css w Q Qr B b T rd deep hQ hB hQr hR hI hP Xy hd hr hx;have hR':=Lib.hid hR;have hI':=Lib.hid hI;have YX:=Lib.hid hP;have hF':=Lib.hid hF;have ih':=Lib.hid ih;have abv:=Lib.hid hQr;have hdd:Hid (∀ k (hk:k<ts.length),deep+Pg.sZ ts[k]≤65537):=Lib.hid (by
  intro k hk;have:∀ (l:List Hm.Hb) (k:Nat) (hk:k<l.length),Pg.sZ l[k]≤Pg.vG l:=by
   intro l
   induction l with
   | nil=>intro k hk;simp at hk
   | cons x r ih2 =>
    intro k hk;simp only [Pg.vG];cases k with
    | zero=>simp only [List.getElem_cons_zero];omega
    | succ k=>have:=ih2 k (by simpa using hk);simp only [List.getElem_cons_succ];omega
  have:=this ts k hk;omega)
 obtain ⟨R,LN⟩:∃ R,R=Pg.bL ts:=⟨_,rfl⟩
 rw [← LN] at hx ⊢;have q9:Hid (∀ k (hk:k<ts.length),(Pg.bL (ts.take (k+1)))=Pg.bL (ts.take k)++Pg.blk ts[k]∧(Pg.blk ts[k]).length+(Pg.bL (ts.take k)).length≤R.length):=Lib.hid (fun k hk=>⟨Pg.Br hk,by rw [LN];exact Pg.TO hk⟩);have aP:Hid (R=Pg.bL (ts.take ts.length)):=Lib.hid (by rw [List.take_length];exact LN);clear ih hR hI hP hF hQr LN;go_enter Tryz.func26,Tryz.ntmps26;go_wp2_with fail
 go_loopw [10] (fun u wr=>∃ (k r:Nat),k≤ts.length∧u=.int .i64 (k:Int)∧Hid (r+Pg.tj (ts.drop k)≤rd+Pg.tj ts)∧Hid (fy B b ⟨T++Pg.bL (ts.take k),r,false⟩ wr)∧Hid (Below B w wr)∧Hid (k=0→wr=w)) (fun u _=>ts.length-(intOf u).toNat)
 case atStart=>exact ⟨0,rd,by omega,rfl,Lib.hid (by simp),Lib.hid (by simpa [Pg.bL] using YX.out),Lib.hid (Below.refl _ _),Lib.hid (fun _=>rfl)⟩
 case round =>
  obtain ⟨k,r,hk,rfl,W7,Xd,hb,hk0⟩:=hrel;rcases Nat.lt_or_eq_of_le hk with hlt | Au
  ·obtain ⟨cs,i1,i2⟩:=P3 hI'.out hlt
   obtain ⟨bA,o,rfl,GG,hcell⟩:=hR'.out.2 (by omega);have ZA:=hF'.out ts[k] (List.getElem_mem hlt);have hNk:SizeOf.sizeOf ts[k]≤N:=by have:=List.sizeOf_lt_of_mem (List.getElem_mem hlt);omega
   have ID:=W7.out;obtain ⟨Jk,hbk2⟩:=q9.out k hlt;have Iy:=hdd.out k hlt;rw [List.drop_eq_getElem_cons hlt] at ID;simp only [Pg.tj] at ID;clear W7;obtain ⟨P,hPP⟩:∃ P,P=Pg.bL (ts.take k):=⟨_,rfl⟩
   rw [← hPP] at Jk hbk2 Xd;obtain ⟨S,hS⟩:∃ S,S=Pg.bL (ts.take (k+1)):=⟨_,rfl⟩
   rw [← hS] at Jk;generalize ts[k]=t at *;have hi1:=i1;obtain ⟨kd,lv,tx,inf,ln,ks⟩:=t;obtain ⟨A2,c2,css2,rfl,hc2,hR2,nU⟩:=tg i1;have nS:=hb.out;have Wv:=Xd.out;have hBb:B≤b:=by
    unfold fy at Wv;obtain ⟨_,_,_,hBb,_,_⟩:=nD Wv;exact hBb
   have vh:bA≠b:=by
    rcases abv.out with h | h
    ·have:=h _ GG;omega
    ·exact h.2 _ GG
   have hcw:∀ j,wr.cell? ⟨bA,j,none⟩=w.cell? ⟨bA,j,none⟩:=by
    intro j;rcases abv.out with h | h
    ·exact nS.cell (p:=⟨bA,j,none⟩) (h _ GG)
    ·rw [hk0.out (by omega)]
   have hcl:∀ j,j<6→wr.cell? ⟨bA,o+k*6+j,none⟩=([.int .i64 kd,.int .i64 lv,.string (bs tx),.string (bs inf),.int .i64 ln,.slice A2 ks.length c2]:List Value)[j]? := fun j hj=>by
    have h9:=(hcw (o+(k*6+j))).trans (hcell _ _ ((i2 j hj).trans (by
     rcases (show j=0∨j=1∨j=2∨j=3∨j=4∨j=5 by omega) with rfl | rfl | rfl | rfl | rfl | rfl<;>rfl):css.flatten[k*6+j]? = some (([.int .i64 kd,.int .i64 lv,.string (bs tx),.string (bs inf),.int .i64 ln,.slice A2 ks.length c2]:List Value).getD j default)))
    rw [Nat.add_assoc,h9];rcases (show j=0∨j=1∨j=2∨j=3∨j=4∨j=5 by omega) with rfl | rfl | rfl | rfl | rfl | rfl<;>rfl
   have x2:wr.cell? ⟨bA,o+k*6+2,none⟩=some (.string (bs tx)):=hcl 2 (by omega);obtain ⟨Zy,_⟩:tx.length≤4000000∧True:=by cases ZA with | mk a b=>exact ⟨a,trivial⟩
   have hz1:=au tx;have TZ:Pg.bn (.mk kd lv tx inf ln ks)=tx.length+1+Pg.tj ks:=by simp only [Pg.bn]
   have how:Pg.VB (.mk kd lv tx inf ln ks)=tx.length:=rfl;have hdp:1≤Pg.sZ (.mk kd lv tx inf ln ks):=by simp only [Pg.sZ];omega
   have hkl:ks.length≤3000000000:=by
    have:∀ l:List Hm.Hb,l.length≤Pg.tj l:=by
     intro l
     induction l with
     | nil=>simp
     | cons x r ih2=>obtain ⟨_,_,_,_,_,_⟩:=x;simp only [Pg.tj,Pg.bn,List.length_cons];omega
    have:=this ks;omega
   have htk:=Gk Wv tx.length deep (x:=(tx.length:Int)) rfl (by omega) (by omega) (by simp only;omega) (by simp only [List.length_append];omega);rw [Pg.Q4 (s:=⟨T++P,r,false⟩) rfl (by omega) (by simp only;omega) (by simp only [List.length_append];omega)] at htk;simp only [Bool.not_false] at htk;have wF:=Nat.le_trans hB nS.size;have aH:=fun (w':World) (hb':Below B wr w') (HJ:∀ g,g≠b→w'.heap[g]? = wr.heap[g]?) (h':fy B b ⟨T++P,r+(1+tx.length),false⟩ w') =>
    ih'.out (.mk kd lv tx inf ln ks) hNk ZA hkl _ w' Q B b bA (o+k*6) (T++P) (r+(1+tx.length)) deep hQ (Nat.le_trans wF hb'.size) (xY (fun b h=>(nS.trans hb').block b (hQ b h)) (fun _ h=>h) hi1) (fun j hj=>(MO (HJ bA vh) _).trans (hcl j hj)) h' (FC Xy (nS.trans hb')) Iy (by rw [how];omega) (by rw [List.length_append];omega)
   rw [how,TZ] at aH;rw [List.append_assoc,← Jk] at aH;rw [TZ] at ID;replace htk:=Lib.hid htk;replace aH:=Lib.hid aH;replace hS:=Lib.hid hS;clear hcl hcell i1 i2 hi1 hR2 nU ZA hNk TZ how hcw Wv hPP hbk2 hdd q9;go_wp2_with fail;refine htk.out.mono ?_;rintro e w7 ⟨rfl,h7,eA,Z8⟩;have q1:=Lib.hid (aH.out w7 eA Z8 h7);have KL:=Lib.hid (hb.out.trans eA);clear eA Z8 h7 htk aH x2 nS;go_wp2_with fail;refine q1.out.mono ?_;rintro e w8 ⟨rfl,⟨r2,k1,k2⟩,Ki⟩;have Zk:=Lib.hid (KL.out.trans Ki);have h8:Hid (fy B b ⟨T++Pg.bL (ts.take (k+1)),r2,false⟩ w8):=Lib.hid (by rw [← hS.out];exact k2);have hr2:Hid (r2+Pg.tj (ts.drop (k+1))≤rd+Pg.tj ts):=Lib.hid (by omega);clear Ki q1 k2;go_wp2_with fail
   go_roundw
   case rel=>exact ⟨k+1,r2,by omega,by go_num,hr2,h8,Zk,Lib.hid (fun h=>by omega)⟩
   case measure=>simp [intOf];omega
  ·subst Au
   have kX:Hid (fy B b ⟨T++R,r,false⟩ wr):=Lib.hid (by rw [aP.out];exact Xd.out);have Fo:r≤rd+Pg.tj ts:=by have:=W7.out;omega
   clear W7 Xd;go_wp2_with fail;go_end0;exact ⟨rfl,⟨r,Fo,kX.out⟩,hb.out⟩
theorem tF:∀ N,DK N∧Jy N
 | 0=>⟨fun ts hN=>by cases ts<;>simp at hN,fun t hN=>by cases t;simp at hN⟩
 | N+1=>⟨H6 N (tF N).2,OA N (tF N).1⟩
theorem HE (t:Hm.Hb) (hF:Pg.ie 4000000 t) (hd:Pg.sZ t≤65536) (hn:Pg.bn t≤2147483647) (hx:(Pg.blk t).length≤2147483647) (C:Array Value) (w:World) (Q:Nat→Prop) (hQ:∀ b,Q b→b<w.heap.size) (hI:HT w Q t C.toList) (hT:Tabs w) :
  Calls Tryz.prog 26 #[.pointer (some ⟨w.heap.size+1,0,none⟩),.slice (some ⟨w.heap.size+1+1,0,none⟩) 1 1,.int .i64 1] (((w.alloc (.cells C 32)).alloc (.cells #[.pointer none,.slice none 0 0,.int .i64 0,.int .i64 2147483647,.bool false] 56)).alloc (.cells C 32)) fun e w'=>e=.returned (.tuple #[])∧(∃ rd',fy w.heap.size (w.heap.size+1) ⟨Pg.blk t,rd',false⟩ w')∧Below w.heap.size w w':=by
 obtain ⟨W1,hW1⟩:∃ W1,W1=w.alloc (.cells C 32):=⟨_,rfl⟩
 obtain ⟨W2,hW2⟩:∃ W2,W2=W1.alloc (.cells #[.pointer none,.slice none 0 0,.int .i64 0,.int .i64 2147483647,.bool false] 56):=⟨_,rfl⟩
 obtain ⟨W3,hW3⟩:∃ W3,W3=W2.alloc (.cells C 32):=⟨_,rfl⟩
 rw [← hW1,← hW2,← hW3];have z1:W1.heap.size=w.heap.size+1:=by rw [hW1];simp
 have z2:W2.heap.size=w.heap.size+1+1:=by rw [hW2];simp [z1]
 have b1:Below w.heap.size w W1:=by rw [hW1];exact aa _ _
 have b2:Below W1.heap.size W1 W2:=by rw [hW2];exact aa _ _
 have b3:Below W2.heap.size W2 W3:=by rw [hW3];exact aa _ _
 have b13:Below w.heap.size w W3:=ag (ag b1 b2) b3;have Dj:fy w.heap.size (w.heap.size+1) ⟨[],0,false⟩ W2:=.inl ⟨by omega,_,by rw [hW2,← z1];exact heap_alloc_new _ _,World.ownsRow_nil _ _ _ _⟩;have hg:W3.heap[w.heap.size+1+1]? = some (.cells C 32):=by rw [hW3,← z2];exact heap_alloc_new _ _
 have hlen:C.toList.length=6:=by obtain ⟨kd,lv,tx,inf,ln,ks⟩:=t;obtain ⟨_,_,_,h,_⟩:=tg hI;rw [h];rfl
 have hR:e9 W3 (fun q=>q=w.heap.size+1+1) 6 (some ⟨w.heap.size+1+1,0,none⟩) [t].length [C.toList].flatten:=by
  refine ⟨by simp only [List.flatten_cons,List.flatten_nil,List.append_nil,List.length_singleton];omega,fun _=>⟨_,0,rfl,rfl,fun j u hj=>?_⟩⟩;rw [Nat.zero_add,Lib.cell_of_heap hg];simpa using hj
 have h:=(tF (SizeOf.sizeOf [t])).1 [t] (Nat.le_refl _) (by simpa using hF) (by simp) (some ⟨w.heap.size+1+1,0,none⟩) 1 [C.toList] W3 Q (fun q=>q=w.heap.size+1+1) w.heap.size (w.heap.size+1) [] 0 1 hQ b13.size (.inr ⟨by simp,fun q hq=>by omega⟩) hR
  (SB (xY (fun b h=>b13.block b (hQ b h)) (fun _ h=>h) hI) VR) (fM Dj b3) ⟨w,rfl,hT,b13⟩ (by simp only [Pg.vG];omega) (by simp only [Pg.tj];omega) (by simp only [Pg.bL,List.append_nil,List.length_nil];omega)
 refine h.mono ?_;rintro e w' ⟨rfl,⟨rd',_,k2⟩,k3⟩;refine ⟨rfl,⟨rd',?_⟩,b13.trans k3⟩;simpa only [Pg.bL,List.append_nil,List.nil_append] using k2
theorem Kn (t:Hm.Hb) (hF:Pg.ie 4000000 t) (hd:Pg.sZ t≤65536) (hn:Pg.bn t≤2147483647) (hx:(Pg.blk t).length≤2147483647) (cs:List Value) (w:World) (Q:Nat→Prop) (hQ:∀ b,Q b→b<w.heap.size) (hI:HT w Q t cs) (hT:Tabs w) :
  Calls Tryz.prog 12 #[.agg cs.toArray] w fun e w'=>e=.returned (.string (bs (Pg.blk t)))∧Below w.heap.size w w':=by
 have aH:=HE t hF hd hn hx cs.toArray w Q hQ (by simpa using hI) hT;obtain ⟨kd,lv,tx,inf,ln,ks⟩:=t;obtain ⟨A2,c2,css2,rfl,hc2,-,-⟩:=tg hI;change Calls Tryz.prog 12 #[.agg #[.int .i64 kd,.int .i64 lv,.string (bs tx),.string (bs inf),.int .i64 ln,.slice A2 ks.length c2]] w _;change Calls Tryz.prog 26 _ (((w.alloc (.cells #[.int .i64 kd,.int .i64 lv,.string (bs tx),.string (bs inf),.int .i64 ln,.slice A2 ks.length c2] 32)).alloc _).alloc (.cells #[.int .i64 kd,.int .i64 lv,.string (bs tx),.string (bs inf),.int .i64 ln,.slice A2 ks.length c2] 32)) _ at aH;obtain ⟨S,hS⟩:∃ S,S=Pg.blk (.mk kd lv tx inf ln ks):=⟨_,rfl⟩
 rw [← hS] at aH hx ⊢;have hz1:(w.alloc (.cells #[.int .i64 kd,.int .i64 lv,.string (bs tx),.string (bs inf),.int .i64 ln,.slice A2 ks.length c2] 32)).heap.size=w.heap.size+1:=by simp
 replace aH:=Lib.hid aH;clear hS hT hI hQ hF hd hn;go_enter Tryz.func12,Tryz.ntmps12;go_wp2_with fail;refine aH.out.mono ?_;rintro e w2 ⟨rfl,⟨rd,kX⟩,hb2⟩;have Rm:=Lib.hid (Bo (l:=S) kX (by omega) hb2.size);replace hb2:=Lib.hid hb2;clear kX aH;go_wp2_with fail;refine Rm.out.mono ?_;rintro e w3 ⟨rfl,hb4⟩;have hb:=Lib.hid (hb2.out.trans hb4);clear hb4;go_wp2_with fail;go_ret;exact ⟨rfl,hb.out⟩
theorem zO (l:List UInt8) (A:Option Addr) (c:Nat) (w:World) (hR:Row w w.heap.size 1 A l.length (ai l)) (hlc:l.length≤c) (hl:l.length≤9223372036854775807) (hT:Tabs w)
  (h1:Pg.ie 4000000 (Hm.gQ (Pb.tree (Pb.aU l)))) (h2:Pg.sZ (Hm.gQ (Pb.tree (Pb.aU l)))≤65536) (h3:Pg.bn (Hm.gQ (Pb.tree (Pb.aU l)))≤2147483647) (h4:(Pg.blk (Hm.gQ (Pb.tree (Pb.aU l)))).length≤2147483647) :
  Calls Tryz.prog 10 #[.slice A l.length c] w fun e w'=>e=.returned (.string (bs (Pg.blk (Hm.gQ (Pb.tree (Pb.aU l))))))∧Below w.heap.size w w':=by
 have q1:=YL l A c w hR hlc hl;have q2:=fun (cs:List Value) (w':World) (hC:TC w' (fun b=>w.heap.size≤b∧b<w'.heap.size) (Pb.tree (Pb.aU l)) cs) (hT':Tabs w')=>Kn _ h1 h2 h3 h4 cs w' (fun b=>w.heap.size≤b∧b<w'.heap.size) (fun _ h=>h.2) (Xn hC) hT';clear h1 h2 h3 h4;generalize Pg.blk (Hm.gQ (Pb.tree (Pb.aU l)))=P at q2 ⊢;generalize Pb.tree (Pb.aU l)=T at q1 q2;replace q2:=Lib.hid q2;replace hT:=Lib.hid hT;go_enter Tryz.func10,Tryz.ntmps10;go_wp2_with fail;refine q1.mono ?_;rintro e w1 ⟨cs,rfl,hC,hb1⟩;have q3:=Lib.hid (q2.out cs w1 hC (cM hT.out hb1));clear hC q2;replace hb1:=Lib.hid hb1;go_wp2_with fail;refine q3.out.mono ?_;rintro e w2 ⟨rfl,hb2⟩;replace hb2:=Lib.hid (ag hb1.out hb2);go_wp2_with fail;go_ret;exact ⟨rfl,hb2.out⟩
end Go.Proofs.YtddkjkockbcamaaGreatDoor
namespace Go.Proofs.YtddkjkockbcamaaGreatDoor
open Go.RowKit
theorem GN (l:List UInt8) (A:Option Addr) (c:Nat) (w:World) (hR:Row w w.heap.size 1 A l.length (ai l)) (hlc:l.length≤c) (hl:l.length≤9223372036854775807) (hT:Tabs w) :
  Calls Tryz.prog 10 #[.slice A l.length c] w fun e w'=>e=.returned (.string (bs (Pg.page l)))∧Below w.heap.size w w':=by
 have hTr:Pb.tree (Pb.aU l)=Bk.nh l:=Pb.Nx _;have h:=zO l A c w hR hlc hl hT;rw [hTr] at h;exact h (Pg.HD (by omega) (Pg.zo l)) (by have:=Kk l;rw [Pg.L1];omega) (by have:=Pg.LH l;omega) (by have:=Pg.iY l;unfold Pg.page at this;omega)
end Go.Proofs.YtddkjkockbcamaaGreatDoor
