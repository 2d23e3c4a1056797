/- PbMem PbMem2 PbAdd PbItem PbItem2 -/
import Derived.Test.YtddkjkockbcamaaGreatDoorHw10
import Derived.Test.YtddkjkockbcamaaGreatDoorHw03
import Derived.Test.YtddkjkockbcamaaGreatDoorHw08
import Derived.StillTailTactics
import Derived.Deep.CutBlock
import Derived.Deep.DeepCutAuto
import Derived.Test.YtddkjkockbcamaaGreatDoorHw06
set_option maxHeartbeats 16000000
set_option maxRecDepth 100000
namespace Go.Proofs.YtddkjkockbcamaaGreatDoor
open Go.RowKit
attribute [local go_sem] aD av aq
abbrev Mm:=Nat→Option Part
abbrev Dw (a:Nat):Value:=.pointer (some ⟨a,0,none⟩)
def MX (M:Mm) (A:Option Addr) (n:Nat) (xs:List Value):Prop :=
 xs.length=n*6∧(0<n→∃ b cur,A=some ⟨b,0,none⟩∧M b=some (.blk b cur 32)∧cur.toList.take (n*6)=xs)
mutual
def TM (M:Mm):Bk.Tree→List Value→Prop
 | .mk kd lv t inf ln ks,cs=>∃ A c css,cs=[.int .i64 (kd:Int),.int .i64 (lv:Int),.string (bs t),.string (bs inf),.int .i64 (ln:Int),.slice A ks.length c]∧ks.length≤c∧MX M A ks.length css.flatten∧vY M ks css
def vY (M:Mm):List Bk.Tree→List (List Value)→Prop
 | [],css=>css=[]
 | t::ts,css=>∃ c0 cr,css=c0::cr∧TM M t c0∧vY M ts cr
end
theorem MX.mono {M M':Mm}(hm:∀ b a,M b=some a→M' b=some a) {A:Option Addr}{n:Nat}{xs:List Value}(h:MX M A n xs):MX M' A n xs:=by
 refine ⟨h.1,fun hn=>?_⟩;obtain ⟨b,cur,h1,h2,h3⟩:=h.2 hn;exact ⟨b,cur,h1,hm _ _ h2,h3⟩
mutual
theorem CS {M M':Mm}(hm:∀ b a,M b=some a→M' b=some a):∀ {t:Bk.Tree}{cs:List Value},TM M t cs→TM M' t cs
 | .mk ..,_,h=>by
  unfold TM at h ⊢;obtain ⟨A,c,css,h1,h2,h3,h4⟩:=h;exact ⟨A,c,css,h1,h2,h3.mono hm,gV hm h4⟩
theorem gV {M M':Mm}(hm:∀ b a,M b=some a→M' b=some a):∀ {ts:List Bk.Tree}{css:List (List Value)},vY M ts css→vY M' ts css
 | [],_,h=>by unfold vY at h ⊢;exact h
 | _::_,_,h=>by
  unfold vY at h ⊢;obtain ⟨c0,cr,h1,h2,h3⟩:=h;exact ⟨c0,cr,h1,CS hm h2,gV hm h3⟩
end
theorem pP {M:Mm}:vY M [] []:=by unfold vY;rfl
theorem tr {M:Mm}{ts:List Bk.Tree}{css:List (List Value)}{t:Bk.Tree}{cs:List Value}(h:vY M ts css) (h2:TM M t cs):vY M (ts++[t]) (css++[cs]):=by
 induction ts generalizing css with
 | nil =>
  unfold vY at h;subst h;rw [List.nil_append,List.nil_append];unfold vY;exact ⟨cs,[],rfl,h2,pP⟩
 | cons x r ih =>
  unfold vY at h;obtain ⟨c0,cr,rfl,h3,h4⟩:=h;rw [List.cons_append,List.cons_append];unfold vY;exact ⟨c0,cr++[cs],rfl,h3,ih h4⟩
theorem LX {M:Mm}{t:Bk.Tree}{cs:List Value}(h:TM M t cs):∃ (a b e:Int) (c d:List UInt8) (A:Option Addr) (n k:Nat),cs=[.int .i64 a,.int .i64 b,.string (bs c),.string (bs d),.int .i64 e,.slice A n k]:=by
 cases t with
 | mk kd lv tx inf ln ks =>
  unfold TM at h;obtain ⟨A,c,css,rfl,_⟩:=h;exact ⟨_,_,_,_,_,_,_,_,rfl⟩
theorem CD {M:Mm}:∀ {ts:List Bk.Tree}{css:List (List Value)},vY M ts css→css.flatten.length=ts.length*6
 | [],_,h=>by unfold vY at h;rw [h];rfl
 | t::ts,_,h=>by
  unfold vY at h;obtain ⟨c0,cr,rfl,h2,h3⟩:=h;obtain ⟨_,_,_,_,_,_,_,_,rfl⟩:=LX h2;have:=CD h3;simp only [List.flatten_cons,List.length_append,List.length_cons,List.length_nil,this];omega
mutual
theorem Xq {M:Mm}{w:World}{Q:Nat→Prop}(hm:∀ b cur t,M b=some (.blk b cur t)→w.heap[b]? = some (.cells cur t (0,0))∧Q b):∀ {t:Bk.Tree}{cs:List Value},TM M t cs→TC w Q t cs
 | .mk ..,_,h=>by
  unfold TM at h;unfold TC;obtain ⟨A,c,css,h1,h2,h3,h4⟩:=h;refine ⟨A,c,css,h1,h2,⟨h3.1,fun hn=>?_⟩,LW hm h4⟩;obtain ⟨b,cur,e1,e2,e3⟩:=h3.2 hn;obtain ⟨f1,f2⟩:=hm _ _ _ e2;refine ⟨b,0,e1,f2,fun j u hj=>?_⟩;rw [ah f1,Nat.zero_add,← Array.getElem?_toList];rw [← e3,List.getElem?_take] at hj
  split at hj
  ·exact hj
  ·cases hj
theorem LW {M:Mm}{w:World}{Q:Nat→Prop}(hm:∀ b cur t,M b=some (.blk b cur t)→w.heap[b]? = some (.cells cur t (0,0))∧Q b):∀ {ts:List Bk.Tree}{css:List (List Value)},vY M ts css→Pk w Q ts css
 | [],_,h=>by unfold vY at h;unfold Pk;exact h
 | _::_,_,h=>by
  unfold vY at h;unfold Pk;obtain ⟨c0,cr,h1,h2,h3⟩:=h;exact ⟨c0,cr,h1,Xq hm h2,LW hm h3⟩
end
structure MC where
 c:Pb.Cn
 kv:Value
 css:List (List Value)
 lv:Value
 iss:List (List Value)
def MC.Good (M:Mm) (x:MC):Prop:=vY M x.c.kids x.css∧∀ s ln is,x.c.lst=some (s,ln,is)→vY M is x.iss
theorem MC.Good.mono {M M':Mm}(hm:∀ b a,M b=some a→M' b=some a) {x:MC}(h:x.Good M):x.Good M':=⟨gV hm h.1,fun s ln is e=>gV hm (h.2 s ln is e)⟩
inductive nV
 | rd | row | kid (i:Nat) | itm (i:Nat) | lns | pls | old (b:Nat) | ext (i:Nat)
deriving DecidableEq
def bD (lv:Value):Option (UInt8×Nat×List Bk.Tree)→List Value
 | none=>[]
 | some (_,ln,_)=>[.int .i64 2,.int .i64 0,.string ⟨#[]⟩,.string ⟨#[]⟩,.int .i64 (ln:Int),lv]
def cE (x:MC):List Value :=
 [.int .i64 (x.c.kind:Int),.int .i64 0,.string ⟨#[]⟩,.string ⟨#[]⟩,.int .i64 (x.c.line:Int),x.kv,.int .u8 (x.c.sign.toNat:Int),.int .i64 (x.c.col:Int),.int .u8 (x.c.cU.toNat:Int)]
def aZ:List MC→List Value
 | []=>[]
 | x::o=>aZ o++cE x
def Ux (f:Fn.Op):List Value:=[.int .u8 (f.c.toNat:Int),.int .i64 (f.n:Int),.int .i64 (f.ind:Int),.string (bs f.info)]
def M9 (lv:Value) (l:Pb.Of):List Value:=[.int .i64 (l.kind:Int),.int .i64 (l.line:Int),lv]++Ux l.op++[.bool l.ended]
def rS (rv lv pv:Value) (l:Pb.Of):List Value:=rv::M9 lv l++[pv]
def gH:List Bk.Pl→List Value
 | []=>[]
 | p::r=>.int .i64 (p.line:Int) :: .int .u8 (p.op.c.toNat:Int) :: .int .i64 (p.op.n:Int) :: .int .i64 (p.op.ind:Int) :: .string (bs p.op.info) :: .int .i64 (p.first:Int) :: .int .i64 (p.last:Int) :: .bool p.closed::gH r
theorem wC (a b:List Bk.Pl):gH (a++b)=gH a++gH b:=by
 induction a with
 | nil=>rfl
 | cons x r ih=>simp [gH,ih]
def jP:List MC→Nat→Option MC
 | [],_=>none
 | x::o,i=>if i=o.length then some x else jP o i
def dQ (x:MC):Part:=.row 32 6 x.kv x.c.all.length (x.css.flatten++bD x.lv x.c.lst)
def cy (x:MC):Option Part:=x.c.lst.map fun t=>.row 32 6 x.lv t.2.2.length x.iss.flatten
def eU (E:Nat→Option Part) (R:Nat) (rv lv pv:Value) (M:Mm) (row:List MC) (l:Pb.Of) (ps:List Bk.Pl):nV→Option Part
 | .rd=>some (.blk R ⟨rS rv lv pv l⟩ 73)
 | .row=>some (.row 76 9 rv row.length (aZ row))
 | .kid i=>(jP row i).map dQ
 | .itm i=>(jP row i).bind cy
 | .lns=>some (.row 9 1 lv l.lines.length (aY l.lines))
 | .pls=>some (.row 185 8 pv ps.length (gH ps))
 | .old b=>M b
 | .ext i=>E i
theorem cm (row:List MC):(aZ row).length=row.length*9:=by
 induction row with
 | nil=>rfl
 | cons x o ih=>simp only [aZ,List.length_append,ih,cE,List.length_cons,List.length_nil];omega
theorem rQ {row:List MC}{i:Nat}(h:row.length≤i):jP row i=none:=by
 induction row with
 | nil=>rfl
 | cons x o ih=>simp only [List.length_cons] at h;rw [jP,if_neg (by omega)];exact ih (by omega)
theorem dj (x:MC) (o:List MC):jP (x::o) o.length=some x:=by rw [jP,if_pos rfl]
theorem qa (x y:MC) (o:List MC) {i:Nat}(h:i≠o.length):jP (x::o) i=jP (y::o) i:=by rw [jP,jP,if_neg h,if_neg h]
theorem sB (x:MC) (o:List MC) {i:Nat}(h:i≠o.length):jP (x::o) i=jP o i:=by rw [jP,if_neg h]
structure cT (w:World) (B:Nat) (E:Nat→Option Part) (R:Nat) (rv lv pv:Value) (M:Mm) (row:List MC) (l:Pb.Of) (ps:List Bk.Pl):Prop where
 hp:Hp w B (eU E R rv lv pv M row l ps)
 good:∀ x∈row,x.Good M
 old:∀ b a,M b=some a→∃ cur,a=.blk b cur 32
def PS (w:World) (B:Nat) (E:Nat→Option Part) (R:Nat) (r:Pb.Rd):Prop:=∃ rv lv pv M row,row.map (·.c)=r.row∧cT w B E R rv lv pv M row r.leaf r.places
theorem Gi:EI Tryz.prog 30 32 6 80:=EI.mk' (z:=.agg #[.int .i64 0,.int .i64 0,.string ⟨#[]⟩,.string ⟨#[]⟩,.int .i64 0,.slice none 0 0]) Tryz.underlying30 (by kernel_rfl) rfl (by omega)
theorem Hp.turn {K K':Type}{w:World}{B:Nat}{m:K→Option Part}(h:Hp w B m) {m':K'→Option Part}(f:K'→K) (hf:∀ i j a b,m' i=some a→m' j=some b→f i=f j→i=j)
  (hm:∀ k a,m' k=some a→∃ a0,m (f k)=some a0∧a.holds w B∧∀ g,a.block=some g→a0.block=some g):Hp w B m':=by
 refine ⟨fun k a ha=>?_,fun i j a b g hi hj ha hb=>?_⟩
 ·obtain ⟨_,_,h1,_⟩:=hm k a ha
  exact h1
 ·obtain ⟨a0,e1,_,e2⟩:=hm i a hi
  obtain ⟨b0,f1,_,f2⟩:=hm j b hj;exact hf i j a b hi hj (h.apart _ _ _ _ g e1 f1 (e2 g ha) (f2 g hb))
theorem iI {w:World}{B:Nat}{e:TypeId}{size n:Nat}{v:Value}{xs:List Value}(h:w.ownsRow B e size v n xs) (hn:0<n):∃ g c cur,v=.slice (some ⟨g,0,none⟩) n c∧n≤c∧B≤g∧w.heap[g]? = some (.cells cur e (0,0))∧cur.toList.take (n*size)=xs:=by
 rcases h.2 with ⟨_,h0⟩ | ⟨g,cap,cur,hv,hb,hg,hc,_,_,ht⟩
 ·omega
 ·exact ⟨g,cap,cur,hv,hc,hb,hg,ht⟩
section
variable {w:World}{B R:Nat}{E:Nat→Option Part}{rv lv pv:Value}{M:Mm}{row:List MC}{l:Pb.Of}{ps:List Bk.Pl}
theorem aK (h:cT w B E R rv lv pv M row l ps):B≤R∧R<w.heap.size∧(∀ j,w.frozen? ⟨R,j,none⟩=false)∧w.cell? ⟨R,0,none⟩=some rv∧w.cell? ⟨R,1,none⟩=some (.int .i64 (l.kind:Int)) ∧
  w.cell? ⟨R,2,none⟩=some (.int .i64 (l.line:Int))∧w.cell? ⟨R,3,none⟩=some lv∧w.cell? ⟨R,4,none⟩=some (.int .u8 (l.op.c.toNat:Int))∧w.cell? ⟨R,5,none⟩=some (.int .i64 (l.op.n:Int)) ∧
  w.cell? ⟨R,6,none⟩=some (.int .i64 (l.op.ind:Int))∧w.cell? ⟨R,7,none⟩=some (.string (bs l.op.info))∧w.cell? ⟨R,8,none⟩=some (.bool l.ended)∧w.cell? ⟨R,9,none⟩=some pv:=by
 obtain ⟨h1,h2,h3⟩:=h.hp.base (k:=.rd) rfl;exact ⟨h1,h2,bf h3,cell_of h3 rfl,cell_of h3 rfl,cell_of h3 rfl,cell_of h3 rfl,cell_of h3 rfl,cell_of h3 rfl,cell_of h3 rfl,cell_of h3 rfl,cell_of h3 rfl,cell_of h3 rfl⟩
theorem eF {x:MC}{o:List MC}(h:cT w B E R rv lv pv M (x::o) l ps):∃ g c,rv=.slice (some ⟨g,0,none⟩) (o.length+1) c∧o.length+1≤c∧g≠R∧B≤g∧g<w.heap.size∧(∀ j,w.frozen? ⟨g,j,none⟩=false) ∧
  (∀ j u,(cE x)[j]? = some u→w.cell? ⟨g,o.length*9+j,none⟩=some u):=by
 have ho:=h.hp.own (k:=.row) rfl;obtain ⟨g,c,cur,rfl,hc,hB,hg,_⟩:=iI ho (by simp);refine ⟨g,c,rfl,hc,?_,hB,(Array.getElem?_eq_some_iff.1 hg).1,World.ownsRow.frozenAt ho,fun j u hj=>?_⟩
 ·intro e
  have:=h.hp.apart .rd .row _ _ R rfl rfl rfl (by rw [← e];rfl);cases this
 ·refine jf ho ?_
  rw [aZ,List.getElem?_append_right (by rw [cm];omega),cm,Nat.add_sub_cancel_left];exact hj
end
end Go.Proofs.YtddkjkockbcamaaGreatDoor
namespace Go.Proofs.YtddkjkockbcamaaGreatDoor
open Go.RowKit
def gone (m:nV→Option Part) (M':Mm) (k:nV):nV→Option Part
 | .old b=>M' b
 | j=>if j=k then none else m j
theorem bI {m:nV→Option Part}{M':Mm}{k j:nV}(h:∀ b,j ≠ .old b) (hjk:j≠k):gone m M' k j=m j:=by
 cases j with
 | old b=>exact absurd rfl (h b)
 | _=>exact if_neg hjk
theorem DZ {m:nV→Option Part}{M':Mm}{k:nV}(h:∀ b,k ≠ .old b):gone m M' k k=none:=by
 cases k with
 | old b=>exact absurd rfl (h b)
 | _=>simp [gone]
section
variable {w w':World}{B R:Nat}{E:Nat→Option Part}{rv lv pv:Value}{M:Mm}{x:MC}{o:List MC}{l:Pb.Of}{ps:List Bk.Pl}
theorem HV {m:nV→Option Part}(h:Hp w B m) {k:nV}{n c:Nat}{A:Option Addr}{xs:List Value}(hk:m k=some (.row 32 6 (.slice A n c) n xs)) (hne:∀ b,k ≠ .old b) (hM:∀ b,m (.old b)=M b)
  (hold:∀ b a,M b=some a→∃ cur,a=.blk b cur 32) :
  ∃ M':Mm,(∀ b a,M b=some a→M' b=some a)∧(∀ b a,M' b=some a→∃ cur,a=.blk b cur 32)∧MX M' A n xs∧Hp w B (gone m M' k):=by
 have ho:=h.own hk;rcases Nat.eq_zero_or_pos n with h0 | h0
 ·refine ⟨M,fun _ _ e=>e,hold,⟨ho.1,fun hn=>by omega⟩,h.turn id (fun i j _ _ _ _ e=>e) (fun j a ha=>?_)⟩
  cases j with
  | old b=>exact ⟨a,(hM b).trans ha,h.holds _ _ ((hM b).trans ha),fun _ e=>e⟩
  | _ =>
   simp only [gone] at ha
   split at ha
   ·cases ha
   ·exact ⟨a,ha,h.holds _ _ ha,fun _ e=>e⟩
 ·obtain ⟨g,c',cur,hv,_,hB,hg,htk⟩:=iI ho h0
  cases hv;have hnot:M g=none:=by
   cases hMg:M g with
   | none=>rfl
   | some a =>
    obtain ⟨cur',rfl⟩:=hold g a hMg;exact absurd (h.apart k (.old g) _ _ g hk ((hM g).trans hMg) rfl rfl) (hne g)
  refine ⟨fun b=>if b=g then some (.blk g cur 32) else M b,fun b a e=>?_,fun b a e=>?_,⟨ho.1,fun _=>⟨g,cur,rfl,if_pos rfl,htk⟩⟩,?_⟩
  ·by_cases hb:b=g
   ·subst hb;rw [hnot] at e;cases e
   ·simp only [if_neg hb];exact e
  ·by_cases hb:b=g
   ·subst hb;simp only [if_true,Option.some.injEq] at e;exact ⟨cur,e.symm⟩
   ·simp only [if_neg hb] at e;exact hold b a e
  ·refine h.turn (fun (j:nV)=>match j with
    | .old b=>if b=g then k else .old b
    | j=>j) (fun i j a b hi hj e=>?_) (fun j a ha=>?_)
   ·cases i with
    | old bi =>
     cases j with
     | old bj =>
      simp only at e
      by_cases h1:bi=g
      ·by_cases h2:bj=g
       ·rw [h1,h2]
       ·rw [if_pos h1,if_neg h2] at e;exact absurd e (hne bj)
      ·by_cases h2:bj=g
       ·rw [if_neg h1,if_pos h2] at e;exact absurd e.symm (hne bi)
       ·rw [if_neg h1,if_neg h2] at e;exact e
     | _ =>
      simp only [gone] at e hj
      by_cases h1:bi=g
      ·rw [if_pos h1] at e;rw [if_pos e.symm] at hj;cases hj
      ·rw [if_neg h1] at e;cases e
    | _ =>
     cases j with
     | old bj =>
      simp only [gone] at e hi
      by_cases h1:bj=g
      ·rw [if_pos h1] at e;rw [if_pos e] at hi;cases hi
      ·rw [if_neg h1] at e;cases e
     | _=>exact e
   ·cases j with
    | old b =>
     simp only [gone] at ha
     by_cases hb:b=g
     ·subst hb
      simp only [if_true,Option.some.injEq] at ha ⊢;subst ha;exact ⟨_,hk,⟨hB,hg⟩,fun _ e=>e⟩
     ·simp only [if_neg hb] at ha ⊢
      exact ⟨a,(hM b).trans ha,h.holds _ _ ((hM b).trans ha),fun _ e=>e⟩
    | _ =>
     simp only [gone] at ha
     split at ha
     ·cases ha
     ·exact ⟨a,ha,h.holds _ _ ha,fun _ e=>e⟩
theorem Un {g n c:Nat}{e:TypeId}{xs:List Value}{z0 z1 z2 z3 z4 z5:Value}(h:w.ownsRow B e 6 (.slice (some ⟨g,0,none⟩) (n+1) c) (n+1) (xs++[z0,z1,z2,z3,z4,z5])) (hx:xs.length=n*6) (a0 a1 a2 a3 a4 a5:Value) :
  ((((((w.setCell ⟨g,n*6,none⟩ a0).setCell ⟨g,n*6+1,none⟩ a1).setCell ⟨g,n*6+2,none⟩ a2).setCell ⟨g,n*6+3,none⟩ a3).setCell ⟨g,n*6+4,none⟩ a4).setCell ⟨g,n*6+5,none⟩ a5).ownsRow B e 6 (.slice (some ⟨g,0,none⟩) (n+1) c) (n+1) (xs++[a0,a1,a2,a3,a4,a5]) ∧
   w.grownBy ((((((w.setCell ⟨g,n*6,none⟩ a0).setCell ⟨g,n*6+1,none⟩ a1).setCell ⟨g,n*6+2,none⟩ a2).setCell ⟨g,n*6+3,none⟩ a3).setCell ⟨g,n*6+4,none⟩ a4).setCell ⟨g,n*6+5,none⟩ a5) (some g):=by
 obtain ⟨s0,g0⟩:=h.stored (n*6) a0;obtain ⟨s1,g1⟩:=s0.stored (n*6+1) a1;obtain ⟨s2,g2⟩:=s1.stored (n*6+2) a2;obtain ⟨s3,g3⟩:=s2.stored (n*6+3) a3;obtain ⟨s4,g4⟩:=s3.stored (n*6+4) a4;obtain ⟨s5,g5⟩:=s4.stored (n*6+5) a5;refine ⟨?_,((((g0.trans g1).trans g2).trans g3).trans g4).trans g5⟩;have hz:(((((((xs++[z0,z1,z2,z3,z4,z5]).set (n*6) a0).set (n*6+1) a1).set (n*6+2) a2).set (n*6+3) a3).set (n*6+4) a4).set (n*6+5) a5)=xs++[a0,a1,a2,a3,a4,a5]:=by
  rw [← hx];simp
 rw [hz] at s5;exact s5
theorem Gw {M':Mm}(hm:∀ b a,M b=some a→M' b=some a) (hg:x.Good M) (hA:∀ t,x.c.lst=some t→∃ A c,x.lv=.slice A t.2.2.length c∧t.2.2.length≤c∧MX M' A t.2.2.length x.iss.flatten) :
  ∃ cs',vY M' x.c.all cs'∧cs'.flatten=x.css.flatten++bD x.lv x.c.lst:=by
 cases hl:x.c.lst with
 | none =>
  refine ⟨x.css,?_,by simp [bD]⟩;unfold Pb.Cn.all;rw [hl];simp only [Pb.o7,List.append_nil];exact gV hm hg.1
 | some t =>
  obtain ⟨s,ln,is⟩:=t;obtain ⟨A,c,e1,e2,e3⟩:=hA _ hl;refine ⟨x.css++[bD x.lv (some (s,ln,is))],?_,by simp⟩;unfold Pb.Cn.all;rw [hl];refine tr (gV hm hg.1) ?_;unfold TM;exact ⟨A,c,x.iss,by rw [e1];rfl,e2,e3,gV hm (hg.2 s ln is hl)⟩
theorem qW {m:nV→Option Part}(h:Hp w B m) (hk:m (.itm o.length)=cy x) (hM:∀ b,m (.old b)=M b) (hold:∀ b a,M b=some a→∃ cur,a=.blk b cur 32) (hg:x.Good M) :
  ∃ M':Mm,(∀ b a,M b=some a→M' b=some a)∧(∀ b a,M' b=some a→∃ cur,a=.blk b cur 32)∧(∃ cs',vY M' x.c.all cs'∧cs'.flatten=x.css.flatten++bD x.lv x.c.lst)∧Hp w B (gone m M' (.itm o.length)):=by
 cases hl:x.c.lst with
 | none =>
  refine ⟨M,fun _ _ e=>e,hold,by rw [← hl];exact Gw (fun _ _ e=>e) hg (fun t e=>by rw [hl] at e;cases e),h.same fun j=>?_⟩;cases j with
  | old b=>exact (hM b).symm
  | itm i =>
   simp only [gone]
   split
   ·rename_i e
    rw [e,hk];unfold cy;rw [hl];rfl
   ·rfl
  | _=>rfl
 | some t =>
  have hk':m (.itm o.length)=some (.row 32 6 x.lv t.2.2.length x.iss.flatten):=by rw [hk];unfold cy;rw [hl];rfl
  obtain ⟨A,c,e1,e2⟩:=ak (h.own hk');rw [e1] at hk';obtain ⟨M',h1,h2,h3,h4⟩:=HV h hk' (fun _ e=>by cases e) hM hold;refine ⟨M',h1,h2,by rw [← hl];exact Gw h1 hg (fun t' e=>by rw [hl] at e;cases e;exact ⟨A,c,e1,e2,h3⟩),h4⟩
def yu (w':World) (B:Nat) (E:Nat→Option Part) (R:Nat) (rv lv pv:Value) (M:Mm) (x:MC) (o:List MC) (l:Pb.Of) (ps:List Bk.Pl) (cs:List Value):Prop :=
 ∃ M' cs' v,(∀ b a,M b=some a→M' b=some a)∧(∀ b a,M' b=some a→∃ cur,a=.blk b cur 32)∧vY M' x.c.all cs'∧cs'.flatten=x.css.flatten++bD x.lv x.c.lst∧(∀ y∈o,y.Good M') ∧
  Hp w' B (gone (upd (upd (eU E R rv lv pv M (x::o) l ps) (.kid o.length) (.row 32 6 v (x.c.all.length+1) (x.css.flatten++bD x.lv x.c.lst++cs))) .row
   (.row 76 9 rv (o.length+1) (aZ o++[.int .i64 (x.c.kind:Int),.int .i64 0,.string ⟨#[]⟩,.string ⟨#[]⟩,.int .i64 (x.c.line:Int),v,.int .u8 (x.c.sign.toNat:Int),.int .i64 (x.c.col:Int),.int .u8 0]))) M' (.itm o.length))
theorem VT (h:cT w B E R rv lv pv M (x::o) l ps) {cs:List Value}{v:Value}
  (hp:Hp w' B (upd (upd (eU E R rv lv pv M (x::o) l ps) (.kid o.length) (.row 32 6 v (x.c.all.length+1) (x.css.flatten++bD x.lv x.c.lst++cs))) .row
   (.row 76 9 rv (o.length+1) (aZ o++[.int .i64 (x.c.kind:Int),.int .i64 0,.string ⟨#[]⟩,.string ⟨#[]⟩,.int .i64 (x.c.line:Int),v,.int .u8 (x.c.sign.toNat:Int),.int .i64 (x.c.col:Int),.int .u8 0])))) :
  yu w' B E R rv lv pv M x o l ps cs:=by
 obtain ⟨M',h1,h2,⟨cs',h3,Sp⟩,h4⟩:=qW (o:=o) (M:=M) hp (by
  show (jP (x::o) o.length).bind cy=_;rw [dj];rfl) (fun b=>rfl) h.old (h.good x List.mem_cons_self)
 exact ⟨M',cs',v,h1,h2,h3,Sp,fun y hy=>(h.good y (List.mem_cons_of_mem _ hy)).mono h1,h4⟩
theorem Tp {t:Bk.Tree}{cs:List Value}(h:yu w' B E R rv lv pv M x o l ps cs) (ht:TM M t cs):∃ M' x',x'.c=x.c.add t∧cT w' B E R rv lv pv M' (x'::o) l ps:=by
 obtain ⟨M',cs',v,h1,h2,h3,Sp,hgo,h4⟩:=h;refine ⟨M',⟨x.c.add t,v,cs'++[cs],.slice none 0 0,[]⟩,rfl,h4.same fun j=>?_,fun y hy=>?_,h2⟩
 ·cases j with
  | kid i =>
   rw [bI (fun b e=>by cases e) (fun e=>by cases e),aj _ _ (by simp)];show (jP (_::o) i).map dQ=_
   by_cases hi:i=o.length
   ·subst hi
    rw [dj,upd_same];have e1:(x.c.add t).all=x.c.all++[t]:=by show (x.c.all++[t])++[]=_;rw [List.append_nil]
    show some (Part.row _ 6 v (x.c.add t).all.length ((cs'++[cs]).flatten++[]))=_;rw [e1,List.length_append,List.append_nil,List.flatten_append,Sp];simp
   ·rw [aj _ _ (by simpa using hi),qa _ x o hi];rfl
  | itm i =>
   by_cases hi:i=o.length
   ·subst hi
    rw [DZ (fun b e=>by cases e)];show (jP (_::o) _).bind cy=_;rw [dj];rfl
   ·rw [bI (fun b e=>by cases e) (by simpa using hi),aj _ _ (by simp),aj _ _ (by simp)]
    show (jP (_::o) i).bind cy=_;rw [qa _ x o hi];rfl
  | row=>rw [bI (fun b e=>by cases e) (fun e=>by cases e),upd_same];rfl
  | old b=>rfl
  | _=>rw [bI (fun b e=>by cases e) (fun e=>by cases e),aj _ _ (by simp),aj _ _ (by simp)];rfl
 ·rcases List.mem_cons.1 hy with rfl | hy
  ·exact ⟨tr h3 (CS h1 ht),fun _ _ _ e=>by cases e⟩
  ·exact hgo y hy
abbrev NR (w:World) (g p:Nat) (a0 a1 a2 a3 a4 a5:Value):World:=(((((w.setCell ⟨g,p,none⟩ a0).setCell ⟨g,p+1,none⟩ a1).setCell ⟨g,p+2,none⟩ a2).setCell ⟨g,p+3,none⟩ a3).setCell ⟨g,p+4,none⟩ a4).setCell ⟨g,p+5,none⟩ a5
theorem mS {w0:World}(hb:Below B w0 w) {g:Nat}(hg:B≤g) (p:Nat) (a0 a1 a2 a3 a4 a5:Value):Below B w0 (NR w g p a0 a1 a2 a3 a4 a5) :=
 (((((hb.setCell (p:=⟨g,p,none⟩) hg _).setCell (p:=⟨g,p+1,none⟩) hg _).setCell (p:=⟨g,p+2,none⟩) hg _).setCell (p:=⟨g,p+3,none⟩) hg _).setCell (p:=⟨g,p+4,none⟩) hg _).setCell (p:=⟨g,p+5,none⟩) hg _
theorem wZ {g c n:Nat}{cells:List Value}{m:nV→Option Part}(h:Hp w B m) (hr:m .row=some (.row 76 9 (.slice (some ⟨g,0,none⟩) n c) n cells)) (j:Nat) (s:Value) :
  Hp (w.setCell ⟨g,j,none⟩ s) B (upd m .row (.row 76 9 (.slice (some ⟨g,0,none⟩) n c) n (cells.set j s))):=by
 obtain ⟨s1,g1⟩:=(h.own hr).stored j s;exact h.wG (k:=.row) _ hr g1 s1 (fun _ e=>.inl e)
theorem O1 {P:Nat}(hP:o.length*9=P) (v s:Value):((aZ (x::o)).set (P+5) v).set (P+8) s=aZ o++[.int .i64 (x.c.kind:Int),.int .i64 0,.string ⟨#[]⟩,.string ⟨#[]⟩,.int .i64 (x.c.line:Int),v,.int .u8 (x.c.sign.toNat:Int),.int .i64 (x.c.col:Int),s]:=by
 rw [← hP,← cm];simp [aZ,cE]
theorem wQ {vg vc n:Nat}{m:nV→Option Part}{k:nV}{X:List Value}{z0 z1 z2 z3 z4 z5:Value}(h:Hp w B m) (hr:m k=some (.row 32 6 (.slice (some ⟨vg,0,none⟩) (n+1) vc) (n+1) (X++[z0,z1,z2,z3,z4,z5]))) (hX:X.length=n*6) {P:Nat}(hP:n*6=P) (a0 a1 a2 a3 a4 a5:Value) :
  Hp (NR w vg P a0 a1 a2 a3 a4 a5) B (upd m k (.row 32 6 (.slice (some ⟨vg,0,none⟩) (n+1) vc) (n+1) (X++[a0,a1,a2,a3,a4,a5]))):=by
 subst hP;obtain ⟨s1,g1⟩:=Un (h.own hr) hX a0 a1 a2 a3 a4 a5;exact h.wG (k:=k) _ hr g1 s1 (fun _ e=>.inl e)
end
end Go.Proofs.YtddkjkockbcamaaGreatDoor
namespace Go.Proofs.YtddkjkockbcamaaGreatDoor
open Go.RowKit
attribute [local go_sem] aD av aq
theorem fm (w:World) (B:Nat) (E:Nat→Option Part) (R:Nat) (rv lv pv:Value) (M:Mm) (x:MC) (o:List MC) (l:Pb.Of) (ps:List Bk.Pl) (h:cT w B E R rv lv pv M (x::o) l ps) (g c:Nat) (hg:rv=.slice (some ⟨g,0,none⟩) (o.length+1) c) (hlen:o.length≤1000) :
  Calls Tryz.prog 84 #[Dw R] w fun e w'=>e=.returned (.pointer (some ⟨g,o.length*9,none⟩))∧Below w.heap.size w w':=by
 obtain ⟨_,_,_,hc0,_⟩:=aK h;subst hg;clear h;go_enter Tryz.func84,Tryz.ntmps84;go_wp2_with fail;go_quiet (fail);go_wp2_with fail;go_ret;exact ⟨rfl,below_drewN (Below.refl _ _) _⟩
theorem Ga (w:World) (B:Nat) (E:Nat→Option Part) (R:Nat) (rv lv pv:Value) (M:Mm) (x:MC) (o:List MC) (l:Pb.Of) (ps:List Bk.Pl) (h:cT w B E R rv lv pv M (x::o) l ps) (g c:Nat) (hg:rv=.slice (some ⟨g,0,none⟩) (o.length+1) c)
  (t0 t1 t4:Int) (t2 t3:List UInt8) (tA:Option Addr) (tn tk:Nat) (hlen:o.length≤1000) (cX:x.c.all.length≤1000000000) :
  Calls Tryz.prog 86 #[.pointer (some ⟨g,o.length*9,none⟩),.agg #[.int .i64 t0,.int .i64 t1,.string (bs t2),.string (bs t3),.int .i64 t4,.slice tA tn tk]] w fun e w'=>e=.returned (.tuple #[])∧yu w' B E R rv lv pv M x o l ps [.int .i64 t0,.int .i64 t1,.string (bs t2),.string (bs t3),.int .i64 t4,.slice tA tn tk]∧Below B w w':=by
 obtain ⟨hR1,hR2,_⟩:=aK h;obtain ⟨g',c',e',_,hgR,hgB,mh,Po,qX⟩:=eF h;rw [hg] at e';cases e';subst hg;have q5:=qX 5 _ rfl;have q8:=qX 8 _ rfl;have hkr:=h.hp.own (k:=.kid o.length) (by show (jP (x::o) o.length).map dQ=_;rw [dj];rfl);obtain ⟨kA,kc,hkv,hkc⟩:=ak hkr;obtain ⟨P,hP⟩:∃ P,o.length*9=P:=⟨_,rfl⟩
 have hPl:P≤9000:=by omega
 obtain ⟨n,hn⟩:∃ n,x.c.all.length=n:=⟨_,rfl⟩
 obtain ⟨X,hX⟩:∃ X,x.css.flatten++bD x.lv x.c.lst=X:=⟨_,rfl⟩
 rw [hn] at hkr cX hkc hkv;rw [hX] at hkr;rw [hkv] at q5 hkr;rw [hP] at q5 q8 ⊢;have Gt:=aa w (.cells #[.int .i64 t0,.int .i64 t1,.string (bs t2),.string (bs t3),.int .i64 t4,.slice tA tn tk] 32);have hwn:=heap_alloc_new w (.cells #[.int .i64 t0,.int .i64 t1,.string (bs t2),.string (bs t3),.int .i64 t4,.slice tA tn tk] 32);have LI:(w.alloc (.cells #[.int .i64 t0,.int .i64 t1,.string (bs t2),.string (bs t3),.int .i64 t4,.slice tA tn tk] 32)).heap.size=w.heap.size+1:=by simp
 obtain ⟨w1,hw1⟩:∃ w1,w.alloc (.cells #[.int .i64 t0,.int .i64 t1,.string (bs t2),.string (bs t3),.int .i64 t4,.slice tA tn tk] 32)=w1:=⟨_,rfl⟩
 rw [hw1] at Gt hwn LI;replace h:=Lib.hid h;replace hw1:=Lib.hid hw1;replace hkr:=Lib.hid hkr;replace hkv:=Lib.hid hkv;replace hwn:=Lib.hid hwn;replace hn:=Lib.hid hn;replace hX:=Lib.hid hX;replace hP:=Lib.hid hP;clear qX Po;go_enter Tryz.func86,Tryz.ntmps86;go_wp2_with fail;rw [hw1.out];have s5:w1.drew.cell? ⟨g,P+5,none⟩=some (.slice kA n kc):=(Gt.cell (p:=⟨g,P+5,none⟩) mh).trans q5;have sb:∀ j u,[Value.int .i64 t0,.int .i64 t1,.string (bs t2),.string (bs t3),.int .i64 t4,.slice tA tn tk][j]? = some u→w1.drew.cell? ⟨w.heap.size,j,none⟩=some u:=fun j u hj=>cell_of (w:=w1.drew) hwn.out hj;refine dG 8 [(true,0),(true,1),(true,2),(true,3),(true,4),(true,5),(true,6),(false,7)] 6 (.rd 9 (.rd 11 (.rd 12 (.rd 13 (.fk 10 (.mk 14 .fin) 14 (.mk 10 .fin)))))) (Ext w1.drew) (Below.refl _ _) (by kernel_rfl) (by kernel_rfl) (by kernel_rfl) (fun _ _ d _ _ h=>by cases d<;>exact h) ?_
 repeat (first | refine bS rfl ?_ | (refine aB rfl ?_;intro K hK;go_simp;refine hK _ _ _ ?_;clear hK K))
 refine b9 (.slice kA n kc) rfl rfl (Below.refl _ _) (fun u hu=>by have s5u:=(Below.cell hu (p:=⟨g,P+5,none⟩) (by have:=Gt.size;show g<w1.heap.size;omega)).trans s5;go_simp) ?_;refine b9 (.agg #[.int .i64 t0,.int .i64 t1,.string (bs t2),.string (bs t3),.int .i64 t4,.slice tA tn tk]) rfl rfl (Below.refl _ _) (fun u hu=>by
  have IZ:=fun j v hj=>(Below.cell hu (p:=⟨w.heap.size,j,none⟩) (by show w.heap.size<w1.heap.size;omega)).trans (sb j v hj);have u0:=IZ 0 _ rfl;have u1:=IZ 1 _ rfl;have u2:=IZ 2 _ rfl;have u3:=IZ 3 _ rfl;have u4:=IZ 4 _ rfl;have u5:=IZ 5 _ rfl;clear IZ;go_simp) ?_
 repeat (first | refine bS rfl ?_ | (refine aB rfl ?_;intro K hK;go_simp;refine hK _ _ _ ?_;clear hK K))
 refine aB rfl ?_;intro K hK;go_simp;refine Di (aa _ _) (hK _ _ _ ?_);clear hK K;have hBw:B≤w.heap.size:=by omega
 obtain ⟨Z,hZ⟩:∃ Z:Array Value,#[Value.int .i64 0,.int .i64 0,.string ⟨#[]⟩,.string ⟨#[]⟩,.int .i64 0,.slice none 0 0]=Z:=⟨_,rfl⟩
 have hZ6:Z.size=1*6:=by rw [← hZ];rfl
 have Zc:∀ u∈Z.toList,u.oneCell'=true:=by rw [← hZ];intro u hu;simp at hu;rcases hu with rfl | rfl | rfl | rfl | rfl | rfl<;>rfl
 rw [hZ];have ho2:(w1.alloc (.cells Z 32)).drew.ownsRow B 32 6 (.slice kA n kc) n X:=((bX hkr.out Gt).alloc _).drew;have hr2:Row (w1.alloc (.cells Z 32)).drew (w1.alloc (.cells Z 32)).drew.heap.size 6 (some ⟨w.heap.size+1,0,none⟩) 1 Z.toList:=by
  have:=Row.kT w1 32 Z hZ6 rfl;rw [LI] at this;exact this
 have hz2:(w1.alloc (.cells Z 32)).drew.heap.size=w.heap.size+2:=by show (w1.alloc _).heap.size=_;simp [LI]
 have hb2:Below w.heap.size w (w1.alloc (.cells Z 32)).drew:=(ag Gt (aa w1 _)).drew;generalize (w1.alloc (.cells Z 32)).drew=w2 at ho2 hr2 hz2 hb2 ⊢;refine iy rfl rfl ?_;refine eG (v:=.slice kA n kc) (.tmp 8) (.tmp 11) rfl Gi rfl ho2 rfl hr2 Zc (by omega) (by omega) (by omega) ?_;intro v w3 eR hg3 hb3 SX;obtain ⟨vg,vc,cur,rfl,hvc,Z4,UG,_⟩:=iI eR (by omega);subst hZ;replace eR:w3.ownsRow B 32 6 (.slice (some ⟨vg,0,none⟩) (n+1) vc) (n+1) (X++([.int .i64 0,.int .i64 0,.string ⟨#[]⟩,.string ⟨#[]⟩,.int .i64 0,.slice none 0 0]:List Value)):=eR;have Yu:X.length=n*6:=hkr.out.1;have DQ:h.out.hp.apart=h.out.hp.apart:=rfl;have hkk:(eU E R (.slice (some ⟨g,0,none⟩) (o.length+1) c) lv pv M (x::o) l ps) (.kid o.length)=some (.row 32 6 (.slice kA n kc) n X):=by
  show (jP (x::o) o.length).map dQ=_;rw [dj];show some (Part.row _ 6 x.kv x.c.all.length (x.css.flatten++bD x.lv x.c.lst))=_;rw [hkv.out,hn.out,hX.out]
 have U7:some g≠(Value.slice kA n kc).ownBlock:=fun e=>by
  have:=h.out.hp.apart .row (.kid o.length) _ _ g rfl hkk rfl e.symm;cases this
 have hvg:vg≠g:=fun e=>by
  rcases SX.out vg rfl with h1 | h1
  ·exact U7 (by rw [h1,e])
  ·omega
 have m1:=(h.out.hp.ext hb2).wG (k:=.kid o.length) (.row 32 6 (.slice (some ⟨vg,0,none⟩) (n+1) vc) (n+1) (X++([.int .i64 0,.int .i64 0,.string ⟨#[]⟩,.string ⟨#[]⟩,.int .i64 0,.slice none 0 0]:List Value))) hkk hg3.out eR SX.out;have hr1:upd (eU E R (.slice (some ⟨g,0,none⟩) (o.length+1) c) lv pv M (x::o) l ps) (.kid o.length) (.row 32 6 (.slice (some ⟨vg,0,none⟩) (n+1) vc) (n+1) (X++([.int .i64 0,.int .i64 0,.string ⟨#[]⟩,.string ⟨#[]⟩,.int .i64 0,.slice none 0 0]:List Value))) .row=some (.row 76 9 (.slice (some ⟨g,0,none⟩) (o.length+1) c) (o.length+1) (aZ (x::o))):=rfl;obtain ⟨P6,Tg⟩:∃ P6,n*6=P6:=⟨_,rfl⟩
 have ac9:P6≤6000000000:=by omega
 have hfv:=World.ownsRow.frozenAt eR;have H7:=fun j u (hj:[Value.int .i64 0,.int .i64 0,.string ⟨#[]⟩,.string ⟨#[]⟩,.int .i64 0,.slice none 0 0][j]? = some u)=>jf (j:=P6+j) (u:=u) eR (by rw [List.getElem?_append_right (by omega),Yu,Tg,Nat.add_sub_cancel_left];exact hj);have z0:=H7 0 _ rfl;have z1:=H7 1 _ rfl;have z2:=H7 2 _ rfl;have z3:=H7 3 _ rfl;have z4:=H7 4 _ rfl;have z5:=H7 5 _ rfl;rw [Nat.add_zero] at z0;have ag7:g<w3.heap.size:=by have:=hg3.out.size;omega
 have y5:w3.cell? ⟨g,P+5,none⟩=some (.slice kA n kc):=hg3.out.cell ((hb2.cell (p:=⟨g,P+5,none⟩) mh).trans q5) U7;have y8:w3.cell? ⟨g,P+8,none⟩=some (.int .u8 (x.c.cU.toNat:Int)):=hg3.out.cell ((hb2.cell (p:=⟨g,P+8,none⟩) mh).trans q8) U7;have hfg:=World.ownsRow.frozenAt (m1.own hr1);have QX:=(hb2.mono hBw).trans hb3;have hpost:∀ wf,Hp wf B (upd (upd (eU E R (.slice (some ⟨g,0,none⟩) (o.length+1) c) lv pv M (x::o) l ps) (.kid o.length) (.row 32 6 (.slice (some ⟨vg,0,none⟩) (n+1) vc) (n+1) (X++([.int .i64 t0,.int .i64 t1,.string (bs t2),.string (bs t3),.int .i64 t4,.slice tA tn tk]:List Value)))) .row (.row 76 9 (.slice (some ⟨g,0,none⟩) (o.length+1) c) (o.length+1) (((aZ (x::o)).set (P+5) (.slice (some ⟨vg,0,none⟩) (n+1) vc)).set (P+8) (.int .u8 0)))) →
   yu wf B E R (.slice (some ⟨g,0,none⟩) (o.length+1) c) lv pv M x o l ps [.int .i64 t0,.int .i64 t1,.string (bs t2),.string (bs t3),.int .i64 t4,.slice tA tn tk]:=by
  intro wf hw;rw [O1 hP.out,← hn.out,← hX.out] at hw;exact VT h.out hw
 have hmA:∀ a0 a1 a2 a3 a4 a5,Hp (((NR w3 vg P6 a0 a1 a2 a3 a4 a5).setCell ⟨g,P+5,none⟩ (.slice (some ⟨vg,0,none⟩) (n+1) vc)).setCell ⟨g,P+8,none⟩ (.int .u8 0)) B _:=fun a0 a1 a2 a3 a4 a5=>wZ (wZ (wQ m1 (upd_same _ _ _) Yu Tg a0 a1 a2 a3 a4 a5) hr1 (P+5) _) (upd_same _ _ _) (P+8) _;have hmB:∀ a0 a1 a2 a3 a4 a5,Hp ((NR (w3.setCell ⟨g,P+5,none⟩ (.slice (some ⟨vg,0,none⟩) (n+1) vc)) vg P6 a0 a1 a2 a3 a4 a5).setCell ⟨g,P+8,none⟩ (.int .u8 0)) B _:=fun a0 a1 a2 a3 a4 a5=>wZ (wQ (wZ m1 hr1 (P+5) _) ((aj _ _ (by simp)).trans (upd_same _ _ _)) Yu Tg a0 a1 a2 a3 a4 a5) ((aj _ _ (by simp)).trans (upd_same _ _ _)) (P+8) _;have Yb:=hpost _ ((hmA (.int .i64 t0) (.int .i64 t1) (.string (bs t2)) (.string (bs t3)) (.int .i64 t4) (.slice tA tn tk)).same fun j=>by
  unfold upd;by_cases h1:j=.row
  ·simp [h1]
  ·by_cases h2:j=.kid o.length<;>simp [h1,h2])
 have X2:=hpost _ ((hmB (.int .i64 t0) (.int .i64 t1) (.string (bs t2)) (.string (bs t3)) (.int .i64 t4) (.slice tA tn tk)).same fun j=>by
  unfold upd;by_cases h1:j=.row
  ·simp [h1]
  ·by_cases h2:j=.kid o.length<;>simp [h1,h2])
 have af0:B≤vg:=Z4;have HN:=(mS QX Z4 P6 (.int .i64 t0) (.int .i64 t1) (.string (bs t2)) (.string (bs t3)) (.int .i64 t4) (.slice tA tn tk))
 have Ug:=(mS (QX.setCell (p:=⟨g,P+5,none⟩) hgB (.slice (some ⟨vg,0,none⟩) (n+1) vc)) Z4 P6 (.int .i64 t0) (.int .i64 t1) (.string (bs t2)) (.string (bs t3)) (.int .i64 t4) (.slice tA tn tk)).setCell (p:=⟨g,P+8,none⟩) hgB (.int .u8 0);replace HN:=Lib.hid ((HN.setCell (p:=⟨g,P+5,none⟩) hgB (.slice (some ⟨vg,0,none⟩) (n+1) vc)).setCell (p:=⟨g,P+8,none⟩) hgB (.int .u8 0));replace Ug:=Lib.hid Ug;replace Yb:=Lib.hid Yb;replace X2:=Lib.hid X2;clear hmA hmB hpost;replace m1:=Lib.hid m1;clear hr1 H7 hkk U7 DQ;have hn0:(0:Int)≤(n:Int):=by omega
 have uR:(n:Int)<(n:Int)+1:=by omega
 refine ⟨fun _=>True,trivial,?_⟩
 repeat (first | refine an rfl ?_ | (refine az rfl ?_;intro K hK;go_simp;refine hK _ _ _ ?_;clear hK K))
 refine jh ?_ ?_
 ·refine aE rfl ?_
  intro K hK;go_simp;refine ⟨fun _=>True,trivial,hK _ _ _ ?_⟩;clear hK K;refine aE rfl ?_;intro K hK;go_simp;refine ⟨fun _=>True,trivial,hK _ _ _ ?_⟩;clear hK K;refine aQ ?_;go_wp2_with fail;go_returns;exact ⟨rfl,Yb.out,HN.out⟩
 ·refine aE rfl ?_
  intro K hK;go_simp;refine ⟨fun _=>True,trivial,hK _ _ _ ?_⟩;clear hK K;refine aE rfl ?_;intro K hK;go_simp;refine ⟨fun _=>True,trivial,hK _ _ _ ?_⟩;clear hK K;refine aQ ?_;go_wp2_with fail;go_returns;exact ⟨rfl,X2.out,Ug.out⟩
theorem pH (w:World) (B:Nat) (E:Nat→Option Part) (R:Nat) (rv lv pv:Value) (M:Mm) (x:MC) (o:List MC) (l:Pb.Of) (ps:List Bk.Pl) (h:cT w B E R rv lv pv M (x::o) l ps) (g c:Nat) (hg:rv=.slice (some ⟨g,0,none⟩) (o.length+1) c)
  (t:Bk.Tree) (cs:List Value) (ht:TM M t cs) (hlen:o.length≤1000) (cX:x.c.all.length≤1000000000) :
  Calls Tryz.prog 86 #[.pointer (some ⟨g,o.length*9,none⟩),.agg cs.toArray] w fun e w'=>e=.returned (.tuple #[])∧(∃ M' x',x'.c=x.c.add t∧cT w' B E R rv lv pv M' (x'::o) l ps)∧Below B w w':=by
 obtain ⟨t0,t1,t4,t2,t3,tA,tn,tk,rfl⟩:=LX ht;exact (Ga w B E R rv lv pv M x o l ps h g c hg t0 t1 t4 t2 t3 tA tn tk hlen cX).mono fun e w' ⟨h1,h2,h3⟩=>⟨h1,Tp h2 ht,h3⟩
section
variable {w w':World}{B R:Nat}{E:Nat→Option Part}{rv lv pv:Value}{M:Mm}{x:MC}{o:List MC}{l:Pb.Of}{ps:List Bk.Pl}
theorem NM (h:cT w B E R rv lv pv M (x::o) l ps) {s:UInt8}{ln:Nat}{is:List Bk.Tree}(hl:x.c.lst=some (s,ln,is)) {t:Bk.Tree}{cs:List Value}(ht:TM M t cs) {v:Value}
  (hp:Hp w' B (upd (upd (eU E R rv lv pv M (x::o) l ps) (.itm o.length) (.row 32 6 v (is.length+1) (x.iss.flatten++cs))) (.kid o.length) (.row 32 6 x.kv x.c.all.length ((x.css.flatten++bD x.lv x.c.lst).set (x.c.kids.length*6+5) v)))) :
  ∃ x',x'.c={ x.c with lst:=some (s,ln,is++[t]) }∧cT w' B E R rv lv pv M (x'::o) l ps:=by
 have hgx:=h.good x List.mem_cons_self;have hlen:=CD hgx.1;refine ⟨⟨{ x.c with lst:=some (s,ln,is++[t]) },x.kv,x.css,v,x.iss++[cs]⟩,rfl,hp.same fun j=>?_,fun y hy=>?_,h.old⟩
 ·cases j with
  | kid i =>
   by_cases hi:i=o.length
   ·subst hi
    rw [upd_same];show (jP (_::o) _).map dQ=_;rw [dj];show some (Part.row _ 6 x.kv (x.c.kids++[Bk.Tree.mk 2 0 [] [] ln (is++[t])]).length (x.css.flatten++bD v (some (s,ln,is++[t]))))=_;have e1:x.c.all.length=(x.c.kids++[Bk.Tree.mk 2 0 [] [] ln (is++[t])]).length:=by unfold Pb.Cn.all;rw [hl];simp [Pb.o7]
    have e2:(x.css.flatten++bD x.lv x.c.lst).set (x.c.kids.length*6+5) v=x.css.flatten++bD v (some (s,ln,is++[t])):=by
     rw [hl,← hlen];simp [bD]
    rw [e1,e2]
   ·rw [aj _ _ (by simpa using hi),aj _ _ (by simp)]
    show (jP (_::o) i).map dQ=_;rw [qa _ x o hi];rfl
  | itm i =>
   rw [aj _ _ (by simp)]
   by_cases hi:i=o.length
   ·subst hi
    rw [upd_same];show (jP (_::o) _).bind cy=_;rw [dj];show some (Part.row _ 6 v (is++[t]).length (x.iss++[cs]).flatten)=_;rw [List.length_append,List.flatten_append];simp
   ·rw [aj _ _ (by simpa using hi)]
    show (jP (_::o) i).bind cy=_;rw [qa _ x o hi];rfl
  | row =>
   rw [aj _ _ (by simp),aj _ _ (by simp)];show some (Part.row _ 9 rv _ (aZ o++cE _))=some (Part.row _ 9 rv _ (aZ o++cE x));unfold cE Pb.Cn.cU;rw [hl];rfl
  | _=>rw [aj _ _ (by simp),aj _ _ (by simp)];rfl
 ·rcases List.mem_cons.1 hy with rfl | hy
  ·exact ⟨hgx.1,fun s' ln' is' e=>by cases e;exact tr (hgx.2 s ln is hl) ht⟩
  ·exact h.good y (List.mem_cons_of_mem _ hy)
theorem zB {K:Type} [DecidableEq K] {m:K→Option Part}(h:Hp w B m) {k:K}{e:TypeId}{size g c n:Nat}{cells:List Value}(hr:m k=some (.row e size (.slice (some ⟨g,0,none⟩) n c) n cells)) (j:Nat) (s:Value) :
  Hp (w.setCell ⟨g,j,none⟩ s) B (upd m k (.row e size (.slice (some ⟨g,0,none⟩) n c) n (cells.set j s))):=by
 obtain ⟨s1,g1⟩:=(h.own hr).stored j s;exact h.wG (k:=k) _ hr g1 s1 (fun _ e=>.inl e)
end
theorem I9 (w:World) (B:Nat) (E:Nat→Option Part) (R:Nat) (rv lv pv:Value) (M:Mm) (x:MC) (o:List MC) (l:Pb.Of) (ps:List Bk.Pl) (h:cT w B E R rv lv pv M (x::o) l ps) (g c:Nat) (hg:rv=.slice (some ⟨g,0,none⟩) (o.length+1) c)
  (s:UInt8) (ln:Nat) (is:List Bk.Tree) (hl:x.c.lst=some (s,ln,is)) (t:Bk.Tree) (t0 t1 t4:Int) (t2 t3:List UInt8) (tA:Option Addr) (tn tk:Nat) (ht:TM M t [.int .i64 t0,.int .i64 t1,.string (bs t2),.string (bs t3),.int .i64 t4,.slice tA tn tk]) (dc:Int) (dl:UInt8)
  (hlen:o.length≤1000) (cX:x.c.all.length≤1000000000) (his:is.length≤1000000000) :
  Calls Tryz.prog 85 #[.pointer (some ⟨g,o.length*9,none⟩),.agg #[.int .i64 t0,.int .i64 t1,.string (bs t2),.string (bs t3),.int .i64 t4,.slice tA tn tk,.int .u8 (s.toNat:Int),.int .i64 dc,.int .u8 (dl.toNat:Int)]] w fun e w' =>
   e=.returned (.tuple #[])∧(∃ x',x'.c={ x.c with lst:=some (s,ln,is++[t]) }∧cT w' B E R rv lv pv M (x'::o) l ps)∧Below B w w':=by
 obtain ⟨hR1,hR2,_⟩:=aK h;obtain ⟨g',c',e',_,hgR,hgB,mh,Po,qX⟩:=eF h;rw [hg] at e';cases e';subst hg;have q5:=qX 5 _ rfl;have q8:=qX 8 _ rfl;rw [show x.c.cU=s from by unfold Pb.Cn.cU;rw [hl]] at q8;have hkk:(eU E R (.slice (some ⟨g,0,none⟩) (o.length+1) c) lv pv M (x::o) l ps) (.kid o.length)=some (.row 32 6 x.kv x.c.all.length (x.css.flatten++bD x.lv x.c.lst)):=by
  show (jP (x::o) o.length).map dQ=_;rw [dj];rfl
 have hik:(eU E R (.slice (some ⟨g,0,none⟩) (o.length+1) c) lv pv M (x::o) l ps) (.itm o.length)=some (.row 32 6 x.lv is.length x.iss.flatten):=by
  show (jP (x::o) o.length).bind cy=_;rw [dj];show cy x=_;unfold cy;rw [hl];rfl
 have hkr:=h.hp.own hkk;have Od:=h.hp.own hik;obtain ⟨m,hm⟩:∃ m,x.c.kids.length=m:=⟨_,rfl⟩
 have hn:x.c.all.length=m+1:=by unfold Pb.Cn.all;rw [hl,List.length_append,hm];rfl
 obtain ⟨kg,kc,cur,hkv,hkc,hkB,hkw,_⟩:=iI hkr (by omega);obtain ⟨iA,ic,hiv,hic⟩:=ak Od;rw [hn] at hkv hkr cX;rw [hkv] at q5 hkr hkk;rw [hn] at hkk;rw [hiv] at Od hik;have hcl:x.css.flatten.length=m*6:=by rw [CD (h.good x List.mem_cons_self).1,hm]
 obtain ⟨X,hX⟩:∃ X,x.css.flatten++bD x.lv x.c.lst=X:=⟨_,rfl⟩
 have hXi:X[m*6+5]? = some (.slice iA is.length ic):=by
  rw [← hX,List.getElem?_append_right (by omega),hcl,Nat.add_sub_cancel_left,hl,← hiv];rfl
 rw [hX] at hkr hkk;have hk5:=jf hkr hXi;have agQ:kg≠g:=fun e=>by have:=h.hp.apart .row (.kid o.length) _ _ g rfl hkk rfl (by rw [← e];rfl);cases this
 have aaE:some kg≠(Value.slice iA is.length ic).ownBlock:=fun e=>by have:=h.hp.apart (.kid o.length) (.itm o.length) _ _ kg hkk hik rfl e.symm;cases this
 obtain ⟨P,hP⟩:∃ P,o.length*9=P:=⟨_,rfl⟩
 have hPl:P≤9000:=by omega
 obtain ⟨ni,hni⟩:∃ ni,is.length=ni:=⟨_,rfl⟩
 obtain ⟨Y,hY⟩:∃ Y,x.iss.flatten=Y:=⟨_,rfl⟩
 rw [hni] at Od hik aaE hk5 his hic;rw [hY] at Od hik;rw [hP] at q5 q8 ⊢;obtain ⟨K6,ZW⟩:∃ K6,m*6=K6:=⟨_,rfl⟩
 have ag2:K6≤6000000000:=by omega
 rw [ZW] at hk5;have Gt:=aa w (.cells #[.int .i64 t0,.int .i64 t1,.string (bs t2),.string (bs t3),.int .i64 t4,.slice tA tn tk,.int .u8 (s.toNat:Int),.int .i64 dc,.int .u8 (dl.toNat:Int)] 76);have hwn:=heap_alloc_new w (.cells #[.int .i64 t0,.int .i64 t1,.string (bs t2),.string (bs t3),.int .i64 t4,.slice tA tn tk,.int .u8 (s.toNat:Int),.int .i64 dc,.int .u8 (dl.toNat:Int)] 76);have LI:(w.alloc (.cells #[.int .i64 t0,.int .i64 t1,.string (bs t2),.string (bs t3),.int .i64 t4,.slice tA tn tk,.int .u8 (s.toNat:Int),.int .i64 dc,.int .u8 (dl.toNat:Int)] 76)).heap.size=w.heap.size+1:=by simp
 obtain ⟨w1,hw1⟩:∃ w1,w.alloc (.cells #[.int .i64 t0,.int .i64 t1,.string (bs t2),.string (bs t3),.int .i64 t4,.slice tA tn tk,.int .u8 (s.toNat:Int),.int .i64 dc,.int .u8 (dl.toNat:Int)] 76)=w1:=⟨_,rfl⟩
 rw [hw1] at Gt hwn LI;have YP:(((s.toNat:Int))==(s.toNat:Int))=true:=by simp
 have ad2:=(Array.getElem?_eq_some_iff.1 hkw).1;replace h:=Lib.hid h;replace hw1:=Lib.hid hw1;replace hkr:=Lib.hid hkr;replace Od:=Lib.hid Od;replace hkv:=Lib.hid hkv;replace hiv:=Lib.hid hiv;replace hwn:=Lib.hid hwn;replace hn:=Lib.hid hn;replace hX:=Lib.hid hX;replace hY:=Lib.hid hY;replace hni:=Lib.hid hni;replace hm:=Lib.hid hm;replace ht:=Lib.hid ht;replace hP:=Lib.hid hP;replace ZW:=Lib.hid ZW;replace hl:=Lib.hid hl;replace hkk:=Lib.hid hkk;replace hik:=Lib.hid hik;replace hXi:=Lib.hid hXi;replace hkw:=Lib.hid hkw;clear qX Po hcl;have s5:w1.cell? ⟨g,P+5,none⟩=some (.slice (some ⟨kg,0,none⟩) (m+1) kc):=(Gt.cell (p:=⟨g,P+5,none⟩) mh).trans q5;have s8:w1.cell? ⟨g,P+8,none⟩=some (.int .u8 (s.toNat:Int)):=(Gt.cell (p:=⟨g,P+8,none⟩) mh).trans q8;have sk:w1.cell? ⟨kg,K6+5,none⟩=some (.slice iA ni ic):=(Gt.cell (p:=⟨kg,K6+5,none⟩) ad2).trans hk5;have sb:∀ j u,[Value.int .i64 t0,.int .i64 t1,.string (bs t2),.string (bs t3),.int .i64 t4,.slice tA tn tk,.int .u8 (s.toNat:Int),.int .i64 dc,.int .u8 (dl.toNat:Int)][j]? = some u→w1.cell? ⟨w.heap.size,j,none⟩=some u:=fun j u hj=>cell_of hwn.out hj;have b6:=sb 6 _ rfl;have hm0:(0:Int)≤(m:Int):=by omega
 have hm1:(m:Int)<(m:Int)+1:=by omega
 have Ii:IntKind.i64.wrap (m:Int)=(m:Int):=by unfold IntKind.wrap;simp [IntKind.bits,IntKind.signed];omega
 clear q5 q8 hk5;go_enter Tryz.func85,Tryz.ntmps85;go_wp2_with fail;rw [hw1.out];go_quiet (fail);have O7:Below w.heap.size w (w1.drewN nq):=below_drewN Gt nq;have T0:(w1.drewN nq).heap.size=w.heap.size+1:=LI;have FK:(w1.drewN nq).heap[w.heap.size]? = _:=hwn.out;have s5':(w1.drewN nq).cell? ⟨g,P+5,none⟩=_:=s5;have sk':(w1.drewN nq).cell? ⟨kg,K6+5,none⟩=_:=sk;generalize w1.drewN nq=wa at O7 T0 FK s5' sk' ⊢;clear Gt LI hwn hw1 s5 s8 sk sb b6 w1;go_wp2_with fail;go_quiet (fail);replace O7:Below w.heap.size w (wa.drewN nq):=below_drewN O7 nq;replace T0:(wa.drewN nq).heap.size=w.heap.size+1:=T0;replace FK:(wa.drewN nq).heap[w.heap.size]? = _:=FK;replace sk':(wa.drewN nq).cell? ⟨kg,K6+5,none⟩=_:=sk';generalize wa.drewN nq=wb at O7 T0 FK sk' ⊢;clear s5';rw [ZW.out];go_wp2_with fail;have sb:∀ j u,[Value.int .i64 t0,.int .i64 t1,.string (bs t2),.string (bs t3),.int .i64 t4,.slice tA tn tk,.int .u8 (s.toNat:Int),.int .i64 dc,.int .u8 (dl.toNat:Int)][j]? = some u→wb.drew.cell? ⟨w.heap.size,j,none⟩=some u:=fun j u hj=>cell_of (w:=wb.drew) FK hj;have sk2:wb.drew.cell? ⟨kg,K6+5,none⟩=_:=sk';refine dG 8 [(true,0),(true,1),(true,2),(true,3),(true,4),(true,5),(true,6),(false,7)] 5 (.rd 9 (.rd 11 (.rd 12 (.fk 10 (.mk 13 .fin) 13 (.mk 10 .fin))))) (Ext wb.drew) (Below.refl _ _) (by kernel_rfl) (by kernel_rfl) (by kernel_rfl) (fun _ _ d _ _ h=>by cases d<;>exact h) ?_
 repeat (first | refine bS rfl ?_ | (refine aB rfl ?_;intro K hK;go_simp;refine hK _ _ _ ?_;clear hK K))
 refine b9 (.slice iA ni ic) rfl rfl (Below.refl _ _) (fun u hu=>by have s5u:=(Below.cell hu (p:=⟨kg,K6+5,none⟩) (by have:=O7.size;show kg<wb.heap.size;omega)).trans sk2;go_simp) ?_
 repeat (first | refine bS rfl ?_ | (refine aB rfl ?_;intro K hK;go_simp;refine hK _ _ _ ?_;clear hK K))
 refine b9 (.agg #[.int .i64 t0,.int .i64 t1,.string (bs t2),.string (bs t3),.int .i64 t4,.slice tA tn tk]) rfl rfl (Below.refl _ _) (fun u hu=>by
  have IZ:=fun j v hj=>(Below.cell hu (p:=⟨w.heap.size,j,none⟩) (by show w.heap.size<wb.heap.size;omega)).trans (sb j v hj);have u0:=IZ 0 _ rfl;have u1:=IZ 1 _ rfl;have u2:=IZ 2 _ rfl;have u3:=IZ 3 _ rfl;have u4:=IZ 4 _ rfl;have u5:=IZ 5 _ rfl;clear IZ;go_simp) ?_
 repeat (first | refine bS rfl ?_ | (refine aB rfl ?_;intro K hK;go_simp;refine hK _ _ _ ?_;clear hK K))
 refine aB rfl ?_;intro K hK;go_simp;refine Di (aa _ _) (hK _ _ _ ?_);clear hK K;have hBw:B≤w.heap.size:=by omega
 obtain ⟨Z,hZ⟩:∃ Z:Array Value,#[Value.int .i64 0,.int .i64 0,.string ⟨#[]⟩,.string ⟨#[]⟩,.int .i64 0,.slice none 0 0]=Z:=⟨_,rfl⟩
 have hZ6:Z.size=1*6:=by rw [← hZ];rfl
 have Zc:∀ u∈Z.toList,u.oneCell'=true:=by rw [← hZ];intro u hu;simp at hu;rcases hu with rfl | rfl | rfl | rfl | rfl | rfl<;>rfl
 rw [hZ];have ho2:(wb.alloc (.cells Z 32)).drew.ownsRow B 32 6 (.slice iA ni ic) ni Y:=((bX Od.out O7).alloc _).drew;have hr2:Row (wb.alloc (.cells Z 32)).drew (wb.alloc (.cells Z 32)).drew.heap.size 6 (some ⟨w.heap.size+1,0,none⟩) 1 Z.toList:=by
  have:=Row.kT wb 32 Z hZ6 rfl;rw [T0] at this;exact this
 have hz2:(wb.alloc (.cells Z 32)).drew.heap.size=w.heap.size+2:=by show (wb.alloc _).heap.size=_;simp [T0]
 have hb2:Below w.heap.size w (wb.alloc (.cells Z 32)).drew:=(ag O7 (aa wb _)).drew;generalize (wb.alloc (.cells Z 32)).drew=w2 at ho2 hr2 hz2 hb2 ⊢;refine iy rfl rfl ?_;refine eG (v:=.slice iA ni ic) (.tmp 28) (.tmp 32) rfl Gi rfl ho2 rfl hr2 Zc (by omega) (by omega) (by omega) ?_;intro v w3 eR hg3 hb3 SX;obtain ⟨vg,vc,cur',rfl,hvc,Z4,UG,_⟩:=iI eR (by omega);subst hZ;replace eR:w3.ownsRow B 32 6 (.slice (some ⟨vg,0,none⟩) (ni+1) vc) (ni+1) (Y++([.int .i64 0,.int .i64 0,.string ⟨#[]⟩,.string ⟨#[]⟩,.int .i64 0,.slice none 0 0]:List Value)):=eR;have hYl:Y.length=ni*6:=Od.out.1;have hvg:vg≠kg:=fun e=>by
  rcases SX.out vg rfl with h1 | h1
  ·exact aaE (by rw [h1,e])
  ·omega
 have m1:=(h.out.hp.ext hb2).wG (k:=.itm o.length) (.row 32 6 (.slice (some ⟨vg,0,none⟩) (ni+1) vc) (ni+1) (Y++([.int .i64 0,.int .i64 0,.string ⟨#[]⟩,.string ⟨#[]⟩,.int .i64 0,.slice none 0 0]:List Value))) hik.out hg3.out eR SX.out;have hr1:upd (eU E R (.slice (some ⟨g,0,none⟩) (o.length+1) c) lv pv M (x::o) l ps) (.itm o.length) (.row 32 6 (.slice (some ⟨vg,0,none⟩) (ni+1) vc) (ni+1) (Y++([.int .i64 0,.int .i64 0,.string ⟨#[]⟩,.string ⟨#[]⟩,.int .i64 0,.slice none 0 0]:List Value))) (.kid o.length)=some (.row 32 6 (.slice (some ⟨kg,0,none⟩) (m+1) kc) (m+1) X):=(aj _ _ (by simp)).trans hkk.out;obtain ⟨P6,Tg⟩:∃ P6,ni*6=P6:=⟨_,rfl⟩
 have ac9:P6≤6000000000:=by omega
 have hfv:=World.ownsRow.frozenAt eR;have H7:=fun j u (hj:[Value.int .i64 0,.int .i64 0,.string ⟨#[]⟩,.string ⟨#[]⟩,.int .i64 0,.slice none 0 0][j]? = some u)=>jf (j:=P6+j) (u:=u) eR (by rw [List.getElem?_append_right (by omega),hYl,Tg,Nat.add_sub_cancel_left];exact hj);have z0:=H7 0 _ rfl;have z1:=H7 1 _ rfl;have z2:=H7 2 _ rfl;have z3:=H7 3 _ rfl;have z4:=H7 4 _ rfl;have z5:=H7 5 _ rfl;rw [Nat.add_zero] at z0;have y5:w3.cell? ⟨kg,K6+5,none⟩=some (.slice iA ni ic):=jf (m1.own hr1) (by rw [← ZW.out,← hni.out];exact hXi.out);have hfg:=World.ownsRow.frozenAt (m1.own hr1);have QX:=(hb2.mono hBw).trans hb3;have hpost:∀ wf,Hp wf B (upd (upd (eU E R (.slice (some ⟨g,0,none⟩) (o.length+1) c) lv pv M (x::o) l ps) (.itm o.length) (.row 32 6 (.slice (some ⟨vg,0,none⟩) (ni+1) vc) (ni+1) (Y++([.int .i64 t0,.int .i64 t1,.string (bs t2),.string (bs t3),.int .i64 t4,.slice tA tn tk]:List Value)))) (.kid o.length) (.row 32 6 (.slice (some ⟨kg,0,none⟩) (m+1) kc) (m+1) (X.set (K6+5) (.slice (some ⟨vg,0,none⟩) (ni+1) vc)))) →
   ∃ x',x'.c={ x.c with lst:=some (s,ln,is++[t]) }∧cT wf B E R (.slice (some ⟨g,0,none⟩) (o.length+1) c) lv pv M (x'::o) l ps:=by
  intro wf hw;rw [← hkv.out,← hn.out,← hX.out,← ZW.out,← hm.out,← hni.out,← hY.out] at hw;exact NM h.out hl.out ht.out hw
 have hmA:∀ a0 a1 a2 a3 a4 a5,Hp ((NR w3 vg P6 a0 a1 a2 a3 a4 a5).setCell ⟨kg,K6+5,none⟩ (.slice (some ⟨vg,0,none⟩) (ni+1) vc)) B _:=fun a0 a1 a2 a3 a4 a5=>zB (wQ m1 (upd_same _ _ _) hYl Tg a0 a1 a2 a3 a4 a5) ((aj _ _ (by simp)).trans hr1) (K6+5) _;have hmB:∀ a0 a1 a2 a3 a4 a5,Hp (NR (w3.setCell ⟨kg,K6+5,none⟩ (.slice (some ⟨vg,0,none⟩) (ni+1) vc)) vg P6 a0 a1 a2 a3 a4 a5) B _:=fun a0 a1 a2 a3 a4 a5=>wQ (zB m1 hr1 (K6+5) _) ((aj _ _ (by simp)).trans (upd_same _ _ _)) hYl Tg a0 a1 a2 a3 a4 a5;have Yb:=hpost _ ((hmA (.int .i64 t0) (.int .i64 t1) (.string (bs t2)) (.string (bs t3)) (.int .i64 t4) (.slice tA tn tk)).same fun j=>by
  unfold upd;by_cases h1:j=.kid o.length
  ·simp [h1]
  ·by_cases h2:j=.itm o.length<;>simp [h1,h2])
 have X2:=hpost _ ((hmB (.int .i64 t0) (.int .i64 t1) (.string (bs t2)) (.string (bs t3)) (.int .i64 t4) (.slice tA tn tk)).same fun j=>by
  unfold upd;by_cases h1:j=.kid o.length
  ·simp [h1]
  ·by_cases h2:j=.itm o.length<;>simp [h1,h2])
 have HN:=(mS QX Z4 P6 (.int .i64 t0) (.int .i64 t1) (.string (bs t2)) (.string (bs t3)) (.int .i64 t4) (.slice tA tn tk)).setCell (p:=⟨kg,K6+5,none⟩) hkB (.slice (some ⟨vg,0,none⟩) (ni+1) vc);have Ug:=(mS (QX.setCell (p:=⟨kg,K6+5,none⟩) hkB (.slice (some ⟨vg,0,none⟩) (ni+1) vc)) Z4 P6 (.int .i64 t0) (.int .i64 t1) (.string (bs t2)) (.string (bs t3)) (.int .i64 t4) (.slice tA tn tk))
 replace HN:=Lib.hid HN;replace Ug:=Lib.hid Ug;replace Yb:=Lib.hid Yb;replace X2:=Lib.hid X2;replace m1:=Lib.hid m1;clear hmA hmB hpost hr1 H7;have hn0:(0:Int)≤(ni:Int):=by omega
 have uR:(ni:Int)<(ni:Int)+1:=by omega
 have ae4:kg<w3.heap.size:=by have:=hg3.out.size;have:=hb2.size;omega
 refine ⟨fun _=>True,trivial,?_⟩
 repeat (first | refine an rfl ?_ | (refine az rfl ?_;intro K hK;go_simp;refine hK _ _ _ ?_;clear hK K))
 refine jh ?_ ?_
 ·refine aE rfl ?_
  intro K hK;go_simp;refine ⟨fun _=>True,trivial,hK _ _ _ ?_⟩;clear hK K;refine aE rfl ?_;intro K hK;go_simp;refine ⟨fun _=>True,trivial,hK _ _ _ ?_⟩;clear hK K;refine aQ ?_;go_wp2_with fail;go_returns;exact ⟨rfl,Yb.out,HN.out⟩
 ·refine aE rfl ?_
  intro K hK;go_simp;refine ⟨fun _=>True,trivial,hK _ _ _ ?_⟩;clear hK K;refine aE rfl ?_;intro K hK;go_simp;refine ⟨fun _=>True,trivial,hK _ _ _ ?_⟩;clear hK K;refine aQ ?_;go_wp2_with fail;go_returns;exact ⟨rfl,X2.out,Ug.out⟩
section
variable {w w':World}{B R:Nat}{E:Nat→Option Part}{rv lv pv:Value}{M:Mm}{x:MC}{row:List MC}{o:List MC}{l:Pb.Of}{ps:List Bk.Pl}
theorem cT.jk (h:cT w B E R rv lv pv M row l ps) {a:Part}(hb:Below w.heap.size w w') (ha:a.holds w' B) (hat:∀ g,a.block=some g→w.heap.size≤g):cT w' B (eL a E) R rv lv pv M row l ps:=by
 have h':=h.hp.ext hb;refine ⟨⟨fun k b hk=>?_,fun i j b c g hi hj xd Pd=>?_⟩,h.good,h.old⟩
 ·cases k with
  | ext i =>
   cases i with
   | zero=>cases hk;exact ha
   | succ i=>exact h'.holds (.ext i) b hk
  | rd=>exact h'.holds .rd b hk
  | row=>exact h'.holds .row b hk
  | kid i=>exact h'.holds (.kid i) b hk
  | itm i=>exact h'.holds (.itm i) b hk
  | lns=>exact h'.holds .lns b hk
  | pls=>exact h'.holds .pls b hk
  | old i=>exact h'.holds (.old i) b hk
 ·have key:∀ (k:nV) (b:Part),eU (eL a E) R rv lv pv M row l ps k=some b→(k=.ext 0∧b=a)∨∃ k',eU E R rv lv pv M row l ps k'=some b∧(k'=(match k with | .ext (i+1)=>.ext i | k=>k))∧k ≠ .ext 0:=by
   intro k b hk;cases k with
   | ext i =>
    cases i with
    | zero=>cases hk;exact .inl ⟨rfl,rfl⟩
    | succ i=>exact .inr ⟨.ext i,hk,rfl,by simp⟩
   | rd=>exact .inr ⟨.rd,hk,rfl,by simp⟩
   | row=>exact .inr ⟨.row,hk,rfl,by simp⟩
   | kid i=>exact .inr ⟨.kid i,hk,rfl,by simp⟩
   | itm i=>exact .inr ⟨.itm i,hk,rfl,by simp⟩
   | lns=>exact .inr ⟨.lns,hk,rfl,by simp⟩
   | pls=>exact .inr ⟨.pls,hk,rfl,by simp⟩
   | old i=>exact .inr ⟨.old i,hk,rfl,by simp⟩
  rcases key i b hi with ⟨rfl,rfl⟩ | ⟨i',hi',ei,ni⟩
  ·rcases key j c hj with ⟨rfl,rfl⟩ | ⟨j',hj',ej,nj⟩
   ·rfl
   ·have:=(Part.lt (h.hp.holds _ _ hj') Pd).2
    have:=hat g xd;omega
  ·rcases key j c hj with ⟨rfl,rfl⟩ | ⟨j',hj',ej,nj⟩
   ·have:=(Part.lt (h.hp.holds _ _ hi') xd).2
    have:=hat g Pd;omega
   ·have e:=h.hp.apart i' j' b c g hi' hj' xd Pd
    rw [ei,ej] at e;cases i with
    | ext a1 =>
     cases a1 with
     | zero=>exact absurd rfl ni
     | succ a1 =>
      cases j with
      | ext a2 =>
       cases a2 with
       | zero=>exact absurd rfl nj
       | succ a2=>simp only [nV.ext.injEq] at e;rw [e]
      | _=>simp at e
    | _ =>
     cases j with
     | ext a2 =>
      cases a2 with
      | zero=>exact absurd rfl nj
      | succ a2=>simp at e
     | _=>exact e
theorem cT.fP {a:Part}(h:cT w B (eL a E) R rv lv pv M row l ps):cT w B E R rv lv pv M row l ps:=by
 refine ⟨h.hp.turn (fun k=>match k with | .ext i=>.ext (i+1) | k=>k) (fun i j _ _ _ _ e=>?_) (fun k b hk=>?_),h.good,h.old⟩
 ·cases i<;>cases j<;>simp_all
 ·cases k with
  | ext i=>exact ⟨b,hk,h.hp.holds (.ext (i+1)) b hk,fun _ e=>e⟩
  | rd=>exact ⟨b,hk,h.hp.holds .rd b hk,fun _ e=>e⟩
  | row=>exact ⟨b,hk,h.hp.holds .row b hk,fun _ e=>e⟩
  | kid i=>exact ⟨b,hk,h.hp.holds (.kid i) b hk,fun _ e=>e⟩
  | itm i=>exact ⟨b,hk,h.hp.holds (.itm i) b hk,fun _ e=>e⟩
  | lns=>exact ⟨b,hk,h.hp.holds .lns b hk,fun _ e=>e⟩
  | pls=>exact ⟨b,hk,h.hp.holds .pls b hk,fun _ e=>e⟩
  | old i=>exact ⟨b,hk,h.hp.holds (.old i) b hk,fun _ e=>e⟩
theorem Oa {nb g c:Nat}(hg:rv=.slice (some ⟨g,0,none⟩) (o.length+1) c) {P:Nat}(hP:o.length*9=P) {t:Bk.Tree}{t0 t1 t4:Int}{t2 t3:List UInt8}{tA:Option Addr}{tn tk:Nat}(ht:TM M t [.int .i64 t0,.int .i64 t1,.string (bs t2),.string (bs t3),.int .i64 t4,.slice tA tn tk]) (s:UInt8) (ln:Nat)
  (h:yu w B (eL (.blk nb #[.int .i64 t0,.int .i64 t1,.string (bs t2),.string (bs t3),.int .i64 t4,.slice tA tn tk] 32) E) R rv lv pv M x o l ps [.int .i64 2,.int .i64 0,.string ⟨#[]⟩,.string ⟨#[]⟩,.int .i64 (ln:Int),.slice (some ⟨nb,0,none⟩) 1 1]) :
  B≤g∧g<w.heap.size∧(∀ j,w.frozen? ⟨g,j,none⟩=false)∧w.cell? ⟨g,P+8,none⟩=some (.int .u8 0)∧(∀ i a,E i=some a→a.holds w B) ∧
  ∃ M' x',x'.c={ x.c with kids:=x.c.all,lst:=some (s,ln,[t]) }∧cT (w.setCell ⟨g,P+8,none⟩ (.int .u8 (s.toNat:Int))) B E R rv lv pv M' (x'::o) l ps:=by
 obtain ⟨M',cs',v,h1,h2,h3,Sp,hgo,h4⟩:=h;subst hg;have hr:=(bI (m:=upd (upd (eU (eL (.blk nb #[.int .i64 t0,.int .i64 t1,.string (bs t2),.string (bs t3),.int .i64 t4,.slice tA tn tk] 32) E) R (.slice (some ⟨g,0,none⟩) (o.length+1) c) lv pv M (x::o) l ps) (.kid o.length) (.row 32 6 v (x.c.all.length+1) (x.css.flatten++bD x.lv x.c.lst++([.int .i64 2,.int .i64 0,.string ⟨#[]⟩,.string ⟨#[]⟩,.int .i64 (ln:Int),.slice (some ⟨nb,0,none⟩) 1 1]:List Value)))) .row (.row 76 9 (.slice (some ⟨g,0,none⟩) (o.length+1) c) (o.length+1) (aZ o++[.int .i64 (x.c.kind:Int),.int .i64 0,.string ⟨#[]⟩,.string ⟨#[]⟩,.int .i64 (x.c.line:Int),v,.int .u8 (x.c.sign.toNat:Int),.int .i64 (x.c.col:Int),.int .u8 0]))) (M':=M') (k:=.itm o.length) (j:=.row) (fun b e=>by cases e) (fun e=>by cases e)).trans (upd_same _ _ _);have ho:=h4.own hr;obtain ⟨hgB,mh⟩:=World.ownsRow.lt ho g rfl;refine ⟨hgB,mh,World.ownsRow.frozenAt ho,jf ho ?_,fun i a hi=>h4.holds (.ext (i+1)) a (by rw [bI (fun b e=>by cases e) (by simp),aj _ _ (by simp),aj _ _ (by simp)];exact hi),?_⟩
 ·rw [List.getElem?_append_right (by rw [cm];omega),cm,show P+8-o.length*9=8 from by omega];rfl
 have m1:=zB h4 hr (P+8) (.int .u8 (s.toNat:Int));have hz:(aZ o++([.int .i64 (x.c.kind:Int),.int .i64 0,.string ⟨#[]⟩,.string ⟨#[]⟩,.int .i64 (x.c.line:Int),v,.int .u8 (x.c.sign.toNat:Int),.int .i64 (x.c.col:Int),.int .u8 0]:List Value)).set (P+8) (.int .u8 (s.toNat:Int))=aZ o++([.int .i64 (x.c.kind:Int),.int .i64 0,.string ⟨#[]⟩,.string ⟨#[]⟩,.int .i64 (x.c.line:Int),v,.int .u8 (x.c.sign.toNat:Int),.int .i64 (x.c.col:Int),.int .u8 (s.toNat:Int)]:List Value):=by
  rw [← hP,← cm];simp
 rw [hz] at m1;refine ⟨M',⟨{ x.c with kids:=x.c.all,lst:=some (s,ln,[t]) },v,cs',.slice (some ⟨nb,0,none⟩) 1 1,[[.int .i64 t0,.int .i64 t1,.string (bs t2),.string (bs t3),.int .i64 t4,.slice tA tn tk]]⟩,rfl,⟨?_,fun y hy=>?_,h2⟩⟩
 ·refine m1.turn (fun k=>match k with
   | .itm i=>if i=o.length then .ext 0 else .itm i
   | .ext i=>.ext (i+1)
   | k=>k) (fun i j a b hi hj e=>?_) (fun k a hk=>?_)
  ·cases i with
   | itm i1 =>
    by_cases h5:i1=o.length
    ·cases j with
     | itm j1 =>
      by_cases h6:j1=o.length
      ·rw [h5,h6]
      ·simp [h5,h6] at e
     | _=>simp [h5] at e
    ·cases j with
     | itm j1 =>
      by_cases h6:j1=o.length
      ·simp [h5,h6] at e
      ·simpa [h5,h6] using e
     | _=>simp [h5] at e
   | _ =>
    cases j with
    | itm j1 =>
     by_cases h6:j1=o.length
     ·simp [h6] at e
     ·simp [h6] at e
    | _=>simp_all
  ·cases k with
   | itm i =>
    by_cases hi:i=o.length
    ·subst hi
     simp only [if_true];have e0:upd (gone (upd (upd (eU (eL (.blk nb #[.int .i64 t0,.int .i64 t1,.string (bs t2),.string (bs t3),.int .i64 t4,.slice tA tn tk] 32) E) R (.slice (some ⟨g,0,none⟩) (o.length+1) c) lv pv M (x::o) l ps) (.kid o.length) (.row 32 6 v (x.c.all.length+1) (x.css.flatten++bD x.lv x.c.lst++([.int .i64 2,.int .i64 0,.string ⟨#[]⟩,.string ⟨#[]⟩,.int .i64 (ln:Int),.slice (some ⟨nb,0,none⟩) 1 1]:List Value)))) .row (.row 76 9 (.slice (some ⟨g,0,none⟩) (o.length+1) c) (o.length+1) (aZ o++[.int .i64 (x.c.kind:Int),.int .i64 0,.string ⟨#[]⟩,.string ⟨#[]⟩,.int .i64 (x.c.line:Int),v,.int .u8 (x.c.sign.toNat:Int),.int .i64 (x.c.col:Int),.int .u8 0]))) M' (.itm o.length)) .row (.row 76 9 (.slice (some ⟨g,0,none⟩) (o.length+1) c) (o.length+1) (aZ o++([.int .i64 (x.c.kind:Int),.int .i64 0,.string ⟨#[]⟩,.string ⟨#[]⟩,.int .i64 (x.c.line:Int),v,.int .u8 (x.c.sign.toNat:Int),.int .i64 (x.c.col:Int),.int .u8 (s.toNat:Int)]:List Value))) (.ext 0)=some (.blk nb #[.int .i64 t0,.int .i64 t1,.string (bs t2),.string (bs t3),.int .i64 t4,.slice tA tn tk] 32):=by
      rw [aj _ _ (by simp),bI (fun b e=>by cases e) (fun e=>by cases e),aj _ _ (by simp),aj _ _ (by simp)];rfl
     have hb0:=m1.holds _ _ e0;refine ⟨_,e0,?_,?_⟩
     ·have hk':cy (⟨{ x.c with kids:=x.c.all,lst:=some (s,ln,[t]) },v,cs',.slice (some ⟨nb,0,none⟩) 1 1,[[.int .i64 t0,.int .i64 t1,.string (bs t2),.string (bs t3),.int .i64 t4,.slice tA tn tk]]⟩:MC)=some a:=by
       rw [← hk];show _=(jP (_::o) o.length).bind cy;rw [dj];rfl
      cases hk';refine ⟨rfl,.inr ⟨nb,1,_,rfl,hb0.1,hb0.2,Nat.le_refl _,by unfold maxLen;omega,rfl,rfl⟩⟩
     ·intro g' hg'
      have hk':cy (⟨{ x.c with kids:=x.c.all,lst:=some (s,ln,[t]) },v,cs',.slice (some ⟨nb,0,none⟩) 1 1,[[.int .i64 t0,.int .i64 t1,.string (bs t2),.string (bs t3),.int .i64 t4,.slice tA tn tk]]⟩:MC)=some a:=by
       rw [← hk];show _=(jP (_::o) o.length).bind cy;rw [dj];rfl
      cases hk';exact hg'
    ·simp only [if_neg hi]
     have e0:=hk;have hk':(jP (x::o) i).bind cy=some a:=by have h9:(jP (_::o) i).bind cy=some a:=hk;rw [qa _ x o hi] at h9;exact h9
     refine ⟨a,?_,m1.holds (.itm i) a ?_,fun _ e=>e⟩ <;>
      (rw [aj _ _ (by simp),bI (fun b e=>by cases e) (by simpa using hi),aj _ _ (by simp),aj _ _ (by simp)];exact hk')
   | kid i =>
    by_cases hi:i=o.length
    ·subst hi
     have hk':dQ (⟨{ x.c with kids:=x.c.all,lst:=some (s,ln,[t]) },v,cs',.slice (some ⟨nb,0,none⟩) 1 1,[[.int .i64 t0,.int .i64 t1,.string (bs t2),.string (bs t3),.int .i64 t4,.slice tA tn tk]]⟩:MC)=a:=by
      have:(jP (_::o) o.length).map dQ=some a:=hk;rw [dj] at this;exact Option.some.inj this
     have e1:dQ (⟨{ x.c with kids:=x.c.all,lst:=some (s,ln,[t]) },v,cs',.slice (some ⟨nb,0,none⟩) 1 1,[[.int .i64 t0,.int .i64 t1,.string (bs t2),.string (bs t3),.int .i64 t4,.slice tA tn tk]]⟩:MC)=.row 32 6 v (x.c.all.length+1) (x.css.flatten++bD x.lv x.c.lst++([.int .i64 2,.int .i64 0,.string ⟨#[]⟩,.string ⟨#[]⟩,.int .i64 (ln:Int),.slice (some ⟨nb,0,none⟩) 1 1]:List Value)):=by
      show Part.row _ 6 v (x.c.all++[_]).length (cs'.flatten++_)=_;rw [Sp,List.length_append];rfl
     rw [e1] at hk';subst hk';refine ⟨_,?_,m1.holds (.kid o.length) _ ?_,fun _ e=>e⟩ <;>
      (rw [aj _ _ (by simp),bI (fun b e=>by cases e) (by simp),aj _ _ (by simp),upd_same])
    ·have hk':(jP (x::o) i).map dQ=some a:=by have h9:(jP (_::o) i).map dQ=some a:=hk;rw [qa _ x o hi] at h9;exact h9
     refine ⟨a,?_,m1.holds (.kid i) a ?_,fun _ e=>e⟩ <;>
      (rw [aj _ _ (by simp),bI (fun b e=>by cases e) (by simp),aj _ _ (by simp),aj _ _ (by simpa using hi)];exact hk')
   | row=>refine ⟨a,?_,m1.holds .row a ?_,fun _ e=>e⟩<;>(rw [upd_same];exact hk)
   | old b=>refine ⟨a,?_,m1.holds (.old b) a ?_,fun _ e=>e⟩<;>(rw [aj _ _ (by simp)];exact hk)
   | ext i =>
    refine ⟨a,?_,m1.holds (.ext (i+1)) a ?_,fun _ e=>e⟩ <;>
     (rw [aj _ _ (by simp),bI (fun b e=>by cases e) (by simp),aj _ _ (by simp),aj _ _ (by simp)];exact hk)
   | rd =>
    refine ⟨a,?_,m1.holds .rd a ?_,fun _ e=>e⟩ <;>
     (rw [aj _ _ (by simp),bI (fun b e=>by cases e) (by simp),aj _ _ (by simp),aj _ _ (by simp)];exact hk)
   | lns =>
    refine ⟨a,?_,m1.holds .lns a ?_,fun _ e=>e⟩ <;>
     (rw [aj _ _ (by simp),bI (fun b e=>by cases e) (by simp),aj _ _ (by simp),aj _ _ (by simp)];exact hk)
   | pls =>
    refine ⟨a,?_,m1.holds .pls a ?_,fun _ e=>e⟩ <;>
     (rw [aj _ _ (by simp),bI (fun b e=>by cases e) (by simp),aj _ _ (by simp),aj _ _ (by simp)];exact hk)
 ·rcases List.mem_cons.1 hy with rfl | hy
  ·exact ⟨h3,fun _ _ _ e=>by cases e;exact tr pP (CS h1 ht)⟩
  ·exact hgo y hy
end
theorem NV (w:World) (B:Nat) (E:Nat→Option Part) (R:Nat) (rv lv pv:Value) (M:Mm) (x:MC) (o:List MC) (l:Pb.Of) (ps:List Bk.Pl) (h:cT w B E R rv lv pv M (x::o) l ps) (g c:Nat) (hg:rv=.slice (some ⟨g,0,none⟩) (o.length+1) c)
  (s:UInt8) (ln:Nat) (hne:x.c.cU≠s) (t:Bk.Tree) (t0 t1:Int) (t2 t3:List UInt8) (tA:Option Addr) (tn tk:Nat) (ht:TM M t [.int .i64 t0,.int .i64 t1,.string (bs t2),.string (bs t3),.int .i64 (ln:Int),.slice tA tn tk]) (dc:Int) (dl:UInt8)
  (hlen:o.length≤1000) (cX:x.c.all.length≤1000000000) :
  Calls Tryz.prog 85 #[.pointer (some ⟨g,o.length*9,none⟩),.agg #[.int .i64 t0,.int .i64 t1,.string (bs t2),.string (bs t3),.int .i64 (ln:Int),.slice tA tn tk,.int .u8 (s.toNat:Int),.int .i64 dc,.int .u8 (dl.toNat:Int)]] w fun e w' =>
   e=.returned (.tuple #[])∧(∃ M' x',x'.c={ x.c with kids:=x.c.all,lst:=some (s,ln,[t]) }∧cT w' B E R rv lv pv M' (x'::o) l ps)∧Below B w w':=by
 obtain ⟨hR1,hR2,_⟩:=aK h;obtain ⟨g',c',e',_,hgR,hgB,mh,Po,qX⟩:=eF h;rw [hg] at e';cases e';have q8:=qX 8 _ rfl;obtain ⟨P,hP⟩:∃ P,o.length*9=P:=⟨_,rfl⟩
 have hPl:P≤9000:=by omega
 rw [hP] at q8;have Gt:=aa w (.cells #[.int .i64 t0,.int .i64 t1,.string (bs t2),.string (bs t3),.int .i64 (ln:Int),.slice tA tn tk,.int .u8 (s.toNat:Int),.int .i64 dc,.int .u8 (dl.toNat:Int)] 76);have hwn:=heap_alloc_new w (.cells #[.int .i64 t0,.int .i64 t1,.string (bs t2),.string (bs t3),.int .i64 (ln:Int),.slice tA tn tk,.int .u8 (s.toNat:Int),.int .i64 dc,.int .u8 (dl.toNat:Int)] 76);have LI:(w.alloc (.cells #[.int .i64 t0,.int .i64 t1,.string (bs t2),.string (bs t3),.int .i64 (ln:Int),.slice tA tn tk,.int .u8 (s.toNat:Int),.int .i64 dc,.int .u8 (dl.toNat:Int)] 76)).heap.size=w.heap.size+1:=by simp
 obtain ⟨w1,hw1⟩:∃ w1,w.alloc (.cells #[.int .i64 t0,.int .i64 t1,.string (bs t2),.string (bs t3),.int .i64 (ln:Int),.slice tA tn tk,.int .u8 (s.toNat:Int),.int .i64 dc,.int .u8 (dl.toNat:Int)] 76)=w1:=⟨_,rfl⟩
 rw [hw1] at Gt hwn LI;obtain ⟨ls,hls⟩:∃ ls,x.c.cU=ls:=⟨_,rfl⟩
 rw [hls] at hne q8;have YP:(((ls.toNat:Int))==(s.toNat:Int))=false:=gz hne;have hBw:B≤w.heap.size:=by omega
 replace h:=Lib.hid h;replace hw1:=Lib.hid hw1;replace hwn:=Lib.hid hwn;replace ht:=Lib.hid ht;replace hg:=Lib.hid hg;replace hls:=Lib.hid hls;clear qX Po;have s8:w1.cell? ⟨g,P+8,none⟩=some (.int .u8 (ls.toNat:Int)):=(Gt.cell (p:=⟨g,P+8,none⟩) mh).trans q8;have b6:w1.cell? ⟨w.heap.size,6,none⟩=some (.int .u8 (s.toNat:Int)):=cell_of hwn.out rfl;clear q8;go_enter Tryz.func85,Tryz.ntmps85;rw [hP];go_wp2_with fail;rw [hw1.out];go_quiet (fail);have O7:Below w.heap.size w (w1.drewN nq):=below_drewN Gt nq;have T0:(w1.drewN nq).heap.size=w.heap.size+1:=LI;have FK:(w1.drewN nq).heap[w.heap.size]? = _:=hwn.out;generalize w1.drewN nq=wa at O7 T0 FK ⊢;clear Gt LI hwn hw1 s8 b6 w1;have b0:=cell_of FK (j:=0) rfl;have b1:=cell_of FK (j:=1) rfl;have b2:=cell_of FK (j:=2) rfl;have b3:=cell_of FK (j:=3) rfl;have b4:=cell_of FK (j:=4) rfl;have b5:=cell_of FK (j:=5) rfl;have b6:=cell_of FK (j:=6) rfl;replace FK:=Lib.hid FK;go_wp2_with fail;have Ik:=h.out.jk O7 (a:=.blk w.heap.size #[.int .i64 t0,.int .i64 t1,.string (bs t2),.string (bs t3),.int .i64 (ln:Int),.slice tA tn tk,.int .u8 (s.toNat:Int),.int .i64 dc,.int .u8 (dl.toNat:Int)] 76) ⟨hBw,FK.out⟩ (fun g hg=>by cases hg;omega);have HN:=ag O7 (aa wa (.cells #[.int .i64 t0,.int .i64 t1,.string (bs t2),.string (bs t3),.int .i64 (ln:Int),.slice tA tn tk] 32));have hA:=Ik.jk (aa wa (.cells #[.int .i64 t0,.int .i64 t1,.string (bs t2),.string (bs t3),.int .i64 (ln:Int),.slice tA tn tk] 32)) (a:=.blk (w.heap.size+1) #[.int .i64 t0,.int .i64 t1,.string (bs t2),.string (bs t3),.int .i64 (ln:Int),.slice tA tn tk] 32) ⟨by omega,by rw [← T0];exact heap_alloc_new wa _⟩ (fun g hg=>by cases hg;omega);have hzA:(wa.alloc (.cells #[.int .i64 t0,.int .i64 t1,.string (bs t2),.string (bs t3),.int .i64 (ln:Int),.slice tA tn tk] 32)).heap.size=w.heap.size+2:=by simp [T0]
 clear O7 b0 b1 b2 b3 b4 b5 b6 Ik;generalize wa.alloc (.cells #[.int .i64 t0,.int .i64 t1,.string (bs t2),.string (bs t3),.int .i64 (ln:Int),.slice tA tn tk] 32)=wc at HN hA hzA ⊢;have aH:=Ga wc B _ R rv lv pv M x o l ps hA g c hg.out 2 0 (ln:Int) [] [] (some ⟨w.heap.size+1,0,none⟩) 1 1 hlen cX;rw [hP] at aH;refine aH.mono ?_;clear aH;rintro e w3 ⟨rfl,aa6,hb3⟩;obtain ⟨k1,k2,k3,k4,k5,M',x',hx',Xr⟩:=Oa hg.out hP ht.out s ln aa6;obtain ⟨_,UO⟩:=k5 0 _ rfl;have b6:=cell_of UO (j:=6) rfl;have hres:=Lib.hid (⟨M',x',hx',Xr.fP⟩:∃ M' x',x'.c={ x.c with kids:=x.c.all,lst:=some (s,ln,[t]) }∧cT (w3.setCell ⟨g,P+8,none⟩ (.int .u8 (s.toNat:Int))) B E R rv lv pv M' (x'::o) l ps);have qF:=Lib.hid (((HN.mono hBw).trans hb3).setCell (p:=⟨g,P+8,none⟩) k1 (.int .u8 (s.toNat:Int)));clear UO Xr aa6 hA;go_wp2_with fail;go_returns;exact ⟨rfl,hres.out,qF.out⟩
end Go.Proofs.YtddkjkockbcamaaGreatDoor
