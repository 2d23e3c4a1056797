/- IlTC EmMem EmSearch EmWipe EmStores EmInner EmMatch EmKindV EmKindL EmKindR IlLit EmPA -/
import Derived.Test.YtddkjkockbcamaaGreatDoorHw17
import Derived.Test.YtddkjkockbcamaaGreatDoorHw03
import Derived.Test.YtddkjkockbcamaaGreatDoorHw04
import Derived.Laws.ResultCell
import Derived.Deep.QuietTactic
import Derived.BigQuiet
import Derived.Laws.OwnMore
import Derived.Test.YtddkjkockbcamaaGreatDoorHw02
import Derived.BigRegion
set_option maxHeartbeats 16000000
set_option maxRecDepth 100000
namespace Go.Proofs.YtddkjkockbcamaaGreatDoor
open Go.RowKit
theorem aN {w:World}{B:Nat}{e:TypeId}{size n g c:Nat}{xs:List Value}(h:w.ownsRow B e size (.slice (some ⟨g,0,none⟩) n c) n xs) {j:Nat}{u:Value}(hj:xs[j]? = some u):w.cell? ⟨g,j,none⟩=some u:=by
 have:=World.ownsRow.cells h (g:=g) rfl j u hj;rwa [show (⟨g,0,none⟩:Addr).add j=⟨g,j,none⟩ from by unfold Addr.add;split<;>simp_all] at this
def e9 (w:World) (Q:Nat→Prop) (size:Nat) (A:Option Addr) (n:Nat) (xs:List Value):Prop :=
 xs.length=n*size∧(0<n→∃ b o,A=some ⟨b,o,none⟩∧Q b∧∀ j u,xs[j]? = some u→w.cell? ⟨b,o+j,none⟩=some u)
mutual
def IC (w:World) (Q:Nat→Prop):Il.In→List Value→Prop
 | .mk kd t d ks,cs=>∃ A c css,cs=[.int .i64 (kd:Int),.string (bs t),.string (bs d),.slice A ks.length c]∧ks.length≤c∧e9 w Q 4 A ks.length css.flatten∧iq w Q ks css
def iq (w:World) (Q:Nat→Prop):List Il.In→List (List Value)→Prop
 | [],css=>css=[]
 | t::ts,css=>∃ c0 cr,css=c0::cr∧IC w Q t c0∧iq w Q ts cr
end
theorem e9.frame {w w':World}{Q Q':Nat→Prop}{size n:Nat}{A:Option Addr}{xs:List Value}(h:e9 w Q size A n xs) (hf:∀ b,Q b→w'.heap[b]? = w.heap[b]?) (hq:∀ b,Q b→Q' b):e9 w' Q' size A n xs:=by
 refine ⟨h.1,fun hn=>?_⟩;obtain ⟨b,o,hA,hb,hc⟩:=h.2 hn;exact ⟨b,o,hA,hq b hb,fun j u hj=>by rw [World.cell?_of_block (hf b hb)];exact hc j u hj⟩
mutual
theorem Hu {w w':World}{Q Q':Nat→Prop}(hf:∀ b,Q b→w'.heap[b]? = w.heap[b]?) (hq:∀ b,Q b→Q' b):∀ {t:Il.In}{cs:List Value},IC w Q t cs→IC w' Q' t cs
 | .mk ..,_,h=>by
  unfold IC at h ⊢;obtain ⟨A,c,css,h1,h2,h3,h4⟩:=h;exact ⟨A,c,css,h1,h2,h3.frame hf hq,iw hf hq h4⟩
theorem iw {w w':World}{Q Q':Nat→Prop}(hf:∀ b,Q b→w'.heap[b]? = w.heap[b]?) (hq:∀ b,Q b→Q' b):∀ {ts:List Il.In}{css:List (List Value)},iq w Q ts css→iq w' Q' ts css
 | [],_,h=>by unfold iq at h ⊢;exact h
 | _::_,_,h=>by
  unfold iq at h ⊢;obtain ⟨c0,cr,h1,h2,h3⟩:=h;exact ⟨c0,cr,h1,Hu hf hq h2,iw hf hq h3⟩
end
theorem rJ {w:World}{Q:Nat→Prop}:iq w Q [] []:=by unfold iq;rfl
theorem oY {w:World}{Q:Nat→Prop}{ts:List Il.In}{css:List (List Value)}{t:Il.In}{cs:List Value}(h:iq w Q ts css) (h2:IC w Q t cs):iq w Q (ts++[t]) (css++[cs]):=by
 induction ts generalizing css with
 | nil =>
  unfold iq at h;subst h;rw [List.nil_append,List.nil_append];unfold iq;exact ⟨cs,[],rfl,h2,rJ⟩
 | cons x r ih =>
  unfold iq at h;obtain ⟨c0,cr,rfl,h3,h4⟩:=h;rw [List.cons_append,List.cons_append];unfold iq;exact ⟨c0,cr++[cs],rfl,h3,ih h4⟩
theorem Lp {w:World}{Q:Nat→Prop}{kd:Nat}{t d:List UInt8}{ks:List Il.In}{cs:List Value}(h:IC w Q (.mk kd t d ks) cs):∃ (A:Option Addr) (c:Nat) (css:List (List Value)),cs=[.int .i64 (kd:Int),.string (bs t),.string (bs d),.slice A ks.length c]∧ks.length≤c∧e9 w Q 4 A ks.length css.flatten∧iq w Q ks css:=by
 unfold IC at h;exact h
theorem BV {w:World}{Q:Nat→Prop}{t:Il.In}{cs:List Value}(h:IC w Q t cs):cs.length=4:=by
 cases t with
 | mk kd tx d ks=>obtain ⟨_,_,_,rfl,_⟩:=Lp h;rfl
theorem qU {w:World}{Q:Nat→Prop}:∀ {ts:List Il.In}{css:List (List Value)},iq w Q ts css→css.flatten.length=ts.length*4
 | [],css,h=>by unfold iq at h;subst h;rfl
 | t::ts,css,h=>by
  unfold iq at h;obtain ⟨c0,cr,rfl,h1,h2⟩:=h;rw [List.flatten_cons,List.length_append,BV h1,qU h2,List.length_cons];omega
theorem PV {w:World}{Q:Nat→Prop}:∀ {ts:List Il.In}{css:List (List Value)},iq w Q ts css→∀ {k:Nat}(hk:k<ts.length),∃ cs,IC w Q ts[k] cs∧∀ j,j<4→css.flatten[k*4+j]? = cs[j]?
 | [],_,_,_,hk=>by simp at hk
 | t::ts,css,h,k,hk=>by
  unfold iq at h;obtain ⟨c0,cr,rfl,h1,h2⟩:=h;have hl:=BV h1;rcases k with _ | k
  ·exact ⟨c0,h1,fun j hj=>by rw [List.flatten_cons,List.getElem?_append_left (by omega)];congr 1;omega⟩
  ·obtain ⟨cs,h3,h4⟩:=PV h2 (k:=k) (by simpa using hk)
   refine ⟨cs,h3,fun j hj=>?_⟩;rw [List.flatten_cons,List.getElem?_append_right (by omega),hl,show (k+1)*4+j-4=k*4+j from by omega];exact h4 j hj
theorem j6 {w:World}{base:Nat}{e:TypeId}{size n c:Nat}{A:Option Addr}{xs:List Value}(h:w.ownsRow base e size (.slice A n c) n xs):e9 w (fun b=>base≤b∧b<w.heap.size) size A n xs:=by
 refine ⟨h.1,fun hn=>?_⟩;rcases h.2 with ⟨_,h0⟩ | ⟨g,cap,cur,hv,hb,hg,_⟩
 ·omega
 ·cases hv
  exact ⟨g,0,rfl,⟨hb,(Array.getElem?_eq_some_iff.1 hg).1⟩,fun j u hj=>by rw [Nat.zero_add];exact aN h hj⟩
def kK (r:Em.R):List Value:=[.int .u8 (r.ch.toNat:Int),.int .i64 r.n,.bool r.o,.bool r.c]
def aG (l:List Em.R):List Value:=l.flatMap kK
def xh (x:Nat×Nat×Nat):List Value:=[.int .i64 (x.1:Int),.int .i64 (x.2.1:Int),.int .i64 (x.2.2:Int)]
def iE (l:List (Nat×Nat×Nat)):List Value:=l.flatMap xh
def aC (L:List Nat):List Value:=L.map fun x:Nat=>.int .i64 (x:Int)
theorem iM {α:Type}{f:α→List Value}{m:Nat}(hf:∀ x,(f x).length=m):∀ (l:List α) (k i:Nat) (hk:k<l.length),i<m→(l.flatMap f)[k*m+i]? = (f l[k])[i]?
 | [],k,_,hk,_=>by simp at hk
 | x::l,0,i,_,hi=>by
  rw [List.flatMap_cons,Nat.zero_mul,Nat.zero_add,List.getElem?_append_left (by rw [hf];exact hi)];rfl
 | x::l,k+1,i,hk,hi=>by
  have:=iM hf l k i (by simpa using hk) hi;rw [List.flatMap_cons,List.getElem?_append_right (by rw [hf,Nat.succ_mul];omega),hf,show (k+1)*m+i-m=k*m+i by rw [Nat.succ_mul];omega,this];rfl
theorem lW {α:Type}{f:α→List Value}{m:Nat}(hf:∀ x,(f x).length=m) (l:List α):(l.flatMap f).length=l.length*m:=by
 induction l with
 | nil=>simp
 | cons x l ih=>rw [List.flatMap_cons,List.length_append,hf,ih,List.length_cons,Nat.succ_mul];omega
theorem Kp (l:List Em.R):(aG l).length=l.length*4:=lW (f:=kK) (m:=4) (fun _=>rfl) l
theorem Ra {w:World}{B:Nat}{A:Option Addr}{l:List Em.R}(h:Row w B 4 A l.length (aG l)) (hn:0<l.length) :
  ∃ b o,A=some ⟨b,o,none⟩∧b<B∧∀ k (hk:k<l.length),w.cell? ⟨b,o+k*4,none⟩=some (.int .u8 (l[k].ch.toNat:Int))∧w.cell? ⟨b,o+k*4+1,none⟩=some (.int .i64 l[k].n) ∧
   w.cell? ⟨b,o+k*4+2,none⟩=some (.bool l[k].o)∧w.cell? ⟨b,o+k*4+3,none⟩=some (.bool l[k].c):=by
 obtain ⟨b,o,e,hb,hc⟩:=h.2 hn;refine ⟨b,o,e,hb,fun k hk=>?_⟩;have hat:=fun i (hi:i<4)=>iM (f:=kK) (m:=4) (fun _=>rfl) l k i hk hi;exact ⟨hc _ _ ((hat 0 (by omega)).trans rfl),hc _ _ ((hat 1 (by omega)).trans rfl),hc _ _ ((hat 2 (by omega)).trans rfl),hc _ _ ((hat 3 (by omega)).trans rfl)⟩
def yh (r:Em.R):Value:=.agg #[.int .u8 (r.ch.toNat:Int),.int .i64 r.n,.bool r.o,.bool r.c]
end Go.Proofs.YtddkjkockbcamaaGreatDoor
namespace Go.Proofs.YtddkjkockbcamaaGreatDoor
open Go.RowKit
attribute [local go_sem] aD av aq
theorem Ns {L:List Nat}{i:Nat}(h:i<L.length):(aC L)[i]? = some (.int .i64 (L[i]:Int)):=by simp [aC,List.getElem?_eq_getElem h]
end Go.Proofs.YtddkjkockbcamaaGreatDoor
namespace Go.Proofs.YtddkjkockbcamaaGreatDoor
open Go.RowKit
theorem nI (L:List Nat):(aC L).length=L.length:=by simp [aC]
end Go.Proofs.YtddkjkockbcamaaGreatDoor
namespace Go.Proofs.YtddkjkockbcamaaGreatDoor
open Go.RowKit
attribute [local go_sem] aD av aq
end Go.Proofs.YtddkjkockbcamaaGreatDoor
namespace Go.Proofs.YtddkjkockbcamaaGreatDoor
open Go.RowKit
def tf:Option (Em.R×Nat)→Value
 | none=>.tuple #[.agg #[.int .u8 0,.int .i64 0,.bool false,.bool false],.int .i64 0,.bool false]
 | some x=>.tuple #[yh x.1,.int .i64 (x.2:Int),.bool true]
theorem seven (xx yy PA PB:Bool):(xx=false∧yy=false)∨(xx=false∧yy=true)∨(xx=true∧yy=false)∨(xx=true∧yy=true∧PA=false∧PB=false)∨(xx=true∧yy=true∧PA=false∧PB=true)∨(xx=true∧yy=true∧PA=true∧PB=false)∨(xx=true∧yy=true∧PA=true∧PB=true):=by
 cases xx<;>cases yy<;>cases PA<;>cases PB<;>simp
def ace (kd:Nat) (t d:List UInt8):List Value:=[.int .i64 (kd:Int),.string (bs t),.string (bs d),.slice none 0 0]
theorem wS {w:World}{Q:Nat→Prop}(kd:Nat) (t d:List UInt8):IC w Q (.mk kd t d []) (ace kd t d):=by
 unfold IC;exact ⟨none,0,[],rfl,Nat.le_refl _,⟨rfl,fun h=>absurd h (by simp)⟩,rJ⟩
end Go.Proofs.YtddkjkockbcamaaGreatDoor
section
namespace Go.Proofs.YtddkjkockbcamaaGreatDoor.Em
def kj (x y:R):Bool:=x.ch==y.ch&&((x.n%3==0&&y.n%3==0)||!(x.c||y.o)||(x.n+y.n)%3 != 0)
def Held (l:List R):Prop:=∀ r∈l,0≤r.n∧r.n≤100
def jo (y:R):Nat:=y.ch.toNat*6+(y.n%3).toNat+(if y.o then 3 else 0)
theorem G9 (y:R):jo y<1536:=by
 have:=y.ch.toNat_lt;unfold jo
 split<;>omega
theorem ND {x y z:R}(h:jo y=jo z):kj x y=kj x z:=by
 unfold jo at h;have hy:=y.ch.toNat_lt;have hz:=z.ch.toNat_lt;have h1:y.ch.toNat=z.ch.toNat∧y.n%3=z.n%3∧y.o=z.o:=by
  cases ho:y.o<;>cases ho':z.o<;>rw [ho,ho'] at h<;>simp only [if_true,if_false,Bool.false_eq_true] at h<;>refine ⟨?_,?_,?_⟩<;>first | rfl | omega
 obtain ⟨e1,e2,e3⟩:=h1;have e4:y.ch=z.ch:=UInt8.toNat_inj.1 e1;have e5:(x.n+y.n)%3=(x.n+z.n)%3:=by omega
 unfold kj;rw [e2,e3,e4,e5]
theorem CT {n:Int}(h0:0≤n) (h1:n≤100):(held n:Int)=n:=by unfold held;omega
theorem Fj {l:List R}(hl:Held l) (i:Nat):0≤(get l i).n∧(get l i).n≤100:=by
 rcases Nat.lt_or_ge i l.length with h | h
 ·rw [get_at h];exact hl _ (List.getElem_mem h)
 ·simp [get,List.getD,List.getElem?_eq_none h,none_]
theorem Yr {x y:R}(hx:0≤x.n∧x.n≤100) (hy:0≤y.n∧y.n≤100) (ho:x.o=true) (hc:y.c=true):(x.ch==y.ch&&fits x y)=kj x y:=by
 have e1:=CT hx.1 hx.2;have e2:=CT hy.1 hy.2;have f1:(held x.n%3==0)=(x.n%3==0):=by rw [Bool.eq_iff_iff];simp;omega
 have f2:(held y.n%3==0)=(y.n%3==0):=by rw [Bool.eq_iff_iff];simp;omega
 have f3:((held x.n+held y.n)%3==0)=((x.n+y.n)%3==0):=by rw [Bool.eq_iff_iff];simp;omega
 unfold fits kj;rw [f1,f2,f3,ho,hc,bne];cases (x.n+y.n)%3==0<;>cases x.c<;>cases y.o<;>simp
theorem XG {l:List R}(hl:Held l) {L:List Nat}{j c:Nat}(hc:(get l c).c=true):ok l L j c=((get l j).o&&decide (0<lf L j)&&kj (get l j) (get l c)):=by
 unfold ok;cases ho:(get l j).o with
 | false=>simp
 | true =>
  rw [← Yr (Fj hl j) (Fj hl c) ho hc];cases decide (0<lf L j)<;>simp
theorem vz {l:List R}{L:List Nat}{c o:Nat}(h:ok l L o c=true):∀ k,o<k→(∀ j,o<j→j<k→ok l L j c=false)→opener l L c k=some o
 | 0,h1,_=>by omega
 | k+1,h1,h2=>by
  rcases Nat.lt_or_eq_of_le (Nat.lt_succ_iff.1 h1) with h3 | h3
  ·rw [tI (h2 k h3 (by omega))]
   exact vz h k h3 fun j h4 h5=>h2 j h4 (by omega)
  ·subst h3;exact yN h
theorem om {l:List R}{L:List Nat}{c:Nat}:∀ k,(∀ j,j<k→ok l L j c=false)→opener l L c k=none
 | 0,_=>rfl
 | k+1,h=>by rw [tI (h k (by omega))];exact om k fun j h1=>h j (by omega)
structure zR (l:List R) (c:Nat) (st:St) (L O N:List Nat):Prop where
 len:L.length=l.length
 len':st.1.length=l.length
 nlen:N.length=1536
 sorted:O.Pairwise (· < ·)
 mem:∀ j,j∈O↔j<c∧(get l j).o=true∧0<lf st.1 j
 left:∀ j∈O,lf L j=lf st.1 j
 rest:∀ j,c<j→lf st.1 j=held (get l j).n
 none:∀ y j,j∈O→j<lf N (jo y)→kj (get l j) y=false
 nle:∀ s,lf N s≤c
 bd:∀ i,lf st.1 i≤100
 few:st.2.length+lf st.1 c≤100*(c+1)
def uD (l:List R) (c:Nat) (st:St) (L O N:List Nat):Prop:=zR l c st L O N∧lf L c=lf st.1 c
def Ab (l:List R) (c:Nat) (st:St) (L O N:List Nat):Prop:=zR l c st L O N∧lf st.1 c=held (get l c).n∧st.2.length≤100*c
theorem tS {L:List Nat}{i x j:Nat}(h:i<L.length):lf (L.set i x) j=if j=i then x else lf L j:=by
 unfold lf;simp only [List.getD,List.getElem?_set]
 by_cases hj:i=j
 ·subst hj;rw [if_pos rfl,if_pos h,if_pos rfl];rfl
 ·rw [if_neg hj,if_neg (fun e=>hj e.symm)]
theorem JJ {L:List Nat}{j:Nat}(h:L.length≤j):lf L j=0:=by simp [lf,List.getD,List.getElem?_eq_none h]
theorem zR.jx {l:List R}{c:Nat}{st:St}{L O N:List Nat}(h:zR l c st L O N) {j:Nat}(hj:j∈O):j<c∧j<l.length:=by
 have:=(h.mem j).1 hj;exact ⟨this.1,by have:=uB this.2.2;rw [h.len'] at this;exact this⟩
theorem zR.xg {l:List R}{c:Nat}{st:St}{L O N:List Nat}(h:zR l c st L O N):O.length≤c:=by
 have:∀ (k:Nat) (hk:k<O.length),k≤O[k]:=by
  intro k
  induction k with
  | zero=>intro _;omega
  | succ k ih =>
   intro hk;have h1:=ih (by omega);have h2:=(List.pairwise_iff_getElem.1 h.sorted) k (k+1) (by omega) hk (by omega);omega
 rcases Nat.eq_zero_or_pos O.length with h0 | h0
 ·omega
 ·have h1:=this (O.length-1) (by omega)
  have h2:=(h.jx (List.getElem_mem (l:=O) (n:=O.length-1) (by omega))).1;omega
theorem tJ (l:List R):Ab l 0 (l.map (fun r=>held r.n),[]) (List.replicate l.length 0) [] (List.replicate 1536 0):=by
 have hz:∀ (n s:Nat),lf (List.replicate n 0) s=0:=by
  intro n s;unfold lf;simp only [List.getD,List.getElem?_replicate]
  split<;>rfl
 have hh:∀ j,lf (l.map (fun r=>held r.n)) j=held (get l j).n:=by
  intro j;rcases Nat.lt_or_ge j l.length with h | h
  ·rw [rX (by simpa using h),List.getElem_map,get_at h]
  ·rw [JJ (by simpa using h)];simp [get,List.getD,List.getElem?_eq_none h,none_,held];omega
 refine ⟨⟨by rw [List.length_replicate],by simp,by rw [List.length_replicate],List.Pairwise.nil,fun j=>⟨fun h=>by simp at h,fun h=>by omega⟩,fun j h=>by simp at h,fun j _=>hh j,fun y j h=>by simp at h,fun s=>by rw [hz];omega,?_,?_⟩,hh 0,by simp⟩
 ·intro i;simp only;rw [hh];exact sP _
 ·simp only [List.length_nil];rw [hh];have:=sP (get l 0).n;omega
theorem YQ {l:List R}{c:Nat}{st:St}{L O N:List Nat}(h:Ab l c st L O N) (hc:c<l.length):uD l c st (L.set c (held (get l c).n)) O N:=by
 obtain ⟨h,h1,_⟩:=h;have hcl:c<L.length:=by rw [h.len];exact hc
 refine ⟨⟨by rw [List.length_set];exact h.len,h.len',h.nlen,h.sorted,h.mem,fun j hj=>?_,h.rest,h.none,h.nle,h.bd,h.few⟩,by rw [tS hcl,if_pos rfl,h1]⟩;rw [tS hcl,if_neg (by have:=h.jx hj;omega)];exact h.left j hj
theorem Qj {l:List R}{c:Nat}{st:St}{L O N:List Nat}(h:uD l c st L O N) (hn:∀ j∈O,kj (get l j) (get l c)=false):uD l c st L O (N.set (jo (get l c)) c):=by
 obtain ⟨h,h1⟩:=h;have hs:jo (get l c)<N.length:=by rw [h.nlen];exact G9 _
 refine ⟨⟨h.len,h.len',by rw [List.length_set];exact h.nlen,h.sorted,h.mem,h.left,h.rest,fun y j hj hlt=>?_,fun s=>?_,h.bd,h.few⟩,h1⟩
 ·rw [tS hs] at hlt
  split at hlt
  ·rename_i he
   rw [ND he];exact hn j hj
  ·exact h.none y j hj hlt
 ·rw [tS hs]
  split
  ·exact Nat.le_refl _
  ·exact h.nle s
theorem PY {l:List R}(hl:Held l) {c:Nat}{st:St}{L O N:List Nat}(h:uD l c st L O N) (hc:(get l c).c=true) (hn:∀ j∈O,kj (get l j) (get l c)=false):inner l c st=st:=by
 refine JU (om _ fun j hj=>?_);rw [XG hl hc]
 by_cases hm:j∈O
 ·rw [hn j hm,Bool.and_false]
 ·have:=mt (h.1.mem j).2 hm
  cases ho:(get l j).o with
  | false=>rfl
  | true =>
   have h0:¬ 0<lf st.1 j:=fun h0=>this ⟨hj,ho,h0⟩;rw [decide_eq_false h0];rfl
theorem Mp {l:List R}(hl:Held l) {c:Nat}{st:St}{L O N:List Nat}(h:uD l c st L O N) (hc:(get l c).c=true) {i:Nat}(hi:i<O.length) (hf:kj (get l O[i]) (get l c)=true)
  (hn:∀ k (hk:k<O.length),i<k→kj (get l O[k]) (get l c)=false):opener l st.1 c c=some O[i]:=by
 have hm:=(h.1.mem O[i]).1 (List.getElem_mem hi);refine vz (by rw [XG hl hc,hm.2.1,decide_eq_true hm.2.2,hf];rfl) c hm.1 fun j h1 h2=>?_;rw [XG hl hc]
 by_cases hj:j∈O
 ·obtain ⟨k,hk,rfl⟩:=List.getElem_of_mem hj
  have hik:i<k:=by
   rcases Nat.lt_or_ge i k with h3 | h3
   ·exact h3
   ·rcases Nat.lt_or_eq_of_le h3 with h4 | h4
    ·have:=(List.pairwise_iff_getElem.1 h.1.sorted) k i hk hi h4;omega
    ·subst h4;omega
  rw [hn k hk hik,Bool.and_false]
 ·have:=mt (h.1.mem j).2 hj
  cases ho:(get l j).o with
  | false=>rfl
  | true =>
   have h0:¬ 0<lf st.1 j:=fun h0=>this ⟨h2,ho,h0⟩;rw [decide_eq_false h0];rfl
theorem Hl {O:List Nat}(hs:O.Pairwise (· < ·)) {i:Nat}(hi:i<O.length) (j:Nat):j∈O.take i↔j∈O∧j<O[i]:=by
 have hp:=List.pairwise_iff_getElem.1 hs;constructor
 ·intro h
  obtain ⟨k,hk,rfl⟩:=List.getElem_of_mem h;rw [List.length_take] at hk;rw [List.getElem_take];exact ⟨List.getElem_mem _,hp k i (by omega) hi (by omega)⟩
 ·rintro ⟨h,hlt⟩
  obtain ⟨k,hk,rfl⟩:=List.getElem_of_mem h;have hki:k<i:=by
   rcases Nat.lt_or_ge k i with h3 | h3
   ·exact h3
   ·rcases Nat.lt_or_eq_of_le h3 with h4 | h4
    ·have:=hp i k hi hk h4;omega
    ·subst h4;omega
  exact List.mem_take_iff_getElem.2 ⟨k,by omega,rfl⟩
def AT (L:List Nat) (o c s:Nat):List Nat:=(L.set o (lf L o-s)).set c (lf L c-s)
def qG (O:List Nat) (i z:Nat):List Nat:=if z=0 then O.take i else O.take (i+1)
theorem QF {l:List R}{c:Nat}{st:St}{L O N:List Nat}(h:uD l c st L O N) (hcl:c<l.length) (hpos:0<lf st.1 c) {i:Nat}(hi:i<O.length) {s:Nat}(hs:s=size st.1 O[i] c) :
  uD l c (lower st.1 O[i] c s,st.2++[(O[i],c,s)]) (AT L O[i] c s) (qG O i (lf L O[i]-s)) N:=by
 obtain ⟨h,h1⟩:=h;have hmem:=List.getElem_mem hi;have hm:=(h.mem O[i]).1 hmem;have hol:=h.jx hmem;have hlo:=h.left _ hmem;have hsz:=size_pos st.1 O[i] c;have qm:=size_le hm.2.2 hpos;rw [← hs] at hsz qm;have hO:∀ j,j∈qG O i (lf L O[i]-s)↔(j∈O∧j<O[i])∨(j=O[i]∧0<lf L O[i]-s):=by
  intro j;unfold qG
  split
  ·rename_i hz
   rw [Hl h.sorted hi];exact ⟨fun h=>.inl h,fun h=>h.elim id fun h=>by omega⟩
  ·rename_i hz
   rw [List.take_succ_eq_append_getElem hi,List.mem_append,Hl h.sorted hi,List.mem_singleton];exact ⟨fun h=>h.elim .inl fun h=>.inr ⟨h,by omega⟩,fun h=>h.elim .inl fun h=>.inr h.1⟩
 have hsub:∀ j,j∈qG O i (lf L O[i]-s)→j∈O:=fun j hj=>by
  rcases (hO j).1 hj with h | ⟨rfl,_⟩
  ·exact h.1
  ·exact hmem
 have jY:∀ j,j<l.length→lf (lower st.1 O[i] c s) j=if j=O[i]∨j=c then lf st.1 j-s else if O[i]<j∧j<c then 0 else lf st.1 j:=fun j hj=>l8 (by rw [h.len'];exact hj);have hpl:∀ j,lf (AT L O[i] c s) j=if j=c then lf L c-s else if j=O[i] then lf L O[i]-s else lf L j:=by
  intro j;unfold AT;rw [tS (by rw [List.length_set,h.len];exact hcl),tS (by rw [h.len];exact hol.2)]
 refine ⟨⟨by unfold AT;rw [List.length_set,List.length_set];exact h.len,by rw [p5];exact h.len',h.nlen,?_,?_,?_,?_,?_,h.nle,?_,?_⟩,?_⟩
 ·unfold qG
  split
  ·exact h.sorted.sublist (List.take_sublist _ _)
  ·exact h.sorted.sublist (List.take_sublist _ _)
 ·intro j
  rw [hO];simp only;constructor
  ·rintro (⟨hj,hlt⟩ | ⟨rfl,hz⟩)
   ·have hk:=(h.mem j).1 hj
    refine ⟨hk.1,hk.2.1,?_⟩;rw [jY j (h.jx hj).2,if_neg (by omega),if_neg (by omega)];exact hk.2.2
   ·refine ⟨hm.1,hm.2.1,?_⟩
    rw [jY _ hol.2,if_pos (.inl rfl)];omega
  ·rintro ⟨h3,h4,h5⟩
   have hjl:j<l.length:=by omega
   rw [jY j hjl] at h5
   split at h5
   ·rename_i he
    obtain rfl:j=O[i]:=by omega
    exact .inr ⟨rfl,by omega⟩
   ·split at h5
    ·omega
    ·refine .inl ⟨(h.mem j).2 ⟨h3,h4,h5⟩,by omega⟩
 ·intro j hj
  simp only;have hjc:=(h.jx (hsub j hj)).1;have hle:=(h.jx (hsub j hj)).2;rw [hpl,jY j hle,if_neg (by omega)];rcases (hO j).1 hj with ⟨h3,h4⟩ | ⟨rfl,_⟩
  ·rw [if_neg (by omega),if_neg (by omega),if_neg (by omega)]
   exact h.left j h3
  ·rw [if_pos rfl,if_pos (.inl rfl),hlo]
 ·intro j hj
  simp only;rcases Nat.lt_or_ge j l.length with h3 | h3
  ·rw [jY j h3,if_neg (by omega),if_neg (by omega)]
   exact h.rest j hj
  ·rw [JJ (by rw [p5,h.len'];exact h3),← h.rest j hj,JJ (by rw [h.len'];exact h3)]
 ·intro y j hj hlt
  exact h.none y j (hsub j hj) hlt
 ·intro j
  exact Nat.le_trans (vM _ _ _ _ _) (h.bd j)
 ·have Ai:=h.few
  simp only [List.length_append,List.length_cons,List.length_nil];rw [jY c hcl,if_pos (.inr rfl)];omega
 ·simp only
  rw [hpl,if_pos rfl,jY c hcl,if_pos (.inr rfl),h1]
theorem Ej {l:List R}{c:Nat}{st:St}{L O N:List Nat}(h:uD l c st L O N) (hc:c<l.length):Ab l (c+1) st L (if (get l c).o=true∧0<lf L c then O++[c] else O) N:=by
 obtain ⟨h,h1⟩:=h;have hb:=h.bd c;have hb1:=h.bd (c+1);have hf:=h.few;have hO:∀ j,j∈(if (get l c).o=true∧0<lf L c then O++[c] else O)↔j∈O∨(j=c∧(get l c).o=true∧0<lf L c):=by
  intro j
  split
  ·rename_i hy
   rw [List.mem_append,List.mem_singleton];exact ⟨fun h=>h.elim .inl fun h=>.inr ⟨h,hy⟩,fun h=>h.elim .inl fun h=>.inr h.1⟩
  ·rename_i hy
   exact ⟨.inl,fun h=>h.elim id fun h=>absurd h.2 hy⟩
 refine ⟨⟨h.len,h.len',h.nlen,?_,?_,?_,fun j hj=>h.rest j (by omega),?_,fun s=>by have:=h.nle s;omega,h.bd,by omega⟩,h.rest (c+1) (by omega),by omega⟩
 ·split
  ·rw [List.pairwise_append]
   refine ⟨h.sorted,by simp,fun a ha b hb=>?_⟩;obtain rfl:b=c:=by simpa using hb
   exact (h.jx ha).1
  ·exact h.sorted
 ·intro j
  rw [hO];constructor
  ·rintro (hj | ⟨rfl,h3,h4⟩)
   ·have:=(h.mem j).1 hj
    exact ⟨by omega,this.2⟩
   ·exact ⟨by omega,h3,by rw [← h1];exact h4⟩
  ·rintro ⟨h3,h4,h5⟩
   rcases Nat.lt_or_eq_of_le (Nat.lt_succ_iff.1 h3) with h6 | rfl
   ·exact .inl ((h.mem j).2 ⟨h6,h4,h5⟩)
   ·exact .inr ⟨rfl,h4,by rw [h1];exact h5⟩
 ·intro j hj
  rcases (hO j).1 hj with h3 | ⟨rfl,_⟩
  ·exact h.left j h3
  ·exact h1
 ·intro y j hj hlt
  rcases (hO j).1 hj with h3 | ⟨rfl,_⟩
  ·exact h.none y j h3 hlt
  ·have:=h.nle (jo y);omega
def hold (l:List R):List R:=l.map fun r=>⟨r.ch,held r.n,r.o,r.c⟩
theorem Nl (l:List R):Held (hold l):=by
 intro r hr;obtain ⟨x,_,rfl⟩:=List.mem_map.1 hr;have:=sP x.n;exact ⟨by simp only;omega,by simp only;omega⟩
theorem Ck (n:Int):held (held n:Int)=held n:=by have:=sP n;unfold held at *;omega
theorem xM (l:List R) (i:Nat):get (hold l) i=⟨(get l i).ch,held (get l i).n,(get l i).o,(get l i).c⟩:=by
 rcases Nat.lt_or_ge i l.length with h | h
 ·rw [get_at (by simpa [hold] using h),get_at h];simp [hold]
 ·simp [get,hold,List.getD,List.getElem?_eq_none h,none_,held];omega
theorem Uo (l:List R) (L:List Nat) (o c:Nat):ok (hold l) L o c=ok l L o c:=by
 unfold ok fits;rw [xM,xM];simp only [Ck]
theorem vV (l:List R) (L:List Nat) (c:Nat):∀ k,opener (hold l) L c k=opener l L c k
 | 0=>rfl
 | k+1=>by unfold opener;rw [Uo,vV l L c k]
theorem vC (l:List R) (c:Nat):∀ (f:Nat) (st:St),cZ (hold l) c f st=cZ l c f st
 | 0,_=>rfl
 | f+1,st=>by
  unfold cZ;rw [vV,xM];simp only
  split
  ·split
   ·rfl
   ·exact vC l c f _
  ·rfl
theorem yQ (l:List R):∀ (k c:Nat) (st:St),outer (hold l) k c st=outer l k c st
 | 0,_,_=>rfl
 | k+1,c,st=>by
  unfold outer inner;rw [vC,yQ l k]
theorem Ih (l:List R):pairs (hold l)=pairs l:=by
 unfold pairs;rw [yQ];have:(hold l).map (fun r=>held r.n)=l.map (fun r=>held r.n):=by simp [hold,Ck]
 rw [this];simp [hold]
end Go.Proofs.YtddkjkockbcamaaGreatDoor.Em
end
section
namespace Go.Proofs.YtddkjkockbcamaaGreatDoor
open Go.RowKit
def FU (b:Nat) (cs:Array Value) (x:Option Part) (l:List Em.R) (vr:Value) (L:List Nat) (vl:Value) (O:List Nat) (vo:Value) (N:List Nat) (vn:Value) (P:List (Nat×Nat×Nat)) (vp:Value):Nat→Option Part
 | 0=>some (.blk b cs 257)
 | 1=>some (.row 240 4 vr l.length (aG l))
 | 2=>some (.row 3 1 vl L.length (aC L))
 | 3=>some (.row 3 1 vo O.length (aC O))
 | 4=>some (.row 3 1 vn N.length (aC N))
 | 5=>some (.row 241 3 vp P.length (iE P))
 | 6=>x
 | _=>none
structure Vs where
 r:Value
 l:Value
 o:Value
 n:Value
 p:Value
def PM (B b:Nat) (x:Option Part) (v:Vs) (l:List Em.R) (L O N:List Nat) (P:List (Nat×Nat×Nat)) (w:World):Prop:=Hp w B (FU b #[v.r,v.l,v.o,v.n,v.p] x l v.r L v.l O v.o N v.n P v.p)
theorem gK {w:World}{B size n:Nat}{E:TypeId}{v:Value}{xs:List Value}(h:w.ownsRow B E size v n xs) (hn:0<n):∃ g c,v=.slice (some ⟨g,0,none⟩) n c∧n≤c∧B≤g∧g<w.heap.size:=by
 rcases h.2 with ⟨_,h0⟩ | ⟨g,c,cur,rfl,hB,hg,hc,_⟩
 ·omega
 ·exact ⟨g,c,rfl,hc,hB,(Array.getElem?_eq_some_iff.1 hg).1⟩
theorem Ec (L:List Nat):(aC L).length=L.length:=by simp [aC]
theorem vu (L:List Nat) (i x:Nat):(aC L).set i (.int .i64 (x:Int))=aC (L.set i x):=by simp [aC,List.map_set]
theorem kN (L:List Nat) (x:Nat):aC (L++[x])=aC L++[.int .i64 (x:Int)]:=by simp [aC]
theorem Ho (L:List Nat) (k:Nat):aC (L.take k)=(aC L).take k:=by simp [aC,List.map_take]
theorem Q1 {w:World}{B g n c:Nat}{E:TypeId}{O:List Nat}(h:w.ownsRow B E 1 (.slice (some ⟨g,0,none⟩) n c) n (aC O)) {k:Nat}(hk:k≤n) (hn:n=O.length):w.ownsRow B E 1 (.slice (some ⟨g,0,none⟩) k c) (O.take k).length (aC (O.take k)):=by
 have hl:(O.take k).length=k:=by rw [List.length_take];omega
 refine ⟨by rw [Ec,Nat.mul_one],?_⟩;rcases h.2 with ⟨h0,_⟩ | ⟨g',c',cur,hv,hB,hg,hc,hm,hs,ht⟩
 ·simp at h0
 ·simp only [Value.slice.injEq,Option.some.injEq,Addr.mk.injEq,and_true,true_and] at hv
  obtain ⟨rfl,rfl⟩:=hv;refine .inr ⟨g,c,cur,by rw [hl],hB,hg,by omega,hm,hs,?_⟩;rw [hl,Ho,← ht,List.take_take];congr 1;omega
theorem Mw {P:Program}{T:TypeId}(hT:P.underlying T=some (.slice (P.elem T))) (size:Nat) (hsz:∀ w,(sizeOf (P.elem T)).run P w=.ok size w) (g n c hi:Nat) {v:Int}(hv:v=(hi:Int)) (h2:hi≤c) (w:World) :
  (Instr.slice T (.slice (some ⟨g,0,none⟩) n c) none (some (.int .i64 v)) none).run P w=.ok (.slice (some ⟨g,0,none⟩) hi c) w:=by
 subst hv;rw [run_slice_h w T (some ⟨g,0,none⟩) n c hT .i64 hi (by omega) (by omega),hsz];simp [sliced,Result.andThen];intro _;unfold Addr.add
 split<;>simp_all
section
variable {B b:Nat}{x:Option Part}{v:Vs}{l:List Em.R}{L O N:List Nat}{P:List (Nat×Nat×Nat)}{w:World}
theorem PM.ext (h:PM B b x v l L O N P w) {u:World}(hb:Below w.heap.size w u):PM B b x v l L O N P u:=Hp.ext h hb
theorem PM.blk (h:PM B b x v l L O N P w):B≤b∧b<w.heap.size∧(∀ j,w.frozen? ⟨b,j,none⟩=false)∧w.cell? ⟨b,0,none⟩=some v.r∧w.cell? ⟨b,1,none⟩=some v.l∧w.cell? ⟨b,2,none⟩=some v.o∧w.cell? ⟨b,3,none⟩=some v.n∧w.cell? ⟨b,4,none⟩=some v.p:=by
 obtain ⟨h1,h2,h3⟩:=Hp.base h (k:=0) rfl;exact ⟨h1,h2,bf h3,ah h3 0,ah h3 1,ah h3 2,ah h3 3,ah h3 4⟩
theorem PM.IK (h:PM B b x v l L O N P w):w.ownsRow B 240 4 v.r l.length (aG l):=Hp.own h (k:=1) rfl
theorem PM.rY (h:PM B b x v l L O N P w):w.ownsRow B 3 1 v.l L.length (aC L):=Hp.own h (k:=2) rfl
theorem PM.zW (h:PM B b x v l L O N P w):w.ownsRow B 3 1 v.o O.length (aC O):=Hp.own h (k:=3) rfl
theorem PM.Y3 (h:PM B b x v l L O N P w):w.ownsRow B 3 1 v.n N.length (aC N):=Hp.own h (k:=4) rfl
theorem PM.Wp (h:PM B b x v l L O N P w):w.ownsRow B 241 3 v.p P.length (iE P):=Hp.own h (k:=5) rfl
theorem PM.Sb (h:PM B b x v l L O N P w) {g c:Nat}(hv:v.l=.slice (some ⟨g,0,none⟩) L.length c) (i y:Nat):PM B b x v l (L.set i y) O N P (w.setCell ⟨g,i,none⟩ (.int .i64 (y:Int))):=by
 have ho:=h.rY;rw [hv] at ho;refine Hp.put (k:=2) h (a:=.row 3 1 v.l L.length (aC L)) (a':=.row 3 1 v.l (L.set i y).length (aC (L.set i y))) rfl (by rw [Part.block,hv];exact ay w ⟨g,i,none⟩ _) ?_ (fun g h=>.inl h) ?_ rfl
 ·show World.ownsRow _ _ _ _ _ _ _
  rw [hv,List.length_set,← vu];exact (ho.stored i _).1
 ·intro j hj
  match j with
  | 0 | 1 | 3 | 4 | 5 | 6=>rfl
  | 2=>exact absurd rfl hj
  | _+7=>rfl
theorem PM.aey (h:PM B b x v l L O N P w) {g c:Nat}(hv:v.n=.slice (some ⟨g,0,none⟩) N.length c) (i y:Nat):PM B b x v l L O (N.set i y) P (w.setCell ⟨g,i,none⟩ (.int .i64 (y:Int))):=by
 have ho:=h.Y3;rw [hv] at ho;refine Hp.put (k:=4) h (a:=.row 3 1 v.n N.length (aC N)) (a':=.row 3 1 v.n (N.set i y).length (aC (N.set i y))) rfl (by rw [Part.block,hv];exact ay w ⟨g,i,none⟩ _) ?_ (fun g h=>.inl h) ?_ rfl
 ·show World.ownsRow _ _ _ _ _ _ _
  rw [hv,List.length_set,← vu];exact (ho.stored i _).1
 ·intro j hj
  match j with
  | 0 | 1 | 2 | 3 | 5 | 6=>rfl
  | 4=>exact absurd rfl hj
  | _+7=>rfl
theorem PM.Yn (h:PM B b x v l L O N P w) {u:World}{O':List Nat}{vo':Value}(hg:w.grownBy u v.o.ownBlock) (ho:u.ownsRow B 3 1 vo' O'.length (aC O')) (hat:At w.heap.size v.o vo') :
  PM B b x ⟨v.r,v.l,vo',v.n,v.p⟩ l L O' N P (u.setCell ⟨b,2,none⟩ vo'):=by
 have h1:Hp u B (FU b #[v.r,v.l,v.o,v.n,v.p] x l v.r L v.l O' vo' N v.n P v.p):=by
  refine Hp.put (k:=3) h (a:=.row 3 1 v.o O.length (aC O)) (a':=.row 3 1 vo' O'.length (aC O')) rfl hg ho hat ?_ rfl;intro j hj
  match j with
  | 0 | 1 | 2 | 4 | 5 | 6=>rfl
  | 3=>exact absurd rfl hj
  | _+7=>rfl
 refine Hp.store (k:=0) (cs:=#[v.r,v.l,v.o,v.n,v.p]) (t:=257) h1 rfl ?_ rfl;intro j hj
 match j with
 | 0=>exact absurd rfl hj
 | 1 | 2 | 3 | 4 | 5 | 6=>rfl
 | _+7=>rfl
theorem PM.aed (h:PM B b x v l L O N P w) {u:World}{P':List (Nat×Nat×Nat)}{vp':Value}(hg:w.grownBy u v.p.ownBlock) (ho:u.ownsRow B 241 3 vp' P'.length (iE P')) (hat:At w.heap.size v.p vp') :
  PM B b x ⟨v.r,v.l,v.o,v.n,vp'⟩ l L O N P' (u.setCell ⟨b,4,none⟩ vp'):=by
 have h1:Hp u B (FU b #[v.r,v.l,v.o,v.n,v.p] x l v.r L v.l O v.o N v.n P' vp'):=by
  refine Hp.put (k:=5) h (a:=.row 241 3 v.p P.length (iE P)) (a':=.row 241 3 vp' P'.length (iE P')) rfl hg ho hat ?_ rfl;intro j hj
  match j with
  | 0 | 1 | 2 | 3 | 4 | 6=>rfl
  | 5=>exact absurd rfl hj
  | _+7=>rfl
 refine Hp.store (k:=0) (cs:=#[v.r,v.l,v.o,v.n,v.p]) (t:=257) h1 rfl ?_ rfl;intro j hj
 match j with
 | 0=>exact absurd rfl hj
 | 1 | 2 | 3 | 4 | 5 | 6=>rfl
 | _+7=>rfl
theorem PM.more (h:PM B b none v l L O N P w) (cs:Array Value) (t:TypeId) (hB:B≤w.heap.size):PM B b (some (.blk w.heap.size cs t)) v l L O N P (w.alloc (.cells cs t)):=by
 refine Hp.more (k:=6) h (a':=.blk w.heap.size cs t) rfl (aa w _) ⟨hB,heap_alloc_new w _⟩ (fun g hg=>?_) ?_ rfl
 ·simp only [Part.block,Option.some.injEq] at hg;omega
 ·intro j hj
  match j with
  | 0 | 1 | 2 | 3 | 4 | 5=>rfl
  | 6=>exact absurd rfl hj
  | _+7=>rfl
theorem PM.less (h:PM B b x v l L O N P w):PM B b none v l L O N P w:=by
 have hk:∀ (k:Nat) a,FU b #[v.r,v.l,v.o,v.n,v.p] none l v.r L v.l O v.o N v.n P v.p k=some a→FU b #[v.r,v.l,v.o,v.n,v.p] x l v.r L v.l O v.o N v.n P v.p k=some a:=by
  intro k a ha
  match k with
  | 0 | 1 | 2 | 3 | 4 | 5=>exact ha
  | 6=>simp [FU] at ha
  | _+7=>simp [FU] at ha
 exact ⟨fun k a ha=>h.holds k a (hk k a ha),fun k k' a a' g h1 h2=>h.apart k k' a a' g (hk k a h1) (hk k' a' h2)⟩
theorem PM.extra {gx:Nat}{cs:Array Value}{t:TypeId}(h:PM B b (some (.blk gx cs t)) v l L O N P w):w.heap[gx]? = some (.cells cs t (0,0)):=(Hp.base h (k:=6) rfl).2.2
end
end Go.Proofs.YtddkjkockbcamaaGreatDoor
end
section
namespace Go.Proofs.YtddkjkockbcamaaGreatDoor
open Go.RowKit
theorem K8 {n:Int}(h0:0≤n):n.tmod 3=n%3:=Int.tmod_eq_emod_of_nonneg h0
theorem PD (x y:Em.R) (hx:0≤x.n∧x.n≤100) (hy:0≤y.n∧y.n≤100) (w:World) :
  Calls Tryz.prog 249 #[yh x,yh y] w fun e w'=>e=.returned (.bool (Em.kj x y))∧Below w.heap.size w w':=by
 obtain ⟨F,hF⟩:∃ F,F=Em.kj x y:=⟨_,rfl⟩
 rw [← hF];obtain ⟨xc,xn,xo,xx⟩:=x;obtain ⟨yc,yn,yo,yx⟩:=y;unfold Em.kj at hF;simp only at hF hx hy;have e1:=K8 hx.1;have e2:=K8 hy.1;have e3:=K8 (n:=xn+yn) (by omega);have e4:IntKind.i64.wrap (xn+yn)=xn+yn:=by rw [IntKind.wrap_i64];omega
 have hb:=Lib.hid (ag (aa w (.cells #[.int .u8 (xc.toNat:Int),.int .i64 xn,.bool xo,.bool xx] 240)) (aa _ (.cells #[.int .u8 (yc.toNat:Int),.int .i64 yn,.bool yo,.bool yx] 240)));obtain ⟨A,hA⟩:∃ A,(xn%3==0)=A:=⟨_,rfl⟩
 obtain ⟨B,hB⟩:∃ B,(yn%3==0)=B:=⟨_,rfl⟩
 obtain ⟨S,hS⟩:∃ S,((xn+yn)%3 != 0)=S:=⟨_,rfl⟩
 rw [hA,hB,hS] at hF;obtain ⟨a,ha⟩:∃ a,xn%3=a:=⟨_,rfl⟩
 obtain ⟨b,kr⟩:∃ b,yn%3=b:=⟨_,rfl⟩
 obtain ⟨s,hs⟩:∃ s,(xn+yn)%3=s:=⟨_,rfl⟩
 rw [ha] at e1 hA;rw [kr] at e2 hB;rw [hs] at e3 hS;clear ha kr hs;replace hF:=Lib.hid hF;unfold yh;simp only
 by_cases hc:xc=yc
 ·have t0:((xc.toNat:Int) != (yc.toNat:Int))=false:=by rw [hc];simp
  have hF2:Hid (F=((A&&B)||!(xx||yo)||S)):=Lib.hid (by rw [hF.out,hc];simp);clear hF hc;cases A<;>cases B<;>cases xx<;>cases yo
  all_goals
   go_enter Tryz.func249,Tryz.ntmps249;go_wp2_with fail;go_ret;exact ⟨by rw [hF2.out];rfl,hb.out⟩
 ·have t0:((xc.toNat:Int) != (yc.toNat:Int))=true:=by
   have:=gz hc;simp only [bne,this];rfl
  have hF2:Hid (F=false):=Lib.hid (by
   have:(xc==yc)=false:=by simpa using hc
   rw [hF.out,this];rfl)
  clear hF hc;go_enter Tryz.func249,Tryz.ntmps249;go_wp2_with fail;go_ret;exact ⟨by rw [hF2.out];rfl,hb.out⟩
theorem NC (y:Em.R) (hy:0≤y.n∧y.n≤100) (w:World) :
  Calls Tryz.prog 248 #[yh y] w fun e w'=>e=.returned (.int .i64 (Em.jo y:Nat))∧Below w.heap.size w w':=by
 obtain ⟨F,hF⟩:∃ F,F=Em.jo y:=⟨_,rfl⟩
 rw [← hF];obtain ⟨yc,yn,yo,yx⟩:=y;unfold Em.jo at hF;simp only at hF hy;have hlt:=yc.toNat_lt;have e2:=K8 hy.1;have hb:=Lib.hid (aa w (.cells #[.int .u8 (yc.toNat:Int),.int .i64 yn,.bool yo,.bool yx] 240));obtain ⟨b,kr⟩:∃ b:Nat,yn%3=(b:Int):=⟨(yn%3).toNat,by omega⟩
 have hb3:b<3:=by omega
 rw [kr] at e2 hF;unfold yh;simp only;generalize yc.toNat=k at *;have CG:Hid (yo=true→F=k*6+b+3):=Lib.hid (by
  rintro rfl;rw [hF];simp)
 have Zy:Hid (yo=false→F=k*6+b):=Lib.hid (by
  rintro rfl;rw [hF];simp)
 clear hF kr;cases yo
 ·have hF2:=Lib.hid (Nat.le_antisymm_iff.1 (Zy.out rfl))
  clear Zy CG;go_enter Tryz.func248,Tryz.ntmps248;go_wp2_with fail;go_ret;exact ⟨nr (by have:=hF2.out;omega),hb.out⟩
 ·have hF2:=Lib.hid (Nat.le_antisymm_iff.1 (CG.out rfl))
  clear Zy CG;go_enter Tryz.func248,Tryz.ntmps248;go_wp2_with fail;go_ret;exact ⟨nr (by have:=hF2.out;omega),hb.out⟩
end Go.Proofs.YtddkjkockbcamaaGreatDoor
end
