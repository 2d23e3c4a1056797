/- EmMath RnIter EmJudge EsMath LkMath IlMath EmMath2 RnRunes EsRef LkRef LkRef2 LkRef3 RuFold RnTextR EsStead -/
import Derived.Test.YtddkjkockbcamaaGreatDoorHw03
import Derived.Test.YtddkjkockbcamaaGreatDoorHw01
import Derived.Laws.Cover4
import Derived.Lib.OthersKept
import Derived.Laws.OwnMore
set_option maxHeartbeats 16000000
set_option maxRecDepth 100000
namespace Go.Proofs.YtddkjkockbcamaaGreatDoor.Em
structure R where
 ch:UInt8
 n:Int
 o:Bool
 c:Bool
deriving DecidableEq
def none_:R:=⟨0,0,false,false⟩
def get (l:List R) (i:Nat):R:=l.getD i none_
theorem get_at {l:List R}{i:Nat}(h:i<l.length):get l i=l[i]:=by simp [get,List.getD,List.getElem?_eq_getElem h]
def held (n:Int):Nat:=(max (min n 100) 0).toNat
theorem sP (n:Int):held n≤100:=by unfold held;omega
def fits (x y:R):Bool:=(held x.n%3==0&&held y.n%3==0)||!((x.o&&x.c||y.o&&y.c)&&(held x.n+held y.n)%3==0)
def lf (L:List Nat) (i:Nat):Nat:=L.getD i 0
theorem rX {L:List Nat}{i:Nat}(h:i<L.length):lf L i=L[i]:=by simp [lf,List.getD,List.getElem?_eq_getElem h]
def ok (l:List R) (L:List Nat) (o c:Nat):Bool:=(get l o).o&&(get l o).ch==(get l c).ch&&decide (0<lf L o)&&fits (get l o) (get l c)
def opener (l:List R) (L:List Nat) (c:Nat):Nat→Option Nat
 | 0=>none
 | k+1=>if ok l L k c=true then some k else opener l L c k
theorem yN {l:List R}{L:List Nat}{c k:Nat}(h:ok l L k c=true):opener l L c (k+1)=some k:=by unfold opener;rw [if_pos h]
theorem tI {l:List R}{L:List Nat}{c k:Nat}(h:ok l L k c=false):opener l L c (k+1)=opener l L c k:=by
 conv=>lhs;unfold opener
 rw [if_neg (by rw [h];decide)]
theorem pF {l:List R}{L:List Nat}{c o:Nat}:∀ k,opener l L c k=some o→o<k∧ok l L o c=true
 | 0,h=>by simp [opener] at h
 | k+1,h=>by
  cases hk:ok l L k c with
  | true=>rw [yN hk] at h;injection h with h;subst h;exact ⟨by omega,hk⟩
  | false=>rw [tI hk] at h;have:=pF k h;exact ⟨by omega,this.2⟩
def lower (L:List Nat) (o c s:Nat):List Nat:=L.mapIdx fun i x=>if i=o∨i=c then x-s else if o<i∧i<c then 0 else x
theorem p5 (L:List Nat) (o c s:Nat):(lower L o c s).length=L.length:=by simp [lower]
theorem l8 {L:List Nat}{o c s i:Nat}(h:i<L.length):lf (lower L o c s) i=if i=o∨i=c then lf L i-s else if o<i∧i<c then 0 else lf L i:=by
 simp only [lf,List.getD,lower,List.getElem?_mapIdx,List.getElem?_eq_getElem h,Option.map_some,Option.getD_some]
def size (L:List Nat) (o c:Nat):Nat:=if 1<lf L o∧1<lf L c then 2 else 1
abbrev St:=List Nat×List (Nat×Nat×Nat)
def cZ (l:List R) (c:Nat):Nat→St→St
 | 0,st=>st
 | f+1,st =>
  if (get l c).c=true∧0<lf st.1 c then
   match opener l st.1 c c with
   | none=>st
   | some o=>cZ l c f (lower st.1 o c (size st.1 o c),st.2++[(o,c,size st.1 o c)])
  else st
def inner (l:List R) (c:Nat) (st:St):St:=cZ l c (lf st.1 c) st
theorem size_pos (L:List Nat) (o c:Nat):1≤size L o c∧size L o c≤2:=by unfold size;split<;>omega
theorem size_le {L:List Nat}{o c:Nat}(ho:0<lf L o) (hc:0<lf L c):size L o c≤lf L o∧size L o c≤lf L c:=by unfold size;split<;>omega
theorem uB {L:List Nat}{c:Nat}(h:0<lf L c):c<L.length:=by
 rcases Nat.lt_or_ge c L.length with h1 | h1
 ·exact h1
 ·simp [lf,List.getD,List.getElem?_eq_none h1] at h
theorem qR {L:List Nat}{o c s:Nat}(h:0<lf L c):lf (lower L o c s) c=lf L c-s:=by rw [l8 (uB h),if_pos (.inr rfl)]
theorem ve (l:List R) (c:Nat):∀ (f g:Nat) (st:St),lf st.1 c≤f→lf st.1 c≤g→cZ l c f st=cZ l c g st
 | 0,0,_,_,_=>rfl
 | 0,g+1,st,h,_=>by unfold cZ;rw [if_neg (by omega)]
 | f+1,0,st,_,h=>by unfold cZ;rw [if_neg (by omega)]
 | f+1,g+1,st,hf,hg=>by
  unfold cZ
  by_cases h:(get l c).c=true∧0<lf st.1 c
  ·rw [if_pos h,if_pos h]
   cases ho:opener l st.1 c c with
   | none=>rfl
   | some o =>
    have h1:=qR (o:=o) (s:=size st.1 o c) h.2;have h2:=size_pos st.1 o c;exact ve l c f g _ (by simp only;omega) (by simp only;omega)
  ·rw [if_neg h,if_neg h]
theorem rz {l:List R}{c:Nat}{st:St}(h:¬ ((get l c).c=true∧0<lf st.1 c)):inner l c st=st:=by
 unfold inner;cases lf st.1 c with
 | zero=>rfl
 | succ f=>unfold cZ;rw [if_neg h]
theorem JU {l:List R}{c:Nat}{st:St}(h:opener l st.1 c c=none):inner l c st=st:=by
 by_cases hc:(get l c).c=true∧0<lf st.1 c
 ·unfold inner
  obtain ⟨f,hf⟩:∃ f,lf st.1 c=f+1:=⟨lf st.1 c-1,by omega⟩
  rw [hf];unfold cZ;rw [if_pos hc,h]
 ·exact rz hc
theorem Jh {l:List R}{c o:Nat}{st:St}(hc:(get l c).c=true) (hl:0<lf st.1 c) (h:opener l st.1 c c=some o) :
  inner l c st=inner l c (lower st.1 o c (size st.1 o c),st.2++[(o,c,size st.1 o c)]):=by
 obtain ⟨f,hf⟩:∃ f,lf st.1 c=f+1:=⟨lf st.1 c-1,by omega⟩
 unfold inner;rw [hf]
 conv=>lhs;unfold cZ
 rw [if_pos ⟨hc,hl⟩,h];have h1:=qR (o:=o) (s:=size st.1 o c) hl;have h2:=size_pos st.1 o c;exact ve l c f _ _ (by simp only;omega) (Nat.le_refl _)
def outer (l:List R):Nat→Nat→St→St
 | 0,_,st=>st
 | k+1,c,st=>outer l k (c+1) (inner l c st)
def pairs (l:List R):List (Nat×Nat×Nat):=(outer l l.length 0 (l.map (fun r=>held r.n),[])).2
def used (out:List (Nat×Nat×Nat)) (i:Nat):Nat:=(out.map fun x=>(if x.1=i then x.2.2 else 0)+if x.2.1=i then x.2.2 else 0).sum
theorem jM (out:List (Nat×Nat×Nat)) (x:Nat×Nat×Nat) (i:Nat):used (out++[x]) i=used out i+((if x.1=i then x.2.2 else 0)+if x.2.1=i then x.2.2 else 0):=by simp [used]
def apart (y x:Nat×Nat×Nat):Prop:=¬ (y.1<x.1∧x.1<y.2.1∧y.2.1<x.2.1)∧¬ (x.1<y.1∧y.1<x.2.1∧x.2.1<y.2.1)
structure Inv (l:List R) (c:Nat) (st:St):Prop where
 len:st.1.length=l.length
 good:∀ x∈st.2,x.1<x.2.1∧x.2.1≤c∧x.2.1<l.length∧1≤x.2.2∧x.2.2≤2∧(get l x.1).o=true∧(get l x.2.1).c=true∧(get l x.1).ch=(get l x.2.1).ch
 zero:∀ x∈st.2,∀ i,x.1<i→i<x.2.1→lf st.1 i=0
 sum:∀ i,i<l.length→used st.2 i+lf st.1 i≤held (get l i).n
 cross:st.2.Pairwise apart
theorem GC {l:List R}{c:Nat}{st:St}(h:Inv l c st):Inv l (c+1) st :=
 ⟨h.len,fun x hx=>by have:=h.good x hx;exact ⟨this.1,by omega,this.2.2⟩,h.zero,h.sum,h.cross⟩
theorem Eu {l:List R}{c o:Nat}{st:St}(h:Inv l c st) (hc:(get l c).c=true) (hl:0<lf st.1 c) (ho:opener l st.1 c c=some o) :
  Inv l c (lower st.1 o c (size st.1 o c),st.2++[(o,c,size st.1 o c)]):=by
 obtain ⟨hoc,hok⟩:=pF _ ho;simp only [ok,Bool.and_eq_true,decide_eq_true_eq,beq_iff_eq] at hok;obtain ⟨⟨⟨ho1,ho2⟩,Xj⟩,_⟩:=hok;have hcl:=uB hl;have hs:=size_pos st.1 o c;have qm:=size_le Xj hl;obtain ⟨s,hse⟩:∃ s,s=size st.1 o c:=⟨_,rfl⟩
 rw [← hse] at hs qm ⊢;have hlen:=h.len;refine ⟨by rw [p5];exact h.len,?_,?_,?_,?_⟩
 ·intro x hx
  rcases List.mem_append.1 hx with hx | hx
  ·exact h.good x hx
  ·obtain rfl:x=(o,c,s):=by simpa using hx
   exact ⟨hoc,Nat.le_refl _,show c<l.length by omega,hs.1,hs.2,ho1,hc,ho2⟩
 ·intro x hx i h1 h2
  rcases List.mem_append.1 hx with hx | hx
  ·have hz:=h.zero x hx i h1 h2
   have hg:=h.good x hx;simp only;rw [l8 (by omega)]
   split
   ·omega
   ·split
    ·rfl
    ·exact hz
  ·obtain rfl:x=(o,c,s):=by simpa using hx
   simp only at h1 h2 ⊢;rw [l8 (by omega),if_neg (by omega),if_pos ⟨h1,h2⟩]
 ·intro i hi
  have hsum:=h.sum i hi;simp only;rw [jM,l8 (by omega)];simp only
  by_cases h1:o=i
  ·subst h1
   rw [if_pos rfl,if_neg (by omega),if_pos (.inl rfl)];omega
  ·by_cases h2:c=i
   ·subst h2
    rw [if_neg h1,if_pos rfl,if_pos (.inr rfl)];omega
   ·rw [if_neg h1,if_neg h2,if_neg (by omega)]
    split
    ·omega
    ·omega
 ·simp only
  rw [List.pairwise_append];refine ⟨h.cross,by simp,fun y hy x hx=>?_⟩;obtain rfl:x=(o,c,s):=by simpa using hx
  have hg:=h.good y hy;refine ⟨fun ⟨h1,h2,h3⟩=>?_,fun ⟨h1,h2,h3⟩=>?_⟩
  ·have:=h.zero y hy o h1 h2
   omega
  ·simp only at h3;omega
theorem rD {l:List R}{c:Nat}:∀ (f:Nat) (st:St),Inv l c st→Inv l c (cZ l c f st)
 | 0,_,h=>h
 | f+1,st,h=>by
  unfold cZ
  split
  ·rename_i hc
   split
   ·exact h
   ·rename_i o ho
    exact rD f _ (Eu h hc.1 hc.2 ho)
  ·exact h
theorem AM {l:List R}:∀ (k c:Nat) (st:St),Inv l c st→Inv l (c+k) (outer l k c st)
 | 0,_,_,h=>h
 | k+1,c,st,h=>by
  have:=AM k (c+1) _ (GC (rD (lf st.1 c) st h));rw [show c+(k+1)=c+1+k by omega];exact this
theorem pW (l:List R):Inv l l.length (outer l l.length 0 (l.map (fun r=>held r.n),[])):=by
 have h0:Inv l 0 (l.map (fun r=>held r.n),[]):=by
  refine ⟨by simp,by simp,by simp,fun i hi=>?_,List.Pairwise.nil⟩;simp only [used,List.map_nil,List.sum_nil,Nat.zero_add];rw [rX (by simpa using hi),List.getElem_map,get_at hi];exact Nat.le_refl _
 have:=AM l.length 0 _ h0;rwa [Nat.zero_add] at this
theorem vM (L:List Nat) (o c s i:Nat):lf (lower L o c s) i≤lf L i:=by
 rcases Nat.lt_or_ge i L.length with h | h
 ·rw [l8 h]
  split
  ·omega
  ·split
   ·omega
   ·exact Nat.le_refl _
 ·simp [lf,List.getD,List.getElem?_eq_none (show (lower L o c s).length≤i by rw [p5];exact h)]
def Bd (c:Nat) (st:St):Prop:=(∀ i,lf st.1 i≤100)∧st.2.length≤100*c
def Bi (c:Nat) (st:St):Prop:=(∀ i,lf st.1 i≤100)∧st.2.length+lf st.1 c≤100*(c+1)
theorem abJ {c:Nat}{st:St}(h:Bd c st):Bi c st:=⟨h.1,by have:=h.1 c;have:=h.2;omega⟩
theorem Zl {c:Nat}{st:St}(h:Bi c st):Bd (c+1) st:=⟨h.1,by have:=h.2;omega⟩
theorem WE {c o:Nat}{st:St}(h:Bi c st) (hl:0<lf st.1 c):Bi c (lower st.1 o c (size st.1 o c),st.2++[(o,c,size st.1 o c)]):=by
 have h1:=qR (o:=o) (s:=size st.1 o c) hl;have h2:=size_pos st.1 o c;have h3:=h.2;refine ⟨fun i=>Nat.le_trans (vM _ _ _ _ _) (h.1 i),?_⟩;simp only [List.length_append,List.length_cons,List.length_nil];omega
theorem B3 {l:List R}{c:Nat}:∀ (f:Nat) (st:St),Bi c st→Bi c (cZ l c f st)
 | 0,_,h=>h
 | f+1,st,h=>by
  unfold cZ
  split
  ·rename_i hc
   split
   ·exact h
   ·rename_i o ho
    exact B3 f _ (WE h hc.2)
  ·exact h
theorem Hs {l:List R}:∀ (k c:Nat) (st:St),Bd c st→Bd (c+k) (outer l k c st)
 | 0,_,_,h=>h
 | k+1,c,st,h=>by
  have:=Hs (l:=l) k (c+1) _ (Zl (B3 (l:=l) (lf st.1 c) st (abJ h)));rw [show c+(k+1)=c+1+k by omega];exact this
theorem xI (l:List R):(pairs l).length≤100*l.length:=by
 have h0:Bd 0 (l.map (fun r=>held r.n),[]):=by
  refine ⟨fun i=>?_,by simp⟩;rcases Nat.lt_or_ge i l.length with h | h
  ·rw [rX (by simpa using h),List.getElem_map];exact sP _
  ·simp [lf,List.getD,List.getElem?_eq_none h]
 have:=(Hs (l:=l) l.length 0 _ h0).2;rwa [Nat.zero_add] at this
end Go.Proofs.YtddkjkockbcamaaGreatDoor.Em
namespace Go.Proofs.YtddkjkockbcamaaGreatDoor
open Go.RowKit
def oK (X:List Nat):List Value:=X.map fun x:Nat=>.int .i32 (x:Int)
theorem dx {l:List UInt8}{pos:Nat}(h:pos<l.length) {D:List Nat}(hD:D++Ru.aS (l.drop pos)=Ru.aS l) :
    ∃ x k:Nat,1≤k∧Ru.vr x∧Utf8.decode (bs l) pos=(x,k)∧(D++[x])++Ru.aS (l.drop (pos+k))=Ru.aS l:=by
  have hd:=decodeL_drop' l pos
  refine ⟨(Utf8.decode (bs l) pos).1,(Utf8.decode (bs l) pos).2,?_,?_,rfl,?_⟩
  · rw [← hd];exact Lib.decodeL_width _
  · rw [← hd];exact Ru.qJ _
  · rw [← hD,Ru.Gp h,List.append_assoc];rfl
where decodeL_drop' (l:List UInt8) (pos:Nat):Lib.decodeL (l.drop pos)=Utf8.decode (bs l) pos:=by
        have:=Lib.decodeL_drop (bs l) pos
        simpa [bs] using this
theorem bQ {w:World}{k:Nat}{l:List UInt8}{pos x n:Nat}(hk:w.heap[k]? = some (.stringIter (bs l) pos)) (h:pos<l.length) (hd:Utf8.decode (bs l) pos=(x,n)) (ty:TypeId) :
    (Instr.next (.pointer (some ⟨k,0,none⟩)) true ty).run Tryz.prog w=.ok (.tuple #[.bool true,.int .i64 pos,.int .i32 (x:Int)]) (w.iterAt k (bs l) (pos+n)):=by
  rw [Lib.run_next_any_at w k (bs l) pos ty hk (by rw [au];exact h),hd]
theorem cq {w:World}{k:Nat}{l:List UInt8}{pos:Nat}(hk:w.heap[k]? = some (.stringIter (bs l) pos)) (h:¬ pos<l.length) (ty:TypeId) :
    (Instr.next (.pointer (some ⟨k,0,none⟩)) true ty).run Tryz.prog w=.ok (.tuple #[.bool false]) w :=
  Lib.run_next_end_at w k (bs l) pos ty hk (by rw [au];exact h)
theorem nJ {l:List UInt8}{pos:Nat}(h:¬ pos<l.length) {D:List Nat}(hD:D++Ru.aS (l.drop pos)=Ru.aS l):D=Ru.aS l:=by
  rw [List.drop_eq_nil_of_le (by omega),Ru.iC,List.append_nil] at hD;exact hD
theorem nK {l:List UInt8}{pos:Nat}{D:List Nat}(hD:D++Ru.aS (l.drop pos)=Ru.aS l):D.length≤l.length:=by
  have h1:=congrArg List.length hD
  have h2:=Ru.lU l
  rw [List.length_append] at h1;omega
theorem j9 (w:World) (l:List UInt8) (o:Obj) (ho:o=.stringIter (bs l) 0):(w.alloc o).heap[w.heap.size]? = some (.stringIter (bs l) 0):=by
  subst ho;exact heap_alloc_new w _
end Go.Proofs.YtddkjkockbcamaaGreatDoor
namespace Go.Proofs.YtddkjkockbcamaaGreatDoor.Em
open Go.Lib Ru
def ahead (l:List UInt8) (k:Nat):Nat:=(aS (l.take k)).getLastD 32
def behind (l:List UInt8) (k:Nat):Nat:=if k<l.length then (decodeL (l.drop k)).1 else 32
theorem Mo {l:List UInt8}{k:Nat}(h:k<l.length):behind l k=(decodeL (l.drop k)).1:=by unfold behind;rw [if_pos h]
theorem Ku {l:List UInt8}{k:Nat}(h:¬ k<l.length):behind l k=32:=by unfold behind;rw [if_neg h]
def jn (b a:Nat):Bool:=!dP a&&(!gP a||dP b||gP b)
def qv (c:UInt8) (n b a:Nat):R :=
 if c=95 then ⟨c,n,jn b a&&(!jn a b||gP b),jn a b&&(!jn b a||gP a)⟩ else ⟨c,n,jn b a,jn a b⟩
def starts (l:List UInt8) (at_:Int):Bool :=
 decide (0≤at_∧at_.toNat<l.length∧(l.getD at_.toNat 0=42∨l.getD at_.toNat 0=95)∧(at_=0∨l.getD (at_.toNat-1) 0≠l.getD at_.toNat 0))
def kind (l:List UInt8) (at_:Int):Option (R×Nat) :=
 if starts l at_=true then
  some (qv (l.getD at_.toNat 0) (Fn.run (l.getD at_.toNat 0) (l.drop at_.toNat)) (ahead l at_.toNat) (behind l (at_.toNat+Fn.run (l.getD at_.toNat 0) (l.drop at_.toNat))),at_.toNat+Fn.run (l.getD at_.toNat 0) (l.drop at_.toNat))
 else none
theorem Gb {l:List UInt8}{at_:Int}(h:starts l at_=false):kind l at_=none:=by unfold kind;rw [if_neg (by rw [h];decide)]
theorem getD_at {l:List UInt8}{k:Nat}(h:k<l.length):l.getD k 0=l[k]:=by simp [List.getD,List.getElem?_eq_getElem h]
theorem zq {l:List UInt8}{k:Nat}(h:k<l.length) (h1:l[k]=42∨l[k]=95) (h2:k=0∨∃ h3:k-1<l.length,l[k-1]≠l[k]):starts l (k:Int)=true:=by
 unfold starts;refine decide_eq_true ⟨by omega,h,?_,?_⟩
 ·rw [show ((k:Int)).toNat=k from by omega,getD_at h];exact h1
 ·rw [show ((k:Int)).toNat=k from by omega,getD_at h]
  rcases h2 with h2 | ⟨h3,h2⟩
  ·exact .inl (by omega)
  ·exact .inr (by rw [getD_at h3];exact h2)
theorem iH {l:List UInt8}{at_:Int}(h:at_<0∨(l.length:Int)≤at_∨(∃ h:at_.toNat<l.length,l[at_.toNat]≠42∧l[at_.toNat]≠95)∨(0<at_∧∃ h:at_.toNat<l.length,l[at_.toNat-1]=l[at_.toNat])):starts l at_=false:=by
 unfold starts;refine decide_eq_false ?_;rintro ⟨h1,h2,h3,h4⟩;rw [getD_at h2] at h3 h4;rcases h with h | h | ⟨_,h,h'⟩ | ⟨h0,_,h⟩
 ·omega
 ·omega
 ·rcases h3 with h3 | h3
  ·exact h h3
  ·exact h' h3
 ·rcases h4 with h4 | h4
  ·omega
  ·rw [getD_at (by omega)] at h4;exact h4 h
theorem WJ {l:List UInt8}{k:Nat}(h:k<l.length) (hs:starts l (k:Int)=true) :
  kind l (k:Int)=some (qv l[k] (Fn.run l[k] (l.drop k)) (ahead l k) (behind l (k+Fn.run l[k] (l.drop k))),k+Fn.run l[k] (l.drop k)):=by
 unfold kind;rw [if_pos hs,show ((k:Int)).toNat=k from by omega,getD_at h]
theorem WU {l:List UInt8}{k:Nat}(h:k<l.length):1≤Fn.run l[k] (l.drop k):=by rw [Fn.jS h rfl];omega
theorem aaa {l:List UInt8}{k:Nat}(h:k<l.length) (c:UInt8):k+Fn.run c (l.drop k)≤l.length:=by
 have:=Fn.gE c (l.drop k);rw [List.length_drop] at this;omega
end Go.Proofs.YtddkjkockbcamaaGreatDoor.Em
namespace Go.Proofs.YtddkjkockbcamaaGreatDoor.Es
open Go.Lib Ru
def O8 (b:UInt8):Bool:=gI (b.toNat:Int)
theorem KX (b:UInt8):O8 b=true↔(33≤b.toNat∧b.toNat≤47)∨(58≤b.toNat∧b.toNat≤64)∨(91≤b.toNat∧b.toNat≤96)∨(123≤b.toNat∧b.toNat≤126):=by
 unfold O8 gI;rw [decide_eq_true_iff];omega
theorem QS {b:UInt8}(h:O8 b=true):b.toNat<128:=by rw [KX] at h;omega
theorem Tx {b:UInt8}(h:128≤b.toNat):O8 b=false:=by
 cases he:O8 b with
 | false=>rfl
 | true=>have:=QS he;omega
def dR:List UInt8→Bool
 | a::b::_=>a==92&&O8 b
 | _=>false
def step (l:List UInt8):Nat×Nat×Bool :=
 if dR l=true then ((l.getD 1 0).toNat,2,true) else ((decodeL l).1,(decodeL l).2,false)
theorem lS {l:List UInt8}(h:dR l=true):step l=((l.getD 1 0).toNat,2,true):=by unfold step;rw [if_pos h]
theorem kG {l:List UInt8}(h:dR l=false):step l=((decodeL l).1,(decodeL l).2,false):=by unfold step;rw [if_neg (by rw [h];decide)]
theorem OK {l:List UInt8}(h:dR l=true):2≤l.length:=by
 match l,h with
 | [],h=>simp [dR] at h
 | [_],h=>simp [dR] at h
 | _::_::_,_=>simp
theorem B8 {l:List UInt8}(h:dR l=true):O8 (l.getD 1 0)=true:=by
 match l,h with
 | [],h=>simp [dR] at h
 | [_],h=>simp [dR] at h
 | a::b::r,h=>simp only [dR,Bool.and_eq_true] at h;exact h.2
theorem step_pos (l:List UInt8):1≤(step l).2.1:=by
 cases h:dR l with
 | true=>rw [lS h];simp
 | false=>rw [kG h];exact decodeL_width l
theorem r8 {l:List UInt8}(hl:l≠[]):(step l).2.1≤l.length:=by
 cases h:dR l with
 | true=>rw [lS h];exact OK h
 | false=>rw [kG h];exact decodeL_le l hl
theorem We (l:List UInt8):vr (step l).1:=by
 cases h:dR l with
 | true=>rw [lS h];have:=QS (B8 h);unfold vr;simp only;omega
 | false=>rw [kG h];exact qJ l
def oH:Nat→List UInt8→List Nat
 | 0,_=>[]
 | f+1,l=>if l=[] then [] else (step l).1::oH f (l.drop (step l).2.1)
def plain (l:List UInt8):List Nat:=oH l.length l
theorem vW:∀ (f g:Nat) (l:List UInt8),l.length≤f→l.length≤g→oH f l=oH g l
 | 0,0,_,_,_=>rfl
 | 0,g+1,l,h,_=>by
  have:l=[]:=List.eq_nil_of_length_eq_zero (by omega);simp [oH,this]
 | f+1,0,l,_,h=>by
  have:l=[]:=List.eq_nil_of_length_eq_zero (by omega);simp [oH,this]
 | f+1,g+1,l,hf,hg=>by
  unfold oH
  by_cases h:l=[]
  ·simp [h]
  ·have hl:0<l.length:=List.length_pos_iff.2 h
   have hw:=step_pos l;simp only [h,if_false];rw [vW f g _ (by rw [List.length_drop];omega) (by rw [List.length_drop];omega)]
theorem Be:plain []=[]:=rfl
theorem zv {l:List UInt8}(h:l≠[]):plain l=(step l).1::plain (l.drop (step l).2.1):=by
 have hl:0<l.length:=List.length_pos_iff.2 h;have hw:=step_pos l;obtain ⟨n,hn⟩:∃ n,l.length=n+1:=⟨l.length-1,by omega⟩
 unfold plain;rw [hn]
 conv=>lhs;unfold oH
 simp only [h,if_false];rw [vW n _ _ (by rw [List.length_drop];omega) (Nat.le_refl _)]
theorem SO {P:List UInt8→Prop}(h0:P []) (h1:∀ l,l≠[]→P (l.drop (step l).2.1)→P l):∀ l,P l:=by
 have:∀ (n:Nat) (l:List UInt8),l.length≤n→P l:=by
  intro n
  induction n with
  | zero=>intro l hl;have:l=[]:=List.eq_nil_of_length_eq_zero (by omega);rw [this];exact h0
  | succ n ih =>
   intro l hl
   by_cases h:l=[]
   ·rw [h];exact h0
   ·have hp:0<l.length:=List.length_pos_iff.2 h
    have hw:=step_pos l;exact h1 l h (ih _ (by rw [List.length_drop];omega))
 exact fun l=>this _ l (Nat.le_refl _)
theorem OL:∀ l,(plain l).length≤l.length:=by
 refine SO (by simp [Be]) ?_;intro l h ih;have hp:0<l.length:=List.length_pos_iff.2 h;have hw:=step_pos l;rw [zv h,List.length_cons];rw [List.length_drop] at ih;omega
def next (l:List UInt8) (at_:Nat):Nat×Nat×Bool :=
 if at_<l.length then ((step (l.drop at_)).1,at_+(step (l.drop at_)).2.1,(step (l.drop at_)).2.2) else (0,l.length,false)
theorem jt {l:List UInt8}{k:Nat}(h:k<l.length):next l k=((step (l.drop k)).1,k+(step (l.drop k)).2.1,(step (l.drop k)).2.2):=by unfold next;rw [if_pos h]
theorem GL {l:List UInt8}{k:Nat}(h:l.length≤k):next l k=(0,l.length,false):=by unfold next;rw [if_neg (by omega)]
theorem CN {l:List UInt8}{k:Nat}(h:k<l.length):l.drop k≠[]:=by
 intro h0;have:=congrArg List.length h0;rw [List.length_drop] at this;simp at this;omega
theorem fj {l:List UInt8}{k:Nat}(h:k<l.length):k<(next l k).2.1∧(next l k).2.1≤l.length:=by
 rw [jt h];have h1:=step_pos (l.drop k);have h2:=r8 (CN h);rw [List.length_drop] at h2;simp only;omega
theorem KQ (l:List UInt8) (k:Nat):vr (next l k).1:=by
 by_cases hk:k<l.length
 ·rw [jt hk];exact We _
 ·rw [GL (by omega)];unfold vr;simp
theorem TF {l:List UInt8}{k:Nat}(h:k<l.length):plain (l.drop k)=(next l k).1::plain (l.drop (next l k).2.1):=by
 rw [zv (CN h),jt h,List.drop_drop]
def kH (b:UInt8):List UInt8 :=
 if b=38 then [38,97,109,112,59] else if b=60 then [38,108,116,59] else if b=62 then [38,103,116,59] else if b=34 then [38,113,117,111,116,59] else [b]
def page (l:List UInt8):List UInt8:=l.flatMap kH
theorem S9:page []=[]:=rfl
theorem Mu (b:UInt8) (l:List UInt8):page (b::l)=kH b++page l:=rfl
theorem MD (b:UInt8):1≤(kH b).length∧(kH b).length≤6:=by
 unfold kH
 repeat' split
 all_goals simp
theorem iY (l:List UInt8):l.length≤(page l).length∧(page l).length≤6*l.length:=by
 induction l with
 | nil=>simp [S9]
 | cons b l ih =>
  have:=MD b;rw [Mu,List.length_append,List.length_cons];omega
theorem NH (c:UInt8):∀ b∈kH c,b≠60∧b≠62∧b≠34:=by
 unfold kH;intro b hb
 repeat' split at hb
 all_goals (simp only [List.mem_cons,List.not_mem_nil,or_false] at hb)
 ·rcases hb with rfl | rfl | rfl | rfl | rfl<;>decide
 ·rcases hb with rfl | rfl | rfl | rfl<;>decide
 ·rcases hb with rfl | rfl | rfl | rfl<;>decide
 ·rcases hb with rfl | rfl | rfl | rfl | rfl | rfl<;>decide
 ·subst hb;exact ⟨by assumption,by assumption,by assumption⟩
theorem xO (l:List UInt8):∀ b∈page l,b≠60∧b≠62∧b≠34:=by
 intro b hb;obtain ⟨c,_,hc⟩:=List.mem_flatMap.1 hb;exact NH c b hc
theorem xX {b:UInt8}{r:List UInt8}(h:b≠92):dR (b::r)=false:=by
 match r with
 | []=>rfl
 | c::r=>simp [dR,h]
theorem kI {b:UInt8}{r:List UInt8}(h:b.toNat<128):decodeL (b::r)=(b.toNat,1):=by
 rw [decodeL_N];simp only [List.getD_cons_zero];exact decodeN_ascii _ _ _ _ _ h
end Go.Proofs.YtddkjkockbcamaaGreatDoor.Es
namespace Go.Proofs.YtddkjkockbcamaaGreatDoor.Lk
open Go.Lib Ru
def small (b:UInt8):Bool:=decide (97≤b.toNat∧b.toNat≤122)
theorem pX (b:UInt8):small b=true↔97≤b.toNat∧b.toNat≤122:=by unfold small;rw [decide_eq_true_iff]
def letters:List UInt8→Nat
  | []=>0
  | b::r=>if small b=true then letters r+1 else 0
theorem Im {l:List UInt8}{i:Nat}(h:i<l.length) (hs:small l[i]=true):letters (l.drop i)=letters (l.drop (i+1))+1:=by
  rw [List.drop_eq_getElem_cons h];conv=>lhs;unfold letters
  rw [if_pos hs]
theorem ze {l:List UInt8}{i:Nat}(h:i<l.length) (hs:small l[i]=false):letters (l.drop i)=0:=by
  rw [List.drop_eq_getElem_cons h];unfold letters;rw [if_neg (by rw [hs];decide)]
theorem GZ {l:List UInt8}{i:Nat}(h:¬ i<l.length):letters (l.drop i)=0:=by rw [List.drop_eq_nil_of_le (by omega)];rfl
def wB:Nat→List UInt8→Nat→Option Nat
  | 0,_,_=>none
  | f+1,l,i =>
    if i<l.length then
      (if (decodeL (l.drop i)).1=62 then some i
       else if (decodeL (l.drop i)).1=60∨dP ((decodeL (l.drop i)).1:Int)=true then none
       else wB f l (i+(decodeL (l.drop i)).2))
    else none
def ends (l:List UInt8) (i:Nat):Option Nat:=wB (l.length+1-i) l i
theorem Ba:∀ (f g:Nat) (l:List UInt8) (i:Nat),l.length<f+i→l.length<g+i→wB f l i=wB g l i
  | 0,0,_,_,_,_=>rfl
  | 0,g+1,l,i,h,_=>by unfold wB;rw [if_neg (by omega)]
  | f+1,0,l,i,_,h=>by unfold wB;rw [if_neg (by omega)]
  | f+1,g+1,l,i,hf,hg=>by
    have hw:=decodeL_width (l.drop i);unfold wB;rw [Ba f g l _ (by omega) (by omega)]
theorem P0 {l:List UInt8}{i:Nat}(h:l.length≤i):ends l i=none:=by
  unfold ends;cases hf:l.length+1-i with
  | zero=>rfl
  | succ f=>unfold wB;rw [if_neg (by omega)]
theorem A8 {l:List UInt8}{i:Nat}(h:i<l.length) :
    ends l i=if (decodeL (l.drop i)).1=62 then some i else if (decodeL (l.drop i)).1=60∨dP ((decodeL (l.drop i)).1:Int)=true then none else ends l (i+(decodeL (l.drop i)).2):=by
  have hw:=decodeL_width (l.drop i);unfold ends;obtain ⟨f,hf⟩:∃ f,l.length+1-i=f+1:=⟨l.length-i,by omega⟩
  rw [hf]
  conv=>lhs;unfold wB
  rw [if_pos h,Ba f (l.length+1-(i+(decodeL (l.drop i)).2)) l _ (by omega) (by omega)]
theorem tY {l:List UInt8}:∀ (f i j:Nat),wB f l i=some j→i≤j∧j<l.length
  | 0,_,_,h=>by simp [wB] at h
  | f+1,i,j,h=>by
    unfold wB at h
    split at h
    · split at h
      · injection h with h;subst h;exact ⟨Nat.le_refl _,by assumption⟩
      · split at h
        · cases h
        · have:=tY f _ j h;omega
    · cases h
def starts (l:List UInt8) (k:Nat):Bool :=
  decide (k<l.length∧l.getD k 0=60∧2≤letters (l.drop (k+1))∧letters (l.drop (k+1))≤12∧l.getD (k+1+letters (l.drop (k+1))) 0=58)
def auto (l:List UInt8) (at_:Int):Option (List UInt8×Nat) :=
  if 0≤at_∧starts l at_.toNat=true then (ends l (at_.toNat+1+letters (l.drop (at_.toNat+1)))).map fun j=>(mid l (at_.toNat+1) j,j+1) else none
theorem To {l:List UInt8}{at_:Int}(h:at_<0):auto l at_=none:=by unfold auto;rw [if_neg (by omega)]
theorem oP {l:List UInt8}{k:Nat}(h:starts l k=false):auto l (k:Int)=none:=by
  unfold auto;rw [if_neg (fun hc=>by have:=hc.2;rw [Int.toNat_natCast,h] at this;cases this)]
theorem Cy {l:List UInt8}{k n:Nat}(h:starts l k=true) (hn:n=letters (l.drop (k+1))):auto l (k:Int)=(ends l (k+1+n)).map fun j=>(mid l (k+1) j,j+1):=by
  subst hn;unfold auto;rw [if_pos ⟨by omega,by rw [Int.toNat_natCast];exact h⟩,Int.toNat_natCast]
theorem iH {l:List UInt8}{k:Nat}(h:l.length≤k∨l.getD k 0≠60∨letters (l.drop (k+1))<2∨12<letters (l.drop (k+1))∨l.getD (k+1+letters (l.drop (k+1))) 0≠58):starts l k=false:=by
  unfold starts;refine decide_eq_false ?_;rintro ⟨h1,h2,h3,h4,h5⟩;rcases h with h | h | h | h | h
  · omega
  · exact h h2
  · omega
  · omega
  · exact h h5
theorem pT {l:List UInt8}{k:Nat}{t:List UInt8}{e:Nat}(h:auto l (k:Int)=some (t,e)):k<e∧e≤l.length∧l.getD k 0=60:=by
  cases hs:starts l k with
  | false=>rw [oP hs] at h;cases h
  | true =>
    rw [Cy hs rfl] at h;obtain ⟨j,hj,he⟩:=Option.map_eq_some_iff.1 h;injection he with _ he;have:=tY _ _ _ hj;unfold starts at hs;exact ⟨by omega,by omega,(of_decide_eq_true hs).2.1⟩
def hop (l:List UInt8) (i:Nat):Nat :=
  if l.getD i 0=96 then (match Cd.span l (i:Int) with | some x=>x.2 | none=>i+Fn.run 96 (l.drop i))
  else match auto l (i:Int) with | some x=>x.2 | none=>(Es.next l i).2.1
def sign (l:List UInt8) (i:Nat):Nat :=
  if l.getD i 0=96 then 0
  else match auto l (i:Int) with | some _=>0 | none=>if (Es.next l i).2.2=true then 0 else (Es.next l i).1
theorem GX {l:List UInt8}{i:Nat}{t:List UInt8}{e:Nat}(h:l.getD i 0=96) (hs:Cd.span l (i:Int)=some (t,e)):hop l i=e∧sign l i=0:=by
  unfold hop sign;rw [if_pos h,if_pos h,hs];exact ⟨rfl,rfl⟩
theorem Lv {l:List UInt8}{i:Nat}(h:l.getD i 0=96) (hs:Cd.span l (i:Int)=none):hop l i=i+Fn.run 96 (l.drop i)∧sign l i=0:=by
  unfold hop sign;rw [if_pos h,if_pos h,hs];exact ⟨rfl,rfl⟩
theorem xy {l:List UInt8}{i:Nat}{t:List UInt8}{e:Nat}(h:l.getD i 0≠96) (hs:auto l (i:Int)=some (t,e)):hop l i=e∧sign l i=0:=by
  unfold hop sign;rw [if_neg h,if_neg h,hs];exact ⟨rfl,rfl⟩
theorem oM {l:List UInt8}{i:Nat}(h:l.getD i 0≠96) (hs:auto l (i:Int)=none):hop l i=(Es.next l i).2.1∧sign l i=if (Es.next l i).2.2=true then 0 else (Es.next l i).1:=by
  unfold hop sign;rw [if_neg h,if_neg h,hs];exact ⟨rfl,rfl⟩
theorem j0 {l:List UInt8}{i:Nat}(h:i<l.length):i<hop l i∧hop l i≤l.length:=by
  by_cases h1:l.getD i 0=96
  · have hr:1≤Fn.run 96 (l.drop i):=by
      rw [Fn.jS h (by simpa [List.getD,List.getElem?_eq_getElem h] using h1)];omega
    cases hs:Cd.span l (i:Int) with
    | none =>
      rw [(Lv h1 hs).1];have:=Fn.gE 96 (l.drop i);rw [List.length_drop] at this;omega
    | some x =>
      obtain ⟨t,e⟩:=x;rw [(GX h1 hs).1];have:=Cd.tP hs;omega
  · cases hs:auto l (i:Int) with
    | some x =>
      obtain ⟨t,e⟩:=x;rw [(xy h1 hs).1];have:=pT hs;omega
    | none=>rw [(oM h1 hs).1];exact Es.fj h
def gM:Nat→List UInt8→Nat→Nat→Option Nat
  | 0,_,_,_=>none
  | f+1,l,i,d =>
    if i<l.length then
      (if sign l i=93 then (if d=0 then some i else gM f l (hop l i) (d-1))
       else gM f l (hop l i) (if sign l i=91 then d+1 else d))
    else none
def closes (l:List UInt8) (i d:Nat):Option Nat:=gM (l.length+1-i) l i d
theorem kC:∀ (f g:Nat) (l:List UInt8) (i d:Nat),l.length<f+i→l.length<g+i→gM f l i d=gM g l i d
  | 0,0,_,_,_,_,_=>rfl
  | 0,g+1,l,i,d,h,_=>by unfold gM;rw [if_neg (by omega)]
  | f+1,0,l,i,d,_,h=>by unfold gM;rw [if_neg (by omega)]
  | f+1,g+1,l,i,d,hf,hg=>by
    unfold gM
    by_cases hi:i<l.length
    · have hh:=j0 hi
      rw [if_pos hi,if_pos hi,kC f g l _ (d-1) (by omega) (by omega),kC f g l _ (if sign l i=91 then d+1 else d) (by omega) (by omega)]
    · rw [if_neg hi,if_neg hi]
theorem iJ {l:List UInt8}{i d:Nat}(h:l.length≤i):closes l i d=none:=by
  unfold closes;cases hf:l.length+1-i with
  | zero=>rfl
  | succ f=>unfold gM;rw [if_neg (by omega)]
theorem kF {l:List UInt8}{i d:Nat}(h:i<l.length) :
    closes l i d=if sign l i=93 then (if d=0 then some i else closes l (hop l i) (d-1)) else closes l (hop l i) (if sign l i=91 then d+1 else d):=by
  have hh:=j0 h;unfold closes;obtain ⟨f,hf⟩:∃ f,l.length+1-i=f+1:=⟨l.length-i,by omega⟩
  rw [hf]
  conv=>lhs;unfold gM
  rw [if_pos h,kC f (l.length+1-hop l i) l _ (d-1) (by omega) (by omega),kC f (l.length+1-hop l i) l _ (if sign l i=91 then d+1 else d) (by omega) (by omega)]
theorem qN {l:List UInt8}{i:Nat}(h:i<l.length) (h1:sign l i=93):closes l i 0=some i:=by rw [kF h,if_pos h1,if_pos rfl]
theorem ga {l:List UInt8}{i d:Nat}(h:i<l.length) (h1:sign l i=93):closes l i (d+1)=closes l (hop l i) d:=by rw [kF h,if_pos h1,if_neg (by omega)];rfl
theorem ir {l:List UInt8}{i d:Nat}(h:i<l.length) (h1:sign l i=91):closes l i d=closes l (hop l i) (d+1):=by rw [kF h,if_neg (by omega),if_pos h1]
theorem lO {l:List UInt8}{i d:Nat}(h:i<l.length) (h1:sign l i≠93) (h2:sign l i≠91):closes l i d=closes l (hop l i) d:=by rw [kF h,if_neg h1,if_neg h2]
def close (l:List UInt8) (at_:Int):Option Nat:=if 0≤at_∧at_.toNat<l.length∧l.getD at_.toNat 0=91 then closes l (at_.toNat+1) 0 else none
theorem Oz {l:List UInt8}{k:Nat}(h:l.length≤k∨l.getD k 0≠91):close l (k:Int)=none:=by
  unfold close;rw [Int.toNat_natCast,if_neg];rintro ⟨_,h1,h2⟩;rcases h with h | h
  · omega
  · exact h h2
theorem tc {l:List UInt8}{k:Nat}(h:k<l.length) (h1:l.getD k 0=91):close l (k:Int)=closes l (k+1) 0:=by
  unfold close;rw [Int.toNat_natCast,if_pos ⟨by omega,h,h1⟩]
def nR:Nat→List UInt8→Nat→Option Nat
  | 0,_,_=>none
  | f+1,l,i =>
    if i<l.length then
      (if (Es.next l i).2.2=false∧(Es.next l i).1=41 then some i
       else if (Es.next l i).2.2=false∧((Es.next l i).1=40∨dP ((Es.next l i).1:Int)=true) then none
       else nR f l (Es.next l i).2.1)
    else none
def lK (l:List UInt8) (i:Nat):Option Nat:=nR (l.length+1-i) l i
theorem yq:∀ (f g:Nat) (l:List UInt8) (i:Nat),l.length<f+i→l.length<g+i→nR f l i=nR g l i
  | 0,0,_,_,_,_=>rfl
  | 0,g+1,l,i,h,_=>by unfold nR;rw [if_neg (by omega)]
  | f+1,0,l,i,_,h=>by unfold nR;rw [if_neg (by omega)]
  | f+1,g+1,l,i,hf,hg=>by
    unfold nR
    by_cases hi:i<l.length
    · have hh:=Es.fj hi
      rw [if_pos hi,if_pos hi,yq f g l _ (by omega) (by omega)]
    · rw [if_neg hi,if_neg hi]
theorem NN {l:List UInt8}{i:Nat}(h:l.length≤i):lK l i=none:=by
  unfold lK;cases hf:l.length+1-i with
  | zero=>rfl
  | succ f=>unfold nR;rw [if_neg (by omega)]
theorem IN {l:List UInt8}{i:Nat}(h:i<l.length) :
    lK l i=if (Es.next l i).2.2=false∧(Es.next l i).1=41 then some i else if (Es.next l i).2.2=false∧((Es.next l i).1=40∨dP ((Es.next l i).1:Int)=true) then none else lK l (Es.next l i).2.1:=by
  have hh:=Es.fj h;unfold lK;obtain ⟨f,hf⟩:∃ f,l.length+1-i=f+1:=⟨l.length-i,by omega⟩
  rw [hf]
  conv=>lhs;unfold nR
  rw [if_pos h,yq f (l.length+1-(Es.next l i).2.1) l _ (by omega) (by omega)]
theorem rB {l:List UInt8}:∀ (f i j:Nat),nR f l i=some j→i≤j∧j<l.length
  | 0,_,_,h=>by simp [nR] at h
  | f+1,i,j,h=>by
    unfold nR at h
    split at h
    · rename_i hi
      split at h
      · injection h with h;subst h;exact ⟨Nat.le_refl _,by assumption⟩
      · split at h
        · cases h
        · have:=rB f _ j h;have:=Es.fj hi;omega
    · cases h
def dest (l:List UInt8) (at_:Int):Option (List UInt8×Nat) :=
  if 0≤at_∧at_.toNat<l.length∧l.getD at_.toNat 0=40 then (lK l (at_.toNat+1)).map fun j=>(Ru.enc (Es.plain (mid l (at_.toNat+1) j)),j+1) else none
theorem Tz {l:List UInt8}{at_:Int}(h:at_<0):dest l at_=none:=by unfold dest;rw [if_neg (by omega)]
theorem FA {l:List UInt8}{k:Nat}(h:l.length≤k∨l.getD k 0≠40):dest l (k:Int)=none:=by
  unfold dest;rw [Int.toNat_natCast,if_neg];rintro ⟨_,h1,h2⟩;rcases h with h | h
  · omega
  · exact h h2
theorem UH {l:List UInt8}{k:Nat}(h:k<l.length) (h1:l.getD k 0=40):dest l (k:Int)=(lK l (k+1)).map fun j=>(Ru.enc (Es.plain (mid l (k+1) j)),j+1):=by
  unfold dest;rw [Int.toNat_natCast,if_pos ⟨by omega,h,h1⟩]
def low (b:UInt8):UInt8:=if 65≤b.toNat∧b.toNat≤90 then b+32 else b
def word (l:List UInt8):List UInt8:=(l.map low).filter small
def js:List UInt8:=[106,97,118,97,115,99,114,105,112,116]
def data:List UInt8:=[100,97,116,97]
def head (l:List UInt8):Option (List UInt8):=if l.contains 58=true then some (l.takeWhile (· != 58)) else none
def safe (l:List UInt8):Bool:=l.getD 0 0 != 35&&(match head l with | none=>true | some h=>word h != js&&word h != data)
end Go.Proofs.YtddkjkockbcamaaGreatDoor.Lk
namespace Go.Proofs.YtddkjkockbcamaaGreatDoor.Il
inductive In where
 | mk (kind:Nat) (text dest:List UInt8) (kids:List In)
structure Pt where
 inn:In
 run:Option Nat
 left:Nat
 ch:UInt8
def none_:In:=.mk 0 [] [] []
def word (s:List UInt8):In:=.mk 0 s [] []
def fL (l:List Pt) (s:List UInt8):List Pt :=
 match l.getLast? with
 | some ⟨.mk 0 t d k,none,n,c⟩=>l.dropLast++[⟨.mk 0 (t++s) d k,none,n,c⟩]
 | _=>l++[⟨word s,none,0,0⟩]
def kO (p:Pt):In :=
 match p.run with
 | some _=>(match p.inn with | .mk k _ d ks=>.mk k (List.replicate p.left p.ch) d ks)
 | none=>p.inn
def dM (out:List In) (x:In):List In :=
 match x with
 | .mk 0 t d ks =>
  if t=[] then out
  else (match out.getLast? with
   | some (.mk 0 t' d' ks')=>out.dropLast++[.mk 0 (t'++t) d' ks']
   | _=>out++[.mk 0 t d ks])
 | x=>out++[x]
def settle (l:List Pt):List In:=l.foldl (fun out p=>dM out (kO p)) []
mutual
def txt:In→List UInt8
 | .mk k t _ ks=>(if k=5 then [32] else [])++t++jB ks
def jB:List In→List UInt8
 | []=>[]
 | x::r=>txt x++jB r
end
theorem wg:∀ a b,jB (a++b)=jB a++jB b
 | [],b=>by simp [jB]
 | x::r,b=>by rw [List.cons_append];simp only [jB];rw [wg r b,List.append_assoc]
theorem uo (a:List In) (x:In):jB (a++[x])=jB a++txt x:=by rw [wg];simp [jB]
inductive tC:In→Prop where
 | mk {k:Nat}{t d:List UInt8}{ks:List In}:k≤1000→ks.length≤1000000000→(∀ x∈ks,tC x)→tC (.mk k t d ks)
end Go.Proofs.YtddkjkockbcamaaGreatDoor.Il
namespace Go.Proofs.YtddkjkockbcamaaGreatDoor.Em
def outside (y x:Nat×Nat×Nat):Prop:=¬ (y.1<x.1∧x.1<y.2.1)∧¬ (y.1<x.2.1∧x.2.1<y.2.1)
theorem Dr {l:List R}{c o:Nat}{st:St}(h:Inv l c st) (hp:st.2.Pairwise outside) (hl:0<lf st.1 c) (ho:opener l st.1 c c=some o):(st.2++[(o,c,size st.1 o c)]).Pairwise outside:=by
 have hok:=(pF _ ho).2;unfold ok at hok;simp only [Bool.and_eq_true,decide_eq_true_eq] at hok;have hlo:=hok.1.2;rw [List.pairwise_append];refine ⟨hp,List.pairwise_singleton _ _,fun y hy x hx=>?_⟩;obtain rfl:x=(o,c,size st.1 o c):=by simpa using hx
 refine ⟨fun hc=>?_,fun hc=>?_⟩
 ·have:=h.zero y hy o hc.1 hc.2;omega
 ·have:=h.zero y hy c hc.1 hc.2;omega
theorem og {l:List R}{c:Nat}:∀ (f:Nat) (st:St),Inv l c st→st.2.Pairwise outside→(cZ l c f st).2.Pairwise outside
 | 0,_,_,hp=>hp
 | f+1,st,h,hp=>by
  unfold cZ
  split
  ·rename_i hc
   split
   ·exact hp
   ·rename_i o ho
    exact og f _ (Eu h hc.1 hc.2 ho) (Dr h hp hc.2 ho)
  ·exact hp
theorem qp {l:List R}:∀ (k c:Nat) (st:St),Inv l c st→st.2.Pairwise outside→(outer l k c st).2.Pairwise outside
 | 0,_,_,_,hp=>hp
 | k+1,c,st,h,hp=>qp k (c+1) _ (GC (rD (lf st.1 c) st h)) (og (lf st.1 c) st h hp)
theorem qE (l:List R):(pairs l).Pairwise outside:=by
 refine qp l.length 0 _ ⟨by simp,by simp,by simp,fun i hi=>?_,List.Pairwise.nil⟩ List.Pairwise.nil;simp only [used,List.map_nil,List.sum_nil,Nat.zero_add];rw [rX (by simpa using hi),List.getElem_map,get_at hi];exact Nat.le_refl _
end Go.Proofs.YtddkjkockbcamaaGreatDoor.Em
namespace Go.Proofs.YtddkjkockbcamaaGreatDoor
open Go.RowKit
def nN (l:List UInt8) (k:Nat):Value:=.tuple #[.int .i32 ((Es.next l k).1:Int),.int .i64 ((Es.next l k).2.1:Int),.bool (Es.next l k).2.2]
theorem N4 {l:List UInt8}{k:Nat}(h:l.length≤k):nN l k=.tuple #[.int .i32 0,.int .i64 (l.length:Int),.bool false]:=by
 unfold nN;rw [Es.GL h];rfl
theorem Nj {l:List UInt8}{k:Nat}(h:k+1<l.length) (h1:l[k]=92) (h2:Es.O8 l[k+1]=true):nN l k=.tuple #[.int .i32 (l[k+1].toNat:Int),.int .i64 ((k:Int)+2),.bool true]:=by
 have hd:l.drop k=l[k]::l[k+1]::l.drop (k+2):=by rw [List.drop_eq_getElem_cons (by omega),List.drop_eq_getElem_cons (by omega)]
 have he:Es.dR (l.drop k)=true:=by rw [hd];simp [Es.dR,h1,h2]
 unfold nN;rw [Es.jt (by omega),Es.lS he,hd];rfl
theorem G1 {l:List UInt8}{k:Nat}(h:k<l.length) (he:Es.dR (l.drop k)=false):nN l k=.tuple #[.int .i32 ((Lib.decodeL (l.drop k)).1:Int),.int .i64 ((k:Int)+(Lib.decodeL (l.drop k)).2),.bool false]:=by
 unfold nN;rw [Es.jt h,Es.kG he];simp
theorem yI {l:List UInt8}{k:Nat}(h:k<l.length) (h1:l[k]≠92∨l.length≤k+1∨∃ h:k+1<l.length,Es.O8 l[k+1]=false):Es.dR (l.drop k)=false:=by
 rw [List.drop_eq_getElem_cons h];rcases h1 with h1 | h1 | ⟨h1,h2⟩
 ·exact Es.xX h1
 ·rw [List.drop_eq_nil_of_le h1];rfl
 ·rw [List.drop_eq_getElem_cons h1];simp [Es.dR,h2]
theorem V6 {l:List UInt8}{at_:Int}(h:at_<0∨(0≤at_∧(l.length:Int)≤at_)∨(0≤at_∧∃ h:at_.toNat<l.length,l[at_.toNat]≠60)):Lk.auto l at_=none:=by
 rcases h with h | ⟨h0,h⟩ | ⟨h0,hl,h⟩
 ·exact Lk.To h
 ·obtain ⟨k,rfl⟩:∃ k:Nat,at_=(k:Int):=⟨at_.toNat,by omega⟩
  exact Lk.oP (Lk.iH (.inl (by omega)))
 ·obtain ⟨k,rfl⟩:∃ k:Nat,at_=(k:Int):=⟨at_.toNat,by omega⟩
  refine Lk.oP (Lk.iH (.inr (.inl ?_)));rw [List.getD_eq_getElem?_getD,List.getElem?_eq_getElem (by simpa using hl)];simpa using h
theorem UR {l:List UInt8}{at_:Int}(h:at_<0∨(0≤at_∧(l.length:Int)≤at_)∨(0≤at_∧∃ h:at_.toNat<l.length,l[at_.toNat]≠40)):Lk.dest l at_=none:=by
 rcases h with h | ⟨h0,h⟩ | ⟨h0,hl,h⟩
 ·exact Lk.Tz h
 ·obtain ⟨k,rfl⟩:∃ k:Nat,at_=(k:Int):=⟨at_.toNat,by omega⟩
  exact Lk.FA (.inl (by omega))
 ·obtain ⟨k,rfl⟩:∃ k:Nat,at_=(k:Int):=⟨at_.toNat,by omega⟩
  refine Lk.FA (.inr ?_);rw [List.getD_eq_getElem?_getD,List.getElem?_eq_getElem (by simpa using hl)];simpa using h
theorem ZM {b:UInt8}(h1:65≤b.toNat) (h2:b.toNat≤90):(Lk.low b).toNat=b.toNat+32∧Lk.small (Lk.low b)=true:=by
 have h:(Lk.low b).toNat=b.toNat+32:=by unfold Lk.low;rw [if_pos ⟨h1,h2⟩,UInt8.toNat_add];simp;omega
 exact ⟨h,(Lk.pX _).2 (by omega)⟩
theorem Ro {b:UInt8}(h:b.toNat<65∨90<b.toNat):Lk.low b=b:=by unfold Lk.low;rw [if_neg (by omega)]
theorem vv {D L:List UInt8}(h:D≠L):((bs D).toList==L)=false:=by rw [bH];simpa using h
end Go.Proofs.YtddkjkockbcamaaGreatDoor
namespace Go.Proofs.YtddkjkockbcamaaGreatDoor.Ru
open Go.Lib
def zr (x:Nat):Nat:=if x=0 then 65533 else x
def F3 (l:List UInt8):List Nat:=(aS l).map zr
def text (l:List UInt8):List UInt8:=enc (F3 l)
theorem BQ (l:List UInt8):(F3 l).length=(aS l).length:=by simp [F3]
theorem Gm (l:List UInt8):(text l).length≤4*l.length:=by
 have h1:=(gJ (F3 l)).2;have h2:=lU l;rw [BQ] at h1;unfold text;omega
def wj (x:Nat):Nat:=if 65≤x∧x≤90 then x+32 else x
def bl (x:Nat):Bool:=dP (x:Int)
theorem J2 (x:Nat):bl x=true↔(9≤x∧x≤13)∨x=32∨x=160∨x=8195∨x=12288:=by
 unfold bl dP;rw [decide_eq_true_iff];omega
theorem Hy (x:Nat):bl x=false↔¬ ((9≤x∧x≤13)∨x=32∨x=160∨x=8195∨x=12288):=by
 rw [← J2];simp
theorem Mb (x:Nat):x7 (x:Int)=(wj x:Int):=by unfold x7 wj;split<;>split<;>omega
theorem YZ {x:Nat}(h:vr x):vr (wj x):=by unfold wj vr at *;split<;>omega
def Cb (st:Bool×List Nat) (x:Nat):Bool×List Nat :=
 if bl x=true then (true,st.2) else (false,(if st.1=true∧st.2≠[] then st.2++[32] else st.2)++[wj x])
def eO (X:List Nat):Bool×List Nat:=X.foldl Cb (false,[])
def fold (X:List Nat):List Nat:=(eO X).2
theorem nB (X:List Nat) (x:Nat):eO (X++[x])=Cb (eO X) x:=by simp [eO]
theorem yp {P:List Nat→Prop}(h0:P []) (h1:∀ X x,P X→P (X++[x])):∀ X,P X:=by
 intro X;have:∀ Y:List Nat,P Y.reverse:=by
  intro Y
  induction Y with
  | nil=>exact h0
  | cons y Y ih=>rw [List.reverse_cons];exact h1 _ _ ih
 have:=this X.reverse;rwa [List.reverse_reverse] at this
theorem WR {X:List Nat}(h:∀ x∈X,vr x):∀ y∈fold X,vr y:=by
 revert h
 refine yp (P:=fun X=>(∀ x∈X,vr x)→∀ y∈fold X,vr y) (by simp [fold,eO]) ?_ X;intro X x ih h y hy;have ih':=ih fun z hz=>h z (by simp [hz]);have hx:=h x (by simp);unfold fold at hy ih';rw [nB] at hy;unfold Cb at hy
 split at hy
 ·exact ih' y hy
 ·simp only [List.mem_append,List.mem_singleton] at hy
  rcases hy with hy | rfl
  ·split at hy
   ·simp only [List.mem_append,List.mem_singleton] at hy
    rcases hy with hy | rfl
    ·exact ih' y hy
    ·unfold vr;omega
   ·exact ih' y hy
  ·exact YZ hx
def Z0 (last x:Nat):Bool:=!((bl x&&(x != 32||last==32))||(decide (65≤x)&&decide (x≤90)))
def Xm:Nat→List Nat→Bool
 | _,[]=>true
 | d,x::r=>Z0 d x&&Xm x r
def wh:Nat→List Nat→Nat
 | d,[]=>d
 | _,x::r=>wh x r
theorem zA:∀ (X:List Nat) (d x:Nat),Xm d (X++[x])=(Xm d X&&Z0 (wh d X) x)
 | [],d,x=>by simp [Xm,wh]
 | y::X,d,x=>by simp only [List.cons_append,Xm,wh,zA X y x,Bool.and_assoc]
theorem yV:∀ (X:List Nat) (d x:Nat),wh d (X++[x])=x
 | [],_,_=>rfl
 | y::X,_,x=>by simp only [List.cons_append,wh,yV X y x]
theorem UZ {d x:Nat}(h:bl x=false):Z0 d (wj x)=true:=by
 have h1:bl (wj x)=false:=by rw [Hy] at h ⊢;unfold wj;split<;>omega
 unfold Z0;rw [h1];simp only [Bool.false_and,Bool.false_or,Bool.not_eq_true',Bool.and_eq_false_iff,decide_eq_false_iff_not];unfold wj
 split<;>omega
theorem X8 {d:Nat}(h:d≠32):Z0 d 32=true:=by
 unfold Z0;have:(d==32)=false:=by simpa using h
 rw [this];simp
theorem Zi {x:Nat}(h:bl x=false):wj x≠32:=by rw [Hy] at h;unfold wj;split<;>omega
theorem B1 (X:List Nat):Xm 32 (eO X).2=true∧((eO X).2≠[]→wh 32 (eO X).2≠32) ∧
  (eO X).2.length≤X.length∧((eO X).1=true→(eO X).2.length+1≤X.length):=by
 refine yp (P:=fun X=>Xm 32 (eO X).2=true∧((eO X).2≠[]→wh 32 (eO X).2≠32)∧(eO X).2.length≤X.length∧((eO X).1=true→(eO X).2.length+1≤X.length)) (by simp [eO,Xm]) ?_ X;intro X x ⟨i1,i2,i3,i4⟩;rw [nB];unfold Cb;cases hb:bl x with
 | true =>
  simp only [if_true,List.length_append,List.length_cons,List.length_nil];exact ⟨i1,i2,by omega,fun _=>by omega⟩
 | false =>
  simp only [Bool.false_eq_true,if_false];refine ⟨?_,fun _=>by rw [yV];exact Zi hb,?_,fun h=>by cases h⟩
  ·rw [zA,UZ hb,Bool.and_true]
   split
   ·rename_i hc
    rw [zA,i1,X8 (i2 hc.2)];rfl
   ·exact i1
  ·simp only [List.length_append,List.length_cons,List.length_nil]
   split
   ·rename_i hc
    have:=i4 hc.1;simp only [List.length_append,List.length_cons,List.length_nil];omega
   ·omega
theorem R6 (X:List Nat):(fold X).length≤X.length:=(B1 X).2.2.1
end Go.Proofs.YtddkjkockbcamaaGreatDoor.Ru
namespace Go.Proofs.YtddkjkockbcamaaGreatDoor
open Go.RowKit
theorem eo {l:List UInt8}{pos:Nat}(h:pos<l.length):∃ x k:Nat,1≤k∧pos+k≤l.length∧Utf8.decode (bs l) pos=(x,k)∧x≤1114111∧Lib.decodeL (l.drop pos)=(x,k) ∧
  ((l[pos].toNat<128∧x=l[pos].toNat∧k=1)∨(128≤l[pos].toNat∧128≤x∧∀ j (hj:j<l.length),pos≤j→j<pos+k→128≤l[j].toNat)):=by
 have hd:=dx.decodeL_drop' l pos;have hne:l.drop pos≠[]:=Es.CN h;obtain ⟨h4,hle,hct⟩:=Ru.jR hne;have R3:=hle;rw [List.length_drop] at R3;refine ⟨(Lib.decodeL (l.drop pos)).1,(Lib.decodeL (l.drop pos)).2,Lib.decodeL_width _,by omega,by rw [← hd],Lib.decodeL_rune _,rfl,?_⟩;have hc:l.drop pos=l[pos]::l.drop (pos+1):=List.drop_eq_getElem_cons h
 by_cases hb:l[pos].toNat<128
 ·left
  rw [hc,Es.kI hb];exact ⟨hb,rfl,rfl⟩
 ·right
  refine ⟨by omega,?_,?_⟩
  ·rw [Lib.decodeL_N]
   have e0:(l.drop pos).getD 0 0=l[pos]:=by rw [hc];rfl
   rw [e0];rcases Lib.decodeN_shape (l.drop pos).length l[pos].toNat ((l.drop pos).getD 1 0).toNat ((l.drop pos).getD 2 0).toNat ((l.drop pos).getD 3 0).toNat with ⟨c,e⟩ | ⟨c1,c2,c3,cv,e⟩ | ⟨c1,c2,c3,c4,cv,cs,e⟩ | ⟨c1,c2,c3,c4,c5,cv,cw,e⟩ | e
   all_goals (rw [e];simp only;omega)
  ·intro j hj h1 h2
   rcases Nat.lt_or_eq_of_le h1 with h1 | h1
   ·have:=hct (j-pos) (by omega) (by omega)
    have e:(l.drop pos).getD (j-pos) 0=l[j]:=by
     rw [List.getD_eq_getElem?_getD,List.getElem?_drop,show pos+(j-pos)=j by omega,List.getElem?_eq_getElem hj];rfl
    rw [e] at this;omega
   ·subst h1;omega
structure KH (q:UInt8→List UInt8) (g:Nat→List UInt8):Prop where
 high:∀ b:UInt8,128≤b.toNat→q b=[b]
 still:∀ x:Nat,128≤x→g x=[]
 low:∀ b:UInt8,g b.toNat=[]→q b=[b]
 said:∀ b:UInt8,g b.toNat≠[]→q b=g b.toNat
 few:∀ x:Nat,(g x).length≤6
def uK (q:UInt8→List UInt8) (l X:List UInt8) (at_ pos:Nat):Prop:=(l.take pos).flatMap q=X++mid l at_ pos
theorem FB (l:List UInt8) (i j:Nat):mid l i j=(l.take j).drop i:=by unfold mid;rw [List.drop_take]
theorem Ie (q:UInt8→List UInt8) (l:List UInt8):uK q l [] 0 0:=by simp [uK,mid]
theorem JD {q:UInt8→List UInt8}{l X:List UInt8}{a pos k:Nat}(h:uK q l X a pos) (ha:a≤pos) (hk:pos+k≤l.length) (hq:∀ j (hj:j<l.length),pos≤j→j<pos+k→q l[j]=[l[j]]):uK q l X a (pos+k):=by
 unfold uK at h ⊢;rw [FB] at h ⊢;have e:l.take (pos+k)=l.take pos++(l.drop pos).take k:=List.take_add;have hm:((l.drop pos).take k).flatMap q=(l.drop pos).take k:=by
  have:∀ M:List UInt8,(∀ b∈M,q b=[b])→M.flatMap q=M:=by
   intro M
   induction M with
   | nil=>intro _;rfl
   | cons b M ih=>intro hb;rw [List.flatMap_cons,hb b (by simp),ih fun c hc=>hb c (by simp [hc])];rfl
  refine this _ fun b hb=>?_;obtain ⟨j,hj,rfl⟩:=List.getElem_of_mem hb;have hj2:j<k∧pos+j<l.length:=by rw [List.length_take,List.length_drop] at hj;omega
  have:=hq (pos+j) hj2.2 (by omega) (by omega);simpa using this
 rw [e,List.flatMap_append,h,hm,List.append_assoc,List.drop_append_of_le_length (by rw [List.length_take];omega)]
theorem MJ {q:UInt8→List UInt8}{l X G:List UInt8}{a pos:Nat}(h:uK q l X a pos) (hp:pos<l.length) (hq:q l[pos]=G):uK q l (X++mid l a pos++G) (pos+1) (pos+1):=by
 unfold uK at h ⊢;rw [List.take_succ_eq_append_getElem hp,List.flatMap_append,h];have:mid l (pos+1) (pos+1)=[]:=by simp [mid]
 rw [this];simp [hq]
theorem QN {q:UInt8→List UInt8}{l X:List UInt8}{a:Nat}(h:uK q l X a l.length):X++l.drop a=l.flatMap q:=by
 unfold uK at h;rw [FB,List.take_length] at h;exact h.symm
theorem Nz {q:UInt8→List UInt8}{g:Nat→List UInt8}(h:KH q g) (b:UInt8):(q b).length≤6:=by
 by_cases hg:g b.toNat=[]
 ·rw [h.low b hg];simp
 ·rw [h.said b hg];exact h.few _
theorem Jw {q:UInt8→List UInt8}{g:Nat→List UInt8}(h:KH q g) (l:List UInt8):(l.flatMap q).length≤6*l.length:=by
 induction l with
 | nil=>simp
 | cons b l ih=>have:=Nz h b;rw [List.flatMap_cons,List.length_append,List.length_cons];omega
theorem Pq {q:UInt8→List UInt8}{g:Nat→List UInt8}(hS:KH q g) {l X:List UInt8}{a pos:Nat}(h:uK q l X a pos):X.length+(mid l a pos).length≤6*l.length:=by
 have h1:=congrArg List.length h;have h2:=Jw hS (l.take pos);rw [List.length_append] at h1;rw [List.length_take] at h2;omega
def uj (x:Nat):List UInt8:=if x=38 then [38,97,109,112,59] else if x=60 then [38,108,116,59] else if x=62 then [38,103,116,59] else if x=34 then [38,113,117,111,116,59] else []
theorem rT {b:UInt8}{n:Nat}(hn:n<256):b=UInt8.ofNat n↔b.toNat=n:=by
 constructor
 ·intro h;subst h;simp;omega
 ·intro h;subst h;simp
theorem uG (b:UInt8):Es.kH b=if b.toNat=38 then [38,97,109,112,59] else if b.toNat=60 then [38,108,116,59] else if b.toNat=62 then [38,103,116,59] else if b.toNat=34 then [38,113,117,111,116,59] else [b]:=by
 unfold Es.kH;have Xi:(b=38)↔b.toNat=38:=rT (n:=38) (by omega);have fR:(b=60)↔b.toNat=60:=rT (n:=60) (by omega);have mm:(b=62)↔b.toNat=62:=rT (n:=62) (by omega);have h34:(b=34)↔b.toNat=34:=rT (n:=34) (by omega);simp only [Xi,fR,mm,h34]
theorem Yy:KH Es.kH uj where
 high b h:=by rw [uG,if_neg (by omega),if_neg (by omega),if_neg (by omega),if_neg (by omega)]
 still x h:=by unfold uj;rw [if_neg (by omega),if_neg (by omega),if_neg (by omega),if_neg (by omega)]
 low b h:=by
  unfold uj at h;rw [uG]
  repeat' split at h
  all_goals first | (cases h;done) | (rename_i a b c d;rw [if_neg a,if_neg b,if_neg c,if_neg d])
 said b h:=by
  unfold uj at h ⊢;rw [uG]
  repeat' split at h
  all_goals first | (exact absurd rfl h) | (simp_all)
 few x:=by
   unfold uj;repeat' split
   all_goals simp
end Go.Proofs.YtddkjkockbcamaaGreatDoor
