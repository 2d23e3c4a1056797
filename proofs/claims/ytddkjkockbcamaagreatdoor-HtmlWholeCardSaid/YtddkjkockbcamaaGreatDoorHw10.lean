/- BkTC Tape Tape2 Tape3 Tape4 -/
import Derived.Test.YtddkjkockbcamaaGreatDoorHw03
import Derived.Test.YtddkjkockbcamaaGreatDoorHw04
import Derived.Laws.ResultCell
import Derived.Deep.QuietTactic
import Derived.BigQuiet
import Derived.Test.YtddkjkockbcamaaGreatDoorHw08
set_option maxHeartbeats 16000000
set_option maxRecDepth 100000
namespace Go.Proofs.YtddkjkockbcamaaGreatDoor
open Go.RowKit
def eL (a:Part) (E:Nat→Option Part):Nat→Option Part
 | 0=>some a
 | i+1=>E i
section
variable {w:World}{B:Nat}
theorem jf {e:TypeId}{size n g c:Nat}{xs:List Value}(h:w.ownsRow B e size (.slice (some ⟨g,0,none⟩) n c) n xs) {j:Nat}{u:Value}(hj:xs[j]? = some u):w.cell? ⟨g,j,none⟩=some u:=by
 have:=World.ownsRow.cells h (g:=g) rfl j u hj;rwa [show (⟨g,0,none⟩:Addr).add j=⟨g,j,none⟩ from by unfold Addr.add;split<;>simp_all] at this
def UL (w:World) (Q:Nat→Prop) (size:Nat) (A:Option Addr) (n:Nat) (xs:List Value):Prop :=
 xs.length=n*size∧(0<n→∃ b o,A=some ⟨b,o,none⟩∧Q b∧∀ j u,xs[j]? = some u→w.cell? ⟨b,o+j,none⟩=some u)
mutual
def TC (w:World) (Q:Nat→Prop):Bk.Tree→List Value→Prop
 | .mk kd lv t inf ln ks,cs=>∃ A c css,cs=[.int .i64 (kd:Int),.int .i64 (lv:Int),.string (bs t),.string (bs inf),.int .i64 (ln:Int),.slice A ks.length c]∧ks.length≤c∧UL w Q 6 A ks.length css.flatten∧Pk w Q ks css
def Pk (w:World) (Q:Nat→Prop):List Bk.Tree→List (List Value)→Prop
 | [],css=>css=[]
 | t::ts,css=>∃ c0 cr,css=c0::cr∧TC w Q t c0∧Pk w Q ts cr
end
theorem UL.frame {w w':World}{Q Q':Nat→Prop}{size n:Nat}{A:Option Addr}{xs:List Value}(h:UL w Q size A n xs) (hf:∀ b,Q b→w'.heap[b]? = w.heap[b]?) (hq:∀ b,Q b→Q' b):UL w' Q' size A n xs:=by
 refine ⟨h.1,fun hn=>?_⟩;obtain ⟨b,o,hA,hb,hc⟩:=h.2 hn;exact ⟨b,o,hA,hq b hb,fun j u hj=>by rw [World.cell?_of_block (hf b hb)];exact hc j u hj⟩
mutual
theorem yS {w w':World}{Q Q':Nat→Prop}(hf:∀ b,Q b→w'.heap[b]? = w.heap[b]?) (hq:∀ b,Q b→Q' b):∀ {t:Bk.Tree}{cs:List Value},TC w Q t cs→TC w' Q' t cs
 | .mk ..,_,h=>by
  unfold TC at h ⊢;obtain ⟨A,c,css,h1,h2,h3,h4⟩:=h;exact ⟨A,c,css,h1,h2,h3.frame hf hq,AS hf hq h4⟩
theorem AS {w w':World}{Q Q':Nat→Prop}(hf:∀ b,Q b→w'.heap[b]? = w.heap[b]?) (hq:∀ b,Q b→Q' b):∀ {ts:List Bk.Tree}{css:List (List Value)},Pk w Q ts css→Pk w' Q' ts css
 | [],_,h=>by unfold Pk at h ⊢;exact h
 | _::_,_,h=>by
  unfold Pk at h ⊢;obtain ⟨c0,cr,h1,h2,h3⟩:=h;exact ⟨c0,cr,h1,yS hf hq h2,AS hf hq h3⟩
end
def wrote (wr:World) (g:Nat) (a b c d e f:Value):World:=(((((wr.setCell ⟨g,0,none⟩ a).setCell ⟨g,1,none⟩ b).setCell ⟨g,2,none⟩ c).setCell ⟨g,3,none⟩ d).setCell ⟨g,4,none⟩ e).setCell ⟨g,5,none⟩ f
theorem Hv (wr:World) {g k:Nat}(h:k≠g) (a b c d e f:Value):(wrote wr g a b c d e f).heap[k]? = wr.heap[k]? := by
 unfold wrote;rw [Below.heap_setCell _ _ _ _ h,Below.heap_setCell _ _ _ _ h,Below.heap_setCell _ _ _ _ h,Below.heap_setCell _ _ _ _ h,Below.heap_setCell _ _ _ _ h,Below.heap_setCell _ _ _ _ h]
theorem JF (wr:World) (g:Nat) (a b c d e f:Value):(wrote wr g a b c d e f).heap.size=wr.heap.size:=by simp [wrote,World.setCell]
theorem Sl {wr:World}{g:Nat}{z0 z1 z2 z3 z4 z5:Value}{t:TypeId}(h:wr.heap[g]? = some (.cells #[z0,z1,z2,z3,z4,z5] t (0,0))) (a b c d e f:Value):(wrote wr g a b c d e f).heap[g]? = some (.cells #[a,b,c,d,e,f] t (0,0)) :=
 heap_setCell_same _ g 5 _ t f (heap_setCell_same _ g 4 _ t e (heap_setCell_same _ g 3 _ t d (heap_setCell_same _ g 2 _ t c (heap_setCell_same _ g 1 _ t b (heap_setCell_same _ g 0 _ t a h)))))
theorem Fi {w wr:World}(hb:Below w.heap.size w wr) (a b c d e f:Value):Below w.heap.size w (wrote wr w.heap.size a b c d e f) :=
 (((((hb.setCell (p:=⟨w.heap.size,0,none⟩) (Nat.le_refl _) a).setCell (p:=⟨w.heap.size,1,none⟩) (Nat.le_refl _) b).setCell (p:=⟨w.heap.size,2,none⟩) (Nat.le_refl _) c).setCell (p:=⟨w.heap.size,3,none⟩) (Nat.le_refl _) d).setCell (p:=⟨w.heap.size,4,none⟩) (Nat.le_refl _) e).setCell (p:=⟨w.heap.size,5,none⟩) (Nat.le_refl _) f
theorem kZ {fn:Func}{p:Tmp}{ty:TypeId}(h:fn.results=#[.cell p ty]) (tmps:Array Value) (P:Program) (w:World) :
  (results fn tmps).run P w=((asAddr (tmps.getD p undef)).run P w).andThen fun a w₁=>(loadVar ty a).run P w₁:=by
 simp only [results,h];simp [Sem.run_bind,Result.andThen]
inductive Bk.tC:Bk.Tree→Prop where
 | mk {kd lv:Nat}{tx inf:List UInt8}{ln:Nat}{ks:List Bk.Tree}:ks.length≤1000000000→(∀ t∈ks,Bk.tC t)→Bk.tC (.mk kd lv tx inf ln ks)
end
end Go.Proofs.YtddkjkockbcamaaGreatDoor
namespace Go.Proofs.YtddkjkockbcamaaGreatDoor
open Go.RowKit
attribute [local go_sem] aD av aq
theorem sL {a b:Int}(h:a=b):Ending.returned (.int .i64 a)=.returned (.int .i64 b):=by rw [h]
theorem abK (n:Int):-1073741824≤n.tmod 1073741825∧n.tmod 1073741825≤1073741824:=by
 rcases Int.le_total 0 n with h | h
 ·rw [Int.tmod_eq_emod_of_nonneg h];omega
 ·rw [show n = -(-n) from by omega,Int.neg_tmod,Int.tmod_eq_emod_of_nonneg (by omega)];omega
theorem Jv (x:Int) (w:World) :
  Calls Tryz.prog 38 #[.int .i64 x,.int .i64 0,.int .i64 1073741824] w fun e w'=>(∃ r:Nat,e=.returned (.int .i64 (r:Int))∧r≤1073741824)∧w=w':=by
 have hm:=abK x;obtain ⟨q,hq⟩:∃ q,x.tmod 1073741825=q:=⟨_,rfl⟩
 rw [hq] at hm;go_enter Tryz.func38,Tryz.ntmps38;rcases Int.lt_or_le x 0 with h0 | h0
 ·rcases Int.lt_or_le q 0 with h2 | h2
  ·go_wp2
   go_ret;exact ⟨⟨(q+1073741825).toNat,sL (by omega),by omega⟩,rfl⟩
  ·go_wp2
   go_ret;exact ⟨⟨q.toNat,sL (by omega),by omega⟩,rfl⟩
 ·rcases Int.lt_or_le 1073741824 x with h1 | h1
  ·rcases Int.lt_or_le q 0 with h2 | h2
   ·go_wp2
    go_ret;exact ⟨⟨(q+1073741825).toNat,sL (by omega),by omega⟩,rfl⟩
   ·go_wp2
    go_ret;exact ⟨⟨q.toNat,sL (by omega),by omega⟩,rfl⟩
  ·go_wp2
   go_ret;exact ⟨⟨x.toNat,sL (by omega),by omega⟩,rfl⟩
def cL (w:World) (g:Nat):Prop:=∃ (A:Option Addr) (n c k:Nat) (xs:List Int),w.heap[g]? = some (.cells #[.slice A n c,.int .i64 (k:Int)] 26 (0,0))∧k≤n∧n≤c∧n≤9223372036854775807∧Row w g 1 A n (xs.map fun x=>.int .i64 x)
def Aside (g:Nat) (w w':World):Prop:=Below g w w'∧w.heap.size≤w'.heap.size∧∀ k,k<w.heap.size→k≠g→w'.heap[k]? = w.heap[k]?
theorem Aside.refl (g:Nat) (w:World):Aside g w w:=⟨Below.refl _ _,Nat.le_refl _,fun _ _ _=>rfl⟩
theorem Aside.trans {g:Nat}{a b c:World}(h:Aside g a b) (k:Aside g b c):Aside g a c :=
 ⟨h.1.trans k.1,Nat.le_trans h.2.1 k.2.1,fun i hi hg=>(k.2.2 i (by have:=h.2.1;omega) hg).trans (h.2.2 i hi hg)⟩
theorem Aside.Zw {g:Nat}{a b:World}(h:Below a.heap.size a b) (hg:g<a.heap.size):Aside g a b :=
 ⟨h.mono (by omega),h.size,fun i hi _=>h.block i hi⟩
theorem Aside.drewN {g:Nat}{a b:World}(h:Aside g a b) (n:Nat):Aside g a (b.drewN n):=⟨below_drewN h.1 n,h.2.1,h.2.2⟩
theorem A9 {g:Nat}{w w1:World}{base:Nat}{e:TypeId}{size n:Nat}{v:Value}{xs:List Value}(h:w.ownsRow base e size v n xs) (hb:Aside g w w1) (hg:g<base):w1.ownsRow base e size v n xs:=by
 refine ⟨h.1,?_⟩;rcases h.2 with hn | ⟨g',cap,cur,rfl,hbg,Hg,rest⟩
 ·exact .inl hn
 ·exact .inr ⟨g',cap,cur,rfl,hbg,(hb.2.2 g' (Array.getElem?_eq_some_iff.1 Hg).1 (by omega)).trans Hg,rest⟩
theorem Aside.set {g:Nat}{a b:World}(h:Aside g a b) (j:Nat) (v:Value):Aside g a (b.setCell ⟨g,j,none⟩ v) :=
 ⟨h.1.setCell (p:=⟨g,j,none⟩) (Nat.le_refl _) v,by simpa [World.setCell] using h.2.1,fun k hk hg=>(Below.heap_setCell _ _ _ _ hg).trans (h.2.2 k hk hg)⟩
theorem cL.lt {w:World}{g:Nat}(h:cL w g):g<w.heap.size:=by
 obtain ⟨A,n,c,k,xs,h1,_⟩:=h;exact (Array.getElem?_eq_some_iff.1 h1).1
theorem Row.upto {w w':World}{B size n:Nat}{A:Option Addr}{xs:List Value}(h:Row w B size A n xs) (hb:Below B w w'):Row w' B size A n xs:=h.below hb
theorem cL.ext {w w':World}{g:Nat}(h:cL w g) (hb:Below w.heap.size w w'):cL w' g:=by
 have hg:=h.lt;obtain ⟨A,n,c,k,xs,h1,h2,h3,h4,h5⟩:=h;exact ⟨A,n,c,k,xs,(hb.block g hg).trans h1,h2,h3,h4,h5.upto (hb.mono (by omega))⟩
theorem R1 (w:World) (g:Nat) (h:cL w g) (n:Nat) (hn:n≤1000000) :
  Calls Tryz.prog 21 #[.pointer (some ⟨g,0,none⟩),.int .i64 (n:Int)] w fun e w'=>∃ r:Nat,e=.returned (.int .i64 (r:Int))∧(r<n∨r=0)∧cL w' g∧Aside g w w':=by
 have hT:=Lib.hid h;obtain ⟨A,m,c,k,xs,h1,h2,h3,h4,h5⟩:=h;have c0:=cell_of h1 (j:=0) rfl;have c1:=cell_of h1 (j:=1) rfl;have cf:=bf h1;have adf:g<w.heap.size:=(Array.getElem?_eq_some_iff.1 h1).1;rcases Nat.lt_or_ge k m with hk | hk
 ·have hki:(k:Int)<(m:Int):=by omega
  rcases Nat.lt_or_ge n 1 with uR | uR
  ·have hni:(n:Int)<1:=by omega
   go_enter Tryz.func21,Tryz.ntmps21;go_wp2_with fail;go_quiet (fail);go_wp2_with fail;go_ret;exact ⟨0,rfl,.inr rfl,hT.out,(Aside.refl g w).drewN _⟩
  ·have hni:(1:Int)≤(n:Int):=by omega
   obtain ⟨b,o,rfl,Ug,hr⟩:=h5.2 (by omega);have hxl:xs.length=m:=by have:=h5.1;simpa using this
   obtain ⟨x,hx⟩:∃ x,xs[k]? = some x:=⟨_,List.getElem?_eq_getElem (by omega)⟩
   have hcx:=hr k (.int .i64 x) (by rw [List.getElem?_map,hx];rfl);have hn0:(0:Int)≤(n:Int):=by omega
   replace h1:=Lib.hid h1;replace h5:=Lib.hid h5;clear hr hx;go_enter Tryz.func21,Tryz.ntmps21;go_wp2_with fail;go_quiet (fail);go_wp2_with fail;have ME:((w.drewN nq).setCell ⟨g,1,none⟩ (.int .i64 ((k:Int)+1))).drew.heap[g]? = some (.cells #[.slice (some ⟨b,o,none⟩) m c,.int .i64 (((k+1:Nat):Int))] 26 (0,0)):=heap_setCell_same _ g 1 _ _ (.int .i64 ((k:Int)+1)) h1.out;have hAs:Aside g w ((w.drewN nq).setCell ⟨g,1,none⟩ (.int .i64 ((k:Int)+1))).drew:=((Aside.refl g w).drewN nq).set 1 _ |>.drewN 1;have abo:((w.drewN nq).setCell ⟨g,1,none⟩ (.int .i64 ((k:Int)+1))).drew.cell? ⟨b,o+k,none⟩=some (.int .i64 x):=(hAs.1.cell (p:=⟨b,o+k,none⟩) Ug).trans hcx;have kX:cL ((w.drewN nq).setCell ⟨g,1,none⟩ (.int .i64 ((k:Int)+1))).drew g:=⟨_,m,c,k+1,xs,ME,by omega,h3,h4,h5.out.below hAs.1⟩
   have lX:(((w.drewN nq).setCell ⟨g,1,none⟩ (.int .i64 ((k:Int)+1))).drew.cell? ⟨g,0,none⟩=some (.slice (some ⟨b,o,none⟩) m c)∧((w.drewN nq).setCell ⟨g,1,none⟩ (.int .i64 ((k:Int)+1))).drew.cell? ⟨g,1,none⟩=some (.int .i64 ((k:Int)+1))∧((w.drewN nq).setCell ⟨g,1,none⟩ (.int .i64 ((k:Int)+1))).drew.cell? ⟨b,o+k,none⟩=some (.int .i64 x)):=⟨cell_of ME (j:=0) rfl,cell_of ME (j:=1) rfl,abo⟩
   have hwk:IntKind.i64.wrap (k:Int)=(k:Int):=by rw [IntKind.wrap_i64];omega
   have hkm:¬ ((m:Int)≤(k:Int)):=by omega
   replace kX:=Lib.hid kX;replace hAs:=Lib.hid hAs;clear ME abo c0 c1 cf hcx;refine eH [(true,0),(true,1),(true,2),(true,3),(true,4),(true,5),(true,6),(true,7),(true,8),(true,9),(true,10),(true,12),(false,11),(true,13),(true,14)] (fun u=>u.cell? ⟨g,0,none⟩=some (.slice (some ⟨b,o,none⟩) m c)∧u.cell? ⟨g,1,none⟩=some (.int .i64 ((k:Int)+1))∧u.cell? ⟨b,o+k,none⟩=some (.int .i64 x)) lX (by kernel_rfl) (by kernel_rfl) (by kernel_rfl) (fun _ _ d _ _ h=>by cases d<;>exact h) ?_;generalize ((w.drewN nq).setCell ⟨g,1,none⟩ (.int .i64 ((k:Int)+1))).drew=w3 at kX hAs lX ⊢
   repeat (first | refine bN rfl ?_ | (refine aO rfl ?_;intro K hK;go_simp;refine hK _ _ _ ?_;clear hK K))
   refine dy (.slice (some ⟨b,o,none⟩) m c) rfl rfl lX (fun u hu=>by obtain ⟨k0,k1,k2⟩:=hu;go_simp) ?_
   repeat (first | refine bN rfl ?_ | (refine aO rfl ?_;intro K hK;go_simp;refine hK _ _ _ ?_;clear hK K))
   refine dy (.int .i64 ((k:Int)+1)) rfl rfl lX (fun u hu=>by obtain ⟨k0,k1,k2⟩:=hu;go_simp) ?_
   repeat (first | refine bN rfl ?_ | (refine aO rfl ?_;intro K hK;go_simp;refine hK _ _ _ ?_;clear hK K))
   refine dy (.int .i64 x) rfl rfl lX (fun u hu=>by obtain ⟨k0,k1,k2⟩:=hu;go_simp) ?_
   repeat (first | refine bN rfl ?_ | (refine aO rfl ?_;intro K hK;go_simp;refine hK _ _ _ ?_;clear hK K))
   refine aO rfl ?_;intro K hK;go_simp;refine (Jv x w3).mono ?_;rintro e w4 ⟨⟨r,rfl,hr9⟩,rfl⟩;refine aT lX (hK _ _ _ ?_);clear hK K;obtain ⟨r2,hr2,hr3⟩:∃ r2:Nat,(r:Int).tmod (n:Int)=(r2:Int)∧r2<n:=⟨r%n,by rw [Int.tmod_eq_emod_of_nonneg (by omega)];omega,Nat.mod_lt _ (by omega)⟩
   have hnz:¬ (n=0):=by omega
   repeat (first | refine bN rfl ?_ | (refine aO rfl ?_;intro K hK;go_simp;refine hK _ _ _ ?_;clear hK K))
   refine jJ ?_;go_wp2_with fail;go_ret;exact ⟨r2,rfl,.inl hr3,kX.out,hAs.out⟩
 ·obtain rfl:k=m:=by omega
  go_enter Tryz.func21,Tryz.ntmps21;go_wp2_with fail;go_quiet (fail);go_wp2_with fail;go_ret;exact ⟨0,rfl,.inr rfl,hT.out,(Aside.refl g w).drewN _⟩
def Ke (n:Nat):Value→Bool
 | .string b=>decide (b.size≤n)
 | _=>false
theorem Fh {n:Nat}{v:Value}(h:Ke n v=true):∃ t,v=.string (bs t)∧t.length≤n:=by
 cases v with
 | string b =>
  refine ⟨b.data.toList,rfl,?_⟩;have:b.size≤n:=of_decide_eq_true h;simpa using this
 | _=>cases h
theorem Mh {w:World}{q n:Nat}{l:List Value}{t:TypeId}{fr:Nat×Nat}(h:w.heap[q]? = some (.cells ⟨l⟩ t fr)) (ha:l.all (Ke n)=true) {j:Nat}(hj:j<l.length):∃ s,w.cell? ⟨q,j,none⟩=some (.string (bs s))∧s.length≤n:=by
 obtain ⟨s,h1,h2⟩:=Fh (List.all_eq_true.1 ha l[j] (List.getElem_mem hj));exact ⟨s,cell_of h (by rw [List.getElem?_eq_getElem hj,h1]),h2⟩
theorem wY (w:World) (g:Nat) (h:cL w g) (n:Nat) (hn:n≤1000000) (N:Int) (hN:N=(n:Int)) :
  Calls Tryz.prog 21 #[.pointer (some ⟨g,0,none⟩),.int .i64 N] w fun e w'=>∃ r:Nat,e=.returned (.int .i64 (r:Int))∧(r<n∨r=0)∧cL w' g∧Aside g w w':=by
 subst hN;exact R1 w g h n hn
theorem lu (w:World) (g:Nat) (h:cL w g) (l:List Value) (t:TypeId) (m n:Nat) (hl:l.length=n) (hn0:0<n) (hn:n≤1000000) (ha:l.all (Ke m)=true) (N:Int) (hN:N=(n:Int)) :
  Calls Tryz.prog 21 #[.pointer (some ⟨g,0,none⟩),.int .i64 N] (w.alloc (.cells ⟨l⟩ t)) fun e w'=>∃ (r:Nat) (s:List UInt8),e=.returned (.int .i64 (r:Int))∧r<n∧w'.cell? ⟨w.heap.size,r,none⟩=some (.string (bs s))∧s.length≤m∧cL w' g∧Aside g w w':=by
 refine (wY _ g (h.ext (aa w _)) n hn N hN).mono ?_;rintro e w' ⟨r,rfl,hr,hT,hA⟩;have hg:=h.lt;have OX:r<n:=by omega
 obtain ⟨s,h1,h2⟩:=Mh (heap_alloc_new w (.cells ⟨l⟩ t)) ha (j:=r) (by omega);exact ⟨r,s,rfl,OX,by rw [World.cell?_of_block (hA.2.2 w.heap.size (by simp) (by show w.heap.size≠g;omega))];exact h1,h2,hT,(Aside.Zw (aa w _) hg).trans hA⟩
theorem xW (w:World) (g:Nat) (h:cL w g) :
  Calls Tryz.prog 39 #[.pointer (some ⟨g,0,none⟩)] w fun e w'=>∃ s:List UInt8,e=.returned (.string (bs s))∧s.length≤6∧cL w' g∧Aside g w w':=by
 have hN:=fun l t hl ha=>lu w g h l t 6 32 hl (by omega) (by omega) ha 32 rfl;replace hN:=Lib.hid hN;go_enter Tryz.func39,Tryz.ntmps39;go_wp2_with fail;refine (hN.out _ _ (by kernel_rfl) (by kernel_rfl)).mono ?_;rintro e w1 ⟨r,s,rfl,hr,hc,hs,hT,hA⟩;have hr0:(0:Int)≤(r:Int):=by omega
 have hr1:(r:Int)<32:=by omega
 replace hT:=Lib.hid hT;replace hA:=Lib.hid hA;go_wp2_with fail;go_ret;exact ⟨s,rfl,hs,hT.out,hA.out⟩
theorem Vz (w:World) (g:Nat) (h:cL w g) (k:Nat) :
  Calls Tryz.prog 23 #[.pointer (some ⟨g,0,none⟩),.int .i64 (k:Int)] w fun e w'=>∃ s:List UInt8,e=.returned (.string (bs s))∧s.length≤10∧cL w' g∧Aside g w w':=by
 have hN:=fun l t hl ha=>lu w g h l t 10 3 hl (by omega) (by omega) ha 3 rfl;replace hN:=Lib.hid hN;go_enter Tryz.func23,Tryz.ntmps23;rcases Nat.eq_zero_or_pos k with rfl | hk
 ·go_wp2_with fail
  go_ret;exact ⟨[10],rfl,by decide,h,Aside.refl _ _⟩
 ·have jq:((k:Int)==0)=false:=by rw [beq_eq_false_iff_ne];omega
  go_wp2_with fail;refine (hN.out _ _ (by kernel_rfl) (by kernel_rfl)).mono ?_;rintro e w1 ⟨r,s,rfl,hr,hc,hs,hT,hA⟩;have hr0:(0:Int)≤(r:Int):=by omega
  have hr1:(r:Int)<3:=by omega
  replace hT:=Lib.hid hT;replace hA:=Lib.hid hA;go_wp2_with fail;go_ret;exact ⟨s,rfl,hs,hT.out,hA.out⟩
theorem mB {b:ByteArray}{n:Nat}{P:Prop}(h:b.size≤n) (hp:P):∃ s:List UInt8,Ending.returned (.string b)=.returned (.string (bs s))∧s.length≤n∧P:=⟨b.data.toList,rfl,by simpa using h,hp⟩
theorem GP (w:World) (g:Nat) (h:cL w g) :
  Calls Tryz.prog 22 #[.pointer (some ⟨g,0,none⟩)] w fun e w'=>∃ s:List UInt8,e=.returned (.string (bs s))∧s.length≤100∧cL w' g∧Aside g w w':=by
 have hN:=fun l t hl ha=>lu w g h l t 10 16 hl (by omega) (by omega) ha 16 rfl;replace hN:=Lib.hid hN;go_enter Tryz.func22,Tryz.ntmps22;go_wp2_with fail;refine (hN.out _ _ (by kernel_rfl) (by kernel_rfl)).mono ?_;rintro e w1 ⟨r1,s1,rfl,hr1,hc1,hs1,Ul,oc⟩;have z1:=au s1;have agl:(0:Int)≤(r1:Int):=by omega
 have agy:(r1:Int)<16:=by omega
 replace Ul:=Lib.hid Ul;replace oc:=Lib.hid oc;go_wp2_with fail;refine (wY w1 g Ul.out 14 (by omega) 14 rfl).mono ?_;rintro e w2 ⟨r2,rfl,hr2,kX,AA⟩;have hA:=oc.out.trans AA;replace kX:=Lib.hid kX;replace hA:=Lib.hid hA;have afP:r2<14:=by omega
 clear hr2 Ul oc AA hc1 hN;have l6:=fun l t hl ha=>lu w2 g kX.out l t 20 6 hl (by omega) (by omega) ha 6 rfl;have l7:=fun l t hl ha=>lu w2 g kX.out l t 20 7 hl (by omega) (by omega) ha 7 rfl;have l3:=fun l t hl ha=>lu w2 g kX.out l t 20 3 hl (by omega) (by omega) ha 3 rfl;replace l6:=Lib.hid l6;replace l7:=Lib.hid l7;replace l3:=Lib.hid l3;obtain rfl | rfl | rfl | rfl | rfl | rfl | rfl | hge:r2=0∨r2=1∨r2=2∨r2=3∨r2=4∨r2=5∨r2=6∨7≤r2:=by omega
 ·go_wp2_with fail
  go_ret;exact ⟨s1,rfl,by omega,kX.out,hA.out⟩
 ·go_wp2_with fail
  refine (xW w2 g kX.out).mono ?_;rintro e w3 ⟨s2,rfl,hs2,ia,dh⟩;have hA':=Lib.hid (hA.out.trans dh);have z2:=au s2;replace ia:=Lib.hid ia;clear dh;go_wp2_with fail;go_ret;refine mB ?_ ⟨ia.out,hA'.out⟩;simp only [ByteArray.size_append,z1,z2];(try simp [ByteArray.size]);omega
 ·go_wp2_with fail
  refine (l6.out _ _ (by kernel_rfl) (by kernel_rfl)).mono ?_;rintro e w3 ⟨r3,s2,rfl,hr3,hc3,hs2,ia,dh⟩;have Vt:(0:Int)≤(r3:Int):=by omega
  have Wy:(r3:Int)<6:=by omega
  have hA':=Lib.hid (hA.out.trans dh);have z2:=au s2;replace ia:=Lib.hid ia;clear dh;go_wp2_with fail;go_ret;refine mB ?_ ⟨ia.out,hA'.out⟩;simp only [ByteArray.size_append,z1,z2];(try simp [ByteArray.size]);omega
 ·go_wp2_with fail
  refine (l7.out _ _ (by kernel_rfl) (by kernel_rfl)).mono ?_;rintro e w3 ⟨r3,s2,rfl,hr3,hc3,hs2,ia,dh⟩;have Vt:(0:Int)≤(r3:Int):=by omega
  have Wy:(r3:Int)<7:=by omega
  have hA':=Lib.hid (hA.out.trans dh);have z2:=au s2;replace ia:=Lib.hid ia;clear dh;go_wp2_with fail;go_ret;refine mB ?_ ⟨ia.out,hA'.out⟩;simp only [ByteArray.size_append,z1,z2];(try simp [ByteArray.size]);omega
 ·go_wp2_with fail
  refine (l7.out _ _ (by kernel_rfl) (by kernel_rfl)).mono ?_;rintro e w3 ⟨r3,s2,rfl,hr3,hc3,hs2,ia,dh⟩;have Vt:(0:Int)≤(r3:Int):=by omega
  have Wy:(r3:Int)<7:=by omega
  have hA':=Lib.hid (hA.out.trans dh);have z2:=au s2;replace ia:=Lib.hid ia;clear dh;go_wp2_with fail;go_ret;refine mB ?_ ⟨ia.out,hA'.out⟩;simp only [ByteArray.size_append,z1,z2];(try simp [ByteArray.size]);omega
 ·go_wp2_with fail
  refine (l6.out _ _ (by kernel_rfl) (by kernel_rfl)).mono ?_;rintro e w3 ⟨r3,s2,rfl,hr3,hc3,hs2,ia,dh⟩;have Vt:(0:Int)≤(r3:Int):=by omega
  have Wy:(r3:Int)<6:=by omega
  have hA':=Lib.hid (hA.out.trans dh);have z2:=au s2;replace ia:=Lib.hid ia;clear dh;go_wp2_with fail;go_ret;refine mB ?_ ⟨ia.out,hA'.out⟩;simp only [ByteArray.size_append,z1,z2];(try simp [ByteArray.size]);omega
 ·go_wp2_with fail
  refine (l3.out _ _ (by kernel_rfl) (by kernel_rfl)).mono ?_;rintro e w3 ⟨r3,s2,rfl,hr3,hc3,hs2,ia,dh⟩;have Vt:(0:Int)≤(r3:Int):=by omega
  have Wy:(r3:Int)<3:=by omega
  have hA':=Lib.hid (hA.out.trans dh);have z2:=au s2;replace ia:=Lib.hid ia;clear dh;go_wp2_with fail;go_ret;refine mB ?_ ⟨ia.out,hA'.out⟩;simp only [ByteArray.size_append,z1,z2];(try simp [ByteArray.size]);omega
 ·have e0:((r2:Int)==0)=false:=by rw [beq_eq_false_iff_ne];omega
  have e1:((r2:Int)==1)=false:=by rw [beq_eq_false_iff_ne];omega
  have e2:((r2:Int)==2)=false:=by rw [beq_eq_false_iff_ne];omega
  have e3:((r2:Int)==3)=false:=by rw [beq_eq_false_iff_ne];omega
  have e4:((r2:Int)==4)=false:=by rw [beq_eq_false_iff_ne];omega
  have e5:((r2:Int)==5)=false:=by rw [beq_eq_false_iff_ne];omega
  have e6:((r2:Int)==6)=false:=by rw [beq_eq_false_iff_ne];omega
  go_wp2_with fail;refine (xW w2 g kX.out).mono ?_;rintro e w3 ⟨s2,rfl,hs2,ia,dh⟩;have hA':=Lib.hid (hA.out.trans dh);have z2:=au s2;replace ia:=Lib.hid ia;clear dh;go_wp2_with fail;refine (xW w3 g ia.out).mono ?_;rintro e w4 ⟨s3,rfl,OE,Xb,iO⟩;have aeB:=Lib.hid (hA'.out.trans iO);have z3:=au s3;replace Xb:=Lib.hid Xb;clear iO;go_wp2_with fail;go_ret;refine mB ?_ ⟨Xb.out,aeB.out⟩;simp only [ByteArray.size_append,z1,z2,z3];(try simp [ByteArray.size]);omega
end Go.Proofs.YtddkjkockbcamaaGreatDoor
namespace Go.Proofs.YtddkjkockbcamaaGreatDoor
open Go.RowKit
theorem cL.below {w w':World}{g:Nat}(h:cL w g) (hb:Below (g+1) w w'):cL w' g:=by
 obtain ⟨A,n,c,k,xs,h1,h2,h3,h4,h5⟩:=h;exact ⟨A,n,c,k,xs,(hb.block g (by omega)).trans h1,h2,h3,h4,h5.upto (hb.mono (by omega))⟩
theorem DF (w:World) (g:Nat) (h:cL w g) (most:Nat) (hm:most≤1000) (M:Int) (hM:M=(most:Int)) :
  Calls Tryz.prog 9 #[.pointer (some ⟨g,0,none⟩),.int .i64 M] w fun e w'=>∃ (v:Value) (l:List UInt8),e=.returned v∧w'.ownsRow (g+1) 5 1 v l.length (ai l)∧l.length≤most*200∧cL w' g∧Below g w w':=by
 subst hM;have adf:=h.lt;go_enter Tryz.func9,Tryz.ntmps9;go_wp2_with fail;refine (wY w g h 2 (by omega) 2 rfl).mono ?_;rintro e w1 ⟨kd,rfl,_,Ul,oc⟩;go_wp2_with fail;refine (wY w1 g Ul (most+1) (by omega) ((most:Int)+1) (by omega)).mono ?_;rintro e w2 ⟨n,rfl,hn,kX,AA⟩;have hA:=oc.trans AA;have hB2:=Lib.hid hA.1;have hg2:=kX.lt;replace kX:=Lib.hid kX;have hnm:n≤most:=by omega
 clear hn Ul oc AA hA;go_wp2_with fail
 go_loopw [5,7] (fun v nv wr=>∃ (k:Nat) (l:List UInt8),nv=.int .i64 (k:Int)∧k≤most∧l.length+k*200≤most*200∧Hid (wr.ownsRow (g+1) 5 1 v l.length (ai l))∧Hid (cL wr g)∧Hid (Below g w wr)) (fun _ nv _=>(intOf nv).toNat)
 case atStart=>exact ⟨n,[],rfl,hnm,by simp;omega,Lib.hid ⟨rfl,.inl ⟨rfl,rfl⟩⟩,kX,hB2⟩
 case round =>
  obtain ⟨k,l,rfl,hk,hl,hown,hT,hB⟩:=hrel;obtain ⟨vA,vc,rfl,hvc⟩:=ak hown.out;rcases Nat.eq_zero_or_pos k with rfl | hkp
  ·go_wp2_with fail
   go_ret;exact ⟨_,l,rfl,hown.out,by omega,hT.out,hB.out⟩
  ·have hk0:(0:Int)<(k:Int):=by omega
   have hlt:=hT.out.lt;go_wp2_with fail;refine (GP wr g hT.out).mono ?_;rintro e w3 ⟨s1,rfl,hs1,ia,dh⟩;have eR:=A9 hown.out dh (by omega);have jy:=Lib.hid (hB.out.trans dh.1);have hlt3:=ia.lt;replace ia:=Lib.hid ia;clear dh;go_wp2_with (at_builtin;refine eD rfl (.tmp 18) (.tmp 20) rfl Df Le Tryz.underlying9 rfl eR rfl (by omega) (by omega) ?_;intro v1 w4 KM hg4 hb4);have Xb:=ia.out.below hb4;have tB:=Lib.hid (jy.out.trans (hb4.mono (by omega)));clear hg4 hb4;refine (Vz w4 g Xb kd).mono ?_;rintro e w5 ⟨s2,rfl,hs2,VM,Ae⟩;have rL:=A9 KM Ae (by omega);have D9:=Lib.hid (tB.out.trans Ae.1);have UM:=VM.lt;replace VM:=Lib.hid VM;have rG:(l++s1).length=l.length+s1.length:=by simp
   rw [← rG] at rL;clear Ae eR KM Xb;go_wp2_with (at_builtin;refine eD rfl (.tmp 21) (.tmp 24) rfl Df Le Tryz.underlying9 rfl rL rfl (by omega) (by omega) ?_;intro v2 w6 BI hg6 jQ);have hT6:=Lib.hid (VM.out.below jQ);have Vb:=Lib.hid (D9.out.trans (jQ.mono (by omega)));have aa7:((l++s1)++s2).length=(l++s1).length+s2.length:=List.length_append;rw [← aa7] at BI
   go_roundw
   case rel=>exact ⟨k-1,(l++s1)++s2,congrArg (Value.int .i64) (by omega),by omega,by omega,Lib.hid BI,hT6,Vb⟩
   case measure=>simp [intOf];omega
end Go.Proofs.YtddkjkockbcamaaGreatDoor
