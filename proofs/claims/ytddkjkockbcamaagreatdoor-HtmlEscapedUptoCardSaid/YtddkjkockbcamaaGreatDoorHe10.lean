/- BkTC -/
import Derived.Test.YtddkjkockbcamaaGreatDoorHe03
import Derived.Test.YtddkjkockbcamaaGreatDoorHe04
import Derived.Laws.ResultCell
import Derived.Deep.QuietTactic
import Derived.BigQuiet
set_option maxHeartbeats 16000000
set_option maxRecDepth 100000
namespace Go.Proofs.YtddkjkockbcamaaGreatDoor
open Go.RowKit
def ec (a:Part) (E:Nat→Option Part):Nat→Option Part
 | 0=>some a
 | i+1=>E i
section
variable {w:World}{B:Nat}
theorem ij {e:TypeId}{size n g c:Nat}{xs:List Value}(h:w.ownsRow B e size (.slice (some ⟨g,0,none⟩) n c) n xs) {j:Nat}{u:Value}(hj:xs[j]? = some u):w.cell? ⟨g,j,none⟩=some u:=by
 have:=World.ownsRow.cells h (g:=g) rfl j u hj;rwa [show (⟨g,0,none⟩:Addr).add j=⟨g,j,none⟩ from by unfold Addr.add;split<;>simp_all] at this
def SV (w:World) (Q:Nat→Prop) (size:Nat) (A:Option Addr) (n:Nat) (xs:List Value):Prop :=
 xs.length=n*size∧(0<n→∃ b o,A=some ⟨b,o,none⟩∧Q b∧∀ j u,xs[j]? = some u→w.cell? ⟨b,o+j,none⟩=some u)
mutual
def TC (w:World) (Q:Nat→Prop):Bk.Tree→List Value→Prop
 | .mk kd lv t inf ln ks,cs=>∃ A c css,cs=[.int .i64 (kd:Int),.int .i64 (lv:Int),.string (bs t),.string (bs inf),.int .i64 (ln:Int),.slice A ks.length c]∧ks.length≤c∧SV w Q 6 A ks.length css.flatten∧LN w Q ks css
def LN (w:World) (Q:Nat→Prop):List Bk.Tree→List (List Value)→Prop
 | [],css=>css=[]
 | t::ts,css=>∃ c0 cr,css=c0::cr∧TC w Q t c0∧LN w Q ts cr
end
theorem SV.frame {w w':World}{Q Q':Nat→Prop}{size n:Nat}{A:Option Addr}{xs:List Value}(h:SV w Q size A n xs) (hf:∀ b,Q b→w'.heap[b]? = w.heap[b]?) (hq:∀ b,Q b→Q' b):SV w' Q' size A n xs:=by
 refine ⟨h.1,fun hn=>?_⟩;obtain ⟨b,o,hA,hb,hc⟩:=h.2 hn;exact ⟨b,o,hA,hq b hb,fun j u hj=>by rw [World.cell?_of_block (hf b hb)];exact hc j u hj⟩
mutual
theorem vz {w w':World}{Q Q':Nat→Prop}(hf:∀ b,Q b→w'.heap[b]? = w.heap[b]?) (hq:∀ b,Q b→Q' b):∀ {t:Bk.Tree}{cs:List Value},TC w Q t cs→TC w' Q' t cs
 | .mk ..,_,h=>by
  unfold TC at h ⊢;obtain ⟨A,c,css,h1,h2,h3,h4⟩:=h;exact ⟨A,c,css,h1,h2,h3.frame hf hq,zA hf hq h4⟩
theorem zA {w w':World}{Q Q':Nat→Prop}(hf:∀ b,Q b→w'.heap[b]? = w.heap[b]?) (hq:∀ b,Q b→Q' b):∀ {ts:List Bk.Tree}{css:List (List Value)},LN w Q ts css→LN w' Q' ts css
 | [],_,h=>by unfold LN at h ⊢;exact h
 | _::_,_,h=>by
  unfold LN at h ⊢;obtain ⟨c0,cr,h1,h2,h3⟩:=h;exact ⟨c0,cr,h1,vz hf hq h2,zA hf hq h3⟩
end
def wrote (wr:World) (g:Nat) (a b c d e f:Value):World:=(((((wr.setCell ⟨g,0,none⟩ a).setCell ⟨g,1,none⟩ b).setCell ⟨g,2,none⟩ c).setCell ⟨g,3,none⟩ d).setCell ⟨g,4,none⟩ e).setCell ⟨g,5,none⟩ f
theorem CD (wr:World) {g k:Nat}(h:k≠g) (a b c d e f:Value):(wrote wr g a b c d e f).heap[k]? = wr.heap[k]? := by
 unfold wrote;rw [Below.heap_setCell _ _ _ _ h,Below.heap_setCell _ _ _ _ h,Below.heap_setCell _ _ _ _ h,Below.heap_setCell _ _ _ _ h,Below.heap_setCell _ _ _ _ h,Below.heap_setCell _ _ _ _ h]
theorem G6 (wr:World) (g:Nat) (a b c d e f:Value):(wrote wr g a b c d e f).heap.size=wr.heap.size:=by simp [wrote,World.setCell]
theorem OC {wr:World}{g:Nat}{z0 z1 z2 z3 z4 z5:Value}{t:TypeId}(h:wr.heap[g]? = some (.cells #[z0,z1,z2,z3,z4,z5] t (0,0))) (a b c d e f:Value):(wrote wr g a b c d e f).heap[g]? = some (.cells #[a,b,c,d,e,f] t (0,0)) :=
 heap_setCell_same _ g 5 _ t f (heap_setCell_same _ g 4 _ t e (heap_setCell_same _ g 3 _ t d (heap_setCell_same _ g 2 _ t c (heap_setCell_same _ g 1 _ t b (heap_setCell_same _ g 0 _ t a h)))))
theorem EJ {w wr:World}(hb:Below w.heap.size w wr) (a b c d e f:Value):Below w.heap.size w (wrote wr w.heap.size a b c d e f) :=
 (((((hb.setCell (p:=⟨w.heap.size,0,none⟩) (Nat.le_refl _) a).setCell (p:=⟨w.heap.size,1,none⟩) (Nat.le_refl _) b).setCell (p:=⟨w.heap.size,2,none⟩) (Nat.le_refl _) c).setCell (p:=⟨w.heap.size,3,none⟩) (Nat.le_refl _) d).setCell (p:=⟨w.heap.size,4,none⟩) (Nat.le_refl _) e).setCell (p:=⟨w.heap.size,5,none⟩) (Nat.le_refl _) f
theorem jX {fn:Func}{p:Tmp}{ty:TypeId}(h:fn.results=#[.cell p ty]) (tmps:Array Value) (P:Program) (w:World) :
  (results fn tmps).run P w=((asAddr (tmps.getD p undef)).run P w).andThen fun a w₁=>(loadVar ty a).run P w₁:=by
 simp only [results,h];simp [Sem.run_bind,Result.andThen]
inductive Bk.ru:Bk.Tree→Prop where
 | mk {kd lv:Nat}{tx inf:List UInt8}{ln:Nat}{ks:List Bk.Tree}:ks.length≤1000000000→(∀ t∈ks,Bk.ru t)→Bk.ru (.mk kd lv tx inf ln ks)
end
end Go.Proofs.YtddkjkockbcamaaGreatDoor
