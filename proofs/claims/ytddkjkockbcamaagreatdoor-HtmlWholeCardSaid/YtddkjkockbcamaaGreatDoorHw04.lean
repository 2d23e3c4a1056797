/- Canon Canon2 -/
import Derived.Test.YtddkjkockbcamaaGreatDoorHw03
import Derived.OrdersHeld
import Derived.KernelRfl
set_option maxHeartbeats 16000000
set_option maxRecDepth 100000
namespace Go.Proofs.YtddkjkockbcamaaGreatDoor
open Go.RowKit
def Ext (w w':World):Prop:=Below w.heap.size w w'
theorem Ext.refl (w:World):Ext w w:=Below.refl _ _
theorem Ext.trans {a b c:World}(h:Ext a b) (k:Ext b c):Ext a c:=ag h k
def yZ (ops:Array Oper):List (Bool×Nat)→Array Bool→Bool
 | [],listed=>(Region.ready .any ops listed).isEmpty
 | (true,i)::r,listed=>(Region.ready .any ops listed).contains i&&Region.free .any ops listed i&&yZ ops r (listed.setIfInBounds i true)
 | (false,i)::r,listed=>(Region.ready .any ops listed==[i])&&yZ ops r (listed.setIfInBounds i true)
def aq (w:World) (v:Value):Result Next→Prop
 | .ok (.value u) w'=>w'=w∧u=v
 | _=>False
def av (P:Program) (S:World→Prop) (o:Oper) (a:Act) (w:World) (K:Act→Prop):Prop :=
 ∃ v,aq w v ((execOp a.eval o).run P w)∧(∀ w',S w'→aq w' v ((execOp a.eval o).run P w'))∧K (a.put o.dst v)
def aD (P:Program) (ops:Array Oper) (Q:Exit→Act→World→Prop) (b:Bool) (o:Oper) (S:World→Prop) (a:Act) (w:World) (K:(World→Prop)→Act→World→Prop):Prop :=
 if Region.wanted o (yielded ops a.tmps)=true then
  (if b=true then av P S o a w (fun a'=>K S a' w) else o.wp P a w (fun a' w'=>∃ S':World→Prop,S' w'∧(∀ u,S' u→S u)∧K S' a' w') Q)
 else K S (a.put o.dst undef) w
def qu (P:Program) (ops:Array Oper) (Q:Exit→Act→World→Prop):List (Bool×Nat)→(World→Prop)→Act→World→Prop
 | [],_,a,w=>Q .normal a w
 | (b,i)::r,S,a,w=>∃ o,ops[i]? = some o∧aD P ops Q b o S a w (qu P ops Q r)
section
variable {P:Program}{ops:Array Oper}{Q:Exit→Act→World→Prop}{S:World→Prop}
theorem jJ {a:Act}{w:World}(h:Q .normal a w):qu P ops Q [] S a w:=h
theorem aO {b:Bool}{i:Nat}{r:List (Bool×Nat)}{a:Act}{w:World}{o:Oper}(ho:ops[i]? = some o)
  (h:∀ K:(World→Prop)→Act→World→Prop,(∀ S a w,qu P ops Q r S a w→K S a w)→aD P ops Q b o S a w K):qu P ops Q ((b,i)::r) S a w :=
 ⟨o,ho,h _ fun _ _ _ h=>h⟩
theorem bN {i:Nat}{r:List (Bool×Nat)}{a:Act}{w:World}{d:Tmp}{x:Operand}{ty:TypeId}{pos:String}{af:Array Edge}
  (ho:ops[i]? = some ⟨some d,.move x,ty,pos,af,none⟩) (h:qu P ops Q r S (a.put (some d) (a.eval x)) w):qu P ops Q ((true,i)::r) S a w :=
 ⟨_,ho,by
  unfold aD;rw [if_pos (by rfl),if_pos rfl];exact ⟨a.eval x,⟨rfl,rfl⟩,fun _ _=>⟨rfl,rfl⟩,h⟩⟩
theorem tR {md:Region.Mode}{S':World→Prop}(h:∀ w,S' w→S w) :
  ∀ (fuel:Nat) (listed:Array Bool) (a:Act) (w:World),wpAnyH P md ops Q S' fuel listed a w→wpAnyH P md ops Q S fuel listed a w
 | 0,_,_,_,hh=>hh
 | fuel+1,_,_,_,hh=>⟨hh.1,fun i hi=>wpOp_mono (fun _ _ k=>⟨h _ k.1,tR h fuel _ _ _ k.2⟩) (hh.2 i hi)⟩
theorem ox {w:World}{v:Value}{r:Result Next}(h:aq w v r):r=.ok (.value v) w:=by
 unfold aq at h
 split at h
 ·obtain ⟨rfl,rfl⟩:=h;rfl
 ·exact h.elim
theorem jd (hs:Region.noSelect ops=true) (hQ:∀ c a d v w,Q (.panic c) (Act.put a d v) w→Q (.panic c) a w) :
  ∀ (perm:List (Bool×Nat)) (listed:Array Bool) (S:World→Prop) (a:Act) (w:World),S w→yZ ops perm listed=true→qu P ops Q perm S a w→wpAnyH P .any ops Q S perm.length listed a w
 | [],listed,_,a,w,_,hok,h=>wpAnyH_done (by simpa [yZ] using hok) h _
 | (true,i)::r,listed,S,a,w,hS,hok,h=>by
  simp only [yZ,Bool.and_eq_true] at hok;obtain ⟨⟨h1,h2⟩,h3⟩:=hok;obtain ⟨o,ho,h⟩:=h;unfold aD at h
  by_cases hw:Region.wanted o (yielded ops a.tmps)=true
  ·rw [if_pos hw,if_pos rfl] at h
   obtain ⟨v,_,hv,hk⟩:=h;exact wpAnyH_take ho hs h2 h1 (fun c a w=>hQ c a o.dst v w) (.inl ⟨hw,fun w' hw'=>ox (hv w' hw')⟩) hS (jd hs hQ r _ _ _ _ hS h3 hk)
  ·rw [if_neg hw] at h
   exact wpAnyH_take ho hs h2 h1 (fun c a w=>hQ c a o.dst undef w) (.inr ⟨by simpa using hw,rfl⟩) hS (jd hs hQ r _ _ _ _ hS h3 h)
 | (false,i)::r,listed,S,a,w,hS,hok,h=>by
  simp only [yZ,Bool.and_eq_true,beq_iff_eq] at hok;obtain ⟨h1,h3⟩:=hok;obtain ⟨o,ho,h⟩:=h;refine wpAnyH_all h1 (by simp) ?_;intro j hj;obtain rfl:j=i:=by simpa using hj
  unfold aD at h;unfold wpOp;simp only [ho]
  by_cases hw:Region.wanted o (yielded ops a.tmps)=true
  ·rw [if_pos hw,if_neg (by simp)] at h
   rw [if_pos hw];refine .inl (Oper.wp_mono (fun a' w' hh=>?_) h);obtain ⟨S',k1,k2,k3⟩:=hh;exact ⟨k2 _ k1,tR k2 _ _ _ _ (jd hs hQ r _ _ _ _ k1 h3 k3)⟩
  ·rw [if_neg hw] at h
   rw [if_neg hw];exact ⟨hS,jd hs hQ r _ _ _ _ hS h3 h⟩
theorem eH {id:Nat}{a:Act}{w:World}(perm:List (Bool×Nat)) (S:World→Prop) (hS:S w.drew) (hm:P.follows .mixedOrders=true)
  (hs:Region.noSelect ops=true) (hok:(perm.length==ops.size&&yZ ops perm (Array.replicate ops.size false))=true)
  (hQ:∀ c a d v w,Q (.panic c) (Act.put a d v) w→Q (.panic c) a w) (h:qu P ops Q perm S a w.drew):(Code.region id ops true).wp P Q a w:=by
 simp only [Bool.and_eq_true,beq_iff_eq] at hok;refine wp_region_held (S:=S) hm ?_;have:=jd hs hQ perm _ _ _ _ hS hok.2 h;rwa [hok.1] at this
theorem Di {w w1:World}{a:Act}{K:(World→Prop)→Act→World→Prop}(hb:Below w.heap.size w w1) (h:K (Ext w1) a w1):∃ S':World→Prop,S' w1∧(∀ u,S' u→Ext w u)∧K S' a w1 :=
 ⟨Ext w1,Ext.refl _,fun _ hu=>Ext.trans hb hu,h⟩
theorem aT {w1:World}{a:Act}{K:(World→Prop)→Act→World→Prop}(hb:S w1) (h:K S a w1):∃ S':World→Prop,S' w1∧(∀ u,S' u→S u)∧K S' a w1 :=
 ⟨S,hb,fun _ hu=>hu,h⟩
end
theorem dy {P:Program}{ops:Array Oper}{Q:Exit→Act→World→Prop}{S:World→Prop}{i:Nat}{r:List (Bool×Nat)}{a:Act}{w:World}{o:Oper}(v:Value)
  (ho:ops[i]? = some o) (hg:Region.wanted o (yielded ops a.tmps)=true) (hS:S w) (hv:∀ u,S u→(execOp a.eval o).run P u=.ok (.value v) u)
  (h:qu P ops Q r S (a.put o.dst v) w):qu P ops Q ((true,i)::r) S a w :=
 ⟨o,ho,by
  unfold aD;rw [if_pos hg,if_pos rfl];exact ⟨v,by rw [hv w hS];exact ⟨rfl,rfl⟩,fun u hu=>by rw [hv u hu];exact ⟨rfl,rfl⟩,h⟩⟩
inductive OT where
 | fin:OT
 | rd:Nat→OT→OT
 | mk:Nat→OT→OT
 | fk:Nat→OT→Nat→OT→OT
def OT.ok (ops:Array Oper):OT→Nat→Array Bool→Bool
 | .fin,0,listed=>(Region.ready .any ops listed).isEmpty
 | .rd i r,n+1,listed=>(Region.ready .any ops listed).contains i&&Region.free .any ops listed i&&r.ok ops n (listed.setIfInBounds i true)
 | .mk i r,n+1,listed=>(Region.ready .any ops listed==[i])&&r.ok ops n (listed.setIfInBounds i true)
 | .fk i r j s,n+1,listed=>(Region.ready .any ops listed==[i,j])&&r.ok ops n (listed.setIfInBounds i true)&&s.ok ops n (listed.setIfInBounds j true)
 | _,_,_=>false
def vH (P:Program) (ops:Array Oper) (Q:Exit→Act→World→Prop):OT→(World→Prop)→Act→World→Prop
 | .fin,_,a,w=>Q .normal a w
 | .rd i r,S,a,w=>∃ o,ops[i]? = some o∧aD P ops Q true o S a w (vH P ops Q r)
 | .mk i r,S,a,w=>∃ o,ops[i]? = some o∧aD P ops Q false o S a w (vH P ops Q r)
 | .fk i r j s,S,a,w=>(∃ o,ops[i]? = some o∧aD P ops Q false o S a w (vH P ops Q r))∧(∃ o,ops[j]? = some o∧aD P ops Q false o S a w (vH P ops Q s))
section
variable {P:Program}{ops:Array Oper}{Q:Exit→Act→World→Prop}{S:World→Prop}
theorem aQ {a:Act}{w:World}(h:Q .normal a w):vH P ops Q .fin S a w:=h
theorem az {i:Nat}{r:OT}{a:Act}{w:World}{o:Oper}(ho:ops[i]? = some o)
  (h:∀ K:(World→Prop)→Act→World→Prop,(∀ S a w,vH P ops Q r S a w→K S a w)→aD P ops Q true o S a w K):vH P ops Q (.rd i r) S a w :=
 ⟨o,ho,h _ fun _ _ _ h=>h⟩
theorem aE {i:Nat}{r:OT}{a:Act}{w:World}{o:Oper}(ho:ops[i]? = some o)
  (h:∀ K:(World→Prop)→Act→World→Prop,(∀ S a w,vH P ops Q r S a w→K S a w)→aD P ops Q false o S a w K):vH P ops Q (.mk i r) S a w :=
 ⟨o,ho,h _ fun _ _ _ h=>h⟩
theorem jh {i j:Nat}{r s:OT}{a:Act}{w:World}(h1:vH P ops Q (.mk i r) S a w) (h2:vH P ops Q (.mk j s) S a w):vH P ops Q (.fk i r j s) S a w:=⟨h1,h2⟩
theorem an {i:Nat}{r:OT}{a:Act}{w:World}{d:Tmp}{x:Operand}{ty:TypeId}{pos:String}{af:Array Edge}
  (ho:ops[i]? = some ⟨some d,.move x,ty,pos,af,none⟩) (h:vH P ops Q r S (a.put (some d) (a.eval x)) w):vH P ops Q (.rd i r) S a w :=
 ⟨_,ho,by
  unfold aD;rw [if_pos (by rfl),if_pos rfl];exact ⟨a.eval x,⟨rfl,rfl⟩,fun _ _=>⟨rfl,rfl⟩,h⟩⟩
theorem aJ {i:Nat}{r:OT}{a:Act}{w:World}{o:Oper}(v:Value)
  (ho:ops[i]? = some o) (hg:Region.wanted o (yielded ops a.tmps)=true) (hS:S w) (hv:∀ u,S u→(execOp a.eval o).run P u=.ok (.value v) u)
  (h:vH P ops Q r S (a.put o.dst v) w):vH P ops Q (.rd i r) S a w :=
 ⟨o,ho,by
  unfold aD;rw [if_pos hg,if_pos rfl];exact ⟨v,by rw [hv w hS];exact ⟨rfl,rfl⟩,fun u hu=>by rw [hv u hu];exact ⟨rfl,rfl⟩,h⟩⟩
theorem C3 {fuel i:Nat}{listed:Array Bool}{a:Act}{w:World}{o:Oper}{X:(World→Prop)→Act→World→Prop}(ho:ops[i]? = some o) (hS:S w) (h:aD P ops Q false o S a w X)
  (hX:∀ (S':World→Prop) (a':Act) (w':World),S' w'→X S' a' w'→wpAnyH P .any ops Q S' fuel (listed.setIfInBounds i true) a' w') :
  wpOp P ops Q i (fun a' w'=>S w'∧wpAnyH P .any ops Q S fuel (listed.setIfInBounds i true) a' w') a w:=by
 unfold aD at h;unfold wpOp;simp only [ho]
 by_cases hw:Region.wanted o (yielded ops a.tmps)=true
 ·rw [if_pos hw,if_neg (by simp)] at h
  rw [if_pos hw];refine .inl (Oper.wp_mono (fun a' w' hh=>?_) h);obtain ⟨S',k1,k2,k3⟩:=hh;exact ⟨k2 _ k1,tR k2 _ _ _ _ (hX S' a' w' k1 k3)⟩
 ·rw [if_neg hw] at h
  rw [if_neg hw];exact ⟨hS,hX S _ w hS h⟩
theorem ey (hs:Region.noSelect ops=true) (hQ:∀ c a d v w,Q (.panic c) (Act.put a d v) w→Q (.panic c) a w) :
  ∀ (t:OT) (n:Nat) (listed:Array Bool) (S:World→Prop) (a:Act) (w:World),S w→t.ok ops n listed=true→vH P ops Q t S a w→wpAnyH P .any ops Q S n listed a w
 | .fin,0,listed,_,a,w,_,hok,h=>wpAnyH_done (by simpa [OT.ok] using hok) h _
 | .fin,n+1,_,_,_,_,_,hok,_=>by simp [OT.ok] at hok
 | .rd i r,0,_,_,_,_,_,hok,_=>by simp [OT.ok] at hok
 | .mk i r,0,_,_,_,_,_,hok,_=>by simp [OT.ok] at hok
 | .fk i r j s,0,_,_,_,_,_,hok,_=>by simp [OT.ok] at hok
 | .rd i r,n+1,listed,S,a,w,hS,hok,h=>by
  simp only [OT.ok,Bool.and_eq_true] at hok;obtain ⟨⟨h1,h2⟩,h3⟩:=hok;obtain ⟨o,ho,h⟩:=h;unfold aD at h
  by_cases hw:Region.wanted o (yielded ops a.tmps)=true
  ·rw [if_pos hw,if_pos rfl] at h
   obtain ⟨v,_,hv,hk⟩:=h;exact wpAnyH_take ho hs h2 h1 (fun c a w=>hQ c a o.dst v w) (.inl ⟨hw,fun w' hw'=>ox (hv w' hw')⟩) hS (ey hs hQ r n _ _ _ _ hS h3 hk)
  ·rw [if_neg hw] at h
   exact wpAnyH_take ho hs h2 h1 (fun c a w=>hQ c a o.dst undef w) (.inr ⟨by simpa using hw,rfl⟩) hS (ey hs hQ r n _ _ _ _ hS h3 h)
 | .mk i r,n+1,listed,S,a,w,hS,hok,h=>by
  simp only [OT.ok,Bool.and_eq_true,beq_iff_eq] at hok;obtain ⟨h1,h3⟩:=hok;obtain ⟨o,ho,h⟩:=h;refine wpAnyH_all h1 (by simp) ?_;intro j hj;obtain rfl:j=i:=by simpa using hj
  exact C3 ho hS h fun S' a' w' k1 k2=>ey hs hQ r n _ S' a' w' k1 h3 k2
 | .fk i r j s,n+1,listed,S,a,w,hS,hok,h=>by
  simp only [OT.ok,Bool.and_eq_true,beq_iff_eq] at hok;obtain ⟨⟨h1,h3⟩,h4⟩:=hok;obtain ⟨⟨o,ho,h⟩,⟨o',ho',h'⟩⟩:=h;refine wpAnyH_all h1 (by simp) ?_;intro k hk;have:k=i∨k=j:=by simpa using hk
  rcases this with rfl | rfl
  ·exact C3 ho hS h fun S' a' w' k1 k2=>ey hs hQ r n _ S' a' w' k1 h3 k2
  ·exact C3 ho' hS h' fun S' a' w' k1 k2=>ey hs hQ s n _ S' a' w' k1 h4 k2
theorem aF {id:Nat}{a:Act}{w:World}(t:OT) (S:World→Prop) (hS:S w.drew) (hm:P.follows .mixedOrders=true)
  (hs:Region.noSelect ops=true) (hok:t.ok ops ops.size (Array.replicate ops.size false)=true)
  (hQ:∀ c a d v w,Q (.panic c) (Act.put a d v) w→Q (.panic c) a w) (h:vH P ops Q t S a w.drew):(Code.region id ops true).wp P Q a w:=by
 refine wp_region_held (S:=S) hm ?_;exact ey hs hQ t _ _ S _ _ hS hok h
end
end Go.Proofs.YtddkjkockbcamaaGreatDoor
