/- Canon3 -/
import Derived.Test.YtddkjkockbcamaaGreatDoorHw04
set_option maxHeartbeats 16000000
set_option maxRecDepth 100000
namespace Go.Proofs.YtddkjkockbcamaaGreatDoor
open Go.RowKit
def qQ (P:Program) (md:Region.Mode) (ops:Array Oper) (Q:Exit→Act→World→Prop) (S:World→Prop) (bar:Nat):Nat→Array Bool→Act→World→Prop
 | 0,listed,a,w=>Region.ready md ops listed=[]∧Q .normal a w
 | fuel+1,listed,a,w =>
  (Region.ready md ops listed=[]→Q .normal a w) ∧
  ∀ i∈Region.ready md ops listed,wpOp P ops Q i (fun a' w'=>if i=bar then wpAny P md ops Q fuel (listed.setIfInBounds i true) a' w' else S w'∧qQ P md ops Q S bar fuel (listed.setIfInBounds i true) a' w') a w
section
variable {P:Program}{md:Region.Mode}{ops:Array Oper}{Q:Exit→Act→World→Prop}{S:World→Prop}{bar:Nat}
theorem sX:∀ (fuel:Nat) (listed:Array Bool) (a:Act) (w:World),qQ P md ops Q S bar fuel listed a w→wpAny P md ops Q fuel listed a w
 | 0,_,_,_,h=>h
 | fuel+1,_,_,_,h=>⟨h.1,fun i hi=>wpOp_mono (fun a' w' h'=>by
   by_cases hib:i=bar
   ·rw [if_pos hib] at h';exact h'
   ·rw [if_neg hib] at h';exact sX fuel _ a' w' h'.2) (h.2 i hi)⟩
theorem Gq {S':World→Prop}(h:∀ w,S' w→S w) :
  ∀ (fuel:Nat) (listed:Array Bool) (a:Act) (w:World),qQ P md ops Q S' bar fuel listed a w→qQ P md ops Q S bar fuel listed a w
 | 0,_,_,_,hh=>hh
 | fuel+1,_,_,_,hh=>⟨hh.1,fun i hi=>wpOp_mono (fun a' w' k=>by
   by_cases hib:i=bar
   ·rw [if_pos hib] at k ⊢;exact k
   ·rw [if_neg hib] at k ⊢;exact ⟨h _ k.1,Gq h fuel _ _ _ k.2⟩) (hh.2 i hi)⟩
theorem sJ {i:Nat}{oi ob:Oper}{v:Value}(hi:ops[i]? = some oi) (hsel:∀ (j:Nat) (o:Oper) cs b,ops[j]? = some o→o.op ≠ .select cs b)
  (hQ:∀ c a w,Q (.panic c) (a.put oi.dst v) w→Q (.panic c) a w) (hib:i≠bar) (Ma:ops[bar]? = some ob) (nS:∃ e∈ob.after,Region.binds md e=true∧e.on=i) :
  ∀ (fuel:Nat) (listed:Array Bool) (a:Act) (w:World),
   (∀ j oj,ops[j]? = some oj→j≠i→listed.getD j true=false→(∀ e∈oj.after,Region.binds md e=true→e.on≠i)→oi.apart ops oj=true) →
   i∈Region.ready md ops listed→YieldsIf P ops S oi v a→S w →
   qQ P md ops Q S bar fuel (listed.setIfInBounds i true) (a.put oi.dst v) w→qQ P md ops Q S bar (fuel+1) listed a w:=by
 intro fuel
 induction fuel with
 | zero =>
  intro listed a w _ hr hy hS H;refine ⟨fun h=>(by rw [h] at hr;cases hr),fun j hj=>?_⟩
  by_cases hji:j=i
  ·subst hji;exact hy.wpOp hi hS (by rw [if_neg hib];exact ⟨hS,H⟩)
  ·have:=ready_mono hj hji
   rw [H.1] at this;cases this
 | succ fuel ih =>
  intro listed a w hfree hr hy hS H;refine ⟨fun h=>(by rw [h] at hr;cases hr),fun j hj=>?_⟩
  by_cases hji:j=i
  ·subst hji;exact hy.wpOp hi hS (by rw [if_neg hib];exact ⟨hS,H⟩)
  ·have h1:=H.2 j (ready_mono hj hji)
   obtain ⟨aa1,oj,B9,hall⟩:=mem_ready.1 hj;have hnot:∀ e∈oj.after,Region.binds md e=true→e.on≠i:=fun e he hb heq=>by
    have h1:=hall e he hb;have h0:=(mem_ready.1 hr).1;rw [heq] at h1;rcases Nat.lt_or_ge i listed.size with h' | h'
    ·simp [h'] at h0 h1;rw [h0] at h1;cases h1
    ·simp [Array.getElem?_eq_none h'] at h1
   have hjb:j≠bar:=fun e=>by
    subst e;rw [Ma] at B9;cases B9;obtain ⟨e,he,hb,heq⟩:=nS;exact hnot e he hb heq
   simp only [if_neg hjb] at h1 ⊢;have h2:=wpOp_putIf B9 (hfree j oj B9 hji aa1 hnot) (fun cs b=>hsel i oi cs b hi) (fun cs b=>hsel j oj cs b B9) hQ hy h1;have X3:∀ k ok,ops[k]? = some ok→k≠i→(listed.setIfInBounds j true).getD k true=false →
     (∀ e∈ok.after,Region.binds md e=true→e.on≠i)→oi.apart ops ok=true:=fun k ok hk hki hun hno=>by
    refine hfree k ok hk hki ?_ hno
    by_cases hjk:j=k
    ·subst hjk;exact aa1
    ·rw [getD_set_ne true hjk] at hun;exact hun
   refine wpOp_mono (fun a' w' h3=>⟨h3.2.1,ih (listed.setIfInBounds j true) a' w' X3 (ready_mono hr (Ne.symm hji)) h3.1 h3.2.1 ?_⟩) h2;rw [Array.setIfInBounds_comm _ _ hji];exact h3.2.2
end
def yU (ops:Array Oper) (bar:Nat) (p2:OT) (n2:Nat):List (Bool×Nat)→Array Bool→Bool
 | [],listed=>(Region.ready .any ops listed==[bar])&&p2.ok ops n2 (listed.setIfInBounds bar true)
 | (true,i)::r,listed=>(Region.ready .any ops listed).contains i&&Region.free .any ops listed i&&(i != bar)&&(match ops[bar]? with
   | some ob=>ob.after.any (fun e=>Region.binds .any e&&e.on==i)
   | none=>false)&&yU ops bar p2 n2 r (listed.setIfInBounds i true)
 | (false,i)::r,listed=>(Region.ready .any ops listed==[i])&&(i != bar)&&yU ops bar p2 n2 r (listed.setIfInBounds i true)
def qx (P:Program) (ops:Array Oper) (Q:Exit→Act→World→Prop) (bar:Nat) (p2:OT):List (Bool×Nat)→(World→Prop)→Act→World→Prop
 | [],_,a,w=>∃ o,ops[bar]? = some o∧Region.wanted o (yielded ops a.tmps)=true∧o.wp P a w (fun a' w'=>∃ S2:World→Prop,S2 w'∧vH P ops Q p2 S2 a' w') Q
 | (b,i)::r,S,a,w=>∃ o,ops[i]? = some o∧aD P ops Q b o S a w (qx P ops Q bar p2 r)
section
variable {P:Program}{ops:Array Oper}{Q:Exit→Act→World→Prop}{S:World→Prop}{bar:Nat}{p2:OT}{n2:Nat}
theorem aB {b:Bool}{i:Nat}{r:List (Bool×Nat)}{a:Act}{w:World}{o:Oper}(ho:ops[i]? = some o)
  (h:∀ K:(World→Prop)→Act→World→Prop,(∀ S a w,qx P ops Q bar p2 r S a w→K S a w)→aD P ops Q b o S a w K):qx P ops Q bar p2 ((b,i)::r) S a w :=
 ⟨o,ho,h _ fun _ _ _ h=>h⟩
theorem bS {i:Nat}{r:List (Bool×Nat)}{a:Act}{w:World}{d:Tmp}{x:Operand}{ty:TypeId}{pos:String}{af:Array Edge}
  (ho:ops[i]? = some ⟨some d,.move x,ty,pos,af,none⟩) (h:qx P ops Q bar p2 r S (a.put (some d) (a.eval x)) w):qx P ops Q bar p2 ((true,i)::r) S a w :=
 ⟨_,ho,by
  unfold aD;rw [if_pos (by rfl),if_pos rfl];exact ⟨a.eval x,⟨rfl,rfl⟩,fun _ _=>⟨rfl,rfl⟩,h⟩⟩
theorem b9 {i:Nat}{r:List (Bool×Nat)}{a:Act}{w:World}{o:Oper}(v:Value)
  (ho:ops[i]? = some o) (hg:Region.wanted o (yielded ops a.tmps)=true) (hS:S w) (hv:∀ u,S u→(execOp a.eval o).run P u=.ok (.value v) u)
  (h:qx P ops Q bar p2 r S (a.put o.dst v) w):qx P ops Q bar p2 ((true,i)::r) S a w :=
 ⟨o,ho,by
  unfold aD;rw [if_pos hg,if_pos rfl];exact ⟨v,by rw [hv w hS];exact ⟨rfl,rfl⟩,fun u hu=>by rw [hv u hu];exact ⟨rfl,rfl⟩,h⟩⟩
theorem iy {a:Act}{w:World}{o:Oper}(ho:ops[bar]? = some o) (hg:Region.wanted o (yielded ops a.tmps)=true)
  (h:o.wp P a w (fun a' w'=>∃ S2:World→Prop,S2 w'∧vH P ops Q p2 S2 a' w') Q):qx P ops Q bar p2 [] S a w:=⟨o,ho,hg,h⟩
theorem jV (hs:Region.noSelect ops=true) (hQ:∀ c a d v w,Q (.panic c) (Act.put a d v) w→Q (.panic c) a w) :
  ∀ (perm:List (Bool×Nat)) (listed:Array Bool) (S:World→Prop) (a:Act) (w:World),S w→yU ops bar p2 n2 perm listed=true→qx P ops Q bar p2 perm S a w→qQ P .any ops Q S bar (perm.length+1+n2) listed a w
 | [],listed,S,a,w,_,hok,h=>by
  simp only [yU,Bool.and_eq_true,beq_iff_eq] at hok;obtain ⟨h1,h3⟩:=hok;obtain ⟨o,ho,hw,h⟩:=h;rw [List.length_nil,Nat.zero_add,Nat.add_comm];refine ⟨fun h0=>(by rw [h1] at h0;cases h0),fun j hj=>?_⟩;rw [h1] at hj;obtain rfl:j=bar:=by simpa using hj
  unfold wpOp;simp only [ho];rw [if_pos hw];refine .inl (Oper.wp_mono (fun a' w' hh=>?_) h);obtain ⟨S2,k1,k2⟩:=hh;rw [if_pos trivial];exact wpAny_of_held _ _ _ _ (ey hs hQ p2 _ _ _ _ _ k1 h3 k2)
 | (true,i)::r,listed,S,a,w,hS,hok,h=>by
  simp only [yU,Bool.and_eq_true] at hok;obtain ⟨⟨⟨⟨h1,h2⟩,h4⟩,h5⟩,h3⟩:=hok;obtain ⟨o,ho,h⟩:=h;have hib:i≠bar:=by simpa using h4
  cases Ma:ops[bar]? with
  | none=>rw [Ma] at h5;cases h5
  | some ob =>
   rw [Ma] at h5;obtain ⟨e,he,h6⟩:=Array.any_eq_true'.1 h5;simp only [Bool.and_eq_true,beq_iff_eq] at h6;have hfr:=Region.free_spec ho h2;rw [show ((true,i)::r).length+1+n2=(r.length+1+n2)+1 from by simp only [List.length_cons];omega];unfold aD at h
   by_cases hw:Region.wanted o (yielded ops a.tmps)=true
   ·rw [if_pos hw,if_pos rfl] at h
    obtain ⟨v,_,hv,hk⟩:=h;exact sJ ho (Region.noSelect_spec hs) (fun c a w=>hQ c a o.dst v w) hib Ma ⟨e,he,h6.1,h6.2⟩ _ _ _ _ hfr (by simpa using h1) (.inl ⟨hw,fun w' hw'=>ox (hv w' hw')⟩) hS (jV hs hQ r _ _ _ _ hS h3 hk)
   ·rw [if_neg hw] at h
    exact sJ ho (Region.noSelect_spec hs) (fun c a w=>hQ c a o.dst undef w) hib Ma ⟨e,he,h6.1,h6.2⟩ _ _ _ _ hfr (by simpa using h1) (.inr ⟨by simpa using hw,rfl⟩) hS (jV hs hQ r _ _ _ _ hS h3 h)
 | (false,i)::r,listed,S,a,w,hS,hok,h=>by
  simp only [yU,Bool.and_eq_true,beq_iff_eq] at hok;obtain ⟨⟨h1,h4⟩,h3⟩:=hok;have hib:i≠bar:=by simpa using h4
  obtain ⟨o,ho,h⟩:=h;rw [show ((false,i)::r).length+1+n2=(r.length+1+n2)+1 from by simp only [List.length_cons];omega];refine ⟨fun h0=>(by rw [h1] at h0;cases h0),fun j hj=>?_⟩;rw [h1] at hj;obtain rfl:j=i:=by simpa using hj
  unfold aD at h;unfold wpOp;simp only [ho,if_neg hib]
  by_cases hw:Region.wanted o (yielded ops a.tmps)=true
  ·rw [if_pos hw,if_neg (by simp)] at h
   rw [if_pos hw];refine .inl (Oper.wp_mono (fun a' w' hh=>?_) h);obtain ⟨S',k1,k2,k3⟩:=hh;exact ⟨k2 _ k1,Gq k2 _ _ _ _ (jV hs hQ r _ _ _ _ k1 h3 k3)⟩
  ·rw [if_neg hw] at h
   rw [if_neg hw];exact ⟨hS,jV hs hQ r _ _ _ _ hS h3 h⟩
theorem dG {id:Nat}{a:Act}{w:World}(bar:Nat) (p1:List (Bool×Nat)) (n2:Nat) (p2:OT) (S:World→Prop) (hS:S w.drew) (hm:P.follows .mixedOrders=true)
  (hs:Region.noSelect ops=true) (hok:(p1.length+1+n2==ops.size&&yU ops bar p2 n2 p1 (Array.replicate ops.size false))=true)
  (hQ:∀ c a d v w,Q (.panic c) (Act.put a d v) w→Q (.panic c) a w) (h:qx P ops Q bar p2 p1 S a w.drew):(Code.region id ops true).wp P Q a w:=by
 simp only [Bool.and_eq_true,beq_iff_eq] at hok;refine wp_region_any hm ?_;have:=jV hs hQ p1 _ _ _ _ hS hok.2 h;rw [hok.1] at this;exact sX _ _ _ _ this
end
end Go.Proofs.YtddkjkockbcamaaGreatDoor
