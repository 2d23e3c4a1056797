/- A region that draws its order, walked in one order: what only reads comes as early as it may; what makes memory or calls comes up alone. Behind every maker the world has only grown. A region that draws its order, walked in one order, but for the places where two makers may come up: there both ways are walked. A region that draws its order, walked in one order up to an operation that waits for all that were read (a bar), and from there on anew: what is read ahead of the bar may be written behind it. -/
import Derived.Test.YtmmgfoepfapnkaaGreatDoorQ02
import Derived.OrdersHeld
import Derived.KernelRfl
namespace Go.Proofs.YtmmgfoepfapnkaaGreatDoor
open Go.RowKit

/-- the old memory is as it was -/
def Ext (w w' : World) : Prop := Below w.heap.size w w'
theorem Ext.refl (w : World) : Ext w w := Below.refl _ _
theorem Ext.trans {a b c : World} (h : Ext a b) (k : Ext b c) : Ext a c := ext_trans h k
/-- the order holds: a reader may come up and is apart from all others; a maker comes up alone -/
def canOK (ops : Array Oper) : List (Bool × Nat) → Array Bool → Bool
  | [], listed => (Region.ready .any ops listed).isEmpty
  | (true, i) :: r, listed => (Region.ready .any ops listed).contains i && Region.free .any ops listed i && canOK ops r (listed.setIfInBounds i true)
  | (false, i) :: r, listed => (Region.ready .any ops listed == [i]) && canOK ops r (listed.setIfInBounds i true)

/-- what a reader's run comes to -/
def readUpon (w : World) (v : Value) : Result Next → Prop
  | .ok (.value u) w' => w' = w ∧ u = v
  | _ => False

/-- one value in every world that meets S -/
def readsAs (P : Program) (S : World → Prop) (o : Oper) (a : Act) (w : World) (K : Act → Prop) : Prop :=
  ∃ v, readUpon w v ((execOp a.eval o).run P w) ∧ (∀ w', S w' → readUpon w' v ((execOp a.eval o).run P w')) ∧ K (a.put o.dst v)

/-- one operation of the walk; behind a maker a stronger S may be taken -/
def canOp (P : Program) (ops : Array Oper) (Q : Exit → Act → World → Prop) (b : Bool) (o : Oper) (S : World → Prop) (a : Act) (w : World) (K : (World → Prop) → Act → World → Prop) : Prop :=
  if Region.wanted o (yielded ops a.tmps) = true then
    (if b = true then readsAs P S o a w (fun a' => K S a' w) else o.wp P a w (fun a' w' => ∃ S' : World → Prop, S' w' ∧ (∀ u, S' u → S u) ∧ K S' a' w') Q)
  else K S (a.put o.dst undef) w

def wpCan (P : Program) (ops : Array Oper) (Q : Exit → Act → World → Prop) : List (Bool × Nat) → (World → Prop) → Act → World → Prop
  | [], _, a, w => Q .normal a w
  | (b, i) :: r, S, a, w => ∃ o, ops[i]? = some o ∧ canOp P ops Q b o S a w (wpCan P ops Q r)

section
variable {P : Program} {ops : Array Oper} {Q : Exit → Act → World → Prop} {S : World → Prop}
theorem wpCan_nil {a : Act} {w : World} (h : Q .normal a w) : wpCan P ops Q [] S a w := h
theorem wpCan_cons {b : Bool} {i : Nat} {r : List (Bool × Nat)} {a : Act} {w : World} {o : Oper} (ho : ops[i]? = some o)
    (h : ∀ K : (World → Prop) → Act → World → Prop, (∀ S a w, wpCan P ops Q r S a w → K S a w) → canOp P ops Q b o S a w K) : wpCan P ops Q ((b, i) :: r) S a w :=
  ⟨o, ho, h _ fun _ _ _ h => h⟩
/-- a copy of a slot -/
theorem wpCan_move {i : Nat} {r : List (Bool × Nat)} {a : Act} {w : World} {d : Tmp} {x : Operand} {ty : TypeId} {pos : String} {af : Array Edge}
    (ho : ops[i]? = some ⟨some d, .move x, ty, pos, af, none⟩) (h : wpCan P ops Q r S (a.put (some d) (a.eval x)) w) : wpCan P ops Q ((true, i) :: r) S a w :=
  ⟨_, ho, by
    unfold canOp
    rw [if_pos (by rfl), if_pos rfl]
    exact ⟨a.eval x, ⟨rfl, rfl⟩, fun _ _ => ⟨rfl, rfl⟩, h⟩⟩

theorem held_mono {md : Region.Mode} {S' : World → Prop} (h : ∀ w, S' w → S w) :
    ∀ (fuel : Nat) (listed : Array Bool) (a : Act) (w : World), wpAnyH P md ops Q S' fuel listed a w → wpAnyH P md ops Q S fuel listed a w
  | 0, _, _, _, hh => hh
  | fuel + 1, _, _, _, hh => ⟨hh.1, fun i hi => wpOp_mono (fun _ _ k => ⟨h _ k.1, held_mono h fuel _ _ _ k.2⟩) (hh.2 i hi)⟩

theorem readUpon_ok {w : World} {v : Value} {r : Result Next} (h : readUpon w v r) : r = .ok (.value v) w := by
  unfold readUpon at h
  split at h
  · obtain ⟨rfl, rfl⟩ := h; rfl
  · exact h.elim

theorem held_of_can (hs : Region.noSelect ops = true) (hQ : ∀ c a d v w, Q (.panic c) (Act.put a d v) w → Q (.panic c) a w) :
    ∀ (perm : List (Bool × Nat)) (listed : Array Bool) (S : World → Prop) (a : Act) (w : World), S w → canOK ops perm listed = true → wpCan P ops Q perm S a w → wpAnyH P .any ops Q S perm.length listed a w
  | [], listed, _, a, w, _, hok, h => wpAnyH_done (by simpa [canOK] using hok) h _
  | (true, i) :: r, listed, S, a, w, hS, hok, h => by
    simp only [canOK, Bool.and_eq_true] at hok
    obtain ⟨⟨h1, h2⟩, h3⟩ := hok
    obtain ⟨o, ho, h⟩ := h
    unfold canOp at h
    by_cases hw : Region.wanted o (yielded ops a.tmps) = true
    · rw [if_pos hw, if_pos rfl] at h
      obtain ⟨v, _, hv, hk⟩ := h
      exact wpAnyH_take ho hs h2 h1 (fun c a w => hQ c a o.dst v w) (.inl ⟨hw, fun w' hw' => readUpon_ok (hv w' hw')⟩) hS (held_of_can hs hQ r _ _ _ _ hS h3 hk)
    · rw [if_neg hw] at h
      exact wpAnyH_take ho hs h2 h1 (fun c a w => hQ c a o.dst undef w) (.inr ⟨by simpa using hw, rfl⟩) hS (held_of_can hs hQ r _ _ _ _ hS h3 h)
  | (false, i) :: r, listed, S, a, w, hS, hok, h => by
    simp only [canOK, Bool.and_eq_true, beq_iff_eq] at hok
    obtain ⟨h1, h3⟩ := hok
    obtain ⟨o, ho, h⟩ := h
    refine wpAnyH_all h1 (by simp) ?_
    intro j hj
    obtain rfl : j = i := by simpa using hj
    unfold canOp at h
    unfold wpOp
    simp only [ho]
    by_cases hw : Region.wanted o (yielded ops a.tmps) = true
    · rw [if_pos hw, if_neg (by simp)] at h
      rw [if_pos hw]
      refine .inl (Oper.wp_mono (fun a' w' hh => ?_) h)
      obtain ⟨S', k1, k2, k3⟩ := hh
      exact ⟨k2 _ k1, held_mono k2 _ _ _ _ (held_of_can hs hQ r _ _ _ _ k1 h3 k3)⟩
    · rw [if_neg hw] at h
      rw [if_neg hw]
      exact ⟨hS, held_of_can hs hQ r _ _ _ _ hS h3 h⟩

/-- the beginning -/
theorem wp_region_can {id : Nat} {a : Act} {w : World} (perm : List (Bool × Nat)) (S : World → Prop) (hS : S w.drew) (hm : P.follows .mixedOrders = true)
    (hs : Region.noSelect ops = true) (hok : (perm.length == ops.size && canOK ops perm (Array.replicate ops.size false)) = true)
    (hQ : ∀ c a d v w, Q (.panic c) (Act.put a d v) w → Q (.panic c) a w) (h : wpCan P ops Q perm S a w.drew) : (Code.region id ops true).wp P Q a w := by
  simp only [Bool.and_eq_true, beq_iff_eq] at hok
  refine wp_region_held (S := S) hm ?_
  have := held_of_can hs hQ perm _ _ _ _ hS hok.2 h
  rwa [hok.1] at this
theorem can_ext {w w1 : World} {a : Act} {K : (World → Prop) → Act → World → Prop} (hb : Below w.heap.size w w1) (h : K (Ext w1) a w1) : ∃ S' : World → Prop, S' w1 ∧ (∀ u, S' u → Ext w u) ∧ K S' a w1 :=
  ⟨Ext w1, Ext.refl _, fun _ hu => Ext.trans hb hu, h⟩
/-- behind a maker that may have written to rows of the call's own, from B on -/
theorem can_same {w1 : World} {a : Act} {K : (World → Prop) → Act → World → Prop} (hb : S w1) (h : K S a w1) : ∃ S' : World → Prop, S' w1 ∧ (∀ u, S' u → S u) ∧ K S' a w1 :=
  ⟨S, hb, fun _ hu => hu, h⟩
end

/-- a read of memory, which is the same in every world that may come -/
theorem wpCan_read {P : Program} {ops : Array Oper} {Q : Exit → Act → World → Prop} {S : World → Prop} {i : Nat} {r : List (Bool × Nat)} {a : Act} {w : World} {o : Oper} (v : Value)
    (ho : ops[i]? = some o) (hg : Region.wanted o (yielded ops a.tmps) = true) (hS : S w) (hv : ∀ u, S u → (execOp a.eval o).run P u = .ok (.value v) u)
    (h : wpCan P ops Q r S (a.put o.dst v) w) : wpCan P ops Q ((true, i) :: r) S a w :=
  ⟨o, ho, by
    unfold canOp
    rw [if_pos hg, if_pos rfl]
    exact ⟨v, by rw [hv w hS]; exact ⟨rfl, rfl⟩, fun u hu => by rw [hv u hu]; exact ⟨rfl, rfl⟩, h⟩⟩
end Go.Proofs.YtmmgfoepfapnkaaGreatDoor

namespace Go.Proofs.YtmmgfoepfapnkaaGreatDoor
open Go.RowKit

/-- an order that parts in two where two makers may come up -/
inductive OT where
  | fin : OT
  | rd : Nat → OT → OT
  | mk : Nat → OT → OT
  | fk : Nat → OT → Nat → OT → OT

def OT.ok (ops : Array Oper) : OT → Nat → Array Bool → Bool
  | .fin, 0, listed => (Region.ready .any ops listed).isEmpty
  | .rd i r, n + 1, listed => (Region.ready .any ops listed).contains i && Region.free .any ops listed i && r.ok ops n (listed.setIfInBounds i true)
  | .mk i r, n + 1, listed => (Region.ready .any ops listed == [i]) && r.ok ops n (listed.setIfInBounds i true)
  | .fk i r j s, n + 1, listed => (Region.ready .any ops listed == [i, j]) && r.ok ops n (listed.setIfInBounds i true) && s.ok ops n (listed.setIfInBounds j true)
  | _, _, _ => false

def wpT (P : Program) (ops : Array Oper) (Q : Exit → Act → World → Prop) : OT → (World → Prop) → Act → World → Prop
  | .fin, _, a, w => Q .normal a w
  | .rd i r, S, a, w => ∃ o, ops[i]? = some o ∧ canOp P ops Q true o S a w (wpT P ops Q r)
  | .mk i r, S, a, w => ∃ o, ops[i]? = some o ∧ canOp P ops Q false o S a w (wpT P ops Q r)
  | .fk i r j s, S, a, w => (∃ o, ops[i]? = some o ∧ canOp P ops Q false o S a w (wpT P ops Q r)) ∧ (∃ o, ops[j]? = some o ∧ canOp P ops Q false o S a w (wpT P ops Q s))

section
variable {P : Program} {ops : Array Oper} {Q : Exit → Act → World → Prop} {S : World → Prop}
theorem wpT_fin {a : Act} {w : World} (h : Q .normal a w) : wpT P ops Q .fin S a w := h
theorem wpT_rd {i : Nat} {r : OT} {a : Act} {w : World} {o : Oper} (ho : ops[i]? = some o)
    (h : ∀ K : (World → Prop) → Act → World → Prop, (∀ S a w, wpT P ops Q r S a w → K S a w) → canOp P ops Q true o S a w K) : wpT P ops Q (.rd i r) S a w :=
  ⟨o, ho, h _ fun _ _ _ h => h⟩
theorem wpT_mk {i : Nat} {r : OT} {a : Act} {w : World} {o : Oper} (ho : ops[i]? = some o)
    (h : ∀ K : (World → Prop) → Act → World → Prop, (∀ S a w, wpT P ops Q r S a w → K S a w) → canOp P ops Q false o S a w K) : wpT P ops Q (.mk i r) S a w :=
  ⟨o, ho, h _ fun _ _ _ h => h⟩
theorem wpT_fk {i j : Nat} {r s : OT} {a : Act} {w : World} (h1 : wpT P ops Q (.mk i r) S a w) (h2 : wpT P ops Q (.mk j s) S a w) : wpT P ops Q (.fk i r j s) S a w := ⟨h1, h2⟩
theorem wpT_move {i : Nat} {r : OT} {a : Act} {w : World} {d : Tmp} {x : Operand} {ty : TypeId} {pos : String} {af : Array Edge}
    (ho : ops[i]? = some ⟨some d, .move x, ty, pos, af, none⟩) (h : wpT P ops Q r S (a.put (some d) (a.eval x)) w) : wpT P ops Q (.rd i r) S a w :=
  ⟨_, ho, by
    unfold canOp
    rw [if_pos (by rfl), if_pos rfl]
    exact ⟨a.eval x, ⟨rfl, rfl⟩, fun _ _ => ⟨rfl, rfl⟩, h⟩⟩
theorem wpT_read {i : Nat} {r : OT} {a : Act} {w : World} {o : Oper} (v : Value)
    (ho : ops[i]? = some o) (hg : Region.wanted o (yielded ops a.tmps) = true) (hS : S w) (hv : ∀ u, S u → (execOp a.eval o).run P u = .ok (.value v) u)
    (h : wpT P ops Q r S (a.put o.dst v) w) : wpT P ops Q (.rd i r) S a w :=
  ⟨o, ho, by
    unfold canOp
    rw [if_pos hg, if_pos rfl]
    exact ⟨v, by rw [hv w hS]; exact ⟨rfl, rfl⟩, fun u hu => by rw [hv u hu]; exact ⟨rfl, rfl⟩, h⟩⟩

/-- one maker that comes up -/
theorem held_mk {fuel i : Nat} {listed : Array Bool} {a : Act} {w : World} {o : Oper} {X : (World → Prop) → Act → World → Prop} (ho : ops[i]? = some o) (hS : S w) (h : canOp P ops Q false o S a w X)
    (hX : ∀ (S' : World → Prop) (a' : Act) (w' : World), S' w' → X S' a' w' → wpAnyH P .any ops Q S' fuel (listed.setIfInBounds i true) a' w') :
    wpOp P ops Q i (fun a' w' => S w' ∧ wpAnyH P .any ops Q S fuel (listed.setIfInBounds i true) a' w') a w := by
  unfold canOp at h
  unfold wpOp
  simp only [ho]
  by_cases hw : Region.wanted o (yielded ops a.tmps) = true
  · rw [if_pos hw, if_neg (by simp)] at h
    rw [if_pos hw]
    refine .inl (Oper.wp_mono (fun a' w' hh => ?_) h)
    obtain ⟨S', k1, k2, k3⟩ := hh
    exact ⟨k2 _ k1, held_mono k2 _ _ _ _ (hX S' a' w' k1 k3)⟩
  · rw [if_neg hw] at h
    rw [if_neg hw]
    exact ⟨hS, hX S _ w hS h⟩

theorem held_of_tree (hs : Region.noSelect ops = true) (hQ : ∀ c a d v w, Q (.panic c) (Act.put a d v) w → Q (.panic c) a w) :
    ∀ (t : OT) (n : Nat) (listed : Array Bool) (S : World → Prop) (a : Act) (w : World), S w → t.ok ops n listed = true → wpT P ops Q t S a w → wpAnyH P .any ops Q S n listed a w
  | .fin, 0, listed, _, a, w, _, hok, h => wpAnyH_done (by simpa [OT.ok] using hok) h _
  | .fin, n + 1, _, _, _, _, _, hok, _ => by simp [OT.ok] at hok
  | .rd i r, 0, _, _, _, _, _, hok, _ => by simp [OT.ok] at hok
  | .mk i r, 0, _, _, _, _, _, hok, _ => by simp [OT.ok] at hok
  | .fk i r j s, 0, _, _, _, _, _, hok, _ => by simp [OT.ok] at hok
  | .rd i r, n + 1, listed, S, a, w, hS, hok, h => by
    simp only [OT.ok, Bool.and_eq_true] at hok
    obtain ⟨⟨h1, h2⟩, h3⟩ := hok
    obtain ⟨o, ho, h⟩ := h
    unfold canOp at h
    by_cases hw : Region.wanted o (yielded ops a.tmps) = true
    · rw [if_pos hw, if_pos rfl] at h
      obtain ⟨v, _, hv, hk⟩ := h
      exact wpAnyH_take ho hs h2 h1 (fun c a w => hQ c a o.dst v w) (.inl ⟨hw, fun w' hw' => readUpon_ok (hv w' hw')⟩) hS (held_of_tree hs hQ r n _ _ _ _ hS h3 hk)
    · rw [if_neg hw] at h
      exact wpAnyH_take ho hs h2 h1 (fun c a w => hQ c a o.dst undef w) (.inr ⟨by simpa using hw, rfl⟩) hS (held_of_tree hs hQ r n _ _ _ _ hS h3 h)
  | .mk i r, n + 1, listed, S, a, w, hS, hok, h => by
    simp only [OT.ok, Bool.and_eq_true, beq_iff_eq] at hok
    obtain ⟨h1, h3⟩ := hok
    obtain ⟨o, ho, h⟩ := h
    refine wpAnyH_all h1 (by simp) ?_
    intro j hj
    obtain rfl : j = i := by simpa using hj
    exact held_mk ho hS h fun S' a' w' k1 k2 => held_of_tree hs hQ r n _ S' a' w' k1 h3 k2
  | .fk i r j s, n + 1, listed, S, a, w, hS, hok, h => by
    simp only [OT.ok, Bool.and_eq_true, beq_iff_eq] at hok
    obtain ⟨⟨h1, h3⟩, h4⟩ := hok
    obtain ⟨⟨o, ho, h⟩, ⟨o', ho', h'⟩⟩ := h
    refine wpAnyH_all h1 (by simp) ?_
    intro k hk
    have : k = i ∨ k = j := by simpa using hk
    rcases this with rfl | rfl
    · exact held_mk ho hS h fun S' a' w' k1 k2 => held_of_tree hs hQ r n _ S' a' w' k1 h3 k2
    · exact held_mk ho' hS h' fun S' a' w' k1 k2 => held_of_tree hs hQ s n _ S' a' w' k1 h4 k2

/-- the beginning -/
theorem wp_region_tree {id : Nat} {a : Act} {w : World} (t : OT) (S : World → Prop) (hS : S w.drew) (hm : P.follows .mixedOrders = true)
    (hs : Region.noSelect ops = true) (hok : t.ok ops ops.size (Array.replicate ops.size false) = true)
    (hQ : ∀ c a d v w, Q (.panic c) (Act.put a d v) w → Q (.panic c) a w) (h : wpT P ops Q t S a w.drew) : (Code.region id ops true).wp P Q a w := by
  refine wp_region_held (S := S) hm ?_
  exact held_of_tree hs hQ t _ _ S _ _ hS hok h
end
end Go.Proofs.YtmmgfoepfapnkaaGreatDoor

namespace Go.Proofs.YtmmgfoepfapnkaaGreatDoor
open Go.RowKit

/-- whatever order: S holds up to the bar; behind it nothing is asked -/
def wpAnyB (P : Program) (md : Region.Mode) (ops : Array Oper) (Q : Exit → Act → World → Prop) (S : World → Prop) (bar : Nat) : Nat → Array Bool → Act → World → Prop
  | 0, listed, a, w => Region.ready md ops listed = [] ∧ Q .normal a w
  | fuel + 1, listed, a, w =>
    (Region.ready md ops listed = [] → Q .normal a w) ∧
    ∀ i ∈ Region.ready md ops listed, wpOp P ops Q i (fun a' w' => if i = bar then wpAny P md ops Q fuel (listed.setIfInBounds i true) a' w' else S w' ∧ wpAnyB P md ops Q S bar fuel (listed.setIfInBounds i true) a' w') a w

section
variable {P : Program} {md : Region.Mode} {ops : Array Oper} {Q : Exit → Act → World → Prop} {S : World → Prop} {bar : Nat}
theorem wpAny_of_bar : ∀ (fuel : Nat) (listed : Array Bool) (a : Act) (w : World), wpAnyB P md ops Q S bar fuel listed a w → wpAny P md ops Q fuel listed a w
  | 0, _, _, _, h => h
  | fuel + 1, _, _, _, h => ⟨h.1, fun i hi => wpOp_mono (fun a' w' h' => by
      by_cases hib : i = bar
      · rw [if_pos hib] at h'; exact h'
      · rw [if_neg hib] at h'; exact wpAny_of_bar fuel _ a' w' h'.2) (h.2 i hi)⟩
theorem bar_mono {S' : World → Prop} (h : ∀ w, S' w → S w) :
    ∀ (fuel : Nat) (listed : Array Bool) (a : Act) (w : World), wpAnyB P md ops Q S' bar fuel listed a w → wpAnyB P md ops Q S bar fuel listed a w
  | 0, _, _, _, hh => hh
  | fuel + 1, _, _, _, hh => ⟨hh.1, fun i hi => wpOp_mono (fun a' w' k => by
      by_cases hib : i = bar
      · rw [if_pos hib] at k ⊢; exact k
      · rw [if_neg hib] at k ⊢; exact ⟨h _ k.1, bar_mono h fuel _ _ _ k.2⟩) (hh.2 i hi)⟩
theorem wpAnyB_first {i : Nat} {oi ob : Oper} {v : Value} (hi : ops[i]? = some oi) (hsel : ∀ (j : Nat) (o : Oper) cs b, ops[j]? = some o → o.op ≠ .select cs b)
    (hQ : ∀ c a w, Q (.panic c) (a.put oi.dst v) w → Q (.panic c) a w) (hib : i ≠ bar) (hob : ops[bar]? = some ob) (hbw : ∃ e ∈ ob.after, Region.binds md e = true ∧ e.on = i) :
    ∀ (fuel : Nat) (listed : Array Bool) (a : Act) (w : World),
      (∀ j oj, ops[j]? = some oj → j ≠ i → listed.getD j true = false → (∀ e ∈ oj.after, Region.binds md e = true → e.on ≠ i) → oi.apart ops oj = true) →
      i ∈ Region.ready md ops listed → YieldsIf P ops S oi v a → S w →
      wpAnyB P md ops Q S bar fuel (listed.setIfInBounds i true) (a.put oi.dst v) w → wpAnyB P md ops Q S bar (fuel + 1) listed a w := by
  intro fuel
  induction fuel with
  | zero =>
    intro listed a w _ hr hy hS H
    refine ⟨fun h => (by rw [h] at hr; cases hr), fun j hj => ?_⟩
    by_cases hji : j = i
    · subst hji; exact hy.wpOp hi hS (by rw [if_neg hib]; exact ⟨hS, H⟩)
    · have := ready_mono hj hji
      rw [H.1] at this
      cases this
  | succ fuel ih =>
    intro listed a w hfree hr hy hS H
    refine ⟨fun h => (by rw [h] at hr; cases hr), fun j hj => ?_⟩
    by_cases hji : j = i
    · subst hji; exact hy.wpOp hi hS (by rw [if_neg hib]; exact ⟨hS, H⟩)
    · have h1 := H.2 j (ready_mono hj hji)
      obtain ⟨hjun, oj, hoj, hall⟩ := mem_ready.1 hj
      have hnot : ∀ e ∈ oj.after, Region.binds md e = true → e.on ≠ i := fun e he hb heq => by
        have h1 := hall e he hb
        have h0 := (mem_ready.1 hr).1
        rw [heq] at h1
        rcases Nat.lt_or_ge i listed.size with h' | h'
        · simp [h'] at h0 h1; rw [h0] at h1; cases h1
        · simp [Array.getElem?_eq_none h'] at h1
      have hjb : j ≠ bar := fun e => by
        subst e
        rw [hob] at hoj; cases hoj
        obtain ⟨e, he, hb, heq⟩ := hbw
        exact hnot e he hb heq
      simp only [if_neg hjb] at h1 ⊢
      have h2 := wpOp_putIf hoj (hfree j oj hoj hji hjun hnot) (fun cs b => hsel i oi cs b hi) (fun cs b => hsel j oj cs b hoj) hQ hy h1
      have hfree' : ∀ k ok, ops[k]? = some ok → k ≠ i → (listed.setIfInBounds j true).getD k true = false →
          (∀ e ∈ ok.after, Region.binds md e = true → e.on ≠ i) → oi.apart ops ok = true := fun k ok hk hki hun hno => by
        refine hfree k ok hk hki ?_ hno
        by_cases hjk : j = k
        · subst hjk; exact hjun
        · rw [getD_set_ne true hjk] at hun; exact hun
      refine wpOp_mono (fun a' w' h3 => ⟨h3.2.1, ih (listed.setIfInBounds j true) a' w' hfree' (ready_mono hr (Ne.symm hji)) h3.1 h3.2.1 ?_⟩) h2
      rw [Array.setIfInBounds_comm _ _ hji]
      exact h3.2.2
end

/-- the order holds up to the bar, and behind it -/
def barOK (ops : Array Oper) (bar : Nat) (p2 : OT) (n2 : Nat) : List (Bool × Nat) → Array Bool → Bool
  | [], listed => (Region.ready .any ops listed == [bar]) && p2.ok ops n2 (listed.setIfInBounds bar true)
  | (true, i) :: r, listed => (Region.ready .any ops listed).contains i && Region.free .any ops listed i && (i != bar) && (match ops[bar]? with
      | some ob => ob.after.any (fun e => Region.binds .any e && e.on == i)
      | none => false) && barOK ops bar p2 n2 r (listed.setIfInBounds i true)
  | (false, i) :: r, listed => (Region.ready .any ops listed == [i]) && (i != bar) && barOK ops bar p2 n2 r (listed.setIfInBounds i true)
def wpBar (P : Program) (ops : Array Oper) (Q : Exit → Act → World → Prop) (bar : Nat) (p2 : OT) : List (Bool × Nat) → (World → Prop) → Act → World → Prop
  | [], _, a, w => ∃ o, ops[bar]? = some o ∧ Region.wanted o (yielded ops a.tmps) = true ∧ o.wp P a w (fun a' w' => ∃ S2 : World → Prop, S2 w' ∧ wpT P ops Q p2 S2 a' w') Q
  | (b, i) :: r, S, a, w => ∃ o, ops[i]? = some o ∧ canOp P ops Q b o S a w (wpBar P ops Q bar p2 r)

section
variable {P : Program} {ops : Array Oper} {Q : Exit → Act → World → Prop} {S : World → Prop} {bar : Nat} {p2 : OT} {n2 : Nat}
theorem wpBar_cons {b : Bool} {i : Nat} {r : List (Bool × Nat)} {a : Act} {w : World} {o : Oper} (ho : ops[i]? = some o)
    (h : ∀ K : (World → Prop) → Act → World → Prop, (∀ S a w, wpBar P ops Q bar p2 r S a w → K S a w) → canOp P ops Q b o S a w K) : wpBar P ops Q bar p2 ((b, i) :: r) S a w :=
  ⟨o, ho, h _ fun _ _ _ h => h⟩
theorem wpBar_move {i : Nat} {r : List (Bool × Nat)} {a : Act} {w : World} {d : Tmp} {x : Operand} {ty : TypeId} {pos : String} {af : Array Edge}
    (ho : ops[i]? = some ⟨some d, .move x, ty, pos, af, none⟩) (h : wpBar P ops Q bar p2 r S (a.put (some d) (a.eval x)) w) : wpBar P ops Q bar p2 ((true, i) :: r) S a w :=
  ⟨_, ho, by
    unfold canOp
    rw [if_pos (by rfl), if_pos rfl]
    exact ⟨a.eval x, ⟨rfl, rfl⟩, fun _ _ => ⟨rfl, rfl⟩, h⟩⟩
theorem wpBar_read {i : Nat} {r : List (Bool × Nat)} {a : Act} {w : World} {o : Oper} (v : Value)
    (ho : ops[i]? = some o) (hg : Region.wanted o (yielded ops a.tmps) = true) (hS : S w) (hv : ∀ u, S u → (execOp a.eval o).run P u = .ok (.value v) u)
    (h : wpBar P ops Q bar p2 r S (a.put o.dst v) w) : wpBar P ops Q bar p2 ((true, i) :: r) S a w :=
  ⟨o, ho, by
    unfold canOp
    rw [if_pos hg, if_pos rfl]
    exact ⟨v, by rw [hv w hS]; exact ⟨rfl, rfl⟩, fun u hu => by rw [hv u hu]; exact ⟨rfl, rfl⟩, h⟩⟩
/-- the bar -/
theorem wpBar_bar {a : Act} {w : World} {o : Oper} (ho : ops[bar]? = some o) (hg : Region.wanted o (yielded ops a.tmps) = true)
    (h : o.wp P a w (fun a' w' => ∃ S2 : World → Prop, S2 w' ∧ wpT P ops Q p2 S2 a' w') Q) : wpBar P ops Q bar p2 [] S a w := ⟨o, ho, hg, h⟩

theorem bar_of_can (hs : Region.noSelect ops = true) (hQ : ∀ c a d v w, Q (.panic c) (Act.put a d v) w → Q (.panic c) a w) :
    ∀ (perm : List (Bool × Nat)) (listed : Array Bool) (S : World → Prop) (a : Act) (w : World), S w → barOK ops bar p2 n2 perm listed = true → wpBar P ops Q bar p2 perm S a w → wpAnyB P .any ops Q S bar (perm.length + 1 + n2) listed a w
  | [], listed, S, a, w, _, hok, h => by
    simp only [barOK, Bool.and_eq_true, beq_iff_eq] at hok
    obtain ⟨h1, h3⟩ := hok
    obtain ⟨o, ho, hw, h⟩ := h
    rw [List.length_nil, Nat.zero_add, Nat.add_comm]
    refine ⟨fun h0 => (by rw [h1] at h0; cases h0), fun j hj => ?_⟩
    rw [h1] at hj
    obtain rfl : j = bar := by simpa using hj
    unfold wpOp
    simp only [ho]
    rw [if_pos hw]
    refine .inl (Oper.wp_mono (fun a' w' hh => ?_) h)
    obtain ⟨S2, k1, k2⟩ := hh
    rw [if_pos trivial]
    exact wpAny_of_held _ _ _ _ (held_of_tree hs hQ p2 _ _ _ _ _ k1 h3 k2)
  | (true, i) :: r, listed, S, a, w, hS, hok, h => by
    simp only [barOK, Bool.and_eq_true] at hok
    obtain ⟨⟨⟨⟨h1, h2⟩, h4⟩, h5⟩, h3⟩ := hok
    obtain ⟨o, ho, h⟩ := h
    have hib : i ≠ bar := by simpa using h4
    cases hob : ops[bar]? with
    | none => rw [hob] at h5; cases h5
    | some ob =>
      rw [hob] at h5
      obtain ⟨e, he, h6⟩ := Array.any_eq_true'.1 h5
      simp only [Bool.and_eq_true, beq_iff_eq] at h6
      have hfr := Region.free_spec ho h2
      rw [show ((true, i) :: r).length + 1 + n2 = (r.length + 1 + n2) + 1 from by simp only [List.length_cons]; omega]
      unfold canOp at h
      by_cases hw : Region.wanted o (yielded ops a.tmps) = true
      · rw [if_pos hw, if_pos rfl] at h
        obtain ⟨v, _, hv, hk⟩ := h
        exact wpAnyB_first ho (Region.noSelect_spec hs) (fun c a w => hQ c a o.dst v w) hib hob ⟨e, he, h6.1, h6.2⟩ _ _ _ _ hfr (by simpa using h1) (.inl ⟨hw, fun w' hw' => readUpon_ok (hv w' hw')⟩) hS (bar_of_can hs hQ r _ _ _ _ hS h3 hk)
      · rw [if_neg hw] at h
        exact wpAnyB_first ho (Region.noSelect_spec hs) (fun c a w => hQ c a o.dst undef w) hib hob ⟨e, he, h6.1, h6.2⟩ _ _ _ _ hfr (by simpa using h1) (.inr ⟨by simpa using hw, rfl⟩) hS (bar_of_can hs hQ r _ _ _ _ hS h3 h)
  | (false, i) :: r, listed, S, a, w, hS, hok, h => by
    simp only [barOK, Bool.and_eq_true, beq_iff_eq] at hok
    obtain ⟨⟨h1, h4⟩, h3⟩ := hok
    have hib : i ≠ bar := by simpa using h4
    obtain ⟨o, ho, h⟩ := h
    rw [show ((false, i) :: r).length + 1 + n2 = (r.length + 1 + n2) + 1 from by simp only [List.length_cons]; omega]
    refine ⟨fun h0 => (by rw [h1] at h0; cases h0), fun j hj => ?_⟩
    rw [h1] at hj
    obtain rfl : j = i := by simpa using hj
    unfold canOp at h
    unfold wpOp
    simp only [ho, if_neg hib]
    by_cases hw : Region.wanted o (yielded ops a.tmps) = true
    · rw [if_pos hw, if_neg (by simp)] at h
      rw [if_pos hw]
      refine .inl (Oper.wp_mono (fun a' w' hh => ?_) h)
      obtain ⟨S', k1, k2, k3⟩ := hh
      exact ⟨k2 _ k1, bar_mono k2 _ _ _ _ (bar_of_can hs hQ r _ _ _ _ k1 h3 k3)⟩
    · rw [if_neg hw] at h
      rw [if_neg hw]
      exact ⟨hS, bar_of_can hs hQ r _ _ _ _ hS h3 h⟩

theorem wp_region_bar {id : Nat} {a : Act} {w : World} (bar : Nat) (p1 : List (Bool × Nat)) (n2 : Nat) (p2 : OT) (S : World → Prop) (hS : S w.drew) (hm : P.follows .mixedOrders = true)
    (hs : Region.noSelect ops = true) (hok : (p1.length + 1 + n2 == ops.size && barOK ops bar p2 n2 p1 (Array.replicate ops.size false)) = true)
    (hQ : ∀ c a d v w, Q (.panic c) (Act.put a d v) w → Q (.panic c) a w) (h : wpBar P ops Q bar p2 p1 S a w.drew) : (Code.region id ops true).wp P Q a w := by
  simp only [Bool.and_eq_true, beq_iff_eq] at hok
  refine wp_region_any hm ?_
  have := bar_of_can hs hQ p1 _ _ _ _ hS hok.2 h
  rw [hok.1] at this
  exact wpAny_of_bar _ _ _ _ this
end
end Go.Proofs.YtmmgfoepfapnkaaGreatDoor
