/- A region that draws its order, walked in one order: what only reads comes as early as it may; what makes memory or calls comes up alone. Behind every maker the world has only grown. -/
import Derived.Test.YtbddmnhmfmkbhaaMem
import Derived.OrdersHeld
import Derived.KernelRfl
namespace Go.Proofs.Ytbddmnhmfmkbhaa
open Go.RowKit

/-- the old memory is as it was -/
def Ext (w w' : World) : Prop := Below w.heap.size w w'
theorem Ext.refl (w : World) : Ext w w := Below.refl _ _
theorem Ext.trans {a b c : World} (h : Ext a b) (k : Ext b c) : Ext a c := ext_trans h k
theorem Ext.drewN {a b : World} (h : Ext a b) (n : Nat) : Ext a (b.drewN n) := below_drewN h n

/-- the order holds: a reader may come up and is apart from all others; a maker comes up alone -/
def canOK (ops : Array Oper) : List (Bool × Nat) → Array Bool → Bool
  | [], listed => (Region.ready .any ops listed).isEmpty
  | (true, i) :: r, listed => (Region.ready .any ops listed).contains i && Region.free .any ops listed i && canOK ops r (listed.setIfInBounds i true)
  | (false, i) :: r, listed => (Region.ready .any ops listed == [i]) && canOK ops r (listed.setIfInBounds i true)

/-- what a reader's run comes to -/
def readUpon (w : World) (v : Value) : Result Next → Prop
  | .ok (.value u) w' => w' = w ∧ u = v
  | _ => False

/-- one value in every later world -/
def readsAs (P : Program) (o : Oper) (a : Act) (w : World) (K : Act → Prop) : Prop :=
  ∃ v, readUpon w v ((execOp a.eval o).run P w) ∧ (∀ w', Ext w w' → readUpon w' v ((execOp a.eval o).run P w')) ∧ K (a.put o.dst v)

/-- one operation of the walk -/
def canOp (P : Program) (ops : Array Oper) (Q : Exit → Act → World → Prop) (b : Bool) (o : Oper) (a : Act) (w : World) (K : Act → World → Prop) : Prop :=
  if Region.wanted o (yielded ops a.tmps) = true then
    (if b = true then readsAs P o a w (fun a' => K a' w) else o.wp P a w (fun a' w' => Ext w w' ∧ K a' w') Q)
  else K (a.put o.dst undef) w

def wpCan (P : Program) (ops : Array Oper) (Q : Exit → Act → World → Prop) : List (Bool × Nat) → Act → World → Prop
  | [], a, w => Q .normal a w
  | (b, i) :: r, a, w => ∃ o, ops[i]? = some o ∧ canOp P ops Q b o a w (wpCan P ops Q r)

theorem wpCan_nil {P : Program} {ops : Array Oper} {Q : Exit → Act → World → Prop} {a : Act} {w : World} (h : Q .normal a w) : wpCan P ops Q [] a w := h
theorem wpCan_cons {P : Program} {ops : Array Oper} {Q : Exit → Act → World → Prop} {b : Bool} {i : Nat} {r : List (Bool × Nat)} {a : Act} {w : World} {o : Oper} (ho : ops[i]? = some o)
    (h : ∀ K : Act → World → Prop, (∀ a w, wpCan P ops Q r a w → K a w) → canOp P ops Q b o a w K) : wpCan P ops Q ((b, i) :: r) a w :=
  ⟨o, ho, h _ fun _ _ h => h⟩

theorem held_mono {P : Program} {md : Region.Mode} {ops : Array Oper} {Q : Exit → Act → World → Prop} {S S' : World → Prop} (h : ∀ w, S' w → S w) :
    ∀ (fuel : Nat) (listed : Array Bool) (a : Act) (w : World), wpAnyH P md ops Q S' fuel listed a w → wpAnyH P md ops Q S fuel listed a w
  | 0, _, _, _, hh => hh
  | fuel + 1, _, _, _, hh => ⟨hh.1, fun i hi => wpOp_mono (fun _ _ k => ⟨h _ k.1, held_mono h fuel _ _ _ k.2⟩) (hh.2 i hi)⟩

theorem readUpon_ok {w : World} {v : Value} {r : Result Next} (h : readUpon w v r) : r = .ok (.value v) w := by
  unfold readUpon at h
  split at h
  · obtain ⟨rfl, rfl⟩ := h; rfl
  · exact h.elim

theorem held_of_can {P : Program} {ops : Array Oper} {Q : Exit → Act → World → Prop} (hs : Region.noSelect ops = true)
    (hQ : ∀ c a d v w, Q (.panic c) (Act.put a d v) w → Q (.panic c) a w) :
    ∀ (perm : List (Bool × Nat)) (listed : Array Bool) (a : Act) (w : World), canOK ops perm listed = true → wpCan P ops Q perm a w → wpAnyH P .any ops Q (Ext w) perm.length listed a w
  | [], listed, a, w, hok, h => wpAnyH_done (by simpa [canOK] using hok) h _
  | (true, i) :: r, listed, a, w, hok, h => by
    simp only [canOK, Bool.and_eq_true] at hok
    obtain ⟨⟨h1, h2⟩, h3⟩ := hok
    obtain ⟨o, ho, h⟩ := h
    unfold canOp at h
    by_cases hw : Region.wanted o (yielded ops a.tmps) = true
    · rw [if_pos hw, if_pos rfl] at h
      obtain ⟨v, _, hv, hk⟩ := h
      exact wpAnyH_take ho hs h2 h1 (fun c a w => hQ c a o.dst v w) (.inl ⟨hw, fun w' hw' => readUpon_ok (hv w' hw')⟩) (Ext.refl w) (held_of_can hs hQ r _ _ _ h3 hk)
    · rw [if_neg hw] at h
      exact wpAnyH_take ho hs h2 h1 (fun c a w => hQ c a o.dst undef w) (.inr ⟨by simpa using hw, rfl⟩) (Ext.refl w) (held_of_can hs hQ r _ _ _ h3 h)
  | (false, i) :: r, listed, a, w, hok, h => by
    simp only [canOK, Bool.and_eq_true, beq_iff_eq] at hok
    obtain ⟨h1, h3⟩ := hok
    obtain ⟨o, ho, h⟩ := h
    refine wpAnyH_all h1 (by simp) ?_
    intro j hj
    obtain rfl : j = i := by simpa using hj
    unfold canOp at h
    unfold wpOp
    simp only [ho]
    by_cases hw : Region.wanted o (yielded ops a.tmps) = true
    · rw [if_pos hw, if_neg (by simp)] at h
      rw [if_pos hw]
      exact .inl (Oper.wp_mono (fun a' w' hh => ⟨hh.1, held_mono (fun u hu => Ext.trans hh.1 hu) _ _ _ _ (held_of_can hs hQ r _ _ _ h3 hh.2)⟩) h)
    · rw [if_neg hw] at h
      rw [if_neg hw]
      exact ⟨Ext.refl w, held_of_can hs hQ r _ _ _ h3 h⟩

/-- the beginning -/
theorem wp_region_can {P : Program} {id : Nat} {ops : Array Oper} {Q : Exit → Act → World → Prop} {a : Act} {w : World} (perm : List (Bool × Nat)) (hm : P.follows .mixedOrders = true)
    (hs : Region.noSelect ops = true) (hok : (perm.length == ops.size && canOK ops perm (Array.replicate ops.size false)) = true)
    (hQ : ∀ c a d v w, Q (.panic c) (Act.put a d v) w → Q (.panic c) a w) (h : wpCan P ops Q perm a w.drew) : (Code.region id ops true).wp P Q a w := by
  simp only [Bool.and_eq_true, beq_iff_eq] at hok
  refine wp_region_held (S := Ext w.drew) hm ?_
  have := held_of_can hs hQ perm _ _ _ hok.2 h
  rwa [hok.1] at this
end Go.Proofs.Ytbddmnhmfmkbhaa
