/- Two rows of the call's own, appended to in turn: they lie apart. -/
import Derived.Test.YtjkmhcolnidflaaMem
import Derived.Maps.AppendAt
namespace Go.Proofs.Ytjkmhcolnidflaa
open Go.RowKit

/-- no block of the one is the other's -/
def Apart (a b : Value) : Prop := ∀ g, a.ownBlock = some g → b.ownBlock ≠ some g
theorem Apart.symm {a b : Value} (h : Apart a b) : Apart b a := fun g hb ha => h g ha hb
theorem Apart.nil (b : Value) : Apart (.slice none 0 0) b := fun g h => by simp [Value.ownBlock] at h
/-- where an appended row lies: where it lay, or in a block from B on -/
def At (B : Nat) (v v' : Value) : Prop := ∀ g, v'.ownBlock = some g → v.ownBlock = some g ∨ B ≤ g
theorem Apart.step {w : World} {base B : Nat} {e : TypeId} {size n : Nat} {a a' b : Value} {xs : List Value} (h : Apart a b) (hb : w.ownsRow base e size b n xs) (hat : At B a a') (hB : w.heap.size ≤ B) : Apart a' b := by
  intro g hg hbg
  rcases hat g hg with h1 | h1
  · exact h g h1 hbg
  · have := (hb.lt g hbg).2; omega
theorem own_apart {w w' : World} {base : Nat} {e : TypeId} {size n : Nat} {a b : Value} {xs : List Value} (hb : w.ownsRow base e size b n xs) (hg : w.grownBy w' a.ownBlock) (h : Apart a b) : w'.ownsRow base e size b n xs := by
  refine hb.kept hg ?_
  cases hbo : b.ownBlock with
  | none => exact .inl rfl
  | some g => exact .inr fun he => h g he.symm hbo

/-- append of elements that were laid in a new block; and where the row lies then -/
theorem wpList_app_two {P : Program} {w0 : World} {ops : Array Oper} {rest : List Oper} {o : Oper} {a : Act} {Q : Exit → Act → World → Prop} (hgd : o.guard = none) (s x : Operand) {T : TypeId}
    (ho : o.op = .call { callee := .builtin .append, args := #[s, x], argTypes := #[T, T] })
    {E : TypeId} {size bytes : Nat} (hE : EI P T E size bytes) {base n : Nat} {v : Value} {xs : List Value} (hs : a.eval s = v) (hown : w0.ownsRow base E size v n xs)
    {g k c : Nat} {cs : Array Value} (hx : a.eval x = .slice (some ⟨g, 0, none⟩) k c) (hg : g = w0.heap.size) (hcs : cs.size = k * size) (h1 : ∀ u ∈ cs.toList, u.oneCell' = true)
    (h63 : n + k ≤ 1000000000000) (hbytes : bytes ≤ 100) (hbase : base ≤ w0.heap.size)
    (h : ∀ v' w', w'.ownsRow base E size v' (n + k) (xs ++ cs.toList) → Hid (w0.grownBy w' v.ownBlock) → Below base w0 w' → Hid (At w0.heap.size v v') → wpList P ops Q rest (a.put o.dst v') w') :
    wpList P ops Q (o :: rest) a (w0.alloc (.cells cs E)) := by
  obtain ⟨i, z, hi, hz, hs1, hs2, hs3⟩ := hE.info
  refine wpList_append_own_at _ hgd s x T ho base E i z size bytes hE.ht hi hz hs1 hs2 hs3 hE.pos v n xs hs (hown.alloc _) ⟨g, 0, none⟩ k c cs.toList hx (by simpa using hcs) (cells_new w0 cs E hg) h1
    (by unfold maxLen; omega) (by have := Nat.mul_le_mul h63 hbytes; omega) (by simp; omega) ?_
  intro v' w' hw hgr _ hat
  refine h v' w' hw (grown_new hgr) (below_grown (Below.refl _ _) (hown.alloc _) ((Below.refl _ _).alloc hbase _) hgr (by simp; omega)) ?_
  intro q hq
  rcases hat with e | e
  · rw [e] at hq; exact .inl hq
  · rw [e] at hq; simp at hq; exact .inr (by omega)
end Go.Proofs.Ytjkmhcolnidflaa
