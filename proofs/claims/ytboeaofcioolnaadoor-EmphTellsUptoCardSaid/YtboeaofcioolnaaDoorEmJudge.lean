/- How a run of signs is judged, by no program: the rune ahead, the one behind. -/
import Derived.Test.YtboeaofcioolnaaDoorEmMath
import Derived.Test.YtboeaofcioolnaaDoorRnKinds
import Derived.Test.YtboeaofcioolnaaDoorRnIter
namespace Go.Proofs.YtboeaofcioolnaaDoor.Em
open Go.Lib Ru

/-- the rune ahead of a place; the one at a place -/
def ahead (l : List UInt8) (k : Nat) : Nat := (runes (l.take k)).getLastD 32
def behind (l : List UInt8) (k : Nat) : Nat := if k < l.length then (decodeL (l.drop k)).1 else 32
theorem behind_in {l : List UInt8} {k : Nat} (h : k < l.length) : behind l k = (decodeL (l.drop k)).1 := by unfold behind; rw [if_pos h]
theorem behind_out {l : List UInt8} {k : Nat} (h : ¬ k < l.length) : behind l k = 32 := by unfold behind; rw [if_neg h]
/-- of what is behind it -/
def leanB (b a : Nat) : Bool := !blankB a && (!punctB a || blankB b || punctB b)
def judge (c : UInt8) (n b a : Nat) : R :=
  if c = 95 then ⟨c, n, leanB b a && (!leanB a b || punctB b), leanB a b && (!leanB b a || punctB a)⟩ else ⟨c, n, leanB b a, leanB a b⟩
/-- whether a run begins at a place -/
def starts (l : List UInt8) (at_ : Int) : Bool :=
  decide (0 ≤ at_ ∧ at_.toNat < l.length ∧ (l.getD at_.toNat 0 = 42 ∨ l.getD at_.toNat 0 = 95) ∧ (at_ = 0 ∨ l.getD (at_.toNat - 1) 0 ≠ l.getD at_.toNat 0))
def kind (l : List UInt8) (at_ : Int) : Option (R × Nat) :=
  if starts l at_ = true then
    some (judge (l.getD at_.toNat 0) (Fn.run (l.getD at_.toNat 0) (l.drop at_.toNat)) (ahead l at_.toNat) (behind l (at_.toNat + Fn.run (l.getD at_.toNat 0) (l.drop at_.toNat))), at_.toNat + Fn.run (l.getD at_.toNat 0) (l.drop at_.toNat))
  else none
theorem kind_off {l : List UInt8} {at_ : Int} (h : starts l at_ = false) : kind l at_ = none := by unfold kind; rw [if_neg (by rw [h]; decide)]
theorem getD_at {l : List UInt8} {k : Nat} (h : k < l.length) : l.getD k 0 = l[k] := by simp [List.getD, List.getElem?_eq_getElem h]
theorem starts_yes {l : List UInt8} {k : Nat} (h : k < l.length) (h1 : l[k] = 42 ∨ l[k] = 95) (h2 : k = 0 ∨ ∃ h3 : k - 1 < l.length, l[k - 1] ≠ l[k]) : starts l (k : Int) = true := by
  unfold starts
  refine decide_eq_true ⟨by omega, h, ?_, ?_⟩
  · rw [show ((k : Int)).toNat = k from by omega, getD_at h]; exact h1
  · rw [show ((k : Int)).toNat = k from by omega, getD_at h]
    rcases h2 with h2 | ⟨h3, h2⟩
    · exact .inl (by omega)
    · exact .inr (by rw [getD_at h3]; exact h2)
theorem starts_no {l : List UInt8} {at_ : Int} (h : at_ < 0 ∨ (l.length : Int) ≤ at_ ∨ (∃ h : at_.toNat < l.length, l[at_.toNat] ≠ 42 ∧ l[at_.toNat] ≠ 95) ∨ (0 < at_ ∧ ∃ h : at_.toNat < l.length, l[at_.toNat - 1] = l[at_.toNat])) : starts l at_ = false := by
  unfold starts
  refine decide_eq_false ?_
  rintro ⟨h1, h2, h3, h4⟩
  rw [getD_at h2] at h3 h4
  rcases h with h | h | ⟨_, h, h'⟩ | ⟨h0, _, h⟩
  · omega
  · omega
  · rcases h3 with h3 | h3
    · exact h h3
    · exact h' h3
  · rcases h4 with h4 | h4
    · omega
    · rw [getD_at (by omega)] at h4; exact h4 h
theorem kind_on {l : List UInt8} {k : Nat} (h : k < l.length) (hs : starts l (k : Int) = true) :
    kind l (k : Int) = some (judge l[k] (Fn.run l[k] (l.drop k)) (ahead l k) (behind l (k + Fn.run l[k] (l.drop k))), k + Fn.run l[k] (l.drop k)) := by
  unfold kind
  rw [if_pos hs, show ((k : Int)).toNat = k from by omega, getD_at h]
theorem run_pos {l : List UInt8} {k : Nat} (h : k < l.length) : 1 ≤ Fn.run l[k] (l.drop k) := by rw [Fn.run_at h rfl]; omega
theorem runs_in {l : List UInt8} {k : Nat} (h : k < l.length) (c : UInt8) : k + Fn.run c (l.drop k) ≤ l.length := by
  have := Fn.run_le c (l.drop k)
  rw [List.length_drop] at this; omega
theorem ahead_vr (l : List UInt8) (k : Nat) : vr (ahead l k) := by
  unfold ahead
  rcases List.eq_nil_or_concat (runes (l.take k)) with h | ⟨r, x, h⟩
  · rw [h]; unfold vr; simp
  · have := runes_vr (l.take k) x (by rw [h]; simp)
    rw [h, List.concat_eq_append, List.getLastD_concat]; exact this
end Go.Proofs.YtboeaofcioolnaaDoor.Em
