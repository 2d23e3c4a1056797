/- Plain mathematics of single lines: headings, breaks, quotes, items. No program is spoken of here. -/
import Derived.Test.YtkhaijcaeoclaaaDoorFnMath
namespace Go.Proofs.YtkhaijcaeoclaaaDoor.Lf
open Go.Proofs.YtkhaijcaeoclaaaDoor.Cl (isGap strip)
open Go.Proofs.YtkhaijcaeoclaaaDoor.Fn (cl rs run trim back emp)

/-- the end, or a blank or tab -/
def stop : List UInt8 → Bool
  | [] => true
  | b :: _ => isGap b
/-- without the signs at the end -/
def unhash : List UInt8 → List UInt8
  | [] => []
  | b :: r => if unhash r = [] ∧ b = 35 then [] else b :: unhash r
theorem unhash_snoc_sign (l : List UInt8) : unhash (l ++ [35]) = unhash l := by
  induction l with
  | nil => rfl
  | cons b r ih => rw [List.cons_append, unhash, unhash, ih]
theorem unhash_snoc_word (l : List UInt8) {x : UInt8} (h : x ≠ 35) : unhash (l ++ [x]) = l ++ [x] := by
  induction l with
  | nil => simp [unhash, h]
  | cons b r ih => rw [List.cons_append, unhash, ih, if_neg (by simp)]
theorem unhash_len (l : List UInt8) : (unhash l).length ≤ l.length := by
  induction l with
  | nil => simp [unhash]
  | cons b r ih => simp only [unhash]; split <;> simp only [List.length_cons, List.length_nil] <;> omega
theorem unhash_take (l : List UInt8) : l.take (unhash l).length = unhash l := by
  induction l with
  | nil => rfl
  | cons b r ih =>
    rw [unhash]
    split
    · rfl
    · rw [List.length_cons, List.take_succ_cons, ih]
/-- nothing is left, or a blank or tab stands last -/
def closed (u : List UInt8) : Bool := match u.getLast? with
  | none => true
  | some b => isGap b
/-- a heading's text, out of what is behind its signs -/
def title (t : List UInt8) : List UInt8 := if closed (unhash t) = true then back (unhash t) else t
/-- level, text -/
def heading (l : List UInt8) : Option (Nat × List UInt8) :=
  if cl l ≤ 3 ∧ 1 ≤ run 35 (rs l) ∧ run 35 (rs l) ≤ 6 ∧ stop ((rs l).drop (run 35 (rs l))) = true then some (run 35 (rs l), title (trim ((rs l).drop (run 35 (rs l))))) else none
/-- a sign of breaks -/
def ruler (c : UInt8) : Bool := c == 42 || c == 45 || c == 95
/-- the sign, or a blank or tab -/
def along (c b : UInt8) : Bool := b == c || isGap b
def brk (l : List UInt8) : Bool := match rs l with
  | [] => false
  | c :: r => decide (cl l ≤ 3) && ruler c && (c :: r).all (along c) && decide (3 ≤ (c :: r).count c)
theorem brk_nil {l : List UInt8} (h : rs l = []) : brk l = false := by unfold brk; rw [h]
theorem brk_far {l : List UInt8} (h : ¬ cl l ≤ 3) : brk l = false := by unfold brk; split <;> simp [h]
theorem brk_cons {l r : List UInt8} {c : UInt8} (h : rs l = c :: r) (h3 : cl l ≤ 3) : brk l = (ruler c && (c :: r).all (along c) && decide (3 ≤ (c :: r).count c)) := by
  unfold brk; rw [h]; simp [h3]
/-- what is behind the sign -/
def quote (l : List UInt8) : Option (List UInt8) := match rs l with
  | [] => none
  | c :: r => if cl l ≤ 3 ∧ c = 62 then some (strip 1 r) else none
/-- a sign of items -/
def bullet (c : UInt8) : Bool := c == 42 || c == 45 || c == 43
/-- how many columns of blanks belong to the sign -/
def inner (n : Nat) : Nat := if 4 < n then 1 else n
/-- the sign, how far in, what is behind -/
def item (l : List UInt8) : Option (UInt8 × Nat × List UInt8) := match rs l with
  | [] => none
  | c :: r =>
    if cl l ≤ 3 ∧ bullet c = true ∧ brk l = false ∧ stop r = true then
      if emp r = true then some (c, cl l + 2, []) else some (c, cl l + 1 + inner (cl r), strip (inner (cl r)) r)
    else none

theorem title_len (t : List UInt8) : (title t).length ≤ t.length := by
  unfold title
  split
  · have := Fn.back_len (unhash t)
    have := unhash_len t
    omega
  · exact Nat.le_refl _
end Go.Proofs.YtkhaijcaeoclaaaDoor.Lf
