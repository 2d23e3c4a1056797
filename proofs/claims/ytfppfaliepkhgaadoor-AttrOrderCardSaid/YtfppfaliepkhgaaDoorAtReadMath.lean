/- What an info says, as a function; what a walk of the document's own Read wants to know. -/
import Derived.Test.YtfppfaliepkhgaaDoorAtPairs
import Derived.Test.YtfppfaliepkhgaaDoorAtName
import Derived.Test.YtfppfaliepkhgaaDoorAtStyle
namespace Go.Proofs.YtfppfaliepkhgaaDoor
open Go.RowKit

namespace At
def wName : List UInt8 := [110, 97, 109, 101]
def wFile : List UInt8 := [102, 105, 108, 101]
def wComment : List UInt8 := [99, 111, 109, 109, 101, 110, 116]
structure Attr where
  lang : List UInt8
  name : List UInt8
  file : List UInt8
  style : List UInt8
  append : Bool
  noline : Bool
/-- one pair more -/
def step (a : Attr) (p : Pr) : Option Attr :=
  if p.key = wName ∧ p.alone = false ∧ At.name p.text = true then some { a with name := p.text }
  else if p.key = wFile ∧ p.alone = false ∧ At.name p.text = true then some { a with file := p.text }
  else if p.key = wComment ∧ p.alone = false ∧ At.style p.text = true then some { a with style := p.text }
  else if p.key = wAppend ∧ p.alone = true then some { a with append := true }
  else if p.key = wNoline ∧ p.alone = true then some { a with noline := true }
  else none
def steps : List Pr → Attr → Option Attr
  | [], a => some a
  | p :: r, a => (step a p).bind (steps r)
def read (l : List UInt8) : Option Attr :=
  (steps (pairs l).2.1 ⟨(pairs l).1, [], [], [], false, false⟩).bind fun a => if (pairs l).2.2 = false ∨ (a.name ≠ [] ∧ a.file ≠ []) then none else some a
def zeroA : Attr := ⟨[], [], [], [], false, false⟩
end At
def acells (a : At.Attr) : Array Value := #[.string (bs a.lang), .string (bs a.name), .string (bs a.file), .string (bs a.style), .bool a.append, .bool a.noline]
def attrv : Option At.Attr → Value
  | none => .tuple #[.agg (acells At.zeroA), .bool false]
  | some a => .tuple #[.agg (acells a), .bool true]

theorem six {w1 : World} {g : Nat} {a b c d e f : Value} {t : TypeId} {fr : Nat × Nat} (h : w1.heap[g]? = some (.cells #[a, b, c, d, e, f] t fr)) :
    w1.cell? ⟨g, 0, none⟩ = some a ∧ w1.cell? ⟨g, 1, none⟩ = some b ∧ w1.cell? ⟨g, 2, none⟩ = some c ∧ w1.cell? ⟨g, 3, none⟩ = some d ∧ w1.cell? ⟨g, 4, none⟩ = some e ∧ w1.cell? ⟨g, 5, none⟩ = some f :=
  ⟨blk_cell h 0, blk_cell h 1, blk_cell h 2, blk_cell h 3, blk_cell h 4, blk_cell h 5⟩
theorem own_max {w : World} {base : Nat} {e : TypeId} {size n : Nat} {v : Value} {xs : List Value} (h : w.ownsRow base e size v n xs) : n ≤ 9223372036854775807 := by
  rcases h.2 with ⟨_, h0⟩ | ⟨g, cap, cur, _, _, _, hn, hm, _⟩
  · omega
  · unfold maxLen at hm; omega
theorem key_is {k w : List UInt8} (h : k = w) : ((bs k).toList == w) = true := by rw [bs_toList, h]; simp
theorem key_not {k w : List UInt8} (h : k ≠ w) : ((bs k).toList == w) = false := by rw [bs_toList]; exact beq_eq_false_iff_ne.2 h
theorem steps_at {out : List At.Pr} {k : Nat} {a : At.Attr} (hk : k < out.length) : At.steps (out.drop k) a = (At.step a out[k]).bind (At.steps (out.drop (k + 1))) := by
  rw [List.drop_eq_getElem_cons hk]; rfl

theorem At.pair_text {r : List UInt8} {a : Nat} : (At.pair r a).1.text.length ≤ r.length := by
  by_cases h0 : At.tw At.letter r = []
  · rw [At.pair_empty h0]; simp
  · have hd : (r.drop (At.tw At.letter r).length).length ≤ r.length := by rw [List.length_drop]; omega
    rcases hr : r.drop (At.tw At.letter r).length with _ | ⟨b, q⟩
    · rw [At.pair_end h0 hr]; simp
    · rw [hr, List.length_cons] at hd
      cases hb : Cl.isGap b with
      | true => rw [At.pair_gap h0 hr hb]; simp
      | false =>
        by_cases h61 : b = 61
        · subst h61
          by_cases hq : ∃ q', q = 34 :: q'
          · obtain ⟨q', rfl⟩ := hq
            rw [List.length_cons] at hd
            cases hQ : At.qd q' with
            | none => rw [At.pair_open h0 hr hQ]; simp
            | some x =>
              obtain ⟨t, n⟩ := x
              have := (At.qd_le q'.length q' (Nat.le_refl _) _ hQ).2
              rw [At.pair_quote h0 hr hQ]; simp only at this ⊢; omega
          · have := At.tw_len At.word q
            rw [At.pair_word h0 hr (fun x hx => hq ⟨x, hx⟩)]; simp only; omega
        · rw [At.pair_bad h0 hr hb h61]; simp
theorem At.prs_text {l : List UInt8} : ∀ (f : Nat) (first : Bool) (lang : List UInt8) (out : List At.Pr) (i : Nat), (∀ p ∈ out, p.text.length ≤ l.length) → ∀ p ∈ (At.prs l f first lang out i).2.1, p.text.length ≤ l.length := by
  intro f
  induction f with
  | zero => intro first lang out i _ p hp; cases hp
  | succ f ih =>
    intro first lang out i ho p hp
    rw [At.prs] at hp
    split at hp
    · exact ho p hp
    · split at hp
      · exact ih _ _ _ _ ho p hp
      · split at hp
        · cases hp
        · split at hp
          · cases hp
          · refine ih _ _ _ _ (fun x hx => ?_) p hp
            rcases List.mem_append.1 hx with hx | hx
            · exact ho x hx
            · simp at hx
              subst hx
              have := @At.pair_text (l.drop (i + Cl.gaps (l.drop i))) (i + Cl.gaps (l.drop i))
              rw [List.length_drop] at this; omega
end Go.Proofs.YtfppfaliepkhgaaDoor
