/- Plain mathematics of infos: all pairs of an info. No program is spoken of here. -/
import Derived.Test.YtfppfaliepkhgaaDoorAtMath
namespace Go.Proofs.YtfppfaliepkhgaaDoor.At
open Go.Proofs.YtfppfaliepkhgaaDoor.Cl (isGap gaps)

def wAppend : List UInt8 := [97, 112, 112, 101, 110, 100]
def wNoline : List UInt8 := [110, 111, 108, 105, 110, 101]
/-- the word that is the language -/
def isLang (first : Bool) (w : List UInt8) : Bool := first && (!decide ((61 : UInt8) ∈ w)) && decide (w ≠ wAppend) && decide (w ≠ wNoline)
/-- a key that is there already -/
def twice (out : List Pr) (key : List UInt8) : Bool := out.any fun q => decide (q.key = key)

/-- from place i on, by at most so many steps -/
def prs (l : List UInt8) : Nat → Bool → List UInt8 → List Pr → Nat → List UInt8 × List Pr × Bool
  | 0, _, _, _, _ => ([], [], false)
  | f + 1, first, lang, out, i =>
    if l.drop (i + gaps (l.drop i)) = [] then (lang, out, true)
    else if isLang first (tw word (l.drop (i + gaps (l.drop i)))) = true then
      prs l f false (tw word (l.drop (i + gaps (l.drop i)))) out (i + gaps (l.drop i) + (tw word (l.drop (i + gaps (l.drop i)))).length)
    else if (pair (l.drop (i + gaps (l.drop i))) (i + gaps (l.drop i))).2.2 = false then ([], [], false)
    else if twice out (pair (l.drop (i + gaps (l.drop i))) (i + gaps (l.drop i))).1.key = true then ([], [], false)
    else prs l f false lang (out ++ [(pair (l.drop (i + gaps (l.drop i))) (i + gaps (l.drop i))).1]) (pair (l.drop (i + gaps (l.drop i))) (i + gaps (l.drop i))).2.1
def pairs (l : List UInt8) : List UInt8 × List Pr × Bool := prs l (l.length + 1) true [] [] 0

section
variable {l : List UInt8} {f : Nat} {first : Bool} {lang : List UInt8} {out : List Pr} {i j : Nat}
theorem prs_done (hj : i + gaps (l.drop i) = j) (h : l.drop j = []) : prs l (f + 1) first lang out i = (lang, out, true) := by rw [prs, hj, if_pos h]
theorem prs_lang (hj : i + gaps (l.drop i) = j) (h : l.drop j ≠ []) (h1 : isLang first (tw word (l.drop j)) = true) : prs l (f + 1) first lang out i = prs l f false (tw word (l.drop j)) out (j + (tw word (l.drop j)).length) := by rw [prs, hj, if_neg h, if_pos h1]
theorem prs_bad (hj : i + gaps (l.drop i) = j) (h : l.drop j ≠ []) (h1 : isLang first (tw word (l.drop j)) = false) (h2 : (pair (l.drop j) j).2.2 = false) : prs l (f + 1) first lang out i = ([], [], false) := by
  rw [prs, hj, if_neg h, if_neg (by rw [h1]; simp), if_pos h2]
theorem prs_twice (hj : i + gaps (l.drop i) = j) (h : l.drop j ≠ []) (h1 : isLang first (tw word (l.drop j)) = false) (h2 : (pair (l.drop j) j).2.2 = true) (h3 : twice out (pair (l.drop j) j).1.key = true) : prs l (f + 1) first lang out i = ([], [], false) := by
  rw [prs, hj, if_neg h, if_neg (by rw [h1]; simp), if_neg (by rw [h2]; simp), if_pos h3]
theorem prs_more (hj : i + gaps (l.drop i) = j) (h : l.drop j ≠ []) (h1 : isLang first (tw word (l.drop j)) = false) (h2 : (pair (l.drop j) j).2.2 = true) (h3 : twice out (pair (l.drop j) j).1.key = false) :
    prs l (f + 1) first lang out i = prs l f false lang (out ++ [(pair (l.drop j) j).1]) (pair (l.drop j) j).2.1 := by
  rw [prs, hj, if_neg h, if_neg (by rw [h1]; simp), if_neg (by rw [h2]; simp), if_neg (by rw [h3]; simp)]
end
/-- a pair ends behind where it begins, within the text -/
theorem pair_within {r : List UInt8} {a : Nat} (h : (pair r a).2.2 = true) : a < (pair r a).2.1 ∧ (pair r a).2.1 ≤ a + r.length := by
  have hk := tw_len letter r
  by_cases h0 : tw letter r = []
  · rw [pair_empty h0] at h; cases h
  · have hp : 0 < (tw letter r).length := List.length_pos_iff.2 h0
    rcases hr : r.drop (tw letter r).length with _ | ⟨b, q⟩
    · rw [pair_end h0 hr]; simp only; omega
    · have hl := congrArg List.length hr
      rw [List.length_drop, List.length_cons] at hl
      cases hb : isGap b with
      | true => rw [pair_gap h0 hr hb]; simp only; omega
      | false =>
        by_cases h61 : b = 61
        · subst h61
          by_cases hq : ∃ q', q = 34 :: q'
          · obtain ⟨q', rfl⟩ := hq
            cases hQ : qd q' with
            | none => rw [pair_open h0 hr hQ] at h; cases h
            | some x =>
              obtain ⟨t, n⟩ := x
              have := qd_le q'.length q' (Nat.le_refl _) _ hQ
              rw [pair_quote h0 hr hQ]; simp only [List.length_cons] at hl ⊢; simp only at this; omega
          · have := tw_len word q
            rw [pair_word h0 hr (fun x hx => hq ⟨x, hx⟩)]; simp only; omega
        · rw [pair_bad h0 hr hb h61] at h; cases h
theorem twice_nil (key : List UInt8) : twice [] key = false := rfl
theorem twice_next {out : List Pr} {m : Nat} {key : List UInt8} (hm : m < out.length) (h : twice (out.take m) key = false) (hk : out[m].key ≠ key) : twice (out.take (m + 1)) key = false := by
  unfold twice at h ⊢
  rw [List.take_succ_eq_append_getElem hm, List.any_append, h]
  simp [hk]
theorem twice_hit {out : List Pr} {m : Nat} {key : List UInt8} (hm : m < out.length) (hk : out[m].key = key) : twice out key = true := by
  unfold twice
  rw [List.any_eq_true]
  exact ⟨out[m], List.getElem_mem hm, by simp [hk]⟩
end Go.Proofs.YtfppfaliepkhgaaDoor.At
