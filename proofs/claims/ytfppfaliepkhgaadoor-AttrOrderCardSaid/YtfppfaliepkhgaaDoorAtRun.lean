/- Plain mathematics of infos: all pairs of an info, from what is left of it, without places. No program is spoken of here. -/
import Derived.Test.YtfppfaliepkhgaaDoorAtReadMath
namespace Go.Proofs.YtfppfaliepkhgaaDoor.At
open Go.Proofs.YtfppfaliepkhgaaDoor.Cl (isGap gaps)

theorem pair_place (r : List UInt8) (a : Nat) : (pair r a).1 = (pair r 0).1 ∧ (pair r a).2.2 = (pair r 0).2.2 ∧ ((pair r a).2.2 = true → (pair r a).2.1 = a + (pair r 0).2.1) := by
  by_cases h0 : tw letter r = []
  · rw [pair_empty h0, pair_empty h0]; simp
  · rcases hr : r.drop (tw letter r).length with _ | ⟨b, q⟩
    · rw [pair_end h0 hr, pair_end h0 hr]; simp
    · cases hb : isGap b with
      | true => rw [pair_gap h0 hr hb, pair_gap h0 hr hb]; simp
      | false =>
        by_cases h61 : b = 61
        · subst h61
          by_cases hq : ∃ q', q = 34 :: q'
          · obtain ⟨q', rfl⟩ := hq
            cases hQ : qd q' with
            | none => rw [pair_open h0 hr hQ, pair_open h0 hr hQ]; simp
            | some x =>
              obtain ⟨t, n⟩ := x
              rw [pair_quote h0 hr hQ, pair_quote h0 hr hQ]
              refine ⟨rfl, rfl, fun _ => ?_⟩
              simp only; omega
          · rw [pair_word h0 hr (fun x hx => hq ⟨x, hx⟩), pair_word h0 hr (fun x hx => hq ⟨x, hx⟩)]
            refine ⟨rfl, rfl, fun _ => ?_⟩
            simp only; omega
        · rw [pair_bad h0 hr hb h61, pair_bad h0 hr hb h61]; simp

/-- from what is left on, by at most so many steps -/
def run : Nat → Bool → List UInt8 → List Pr → List UInt8 → List UInt8 × List Pr × Bool
  | 0, _, _, _, _ => ([], [], false)
  | f + 1, first, lang, out, r =>
    if r.drop (gaps r) = [] then (lang, out, true)
    else if isLang first (tw word (r.drop (gaps r))) = true then
      run f false (tw word (r.drop (gaps r))) out ((r.drop (gaps r)).drop (tw word (r.drop (gaps r))).length)
    else if (pair (r.drop (gaps r)) 0).2.2 = false then ([], [], false)
    else if twice out (pair (r.drop (gaps r)) 0).1.key = true then ([], [], false)
    else run f false lang (out ++ [(pair (r.drop (gaps r)) 0).1]) ((r.drop (gaps r)).drop (pair (r.drop (gaps r)) 0).2.1)

theorem prs_run (l : List UInt8) : ∀ (f : Nat) (first : Bool) (lang : List UInt8) (out : List Pr) (i : Nat), prs l f first lang out i = run f first lang out (l.drop i) := by
  intro f
  induction f with
  | zero => intro first lang out i; rfl
  | succ f ih =>
    intro first lang out i
    obtain ⟨j, hj⟩ : ∃ j, i + gaps (l.drop i) = j := ⟨_, rfl⟩
    have hd : (l.drop i).drop (gaps (l.drop i)) = l.drop j := by rw [List.drop_drop, hj]
    rw [run, hd]
    by_cases h1 : l.drop j = []
    · rw [prs_done hj h1, if_pos h1]
    · rw [if_neg h1]
      cases hL : isLang first (tw word (l.drop j)) with
      | true => rw [prs_lang hj h1 hL, if_pos rfl, ih, List.drop_drop]
      | false =>
        rw [if_neg (by simp)]
        obtain ⟨s1, s2, s3⟩ := pair_place (l.drop j) j
        cases hP : (pair (l.drop j) j).2.2 with
        | false => rw [prs_bad hj h1 hL hP, if_pos (s2.symm.trans hP)]
        | true =>
          rw [if_neg (by rw [← s2, hP]; simp)]
          cases hT : twice out (pair (l.drop j) j).1.key with
          | true => rw [prs_twice hj h1 hL hP hT, if_pos (by rw [← s1]; exact hT)]
          | false => rw [prs_more hj h1 hL hP hT, if_neg (by rw [← s1, hT]; simp), ih, s1, s3 hP, List.drop_drop]

theorem pairs_run (l : List UInt8) : pairs l = run (l.length + 1) true [] [] l := by
  unfold pairs; rw [prs_run]; simp
end Go.Proofs.YtfppfaliepkhgaaDoor.At
