/- Plain mathematics of infos: a text that ends in the sign '=' is never read. No program is spoken of here. -/
import Derived.Test.YtfppfaliepkhgaaDoorAtReadMath
import Derived.Test.YtfppfaliepkhgaaDoorAtWriteM
namespace Go.Proofs.YtfppfaliepkhgaaDoor
open Go.RowKit

theorem last_drop {r : List UInt8} {k : Nat} (h : k < r.length) : (r.drop k).getLast? = r.getLast? := by
  rw [List.getLast?_drop, if_neg (by omega)]
theorem last_mem {r : List UInt8} {b : UInt8} (h : r.getLast? = some b) : b ∈ r := List.mem_of_getLast? h

/-- a text in quotes ends in a quote -/
theorem At.qd_tail : ∀ (n : Nat) (r : List UInt8), r.length ≤ n → ∀ x, At.qd r = some x → 1 ≤ x.2 ∧ r[x.2 - 1]? = some 34 := by
  intro n
  induction n with
  | zero => intro r hr x hx; have : r = [] := List.eq_nil_of_length_eq_zero (by omega); subst this; rw [At.qd_nil] at hx; cases hx
  | succ n ih =>
    intro r hr x hx
    rcases r with _ | ⟨b, r⟩
    · rw [At.qd_nil] at hx; cases hx
    · simp only [List.length_cons] at hr
      by_cases h : b = 34
      · subst h; rw [At.qd_end] at hx; cases hx; simp
      · by_cases h' : b = 92
        · subst h'
          rcases r with _ | ⟨c, r⟩
          · rw [At.qd_last] at hx; cases hx
          · simp only [List.length_cons] at hr
            by_cases hc : c = 34 ∨ c = 92
            · rw [At.qd_esc _ hc] at hx
              obtain ⟨y, hy, rfl⟩ := Option.map_eq_some_iff.1 hx
              obtain ⟨h1, h2⟩ := ih r (by omega) y hy
              refine ⟨by simp only; omega, ?_⟩
              simp only
              rw [show y.2 + 2 - 1 = (y.2 - 1) + 1 + 1 from by omega, List.getElem?_cons_succ, List.getElem?_cons_succ]; exact h2
            · rw [At.qd_bad _ hc] at hx; cases hx
        · rw [At.qd_one _ h h'] at hx
          obtain ⟨y, hy, rfl⟩ := Option.map_eq_some_iff.1 hx
          obtain ⟨h1, h2⟩ := ih r (by omega) y hy
          refine ⟨by simp only; omega, ?_⟩
          simp only
          rw [show y.2 + 1 - 1 = (y.2 - 1) + 1 from by omega, List.getElem?_cons_succ]; exact h2

/-- a pair that is one does not end with the text, where that ends in the sign -/
theorem At.pair_tail {r : List UInt8} {a : Nat} (hr : r.getLast? = some 61) (h : (At.pair r a).2.2 = true) : (At.pair r a).2.1 < a + r.length := by
  by_cases h0 : At.tw At.letter r = []
  · rw [At.pair_empty h0] at h; cases h
  · rcases hd : r.drop (At.tw At.letter r).length with _ | ⟨b, q⟩
    · exfalso
      have h1 := At.tw_take At.letter r
      have h2 : r.length ≤ (At.tw At.letter r).length := List.drop_eq_nil_iff.1 hd
      rw [List.take_of_length_le h2] at h1
      have h3 := At.tw_all At.letter r 61 (by rw [← h1]; exact last_mem hr)
      revert h3; decide
    · have hl := congrArg List.length hd
      rw [List.length_drop, List.length_cons] at hl
      have hk : (At.tw At.letter r).length < r.length := by omega
      have hlast : (b :: q).getLast? = some 61 := by rw [← hd, last_drop hk]; exact hr
      cases hb : Cl.isGap b with
      | true => rw [At.pair_gap h0 hd hb]; simp only; omega
      | false =>
        by_cases h61 : b = 61
        · subst h61
          by_cases hq : ∃ q', q = 34 :: q'
          · obtain ⟨q', rfl⟩ := hq
            cases hQ : At.qd q' with
            | none => rw [At.pair_open h0 hd hQ] at h; cases h
            | some x =>
              obtain ⟨t, n⟩ := x
              have h1 := (At.qd_le q'.length q' (Nat.le_refl _) _ hQ).1
              obtain ⟨h2, h3⟩ := At.qd_tail q'.length q' (Nat.le_refl _) _ hQ
              rw [At.pair_quote h0 hd hQ]
              simp only [List.length_cons] at hl h1 h2 h3 ⊢
              by_cases he : n = q'.length
              · exfalso
                subst he
                rw [← List.getLast?_eq_getElem?] at h3
                have h4 : (61 :: 34 :: q').getLast? = q'.getLast? := by
                  rcases q' with _ | ⟨c, q'⟩
                  · simp at h2
                  · simp [List.getLast?_cons]
                rw [h4, h3] at hlast
                cases hlast
              · omega
          · have h1 := At.tw_len At.word q
            rw [At.pair_word h0 hd (fun x hx => hq ⟨x, hx⟩)] at h ⊢
            simp only at h ⊢
            by_cases he : (At.tw At.word q).length = q.length
            · exfalso
              have h2 := At.tw_take At.word q
              rw [List.take_of_length_le (by omega)] at h2
              rw [← h2] at h
              rcases q with _ | ⟨c, q⟩
              · simp [At.bare] at h
              · have h4 : (61 :: c :: q).getLast? = (c :: q).getLast? := by simp [List.getLast?_cons]
                rw [h4] at hlast
                exact (At.bare_nogap h 61 (last_mem hlast)).2.2.1 rfl
            · omega
        · rw [At.pair_bad h0 hd hb h61] at h; cases h

theorem gaps_tail : ∀ r : List UInt8, r.getLast? = some 61 → Cl.gaps r < r.length := by
  intro r
  induction r with
  | nil => intro h; cases h
  | cons b s ih =>
    intro h
    cases hb : Cl.isGap b with
    | false => rw [Cl.gaps_word _ hb]; simp
    | true =>
      rcases s with _ | ⟨c, s⟩
      · simp at h; subst h; revert hb; decide
      · have h2 : (c :: s).getLast? = some 61 := by rw [← h]; simp [List.getLast?_cons]
        have := ih h2
        rw [Cl.gaps_go _ hb, List.length_cons]; omega

theorem At.prs_tail {l : List UInt8} (hl : l.getLast? = some 61) : ∀ (f : Nat) (first : Bool) (lang : List UInt8) (out : List At.Pr) (i : Nat), i < l.length → (At.prs l f first lang out i).2.2 = false := by
  intro f
  induction f with
  | zero => intro first lang out i _; rfl
  | succ f ih =>
    intro first lang out i hi
    have hdi : (l.drop i).getLast? = some 61 := by rw [last_drop hi]; exact hl
    have hg := gaps_tail _ hdi
    rw [List.length_drop] at hg
    obtain ⟨j, hj⟩ : ∃ j, i + Cl.gaps (l.drop i) = j := ⟨_, rfl⟩
    have hjl : j < l.length := by omega
    have hdj : (l.drop j).getLast? = some 61 := by rw [last_drop hjl]; exact hl
    have hne : l.drop j ≠ [] := by intro h; rw [h] at hdj; cases hdj
    have hlen : (l.drop j).length = l.length - j := List.length_drop
    cases hL : At.isLang first (At.tw At.word (l.drop j)) with
    | true =>
      rw [At.prs_lang hj hne hL]
      refine ih _ _ _ _ ?_
      have h1 := At.tw_len At.word (l.drop j)
      by_cases he : (At.tw At.word (l.drop j)).length = (l.drop j).length
      · exfalso
        have h2 := At.tw_take At.word (l.drop j)
        rw [List.take_of_length_le (by omega)] at h2
        rw [← h2] at hL
        have h3 := last_mem hdj
        unfold At.isLang at hL
        simp only [Bool.and_eq_true, Bool.not_eq_true', decide_eq_false_iff_not] at hL
        exact hL.1.1.2 h3
      · omega
    | false =>
      cases hP : (At.pair (l.drop j) j).2.2 with
      | false => rw [At.prs_bad hj hne hL hP]
      | true =>
        cases hT : At.twice out (At.pair (l.drop j) j).1.key with
        | true => rw [At.prs_twice hj hne hL hP hT]
        | false =>
          rw [At.prs_more hj hne hL hP hT]
          refine ih _ _ _ _ ?_
          have := At.pair_tail hdj hP (a := j)
          omega

/-- what ends in the sign is never read -/
theorem At.read_tail {l : List UInt8} (hl : l.getLast? = some 61) : At.read l = none := by
  have h0 : 0 < l.length := by rcases l with _ | ⟨b, r⟩; · cases hl
                               · simp
  have h : (At.pairs l).2.2 = false := At.prs_tail hl _ _ _ _ _ h0
  unfold At.read
  cases At.steps (At.pairs l).2.1 ⟨(At.pairs l).1, [], [], [], false, false⟩ with
  | none => rfl
  | some a => simp [h]
end Go.Proofs.YtfppfaliepkhgaaDoor
