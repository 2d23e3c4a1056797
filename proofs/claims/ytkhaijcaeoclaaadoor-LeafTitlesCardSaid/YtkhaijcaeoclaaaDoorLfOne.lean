/- Plain mathematics of single lines: no line is two of a heading, a break, a quote, an item; items' signs, how far in. No program is spoken of here. -/
import Derived.Test.YtkhaijcaeoclaaaDoorLfForms
namespace Go.Proofs.YtkhaijcaeoclaaaDoor
open Go.Proofs.YtkhaijcaeoclaaaDoor.Cl (isGap)

theorem Lf.head_sign {l : List UInt8} {x : Nat × List UInt8} (h : Lf.heading l = some x) : ∃ r, Fn.rs l = 35 :: r := by
  unfold Lf.heading at h
  split at h
  · rename_i hc
    have h1 := hc.2.1
    rcases hr : Fn.rs l with _ | ⟨b, r⟩
    · rw [hr] at h1; simp [Fn.run] at h1
    · rw [hr] at h1
      by_cases hb : b = 35
      · subst hb; exact ⟨r, rfl⟩
      · rw [Fn.run_stop _ hb] at h1; omega
  · cases h
theorem Lf.brk_sign {l : List UInt8} (h : Lf.brk l = true) : ∃ c r, Fn.rs l = c :: r ∧ Lf.ruler c = true := by
  unfold Lf.brk at h
  split at h
  · cases h
  · rename_i c r hr
    simp only [Bool.and_eq_true] at h
    exact ⟨c, r, hr, h.1.1.2⟩
theorem Lf.quote_sign {l r : List UInt8} (h : Lf.quote l = some r) : ∃ q, Fn.rs l = 62 :: q := by
  unfold Lf.quote at h
  split at h
  · cases h
  · rename_i c q hr
    split at h
    · rename_i hc; exact ⟨q, by rw [hr, hc.2]⟩
    · cases h
theorem Lf.item_sign {l : List UInt8} {c : UInt8} {k : Nat} {t : List UInt8} (h : Lf.item l = some (c, k, t)) : (∃ r, Fn.rs l = c :: r) ∧ Lf.bullet c = true ∧ Lf.brk l = false ∧ 2 ≤ k ∧ k ≤ 8 := by
  unfold Lf.item at h
  split at h
  · cases h
  · rename_i c' r hr
    split at h
    · rename_i hc
      have hcl := hc.1
      split at h
      · cases h; exact ⟨⟨r, hr⟩, hc.2.1, hc.2.2.1, by omega, by omega⟩
      · rename_i he
        cases h
        have h1 : 1 ≤ Fn.cl r := by
          rcases r with _ | ⟨b, q⟩
          · exact absurd (by decide) he
          · have hg : isGap b = true := hc.2.2.2
            have hl := Cl.lead_go (n := Cl.inf) (c := 0) q (by decide) hg
            have hs := Cl.step_le 0 b
            have hle := Cl.lead_le Cl.inf q (Cl.step 0 b)
            show 1 ≤ (Cl.lead Cl.inf (b :: q) 0).1
            rw [hl]
            simp only
            omega
        refine ⟨⟨r, hr⟩, hc.2.1, hc.2.2.1, ?_, ?_⟩
        · unfold Lf.inner; split <;> omega
        · unfold Lf.inner; split <;> omega
    · cases h

/-- what a line is: at most one of the four -/
theorem Lf.one_of (l : List UInt8) :
    (Lf.heading l = none ∧ Lf.brk l = false ∧ Lf.quote l = none ∧ Lf.item l = none) ∨
    ((∃ n t, Lf.heading l = some (n, t)) ∧ Lf.brk l = false ∧ Lf.quote l = none ∧ Lf.item l = none) ∨
    (Lf.heading l = none ∧ Lf.brk l = true ∧ Lf.quote l = none ∧ Lf.item l = none) ∨
    (Lf.heading l = none ∧ Lf.brk l = false ∧ (∃ r, Lf.quote l = some r) ∧ Lf.item l = none) ∨
    (Lf.heading l = none ∧ Lf.brk l = false ∧ Lf.quote l = none ∧ ∃ c k t, Lf.item l = some (c, k, t) ∧ Lf.bullet c = true ∧ 2 ≤ k ∧ k ≤ 8) := by
  have hh : ∀ x, Lf.heading l = some x → ∃ r, Fn.rs l = 35 :: r := fun x h => Lf.head_sign h
  have hb : Lf.brk l = true → ∃ c r, Fn.rs l = c :: r ∧ Lf.ruler c = true := Lf.brk_sign
  have hq : ∀ r, Lf.quote l = some r → ∃ q, Fn.rs l = 62 :: q := fun r h => Lf.quote_sign h
  have hi : ∀ c k t, Lf.item l = some (c, k, t) → (∃ r, Fn.rs l = c :: r) ∧ Lf.bullet c = true ∧ Lf.brk l = false ∧ 2 ≤ k ∧ k ≤ 8 := fun c k t h => Lf.item_sign h
  have sgn : ∀ {a b : UInt8} {p q : List UInt8}, Fn.rs l = a :: p → Fn.rs l = b :: q → a = b := fun h1 h2 => by
    rw [h1] at h2; injection h2
  cases hH : Lf.heading l with
  | some x =>
    obtain ⟨r, hr⟩ := hh x hH
    refine .inr (.inl ⟨⟨x.1, x.2, rfl⟩, ?_, ?_, ?_⟩)
    · cases hB : Lf.brk l with
      | false => rfl
      | true =>
        obtain ⟨c, r', hr', hc⟩ := hb hB
        rw [← sgn hr hr'] at hc; cases hc
    · cases hQ : Lf.quote l with
      | none => rfl
      | some q => obtain ⟨r', hr'⟩ := hq q hQ; exact absurd (sgn hr hr') (by decide)
    · cases hI : Lf.item l with
      | none => rfl
      | some y =>
        obtain ⟨c, k, t⟩ := y
        obtain ⟨⟨r', hr'⟩, hc, _⟩ := hi c k t hI
        rw [← sgn hr hr'] at hc; cases hc
  | none =>
    cases hB : Lf.brk l with
    | true =>
      obtain ⟨c, r, hr, hc⟩ := hb hB
      refine .inr (.inr (.inl ⟨rfl, rfl, ?_, ?_⟩))
      · cases hQ : Lf.quote l with
        | none => rfl
        | some q => obtain ⟨r', hr'⟩ := hq q hQ; rw [sgn hr hr'] at hc; cases hc
      · cases hI : Lf.item l with
        | none => rfl
        | some y =>
          obtain ⟨c, k, t⟩ := y
          obtain ⟨_, _, h, _⟩ := hi c k t hI
          rw [hB] at h; cases h
    | false =>
      cases hQ : Lf.quote l with
      | some q =>
        obtain ⟨r, hr⟩ := hq q hQ
        refine .inr (.inr (.inr (.inl ⟨rfl, rfl, ⟨q, rfl⟩, ?_⟩)))
        cases hI : Lf.item l with
        | none => rfl
        | some y =>
          obtain ⟨c, k, t⟩ := y
          obtain ⟨⟨r', hr'⟩, hc, _⟩ := hi c k t hI
          rw [← sgn hr hr'] at hc; cases hc
      | none =>
        cases hI : Lf.item l with
        | none => exact .inl ⟨rfl, rfl, rfl, rfl⟩
        | some y =>
          obtain ⟨c, k, t⟩ := y
          obtain ⟨_, hc, _, h2, h8⟩ := hi c k t hI
          exact .inr (.inr (.inr (.inr ⟨rfl, rfl, rfl, c, k, t, rfl, hc, h2, h8⟩)))
end Go.Proofs.YtkhaijcaeoclaaaDoor
