/- Where a bracket closes, by no program: one stands there, and, where no code and no address may be ahead of it, an even number of backslashes. -/
import Derived.Test.YtjkmhcolnidflaaLkMath
namespace Go.Proofs.Ytjkmhcolnidflaa.Lk
open Go.Lib Ru Es

theorem decode_high {b : UInt8} {r : List UInt8} (h : 128 ≤ b.toNat) : 128 ≤ (decodeL (b :: r)).1 := by
  rw [decodeL_N]
  simp only [List.getD_cons_zero]
  unfold decodeN
  rw [if_neg (by omega)]
  repeat' split
  all_goals simp only; omega
theorem next_low {l : List UInt8} {k n : Nat} (h : k < l.length) (hn : n < 128) (hi : (next l k).2.2 = false) (h1 : (next l k).1 = n) : l[k].toNat = n := by
  rw [next_in h] at hi h1
  have he : isEsc (l.drop k) = false := by
    cases he : isEsc (l.drop k) with
    | false => rfl
    | true => rw [step_yes he] at hi; simp at hi
  rw [step_no he] at h1
  rw [List.drop_eq_getElem_cons h] at h1
  rcases Nat.lt_or_ge l[k].toNat 128 with hb | hb
  · rw [decodeL_low hb] at h1; exact h1
  · have := decode_high (r := l.drop (k + 1)) hb
    simp only at h1
    omega
theorem sign_is {l : List UInt8} {k : Nat} (h : k < l.length) (hs : sign l k = 93) : l[k] = 93 := by
  unfold sign at hs
  split at hs
  · cases hs
  · split at hs
    · cases hs
    · split at hs
      · cases hs
      · rename_i hi
        have := next_low h (by omega) (by simpa using hi) hs
        exact UInt8.toNat_inj.1 (by rw [this]; rfl)

/-- from where one comes to a place -/
inductive Reach (l : List UInt8) (k : Nat) : Nat → Prop
  | here : Reach l k k
  | step {i : Nat} : i < l.length → Reach l k (hop l i) → Reach l k i
theorem Reach.le {l : List UInt8} {k i : Nat} (h : Reach l k i) : i ≤ k := by
  induction h with
  | here => exact Nat.le_refl _
  | step hi _ ih => have := hop_more hi; omega
theorem closes_reach {l : List UInt8} : ∀ (f i d k : Nat), closeF f l i d = some k → Reach l k i ∧ k < l.length ∧ sign l k = 93
  | 0, _, _, _, h => by simp [closeF] at h
  | f + 1, i, d, k, h => by
    unfold closeF at h
    split at h
    · rename_i hi
      split at h
      · rename_i hs
        split at h
        · injection h with h; subst h; exact ⟨.here, hi, hs⟩
        · have := closes_reach f _ _ k h; exact ⟨.step hi this.1, this.2⟩
      · have := closes_reach f _ _ k h; exact ⟨.step hi this.1, this.2⟩
    · cases h
theorem close_reach {l : List UInt8} {k : Nat} (h : close l 0 = some k) : Reach l k 1 ∧ k < l.length ∧ sign l k = 93 := by
  unfold close at h
  split at h
  · exact closes_reach _ _ _ _ h
  · cases h
theorem close_is {l : List UInt8} {k : Nat} (h : close l 0 = some k) : 1 ≤ k ∧ ∃ hk : k < l.length, l[k] = 93 := by
  obtain ⟨h1, h2, h3⟩ := close_reach h
  exact ⟨h1.le, h2, sign_is h2 h3⟩

/-- how many backslashes stand ahead of a place -/
def back (l : List UInt8) : Nat → Nat
  | 0 => 0
  | k + 1 => if l.getD k 0 = 92 then back l k + 1 else 0
theorem back_le (l : List UInt8) : ∀ k, back l k ≤ k
  | 0 => Nat.le_refl _
  | k + 1 => by unfold back; have := back_le l k; split <;> omega
theorem back_at (l : List UInt8) : ∀ k j, k - back l k ≤ j → j < k → l.getD j 0 = 92
  | 0, j, _, h => by omega
  | k + 1, j, h1, h2 => by
    unfold back at h1
    split at h1
    · rename_i hk
      by_cases hj : j = k
      · subst hj; exact hk
      · exact back_at l k j (by omega) (by omega)
    · omega
theorem back_stop (l : List UInt8) : ∀ k, back l k < k → l.getD (k - back l k - 1) 0 ≠ 92
  | 0, h => by omega
  | k + 1, h => by
    unfold back at h ⊢
    split
    · rename_i hk
      rw [if_pos hk] at h
      have := back_stop l k (by omega)
      rwa [show k + 1 - (back l k + 1) - 1 = k - back l k - 1 by omega]
    · rename_i hk; simpa using hk

theorem getD_at {l : List UInt8} {i : Nat} (h : i < l.length) : l.getD i 0 = l[i] := by rw [List.getD_eq_getElem?_getD, List.getElem?_eq_getElem h]; rfl
theorem isEsc_at {l : List UInt8} {i : Nat} (h : i + 1 < l.length) (h1 : l.getD i 0 = 92) (h2 : asc (l.getD (i + 1) 0) = true) : isEsc (l.drop i) = true := by
  rw [getD_at (by omega)] at h1
  rw [getD_at h] at h2
  rw [List.drop_eq_getElem_cons (by omega), List.drop_eq_getElem_cons h]
  simp [isEsc, h1, h2]
theorem isEsc_fst {l : List UInt8} {i : Nat} (h : isEsc (l.drop i) = true) : l.getD i 0 = 92 := by
  have hl := isEsc_len h
  rw [List.length_drop] at hl
  rw [List.drop_eq_getElem_cons (by omega), List.drop_eq_getElem_cons (by omega)] at h
  simp only [isEsc, Bool.and_eq_true, beq_iff_eq] at h
  rw [getD_at (by omega)]; exact h.1
theorem hop_plain {l : List UInt8} {i : Nat} (_h : i < l.length) (h1 : l.getD i 0 ≠ 96) (h2 : l.getD i 0 ≠ 60) : hop l i = (next l i).2.1 := by
  have ha : auto l (i : Int) = none := auto_off (starts_no (.inr (.inl h2)))
  exact (hop_next h1 ha).1

/-- ahead of the backslashes a piece begins -/
theorem reach_back {l : List UInt8} {k : Nat} (_hk : k < l.length) (h93 : l.getD k 0 = 93) (hno : ∀ i, i < k → l.getD i 0 ≠ 96 ∧ l.getD i 0 ≠ 60) {i : Nat} (h : Reach l k i) (hp : i ≤ k - back l k) : Reach l k (k - back l k) := by
  induction h with
  | here => have := back_le l k; rw [show k - back l k = k by omega]; exact .here
  | step hi hr ih =>
    rename_i i
    by_cases hip : i = k - back l k
    · rw [← hip]; exact .step hi hr
    · have hik : i < k := by omega
      refine ih ?_
      obtain ⟨n1, n2⟩ := hno i hik
      rw [hop_plain hi n1 n2]
      refine Decidable.byContradiction fun hc => ?_
      rw [next_in hi] at hc
      simp only at hc
      cases he : isEsc (l.drop i) with
      | true =>
        rw [step_yes he] at hc
        simp only at hc
        have hb := back_stop l k (by omega)
        rw [show k - back l k - 1 = i by omega] at hb
        exact hb (isEsc_fst he)
      | false =>
        rw [step_no he] at hc
        simp only at hc
        have hr := (rune_bytes (drop_ne hi)).2.2 (k - back l k - i) (by omega) (by omega)
        rw [List.getD_eq_getElem?_getD, List.getElem?_drop, show i + (k - back l k - i) = k - back l k by omega, ← List.getD_eq_getElem?_getD] at hr
        by_cases hb0 : back l k = 0
        · rw [hb0, Nat.sub_zero, h93] at hr; simp at hr
        · rw [back_at l k (k - back l k) (Nat.le_refl _) (by have := back_le l k; omega)] at hr
          simp at hr
/-- two by two -/
theorem reach_even {l : List UInt8} {k : Nat} (hk : k < l.length) (h93 : l.getD k 0 = 93) : ∀ (n q : Nat), k - q = n → k - back l k ≤ q → Reach l k q → n % 2 = 0 := by
  intro n
  induction n using Nat.strongRecOn with
  | ind n ih =>
    intro q hq hp hr
    have hqk := hr.le
    rcases Nat.eq_zero_or_pos n with h0 | h0
    · rw [h0]
    · have hql : q < k := by omega
      have h92 := back_at l k q hp hql
      have hasc : asc (l.getD (q + 1) 0) = true := by
        by_cases hq1 : q + 1 = k
        · rw [hq1, h93]; decide
        · rw [back_at l k (q + 1) (by omega) (by omega)]; decide
      have he := isEsc_at (by omega) h92 hasc
      have hh : hop l q = q + 2 := by
        rw [hop_plain (by omega) (by rw [h92]; decide) (by rw [h92]; decide), next_in (by omega), step_yes he]
      have hr2 : Reach l k (q + 2) := by
        cases hr with
        | here => omega
        | step _ h => rwa [hh] at h
      have hle := hr2.le
      have := ih (k - (q + 2)) (by omega) (q + 2) rfl (by omega) hr2
      omega
theorem close_even {l : List UInt8} {k : Nat} (h0 : l.getD 0 0 = 91) (hc : close l 0 = some k) (hno : ∀ i, i < k → l.getD i 0 ≠ 96 ∧ l.getD i 0 ≠ 60) : back l k % 2 = 0 := by
  obtain ⟨h1, h2, _⟩ := close_reach hc
  obtain ⟨h3, hk, h93⟩ := close_is hc
  have h93' : l.getD k 0 = 93 := by rw [getD_at hk]; exact h93
  have hp : 1 ≤ k - back l k := by
    refine Decidable.byContradiction fun hp => ?_
    have := back_at l k 0 (by omega) (by omega)
    rw [h0] at this
    exact absurd this (by decide)
  have hbl := back_le l k
  exact reach_even hk h93' (back l k) (k - back l k) (by omega) (Nat.le_refl _) (reach_back hk h93' hno h1 hp)
/-- whether code or an address may begin in a text -/
def marks (l : List UInt8) : Bool := l.any fun b => b == 96 || b == 60
theorem close_odd {l : List UInt8} {k : Nat} (h0 : l.getD 0 0 = 91) (hc : close l 0 = some k) (hm : marks (l.take k) = false) : back l k % 2 = 0 := by
  refine close_even h0 hc fun i hi => ?_
  obtain ⟨_, hk, _⟩ := close_is hc
  have : l[i]'(by omega) ∈ l.take k := by
    have : (l.take k)[i]'(by rw [List.length_take]; omega) = l[i]'(by omega) := List.getElem_take
    rw [← this]; exact List.getElem_mem _
  unfold marks at hm
  rw [List.any_eq_false] at hm
  have := hm _ this
  simp only [Bool.or_eq_true, beq_iff_eq, not_or] at this
  rw [getD_at (by omega)]
  exact this
end Go.Proofs.Ytjkmhcolnidflaa.Lk
