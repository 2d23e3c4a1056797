/- Code within text, as lists, by no program: a span's end, what is between, cleaned. -/
import Derived.Test.YtjkmhcolnidflaaFnMath
import Derived.Test.YtjkmhcolnidflaaMem
namespace Go.Proofs.Ytjkmhcolnidflaa.Cd

/-- a line's end as a blank -/
def nl (b : UInt8) : UInt8 := if b = 10 then 32 else b
def flat (l : List UInt8) : List UInt8 := l.map nl
theorem flat_len (l : List UInt8) : (flat l).length = l.length := by simp [flat]
def blanks (l : List UInt8) : Bool := l.all (· == 32)
/-- without the blanks that are first and last, if both are, and not all are -/
def clean (l : List UInt8) : List UInt8 :=
  if blanks (flat l) = false ∧ (flat l).getD 0 0 = 32 ∧ (flat l).getD ((flat l).length - 1) 0 = 32 then mid (flat l) 1 ((flat l).length - 1) else flat l
theorem clean_len (l : List UInt8) : (clean l).length ≤ l.length := by
  have h := flat_len l
  unfold clean
  split
  · unfold Go.Proofs.Ytjkmhcolnidflaa.mid; rw [List.length_take, List.length_drop]; omega
  · omega
theorem flat_take {l : List UInt8} {k : Nat} (h : k < l.length) : flat (l.take (k + 1)) = flat (l.take k) ++ [nl l[k]] := by
  rw [List.take_succ_eq_append_getElem h]; unfold flat; rw [List.map_append]; rfl
theorem blanks_take {l : List UInt8} {k : Nat} (h : k < l.length) : blanks (flat (l.take (k + 1))) = (blanks (flat (l.take k)) && nl l[k] == 32) := by
  rw [flat_take h]; simp [blanks]

/-- the first row of just n of ` from a place on, by at most so many steps -/
def findF : Nat → List UInt8 → Nat → Nat → Option Nat
  | 0, _, _, _ => none
  | f + 1, l, n, i => if i < l.length then (if Fn.run 96 (l.drop i) = n then some i else findF f l n (i + max (Fn.run 96 (l.drop i)) 1)) else none
def find (l : List UInt8) (n i : Nat) : Option Nat := findF (l.length + 1 - i) l n i
theorem findF_fuel : ∀ (f g : Nat) (l : List UInt8) (n i : Nat), l.length < f + i → l.length < g + i → findF f l n i = findF g l n i
  | 0, 0, _, _, _, _, _ => rfl
  | 0, g + 1, l, n, i, h, _ => by unfold findF; rw [if_neg (by omega)]
  | f + 1, 0, l, n, i, _, h => by unfold findF; rw [if_neg (by omega)]
  | f + 1, g + 1, l, n, i, hf, hg => by
    unfold findF
    rw [findF_fuel f g l n _ (by omega) (by omega)]
theorem find_end {l : List UInt8} {n i : Nat} (h : l.length ≤ i) : find l n i = none := by
  unfold find
  cases hf : l.length + 1 - i with
  | zero => rfl
  | succ f => unfold findF; rw [if_neg (by omega)]
theorem find_step {l : List UInt8} {n i : Nat} (h : i < l.length) : find l n i = if Fn.run 96 (l.drop i) = n then some i else find l n (i + max (Fn.run 96 (l.drop i)) 1) := by
  unfold find
  obtain ⟨f, hf⟩ : ∃ f, l.length + 1 - i = f + 1 := ⟨l.length - i, by omega⟩
  rw [hf]
  conv => lhs; unfold findF
  rw [if_pos h, findF_fuel f _ l n _ (by omega) (Nat.lt_of_lt_of_le (show l.length < (l.length + 1 - (i + max (Fn.run 96 (l.drop i)) 1)) + (i + max (Fn.run 96 (l.drop i)) 1) by omega) (Nat.le_refl _))]
theorem find_yes {l : List UInt8} {n i : Nat} (h : i < l.length) (hr : Fn.run 96 (l.drop i) = n) : find l n i = some i := by rw [find_step h, if_pos hr]
theorem find_no {l : List UInt8} {n i : Nat} (h : i < l.length) (hr : Fn.run 96 (l.drop i) ≠ n) : find l n i = find l n (i + max (Fn.run 96 (l.drop i)) 1) := by rw [find_step h, if_neg hr]

/-- within a row all are signs; behind it none is -/
theorem runs_in {c : UInt8} : ∀ {l : List UInt8} {j : Nat}, j < Fn.run c l → l.getD j 0 = c
  | [], j, h => by simp [Fn.run] at h
  | b :: r, j, h => by
    by_cases hb : b = c
    · rw [Fn.run_go r hb] at h
      cases j with
      | zero => simpa using hb
      | succ j => have := runs_in (c := c) (l := r) (j := j) (by omega); simpa using this
    · rw [Fn.run_stop r hb] at h; omega
theorem run_behind {c : UInt8} : ∀ {l : List UInt8}, Fn.run c l < l.length → l.getD (Fn.run c l) 0 ≠ c
  | [], h => by simp at h
  | b :: r, h => by
    by_cases hb : b = c
    · rw [Fn.run_go r hb] at h ⊢
      have := run_behind (c := c) (l := r) (by simp at h; omega)
      simpa using this
    · rw [Fn.run_stop r hb]; simpa using hb
theorem run_drop_behind (c : UInt8) (l : List UInt8) (i : Nat) : Fn.run c (l.drop (i + Fn.run c (l.drop i))) = 0 := by
  by_cases h : i + Fn.run c (l.drop i) < l.length
  · refine Fn.run_no h ?_
    have hb := run_behind (c := c) (l := l.drop i) (by rw [List.length_drop]; omega)
    simpa [List.getD, List.getElem?_eq_getElem h] using hb
  · exact Fn.run_end h
theorem run_one {c : UInt8} {l : List UInt8} (hn : Fn.run c l = 0) (h : 0 < l.length) : l.getD 0 0 ≠ c := by
  have := run_behind (c := c) (l := l) (by omega)
  rwa [hn] at this

/-- what is found: a row of n, a row's beginning, and no such row ahead -/
theorem find_spec {l : List UInt8} {n : Nat} (hn : 1 ≤ n) : ∀ (f i p : Nat), findF f l n i = some p →
    i ≤ p ∧ p < l.length ∧ Fn.run 96 (l.drop p) = n ∧ (p = i ∨ l.getD (p - 1) 0 ≠ 96) ∧ ∀ j, i ≤ j → j < p → (j = i ∨ l.getD (j - 1) 0 ≠ 96) → Fn.run 96 (l.drop j) ≠ n
  | 0, _, _, h => by simp [findF] at h
  | f + 1, i, p, h => by
    unfold findF at h
    by_cases hi : i < l.length
    · rw [if_pos hi] at h
      by_cases hr : Fn.run 96 (l.drop i) = n
      · rw [if_pos hr] at h
        injection h with h; subst h
        exact ⟨Nat.le_refl _, hi, hr, .inl rfl, fun j h1 h2 => by omega⟩
      · rw [if_neg hr] at h
        obtain ⟨k, hk⟩ : ∃ k, k = Fn.run 96 (l.drop i) := ⟨_, rfl⟩
        rw [← hk] at h hr
        obtain ⟨g1, g2, g3, g4, g5⟩ := find_spec hn f _ p h
        refine ⟨by omega, g2, g3, ?_, ?_⟩
        · rcases g4 with g4 | g4
          · right
            rcases Nat.eq_zero_or_pos k with h0 | h0
            · have : p - 1 = i := by omega
              rw [this]
              have hb := run_one (c := 96) (l := l.drop i) (by omega) (by rw [List.length_drop]; omega)
              simpa [List.getD] using hb
            · exfalso
              have hb := run_drop_behind 96 l i
              rw [← hk, show i + k = p by omega] at hb
              omega
          · exact .inr g4
        · intro j h1 h2 h3
          by_cases hji : j = i
          · subst hji; rw [← hk]; exact hr
          · by_cases hjn : j < i + max k 1
            · exfalso
              rcases h3 with h3 | h3
              · exact hji h3
              · have hin := runs_in (c := 96) (l := l.drop i) (j := j - 1 - i) (by omega)
                rw [List.getD_eq_getElem?_getD, List.getElem?_drop, show i + (j - 1 - i) = j - 1 by omega] at hin
                exact h3 (by rw [List.getD_eq_getElem?_getD]; exact hin)
            · refine g5 j (by omega) h2 ?_
              rcases h3 with h3 | h3
              · exact absurd h3 hji
              · exact .inr h3
    · rw [if_neg hi] at h; simp at h

/-- a row's beginning with n signs, and no place with n ahead: it is found -/
theorem find_is {l : List UInt8} {n p : Nat} (hp : p < l.length) (hr : Fn.run 96 (l.drop p) = n) (hb : l.getD (p - 1) 0 ≠ 96) :
    ∀ (d i : Nat), i + d = p → (∀ j, i ≤ j → j < p → Fn.run 96 (l.drop j) ≠ n) → find l n i = some p := by
  intro d
  induction d using Nat.strongRecOn with
  | ind d ih =>
    intro i hd hno
    rcases Nat.eq_zero_or_pos d with h0 | h0
    · have : i = p := by omega
      subst this
      exact find_yes hp hr
    · have hi : i < l.length := by omega
      rw [find_no hi (hno i (Nat.le_refl _) (by omega))]
      obtain ⟨k, hk⟩ : ∃ k, k = Fn.run 96 (l.drop i) := ⟨_, rfl⟩
      rw [← hk]
      have hle : i + max k 1 ≤ p := by
        rcases Nat.lt_or_ge p (i + max k 1) with h1 | h1
        · exfalso
          have hin := runs_in (c := 96) (l := l.drop i) (j := p - 1 - i) (by omega)
          rw [List.getD_eq_getElem?_getD, List.getElem?_drop, show i + (p - 1 - i) = p - 1 by omega] at hin
          exact hb (by rw [List.getD_eq_getElem?_getD]; exact hin)
        · exact h1
      exact ih (p - (i + max k 1)) (by omega) _ (by omega) fun j h1 h2 => hno j (by omega) h2

/-- a span that begins at a place: what is between, cleaned, and where it ends -/
def opens (l : List UInt8) (at_ : Int) : Bool := decide (0 ≤ at_ ∧ at_.toNat < l.length ∧ l.getD at_.toNat 0 = 96 ∧ (at_.toNat = 0 ∨ l.getD (at_.toNat - 1) 0 ≠ 96))
def span (l : List UInt8) (at_ : Int) : Option (List UInt8 × Nat) :=
  if opens l at_ = true then (find l (Fn.run 96 (l.drop at_.toNat)) (at_.toNat + Fn.run 96 (l.drop at_.toNat))).map fun i => (clean (mid l (at_.toNat + Fn.run 96 (l.drop at_.toNat)) i), i + Fn.run 96 (l.drop at_.toNat)) else none
theorem span_off {l : List UInt8} {at_ : Int} (h : opens l at_ = false) : span l at_ = none := by unfold span; rw [if_neg (by rw [h]; decide)]
theorem span_on {l : List UInt8} {at_ : Int} {n : Nat} (h : opens l at_ = true) (hn : Fn.run 96 (l.drop at_.toNat) = n) :
    span l at_ = (find l n (at_.toNat + n)).map fun i => (clean (mid l (at_.toNat + n) i), i + n) := by unfold span; rw [if_pos h, hn]
theorem opens_run {l : List UInt8} {at_ : Int} (h : opens l at_ = true) : 1 ≤ Fn.run 96 (l.drop at_.toNat) := by
  unfold opens at h
  have h := of_decide_eq_true h
  have hk := h.2.1
  have : l[at_.toNat] = 96 := by simpa [List.getD, List.getElem?_eq_getElem hk] using h.2.2.1
  rw [Fn.run_at hk this]; omega

/-- of a span: as many signs at its end as at its beginning, something between, no such row within -/
theorem span_spec {l : List UInt8} {at_ : Int} {t : List UInt8} {e : Nat} (h : span l at_ = some (t, e)) :
    1 ≤ Fn.run 96 (l.drop at_.toNat) ∧ e ≤ l.length ∧ at_.toNat + 2 * Fn.run 96 (l.drop at_.toNat) + 1 ≤ e ∧ Fn.run 96 (l.drop (e - Fn.run 96 (l.drop at_.toNat))) = Fn.run 96 (l.drop at_.toNat) ∧
      l.getD (e - Fn.run 96 (l.drop at_.toNat) - 1) 0 ≠ 96 ∧ (∀ i, at_.toNat + Fn.run 96 (l.drop at_.toNat) ≤ i → i < e - Fn.run 96 (l.drop at_.toNat) → l.getD (i - 1) 0 ≠ 96 → Fn.run 96 (l.drop i) ≠ Fn.run 96 (l.drop at_.toNat)) ∧ t.length ≤ l.length := by
  cases ho : opens l at_ with
  | false => rw [span_off ho] at h; simp at h
  | true =>
    have hn := opens_run ho
    obtain ⟨n, hne⟩ : ∃ n, n = Fn.run 96 (l.drop at_.toNat) := ⟨_, rfl⟩
    rw [span_on ho hne.symm] at h
    rw [← hne] at hn ⊢
    obtain ⟨p, hp, hpe⟩ := Option.map_eq_some_iff.1 h
    injection hpe with e1 e2
    subst e1 e2
    obtain ⟨g1, g2, g3, g4, g5⟩ := find_spec hn _ _ _ hp
    have hb := run_drop_behind 96 l at_.toNat
    rw [← hne] at hb
    have hne2 : p ≠ at_.toNat + n := by intro hc; rw [hc, hb] at g3; omega
    have g4' : l.getD (p - 1) 0 ≠ 96 := by
      rcases g4 with g4 | g4
      · exact absurd g4 hne2
      · exact g4
    have hle := Fn.run_le 96 (l.drop p)
    rw [List.length_drop, g3] at hle
    rw [show p + n - n = p by omega]
    refine ⟨hn, by omega, by omega, g3, g4', fun i h1 h2 h3 => g5 i h1 h2 (.inr h3), ?_⟩
    have := clean_len (mid l (at_.toNat + n) p)
    rw [mid_len (by omega)] at this
    omega

/-- signs between rows of more signs than are within -/
def tick (n : Nat) : List UInt8 := List.replicate n 96
theorem run_le_stop {c : UInt8} {l : List UInt8} {j : Nat} (h : l.getD j 0 ≠ c) : Fn.run c l ≤ j := by
  rcases Nat.lt_or_ge j (Fn.run c l) with h1 | h1
  · exact absurd (runs_in h1) h
  · exact h1
theorem span_between {n : Nat} {s t : List UInt8} (hn : 1 ≤ n) (hs : s.length ≤ n ∨ (s.length ≤ n + 2 ∧ s.getD 1 0 ≠ 96 ∧ 1 < s.length)) (h0 : 0 < s.length) (hf : s.getD 0 0 ≠ 96) (hl : s.getD (s.length - 1) 0 ≠ 96) (ht : t.getD 0 0 ≠ 96 ∨ t = []) :
    span (tick n ++ s ++ tick n ++ t) 0 = some (clean s, 2 * n + s.length) := by
  obtain ⟨L, hL⟩ : ∃ L, L = tick n ++ s ++ tick n ++ t := ⟨_, rfl⟩
  have htl : (tick n).length = n := by simp [tick]
  have hlen : L.length = n + s.length + n + t.length := by rw [hL]; simp [htl]; omega
  have g0 : ∀ j, j < n → L.getD j 0 = 96 := fun j hj => by
    rw [hL, List.append_assoc, List.append_assoc, List.getD_eq_getElem?_getD, List.getElem?_append_left (by omega)]; simp [tick, hj]
  have g1 : ∀ j, j < s.length → L.getD (n + j) 0 = s.getD j 0 := fun j hj => by
    rw [hL, List.append_assoc, List.append_assoc]
    simp only [List.getD_eq_getElem?_getD]
    rw [List.getElem?_append_right (by omega), htl, show n + j - n = j by omega, List.getElem?_append_left hj]
  have r0 : Fn.run 96 L = n := by
    have hrep : Fn.run 96 (s ++ (tick n ++ t)) = 0 := by
      match s, h0, hf with
      | b :: r, _, hf => rw [List.cons_append]; exact Fn.run_stop _ (by simpa using hf)
    rw [hL, List.append_assoc, List.append_assoc, tick, Fn.run_rep]
    rw [tick] at hrep
    rw [hrep]; omega
  have r2 : Fn.run 96 (L.drop (n + s.length)) = n := by
    have hd : L.drop (n + s.length) = tick n ++ t := by
      rw [hL, List.append_assoc (tick n ++ s), List.drop_append_of_le_length (by simp [htl]), List.drop_eq_nil_of_le (by simp [htl])]; rfl
    rw [hd, tick, Fn.run_rep]
    rcases ht with ht | ht
    · match t, ht with
      | [], _ => rfl
      | b :: r, ht => rw [Fn.run_stop _ (by simpa using ht)]; rfl
    · rw [ht]; rfl
  have ho : opens L 0 = true := by
    unfold opens
    exact decide_eq_true ⟨by omega, by simp; omega, g0 0 (by omega), .inl rfl⟩
  have hfi : find L n n = some (n + s.length) := by
    have hx := g1 (s.length - 1) (by omega)
    refine find_is (by omega) r2 (by rw [show n + s.length - 1 = n + (s.length - 1) by omega, hx]; exact hl) s.length n rfl ?_
    intro j h1 h2 h3
    have hb : L.getD (n + (s.length - 1)) 0 ≠ 96 := by rw [hx]; exact hl
    have := run_le_stop (c := 96) (l := L.drop j) (j := n + (s.length - 1) - j) (by
      rw [List.getD_eq_getElem?_getD, List.getElem?_drop, show j + (n + (s.length - 1) - j) = n + (s.length - 1) by omega, ← List.getD_eq_getElem?_getD]; exact hb)
    rcases hs with hs | ⟨hs, hs1, hs2⟩
    · omega
    · rcases (show j = n ∨ j = n + 1 ∨ n + 2 ≤ j by omega) with rfl | rfl | h4
      · have hz := run_le_stop (c := 96) (l := L.drop j) (j := 0) (by
          rw [List.getD_eq_getElem?_getD, List.getElem?_drop, ← List.getD_eq_getElem?_getD, show j + 0 = j + 0 from rfl, g1 0 h0]; exact hf)
        omega
      · have hz := run_le_stop (c := 96) (l := L.drop (n + 1)) (j := 0) (by
          rw [List.getD_eq_getElem?_getD, List.getElem?_drop, ← List.getD_eq_getElem?_getD, show n + 1 + 0 = n + 1 from rfl, g1 1 hs2]; exact hs1)
        omega
      · omega
  have hz : ((0 : Int).toNat) = 0 := rfl
  rw [← hL, span_on (n := n) ho (by rw [hz, List.drop_zero]; exact r0), hz, Nat.zero_add, hfi]
  have hm : mid L n (n + s.length) = s := by
    unfold Go.Proofs.Ytjkmhcolnidflaa.mid
    rw [hL, List.append_assoc, List.append_assoc, List.drop_append_of_le_length (by omega), List.drop_eq_nil_of_le (by omega), List.nil_append, show n + s.length - n = s.length by omega, List.take_left']
    rfl
  simp only [Option.map_some, hm, Option.some.injEq, Prod.mk.injEq, true_and]
  omega
theorem clean_word {s : List UInt8} (h0 : 0 < s.length) (h : s.getD 0 0 ≠ 32 ∧ s.getD 0 0 ≠ 10) : clean s = flat s := by
  unfold clean
  rw [if_neg]
  rintro ⟨_, h2, _⟩
  match s, h0, h with
  | b :: r, _, h =>
    simp only [List.getD_cons_zero] at h
    simp only [flat, List.map_cons, List.getD_cons_zero, nl] at h2
    split at h2
    · rename_i hb; exact h.2 hb
    · exact h.1 h2
theorem clean_blanks {s : List UInt8} (h0 : 0 < s.length) (h : s.getD 0 0 ≠ 32 ∧ s.getD 0 0 ≠ 10) : clean (32 :: s ++ [32]) = flat s := by
  have hfl : flat (32 :: s ++ [32]) = 32 :: flat s ++ [32] := by simp [flat, nl]
  unfold clean
  rw [hfl, if_pos]
  · have hl : (32 :: flat s ++ [32]).length = s.length + 2 := by simp [flat_len]
    unfold Go.Proofs.Ytjkmhcolnidflaa.mid
    rw [hl]
    simp only [List.cons_append, List.drop_succ_cons, List.drop_zero, show s.length + 2 - 1 - 1 = (flat s).length by rw [flat_len]; omega]
    exact List.take_left' rfl
  · refine ⟨?_, by simp, ?_⟩
    · match s, h0, h with
      | b :: r, _, h =>
        simp only [List.getD_cons_zero] at h
        have hb : (nl b == 32) = false := by
          unfold nl
          rw [if_neg h.2]
          simpa using h.1
        simp [blanks, flat, hb]
    · have hl : (32 :: flat s ++ [32]).length - 1 = (32 :: flat s).length := by simp
      rw [hl]
      simp [List.getD]
theorem law_spans {T : List UInt8} (h : T.length ≤ 26) (h0 : 0 < T.length) (hT0 : T.getD 0 0 = 120) (hT1 : T.getD (T.length - 1) 0 = 120) :
    span (tick 26 ++ T ++ tick 26) 0 = some (flat T, T.length + 52) ∧ span (tick 26 ++ (32 :: T ++ [32]) ++ tick 26 ++ [121]) 0 = some (flat T, T.length + 54) := by
  have hw : T.getD 0 0 ≠ 32 ∧ T.getD 0 0 ≠ 10 := by rw [hT0]; decide
  have s1 := span_between (n := 26) (s := T) (t := []) (by omega) (.inl h) h0 (by rw [hT0]; decide) (by rw [hT1]; decide) (.inr rfl)
  have ht1 : (32 :: T ++ [32]).getD 1 0 ≠ 96 := by
    match T, h0, hT0 with
    | b :: r, _, hT0 =>
      simp only [List.getD_cons_zero] at hT0
      subst hT0
      simp
  have s2 := span_between (n := 26) (s := 32 :: T ++ [32]) (t := [121]) (by omega) (.inr ⟨by simp; omega, ht1, by simp⟩) (by simp) (by simp) (by
    have e : (32 :: T ++ [32]).length - 1 = (32 :: T).length := by simp
    rw [e]; simp [List.getD]) (.inl (by decide))
  rw [clean_word h0 hw, List.append_nil] at s1
  rw [clean_blanks h0 hw] at s2
  have e2 : 2 * 26 + (32 :: T ++ [32]).length = T.length + 54 := by simp; omega
  rw [e2] at s2
  rw [show 2 * 26 + T.length = T.length + 52 by omega] at s1
  exact ⟨s1, s2⟩
end Go.Proofs.Ytjkmhcolnidflaa.Cd
