/- Plain mathematics of lines, by what is left of a text: places struck. -/
import Derived.Test.YtbddmnhmfmkbhaaLnMath
namespace Go.Proofs.Ytbddmnhmfmkbhaa.Ln

/-- the texts of the lines of what is left -/
def tx (l : List UInt8) : List (List UInt8) := texts l 0

theorem eol_drop (l : List UInt8) (k j : Nat) : eol (l.drop k) j + k = eol l (j + k) := by
  unfold eol; rw [List.drop_drop, Nat.add_comm k j]; omega
theorem nxt_drop (l : List UInt8) (k j : Nat) : nxt (l.drop k) j + k = nxt l (j + k) := by
  unfold nxt
  rw [← eol_drop, List.drop_drop, Nat.add_comm k (eol (l.drop k) j)]; omega
theorem mid_drop (l : List UInt8) (k a b : Nat) : mid (l.drop k) a b = mid l (a + k) (b + k) := by
  unfold mid; rw [List.drop_drop, Nat.add_comm k a, show b + k - (a + k) = b - a from by omega]

theorem texts_drop (l : List UInt8) (k j : Nat) : texts (l.drop k) j = texts l (j + k) := by
  by_cases h : j < (l.drop k).length
  · have h' : j + k < l.length := by rw [List.length_drop] at h; omega
    have hlt := lt_nxt h
    rw [texts_step h, texts_step h', texts_drop l k (nxt (l.drop k) j), mid_drop, nxt_drop, eol_drop]
  · have h' : ¬ j + k < l.length := by rw [List.length_drop] at h; omega
    rw [texts_end h, texts_end h']
termination_by (l.drop k).length - j
decreasing_by have := lt_nxt h; omega

theorem tx_drop (l : List UInt8) (k : Nat) : tx (l.drop k) = texts l k := by rw [tx, texts_drop]; simp
theorem tx_nil : tx [] = [] := texts_end (by simp)

theorem run_clean {s r : List UInt8} (h : ∀ b ∈ s, isEnd b = false) : run (s ++ r) = s.length + run r := by
  induction s with
  | nil => simp
  | cons b s ih =>
    have h1 := h b (by simp)
    rw [List.cons_append, run_step _ h1, ih fun x hx => h x (by simp [hx])]
    simp; omega

theorem tx_clean {s : List UInt8} (h : ∀ b ∈ s, isEnd b = false) (hs : s ≠ []) : tx s = [s] := by
  have hp : 0 < s.length := List.length_pos_iff.2 hs
  have hr : run s = s.length := by have := run_clean (r := []) h; simpa [run] using this
  have he : eol s 0 = s.length := by simp [eol, hr]
  have hn : nxt s 0 = s.length := by unfold nxt; rw [he]; simp [endLen]
  rw [tx, texts_step hp, he, hn, texts_end (by omega)]
  simp [mid]

/-- a line, its end, and what is left -/
theorem tx_line {s e r : List UInt8} (h : ∀ b ∈ s, isEnd b = false) (hr : run (e ++ r) = 0) (he : endLen (e ++ r) = e.length) (hp : 0 < (e ++ r).length) : tx (s ++ (e ++ r)) = s :: tx r := by
  have hrun : run (s ++ (e ++ r)) = s.length := by rw [run_clean h, hr]; omega
  have h1 : eol (s ++ (e ++ r)) 0 = s.length := by simp [eol, hrun]
  have h2 : nxt (s ++ (e ++ r)) 0 = s.length + e.length := by unfold nxt; rw [h1, List.drop_left, he]
  have hl : 0 < (s ++ (e ++ r)).length := by simp at hp ⊢; omega
  have hd : (s ++ (e ++ r)).drop (s.length + e.length) = r := by rw [← List.append_assoc, show s.length + e.length = (s ++ e).length from by simp, List.drop_left]
  have hm : mid (s ++ (e ++ r)) 0 s.length = s := by unfold mid; simp
  rw [tx, texts_step hl, h1, h2, hm, ← tx_drop, hd]

theorem run_ten (r : List UInt8) : run (10 :: r) = 0 := run_end _ rfl
theorem tx_ten {s r : List UInt8} (h : ∀ b ∈ s, isEnd b = false) : tx (s ++ 10 :: r) = s :: tx r :=
  tx_line (e := [10]) h (run_ten _) (endLen_else _ (by decide)) (by simp)
theorem tx_two {s r : List UInt8} (h : ∀ b ∈ s, isEnd b = false) : tx (s ++ 13 :: 10 :: r) = s :: tx r :=
  tx_line (e := [13, 10]) h (run_end _ rfl) rfl (by simp)

/-- the first line's end is told -/
theorem last_two {s r : List UInt8} (h : ∀ b ∈ s, isEnd b = false) : mid (s ++ 13 :: 10 :: r) (eol (s ++ 13 :: 10 :: r) 0) (nxt (s ++ 13 :: 10 :: r) 0) = [13, 10] := by
  have hrun : run (s ++ 13 :: 10 :: r) = s.length := by rw [run_clean h, run_end _ (by rfl)]; omega
  have h1 : eol (s ++ 13 :: 10 :: r) 0 = s.length := by simp [eol, hrun]
  have h2 : nxt (s ++ 13 :: 10 :: r) 0 = s.length + 2 := by unfold nxt; rw [h1, List.drop_left]; rfl
  rw [h1, h2]; unfold mid; rw [List.drop_left]; simp

/-- rows of ends and words: with one sign for an end, with two -/
def one : List Bool → List UInt8
  | [] => []
  | true :: r => 10 :: one r
  | false :: r => 120 :: one r
def two : List Bool → List UInt8
  | [] => []
  | true :: r => 13 :: 10 :: two r
  | false :: r => 120 :: two r
def ends : List Bool → Nat
  | [] => 0
  | true :: r => ends r + 1
  | false :: r => ends r

theorem one_snoc (l : List Bool) (b : Bool) : one (l ++ [b]) = one l ++ (if b then [10] else [120]) := by
  induction l with
  | nil => cases b <;> rfl
  | cons c r ih => cases c <;> simp [one, ih]
theorem two_snoc (l : List Bool) (b : Bool) : two (l ++ [b]) = two l ++ (if b then [13, 10] else [120]) := by
  induction l with
  | nil => cases b <;> rfl
  | cons c r ih => cases c <;> simp [two, ih]
theorem ends_snoc (l : List Bool) (b : Bool) : ends (l ++ [b]) = ends l + (if b then 1 else 0) := by
  induction l with
  | nil => cases b <;> rfl
  | cons c r ih => cases c <;> simp [ends, ih]; omega
theorem one_len (l : List Bool) : (one l).length = l.length := by
  induction l with
  | nil => rfl
  | cons c r ih => cases c <;> simp [one, ih]
theorem two_len (l : List Bool) : (two l).length ≤ 2 * l.length := by
  induction l with
  | nil => simp [two]
  | cons c r ih => cases c <;> simp [two] <;> omega
theorem ends_le (l : List Bool) : ends l ≤ l.length := by
  induction l with
  | nil => simp [ends]
  | cons c r ih => cases c <;> simp [ends] <;> omega

theorem clean_snoc {s : List UInt8} (h : ∀ b ∈ s, isEnd b = false) : ∀ b ∈ s ++ [120], isEnd b = false := by
  intro b hb
  rcases List.mem_append.1 hb with h1 | h1
  · exact h b h1
  · simp at h1; subst h1; rfl

theorem tx_one_two (l : List Bool) : ∀ s : List UInt8, (∀ b ∈ s, isEnd b = false) → tx (s ++ one l) = tx (s ++ two l) := by
  induction l with
  | nil => intro s _; rfl
  | cons c r ih =>
    intro s h
    cases c with
    | true =>
      rw [one, two, tx_ten h, tx_two h]
      have := ih [] (by simp)
      simp at this; rw [this]
    | false =>
      have := ih (s ++ [120]) (clean_snoc h)
      simpa [one, two] using this

/-- 1 if something stands behind the last end -/
def more (l : List UInt8) : Nat := if l.getLast? = none ∨ l.getLast? = some 10 then 0 else 1

theorem more_cons (b : UInt8) (r : List UInt8) (h : r ≠ []) : more (b :: r) = more r := by
  unfold more
  cases r with
  | nil => exact absurd rfl h
  | cons c r => simp [List.getLast?_cons_cons]

theorem more_app (s r : List UInt8) (h : r ≠ []) : more (s ++ r) = more r := by
  have : (s ++ r).getLast? = r.getLast? := by
    rw [List.getLast?_append]
    cases hr : r.getLast? with
    | none => exact absurd (List.getLast?_eq_none_iff.1 hr) h
    | some x => rfl
  unfold more; rw [this]

theorem len_one (l : List Bool) : ∀ s : List UInt8, (∀ b ∈ s, isEnd b = false) → (tx (s ++ one l)).length = ends l + more (s ++ one l) := by
  induction l with
  | nil =>
    intro s h
    simp only [one, List.append_nil, ends]
    cases hs : s with
    | nil => simp [tx_nil, more]
    | cons b r =>
      rw [← hs, tx_clean h (by simp [hs])]
      have hl : s.getLast? ≠ none := by simp [hs]
      unfold more
      rw [if_neg]
      · simp
      · rintro (h1 | h1)
        · exact hl h1
        · have := h 10 (List.mem_of_getLast? h1)
          simp [isEnd] at this
  | cons c r ih =>
    intro s h
    cases c with
    | true =>
      rw [one, tx_ten h]
      have h2 := ih [] (by simp)
      simp only [List.nil_append] at h2
      simp only [List.length_cons, h2, ends]
      have : more (s ++ 10 :: one r) = more (one r) := by
        rw [more_app _ _ (by simp)]
        cases hr : one r with
        | nil => simp [more]
        | cons b t => rw [more_cons _ _ (by simp)]
      rw [this]; omega
    | false =>
      have := ih (s ++ [120]) (clean_snoc h)
      simpa [one, ends] using this

theorem two_first (l : List Bool) (h : 0 < ends l) : ∃ s r, (∀ b ∈ s, isEnd b = false) ∧ two l = s ++ 13 :: 10 :: r := by
  induction l with
  | nil => simp [ends] at h
  | cons c r ih =>
    cases c with
    | true => exact ⟨[], two r, by simp, rfl⟩
    | false =>
      obtain ⟨s, t, h1, h2⟩ := ih (by simpa [ends] using h)
      exact ⟨120 :: s, t, by intro b hb; rcases List.mem_cons.1 hb with rfl | hb; rfl; exact h1 b hb, by simp [two, h2]⟩
end Go.Proofs.Ytbddmnhmfmkbhaa.Ln
