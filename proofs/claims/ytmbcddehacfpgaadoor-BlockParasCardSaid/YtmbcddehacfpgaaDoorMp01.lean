/- Plain mathematics of lines, by what is left of a text: places struck. Plain mathematics of lines: they lie one behind the other, and are all; texts that are joined are the texts. And of runes: what a rune becomes has no byte of a line's end, unless it is one. -/
import Derived.Test.YtmbcddehacfpgaaDoorMr02
namespace Go.Proofs.YtmbcddehacfpgaaDoor.Ln

/-- the texts of the lines of what is left -/
def tx (l : List UInt8) : List (List UInt8) := texts l 0

theorem eol_drop (l : List UInt8) (k j : Nat) : eol (l.drop k) j + k = eol l (j + k) := by
  unfold eol; rw [List.drop_drop, Nat.add_comm k j]; omega
theorem nxt_drop (l : List UInt8) (k j : Nat) : nxt (l.drop k) j + k = nxt l (j + k) := by
  unfold nxt
  rw [← eol_drop, List.drop_drop, Nat.add_comm k (eol (l.drop k) j)]; omega
theorem mid_drop (l : List UInt8) (k a b : Nat) : mid (l.drop k) a b = mid l (a + k) (b + k) := by
  unfold mid; rw [List.drop_drop, Nat.add_comm k a, show b + k - (a + k) = b - a from by omega]

theorem texts_drop (l : List UInt8) (k j : Nat) : texts (l.drop k) j = texts l (j + k) := by
  by_cases h : j < (l.drop k).length
  · have h' : j + k < l.length := by rw [List.length_drop] at h; omega
    have hlt := lt_nxt h
    rw [texts_step h, texts_step h', texts_drop l k (nxt (l.drop k) j), mid_drop, nxt_drop, eol_drop]
  · have h' : ¬ j + k < l.length := by rw [List.length_drop] at h; omega
    rw [texts_end h, texts_end h']
termination_by (l.drop k).length - j
decreasing_by have := lt_nxt h; omega

theorem tx_drop (l : List UInt8) (k : Nat) : tx (l.drop k) = texts l k := by rw [tx, texts_drop]; simp
theorem tx_nil : tx [] = [] := texts_end (by simp)

theorem run_clean {s r : List UInt8} (h : ∀ b ∈ s, isEnd b = false) : run (s ++ r) = s.length + run r := by
  induction s with
  | nil => simp
  | cons b s ih =>
    have h1 := h b (by simp)
    rw [List.cons_append, run_step _ h1, ih fun x hx => h x (by simp [hx])]
    simp; omega

theorem tx_clean {s : List UInt8} (h : ∀ b ∈ s, isEnd b = false) (hs : s ≠ []) : tx s = [s] := by
  have hp : 0 < s.length := List.length_pos_iff.2 hs
  have hr : run s = s.length := by have := run_clean (r := []) h; simpa [run] using this
  have he : eol s 0 = s.length := by simp [eol, hr]
  have hn : nxt s 0 = s.length := by unfold nxt; rw [he]; simp [endLen]
  rw [tx, texts_step hp, he, hn, texts_end (by omega)]
  simp [mid]

/-- a line, its end, and what is left -/
theorem tx_line {s e r : List UInt8} (h : ∀ b ∈ s, isEnd b = false) (hr : run (e ++ r) = 0) (he : endLen (e ++ r) = e.length) (hp : 0 < (e ++ r).length) : tx (s ++ (e ++ r)) = s :: tx r := by
  have hrun : run (s ++ (e ++ r)) = s.length := by rw [run_clean h, hr]; omega
  have h1 : eol (s ++ (e ++ r)) 0 = s.length := by simp [eol, hrun]
  have h2 : nxt (s ++ (e ++ r)) 0 = s.length + e.length := by unfold nxt; rw [h1, List.drop_left, he]
  have hl : 0 < (s ++ (e ++ r)).length := by simp at hp ⊢; omega
  have hd : (s ++ (e ++ r)).drop (s.length + e.length) = r := by rw [← List.append_assoc, show s.length + e.length = (s ++ e).length from by simp, List.drop_left]
  have hm : mid (s ++ (e ++ r)) 0 s.length = s := by unfold mid; simp
  rw [tx, texts_step hl, h1, h2, hm, ← tx_drop, hd]

theorem run_ten (r : List UInt8) : run (10 :: r) = 0 := run_end _ rfl
theorem tx_ten {s r : List UInt8} (h : ∀ b ∈ s, isEnd b = false) : tx (s ++ 10 :: r) = s :: tx r :=
  tx_line (e := [10]) h (run_ten _) (endLen_else _ (by decide)) (by simp)
theorem tx_two {s r : List UInt8} (h : ∀ b ∈ s, isEnd b = false) : tx (s ++ 13 :: 10 :: r) = s :: tx r :=
  tx_line (e := [13, 10]) h (run_end _ rfl) rfl (by simp)

/-- the first line's end is told -/
theorem last_two {s r : List UInt8} (h : ∀ b ∈ s, isEnd b = false) : mid (s ++ 13 :: 10 :: r) (eol (s ++ 13 :: 10 :: r) 0) (nxt (s ++ 13 :: 10 :: r) 0) = [13, 10] := by
  have hrun : run (s ++ 13 :: 10 :: r) = s.length := by rw [run_clean h, run_end _ (by rfl)]; omega
  have h1 : eol (s ++ 13 :: 10 :: r) 0 = s.length := by simp [eol, hrun]
  have h2 : nxt (s ++ 13 :: 10 :: r) 0 = s.length + 2 := by unfold nxt; rw [h1, List.drop_left]; rfl
  rw [h1, h2]; unfold mid; rw [List.drop_left]; simp

/-- rows of ends and words: with one sign for an end, with two -/
def one : List Bool → List UInt8
  | [] => []
  | true :: r => 10 :: one r
  | false :: r => 120 :: one r
def two : List Bool → List UInt8
  | [] => []
  | true :: r => 13 :: 10 :: two r
  | false :: r => 120 :: two r
def ends : List Bool → Nat
  | [] => 0
  | true :: r => ends r + 1
  | false :: r => ends r

theorem one_snoc (l : List Bool) (b : Bool) : one (l ++ [b]) = one l ++ (if b then [10] else [120]) := by
  induction l with
  | nil => cases b <;> rfl
  | cons c r ih => cases c <;> simp [one, ih]
theorem two_snoc (l : List Bool) (b : Bool) : two (l ++ [b]) = two l ++ (if b then [13, 10] else [120]) := by
  induction l with
  | nil => cases b <;> rfl
  | cons c r ih => cases c <;> simp [two, ih]
theorem ends_snoc (l : List Bool) (b : Bool) : ends (l ++ [b]) = ends l + (if b then 1 else 0) := by
  induction l with
  | nil => cases b <;> rfl
  | cons c r ih => cases c <;> simp [ends, ih]; omega
theorem one_len (l : List Bool) : (one l).length = l.length := by
  induction l with
  | nil => rfl
  | cons c r ih => cases c <;> simp [one, ih]
theorem two_len (l : List Bool) : (two l).length ≤ 2 * l.length := by
  induction l with
  | nil => simp [two]
  | cons c r ih => cases c <;> simp [two] <;> omega
theorem ends_le (l : List Bool) : ends l ≤ l.length := by
  induction l with
  | nil => simp [ends]
  | cons c r ih => cases c <;> simp [ends] <;> omega

theorem clean_snoc {s : List UInt8} (h : ∀ b ∈ s, isEnd b = false) : ∀ b ∈ s ++ [120], isEnd b = false := by
  intro b hb
  rcases List.mem_append.1 hb with h1 | h1
  · exact h b h1
  · simp at h1; subst h1; rfl

theorem tx_one_two (l : List Bool) : ∀ s : List UInt8, (∀ b ∈ s, isEnd b = false) → tx (s ++ one l) = tx (s ++ two l) := by
  induction l with
  | nil => intro s _; rfl
  | cons c r ih =>
    intro s h
    cases c with
    | true =>
      rw [one, two, tx_ten h, tx_two h]
      have := ih [] (by simp)
      simp at this; rw [this]
    | false =>
      have := ih (s ++ [120]) (clean_snoc h)
      simpa [one, two] using this

/-- 1 if something stands behind the last end -/
def more (l : List UInt8) : Nat := if l.getLast? = none ∨ l.getLast? = some 10 then 0 else 1

theorem more_cons (b : UInt8) (r : List UInt8) (h : r ≠ []) : more (b :: r) = more r := by
  unfold more
  cases r with
  | nil => exact absurd rfl h
  | cons c r => simp [List.getLast?_cons_cons]

theorem more_app (s r : List UInt8) (h : r ≠ []) : more (s ++ r) = more r := by
  have : (s ++ r).getLast? = r.getLast? := by
    rw [List.getLast?_append]
    cases hr : r.getLast? with
    | none => exact absurd (List.getLast?_eq_none_iff.1 hr) h
    | some x => rfl
  unfold more; rw [this]

theorem len_one (l : List Bool) : ∀ s : List UInt8, (∀ b ∈ s, isEnd b = false) → (tx (s ++ one l)).length = ends l + more (s ++ one l) := by
  induction l with
  | nil =>
    intro s h
    simp only [one, List.append_nil, ends]
    cases hs : s with
    | nil => simp [tx_nil, more]
    | cons b r =>
      rw [← hs, tx_clean h (by simp [hs])]
      have hl : s.getLast? ≠ none := by simp [hs]
      unfold more
      rw [if_neg]
      · simp
      · rintro (h1 | h1)
        · exact hl h1
        · have := h 10 (List.mem_of_getLast? h1)
          simp [isEnd] at this
  | cons c r ih =>
    intro s h
    cases c with
    | true =>
      rw [one, tx_ten h]
      have h2 := ih [] (by simp)
      simp only [List.nil_append] at h2
      simp only [List.length_cons, h2, ends]
      have : more (s ++ 10 :: one r) = more (one r) := by
        rw [more_app _ _ (by simp)]
        cases hr : one r with
        | nil => simp [more]
        | cons b t => rw [more_cons _ _ (by simp)]
      rw [this]; omega
    | false =>
      have := ih (s ++ [120]) (clean_snoc h)
      simpa [one, ends] using this

theorem two_first (l : List Bool) (h : 0 < ends l) : ∃ s r, (∀ b ∈ s, isEnd b = false) ∧ two l = s ++ 13 :: 10 :: r := by
  induction l with
  | nil => simp [ends] at h
  | cons c r ih =>
    cases c with
    | true => exact ⟨[], two r, by simp, rfl⟩
    | false =>
      obtain ⟨s, t, h1, h2⟩ := ih (by simpa [ends] using h)
      exact ⟨120 :: s, t, by intro b hb; rcases List.mem_cons.1 hb with rfl | hb; rfl; exact h1 b hb, by simp [two, h2]⟩
end Go.Proofs.YtmbcddehacfpgaaDoor.Ln

namespace Go.Proofs.YtmbcddehacfpgaaDoor.Ln

/-- where the lines begin, and the end -/
def places (l : List UInt8) (k : Nat) : List Nat := (lines l k).map (·.1) ++ [l.length]

theorem places_eq (l : List UInt8) (k : Nat) (hk : k ≤ l.length) : k :: (lines l k).map (·.2.2) = places l k := by
  unfold places
  by_cases h : k < l.length
  · have hlt := lt_nxt h
    have ih := places_eq l (nxt l k) (nxt_le hk)
    rw [lines_step h]
    simp only [List.map_cons, List.cons_append]
    rw [ih]; rfl
  · have : k = l.length := by omega
    rw [lines_end h]; simp [this]
termination_by l.length - k
decreasing_by have := lt_nxt h; omega

theorem places_at {l : List UInt8} {i : Nat} (h : i < (lines l 0).length) : (places l 0)[i]? = some (lines l 0)[i].1 := by
  unfold places; rw [List.getElem?_append_left (by simpa using h)]; simp [List.getElem?_eq_getElem h]
theorem places_next {l : List UInt8} {i : Nat} (h : i < (lines l 0).length) : (places l 0)[i + 1]? = some (lines l 0)[i].2.2 := by
  rw [← places_eq l 0 (Nat.zero_le _)]; simp [List.getElem?_eq_getElem h]
theorem places_first (l : List UInt8) : (places l 0)[0]? = some 0 := by
  rw [← places_eq l 0 (Nat.zero_le _)]; rfl
theorem places_last (l : List UInt8) : (places l 0)[(lines l 0).length]? = some l.length := by
  unfold places; rw [List.getElem?_append_right (by simp)]; simp

theorem run_take (l : List UInt8) : ∀ b ∈ l.take (run l), isEnd b = false := by
  induction l with
  | nil => simp
  | cons c r ih =>
    intro b hb
    cases hc : isEnd c with
    | true => rw [run_end _ hc] at hb; simp at hb
    | false =>
      rw [run_step _ hc, List.take_succ_cons] at hb
      rcases List.mem_cons.1 hb with rfl | hb
      · exact hc
      · exact ih b hb

/-- each goes forward, and has no end in its text -/
theorem lines_good (l : List UInt8) (k : Nat) : ∀ x ∈ lines l k, x.1 < x.2.2 ∧ ∀ b ∈ mid l x.1 x.2.1, isEnd b = false := by
  intro x hx
  by_cases h : k < l.length
  · have hlt := lt_nxt h
    rw [lines_step h] at hx
    rcases List.mem_cons.1 hx with rfl | hx
    · refine ⟨hlt, fun b hb => ?_⟩
      have e : mid l k (eol l k) = (l.drop k).take (run (l.drop k)) := by unfold mid eol; rw [Nat.add_sub_cancel_left]
      rw [e] at hb
      exact run_take _ b hb
    · exact lines_good l (nxt l k) x hx
  · rw [lines_end h] at hx; simp at hx
termination_by l.length - k
decreasing_by have := lt_nxt h; omega

theorem join_cons (s : List UInt8) (r : List (List UInt8)) (e : List UInt8) : join (s :: r) e = s ++ (e ++ join r e) := by
  show s ++ e ++ join r e = _
  simp
theorem tx_join_ten (ls : List (List UInt8)) (h : ∀ s ∈ ls, ∀ b ∈ s, isEnd b = false) : tx (join ls [10]) = ls := by
  induction ls with
  | nil => exact tx_nil
  | cons s r ih => rw [join_cons]; simp only [List.singleton_append]; rw [tx_ten (h s (by simp)), ih fun x hx => h x (by simp [hx])]
theorem tx_join_two (ls : List (List UInt8)) (h : ∀ s ∈ ls, ∀ b ∈ s, isEnd b = false) : tx (join ls [13, 10]) = ls := by
  induction ls with
  | nil => exact tx_nil
  | cons s r ih => rw [join_cons]; simp only [List.cons_append, List.nil_append]; rw [tx_two (h s (by simp)), ih fun x hx => h x (by simp [hx])]

theorem sum_le (ls : List (List UInt8)) (m : Nat) (h : ∀ s ∈ ls, s.length ≤ m) : (ls.map List.length).sum ≤ ls.length * m := by
  induction ls with
  | nil => simp
  | cons s r ih =>
    have h1 := h s (by simp)
    have h2 := ih fun x hx => h x (by simp [hx])
    simp only [List.map_cons, List.sum_cons, List.length_cons, Nat.add_mul]; omega

theorem byte_clean {n : Nat} (h1 : n < 256) (h2 : n ≠ 10) (h3 : n ≠ 13) : isEnd (UInt8.ofNat n) = false := by
  simp only [isEnd, Bool.or_eq_false_iff, beq_eq_false_iff_ne]
  constructor
  · intro h; have := congrArg UInt8.toNat h; rw [UInt8.toNat_ofNat'] at this; simp at this; omega
  · intro h; have := congrArg UInt8.toNat h; rw [UInt8.toNat_ofNat'] at this; simp at this; omega

theorem enc_clean (r : Int) (h1 : r ≠ 10) (h2 : r ≠ 13) : ∃ l : List UInt8, Utf8.encode r = bs l ∧ (∀ b ∈ l, isEnd b = false) ∧ l.length ≤ 4 := by
  have hc : ∀ c : Nat, c = (if Utf8.valid r then r.toNat else Utf8.runeError) → c ≠ 10 ∧ c ≠ 13 ∧ c < 1114112 := by
    intro c e
    by_cases hv : Utf8.valid r = true
    · rw [if_pos hv] at e
      have h3 : 0 ≤ r ∧ r ≤ 1114111 := by
        simp only [Utf8.valid, Bool.or_eq_true, Bool.and_eq_true, decide_eq_true_eq] at hv; omega
      omega
    · rw [if_neg hv] at e; subst e; simp [Utf8.runeError]
  unfold Utf8.encode
  generalize hcc : (if Utf8.valid r then r.toNat else Utf8.runeError) = c
  obtain ⟨k1, k2, k3⟩ := hc c hcc.symm
  dsimp only
  split
  · refine ⟨[UInt8.ofNat c], rfl, ?_, by simp⟩
    intro b hb; simp only [List.mem_singleton] at hb; subst hb
    exact byte_clean (by omega) k1 k2
  · split
    · refine ⟨[UInt8.ofNat (0xC0 + c / 64), UInt8.ofNat (0x80 + c % 64)], rfl, ?_, by simp⟩
      intro b hb; simp only [List.mem_cons, List.not_mem_nil, or_false] at hb
      rcases hb with rfl | rfl <;> exact byte_clean (by omega) (by omega) (by omega)
    · split
      · refine ⟨[UInt8.ofNat (0xE0 + c / 4096), UInt8.ofNat (0x80 + c / 64 % 64), UInt8.ofNat (0x80 + c % 64)], rfl, ?_, by simp⟩
        intro b hb; simp only [List.mem_cons, List.not_mem_nil, or_false] at hb
        rcases hb with rfl | rfl | rfl <;> exact byte_clean (by omega) (by omega) (by omega)
      · refine ⟨[UInt8.ofNat (0xF0 + c / 262144), UInt8.ofNat (0x80 + c / 4096 % 64), UInt8.ofNat (0x80 + c / 64 % 64), UInt8.ofNat (0x80 + c % 64)], rfl, ?_, by simp⟩
        intro b hb; simp only [List.mem_cons, List.not_mem_nil, or_false] at hb
        rcases hb with rfl | rfl | rfl | rfl <;> exact byte_clean (by omega) (by omega) (by omega)

/-- a rune's bytes are there: at least one -/
theorem decode_step (s : ByteArray) (i : Nat) (h : i < s.size) : 1 ≤ (Utf8.decode s i).2 ∧ i + (Utf8.decode s i).2 ≤ s.size := by
  simp only [Utf8.decode]
  repeat' split
  all_goals simp_all
  all_goals omega
end Go.Proofs.YtmbcddehacfpgaaDoor.Ln
