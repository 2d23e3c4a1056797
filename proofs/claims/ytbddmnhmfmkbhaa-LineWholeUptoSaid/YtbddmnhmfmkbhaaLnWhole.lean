/- Plain mathematics of lines: they lie one behind the other, and are all; texts that are joined are the texts. And of runes: what a rune becomes has no byte of a line's end, unless it is one. -/
import Derived.Test.YtbddmnhmfmkbhaaLnText
namespace Go.Proofs.Ytbddmnhmfmkbhaa.Ln

/-- where the lines begin, and the end -/
def places (l : List UInt8) (k : Nat) : List Nat := (lines l k).map (·.1) ++ [l.length]

theorem places_eq (l : List UInt8) (k : Nat) (hk : k ≤ l.length) : k :: (lines l k).map (·.2.2) = places l k := by
  unfold places
  by_cases h : k < l.length
  · have hlt := lt_nxt h
    have ih := places_eq l (nxt l k) (nxt_le hk)
    rw [lines_step h]
    simp only [List.map_cons, List.cons_append]
    rw [ih]; rfl
  · have : k = l.length := by omega
    rw [lines_end h]; simp [this]
termination_by l.length - k
decreasing_by have := lt_nxt h; omega

theorem places_at {l : List UInt8} {i : Nat} (h : i < (lines l 0).length) : (places l 0)[i]? = some (lines l 0)[i].1 := by
  unfold places; rw [List.getElem?_append_left (by simpa using h)]; simp [List.getElem?_eq_getElem h]
theorem places_next {l : List UInt8} {i : Nat} (h : i < (lines l 0).length) : (places l 0)[i + 1]? = some (lines l 0)[i].2.2 := by
  rw [← places_eq l 0 (Nat.zero_le _)]; simp [List.getElem?_eq_getElem h]
theorem places_first (l : List UInt8) : (places l 0)[0]? = some 0 := by
  rw [← places_eq l 0 (Nat.zero_le _)]; rfl
theorem places_last (l : List UInt8) : (places l 0)[(lines l 0).length]? = some l.length := by
  unfold places; rw [List.getElem?_append_right (by simp)]; simp

theorem run_take (l : List UInt8) : ∀ b ∈ l.take (run l), isEnd b = false := by
  induction l with
  | nil => simp
  | cons c r ih =>
    intro b hb
    cases hc : isEnd c with
    | true => rw [run_end _ hc] at hb; simp at hb
    | false =>
      rw [run_step _ hc, List.take_succ_cons] at hb
      rcases List.mem_cons.1 hb with rfl | hb
      · exact hc
      · exact ih b hb

/-- each goes forward, and has no end in its text -/
theorem lines_good (l : List UInt8) (k : Nat) : ∀ x ∈ lines l k, x.1 < x.2.2 ∧ ∀ b ∈ mid l x.1 x.2.1, isEnd b = false := by
  intro x hx
  by_cases h : k < l.length
  · have hlt := lt_nxt h
    rw [lines_step h] at hx
    rcases List.mem_cons.1 hx with rfl | hx
    · refine ⟨hlt, fun b hb => ?_⟩
      have e : mid l k (eol l k) = (l.drop k).take (run (l.drop k)) := by unfold mid eol; rw [Nat.add_sub_cancel_left]
      rw [e] at hb
      exact run_take _ b hb
    · exact lines_good l (nxt l k) x hx
  · rw [lines_end h] at hx; simp at hx
termination_by l.length - k
decreasing_by have := lt_nxt h; omega

theorem join_cons (s : List UInt8) (r : List (List UInt8)) (e : List UInt8) : join (s :: r) e = s ++ (e ++ join r e) := by
  show s ++ e ++ join r e = _
  simp
theorem tx_join_ten (ls : List (List UInt8)) (h : ∀ s ∈ ls, ∀ b ∈ s, isEnd b = false) : tx (join ls [10]) = ls := by
  induction ls with
  | nil => exact tx_nil
  | cons s r ih => rw [join_cons]; simp only [List.singleton_append]; rw [tx_ten (h s (by simp)), ih fun x hx => h x (by simp [hx])]
theorem tx_join_two (ls : List (List UInt8)) (h : ∀ s ∈ ls, ∀ b ∈ s, isEnd b = false) : tx (join ls [13, 10]) = ls := by
  induction ls with
  | nil => exact tx_nil
  | cons s r ih => rw [join_cons]; simp only [List.cons_append, List.nil_append]; rw [tx_two (h s (by simp)), ih fun x hx => h x (by simp [hx])]

theorem sum_le (ls : List (List UInt8)) (m : Nat) (h : ∀ s ∈ ls, s.length ≤ m) : (ls.map List.length).sum ≤ ls.length * m := by
  induction ls with
  | nil => simp
  | cons s r ih =>
    have h1 := h s (by simp)
    have h2 := ih fun x hx => h x (by simp [hx])
    simp only [List.map_cons, List.sum_cons, List.length_cons, Nat.add_mul]; omega

theorem byte_clean {n : Nat} (h1 : n < 256) (h2 : n ≠ 10) (h3 : n ≠ 13) : isEnd (UInt8.ofNat n) = false := by
  simp only [isEnd, Bool.or_eq_false_iff, beq_eq_false_iff_ne]
  constructor
  · intro h; have := congrArg UInt8.toNat h; rw [UInt8.toNat_ofNat'] at this; simp at this; omega
  · intro h; have := congrArg UInt8.toNat h; rw [UInt8.toNat_ofNat'] at this; simp at this; omega

theorem enc_clean (r : Int) (h1 : r ≠ 10) (h2 : r ≠ 13) : ∃ l : List UInt8, Utf8.encode r = bs l ∧ (∀ b ∈ l, isEnd b = false) ∧ l.length ≤ 4 := by
  have hc : ∀ c : Nat, c = (if Utf8.valid r then r.toNat else Utf8.runeError) → c ≠ 10 ∧ c ≠ 13 ∧ c < 1114112 := by
    intro c e
    by_cases hv : Utf8.valid r = true
    · rw [if_pos hv] at e
      have h3 : 0 ≤ r ∧ r ≤ 1114111 := by
        simp only [Utf8.valid, Bool.or_eq_true, Bool.and_eq_true, decide_eq_true_eq] at hv; omega
      omega
    · rw [if_neg hv] at e; subst e; simp [Utf8.runeError]
  unfold Utf8.encode
  generalize hcc : (if Utf8.valid r then r.toNat else Utf8.runeError) = c
  obtain ⟨k1, k2, k3⟩ := hc c hcc.symm
  dsimp only
  split
  · refine ⟨[UInt8.ofNat c], rfl, ?_, by simp⟩
    intro b hb; simp only [List.mem_singleton] at hb; subst hb
    exact byte_clean (by omega) k1 k2
  · split
    · refine ⟨[UInt8.ofNat (0xC0 + c / 64), UInt8.ofNat (0x80 + c % 64)], rfl, ?_, by simp⟩
      intro b hb; simp only [List.mem_cons, List.not_mem_nil, or_false] at hb
      rcases hb with rfl | rfl <;> exact byte_clean (by omega) (by omega) (by omega)
    · split
      · refine ⟨[UInt8.ofNat (0xE0 + c / 4096), UInt8.ofNat (0x80 + c / 64 % 64), UInt8.ofNat (0x80 + c % 64)], rfl, ?_, by simp⟩
        intro b hb; simp only [List.mem_cons, List.not_mem_nil, or_false] at hb
        rcases hb with rfl | rfl | rfl <;> exact byte_clean (by omega) (by omega) (by omega)
      · refine ⟨[UInt8.ofNat (0xF0 + c / 262144), UInt8.ofNat (0x80 + c / 4096 % 64), UInt8.ofNat (0x80 + c / 64 % 64), UInt8.ofNat (0x80 + c % 64)], rfl, ?_, by simp⟩
        intro b hb; simp only [List.mem_cons, List.not_mem_nil, or_false] at hb
        rcases hb with rfl | rfl | rfl | rfl <;> exact byte_clean (by omega) (by omega) (by omega)

/-- a rune's bytes are there: at least one -/
theorem decode_step (s : ByteArray) (i : Nat) (h : i < s.size) : 1 ≤ (Utf8.decode s i).2 ∧ i + (Utf8.decode s i).2 ≤ s.size := by
  simp only [Utf8.decode]
  repeat' split
  all_goals simp_all
  all_goals omega
end Go.Proofs.Ytbddmnhmfmkbhaa.Ln
