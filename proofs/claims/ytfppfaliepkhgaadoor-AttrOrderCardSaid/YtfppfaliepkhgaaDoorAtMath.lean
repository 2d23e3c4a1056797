/- Plain mathematics of infos: words, keys, texts in quotes, pairs. No program is spoken of here. -/
import Derived.Test.YtfppfaliepkhgaaDoorClFlat
import Derived.Test.YtfppfaliepkhgaaDoorRu
namespace Go.Proofs.YtfppfaliepkhgaaDoor.At
open Go.Proofs.YtfppfaliepkhgaaDoor.Cl (isGap gaps)

/-- the first ones that are such -/
def tw (p : UInt8 → Bool) : List UInt8 → List UInt8
  | [] => []
  | b :: r => if p b then b :: tw p r else []
theorem tw_yes {p : UInt8 → Bool} {b : UInt8} (r : List UInt8) (h : p b = true) : tw p (b :: r) = b :: tw p r := by simp [tw, h]
theorem tw_no {p : UInt8 → Bool} {b : UInt8} (r : List UInt8) (h : p b = false) : tw p (b :: r) = [] := by simp [tw, h]
theorem tw_len (p : UInt8 → Bool) (l : List UInt8) : (tw p l).length ≤ l.length := by
  induction l with
  | nil => simp [tw]
  | cons b r ih => simp only [tw]; split <;> simp only [List.length_cons, List.length_nil] <;> omega
theorem tw_take (p : UInt8 → Bool) (l : List UInt8) : l.take (tw p l).length = tw p l := by
  induction l with
  | nil => simp [tw]
  | cons b r ih =>
    cases h : p b with
    | true => rw [tw_yes _ h, List.length_cons, List.take_succ_cons, ih]
    | false => rw [tw_no _ h]; rfl
theorem tw_all (p : UInt8 → Bool) (l : List UInt8) : ∀ b ∈ tw p l, p b = true := by
  induction l with
  | nil => intro b hb; cases hb
  | cons c r ih =>
    intro b hb
    cases h : p c with
    | true =>
      rw [tw_yes _ h] at hb
      rcases List.mem_cons.1 hb with rfl | hb
      · exact h
      · exact ih b hb
    | false => rw [tw_no _ h] at hb; cases hb
/-- what is left behind them begins with none such -/
theorem tw_rest (p : UInt8 → Bool) (l : List UInt8) : l.drop (tw p l).length = [] ∨ ∃ b r, l.drop (tw p l).length = b :: r ∧ p b = false := by
  induction l with
  | nil => exact .inl rfl
  | cons b r ih =>
    cases h : p b with
    | true => rw [tw_yes _ h, List.length_cons, List.drop_succ_cons]; exact ih
    | false => rw [tw_no _ h]; exact .inr ⟨b, r, rfl, h⟩
/-- from a place on -/
theorem tw_at {p : UInt8 → Bool} {l : List UInt8} {k : Nat} (hk : k < l.length) (h : p l[k] = true) : (tw p (l.drop k)).length = (tw p (l.drop (k + 1))).length + 1 := by
  rw [List.drop_eq_getElem_cons hk, tw_yes _ h]; rfl
theorem tw_not {p : UInt8 → Bool} {l : List UInt8} {k : Nat} (hk : k < l.length) (h : p l[k] = false) : (tw p (l.drop k)).length = 0 := by
  rw [List.drop_eq_getElem_cons hk, tw_no _ h]; rfl
theorem tw_end {p : UInt8 → Bool} {l : List UInt8} {k : Nat} (hk : ¬ k < l.length) : (tw p (l.drop k)).length = 0 := by
  rw [List.drop_eq_nil_of_le (by omega)]; rfl

def word (b : UInt8) : Bool := !isGap b
def letter (b : UInt8) : Bool := decide (97 ≤ b.toNat ∧ b.toNat ≤ 122)

/-- the text in quotes that begins here, behind the first quote: the text, the bytes -/
def qd : List UInt8 → Option (List UInt8 × Nat)
  | [] => none
  | b :: r =>
    if b = 34 then some ([], 1)
    else if b = 92 then
      match r with
      | [] => none
      | c :: r' => if c = 34 ∨ c = 92 then (qd r').map fun x => (c :: x.1, x.2 + 2) else none
    else (qd r).map fun x => (b :: x.1, x.2 + 1)
theorem qd_end (r : List UInt8) : qd (34 :: r) = some ([], 1) := by rw [qd.eq_def]; simp
theorem qd_one {b : UInt8} (r : List UInt8) (h : b ≠ 34) (h' : b ≠ 92) : qd (b :: r) = (qd r).map fun x => (b :: x.1, x.2 + 1) := by rw [qd.eq_def]; simp [h, h']
theorem qd_esc {c : UInt8} (r : List UInt8) (h : c = 34 ∨ c = 92) : qd (92 :: c :: r) = (qd r).map fun x => (c :: x.1, x.2 + 2) := by rw [qd.eq_def]; simp [h]
theorem qd_bad {c : UInt8} (r : List UInt8) (h : ¬ (c = 34 ∨ c = 92)) : qd (92 :: c :: r) = none := by rw [qd.eq_def]; simp [h]
theorem qd_last : qd [92] = none := by rw [qd.eq_def]; simp
theorem qd_nil : qd [] = none := by rw [qd.eq_def]

/-- a blank rune -/
def blank (x : Nat) : Bool := decide ((9 ≤ x ∧ x ≤ 13) ∨ x = 32 ∨ x = 160 ∨ x = 8195 ∨ x = 12288)
/-- a text that needs no quotes -/
def okRune (x : Nat) : Bool := !(blank x || decide (x = 34) || decide (x = 61) || decide (x = 92))
def bare (l : List UInt8) : Bool := (Ru.runes l).all okRune && decide (l ≠ [])

/-- a key; its text, or that it is alone -/
structure Pr where
  key : List UInt8
  text : List UInt8
  alone : Bool

/-- the end, or a blank or tab -/
def stop (l : List UInt8) : Bool := match l with
  | [] => true
  | b :: _ => isGap b

/-- a pair that begins here: where it ends (counted from a place), and whether it is one -/
def pair (r : List UInt8) (a : Nat) : Pr × Nat × Bool :=
  if tw letter r = [] then (⟨[], [], false⟩, 0, false)
  else match r.drop (tw letter r).length with
  | [] => (⟨tw letter r, [], true⟩, a + (tw letter r).length, true)
  | b :: q =>
    if isGap b = true then (⟨tw letter r, [], true⟩, a + (tw letter r).length, true)
    else if b ≠ 61 then (⟨[], [], false⟩, 0, false)
    else match q with
    | 34 :: q' => match qd q' with
      | none => (⟨tw letter r, [], false⟩, 0, false)
      | some (t, n) => (⟨tw letter r, t, false⟩, a + (tw letter r).length + 2 + n, stop (q'.drop n))
    | q => (⟨tw letter r, tw word q, false⟩, a + (tw letter r).length + 1 + (tw word q).length, bare (tw word q))
section
variable {r : List UInt8} {a : Nat}
theorem pair_empty (h : tw letter r = []) : pair r a = (⟨[], [], false⟩, 0, false) := by unfold pair; rw [if_pos h]
theorem pair_end (h : tw letter r ≠ []) (h1 : r.drop (tw letter r).length = []) : pair r a = (⟨tw letter r, [], true⟩, a + (tw letter r).length, true) := by unfold pair; rw [if_neg h, h1]
theorem pair_gap {b : UInt8} {q : List UInt8} (h : tw letter r ≠ []) (h1 : r.drop (tw letter r).length = b :: q) (hb : isGap b = true) : pair r a = (⟨tw letter r, [], true⟩, a + (tw letter r).length, true) := by
  unfold pair; rw [if_neg h, h1]; simp only; rw [if_pos hb]
theorem pair_bad {b : UInt8} {q : List UInt8} (h : tw letter r ≠ []) (h1 : r.drop (tw letter r).length = b :: q) (hb : isGap b = false) (h6 : b ≠ 61) : pair r a = (⟨[], [], false⟩, 0, false) := by
  unfold pair; rw [if_neg h, h1]; simp only; rw [if_neg (by rw [hb]; simp), if_pos h6]
theorem pair_open {q : List UInt8} (h : tw letter r ≠ []) (h1 : r.drop (tw letter r).length = 61 :: 34 :: q) (h2 : qd q = none) : pair r a = (⟨tw letter r, [], false⟩, 0, false) := by
  unfold pair; rw [if_neg h, h1]; simp only; rw [if_neg (by decide), if_neg (by simp), h2]
theorem pair_quote {q t : List UInt8} {n : Nat} (h : tw letter r ≠ []) (h1 : r.drop (tw letter r).length = 61 :: 34 :: q) (h2 : qd q = some (t, n)) : pair r a = (⟨tw letter r, t, false⟩, a + (tw letter r).length + 2 + n, stop (q.drop n)) := by
  unfold pair; rw [if_neg h, h1]; simp only; rw [if_neg (by decide), if_neg (by simp), h2]
theorem pair_word {q : List UInt8} (h : tw letter r ≠ []) (h1 : r.drop (tw letter r).length = 61 :: q) (h2 : ∀ x, q ≠ 34 :: x) : pair r a = (⟨tw letter r, tw word q, false⟩, a + (tw letter r).length + 1 + (tw word q).length, bare (tw word q)) := by
  unfold pair; rw [if_neg h, h1]; simp only; rw [if_neg (by decide), if_neg (by simp)]
end
theorem qd_le : ∀ (n : Nat) (r : List UInt8), r.length ≤ n → ∀ x, qd r = some x → x.2 ≤ r.length ∧ x.1.length ≤ r.length := by
  intro n
  induction n with
  | zero => intro r hr x hx; have : r = [] := List.eq_nil_of_length_eq_zero (by omega); subst this; rw [qd_nil] at hx; cases hx
  | succ n ih =>
    intro r hr x hx
    rcases r with _ | ⟨b, r⟩
    · rw [qd_nil] at hx; cases hx
    · simp only [List.length_cons] at hr ⊢
      by_cases h : b = 34
      · subst h; rw [qd_end] at hx; cases hx; simp
      · by_cases h' : b = 92
        · subst h'
          rcases r with _ | ⟨c, r⟩
          · rw [qd_last] at hx; cases hx
          · simp only [List.length_cons] at hr ⊢
            by_cases hc : c = 34 ∨ c = 92
            · rw [qd_esc _ hc] at hx
              obtain ⟨y, hy, rfl⟩ := Option.map_eq_some_iff.1 hx
              have := ih r (by omega) y hy
              simp only [List.length_cons]; omega
            · rw [qd_bad _ hc] at hx; cases hx
        · rw [qd_one _ h h'] at hx
          obtain ⟨y, hy, rfl⟩ := Option.map_eq_some_iff.1 hx
          have := ih r (by omega) y hy
          simp only [List.length_cons]; omega
end Go.Proofs.YtfppfaliepkhgaaDoor.At
