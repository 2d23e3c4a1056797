/- Signs that mean themselves, as lists, by no program: the rune at a place, what is plain, what is quoted, what is fit for a page; what is quoted is plain as it was. -/
import Derived.Test.YtjkmhcolnidflaaRu
import Derived.Test.YtjkmhcolnidflaaRnKinds
namespace Go.Proofs.Ytjkmhcolnidflaa.Es
open Go.Lib Ru

/-- a sign of ASCII -/
def asc (b : UInt8) : Bool := asciiB (b.toNat : Int)
theorem asc_iff (b : UInt8) : asc b = true ↔ (33 ≤ b.toNat ∧ b.toNat ≤ 47) ∨ (58 ≤ b.toNat ∧ b.toNat ≤ 64) ∨ (91 ≤ b.toNat ∧ b.toNat ≤ 96) ∨ (123 ≤ b.toNat ∧ b.toNat ≤ 126) := by
  unfold asc asciiB; rw [decide_eq_true_iff]; omega
theorem asc_lt {b : UInt8} (h : asc b = true) : b.toNat < 128 := by rw [asc_iff] at h; omega
theorem asc_high {b : UInt8} (h : 128 ≤ b.toNat) : asc b = false := by
  cases he : asc b with
  | false => rfl
  | true => have := asc_lt he; omega

/-- whether a sign behind a backslash stands ahead -/
def isEsc : List UInt8 → Bool
  | a :: b :: _ => a == 92 && asc b
  | _ => false
/-- what stands ahead: its rune, how long it is, whether it means itself -/
def step (l : List UInt8) : Nat × Nat × Bool :=
  if isEsc l = true then ((l.getD 1 0).toNat, 2, true) else ((decodeL l).1, (decodeL l).2, false)
theorem step_yes {l : List UInt8} (h : isEsc l = true) : step l = ((l.getD 1 0).toNat, 2, true) := by unfold step; rw [if_pos h]
theorem step_no {l : List UInt8} (h : isEsc l = false) : step l = ((decodeL l).1, (decodeL l).2, false) := by unfold step; rw [if_neg (by rw [h]; decide)]
theorem isEsc_len {l : List UInt8} (h : isEsc l = true) : 2 ≤ l.length := by
  match l, h with
  | [], h => simp [isEsc] at h
  | [_], h => simp [isEsc] at h
  | _ :: _ :: _, _ => simp
theorem isEsc_asc {l : List UInt8} (h : isEsc l = true) : asc (l.getD 1 0) = true := by
  match l, h with
  | [], h => simp [isEsc] at h
  | [_], h => simp [isEsc] at h
  | a :: b :: r, h => simp only [isEsc, Bool.and_eq_true] at h; exact h.2
theorem step_pos (l : List UInt8) : 1 ≤ (step l).2.1 := by
  cases h : isEsc l with
  | true => rw [step_yes h]; simp
  | false => rw [step_no h]; exact decodeL_width l
theorem step_le {l : List UInt8} (hl : l ≠ []) : (step l).2.1 ≤ l.length := by
  cases h : isEsc l with
  | true => rw [step_yes h]; exact isEsc_len h
  | false => rw [step_no h]; exact decodeL_le l hl
theorem step_vr (l : List UInt8) : vr (step l).1 := by
  cases h : isEsc l with
  | true => rw [step_yes h]; have := asc_lt (isEsc_asc h); unfold vr; simp only; omega
  | false => rw [step_no h]; exact decodeL_vr l
theorem step_two (l : List UInt8) (h : (step l).2.2 = true) : (step l).2.1 = 2 := by
  cases he : isEsc l with
  | true => rw [step_yes he]
  | false => rw [step_no he] at h; simp at h

/-- the runes, signs that mean themselves among them, by at most so many steps -/
def plainF : Nat → List UInt8 → List Nat
  | 0, _ => []
  | f + 1, l => if l = [] then [] else (step l).1 :: plainF f (l.drop (step l).2.1)
def plain (l : List UInt8) : List Nat := plainF l.length l
theorem plainF_fuel : ∀ (f g : Nat) (l : List UInt8), l.length ≤ f → l.length ≤ g → plainF f l = plainF g l
  | 0, 0, _, _, _ => rfl
  | 0, g + 1, l, h, _ => by
    have : l = [] := List.eq_nil_of_length_eq_zero (by omega)
    simp [plainF, this]
  | f + 1, 0, l, _, h => by
    have : l = [] := List.eq_nil_of_length_eq_zero (by omega)
    simp [plainF, this]
  | f + 1, g + 1, l, hf, hg => by
    unfold plainF
    by_cases h : l = []
    · simp [h]
    · have hl : 0 < l.length := List.length_pos_iff.2 h
      have hw := step_pos l
      simp only [h, if_false]
      rw [plainF_fuel f g _ (by rw [List.length_drop]; omega) (by rw [List.length_drop]; omega)]
theorem plain_nil : plain [] = [] := rfl
theorem plain_step {l : List UInt8} (h : l ≠ []) : plain l = (step l).1 :: plain (l.drop (step l).2.1) := by
  have hl : 0 < l.length := List.length_pos_iff.2 h
  have hw := step_pos l
  obtain ⟨n, hn⟩ : ∃ n, l.length = n + 1 := ⟨l.length - 1, by omega⟩
  unfold plain
  rw [hn]
  conv => lhs; unfold plainF
  simp only [h, if_false]
  rw [plainF_fuel n _ _ (by rw [List.length_drop]; omega) (Nat.le_refl _)]
theorem step_ind {P : List UInt8 → Prop} (h0 : P []) (h1 : ∀ l, l ≠ [] → P (l.drop (step l).2.1) → P l) : ∀ l, P l := by
  have : ∀ (n : Nat) (l : List UInt8), l.length ≤ n → P l := by
    intro n
    induction n with
    | zero => intro l hl; have : l = [] := List.eq_nil_of_length_eq_zero (by omega); rw [this]; exact h0
    | succ n ih =>
      intro l hl
      by_cases h : l = []
      · rw [h]; exact h0
      · have hp : 0 < l.length := List.length_pos_iff.2 h
        have hw := step_pos l
        exact h1 l h (ih _ (by rw [List.length_drop]; omega))
  exact fun l => this _ l (Nat.le_refl _)
theorem plain_vr : ∀ l, ∀ x ∈ plain l, vr x := by
  refine step_ind (by simp [plain_nil]) ?_
  intro l h ih x hx
  rw [plain_step h, List.mem_cons] at hx
  rcases hx with rfl | hx
  · exact step_vr l
  · exact ih x hx
theorem plain_len : ∀ l, (plain l).length ≤ l.length := by
  refine step_ind (by simp [plain_nil]) ?_
  intro l h ih
  have hp : 0 < l.length := List.length_pos_iff.2 h
  have hw := step_pos l
  rw [plain_step h, List.length_cons]
  rw [List.length_drop] at ih
  omega

/-- the rune at a place of a text, where the next one is, whether it means itself -/
def next (l : List UInt8) (at_ : Nat) : Nat × Nat × Bool :=
  if at_ < l.length then ((step (l.drop at_)).1, at_ + (step (l.drop at_)).2.1, (step (l.drop at_)).2.2) else (0, l.length, false)
theorem next_in {l : List UInt8} {k : Nat} (h : k < l.length) : next l k = ((step (l.drop k)).1, k + (step (l.drop k)).2.1, (step (l.drop k)).2.2) := by unfold next; rw [if_pos h]
theorem next_out {l : List UInt8} {k : Nat} (h : l.length ≤ k) : next l k = (0, l.length, false) := by unfold next; rw [if_neg (by omega)]
theorem drop_ne {l : List UInt8} {k : Nat} (h : k < l.length) : l.drop k ≠ [] := by
  intro h0; have := congrArg List.length h0; rw [List.length_drop] at this; simp at this; omega
theorem next_more {l : List UInt8} {k : Nat} (h : k < l.length) : k < (next l k).2.1 ∧ (next l k).2.1 ≤ l.length := by
  rw [next_in h]
  have h1 := step_pos (l.drop k)
  have h2 := step_le (drop_ne h)
  rw [List.length_drop] at h2
  simp only
  omega
theorem next_two {l : List UInt8} {k : Nat} (h : (next l k).2.2 = true) : (next l k).2.1 = k + 2 := by
  by_cases hk : k < l.length
  · rw [next_in hk] at h ⊢
    have := step_two _ h
    simp only
    omega
  · rw [next_out (by omega)] at h; simp at h
theorem next_vr (l : List UInt8) (k : Nat) : vr (next l k).1 := by
  by_cases hk : k < l.length
  · rw [next_in hk]; exact step_vr _
  · rw [next_out (by omega)]; unfold vr; simp
/-- from a place on -/
theorem plain_at {l : List UInt8} {k : Nat} (h : k < l.length) : plain (l.drop k) = (next l k).1 :: plain (l.drop (next l k).2.1) := by
  rw [plain_step (drop_ne h), next_in h, List.drop_drop]

/-- with a backslash ahead of each sign -/
def quote1 (b : UInt8) : List UInt8 := if asc b = true then [92, b] else [b]
def quote (l : List UInt8) : List UInt8 := l.flatMap quote1
theorem quote_nil : quote [] = [] := rfl
theorem quote_cons (b : UInt8) (l : List UInt8) : quote (b :: l) = quote1 b ++ quote l := rfl
theorem quote_append (a b : List UInt8) : quote (a ++ b) = quote a ++ quote b := by simp [quote]
theorem quote_len (l : List UInt8) : l.length ≤ (quote l).length ∧ (quote l).length ≤ 2 * l.length := by
  induction l with
  | nil => simp [quote_nil]
  | cons b l ih =>
    rw [quote_cons, List.length_append, List.length_cons]
    unfold quote1
    split
    · simp; omega
    · simp; omega
theorem quote_take {l : List UInt8} {k : Nat} (h : k < l.length) : quote (l.take (k + 1)) = quote (l.take k) ++ quote1 l[k] := by
  rw [List.take_succ_eq_append_getElem h, quote_append, quote_cons, quote_nil, List.append_nil]

/-- fit for a page -/
def page1 (b : UInt8) : List UInt8 :=
  if b = 38 then [38, 97, 109, 112, 59] else if b = 60 then [38, 108, 116, 59] else if b = 62 then [38, 103, 116, 59] else if b = 34 then [38, 113, 117, 111, 116, 59] else [b]
def page (l : List UInt8) : List UInt8 := l.flatMap page1
theorem page_nil : page [] = [] := rfl
theorem page_cons (b : UInt8) (l : List UInt8) : page (b :: l) = page1 b ++ page l := rfl
theorem page_append (a b : List UInt8) : page (a ++ b) = page a ++ page b := by simp [page]
theorem page1_len (b : UInt8) : 1 ≤ (page1 b).length ∧ (page1 b).length ≤ 6 := by
  unfold page1
  repeat' split
  all_goals simp
theorem page_len (l : List UInt8) : l.length ≤ (page l).length ∧ (page l).length ≤ 6 * l.length := by
  induction l with
  | nil => simp [page_nil]
  | cons b l ih =>
    have := page1_len b
    rw [page_cons, List.length_append, List.length_cons]; omega
theorem page_take {l : List UInt8} {k : Nat} (h : k < l.length) : page (l.take (k + 1)) = page (l.take k) ++ page1 l[k] := by
  rw [List.take_succ_eq_append_getElem h, page_append, page_cons, page_nil, List.append_nil]
theorem page1_not (c : UInt8) : ∀ b ∈ page1 c, b ≠ 60 ∧ b ≠ 62 ∧ b ≠ 34 := by
  unfold page1
  intro b hb
  repeat' split at hb
  all_goals (simp only [List.mem_cons, List.not_mem_nil, or_false] at hb)
  · rcases hb with rfl | rfl | rfl | rfl | rfl <;> decide
  · rcases hb with rfl | rfl | rfl | rfl <;> decide
  · rcases hb with rfl | rfl | rfl | rfl <;> decide
  · rcases hb with rfl | rfl | rfl | rfl | rfl | rfl <;> decide
  · subst hb; exact ⟨by assumption, by assumption, by assumption⟩
theorem page_not (l : List UInt8) : ∀ b ∈ page l, b ≠ 60 ∧ b ≠ 62 ∧ b ≠ 34 := by
  intro b hb
  obtain ⟨c, _, hc⟩ := List.mem_flatMap.1 hb
  exact page1_not c b hc

/-! ### what is quoted is plain as it was -/
/-- a rune's bytes judge alike, where what is behind them is none of its own in either -/
theorem decodeN_like (n m b0 b1 b2 b3 c1 c2 c3 : Nat) (e1 : (1 < n ∧ b1 / 64 = 2) ↔ (1 < m ∧ c1 / 64 = 2)) (f1 : (1 < n ∧ b1 / 64 = 2) → b1 = c1)
    (e2 : (1 < n ∧ b1 / 64 = 2) → ((2 < n ∧ b2 / 64 = 2) ↔ (2 < m ∧ c2 / 64 = 2))) (f2 : (1 < n ∧ b1 / 64 = 2) → (2 < n ∧ b2 / 64 = 2) → b2 = c2)
    (e3 : (1 < n ∧ b1 / 64 = 2) → (2 < n ∧ b2 / 64 = 2) → ((3 < n ∧ b3 / 64 = 2) ↔ (3 < m ∧ c3 / 64 = 2))) (f3 : (1 < n ∧ b1 / 64 = 2) → (2 < n ∧ b2 / 64 = 2) → (3 < n ∧ b3 / 64 = 2) → b3 = c3) :
    decodeN n b0 b1 b2 b3 = decodeN m b0 c1 c2 c3 := by
  unfold decodeN
  by_cases p1 : 1 < n ∧ b1 / 64 = 2
  · have q1 := e1.1 p1
    have := f1 p1; subst this
    by_cases p2 : 2 < n ∧ b2 / 64 = 2
    · have q2 := (e2 p1).1 p2
      have := f2 p1 p2; subst this
      by_cases p3 : 3 < n ∧ b3 / 64 = 2
      · have q3 := (e3 p1 p2).1 p3
        have := f3 p1 p2 p3; subst this
        simp only [p1, p2, p3, q1, q2, q3]
      · have q3 : ¬ (3 < m ∧ c3 / 64 = 2) := fun h => p3 ((e3 p1 p2).2 h)
        simp only [p1, p2, p3, q1, q2, q3, and_false, if_false]
    · have q2 : ¬ (2 < m ∧ c2 / 64 = 2) := fun h => p2 ((e2 p1).2 h)
      simp only [p1, p2, q1, q2, and_false, false_and, if_false]
  · have q1 : ¬ (1 < m ∧ c1 / 64 = 2) := fun h => p1 (e1.2 h)
    simp only [p1, q1, and_false, false_and, if_false]

/-- what no rune goes on with: nothing, or a byte below 128 -/
def Stop (t : List UInt8) : Prop := ∀ b r, t = b :: r → b.toNat < 128
theorem stop_nil : Stop [] := fun _ _ h => by cases h
theorem stop_cons {b : UInt8} {r : List UInt8} (h : b.toNat < 128) : Stop (b :: r) := fun c s e => by injection e with e1 _; subst e1; exact h

theorem cont_iff (a t : List UInt8) (j : Nat) (hs : Stop t) (hj : j ≤ a.length) : (j < (a ++ t).length ∧ ((a ++ t).getD j 0).toNat / 64 = 2) ↔ (j < a.length ∧ (a.getD j 0).toNat / 64 = 2) := by
  rcases Nat.lt_or_eq_of_le hj with h | h
  · have e : (a ++ t).getD j 0 = a.getD j 0 := by simp [List.getD, List.getElem?_append_left h]
    rw [e, List.length_append]
    constructor
    · rintro ⟨_, h2⟩; exact ⟨h, h2⟩
    · rintro ⟨_, h2⟩; exact ⟨by omega, h2⟩
  · subst h
    constructor
    · rintro ⟨h1, h2⟩
      match t, hs, h1, h2 with
      | [], _, h1, _ => simp at h1
      | b :: r, hs, _, h2 =>
        have := hs b r rfl
        simp [List.getD] at h2
        omega
    · rintro ⟨h1, _⟩; omega
theorem decodeL_stop (a t : List UInt8) (ha : a ≠ []) (hs : Stop t) : decodeL (a ++ t) = decodeL a := by
  have hp : 0 < a.length := List.length_pos_iff.2 ha
  rw [decodeL_N, decodeL_N]
  have e0 : (a ++ t).getD 0 0 = a.getD 0 0 := by simp [List.getD, List.getElem?_append_left hp]
  have ej : ∀ j, j < a.length → (a ++ t).getD j 0 = a.getD j 0 := fun j h => by simp [List.getD, List.getElem?_append_left h]
  rw [e0]
  have k1 := cont_iff a t 1 hs (by omega)
  refine decodeN_like _ _ _ _ _ _ _ _ _ k1 (fun h => by rw [ej 1 (k1.1 h).1]) (fun h => cont_iff a t 2 hs (by have := (k1.1 h).1; omega)) (fun h h2 => ?_) (fun h h2 => ?_) (fun h h2 h3 => ?_)
  · rw [ej 2 ((cont_iff a t 2 hs (by have := (k1.1 h).1; omega)).1 h2).1]
  · exact cont_iff a t 3 hs (by have := ((cont_iff a t 2 hs (by have := (k1.1 h).1; omega)).1 h2).1; omega)
  · rw [ej 3 ((cont_iff a t 3 hs (by have := ((cont_iff a t 2 hs (by have := (k1.1 h).1; omega)).1 h2).1; omega)).1 h3).1]

theorem isEsc_high {b : UInt8} {r : List UInt8} (h : b ≠ 92) : isEsc (b :: r) = false := by
  match r with
  | [] => rfl
  | c :: r => simp [isEsc, h]
theorem plain_app_high : ∀ a : List UInt8, (∀ b ∈ a, 128 ≤ b.toNat) → ∀ t, Stop t → plain (a ++ t) = runes a ++ plain t := by
  refine bytes_ind (P := fun a => (∀ b ∈ a, 128 ≤ b.toNat) → ∀ t, Stop t → plain (a ++ t) = runes a ++ plain t) (fun _ t _ => by simp [runes_nil]) ?_
  intro a ha ih hh t hs
  have hp : 0 < a.length := List.length_pos_iff.2 ha
  have hne : a ++ t ≠ [] := by simp [ha]
  have he : isEsc (a ++ t) = false := by
    match a, ha, hh with
    | b :: r, _, hh =>
      refine isEsc_high ?_
      have := hh b (by simp)
      intro e; subst e; revert this; decide
  rw [plain_step hne, step_no he, decodeL_stop a t ha hs, runes_step ha]
  have hle := decodeL_le a ha
  simp only [List.cons_append]
  rw [List.drop_append_of_le_length hle, ih (fun b hb => hh b (List.mem_of_mem_drop hb)) t hs]
theorem runes_app_high : ∀ a : List UInt8, ∀ t, Stop t → runes (a ++ t) = runes a ++ runes t := by
  refine bytes_ind (P := fun a => ∀ t, Stop t → runes (a ++ t) = runes a ++ runes t) (fun t _ => by simp [runes_nil]) ?_
  intro a ha ih t hs
  have hne : a ++ t ≠ [] := by simp [ha]
  rw [runes_step hne, decodeL_stop a t ha hs, runes_step ha]
  have hle := decodeL_le a ha
  simp only [List.cons_append]
  rw [List.drop_append_of_le_length hle, ih t hs]

/-- bytes from 128 on ahead, and what no rune goes on with behind -/
theorem parts : ∀ l : List UInt8, ∃ a t, l = a ++ t ∧ (∀ b ∈ a, 128 ≤ b.toNat) ∧ Stop t
  | [] => ⟨[], [], rfl, by simp, stop_nil⟩
  | b :: l => by
    by_cases h : b.toNat < 128
    · exact ⟨[], b :: l, rfl, by simp, stop_cons h⟩
    · obtain ⟨a, t, e, ha, ht⟩ := parts l
      exact ⟨b :: a, t, by rw [e]; rfl, fun c hc => by
        rcases List.mem_cons.1 hc with rfl | hc
        · omega
        · exact ha c hc, ht⟩
theorem quote_high {a : List UInt8} (h : ∀ b ∈ a, 128 ≤ b.toNat) : quote a = a := by
  induction a with
  | nil => rfl
  | cons b a ih =>
    rw [quote_cons, ih fun c hc => h c (by simp [hc])]
    unfold quote1
    rw [asc_high (h b (by simp))]
    rfl
theorem stop_quote {t : List UInt8} (h : Stop t) : Stop (quote t) := by
  match t, h with
  | [], _ => exact stop_nil
  | b :: r, h =>
    rw [quote_cons]
    unfold quote1
    split
    · exact stop_cons (by decide)
    · exact stop_cons (h b r rfl)
theorem decodeL_low {b : UInt8} {r : List UInt8} (h : b.toNat < 128) : decodeL (b :: r) = (b.toNat, 1) := by
  rw [decodeL_N]; simp only [List.getD_cons_zero]; exact decodeN_ascii _ _ _ _ _ h

theorem plain_quote : ∀ l : List UInt8, plain (quote l) = runes l := by
  have : ∀ (n : Nat) (l : List UInt8), l.length ≤ n → plain (quote l) = runes l := by
    intro n
    induction n with
    | zero => intro l hl; have : l = [] := List.eq_nil_of_length_eq_zero (by omega); subst this; rfl
    | succ n ih =>
      intro l hl
      obtain ⟨a, t, rfl, ha, ht⟩ := parts l
      rw [quote_append, quote_high ha, plain_app_high a ha _ (stop_quote ht), runes_app_high a t ht]
      congr 1
      match t, ht with
      | [], _ => rfl
      | b :: r, ht =>
        have hb := ht b r rfl
        have hr : r.length ≤ n := by simp at hl; omega
        rw [runes_step (by simp), decodeL_low hb, quote_cons]
        unfold quote1
        cases hc : asc b with
        | true =>
          have he : isEsc ([92, b] ++ quote r) = true := by simp [isEsc, hc]
          simp only [if_true]
          rw [plain_step (by simp), step_yes he]
          simp [ih r hr]
        | false =>
          have h92 : b ≠ 92 := by intro e; subst e; revert hc; decide
          have he : isEsc ([b] ++ quote r) = false := isEsc_high h92
          simp only [Bool.false_eq_true, if_false]
          rw [plain_step (by simp), step_no he]
          simp only [List.cons_append, List.nil_append, decodeL_low hb, List.drop_succ_cons, List.drop_zero]
          rw [ih r hr]
  exact fun l => this _ l (Nat.le_refl _)
end Go.Proofs.Ytjkmhcolnidflaa.Es
