/- Plain mathematics of fences: runs of a sign, the longest one, a text without the blanks and tabs around it, the line that begins a fence, the line that ends one. No program is spoken of here. -/
import Derived.Test.YtjkmhcolnidflaaClFlat
namespace Go.Proofs.Ytjkmhcolnidflaa.Fn
open Go.Proofs.Ytjkmhcolnidflaa.Cl

/-- how many of c are at the beginning -/
def run (c : UInt8) : List UInt8 → Nat
  | [] => 0
  | b :: r => if b = c then run c r + 1 else 0
theorem run_go {c b : UInt8} (r : List UInt8) (h : b = c) : run c (b :: r) = run c r + 1 := by simp [run, h]
theorem run_stop {c b : UInt8} (r : List UInt8) (h : b ≠ c) : run c (b :: r) = 0 := by simp [run, h]
theorem run_le (c : UInt8) (l : List UInt8) : run c l ≤ l.length := by
  induction l with
  | nil => simp [run]
  | cons b r ih => simp only [run, List.length_cons]; split <;> omega
theorem run_at {c : UInt8} {l : List UInt8} {k : Nat} (hk : k < l.length) (h : l[k] = c) : run c (l.drop k) = run c (l.drop (k + 1)) + 1 := by
  rw [List.drop_eq_getElem_cons hk, run_go _ h]
theorem run_no {c : UInt8} {l : List UInt8} {k : Nat} (hk : k < l.length) (h : l[k] ≠ c) : run c (l.drop k) = 0 := by
  rw [List.drop_eq_getElem_cons hk, run_stop _ h]
theorem run_end {c : UInt8} {l : List UInt8} {k : Nat} (hk : ¬ k < l.length) : run c (l.drop k) = 0 := by
  rw [List.drop_eq_nil_of_le (by omega)]; rfl
theorem run_rep (c : UInt8) (n : Nat) (r : List UInt8) : run c (List.replicate n c ++ r) = n + run c r := by
  induction n with
  | zero => simp
  | succ n ih => rw [List.replicate_succ, List.cons_append, run_go _ rfl, ih]; omega
/-- how many stand from a place on -/
def runAt (c : UInt8) (l : List UInt8) (k : Nat) : Nat := run c (l.drop k)

/-- the longest run of the sign 96 -/
def lg : List UInt8 → Nat
  | [] => 0
  | b :: r => max (run 96 (b :: r)) (lg r)
theorem lg_cons (b : UInt8) (r : List UInt8) : lg (b :: r) = max (run 96 (b :: r)) (lg r) := rfl
theorem lg_le (l : List UInt8) : lg l ≤ l.length := by
  induction l with
  | nil => simp [lg]
  | cons b r ih => have := run_le 96 (b :: r); rw [lg_cons, List.length_cons] at *; omega
theorem run_lg (l : List UInt8) : run 96 l ≤ lg l := by
  cases l with
  | nil => simp [run]
  | cons b r => rw [lg_cons]; omega
theorem lg_drop (l : List UInt8) (k : Nat) : lg (l.drop k) ≤ lg l := by
  induction l generalizing k with
  | nil => simp
  | cons b r ih =>
    cases k with
    | zero => simp
    | succ k => have := ih k; rw [List.drop_succ_cons, lg_cons]; omega
theorem lg_skip (l : List UInt8) : lg l = max (run 96 l) (lg (l.drop (run 96 l + 1))) := by
  induction l with
  | nil => simp [lg, run]
  | cons b r ih =>
    rw [lg_cons]
    by_cases h : b = 96
    · rw [run_go _ h, List.drop_succ_cons, ih]; omega
    · rw [run_stop _ h]; simp
theorem lg_free (l : List UInt8) (k : Nat) (h : ∀ j, (hj : j < l.length) → j < k → l[j] ≠ 96) : lg l = lg (l.drop k) := by
  induction k generalizing l with
  | zero => simp
  | succ k ih =>
    cases l with
    | nil => simp
    | cons b r =>
      have h0 : b ≠ 96 := h 0 (by simp) (by omega)
      rw [lg_cons, run_stop _ h0, List.drop_succ_cons, ← ih r (fun j hj hk => by
        have := h (j + 1) (by simp; omega) (by omega)
        simpa using this)]
      omega

/-- the longest of some texts -/
def lgs : List (List UInt8) → Nat
  | [] => 0
  | s :: r => max (lg s) (lgs r)
theorem lgs_at {ls : List (List UInt8)} {k : Nat} (hk : k < ls.length) : lgs (ls.drop k) = max (lg ls[k]) (lgs (ls.drop (k + 1))) := by
  rw [List.drop_eq_getElem_cons hk]; rfl
theorem lgs_end {ls : List (List UInt8)} {k : Nat} (hk : ¬ k < ls.length) : lgs (ls.drop k) = 0 := by
  rw [List.drop_eq_nil_of_le (by omega)]; rfl
theorem lgs_mem {ls : List (List UInt8)} {s : List UInt8} (h : s ∈ ls) : lg s ≤ lgs ls := by
  induction ls with
  | nil => cases h
  | cons t r ih =>
    rcases List.mem_cons.1 h with rfl | h
    · simp only [lgs]; omega
    · have := ih h; simp only [lgs]; omega
theorem lgs_le {ls : List (List UInt8)} {n : Nat} (h : ∀ s ∈ ls, s.length ≤ n) : lgs ls ≤ n := by
  induction ls with
  | nil => simp [lgs]
  | cons t r ih =>
    have h1 := h t (by simp)
    have h2 := lg_le t
    have h3 := ih fun s hs => h s (by simp [hs])
    simp only [lgs]; omega
/-- how many signs a fence needs -/
def long (ls : List (List UInt8)) : Nat := max (lgs ls + 1) 3

/-- without the blanks and tabs ahead -/
def front : List UInt8 → List UInt8
  | [] => []
  | b :: r => if isGap b then front r else b :: r
theorem front_gap {b : UInt8} (r : List UInt8) (h : isGap b = true) : front (b :: r) = front r := by simp [front, h]
theorem front_word {b : UInt8} (r : List UInt8) (h : isGap b = false) : front (b :: r) = b :: r := by simp [front, h]
theorem front_len (l : List UInt8) : (front l).length ≤ l.length := by
  induction l with
  | nil => simp [front]
  | cons b r ih => simp only [front]; split <;> simp only [List.length_cons] <;> omega
/-- without those at the end -/
def back : List UInt8 → List UInt8
  | [] => []
  | b :: r => if back r = [] ∧ isGap b = true then [] else b :: back r
theorem back_gap {b : UInt8} {r : List UInt8} (h : back r = []) (hb : isGap b = true) : back (b :: r) = [] := by simp [back, h, hb]
theorem back_word {b : UInt8} (r : List UInt8) (hb : isGap b = false) : back (b :: r) = b :: back r := by simp [back, hb]
theorem back_more {b : UInt8} {r : List UInt8} (h : back r ≠ []) : back (b :: r) = b :: back r := by simp [back, h]
theorem back_len (l : List UInt8) : (back l).length ≤ l.length := by
  induction l with
  | nil => simp [back]
  | cons b r ih => simp only [back]; split <;> simp only [List.length_cons, List.length_nil] <;> omega
theorem back_snoc_gap (l : List UInt8) {x : UInt8} (h : isGap x = true) : back (l ++ [x]) = back l := by
  induction l with
  | nil => rw [List.nil_append, back_gap rfl h]; rfl
  | cons b r ih => rw [List.cons_append, back, back, ih]
theorem back_snoc_word (l : List UInt8) {x : UInt8} (h : isGap x = false) : back (l ++ [x]) = l ++ [x] := by
  induction l with
  | nil => rw [List.nil_append, back_word _ h]; rfl
  | cons b r ih => rw [List.cons_append, back_more (by rw [ih]; simp), ih]
/-- without those around -/
def trim (l : List UInt8) : List UInt8 := back (front l)
theorem trim_len (l : List UInt8) : (trim l).length ≤ l.length := Nat.le_trans (back_len _) (front_len _)
theorem front_back (l : List UInt8) : front (back l) = back (front l) := by
  induction l with
  | nil => rfl
  | cons b r ih =>
    cases hb : isGap b with
    | true =>
      rw [front_gap _ hb, ← ih]
      by_cases hr : back r = []
      · rw [back_gap hr hb, hr]
      · rw [back_more hr, front_gap _ hb]
    | false => rw [back_word _ hb, front_word _ hb, front_word _ hb, back_word _ hb]

/-- the sign, how many, how far in, the info -/
structure Op where
  c : UInt8
  n : Nat
  ind : Nat
  info : List UInt8

/-- how many columns a line is in, and what is behind them -/
def cl (l : List UInt8) : Nat := (lead inf l 0).1
def rs (l : List UInt8) : List UInt8 := l.drop (lead inf l 0).2

/-- the info behind the signs -/
def info (r : List UInt8) (c : UInt8) : List UInt8 := trim (r.drop (run c r))
/-- the fence that a line begins -/
def begins (l : List UInt8) : Option Op :=
  match rs l with
  | [] => none
  | c :: r => if cl l ≤ 3 ∧ (c = 96 ∨ c = 126) ∧ 3 ≤ run c (c :: r) ∧ ¬ (c = 96 ∧ 96 ∈ info (c :: r) c) then some ⟨c, run c (c :: r), cl l, info (c :: r) c⟩ else none
theorem begins_nil {l : List UInt8} (h : rs l = []) : begins l = none := by unfold begins; rw [h]
theorem begins_yes {l : List UInt8} {c : UInt8} {r : List UInt8} (h : rs l = c :: r) (h1 : cl l ≤ 3) (h2 : c = 96 ∨ c = 126) (h3 : 3 ≤ run c (c :: r)) (h4 : ¬ (c = 96 ∧ 96 ∈ info (c :: r) c)) :
    begins l = some ⟨c, run c (c :: r), cl l, info (c :: r) c⟩ := by unfold begins; rw [h]; simp only; rw [if_pos ⟨h1, h2, h3, h4⟩]
theorem begins_no {l : List UInt8} {c : UInt8} {r : List UInt8} (h : rs l = c :: r) (h1 : ¬ (cl l ≤ 3 ∧ (c = 96 ∨ c = 126) ∧ 3 ≤ run c (c :: r) ∧ ¬ (c = 96 ∧ 96 ∈ info (c :: r) c))) :
    begins l = none := by unfold begins; rw [h]; simp only; rw [if_neg h1]

/-- nothing but blanks and tabs -/
def emp (l : List UInt8) : Bool := decide ((lead inf l 0).2 = l.length)
/-- a line that ends a fence of the sign c, n of it -/
def ends (c : UInt8) (n : Int) (l : List UInt8) : Bool := decide (1 ≤ n ∧ cl l ≤ 3 ∧ n ≤ (run c (rs l) : Int)) && emp ((rs l).drop (run c (rs l)))
theorem ends_no {c : UInt8} {n : Int} {l : List UInt8} (h : ¬ (1 ≤ n ∧ cl l ≤ 3 ∧ n ≤ (run c (rs l) : Int))) : ends c n l = false := by unfold ends; rw [decide_eq_false h]; rfl
theorem ends_is {c : UInt8} {n : Int} {l : List UInt8} (h : 1 ≤ n ∧ cl l ≤ 3 ∧ n ≤ (run c (rs l) : Int)) : ends c n l = emp ((rs l).drop (run c (rs l))) := by unfold ends; rw [decide_eq_true h]; rfl
end Go.Proofs.Ytjkmhcolnidflaa.Fn
