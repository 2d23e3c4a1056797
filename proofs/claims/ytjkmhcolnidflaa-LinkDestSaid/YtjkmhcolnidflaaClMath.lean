/- Plain mathematics of columns: the blanks and tabs at a text's beginning, a text without its first columns, its width. No program is spoken of here. -/
import Derived.Test.YtjkmhcolnidflaaMem
namespace Go.Proofs.Ytjkmhcolnidflaa.Cl

def isGap (b : UInt8) : Bool := b == 32 || b == 9
/-- the column behind b, which begins at column c -/
def step (c : Nat) (b : UInt8) : Nat := if b = 9 then c - c % 4 + 4 else c + 1
theorem step_tab (c : Nat) : step c 9 = c - c % 4 + 4 := by simp [step]
theorem step_one {b : UInt8} (c : Nat) (h : b ≠ 9) : step c b = c + 1 := by simp [step, h]
theorem step_le (c : Nat) (b : UInt8) : c < step c b ∧ step c b ≤ c + 4 := by
  unfold step; split
  · have : c % 4 < 4 := Nat.mod_lt _ (by omega)
    omega
  · omega

/-- the blanks and tabs from column c on until n columns are reached: the columns, the bytes -/
def lead (n : Int) : List UInt8 → Nat → Nat × Nat
  | [], c => (c, 0)
  | b :: r, c => if (c : Int) < n ∧ isGap b = true then ((lead n r (step c b)).1, (lead n r (step c b)).2 + 1) else (c, 0)

theorem lead_go {n : Int} {b : UInt8} {c : Nat} (r : List UInt8) (h : (c : Int) < n) (hg : isGap b = true) : lead n (b :: r) c = ((lead n r (step c b)).1, (lead n r (step c b)).2 + 1) := by
  rw [lead, if_pos ⟨h, hg⟩]
theorem lead_full {n : Int} {c : Nat} (l : List UInt8) (h : ¬ (c : Int) < n) : lead n l c = (c, 0) := by
  cases l with
  | nil => rfl
  | cons b r => rw [lead, if_neg (fun k => h k.1)]
theorem lead_word {n : Int} {b : UInt8} {c : Nat} (r : List UInt8) (h : isGap b = false) : lead n (b :: r) c = (c, 0) := by
  rw [lead, if_neg (fun k => by rw [h] at k; exact absurd k.2 (by simp))]

theorem lead_le (n : Int) (l : List UInt8) (c : Nat) : (lead n l c).2 ≤ l.length ∧ c + (lead n l c).2 ≤ (lead n l c).1 ∧ (lead n l c).1 ≤ c + 4 * (lead n l c).2 := by
  induction l generalizing c with
  | nil => simp [lead]
  | cons b r ih =>
    rw [lead]
    have h1 := ih (step c b)
    have h2 := step_le c b
    split
    · simp only [List.length_cons]; omega
    · simp

/-- what stands at place k, begun at column c -/
def fin (n : Int) (l : List UInt8) (k c : Nat) : Nat × Nat := ((lead n (l.drop k) c).1, k + (lead n (l.drop k) c).2)
theorem fin_zero (n : Int) (l : List UInt8) : fin n l 0 0 = lead n l 0 := by simp [fin]
theorem fin_step {n : Int} {l : List UInt8} {k c : Nat} (hk : k < l.length) (hc : (c : Int) < n) (hg : isGap l[k] = true) : fin n l (k + 1) (step c l[k]) = fin n l k c := by
  unfold fin; rw [List.drop_eq_getElem_cons hk, lead_go _ hc hg]; simp only [Prod.mk.injEq, true_and]; omega
theorem fin_full {n : Int} {k c : Nat} (l : List UInt8) (h : ¬ (c : Int) < n) : fin n l k c = (c, k) := by
  unfold fin; rw [lead_full _ h]; rfl
theorem fin_word {n : Int} {l : List UInt8} {k c : Nat} (hk : k < l.length) (hg : isGap l[k] = false) : fin n l k c = (c, k) := by
  unfold fin; rw [List.drop_eq_getElem_cons hk, lead_word _ hg]; rfl
theorem fin_end {n : Int} {l : List UInt8} {k c : Nat} (hk : ¬ k < l.length) : fin n l k c = (c, k) := by
  unfold fin; rw [List.drop_eq_nil_of_le (by omega)]; rfl

/-- without the first n columns -/
def strip (n : Int) (l : List UInt8) : List UInt8 := List.replicate ((lead n l 0).1 - n.toNat) 32 ++ l.drop (lead n l 0).2
theorem lead_neg {n : Int} (l : List UInt8) (h : n ≤ 0) : lead n l 0 = (0, 0) := lead_full l (by omega)
theorem strip_neg {n : Int} (l : List UInt8) (h : n ≤ 0) : strip n l = l := by
  unfold strip; rw [lead_neg l h]; simp
/-- how far past n a tab may lead -/
theorem lead_past (n : Int) (l : List UInt8) (c : Nat) (h : (c : Int) ≤ n + 3) : ((lead n l c).1 : Int) ≤ n + 3 := by
  induction l generalizing c with
  | nil => simpa [lead] using h
  | cons b r ih =>
    rw [lead]
    split
    · rename_i hc
      have h2 := step_le c b
      exact ih (step c b) (by have := hc.1; omega)
    · exact h
theorem strip_len (n : Int) (l : List UInt8) : (strip n l).length ≤ l.length + 3 := by
  by_cases h : n ≤ 0
  · rw [strip_neg l h]; omega
  · have h1 := lead_past n l 0 (by omega)
    unfold strip
    simp only [List.length_append, List.length_replicate, List.length_drop]
    omega

/-- all columns -/
def width : List UInt8 → Nat → Nat
  | [], c => c
  | b :: r, c => width r (step c b)
theorem width_at {l : List UInt8} {k c : Nat} (hk : k < l.length) : width (l.drop (k + 1)) (step c l[k]) = width (l.drop k) c := by
  rw [List.drop_eq_getElem_cons hk]; rfl
theorem width_end {l : List UInt8} {k c : Nat} (hk : ¬ k < l.length) : width (l.drop k) c = c := by
  rw [List.drop_eq_nil_of_le (by omega)]; rfl

/-- a number that no column reaches -/
def inf : Int := 9223372036854775807
end Go.Proofs.Ytjkmhcolnidflaa.Cl
