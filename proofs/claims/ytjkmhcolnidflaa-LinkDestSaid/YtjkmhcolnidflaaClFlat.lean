/- Plain mathematics of columns: a text with its tabs as blanks, a text stripped of some columns, and of some more. No program is spoken of here. -/
import Derived.Test.YtjkmhcolnidflaaClMath
namespace Go.Proofs.Ytjkmhcolnidflaa.Cl

/-- no column of so short a text reaches inf -/
def small (l : List UInt8) (c : Nat) : Prop := c + 4 * l.length < 9223372036854775807

theorem small_lt {l : List UInt8} {c : Nat} (h : small l c) : (c : Int) < inf := by unfold small at h; unfold inf; omega
theorem small_step {b : UInt8} {r : List UInt8} {c : Nat} (h : small (b :: r) c) : small r (step c b) := by
  have := step_le c b; unfold small at *; simp only [List.length_cons] at h; omega

/-- blanks in front -/
theorem lead_blanks {n : Int} (j : Nat) (r : List UInt8) (c : Nat) (h : (c : Int) + j ≤ n) : lead n (List.replicate j 32 ++ r) c = ((lead n r (c + j)).1, (lead n r (c + j)).2 + j) := by
  induction j generalizing c with
  | zero => simp
  | succ j ih =>
    rw [List.replicate_succ, List.cons_append, lead_go _ (by omega) (by rfl), step_one c (by decide), ih (c + 1) (by omega)]
    have : c + 1 + j = c + (j + 1) := by omega
    rw [this]; simp only [Prod.mk.injEq, true_and]; omega
theorem width_blanks (j : Nat) (r : List UInt8) (c : Nat) : width (List.replicate j 32 ++ r) c = width r (c + j) := by
  induction j generalizing c with
  | zero => simp
  | succ j ih =>
    rw [List.replicate_succ, List.cons_append, width, step_one c (by decide), ih (c + 1)]
    congr 1; omega
theorem width_ge (l : List UInt8) (c : Nat) : c ≤ width l c := by
  induction l generalizing c with
  | nil => exact Nat.le_refl _
  | cons b r ih => have h1 := ih (step c b); have h2 := step_le c b; rw [width]; omega

/-- tabs as blanks up to the next stop -/
def fl : List UInt8 → Nat → List UInt8
  | [], _ => []
  | b :: r, c => if b = 9 then List.replicate (4 - c % 4) 32 ++ fl r (c + (4 - c % 4)) else b :: fl r (c + 1)
theorem fl_tab (r : List UInt8) (c : Nat) : fl (9 :: r) c = List.replicate (4 - c % 4) 32 ++ fl r (c + (4 - c % 4)) := by simp [fl]
theorem fl_one {b : UInt8} (r : List UInt8) (c : Nat) (h : b ≠ 9) : fl (b :: r) c = b :: fl r (c + 1) := by simp [fl, h]
theorem step_tab' (c : Nat) : step c 9 = c + (4 - c % 4) := by
  rw [step_tab]; have : c % 4 < 4 := Nat.mod_lt _ (by omega); have := Nat.mod_le c 4; omega

theorem fl_len (l : List UInt8) (c : Nat) : (fl l c).length ≤ 4 * l.length := by
  induction l generalizing c with
  | nil => simp [fl]
  | cons b r ih =>
    by_cases h : b = 9
    · subst h
      rw [fl_tab]
      have := ih (c + (4 - c % 4))
      simp only [List.length_append, List.length_replicate, List.length_cons]; omega
    · rw [fl_one _ _ h]
      have := ih (c + 1)
      simp only [List.length_cons]; omega

theorem fl_all (l : List UInt8) (c : Nat) (hs : small l c) :
    (lead inf (fl l c) c).1 = (lead inf l c).1 ∧ (lead inf (fl l c) c).1 = c + (lead inf (fl l c) c).2 ∧ width l c = c + (fl l c).length ∧ width (fl l c) c = c + (fl l c).length ∧
      ((lead inf l c).2 = l.length ↔ (lead inf (fl l c) c).2 = (fl l c).length) := by
  induction l generalizing c with
  | nil => simp [fl, lead, width]
  | cons b r ih =>
    have hlt := small_lt hs
    have hi := ih (step c b) (small_step hs)
    by_cases h : b = 9
    · subst h
      rw [step_tab'] at hi
      obtain ⟨j, hj⟩ : ∃ j, 4 - c % 4 = j := ⟨_, rfl⟩
      rw [hj] at hi
      have hc4 : c % 4 < 4 := Nat.mod_lt _ (by omega)
      have hji : (c : Int) + j ≤ inf := by unfold small at hs; unfold inf; simp only [List.length_cons] at hs; omega
      rw [fl_tab, hj, lead_blanks j _ c hji, width_blanks, lead_go _ hlt (by rfl), width, step_tab', hj]
      simp only [List.length_append, List.length_replicate, List.length_cons]
      obtain ⟨h1, h2, h3, h4, h5⟩ := hi
      refine ⟨h1, by omega, by omega, by omega, ?_⟩
      constructor
      · intro h; have := h5.1 (by omega); omega
      · intro h; have := h5.2 (by omega); omega
    · rw [step_one c h] at hi
      rw [fl_one _ _ h, width, width, step_one c h]
      obtain ⟨h1, h2, h3, h4, h5⟩ := hi
      cases hg : isGap b with
      | true =>
        rw [lead_go _ hlt hg, lead_go _ hlt hg, step_one c h]
        simp only [List.length_cons]
        refine ⟨h1, by omega, by omega, by omega, ?_⟩
        constructor
        · intro h; have := h5.1 (by omega); omega
        · intro h; have := h5.2 (by omega); omega
      | false =>
        rw [lead_word _ hg, lead_word _ hg]
        simp only [List.length_cons]
        refine ⟨trivial, by omega, by omega, by omega, by constructor <;> (intro h; omega)⟩

/-- the blanks and tabs at a text's beginning -/
def gaps : List UInt8 → Nat
  | [] => 0
  | b :: r => if isGap b then gaps r + 1 else 0
theorem gaps_go {b : UInt8} (r : List UInt8) (h : isGap b = true) : gaps (b :: r) = gaps r + 1 := by simp [gaps, h]
theorem gaps_word {b : UInt8} (r : List UInt8) (h : isGap b = false) : gaps (b :: r) = 0 := by simp [gaps, h]
theorem gaps_le (l : List UInt8) : gaps l ≤ l.length := by
  induction l with
  | nil => simp [gaps]
  | cons b r ih => simp only [gaps, List.length_cons]; split <;> omega
theorem gaps_drop (l : List UInt8) (k : Nat) (h : k ≤ gaps l) : gaps (l.drop k) = gaps l - k := by
  induction l generalizing k with
  | nil => simp [gaps]
  | cons b r ih =>
    cases k with
    | zero => simp
    | succ k =>
      cases hg : isGap b with
      | true => rw [gaps_go _ hg] at h ⊢; rw [List.drop_succ_cons, ih k (by omega)]; omega
      | false => rw [gaps_word _ hg] at h; omega
theorem lead_gaps (n : Int) (l : List UInt8) (c : Nat) : (lead n l c).2 ≤ gaps l := by
  induction l generalizing c with
  | nil => simp [lead]
  | cons b r ih =>
    rw [lead]
    split
    · rename_i h; have := ih (step c b); rw [gaps_go _ h.2]; simp only; omega
    · simp
theorem lead_inf (l : List UInt8) (c : Nat) (hs : small l c) : (lead inf l c).2 = gaps l := by
  induction l generalizing c with
  | nil => rfl
  | cons b r ih =>
    cases hg : isGap b with
    | true => rw [lead_go _ (small_lt hs) hg, gaps_go _ hg]; simp only; rw [ih _ (small_step hs)]
    | false => rw [lead_word _ hg, gaps_word _ hg]
theorem lead_none (n : Int) (r : List UInt8) (c : Nat) (h : gaps r = 0) : lead n r c = (c, 0) := by
  cases r with
  | nil => rfl
  | cons b r =>
    cases hg : isGap b with
    | true => rw [gaps_go _ hg] at h; omega
    | false => exact lead_word _ hg
/-- where all is taken, more columns take no more -/
theorem lead_all {n m : Int} (l : List UInt8) (c : Nat) (hnm : n ≤ m) (h : (lead n l c).2 = gaps l) : lead m l c = lead n l c := by
  induction l generalizing c with
  | nil => rfl
  | cons b r ih =>
    cases hg : isGap b with
    | true =>
      by_cases hc : (c : Int) < n
      · rw [lead_go _ hc hg, gaps_go _ hg] at h
        rw [lead_go _ hc hg, lead_go _ (by omega) hg, ih _ (by simp only at h; omega)]
      · rw [lead_full _ hc, gaps_go _ hg] at h; simp only at h; omega
    | false => rw [lead_word _ hg, lead_word _ hg]
/-- where not all is taken, the columns are reached -/
theorem lead_some (n : Int) (l : List UInt8) (c : Nat) (h : (lead n l c).2 < gaps l) : n ≤ (lead n l c).1 := by
  induction l generalizing c with
  | nil => simp [gaps] at h
  | cons b r ih =>
    cases hg : isGap b with
    | true =>
      by_cases hc : (c : Int) < n
      · rw [lead_go _ hc hg, gaps_go _ hg] at h
        rw [lead_go _ hc hg]
        exact ih _ (by simp only at h; omega)
      · rw [lead_full _ hc]; simp only; omega
    | false => rw [gaps_word _ hg] at h; omega
theorem lead_more {n m : Int} (l : List UInt8) (c : Nat) (hnm : n ≤ m) : (lead n l c).2 ≤ (lead m l c).2 ∧ (lead m l c).1 ≤ (lead n l c).1 + 4 * ((lead m l c).2 - (lead n l c).2) := by
  induction l generalizing c with
  | nil => simp [lead]
  | cons b r ih =>
    by_cases hc : (c : Int) < n
    · cases hg : isGap b with
      | true =>
        have := ih (step c b)
        rw [lead_go _ hc hg, lead_go _ (by omega) hg]; simp only; omega
      | false => rw [lead_word _ hg, lead_word _ hg]; simp
    · have := lead_le m (b :: r) c
      rw [lead_full _ hc]; simp only; omega

/-- blanks ahead of a text that begins with none, stripped -/
theorem strip_flat (m a : Nat) (R : List UInt8) (h : gaps R = 0) : strip (m : Int) (List.replicate a 32 ++ R) = List.replicate (a - m) 32 ++ R := by
  by_cases hm : a ≤ m
  · unfold strip
    rw [lead_blanks a R 0 (by omega), lead_none _ R _ h]
    simp [Nat.sub_eq_zero_of_le hm]
  · have he : List.replicate a (32 : UInt8) ++ R = List.replicate m 32 ++ (List.replicate (a - m) 32 ++ R) := by
      rw [← List.append_assoc, List.replicate_append_replicate]; congr 2; omega
    unfold strip
    rw [he, lead_blanks m _ 0 (by omega), lead_full _ (by omega)]
    simp
theorem lead_flat (a : Nat) (R : List UInt8) (h : gaps R = 0) (ha : a ≤ 1000) : lead inf (List.replicate a 32 ++ R) 0 = (a, a) := by
  rw [lead_blanks a R 0 (by unfold inf; omega), lead_none _ R _ h]; simp

/-- the rest behind the blanks and tabs -/
def rest (l : List UInt8) : List UInt8 := l.drop (gaps l)
theorem rest_gaps (l : List UInt8) : gaps (rest l) = 0 := by unfold rest; rw [gaps_drop l _ (Nat.le_refl _)]; omega

/-- what strip gives, and what stands at its beginning -/
theorem strip_lead (l : List UInt8) (N : Nat) (hl : l.length ≤ 60) :
    ∃ i, (lead inf (strip (N : Int) l) 0).2 = i ∧ i ≤ (strip (N : Int) l).length ∧ (strip (N : Int) l).drop i = rest l ∧ i = ((lead (N : Int) l 0).1 - N) + (gaps l - (lead (N : Int) l 0).2) := by
  have h1 := lead_past (N : Int) l 0 (by omega)
  have h2 := lead_gaps (N : Int) l 0
  have h3 := gaps_le l
  have h4 := lead_le (N : Int) l 0
  obtain ⟨C, K, hCK⟩ : ∃ C K, lead (N : Int) l 0 = (C, K) := ⟨_, _, rfl⟩
  rw [hCK] at h1 h2 h4 ⊢
  simp only at h1 h2 h4 ⊢
  have hst : strip (N : Int) l = List.replicate (C - N) 32 ++ l.drop K := by unfold strip; rw [hCK]; simp
  have hle : (lead inf (strip (N : Int) l) 0).2 = (C - N) + (gaps l - K) := by
    rw [hst, lead_blanks _ _ 0 (by unfold inf; omega)]
    simp only
    rw [lead_inf _ _ (by unfold small; rw [List.length_drop]; omega), gaps_drop l K h2]; omega
  refine ⟨_, hle, ?_, ?_, rfl⟩
  · rw [hst, List.length_append, List.length_replicate, List.length_drop]; omega
  · rw [hst, List.drop_append, List.length_replicate, List.drop_eq_nil_of_le (by simp), List.nil_append, List.drop_drop]
    unfold rest; congr 1; omega

/-- nothing is left ahead of a text stripped of N columns just where it is stripped of all -/
theorem strip_done (l : List UInt8) (N : Nat) (hl : l.length ≤ 60) (hN : N ≤ 31) : ((lead inf (strip (N : Int) l) 0).1 = 0 ↔ strip 99 l = strip (N : Int) l) := by
  obtain ⟨i, hi, _, hdrop, hii⟩ := strip_lead l N hl
  have hle := lead_le inf (strip (N : Int) l) 0
  rw [hi] at hle
  have h1 := lead_past (N : Int) l 0 (by omega)
  have h2 := lead_gaps (N : Int) l 0
  have h3 := lead_past 99 l 0 (by omega)
  have h4 := lead_gaps 99 l 0
  have h5 := lead_some 99 l 0
  have h6 := lead_more (n := (N : Int)) (m := 99) l 0 (by omega)
  have h7 := lead_le 99 l 0
  have h8 := lead_le (N : Int) l 0
  constructor
  · intro h0
    have hi0 : i = 0 := by omega
    have hall : (lead (N : Int) l 0).2 = gaps l := by omega
    rw [hi0] at hdrop
    have e := lead_all (n := (N : Int)) (m := 99) l 0 (by omega) hall
    unfold strip
    rw [e]
    have c1 : (lead (N : Int) l 0).1 - ((N : Nat) : Int).toNat = 0 := by omega
    have c2 : (lead (N : Int) l 0).1 - (99 : Int).toNat = 0 := by omega
    rw [c1, c2]
  · intro he
    by_cases hd : (lead 99 l 0).2 = gaps l ∧ (lead 99 l 0).1 ≤ 99
    · have hw : strip 99 l = rest l := by
        unfold strip rest
        rw [hd.1, show (lead 99 l 0).1 - (99 : Int).toNat = 0 from by omega]; rfl
      rw [← he, hw, lead_none _ _ _ (rest_gaps l)]
    · exfalso
      have hlen := congrArg List.length he
      unfold strip at hlen
      simp only [List.length_append, List.length_replicate, List.length_drop] at hlen
      have : (99 : Int) ≤ (lead 99 l 0).1 := by
        by_cases hx : (lead 99 l 0).2 < gaps l
        · exact h5 hx
        · have : (lead 99 l 0).2 = gaps l := by omega
          omega
      omega
end Go.Proofs.Ytjkmhcolnidflaa.Cl
