/- Runs that stress, as lists, by no program: which fit, which pairs they make; no two pairs cross, none takes more signs than there are. -/
import Derived.Test.YtboeaofcioolnaaDoorRnKinds
import Derived.Test.YtboeaofcioolnaaDoorRu
import Derived.Test.YtboeaofcioolnaaDoorFnMath
namespace Go.Proofs.YtboeaofcioolnaaDoor.Em

/-- a run: its sign, how many, whether it opens, whether it closes -/
structure R where
  ch : UInt8
  n : Int
  o : Bool
  c : Bool
deriving DecidableEq
def none_ : R := ⟨0, 0, false, false⟩
def get (l : List R) (i : Nat) : R := l.getD i none_
theorem get_at {l : List R} {i : Nat} (h : i < l.length) : get l i = l[i] := by simp [get, List.getD, List.getElem?_eq_getElem h]
def held (n : Int) : Nat := (max (min n 100) 0).toNat
theorem held_le (n : Int) : held n ≤ 100 := by unfold held; omega
theorem held_le_n {n : Int} (h : 0 ≤ n) : (held n : Int) ≤ n := by unfold held; omega
def fits (x y : R) : Bool := (held x.n % 3 == 0 && held y.n % 3 == 0) || !((x.o && x.c || y.o && y.c) && (held x.n + held y.n) % 3 == 0)

/-- how many signs each has left -/
def lf (L : List Nat) (i : Nat) : Nat := L.getD i 0
theorem lf_at {L : List Nat} {i : Nat} (h : i < L.length) : lf L i = L[i] := by simp [lf, List.getD, List.getElem?_eq_getElem h]
def ok (l : List R) (L : List Nat) (o c : Nat) : Bool := (get l o).o && (get l o).ch == (get l c).ch && decide (0 < lf L o) && fits (get l o) (get l c)
/-- the nearest one ahead -/
def opener (l : List R) (L : List Nat) (c : Nat) : Nat → Option Nat
  | 0 => none
  | k + 1 => if ok l L k c = true then some k else opener l L c k
theorem opener_yes {l : List R} {L : List Nat} {c k : Nat} (h : ok l L k c = true) : opener l L c (k + 1) = some k := by unfold opener; rw [if_pos h]
theorem opener_no {l : List R} {L : List Nat} {c k : Nat} (h : ok l L k c = false) : opener l L c (k + 1) = opener l L c k := by
  conv => lhs; unfold opener
  rw [if_neg (by rw [h]; decide)]
theorem opener_spec {l : List R} {L : List Nat} {c o : Nat} : ∀ k, opener l L c k = some o → o < k ∧ ok l L o c = true
  | 0, h => by simp [opener] at h
  | k + 1, h => by
    cases hk : ok l L k c with
    | true => rw [opener_yes hk] at h; injection h with h; subst h; exact ⟨by omega, hk⟩
    | false => rw [opener_no hk] at h; have := opener_spec k h; exact ⟨by omega, this.2⟩
/-- what is left behind a pair -/
def lower (L : List Nat) (o c s : Nat) : List Nat := L.mapIdx fun i x => if i = o ∨ i = c then x - s else if o < i ∧ i < c then 0 else x
theorem lower_len (L : List Nat) (o c s : Nat) : (lower L o c s).length = L.length := by simp [lower]
theorem lf_lower {L : List Nat} {o c s i : Nat} (h : i < L.length) : lf (lower L o c s) i = if i = o ∨ i = c then lf L i - s else if o < i ∧ i < c then 0 else lf L i := by
  simp only [lf, List.getD, lower, List.getElem?_mapIdx, List.getElem?_eq_getElem h, Option.map_some, Option.getD_some]
def size (L : List Nat) (o c : Nat) : Nat := if 1 < lf L o ∧ 1 < lf L c then 2 else 1
abbrev St := List Nat × List (Nat × Nat × Nat)

/-- one that closes: all its pairs, by at most so many steps -/
def innerF (l : List R) (c : Nat) : Nat → St → St
  | 0, st => st
  | f + 1, st =>
    if (get l c).c = true ∧ 0 < lf st.1 c then
      match opener l st.1 c c with
      | none => st
      | some o => innerF l c f (lower st.1 o c (size st.1 o c), st.2 ++ [(o, c, size st.1 o c)])
    else st
def inner (l : List R) (c : Nat) (st : St) : St := innerF l c (lf st.1 c) st
theorem size_pos (L : List Nat) (o c : Nat) : 1 ≤ size L o c ∧ size L o c ≤ 2 := by unfold size; split <;> omega
theorem size_le {L : List Nat} {o c : Nat} (ho : 0 < lf L o) (hc : 0 < lf L c) : size L o c ≤ lf L o ∧ size L o c ≤ lf L c := by unfold size; split <;> omega
theorem lf_pos_lt {L : List Nat} {c : Nat} (h : 0 < lf L c) : c < L.length := by
  rcases Nat.lt_or_ge c L.length with h1 | h1
  · exact h1
  · simp [lf, List.getD, List.getElem?_eq_none h1] at h
theorem lf_lower_c {L : List Nat} {o c s : Nat} (h : 0 < lf L c) : lf (lower L o c s) c = lf L c - s := by rw [lf_lower (lf_pos_lt h), if_pos (.inr rfl)]
theorem innerF_fuel (l : List R) (c : Nat) : ∀ (f g : Nat) (st : St), lf st.1 c ≤ f → lf st.1 c ≤ g → innerF l c f st = innerF l c g st
  | 0, 0, _, _, _ => rfl
  | 0, g + 1, st, h, _ => by unfold innerF; rw [if_neg (by omega)]
  | f + 1, 0, st, _, h => by unfold innerF; rw [if_neg (by omega)]
  | f + 1, g + 1, st, hf, hg => by
    unfold innerF
    by_cases h : (get l c).c = true ∧ 0 < lf st.1 c
    · rw [if_pos h, if_pos h]
      cases ho : opener l st.1 c c with
      | none => rfl
      | some o =>
        have h1 := lf_lower_c (o := o) (s := size st.1 o c) h.2
        have h2 := size_pos st.1 o c
        exact innerF_fuel l c f g _ (by simp only; omega) (by simp only; omega)
    · rw [if_neg h, if_neg h]
theorem inner_stop {l : List R} {c : Nat} {st : St} (h : ¬ ((get l c).c = true ∧ 0 < lf st.1 c)) : inner l c st = st := by
  unfold inner
  cases lf st.1 c with
  | zero => rfl
  | succ f => unfold innerF; rw [if_neg h]
theorem inner_none {l : List R} {c : Nat} {st : St} (h : opener l st.1 c c = none) : inner l c st = st := by
  by_cases hc : (get l c).c = true ∧ 0 < lf st.1 c
  · unfold inner
    obtain ⟨f, hf⟩ : ∃ f, lf st.1 c = f + 1 := ⟨lf st.1 c - 1, by omega⟩
    rw [hf]; unfold innerF; rw [if_pos hc, h]
  · exact inner_stop hc
theorem inner_step {l : List R} {c o : Nat} {st : St} (hc : (get l c).c = true) (hl : 0 < lf st.1 c) (h : opener l st.1 c c = some o) :
    inner l c st = inner l c (lower st.1 o c (size st.1 o c), st.2 ++ [(o, c, size st.1 o c)]) := by
  obtain ⟨f, hf⟩ : ∃ f, lf st.1 c = f + 1 := ⟨lf st.1 c - 1, by omega⟩
  unfold inner
  rw [hf]
  conv => lhs; unfold innerF
  rw [if_pos ⟨hc, hl⟩, h]
  have h1 := lf_lower_c (o := o) (s := size st.1 o c) hl
  have h2 := size_pos st.1 o c
  exact innerF_fuel l c f _ _ (by simp only; omega) (Nat.le_refl _)

/-- from one on, so many -/
def outer (l : List R) : Nat → Nat → St → St
  | 0, _, st => st
  | k + 1, c, st => outer l k (c + 1) (inner l c st)
def pairs (l : List R) : List (Nat × Nat × Nat) := (outer l l.length 0 (l.map (fun r => held r.n), [])).2

/-! ### what holds of pairs -/
/-- how many signs of one are taken -/
def used (out : List (Nat × Nat × Nat)) (i : Nat) : Nat := (out.map fun x => (if x.1 = i then x.2.2 else 0) + if x.2.1 = i then x.2.2 else 0).sum
theorem used_snoc (out : List (Nat × Nat × Nat)) (x : Nat × Nat × Nat) (i : Nat) : used (out ++ [x]) i = used out i + ((if x.1 = i then x.2.2 else 0) + if x.2.1 = i then x.2.2 else 0) := by simp [used]
/-- a pair lies within another one, or apart from it -/
def apart (y x : Nat × Nat × Nat) : Prop := ¬ (y.1 < x.1 ∧ x.1 < y.2.1 ∧ y.2.1 < x.2.1) ∧ ¬ (x.1 < y.1 ∧ y.1 < x.2.1 ∧ x.2.1 < y.2.1)
structure Inv (l : List R) (c : Nat) (st : St) : Prop where
  len : st.1.length = l.length
  good : ∀ x ∈ st.2, x.1 < x.2.1 ∧ x.2.1 ≤ c ∧ x.2.1 < l.length ∧ 1 ≤ x.2.2 ∧ x.2.2 ≤ 2 ∧ (get l x.1).o = true ∧ (get l x.2.1).c = true ∧ (get l x.1).ch = (get l x.2.1).ch
  zero : ∀ x ∈ st.2, ∀ i, x.1 < i → i < x.2.1 → lf st.1 i = 0
  sum : ∀ i, i < l.length → used st.2 i + lf st.1 i ≤ held (get l i).n
  cross : st.2.Pairwise apart
theorem inv_next {l : List R} {c : Nat} {st : St} (h : Inv l c st) : Inv l (c + 1) st :=
  ⟨h.len, fun x hx => by have := h.good x hx; exact ⟨this.1, by omega, this.2.2⟩, h.zero, h.sum, h.cross⟩
theorem inv_step {l : List R} {c o : Nat} {st : St} (h : Inv l c st) (hc : (get l c).c = true) (hl : 0 < lf st.1 c) (ho : opener l st.1 c c = some o) :
    Inv l c (lower st.1 o c (size st.1 o c), st.2 ++ [(o, c, size st.1 o c)]) := by
  obtain ⟨hoc, hok⟩ := opener_spec _ ho
  simp only [ok, Bool.and_eq_true, decide_eq_true_eq, beq_iff_eq] at hok
  obtain ⟨⟨⟨ho1, ho2⟩, ho3⟩, _⟩ := hok
  have hcl := lf_pos_lt hl
  have hs := size_pos st.1 o c
  have hsl := size_le ho3 hl
  obtain ⟨s, hse⟩ : ∃ s, s = size st.1 o c := ⟨_, rfl⟩
  rw [← hse] at hs hsl ⊢
  have hlen := h.len
  refine ⟨by rw [lower_len]; exact h.len, ?_, ?_, ?_, ?_⟩
  · intro x hx
    rcases List.mem_append.1 hx with hx | hx
    · exact h.good x hx
    · obtain rfl : x = (o, c, s) := by simpa using hx
      exact ⟨hoc, Nat.le_refl _, show c < l.length by omega, hs.1, hs.2, ho1, hc, ho2⟩
  · intro x hx i h1 h2
    rcases List.mem_append.1 hx with hx | hx
    · have hz := h.zero x hx i h1 h2
      have hg := h.good x hx
      simp only
      rw [lf_lower (by omega)]
      split
      · omega
      · split
        · rfl
        · exact hz
    · obtain rfl : x = (o, c, s) := by simpa using hx
      simp only at h1 h2 ⊢
      rw [lf_lower (by omega), if_neg (by omega), if_pos ⟨h1, h2⟩]
  · intro i hi
    have hsum := h.sum i hi
    simp only
    rw [used_snoc, lf_lower (by omega)]
    simp only
    by_cases h1 : o = i
    · subst h1
      rw [if_pos rfl, if_neg (by omega), if_pos (.inl rfl)]
      omega
    · by_cases h2 : c = i
      · subst h2
        rw [if_neg h1, if_pos rfl, if_pos (.inr rfl)]
        omega
      · rw [if_neg h1, if_neg h2, if_neg (by omega)]
        split
        · omega
        · omega
  · simp only
    rw [List.pairwise_append]
    refine ⟨h.cross, by simp, fun y hy x hx => ?_⟩
    obtain rfl : x = (o, c, s) := by simpa using hx
    have hg := h.good y hy
    refine ⟨fun ⟨h1, h2, h3⟩ => ?_, fun ⟨h1, h2, h3⟩ => ?_⟩
    · have := h.zero y hy o h1 h2
      omega
    · simp only at h3; omega
theorem inv_innerF {l : List R} {c : Nat} : ∀ (f : Nat) (st : St), Inv l c st → Inv l c (innerF l c f st)
  | 0, _, h => h
  | f + 1, st, h => by
    unfold innerF
    split
    · rename_i hc
      split
      · exact h
      · rename_i o ho
        exact inv_innerF f _ (inv_step h hc.1 hc.2 ho)
    · exact h
theorem inv_outer {l : List R} : ∀ (k c : Nat) (st : St), Inv l c st → Inv l (c + k) (outer l k c st)
  | 0, _, _, h => h
  | k + 1, c, st, h => by
    have := inv_outer k (c + 1) _ (inv_next (inv_innerF (lf st.1 c) st h))
    rw [show c + (k + 1) = c + 1 + k by omega]
    exact this
theorem inv_pairs (l : List R) : Inv l l.length (outer l l.length 0 (l.map (fun r => held r.n), [])) := by
  have h0 : Inv l 0 (l.map (fun r => held r.n), []) := by
    refine ⟨by simp, by simp, by simp, fun i hi => ?_, List.Pairwise.nil⟩
    simp only [used, List.map_nil, List.sum_nil, Nat.zero_add]
    rw [lf_at (by simpa using hi), List.getElem_map, get_at hi]
    exact Nat.le_refl _
  have := inv_outer l.length 0 _ h0
  rwa [Nat.zero_add] at this
theorem lf_lower_le (L : List Nat) (o c s i : Nat) : lf (lower L o c s) i ≤ lf L i := by
  rcases Nat.lt_or_ge i L.length with h | h
  · rw [lf_lower h]
    split
    · omega
    · split
      · omega
      · exact Nat.le_refl _
  · simp [lf, List.getD, List.getElem?_eq_none (show (lower L o c s).length ≤ i by rw [lower_len]; exact h)]
/-- bounds: no more than a hundred left each, no more than a hundred pairs each -/
def Bd (c : Nat) (st : St) : Prop := (∀ i, lf st.1 i ≤ 100) ∧ st.2.length ≤ 100 * c
def Bi (c : Nat) (st : St) : Prop := (∀ i, lf st.1 i ≤ 100) ∧ st.2.length + lf st.1 c ≤ 100 * (c + 1)
theorem bd_in {c : Nat} {st : St} (h : Bd c st) : Bi c st := ⟨h.1, by have := h.1 c; have := h.2; omega⟩
theorem bd_out {c : Nat} {st : St} (h : Bi c st) : Bd (c + 1) st := ⟨h.1, by have := h.2; omega⟩
theorem bi_step {c o : Nat} {st : St} (h : Bi c st) (hl : 0 < lf st.1 c) : Bi c (lower st.1 o c (size st.1 o c), st.2 ++ [(o, c, size st.1 o c)]) := by
  have h1 := lf_lower_c (o := o) (s := size st.1 o c) hl
  have h2 := size_pos st.1 o c
  have h3 := h.2
  refine ⟨fun i => Nat.le_trans (lf_lower_le _ _ _ _ _) (h.1 i), ?_⟩
  simp only [List.length_append, List.length_cons, List.length_nil]
  omega
theorem bi_innerF {l : List R} {c : Nat} : ∀ (f : Nat) (st : St), Bi c st → Bi c (innerF l c f st)
  | 0, _, h => h
  | f + 1, st, h => by
    unfold innerF
    split
    · rename_i hc
      split
      · exact h
      · rename_i o ho
        exact bi_innerF f _ (bi_step h hc.2)
    · exact h
theorem bd_outer {l : List R} : ∀ (k c : Nat) (st : St), Bd c st → Bd (c + k) (outer l k c st)
  | 0, _, _, h => h
  | k + 1, c, st, h => by
    have := bd_outer (l := l) k (c + 1) _ (bd_out (bi_innerF (l := l) (lf st.1 c) st (bd_in h)))
    rw [show c + (k + 1) = c + 1 + k by omega]
    exact this
/-- no more than a hundred pairs a run -/
theorem bd_pairs (l : List R) : (pairs l).length ≤ 100 * l.length := by
  have h0 : Bd 0 (l.map (fun r => held r.n), []) := by
    refine ⟨fun i => ?_, by simp⟩
    rcases Nat.lt_or_ge i l.length with h | h
    · rw [lf_at (by simpa using h), List.getElem_map]; exact held_le _
    · simp [lf, List.getD, List.getElem?_eq_none h]
  have := (bd_outer (l := l) l.length 0 _ h0).2
  rwa [Nat.zero_add] at this
/-- behind the pair: what lies between is nought from one on, up to a place -/
def wiped (L : List Nat) (o c s k : Nat) : List Nat := L.mapIdx fun i x => if i = o ∨ i = c then x - s else if o < i ∧ i < k then 0 else x
theorem wiped_all (L : List Nat) (o c s : Nat) : wiped L o c s c = lower L o c s := rfl
theorem wiped_zero {L : List Nat} {o c s : Nat} (h : o < c) (hc : c < L.length) : wiped L o c s (o + 1) = (L.set o (lf L o - s)).set c (lf L c - s) := by
  apply List.ext_getElem?
  intro i
  simp only [wiped, List.getElem?_mapIdx, List.getElem?_set, List.length_set]
  by_cases h1 : c = i
  · subst h1
    rw [if_pos rfl, if_pos hc, List.getElem?_eq_getElem hc, lf_at hc]
    simp
  · rw [if_neg h1]
    by_cases h2 : o = i
    · subst h2
      rw [if_pos rfl, if_pos (by omega), List.getElem?_eq_getElem (by omega), lf_at (by omega)]
      simp
    · rw [if_neg h2]
      rcases Nat.lt_or_ge i L.length with h3 | h3
      · rw [List.getElem?_eq_getElem h3]
        simp only [Option.map_some, Option.some.injEq]
        rw [if_neg (by omega), if_neg (by omega)]
      · rw [List.getElem?_eq_none h3]; rfl
theorem wiped_step {L : List Nat} {o c s k : Nat} (h : o < k) (hk : k < c) (hc : c < L.length) : wiped L o c s (k + 1) = (wiped L o c s k).set k 0 := by
  apply List.ext_getElem?
  intro i
  simp only [wiped, List.getElem?_mapIdx, List.getElem?_set, List.length_mapIdx]
  by_cases h1 : k = i
  · subst h1
    rw [if_pos rfl, if_pos (by omega), List.getElem?_eq_getElem (by omega)]
    simp only [Option.map_some, Option.some.injEq]
    rw [if_neg (by omega), if_pos (by omega)]
  · rw [if_neg h1]
    rcases Nat.lt_or_ge i L.length with h3 | h3
    · rw [List.getElem?_eq_getElem h3]
      simp only [Option.map_some, Option.some.injEq]
      by_cases h4 : i = o ∨ i = c
      · rw [if_pos h4, if_pos h4]
      · rw [if_neg h4, if_neg h4]
        by_cases h5 : o < i ∧ i < k
        · rw [if_pos h5, if_pos (by omega)]
        · rw [if_neg h5, if_neg (by omega)]
    · rw [List.getElem?_eq_none h3]; rfl
theorem wiped_len (L : List Nat) (o c s k : Nat) : (wiped L o c s k).length = L.length := by simp [wiped]
end Go.Proofs.YtboeaofcioolnaaDoor.Em
