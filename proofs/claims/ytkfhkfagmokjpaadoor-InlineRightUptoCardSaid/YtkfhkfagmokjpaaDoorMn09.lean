/- Runs that stress, as lists, by no program: which fit, which pairs they make; no two pairs cross, none takes more signs than there are. A range over a text: what is handed over at a place, and what is left behind it. How a run of signs is judged, by no program: the rune ahead, the one behind. Signs that mean themselves, as lists, by no program: the rune at a place, what is plain, what is quoted, what is fit for a page; what is quoted is plain as it was. Links, as lists, by no program: an address between < and >, where a bracket closes, where it leads, whether one may go there. Inlines, as trees and lists, by no program: parts of a text, what they settle to, what they say. Pairs of runs, by no program: a later pair has neither of its runs within an earlier one. What is read once and for all, and what is folded: lists of runes, by no program. The document's own runes of a text; runes made a text. The document's own signs that mean themselves: one contract for each function. What stands in the stead of a byte, told over a range of runes, by no program. The document's own links: an address between < and >, where a bracket closes, where it leads, whether one may go there: one contract for each function. The document's own links: where a bracket closes. The document's own links: where one leads, whether one may go there. -/
import Derived.Test.YtkfhkfagmokjpaaDoorMn04
import Derived.Test.YtkfhkfagmokjpaaDoorMn01
import Derived.Laws.Cover4
import Derived.Lib.OthersKept
namespace Go.Proofs.YtkfhkfagmokjpaaDoor.Em

/-- a run: its sign, how many, whether it opens, whether it closes -/
structure R where
  ch : UInt8
  n : Int
  o : Bool
  c : Bool
deriving DecidableEq
def none_ : R := ⟨0, 0, false, false⟩
def get (l : List R) (i : Nat) : R := l.getD i none_
theorem get_at {l : List R} {i : Nat} (h : i < l.length) : get l i = l[i] := by simp [get, List.getD, List.getElem?_eq_getElem h]
def held (n : Int) : Nat := (max (min n 100) 0).toNat
theorem held_le (n : Int) : held n ≤ 100 := by unfold held; omega
theorem held_le_n {n : Int} (h : 0 ≤ n) : (held n : Int) ≤ n := by unfold held; omega
def fits (x y : R) : Bool := (held x.n % 3 == 0 && held y.n % 3 == 0) || !((x.o && x.c || y.o && y.c) && (held x.n + held y.n) % 3 == 0)

/-- how many signs each has left -/
def lf (L : List Nat) (i : Nat) : Nat := L.getD i 0
theorem lf_at {L : List Nat} {i : Nat} (h : i < L.length) : lf L i = L[i] := by simp [lf, List.getD, List.getElem?_eq_getElem h]
def ok (l : List R) (L : List Nat) (o c : Nat) : Bool := (get l o).o && (get l o).ch == (get l c).ch && decide (0 < lf L o) && fits (get l o) (get l c)
/-- the nearest one ahead -/
def opener (l : List R) (L : List Nat) (c : Nat) : Nat → Option Nat
  | 0 => none
  | k + 1 => if ok l L k c = true then some k else opener l L c k
theorem opener_yes {l : List R} {L : List Nat} {c k : Nat} (h : ok l L k c = true) : opener l L c (k + 1) = some k := by unfold opener; rw [if_pos h]
theorem opener_no {l : List R} {L : List Nat} {c k : Nat} (h : ok l L k c = false) : opener l L c (k + 1) = opener l L c k := by
  conv => lhs; unfold opener
  rw [if_neg (by rw [h]; decide)]
theorem opener_spec {l : List R} {L : List Nat} {c o : Nat} : ∀ k, opener l L c k = some o → o < k ∧ ok l L o c = true
  | 0, h => by simp [opener] at h
  | k + 1, h => by
    cases hk : ok l L k c with
    | true => rw [opener_yes hk] at h; injection h with h; subst h; exact ⟨by omega, hk⟩
    | false => rw [opener_no hk] at h; have := opener_spec k h; exact ⟨by omega, this.2⟩
/-- what is left behind a pair -/
def lower (L : List Nat) (o c s : Nat) : List Nat := L.mapIdx fun i x => if i = o ∨ i = c then x - s else if o < i ∧ i < c then 0 else x
theorem lower_len (L : List Nat) (o c s : Nat) : (lower L o c s).length = L.length := by simp [lower]
theorem lf_lower {L : List Nat} {o c s i : Nat} (h : i < L.length) : lf (lower L o c s) i = if i = o ∨ i = c then lf L i - s else if o < i ∧ i < c then 0 else lf L i := by
  simp only [lf, List.getD, lower, List.getElem?_mapIdx, List.getElem?_eq_getElem h, Option.map_some, Option.getD_some]
def size (L : List Nat) (o c : Nat) : Nat := if 1 < lf L o ∧ 1 < lf L c then 2 else 1
abbrev St := List Nat × List (Nat × Nat × Nat)

/-- one that closes: all its pairs, by at most so many steps -/
def innerF (l : List R) (c : Nat) : Nat → St → St
  | 0, st => st
  | f + 1, st =>
    if (get l c).c = true ∧ 0 < lf st.1 c then
      match opener l st.1 c c with
      | none => st
      | some o => innerF l c f (lower st.1 o c (size st.1 o c), st.2 ++ [(o, c, size st.1 o c)])
    else st
def inner (l : List R) (c : Nat) (st : St) : St := innerF l c (lf st.1 c) st
theorem size_pos (L : List Nat) (o c : Nat) : 1 ≤ size L o c ∧ size L o c ≤ 2 := by unfold size; split <;> omega
theorem size_le {L : List Nat} {o c : Nat} (ho : 0 < lf L o) (hc : 0 < lf L c) : size L o c ≤ lf L o ∧ size L o c ≤ lf L c := by unfold size; split <;> omega
theorem lf_pos_lt {L : List Nat} {c : Nat} (h : 0 < lf L c) : c < L.length := by
  rcases Nat.lt_or_ge c L.length with h1 | h1
  · exact h1
  · simp [lf, List.getD, List.getElem?_eq_none h1] at h
theorem lf_lower_c {L : List Nat} {o c s : Nat} (h : 0 < lf L c) : lf (lower L o c s) c = lf L c - s := by rw [lf_lower (lf_pos_lt h), if_pos (.inr rfl)]
theorem innerF_fuel (l : List R) (c : Nat) : ∀ (f g : Nat) (st : St), lf st.1 c ≤ f → lf st.1 c ≤ g → innerF l c f st = innerF l c g st
  | 0, 0, _, _, _ => rfl
  | 0, g + 1, st, h, _ => by unfold innerF; rw [if_neg (by omega)]
  | f + 1, 0, st, _, h => by unfold innerF; rw [if_neg (by omega)]
  | f + 1, g + 1, st, hf, hg => by
    unfold innerF
    by_cases h : (get l c).c = true ∧ 0 < lf st.1 c
    · rw [if_pos h, if_pos h]
      cases ho : opener l st.1 c c with
      | none => rfl
      | some o =>
        have h1 := lf_lower_c (o := o) (s := size st.1 o c) h.2
        have h2 := size_pos st.1 o c
        exact innerF_fuel l c f g _ (by simp only; omega) (by simp only; omega)
    · rw [if_neg h, if_neg h]
theorem inner_stop {l : List R} {c : Nat} {st : St} (h : ¬ ((get l c).c = true ∧ 0 < lf st.1 c)) : inner l c st = st := by
  unfold inner
  cases lf st.1 c with
  | zero => rfl
  | succ f => unfold innerF; rw [if_neg h]
theorem inner_none {l : List R} {c : Nat} {st : St} (h : opener l st.1 c c = none) : inner l c st = st := by
  by_cases hc : (get l c).c = true ∧ 0 < lf st.1 c
  · unfold inner
    obtain ⟨f, hf⟩ : ∃ f, lf st.1 c = f + 1 := ⟨lf st.1 c - 1, by omega⟩
    rw [hf]; unfold innerF; rw [if_pos hc, h]
  · exact inner_stop hc
theorem inner_step {l : List R} {c o : Nat} {st : St} (hc : (get l c).c = true) (hl : 0 < lf st.1 c) (h : opener l st.1 c c = some o) :
    inner l c st = inner l c (lower st.1 o c (size st.1 o c), st.2 ++ [(o, c, size st.1 o c)]) := by
  obtain ⟨f, hf⟩ : ∃ f, lf st.1 c = f + 1 := ⟨lf st.1 c - 1, by omega⟩
  unfold inner
  rw [hf]
  conv => lhs; unfold innerF
  rw [if_pos ⟨hc, hl⟩, h]
  have h1 := lf_lower_c (o := o) (s := size st.1 o c) hl
  have h2 := size_pos st.1 o c
  exact innerF_fuel l c f _ _ (by simp only; omega) (Nat.le_refl _)

/-- from one on, so many -/
def outer (l : List R) : Nat → Nat → St → St
  | 0, _, st => st
  | k + 1, c, st => outer l k (c + 1) (inner l c st)
def pairs (l : List R) : List (Nat × Nat × Nat) := (outer l l.length 0 (l.map (fun r => held r.n), [])).2

/-! ### what holds of pairs -/
/-- how many signs of one are taken -/
def used (out : List (Nat × Nat × Nat)) (i : Nat) : Nat := (out.map fun x => (if x.1 = i then x.2.2 else 0) + if x.2.1 = i then x.2.2 else 0).sum
theorem used_snoc (out : List (Nat × Nat × Nat)) (x : Nat × Nat × Nat) (i : Nat) : used (out ++ [x]) i = used out i + ((if x.1 = i then x.2.2 else 0) + if x.2.1 = i then x.2.2 else 0) := by simp [used]
/-- a pair lies within another one, or apart from it -/
def apart (y x : Nat × Nat × Nat) : Prop := ¬ (y.1 < x.1 ∧ x.1 < y.2.1 ∧ y.2.1 < x.2.1) ∧ ¬ (x.1 < y.1 ∧ y.1 < x.2.1 ∧ x.2.1 < y.2.1)
structure Inv (l : List R) (c : Nat) (st : St) : Prop where
  len : st.1.length = l.length
  good : ∀ x ∈ st.2, x.1 < x.2.1 ∧ x.2.1 ≤ c ∧ x.2.1 < l.length ∧ 1 ≤ x.2.2 ∧ x.2.2 ≤ 2 ∧ (get l x.1).o = true ∧ (get l x.2.1).c = true ∧ (get l x.1).ch = (get l x.2.1).ch
  zero : ∀ x ∈ st.2, ∀ i, x.1 < i → i < x.2.1 → lf st.1 i = 0
  sum : ∀ i, i < l.length → used st.2 i + lf st.1 i ≤ held (get l i).n
  cross : st.2.Pairwise apart
theorem inv_next {l : List R} {c : Nat} {st : St} (h : Inv l c st) : Inv l (c + 1) st :=
  ⟨h.len, fun x hx => by have := h.good x hx; exact ⟨this.1, by omega, this.2.2⟩, h.zero, h.sum, h.cross⟩
theorem inv_step {l : List R} {c o : Nat} {st : St} (h : Inv l c st) (hc : (get l c).c = true) (hl : 0 < lf st.1 c) (ho : opener l st.1 c c = some o) :
    Inv l c (lower st.1 o c (size st.1 o c), st.2 ++ [(o, c, size st.1 o c)]) := by
  obtain ⟨hoc, hok⟩ := opener_spec _ ho
  simp only [ok, Bool.and_eq_true, decide_eq_true_eq, beq_iff_eq] at hok
  obtain ⟨⟨⟨ho1, ho2⟩, ho3⟩, _⟩ := hok
  have hcl := lf_pos_lt hl
  have hs := size_pos st.1 o c
  have hsl := size_le ho3 hl
  obtain ⟨s, hse⟩ : ∃ s, s = size st.1 o c := ⟨_, rfl⟩
  rw [← hse] at hs hsl ⊢
  have hlen := h.len
  refine ⟨by rw [lower_len]; exact h.len, ?_, ?_, ?_, ?_⟩
  · intro x hx
    rcases List.mem_append.1 hx with hx | hx
    · exact h.good x hx
    · obtain rfl : x = (o, c, s) := by simpa using hx
      exact ⟨hoc, Nat.le_refl _, show c < l.length by omega, hs.1, hs.2, ho1, hc, ho2⟩
  · intro x hx i h1 h2
    rcases List.mem_append.1 hx with hx | hx
    · have hz := h.zero x hx i h1 h2
      have hg := h.good x hx
      simp only
      rw [lf_lower (by omega)]
      split
      · omega
      · split
        · rfl
        · exact hz
    · obtain rfl : x = (o, c, s) := by simpa using hx
      simp only at h1 h2 ⊢
      rw [lf_lower (by omega), if_neg (by omega), if_pos ⟨h1, h2⟩]
  · intro i hi
    have hsum := h.sum i hi
    simp only
    rw [used_snoc, lf_lower (by omega)]
    simp only
    by_cases h1 : o = i
    · subst h1
      rw [if_pos rfl, if_neg (by omega), if_pos (.inl rfl)]
      omega
    · by_cases h2 : c = i
      · subst h2
        rw [if_neg h1, if_pos rfl, if_pos (.inr rfl)]
        omega
      · rw [if_neg h1, if_neg h2, if_neg (by omega)]
        split
        · omega
        · omega
  · simp only
    rw [List.pairwise_append]
    refine ⟨h.cross, by simp, fun y hy x hx => ?_⟩
    obtain rfl : x = (o, c, s) := by simpa using hx
    have hg := h.good y hy
    refine ⟨fun ⟨h1, h2, h3⟩ => ?_, fun ⟨h1, h2, h3⟩ => ?_⟩
    · have := h.zero y hy o h1 h2
      omega
    · simp only at h3; omega
theorem inv_innerF {l : List R} {c : Nat} : ∀ (f : Nat) (st : St), Inv l c st → Inv l c (innerF l c f st)
  | 0, _, h => h
  | f + 1, st, h => by
    unfold innerF
    split
    · rename_i hc
      split
      · exact h
      · rename_i o ho
        exact inv_innerF f _ (inv_step h hc.1 hc.2 ho)
    · exact h
theorem inv_outer {l : List R} : ∀ (k c : Nat) (st : St), Inv l c st → Inv l (c + k) (outer l k c st)
  | 0, _, _, h => h
  | k + 1, c, st, h => by
    have := inv_outer k (c + 1) _ (inv_next (inv_innerF (lf st.1 c) st h))
    rw [show c + (k + 1) = c + 1 + k by omega]
    exact this
theorem inv_pairs (l : List R) : Inv l l.length (outer l l.length 0 (l.map (fun r => held r.n), [])) := by
  have h0 : Inv l 0 (l.map (fun r => held r.n), []) := by
    refine ⟨by simp, by simp, by simp, fun i hi => ?_, List.Pairwise.nil⟩
    simp only [used, List.map_nil, List.sum_nil, Nat.zero_add]
    rw [lf_at (by simpa using hi), List.getElem_map, get_at hi]
    exact Nat.le_refl _
  have := inv_outer l.length 0 _ h0
  rwa [Nat.zero_add] at this
theorem lf_lower_le (L : List Nat) (o c s i : Nat) : lf (lower L o c s) i ≤ lf L i := by
  rcases Nat.lt_or_ge i L.length with h | h
  · rw [lf_lower h]
    split
    · omega
    · split
      · omega
      · exact Nat.le_refl _
  · simp [lf, List.getD, List.getElem?_eq_none (show (lower L o c s).length ≤ i by rw [lower_len]; exact h)]
/-- bounds: no more than a hundred left each, no more than a hundred pairs each -/
def Bd (c : Nat) (st : St) : Prop := (∀ i, lf st.1 i ≤ 100) ∧ st.2.length ≤ 100 * c
def Bi (c : Nat) (st : St) : Prop := (∀ i, lf st.1 i ≤ 100) ∧ st.2.length + lf st.1 c ≤ 100 * (c + 1)
theorem bd_in {c : Nat} {st : St} (h : Bd c st) : Bi c st := ⟨h.1, by have := h.1 c; have := h.2; omega⟩
theorem bd_out {c : Nat} {st : St} (h : Bi c st) : Bd (c + 1) st := ⟨h.1, by have := h.2; omega⟩
theorem bi_step {c o : Nat} {st : St} (h : Bi c st) (hl : 0 < lf st.1 c) : Bi c (lower st.1 o c (size st.1 o c), st.2 ++ [(o, c, size st.1 o c)]) := by
  have h1 := lf_lower_c (o := o) (s := size st.1 o c) hl
  have h2 := size_pos st.1 o c
  have h3 := h.2
  refine ⟨fun i => Nat.le_trans (lf_lower_le _ _ _ _ _) (h.1 i), ?_⟩
  simp only [List.length_append, List.length_cons, List.length_nil]
  omega
theorem bi_innerF {l : List R} {c : Nat} : ∀ (f : Nat) (st : St), Bi c st → Bi c (innerF l c f st)
  | 0, _, h => h
  | f + 1, st, h => by
    unfold innerF
    split
    · rename_i hc
      split
      · exact h
      · rename_i o ho
        exact bi_innerF f _ (bi_step h hc.2)
    · exact h
theorem bd_outer {l : List R} : ∀ (k c : Nat) (st : St), Bd c st → Bd (c + k) (outer l k c st)
  | 0, _, _, h => h
  | k + 1, c, st, h => by
    have := bd_outer (l := l) k (c + 1) _ (bd_out (bi_innerF (l := l) (lf st.1 c) st (bd_in h)))
    rw [show c + (k + 1) = c + 1 + k by omega]
    exact this
/-- no more than a hundred pairs a run -/
theorem bd_pairs (l : List R) : (pairs l).length ≤ 100 * l.length := by
  have h0 : Bd 0 (l.map (fun r => held r.n), []) := by
    refine ⟨fun i => ?_, by simp⟩
    rcases Nat.lt_or_ge i l.length with h | h
    · rw [lf_at (by simpa using h), List.getElem_map]; exact held_le _
    · simp [lf, List.getD, List.getElem?_eq_none h]
  have := (bd_outer (l := l) l.length 0 _ h0).2
  rwa [Nat.zero_add] at this
/-- behind the pair: what lies between is nought from one on, up to a place -/
def wiped (L : List Nat) (o c s k : Nat) : List Nat := L.mapIdx fun i x => if i = o ∨ i = c then x - s else if o < i ∧ i < k then 0 else x
theorem wiped_all (L : List Nat) (o c s : Nat) : wiped L o c s c = lower L o c s := rfl
theorem wiped_zero {L : List Nat} {o c s : Nat} (h : o < c) (hc : c < L.length) : wiped L o c s (o + 1) = (L.set o (lf L o - s)).set c (lf L c - s) := by
  apply List.ext_getElem?
  intro i
  simp only [wiped, List.getElem?_mapIdx, List.getElem?_set, List.length_set]
  by_cases h1 : c = i
  · subst h1
    rw [if_pos rfl, if_pos hc, List.getElem?_eq_getElem hc, lf_at hc]
    simp
  · rw [if_neg h1]
    by_cases h2 : o = i
    · subst h2
      rw [if_pos rfl, if_pos (by omega), List.getElem?_eq_getElem (by omega), lf_at (by omega)]
      simp
    · rw [if_neg h2]
      rcases Nat.lt_or_ge i L.length with h3 | h3
      · rw [List.getElem?_eq_getElem h3]
        simp only [Option.map_some, Option.some.injEq]
        rw [if_neg (by omega), if_neg (by omega)]
      · rw [List.getElem?_eq_none h3]; rfl
theorem wiped_step {L : List Nat} {o c s k : Nat} (h : o < k) (hk : k < c) (hc : c < L.length) : wiped L o c s (k + 1) = (wiped L o c s k).set k 0 := by
  apply List.ext_getElem?
  intro i
  simp only [wiped, List.getElem?_mapIdx, List.getElem?_set, List.length_mapIdx]
  by_cases h1 : k = i
  · subst h1
    rw [if_pos rfl, if_pos (by omega), List.getElem?_eq_getElem (by omega)]
    simp only [Option.map_some, Option.some.injEq]
    rw [if_neg (by omega), if_pos (by omega)]
  · rw [if_neg h1]
    rcases Nat.lt_or_ge i L.length with h3 | h3
    · rw [List.getElem?_eq_getElem h3]
      simp only [Option.map_some, Option.some.injEq]
      by_cases h4 : i = o ∨ i = c
      · rw [if_pos h4, if_pos h4]
      · rw [if_neg h4, if_neg h4]
        by_cases h5 : o < i ∧ i < k
        · rw [if_pos h5, if_pos (by omega)]
        · rw [if_neg h5, if_neg (by omega)]
    · rw [List.getElem?_eq_none h3]; rfl
theorem wiped_len (L : List Nat) (o c s k : Nat) : (wiped L o c s k).length = L.length := by simp [wiped]
end Go.Proofs.YtkfhkfagmokjpaaDoor.Em

namespace Go.Proofs.YtkfhkfagmokjpaaDoor
open Go.RowKit

/-- runes as cells -/
def rcells (X : List Nat) : List Value := X.map fun x : Nat => .int .i32 (x : Int)
theorem rcells_one (l : List Nat) : ∀ u ∈ rcells l, u.oneCell' = true := by
  intro u hu; simp only [rcells, List.mem_map] at hu; obtain ⟨_, _, rfl⟩ := hu; rfl
theorem rcells_len (l : List Nat) : (rcells l).length = l.length := by simp [rcells]

/-- what 'next' hands over at a place of a text, and what is left behind it -/
theorem runes_next {l : List UInt8} {pos : Nat} (h : pos < l.length) {D : List Nat} (hD : D ++ Ru.runes (l.drop pos) = Ru.runes l) :
    ∃ x k : Nat, 1 ≤ k ∧ Ru.vr x ∧ Utf8.decode (bs l) pos = (x, k) ∧ (D ++ [x]) ++ Ru.runes (l.drop (pos + k)) = Ru.runes l := by
  have hd := decodeL_drop' l pos
  refine ⟨(Utf8.decode (bs l) pos).1, (Utf8.decode (bs l) pos).2, ?_, ?_, rfl, ?_⟩
  · rw [← hd]; exact Lib.decodeL_width _
  · rw [← hd]; exact Ru.decodeL_vr _
  · rw [← hD, Ru.runes_at h, List.append_assoc]; rfl
where decodeL_drop' (l : List UInt8) (pos : Nat) : Lib.decodeL (l.drop pos) = Utf8.decode (bs l) pos := by
        have := Lib.decodeL_drop (bs l) pos
        simpa [bs] using this

theorem run_next_rune {w : World} {k : Nat} {l : List UInt8} {pos x n : Nat} (hk : w.heap[k]? = some (.stringIter (bs l) pos)) (h : pos < l.length) (hd : Utf8.decode (bs l) pos = (x, n)) (ty : TypeId) :
    (Instr.next (.pointer (some ⟨k, 0, none⟩)) true ty).run Tryd.prog w = .ok (.tuple #[.bool true, .int .i64 pos, .int .i32 (x : Int)]) (w.iterAt k (bs l) (pos + n)) := by
  rw [Lib.run_next_any_at w k (bs l) pos ty hk (by rw [bs_size]; exact h), hd]
theorem run_next_done {w : World} {k : Nat} {l : List UInt8} {pos : Nat} (hk : w.heap[k]? = some (.stringIter (bs l) pos)) (h : ¬ pos < l.length) (ty : TypeId) :
    (Instr.next (.pointer (some ⟨k, 0, none⟩)) true ty).run Tryd.prog w = .ok (.tuple #[.bool false]) w :=
  Lib.run_next_end_at w k (bs l) pos ty hk (by rw [bs_size]; exact h)
theorem runes_done {l : List UInt8} {pos : Nat} (h : ¬ pos < l.length) {D : List Nat} (hD : D ++ Ru.runes (l.drop pos) = Ru.runes l) : D = Ru.runes l := by
  rw [List.drop_eq_nil_of_le (by omega), Ru.runes_nil, List.append_nil] at hD; exact hD
theorem runes_part {l : List UInt8} {pos : Nat} {D : List Nat} (hD : D ++ Ru.runes (l.drop pos) = Ru.runes l) : D.length ≤ l.length := by
  have h1 := congrArg List.length hD
  have h2 := Ru.runes_len l
  rw [List.length_append] at h1; omega
theorem runes_part_vr {l : List UInt8} {pos : Nat} {D : List Nat} (hD : D ++ Ru.runes (l.drop pos) = Ru.runes l) : ∀ x ∈ D, Ru.vr x := by
  intro x hx; refine Ru.runes_vr l x ?_; rw [← hD]; simp [hx]
/-- the iterator of a range that is made last -/
theorem iter_new (w : World) (l : List UInt8) (o : Obj) (ho : o = .stringIter (bs l) 0) : (w.alloc o).heap[w.heap.size]? = some (.stringIter (bs l) 0) := by
  subst ho; exact heap_alloc_new w _

theorem own_iterAt {w : World} {base : Nat} {e : TypeId} {size n : Nat} {v : Value} {xs : List Value} (h : w.ownsRow base e size v n xs) {k : Nat} (hk : k < base) (s : ByteArray) (pos : Nat) : (w.iterAt k s pos).ownsRow base e size v n xs := by
  refine ⟨h.1, ?_⟩
  rcases h.2 with hn | ⟨g, cap, cur, rfl, hbg, hgg, rest⟩
  · exact .inl hn
  · exact .inr ⟨g, cap, cur, rfl, hbg, (Lib.iterAt_other w k g s pos (by omega)).trans hgg, rest⟩
theorem rune_at {l : List UInt8} {pos : Nat} (h : pos < l.length) : ∃ x k : Nat, 1 ≤ k ∧ pos + k ≤ l.length ∧ Utf8.decode (bs l) pos = (x, k) ∧ Ru.runes (l.drop pos) = x :: Ru.runes (l.drop (pos + k)) := by
  have hd := runes_next.decodeL_drop' l pos
  have hne : l.drop pos ≠ [] := by intro h0; have := congrArg List.length h0; rw [List.length_drop] at this; simp at this; omega
  have hle := (Ru.rune_bytes hne).2.1
  rw [hd, List.length_drop] at hle
  exact ⟨(Utf8.decode (bs l) pos).1, (Utf8.decode (bs l) pos).2, by rw [← hd]; exact Lib.decodeL_width _, by omega, rfl, Ru.runes_at h⟩
end Go.Proofs.YtkfhkfagmokjpaaDoor

namespace Go.Proofs.YtkfhkfagmokjpaaDoor.Em
open Go.Lib Ru

/-- the rune ahead of a place; the one at a place -/
def ahead (l : List UInt8) (k : Nat) : Nat := (runes (l.take k)).getLastD 32
def behind (l : List UInt8) (k : Nat) : Nat := if k < l.length then (decodeL (l.drop k)).1 else 32
theorem behind_in {l : List UInt8} {k : Nat} (h : k < l.length) : behind l k = (decodeL (l.drop k)).1 := by unfold behind; rw [if_pos h]
theorem behind_out {l : List UInt8} {k : Nat} (h : ¬ k < l.length) : behind l k = 32 := by unfold behind; rw [if_neg h]
/-- of what is behind it -/
def leanB (b a : Nat) : Bool := !blankB a && (!punctB a || blankB b || punctB b)
def judge (c : UInt8) (n b a : Nat) : R :=
  if c = 95 then ⟨c, n, leanB b a && (!leanB a b || punctB b), leanB a b && (!leanB b a || punctB a)⟩ else ⟨c, n, leanB b a, leanB a b⟩
/-- whether a run begins at a place -/
def starts (l : List UInt8) (at_ : Int) : Bool :=
  decide (0 ≤ at_ ∧ at_.toNat < l.length ∧ (l.getD at_.toNat 0 = 42 ∨ l.getD at_.toNat 0 = 95) ∧ (at_ = 0 ∨ l.getD (at_.toNat - 1) 0 ≠ l.getD at_.toNat 0))
def kind (l : List UInt8) (at_ : Int) : Option (R × Nat) :=
  if starts l at_ = true then
    some (judge (l.getD at_.toNat 0) (Fn.run (l.getD at_.toNat 0) (l.drop at_.toNat)) (ahead l at_.toNat) (behind l (at_.toNat + Fn.run (l.getD at_.toNat 0) (l.drop at_.toNat))), at_.toNat + Fn.run (l.getD at_.toNat 0) (l.drop at_.toNat))
  else none
theorem kind_off {l : List UInt8} {at_ : Int} (h : starts l at_ = false) : kind l at_ = none := by unfold kind; rw [if_neg (by rw [h]; decide)]
theorem getD_at {l : List UInt8} {k : Nat} (h : k < l.length) : l.getD k 0 = l[k] := by simp [List.getD, List.getElem?_eq_getElem h]
theorem starts_yes {l : List UInt8} {k : Nat} (h : k < l.length) (h1 : l[k] = 42 ∨ l[k] = 95) (h2 : k = 0 ∨ ∃ h3 : k - 1 < l.length, l[k - 1] ≠ l[k]) : starts l (k : Int) = true := by
  unfold starts
  refine decide_eq_true ⟨by omega, h, ?_, ?_⟩
  · rw [show ((k : Int)).toNat = k from by omega, getD_at h]; exact h1
  · rw [show ((k : Int)).toNat = k from by omega, getD_at h]
    rcases h2 with h2 | ⟨h3, h2⟩
    · exact .inl (by omega)
    · exact .inr (by rw [getD_at h3]; exact h2)
theorem starts_no {l : List UInt8} {at_ : Int} (h : at_ < 0 ∨ (l.length : Int) ≤ at_ ∨ (∃ h : at_.toNat < l.length, l[at_.toNat] ≠ 42 ∧ l[at_.toNat] ≠ 95) ∨ (0 < at_ ∧ ∃ h : at_.toNat < l.length, l[at_.toNat - 1] = l[at_.toNat])) : starts l at_ = false := by
  unfold starts
  refine decide_eq_false ?_
  rintro ⟨h1, h2, h3, h4⟩
  rw [getD_at h2] at h3 h4
  rcases h with h | h | ⟨_, h, h'⟩ | ⟨h0, _, h⟩
  · omega
  · omega
  · rcases h3 with h3 | h3
    · exact h h3
    · exact h' h3
  · rcases h4 with h4 | h4
    · omega
    · rw [getD_at (by omega)] at h4; exact h4 h
theorem kind_on {l : List UInt8} {k : Nat} (h : k < l.length) (hs : starts l (k : Int) = true) :
    kind l (k : Int) = some (judge l[k] (Fn.run l[k] (l.drop k)) (ahead l k) (behind l (k + Fn.run l[k] (l.drop k))), k + Fn.run l[k] (l.drop k)) := by
  unfold kind
  rw [if_pos hs, show ((k : Int)).toNat = k from by omega, getD_at h]
theorem run_pos {l : List UInt8} {k : Nat} (h : k < l.length) : 1 ≤ Fn.run l[k] (l.drop k) := by rw [Fn.run_at h rfl]; omega
theorem runs_in {l : List UInt8} {k : Nat} (h : k < l.length) (c : UInt8) : k + Fn.run c (l.drop k) ≤ l.length := by
  have := Fn.run_le c (l.drop k)
  rw [List.length_drop] at this; omega
theorem ahead_vr (l : List UInt8) (k : Nat) : vr (ahead l k) := by
  unfold ahead
  rcases List.eq_nil_or_concat (runes (l.take k)) with h | ⟨r, x, h⟩
  · rw [h]; unfold vr; simp
  · have := runes_vr (l.take k) x (by rw [h]; simp)
    rw [h, List.concat_eq_append, List.getLastD_concat]; exact this
end Go.Proofs.YtkfhkfagmokjpaaDoor.Em

namespace Go.Proofs.YtkfhkfagmokjpaaDoor.Es
open Go.Lib Ru

/-- a sign of ASCII -/
def asc (b : UInt8) : Bool := asciiB (b.toNat : Int)
theorem asc_iff (b : UInt8) : asc b = true ↔ (33 ≤ b.toNat ∧ b.toNat ≤ 47) ∨ (58 ≤ b.toNat ∧ b.toNat ≤ 64) ∨ (91 ≤ b.toNat ∧ b.toNat ≤ 96) ∨ (123 ≤ b.toNat ∧ b.toNat ≤ 126) := by
  unfold asc asciiB; rw [decide_eq_true_iff]; omega
theorem asc_lt {b : UInt8} (h : asc b = true) : b.toNat < 128 := by rw [asc_iff] at h; omega
theorem asc_high {b : UInt8} (h : 128 ≤ b.toNat) : asc b = false := by
  cases he : asc b with
  | false => rfl
  | true => have := asc_lt he; omega

/-- whether a sign behind a backslash stands ahead -/
def isEsc : List UInt8 → Bool
  | a :: b :: _ => a == 92 && asc b
  | _ => false
/-- what stands ahead: its rune, how long it is, whether it means itself -/
def step (l : List UInt8) : Nat × Nat × Bool :=
  if isEsc l = true then ((l.getD 1 0).toNat, 2, true) else ((decodeL l).1, (decodeL l).2, false)
theorem step_yes {l : List UInt8} (h : isEsc l = true) : step l = ((l.getD 1 0).toNat, 2, true) := by unfold step; rw [if_pos h]
theorem step_no {l : List UInt8} (h : isEsc l = false) : step l = ((decodeL l).1, (decodeL l).2, false) := by unfold step; rw [if_neg (by rw [h]; decide)]
theorem isEsc_len {l : List UInt8} (h : isEsc l = true) : 2 ≤ l.length := by
  match l, h with
  | [], h => simp [isEsc] at h
  | [_], h => simp [isEsc] at h
  | _ :: _ :: _, _ => simp
theorem isEsc_asc {l : List UInt8} (h : isEsc l = true) : asc (l.getD 1 0) = true := by
  match l, h with
  | [], h => simp [isEsc] at h
  | [_], h => simp [isEsc] at h
  | a :: b :: r, h => simp only [isEsc, Bool.and_eq_true] at h; exact h.2
theorem step_pos (l : List UInt8) : 1 ≤ (step l).2.1 := by
  cases h : isEsc l with
  | true => rw [step_yes h]; simp
  | false => rw [step_no h]; exact decodeL_width l
theorem step_le {l : List UInt8} (hl : l ≠ []) : (step l).2.1 ≤ l.length := by
  cases h : isEsc l with
  | true => rw [step_yes h]; exact isEsc_len h
  | false => rw [step_no h]; exact decodeL_le l hl
theorem step_vr (l : List UInt8) : vr (step l).1 := by
  cases h : isEsc l with
  | true => rw [step_yes h]; have := asc_lt (isEsc_asc h); unfold vr; simp only; omega
  | false => rw [step_no h]; exact decodeL_vr l
theorem step_two (l : List UInt8) (h : (step l).2.2 = true) : (step l).2.1 = 2 := by
  cases he : isEsc l with
  | true => rw [step_yes he]
  | false => rw [step_no he] at h; simp at h

/-- the runes, signs that mean themselves among them, by at most so many steps -/
def plainF : Nat → List UInt8 → List Nat
  | 0, _ => []
  | f + 1, l => if l = [] then [] else (step l).1 :: plainF f (l.drop (step l).2.1)
def plain (l : List UInt8) : List Nat := plainF l.length l
theorem plainF_fuel : ∀ (f g : Nat) (l : List UInt8), l.length ≤ f → l.length ≤ g → plainF f l = plainF g l
  | 0, 0, _, _, _ => rfl
  | 0, g + 1, l, h, _ => by
    have : l = [] := List.eq_nil_of_length_eq_zero (by omega)
    simp [plainF, this]
  | f + 1, 0, l, _, h => by
    have : l = [] := List.eq_nil_of_length_eq_zero (by omega)
    simp [plainF, this]
  | f + 1, g + 1, l, hf, hg => by
    unfold plainF
    by_cases h : l = []
    · simp [h]
    · have hl : 0 < l.length := List.length_pos_iff.2 h
      have hw := step_pos l
      simp only [h, if_false]
      rw [plainF_fuel f g _ (by rw [List.length_drop]; omega) (by rw [List.length_drop]; omega)]
theorem plain_nil : plain [] = [] := rfl
theorem plain_step {l : List UInt8} (h : l ≠ []) : plain l = (step l).1 :: plain (l.drop (step l).2.1) := by
  have hl : 0 < l.length := List.length_pos_iff.2 h
  have hw := step_pos l
  obtain ⟨n, hn⟩ : ∃ n, l.length = n + 1 := ⟨l.length - 1, by omega⟩
  unfold plain
  rw [hn]
  conv => lhs; unfold plainF
  simp only [h, if_false]
  rw [plainF_fuel n _ _ (by rw [List.length_drop]; omega) (Nat.le_refl _)]
theorem step_ind {P : List UInt8 → Prop} (h0 : P []) (h1 : ∀ l, l ≠ [] → P (l.drop (step l).2.1) → P l) : ∀ l, P l := by
  have : ∀ (n : Nat) (l : List UInt8), l.length ≤ n → P l := by
    intro n
    induction n with
    | zero => intro l hl; have : l = [] := List.eq_nil_of_length_eq_zero (by omega); rw [this]; exact h0
    | succ n ih =>
      intro l hl
      by_cases h : l = []
      · rw [h]; exact h0
      · have hp : 0 < l.length := List.length_pos_iff.2 h
        have hw := step_pos l
        exact h1 l h (ih _ (by rw [List.length_drop]; omega))
  exact fun l => this _ l (Nat.le_refl _)
theorem plain_vr : ∀ l, ∀ x ∈ plain l, vr x := by
  refine step_ind (by simp [plain_nil]) ?_
  intro l h ih x hx
  rw [plain_step h, List.mem_cons] at hx
  rcases hx with rfl | hx
  · exact step_vr l
  · exact ih x hx
theorem plain_len : ∀ l, (plain l).length ≤ l.length := by
  refine step_ind (by simp [plain_nil]) ?_
  intro l h ih
  have hp : 0 < l.length := List.length_pos_iff.2 h
  have hw := step_pos l
  rw [plain_step h, List.length_cons]
  rw [List.length_drop] at ih
  omega

/-- the rune at a place of a text, where the next one is, whether it means itself -/
def next (l : List UInt8) (at_ : Nat) : Nat × Nat × Bool :=
  if at_ < l.length then ((step (l.drop at_)).1, at_ + (step (l.drop at_)).2.1, (step (l.drop at_)).2.2) else (0, l.length, false)
theorem next_in {l : List UInt8} {k : Nat} (h : k < l.length) : next l k = ((step (l.drop k)).1, k + (step (l.drop k)).2.1, (step (l.drop k)).2.2) := by unfold next; rw [if_pos h]
theorem next_out {l : List UInt8} {k : Nat} (h : l.length ≤ k) : next l k = (0, l.length, false) := by unfold next; rw [if_neg (by omega)]
theorem drop_ne {l : List UInt8} {k : Nat} (h : k < l.length) : l.drop k ≠ [] := by
  intro h0; have := congrArg List.length h0; rw [List.length_drop] at this; simp at this; omega
theorem next_more {l : List UInt8} {k : Nat} (h : k < l.length) : k < (next l k).2.1 ∧ (next l k).2.1 ≤ l.length := by
  rw [next_in h]
  have h1 := step_pos (l.drop k)
  have h2 := step_le (drop_ne h)
  rw [List.length_drop] at h2
  simp only
  omega
theorem next_two {l : List UInt8} {k : Nat} (h : (next l k).2.2 = true) : (next l k).2.1 = k + 2 := by
  by_cases hk : k < l.length
  · rw [next_in hk] at h ⊢
    have := step_two _ h
    simp only
    omega
  · rw [next_out (by omega)] at h; simp at h
theorem next_vr (l : List UInt8) (k : Nat) : vr (next l k).1 := by
  by_cases hk : k < l.length
  · rw [next_in hk]; exact step_vr _
  · rw [next_out (by omega)]; unfold vr; simp
/-- from a place on -/
theorem plain_at {l : List UInt8} {k : Nat} (h : k < l.length) : plain (l.drop k) = (next l k).1 :: plain (l.drop (next l k).2.1) := by
  rw [plain_step (drop_ne h), next_in h, List.drop_drop]

/-- with a backslash ahead of each sign -/
def quote1 (b : UInt8) : List UInt8 := if asc b = true then [92, b] else [b]
def quote (l : List UInt8) : List UInt8 := l.flatMap quote1
theorem quote_nil : quote [] = [] := rfl
theorem quote_cons (b : UInt8) (l : List UInt8) : quote (b :: l) = quote1 b ++ quote l := rfl
theorem quote_append (a b : List UInt8) : quote (a ++ b) = quote a ++ quote b := by simp [quote]
theorem quote_len (l : List UInt8) : l.length ≤ (quote l).length ∧ (quote l).length ≤ 2 * l.length := by
  induction l with
  | nil => simp [quote_nil]
  | cons b l ih =>
    rw [quote_cons, List.length_append, List.length_cons]
    unfold quote1
    split
    · simp; omega
    · simp; omega
theorem quote_take {l : List UInt8} {k : Nat} (h : k < l.length) : quote (l.take (k + 1)) = quote (l.take k) ++ quote1 l[k] := by
  rw [List.take_succ_eq_append_getElem h, quote_append, quote_cons, quote_nil, List.append_nil]

/-- fit for a page -/
def page1 (b : UInt8) : List UInt8 :=
  if b = 38 then [38, 97, 109, 112, 59] else if b = 60 then [38, 108, 116, 59] else if b = 62 then [38, 103, 116, 59] else if b = 34 then [38, 113, 117, 111, 116, 59] else [b]
def page (l : List UInt8) : List UInt8 := l.flatMap page1
theorem page_nil : page [] = [] := rfl
theorem page_cons (b : UInt8) (l : List UInt8) : page (b :: l) = page1 b ++ page l := rfl
theorem page_append (a b : List UInt8) : page (a ++ b) = page a ++ page b := by simp [page]
theorem page1_len (b : UInt8) : 1 ≤ (page1 b).length ∧ (page1 b).length ≤ 6 := by
  unfold page1
  repeat' split
  all_goals simp
theorem page_len (l : List UInt8) : l.length ≤ (page l).length ∧ (page l).length ≤ 6 * l.length := by
  induction l with
  | nil => simp [page_nil]
  | cons b l ih =>
    have := page1_len b
    rw [page_cons, List.length_append, List.length_cons]; omega
theorem page_take {l : List UInt8} {k : Nat} (h : k < l.length) : page (l.take (k + 1)) = page (l.take k) ++ page1 l[k] := by
  rw [List.take_succ_eq_append_getElem h, page_append, page_cons, page_nil, List.append_nil]
theorem page1_not (c : UInt8) : ∀ b ∈ page1 c, b ≠ 60 ∧ b ≠ 62 ∧ b ≠ 34 := by
  unfold page1
  intro b hb
  repeat' split at hb
  all_goals (simp only [List.mem_cons, List.not_mem_nil, or_false] at hb)
  · rcases hb with rfl | rfl | rfl | rfl | rfl <;> decide
  · rcases hb with rfl | rfl | rfl | rfl <;> decide
  · rcases hb with rfl | rfl | rfl | rfl <;> decide
  · rcases hb with rfl | rfl | rfl | rfl | rfl | rfl <;> decide
  · subst hb; exact ⟨by assumption, by assumption, by assumption⟩
theorem page_not (l : List UInt8) : ∀ b ∈ page l, b ≠ 60 ∧ b ≠ 62 ∧ b ≠ 34 := by
  intro b hb
  obtain ⟨c, _, hc⟩ := List.mem_flatMap.1 hb
  exact page1_not c b hc

/-! ### what is quoted is plain as it was -/
/-- a rune's bytes judge alike, where what is behind them is none of its own in either -/
theorem decodeN_like (n m b0 b1 b2 b3 c1 c2 c3 : Nat) (e1 : (1 < n ∧ b1 / 64 = 2) ↔ (1 < m ∧ c1 / 64 = 2)) (f1 : (1 < n ∧ b1 / 64 = 2) → b1 = c1)
    (e2 : (1 < n ∧ b1 / 64 = 2) → ((2 < n ∧ b2 / 64 = 2) ↔ (2 < m ∧ c2 / 64 = 2))) (f2 : (1 < n ∧ b1 / 64 = 2) → (2 < n ∧ b2 / 64 = 2) → b2 = c2)
    (e3 : (1 < n ∧ b1 / 64 = 2) → (2 < n ∧ b2 / 64 = 2) → ((3 < n ∧ b3 / 64 = 2) ↔ (3 < m ∧ c3 / 64 = 2))) (f3 : (1 < n ∧ b1 / 64 = 2) → (2 < n ∧ b2 / 64 = 2) → (3 < n ∧ b3 / 64 = 2) → b3 = c3) :
    decodeN n b0 b1 b2 b3 = decodeN m b0 c1 c2 c3 := by
  unfold decodeN
  by_cases p1 : 1 < n ∧ b1 / 64 = 2
  · have q1 := e1.1 p1
    have := f1 p1; subst this
    by_cases p2 : 2 < n ∧ b2 / 64 = 2
    · have q2 := (e2 p1).1 p2
      have := f2 p1 p2; subst this
      by_cases p3 : 3 < n ∧ b3 / 64 = 2
      · have q3 := (e3 p1 p2).1 p3
        have := f3 p1 p2 p3; subst this
        simp only [p1, p2, p3, q1, q2, q3]
      · have q3 : ¬ (3 < m ∧ c3 / 64 = 2) := fun h => p3 ((e3 p1 p2).2 h)
        simp only [p1, p2, p3, q1, q2, q3, and_false, if_false]
    · have q2 : ¬ (2 < m ∧ c2 / 64 = 2) := fun h => p2 ((e2 p1).2 h)
      simp only [p1, p2, q1, q2, and_false, false_and, if_false]
  · have q1 : ¬ (1 < m ∧ c1 / 64 = 2) := fun h => p1 (e1.2 h)
    simp only [p1, q1, and_false, false_and, if_false]

/-- what no rune goes on with: nothing, or a byte below 128 -/
def Stop (t : List UInt8) : Prop := ∀ b r, t = b :: r → b.toNat < 128
theorem stop_nil : Stop [] := fun _ _ h => by cases h
theorem stop_cons {b : UInt8} {r : List UInt8} (h : b.toNat < 128) : Stop (b :: r) := fun c s e => by injection e with e1 _; subst e1; exact h

theorem cont_iff (a t : List UInt8) (j : Nat) (hs : Stop t) (hj : j ≤ a.length) : (j < (a ++ t).length ∧ ((a ++ t).getD j 0).toNat / 64 = 2) ↔ (j < a.length ∧ (a.getD j 0).toNat / 64 = 2) := by
  rcases Nat.lt_or_eq_of_le hj with h | h
  · have e : (a ++ t).getD j 0 = a.getD j 0 := by simp [List.getD, List.getElem?_append_left h]
    rw [e, List.length_append]
    constructor
    · rintro ⟨_, h2⟩; exact ⟨h, h2⟩
    · rintro ⟨_, h2⟩; exact ⟨by omega, h2⟩
  · subst h
    constructor
    · rintro ⟨h1, h2⟩
      match t, hs, h1, h2 with
      | [], _, h1, _ => simp at h1
      | b :: r, hs, _, h2 =>
        have := hs b r rfl
        simp [List.getD] at h2
        omega
    · rintro ⟨h1, _⟩; omega
theorem decodeL_stop (a t : List UInt8) (ha : a ≠ []) (hs : Stop t) : decodeL (a ++ t) = decodeL a := by
  have hp : 0 < a.length := List.length_pos_iff.2 ha
  rw [decodeL_N, decodeL_N]
  have e0 : (a ++ t).getD 0 0 = a.getD 0 0 := by simp [List.getD, List.getElem?_append_left hp]
  have ej : ∀ j, j < a.length → (a ++ t).getD j 0 = a.getD j 0 := fun j h => by simp [List.getD, List.getElem?_append_left h]
  rw [e0]
  have k1 := cont_iff a t 1 hs (by omega)
  refine decodeN_like _ _ _ _ _ _ _ _ _ k1 (fun h => by rw [ej 1 (k1.1 h).1]) (fun h => cont_iff a t 2 hs (by have := (k1.1 h).1; omega)) (fun h h2 => ?_) (fun h h2 => ?_) (fun h h2 h3 => ?_)
  · rw [ej 2 ((cont_iff a t 2 hs (by have := (k1.1 h).1; omega)).1 h2).1]
  · exact cont_iff a t 3 hs (by have := ((cont_iff a t 2 hs (by have := (k1.1 h).1; omega)).1 h2).1; omega)
  · rw [ej 3 ((cont_iff a t 3 hs (by have := ((cont_iff a t 2 hs (by have := (k1.1 h).1; omega)).1 h2).1; omega)).1 h3).1]

theorem isEsc_high {b : UInt8} {r : List UInt8} (h : b ≠ 92) : isEsc (b :: r) = false := by
  match r with
  | [] => rfl
  | c :: r => simp [isEsc, h]
theorem plain_app_high : ∀ a : List UInt8, (∀ b ∈ a, 128 ≤ b.toNat) → ∀ t, Stop t → plain (a ++ t) = runes a ++ plain t := by
  refine bytes_ind (P := fun a => (∀ b ∈ a, 128 ≤ b.toNat) → ∀ t, Stop t → plain (a ++ t) = runes a ++ plain t) (fun _ t _ => by simp [runes_nil]) ?_
  intro a ha ih hh t hs
  have hp : 0 < a.length := List.length_pos_iff.2 ha
  have hne : a ++ t ≠ [] := by simp [ha]
  have he : isEsc (a ++ t) = false := by
    match a, ha, hh with
    | b :: r, _, hh =>
      refine isEsc_high ?_
      have := hh b (by simp)
      intro e; subst e; revert this; decide
  rw [plain_step hne, step_no he, decodeL_stop a t ha hs, runes_step ha]
  have hle := decodeL_le a ha
  simp only [List.cons_append]
  rw [List.drop_append_of_le_length hle, ih (fun b hb => hh b (List.mem_of_mem_drop hb)) t hs]
theorem runes_app_high : ∀ a : List UInt8, ∀ t, Stop t → runes (a ++ t) = runes a ++ runes t := by
  refine bytes_ind (P := fun a => ∀ t, Stop t → runes (a ++ t) = runes a ++ runes t) (fun t _ => by simp [runes_nil]) ?_
  intro a ha ih t hs
  have hne : a ++ t ≠ [] := by simp [ha]
  rw [runes_step hne, decodeL_stop a t ha hs, runes_step ha]
  have hle := decodeL_le a ha
  simp only [List.cons_append]
  rw [List.drop_append_of_le_length hle, ih t hs]

/-- bytes from 128 on ahead, and what no rune goes on with behind -/
theorem parts : ∀ l : List UInt8, ∃ a t, l = a ++ t ∧ (∀ b ∈ a, 128 ≤ b.toNat) ∧ Stop t
  | [] => ⟨[], [], rfl, by simp, stop_nil⟩
  | b :: l => by
    by_cases h : b.toNat < 128
    · exact ⟨[], b :: l, rfl, by simp, stop_cons h⟩
    · obtain ⟨a, t, e, ha, ht⟩ := parts l
      exact ⟨b :: a, t, by rw [e]; rfl, fun c hc => by
        rcases List.mem_cons.1 hc with rfl | hc
        · omega
        · exact ha c hc, ht⟩
theorem quote_high {a : List UInt8} (h : ∀ b ∈ a, 128 ≤ b.toNat) : quote a = a := by
  induction a with
  | nil => rfl
  | cons b a ih =>
    rw [quote_cons, ih fun c hc => h c (by simp [hc])]
    unfold quote1
    rw [asc_high (h b (by simp))]
    rfl
theorem stop_quote {t : List UInt8} (h : Stop t) : Stop (quote t) := by
  match t, h with
  | [], _ => exact stop_nil
  | b :: r, h =>
    rw [quote_cons]
    unfold quote1
    split
    · exact stop_cons (by decide)
    · exact stop_cons (h b r rfl)
theorem decodeL_low {b : UInt8} {r : List UInt8} (h : b.toNat < 128) : decodeL (b :: r) = (b.toNat, 1) := by
  rw [decodeL_N]; simp only [List.getD_cons_zero]; exact decodeN_ascii _ _ _ _ _ h

theorem plain_quote : ∀ l : List UInt8, plain (quote l) = runes l := by
  have : ∀ (n : Nat) (l : List UInt8), l.length ≤ n → plain (quote l) = runes l := by
    intro n
    induction n with
    | zero => intro l hl; have : l = [] := List.eq_nil_of_length_eq_zero (by omega); subst this; rfl
    | succ n ih =>
      intro l hl
      obtain ⟨a, t, rfl, ha, ht⟩ := parts l
      rw [quote_append, quote_high ha, plain_app_high a ha _ (stop_quote ht), runes_app_high a t ht]
      congr 1
      match t, ht with
      | [], _ => rfl
      | b :: r, ht =>
        have hb := ht b r rfl
        have hr : r.length ≤ n := by simp at hl; omega
        rw [runes_step (by simp), decodeL_low hb, quote_cons]
        unfold quote1
        cases hc : asc b with
        | true =>
          have he : isEsc ([92, b] ++ quote r) = true := by simp [isEsc, hc]
          simp only [if_true]
          rw [plain_step (by simp), step_yes he]
          simp [ih r hr]
        | false =>
          have h92 : b ≠ 92 := by intro e; subst e; revert hc; decide
          have he : isEsc ([b] ++ quote r) = false := isEsc_high h92
          simp only [Bool.false_eq_true, if_false]
          rw [plain_step (by simp), step_no he]
          simp only [List.cons_append, List.nil_append, decodeL_low hb, List.drop_succ_cons, List.drop_zero]
          rw [ih r hr]
  exact fun l => this _ l (Nat.le_refl _)
end Go.Proofs.YtkfhkfagmokjpaaDoor.Es

namespace Go.Proofs.YtkfhkfagmokjpaaDoor.Lk
open Go.Lib Ru

/-! ### an address between < and > -/
def small (b : UInt8) : Bool := decide (97 ≤ b.toNat ∧ b.toNat ≤ 122)
theorem small_iff (b : UInt8) : small b = true ↔ 97 ≤ b.toNat ∧ b.toNat ≤ 122 := by unfold small; rw [decide_eq_true_iff]
theorem small_no {b : UInt8} (h : small b = false) : b.toNat < 97 ∨ (97 ≤ b.toNat ∧ 122 < b.toNat) := by
  unfold small at h; have := of_decide_eq_false h; omega
/-- how many small letters stand ahead -/
def letters : List UInt8 → Nat
  | [] => 0
  | b :: r => if small b = true then letters r + 1 else 0
theorem letters_le : ∀ l, letters l ≤ l.length
  | [] => Nat.le_refl _
  | b :: r => by unfold letters; have := letters_le r; split <;> simp <;> omega
theorem letters_at {l : List UInt8} {i : Nat} (h : i < l.length) (hs : small l[i] = true) : letters (l.drop i) = letters (l.drop (i + 1)) + 1 := by
  rw [List.drop_eq_getElem_cons h]; conv => lhs; unfold letters
  rw [if_pos hs]
theorem letters_no {l : List UInt8} {i : Nat} (h : i < l.length) (hs : small l[i] = false) : letters (l.drop i) = 0 := by
  rw [List.drop_eq_getElem_cons h]; unfold letters; rw [if_neg (by rw [hs]; decide)]
theorem letters_end {l : List UInt8} {i : Nat} (h : ¬ i < l.length) : letters (l.drop i) = 0 := by rw [List.drop_eq_nil_of_le (by omega)]; rfl

/-- where the sign > is that ends it, by at most so many steps -/
def endF : Nat → List UInt8 → Nat → Option Nat
  | 0, _, _ => none
  | f + 1, l, i =>
    if i < l.length then
      (if (decodeL (l.drop i)).1 = 62 then some i
       else if (decodeL (l.drop i)).1 = 60 ∨ blankB ((decodeL (l.drop i)).1 : Int) = true then none
       else endF f l (i + (decodeL (l.drop i)).2))
    else none
def ends (l : List UInt8) (i : Nat) : Option Nat := endF (l.length + 1 - i) l i
theorem endF_fuel : ∀ (f g : Nat) (l : List UInt8) (i : Nat), l.length < f + i → l.length < g + i → endF f l i = endF g l i
  | 0, 0, _, _, _, _ => rfl
  | 0, g + 1, l, i, h, _ => by unfold endF; rw [if_neg (by omega)]
  | f + 1, 0, l, i, _, h => by unfold endF; rw [if_neg (by omega)]
  | f + 1, g + 1, l, i, hf, hg => by
    have hw := decodeL_width (l.drop i)
    unfold endF
    rw [endF_fuel f g l _ (by omega) (by omega)]
theorem ends_out {l : List UInt8} {i : Nat} (h : l.length ≤ i) : ends l i = none := by
  unfold ends
  cases hf : l.length + 1 - i with
  | zero => rfl
  | succ f => unfold endF; rw [if_neg (by omega)]
theorem ends_step {l : List UInt8} {i : Nat} (h : i < l.length) :
    ends l i = if (decodeL (l.drop i)).1 = 62 then some i else if (decodeL (l.drop i)).1 = 60 ∨ blankB ((decodeL (l.drop i)).1 : Int) = true then none else ends l (i + (decodeL (l.drop i)).2) := by
  have hw := decodeL_width (l.drop i)
  unfold ends
  obtain ⟨f, hf⟩ : ∃ f, l.length + 1 - i = f + 1 := ⟨l.length - i, by omega⟩
  rw [hf]
  conv => lhs; unfold endF
  rw [if_pos h, endF_fuel f (l.length + 1 - (i + (decodeL (l.drop i)).2)) l _ (by omega) (by omega)]
theorem ends_spec {l : List UInt8} : ∀ (f i j : Nat), endF f l i = some j → i ≤ j ∧ j < l.length
  | 0, _, _, h => by simp [endF] at h
  | f + 1, i, j, h => by
    unfold endF at h
    split at h
    · split at h
      · injection h with h; subst h; exact ⟨Nat.le_refl _, by assumption⟩
      · split at h
        · cases h
        · have := ends_spec f _ j h; omega
    · cases h
/-- whether an address may begin at a place, by its scheme -/
def starts (l : List UInt8) (k : Nat) : Bool :=
  decide (k < l.length ∧ l.getD k 0 = 60 ∧ 2 ≤ letters (l.drop (k + 1)) ∧ letters (l.drop (k + 1)) ≤ 12 ∧ l.getD (k + 1 + letters (l.drop (k + 1))) 0 = 58)
def auto (l : List UInt8) (at_ : Int) : Option (List UInt8 × Nat) :=
  if 0 ≤ at_ ∧ starts l at_.toNat = true then (ends l (at_.toNat + 1 + letters (l.drop (at_.toNat + 1)))).map fun j => (mid l (at_.toNat + 1) j, j + 1) else none
theorem auto_neg {l : List UInt8} {at_ : Int} (h : at_ < 0) : auto l at_ = none := by unfold auto; rw [if_neg (by omega)]
theorem auto_off {l : List UInt8} {k : Nat} (h : starts l k = false) : auto l (k : Int) = none := by
  unfold auto; rw [if_neg (fun hc => by have := hc.2; rw [Int.toNat_natCast, h] at this; cases this)]
theorem auto_on {l : List UInt8} {k n : Nat} (h : starts l k = true) (hn : n = letters (l.drop (k + 1))) : auto l (k : Int) = (ends l (k + 1 + n)).map fun j => (mid l (k + 1) j, j + 1) := by
  subst hn; unfold auto; rw [if_pos ⟨by omega, by rw [Int.toNat_natCast]; exact h⟩, Int.toNat_natCast]
theorem starts_no {l : List UInt8} {k : Nat} (h : l.length ≤ k ∨ l.getD k 0 ≠ 60 ∨ letters (l.drop (k + 1)) < 2 ∨ 12 < letters (l.drop (k + 1)) ∨ l.getD (k + 1 + letters (l.drop (k + 1))) 0 ≠ 58) : starts l k = false := by
  unfold starts; refine decide_eq_false ?_
  rintro ⟨h1, h2, h3, h4, h5⟩
  rcases h with h | h | h | h | h
  · omega
  · exact h h2
  · omega
  · omega
  · exact h h5
theorem auto_spec {l : List UInt8} {k : Nat} {t : List UInt8} {e : Nat} (h : auto l (k : Int) = some (t, e)) : k < e ∧ e ≤ l.length ∧ l.getD k 0 = 60 := by
  cases hs : starts l k with
  | false => rw [auto_off hs] at h; cases h
  | true =>
    rw [auto_on hs rfl] at h
    obtain ⟨j, hj, he⟩ := Option.map_eq_some_iff.1 h
    injection he with _ he
    have := ends_spec _ _ _ hj
    unfold starts at hs
    exact ⟨by omega, by omega, (of_decide_eq_true hs).2.1⟩

/-! ### where a bracket closes -/
/-- where the next piece begins: behind code, an address, a sign -/
def hop (l : List UInt8) (i : Nat) : Nat :=
  if l.getD i 0 = 96 then (match Cd.span l (i : Int) with | some x => x.2 | none => i + Fn.run 96 (l.drop i))
  else match auto l (i : Int) with | some x => x.2 | none => (Es.next l i).2.1
/-- the sign that stands at a place and means something (0: none) -/
def sign (l : List UInt8) (i : Nat) : Nat :=
  if l.getD i 0 = 96 then 0
  else match auto l (i : Int) with | some _ => 0 | none => if (Es.next l i).2.2 = true then 0 else (Es.next l i).1
theorem hop_span {l : List UInt8} {i : Nat} {t : List UInt8} {e : Nat} (h : l.getD i 0 = 96) (hs : Cd.span l (i : Int) = some (t, e)) : hop l i = e ∧ sign l i = 0 := by
  unfold hop sign; rw [if_pos h, if_pos h, hs]; exact ⟨rfl, rfl⟩
theorem hop_run {l : List UInt8} {i : Nat} (h : l.getD i 0 = 96) (hs : Cd.span l (i : Int) = none) : hop l i = i + Fn.run 96 (l.drop i) ∧ sign l i = 0 := by
  unfold hop sign; rw [if_pos h, if_pos h, hs]; exact ⟨rfl, rfl⟩
theorem hop_auto {l : List UInt8} {i : Nat} {t : List UInt8} {e : Nat} (h : l.getD i 0 ≠ 96) (hs : auto l (i : Int) = some (t, e)) : hop l i = e ∧ sign l i = 0 := by
  unfold hop sign; rw [if_neg h, if_neg h, hs]; exact ⟨rfl, rfl⟩
theorem hop_next {l : List UInt8} {i : Nat} (h : l.getD i 0 ≠ 96) (hs : auto l (i : Int) = none) : hop l i = (Es.next l i).2.1 ∧ sign l i = if (Es.next l i).2.2 = true then 0 else (Es.next l i).1 := by
  unfold hop sign; rw [if_neg h, if_neg h, hs]; exact ⟨rfl, rfl⟩
theorem hop_more {l : List UInt8} {i : Nat} (h : i < l.length) : i < hop l i ∧ hop l i ≤ l.length := by
  by_cases h1 : l.getD i 0 = 96
  · have hr : 1 ≤ Fn.run 96 (l.drop i) := by
      rw [Fn.run_at h (by simpa [List.getD, List.getElem?_eq_getElem h] using h1)]; omega
    cases hs : Cd.span l (i : Int) with
    | none =>
      rw [(hop_run h1 hs).1]
      have := Fn.run_le 96 (l.drop i)
      rw [List.length_drop] at this
      omega
    | some x =>
      obtain ⟨t, e⟩ := x
      rw [(hop_span h1 hs).1]
      have := Cd.span_spec hs
      omega
  · cases hs : auto l (i : Int) with
    | some x =>
      obtain ⟨t, e⟩ := x
      rw [(hop_auto h1 hs).1]
      have := auto_spec hs
      omega
    | none => rw [(hop_next h1 hs).1]; exact Es.next_more h
def closeF : Nat → List UInt8 → Nat → Nat → Option Nat
  | 0, _, _, _ => none
  | f + 1, l, i, d =>
    if i < l.length then
      (if sign l i = 93 then (if d = 0 then some i else closeF f l (hop l i) (d - 1))
       else closeF f l (hop l i) (if sign l i = 91 then d + 1 else d))
    else none
def closes (l : List UInt8) (i d : Nat) : Option Nat := closeF (l.length + 1 - i) l i d
theorem closeF_fuel : ∀ (f g : Nat) (l : List UInt8) (i d : Nat), l.length < f + i → l.length < g + i → closeF f l i d = closeF g l i d
  | 0, 0, _, _, _, _, _ => rfl
  | 0, g + 1, l, i, d, h, _ => by unfold closeF; rw [if_neg (by omega)]
  | f + 1, 0, l, i, d, _, h => by unfold closeF; rw [if_neg (by omega)]
  | f + 1, g + 1, l, i, d, hf, hg => by
    unfold closeF
    by_cases hi : i < l.length
    · have hh := hop_more hi
      rw [if_pos hi, if_pos hi, closeF_fuel f g l _ (d - 1) (by omega) (by omega), closeF_fuel f g l _ (if sign l i = 91 then d + 1 else d) (by omega) (by omega)]
    · rw [if_neg hi, if_neg hi]
theorem closes_out {l : List UInt8} {i d : Nat} (h : l.length ≤ i) : closes l i d = none := by
  unfold closes
  cases hf : l.length + 1 - i with
  | zero => rfl
  | succ f => unfold closeF; rw [if_neg (by omega)]
theorem closes_step {l : List UInt8} {i d : Nat} (h : i < l.length) :
    closes l i d = if sign l i = 93 then (if d = 0 then some i else closes l (hop l i) (d - 1)) else closes l (hop l i) (if sign l i = 91 then d + 1 else d) := by
  have hh := hop_more h
  unfold closes
  obtain ⟨f, hf⟩ : ∃ f, l.length + 1 - i = f + 1 := ⟨l.length - i, by omega⟩
  rw [hf]
  conv => lhs; unfold closeF
  rw [if_pos h, closeF_fuel f (l.length + 1 - hop l i) l _ (d - 1) (by omega) (by omega), closeF_fuel f (l.length + 1 - hop l i) l _ (if sign l i = 91 then d + 1 else d) (by omega) (by omega)]
theorem closes_end {l : List UInt8} {i : Nat} (h : i < l.length) (h1 : sign l i = 93) : closes l i 0 = some i := by rw [closes_step h, if_pos h1, if_pos rfl]
theorem closes_down {l : List UInt8} {i d : Nat} (h : i < l.length) (h1 : sign l i = 93) : closes l i (d + 1) = closes l (hop l i) d := by rw [closes_step h, if_pos h1, if_neg (by omega)]; rfl
theorem closes_up {l : List UInt8} {i d : Nat} (h : i < l.length) (h1 : sign l i = 91) : closes l i d = closes l (hop l i) (d + 1) := by rw [closes_step h, if_neg (by omega), if_pos h1]
theorem closes_on {l : List UInt8} {i d : Nat} (h : i < l.length) (h1 : sign l i ≠ 93) (h2 : sign l i ≠ 91) : closes l i d = closes l (hop l i) d := by rw [closes_step h, if_neg h1, if_neg h2]
def close (l : List UInt8) (at_ : Int) : Option Nat := if 0 ≤ at_ ∧ at_.toNat < l.length ∧ l.getD at_.toNat 0 = 91 then closes l (at_.toNat + 1) 0 else none
theorem close_neg {l : List UInt8} {at_ : Int} (h : at_ < 0) : close l at_ = none := by unfold close; rw [if_neg (by omega)]
theorem close_off {l : List UInt8} {k : Nat} (h : l.length ≤ k ∨ l.getD k 0 ≠ 91) : close l (k : Int) = none := by
  unfold close; rw [Int.toNat_natCast, if_neg]
  rintro ⟨_, h1, h2⟩
  rcases h with h | h
  · omega
  · exact h h2
theorem close_on {l : List UInt8} {k : Nat} (h : k < l.length) (h1 : l.getD k 0 = 91) : close l (k : Int) = closes l (k + 1) 0 := by
  unfold close; rw [Int.toNat_natCast, if_pos ⟨by omega, h, h1⟩]

/-! ### where it leads -/
def destF : Nat → List UInt8 → Nat → Option Nat
  | 0, _, _ => none
  | f + 1, l, i =>
    if i < l.length then
      (if (Es.next l i).2.2 = false ∧ (Es.next l i).1 = 41 then some i
       else if (Es.next l i).2.2 = false ∧ ((Es.next l i).1 = 40 ∨ blankB ((Es.next l i).1 : Int) = true) then none
       else destF f l (Es.next l i).2.1)
    else none
def dends (l : List UInt8) (i : Nat) : Option Nat := destF (l.length + 1 - i) l i
theorem destF_fuel : ∀ (f g : Nat) (l : List UInt8) (i : Nat), l.length < f + i → l.length < g + i → destF f l i = destF g l i
  | 0, 0, _, _, _, _ => rfl
  | 0, g + 1, l, i, h, _ => by unfold destF; rw [if_neg (by omega)]
  | f + 1, 0, l, i, _, h => by unfold destF; rw [if_neg (by omega)]
  | f + 1, g + 1, l, i, hf, hg => by
    unfold destF
    by_cases hi : i < l.length
    · have hh := Es.next_more hi
      rw [if_pos hi, if_pos hi, destF_fuel f g l _ (by omega) (by omega)]
    · rw [if_neg hi, if_neg hi]
theorem dends_out {l : List UInt8} {i : Nat} (h : l.length ≤ i) : dends l i = none := by
  unfold dends
  cases hf : l.length + 1 - i with
  | zero => rfl
  | succ f => unfold destF; rw [if_neg (by omega)]
theorem dends_step {l : List UInt8} {i : Nat} (h : i < l.length) :
    dends l i = if (Es.next l i).2.2 = false ∧ (Es.next l i).1 = 41 then some i else if (Es.next l i).2.2 = false ∧ ((Es.next l i).1 = 40 ∨ blankB ((Es.next l i).1 : Int) = true) then none else dends l (Es.next l i).2.1 := by
  have hh := Es.next_more h
  unfold dends
  obtain ⟨f, hf⟩ : ∃ f, l.length + 1 - i = f + 1 := ⟨l.length - i, by omega⟩
  rw [hf]
  conv => lhs; unfold destF
  rw [if_pos h, destF_fuel f (l.length + 1 - (Es.next l i).2.1) l _ (by omega) (by omega)]
theorem dends_spec {l : List UInt8} : ∀ (f i j : Nat), destF f l i = some j → i ≤ j ∧ j < l.length
  | 0, _, _, h => by simp [destF] at h
  | f + 1, i, j, h => by
    unfold destF at h
    split at h
    · rename_i hi
      split at h
      · injection h with h; subst h; exact ⟨Nat.le_refl _, by assumption⟩
      · split at h
        · cases h
        · have := dends_spec f _ j h; have := Es.next_more hi; omega
    · cases h
def dest (l : List UInt8) (at_ : Int) : Option (List UInt8 × Nat) :=
  if 0 ≤ at_ ∧ at_.toNat < l.length ∧ l.getD at_.toNat 0 = 40 then (dends l (at_.toNat + 1)).map fun j => (Ru.enc (Es.plain (mid l (at_.toNat + 1) j)), j + 1) else none
theorem dest_neg {l : List UInt8} {at_ : Int} (h : at_ < 0) : dest l at_ = none := by unfold dest; rw [if_neg (by omega)]
theorem dest_off {l : List UInt8} {k : Nat} (h : l.length ≤ k ∨ l.getD k 0 ≠ 40) : dest l (k : Int) = none := by
  unfold dest; rw [Int.toNat_natCast, if_neg]
  rintro ⟨_, h1, h2⟩
  rcases h with h | h
  · omega
  · exact h h2
theorem dest_on {l : List UInt8} {k : Nat} (h : k < l.length) (h1 : l.getD k 0 = 40) : dest l (k : Int) = (dends l (k + 1)).map fun j => (Ru.enc (Es.plain (mid l (k + 1) j)), j + 1) := by
  unfold dest; rw [Int.toNat_natCast, if_pos ⟨by omega, h, h1⟩]

/-! ### whether one may go there -/
def low (b : UInt8) : UInt8 := if 65 ≤ b.toNat ∧ b.toNat ≤ 90 then b + 32 else b
/-- the small letters of what stands there, great ones made small -/
def word (l : List UInt8) : List UInt8 := (l.map low).filter small
theorem word_snoc (l : List UInt8) (b : UInt8) : word (l ++ [b]) = word l ++ if small (low b) = true then [low b] else [] := by
  unfold word; rw [List.map_append, List.filter_append]
  cases h : small (low b) <;> simp [h]
theorem word_len (l : List UInt8) : (word l).length ≤ l.length := by
  unfold word; have := List.length_filter_le small (l.map low); rwa [List.length_map] at this
def js : List UInt8 := [106, 97, 118, 97, 115, 99, 114, 105, 112, 116]
def data : List UInt8 := [100, 97, 116, 97]
/-- whether a sign : is there, and what stands ahead of the first one -/
def head (l : List UInt8) : Option (List UInt8) := if l.contains 58 = true then some (l.takeWhile (· != 58)) else none
def safe (l : List UInt8) : Bool := l.getD 0 0 != 35 && (match head l with | none => true | some h => word h != js && word h != data)
end Go.Proofs.YtkfhkfagmokjpaaDoor.Lk

namespace Go.Proofs.YtkfhkfagmokjpaaDoor.Il

/-- an inline -/
inductive In where
  | mk (kind : Nat) (text dest : List UInt8) (kids : List In)
/-- an inline, or a run (its place among the runs), of which so many signs are left -/
structure Pt where
  inn : In
  run : Option Nat
  left : Nat
  ch : UInt8
def none_ : In := .mk 0 [] [] []
def word (s : List UInt8) : In := .mk 0 s [] []
/-- one plain more -/
def pput (l : List Pt) (s : List UInt8) : List Pt :=
  match l.getLast? with
  | some ⟨.mk 0 t d k, none, n, c⟩ => l.dropLast ++ [⟨.mk 0 (t ++ s) d k, none, n, c⟩]
  | _ => l ++ [⟨word s, none, 0, 0⟩]
/-- a part as an inline: a run's signs are text -/
def eff (p : Pt) : In :=
  match p.run with
  | some _ => (match p.inn with | .mk k _ d ks => .mk k (List.replicate p.left p.ch) d ks)
  | none => p.inn
/-- one inline more: plains side by side are one, empty ones are none -/
def iput (out : List In) (x : In) : List In :=
  match x with
  | .mk 0 t d ks =>
    if t = [] then out
    else (match out.getLast? with
      | some (.mk 0 t' d' ks') => out.dropLast ++ [.mk 0 (t' ++ t) d' ks']
      | _ => out ++ [.mk 0 t d ks])
  | x => out ++ [x]
def settle (l : List Pt) : List In := l.foldl (fun out p => iput out (eff p)) []
mutual
/-- what an inline says -/
def txt : In → List UInt8
  | .mk k t _ ks => (if k = 5 then [32] else []) ++ t ++ txts ks
def txts : List In → List UInt8
  | [] => []
  | x :: r => txt x ++ txts r
end
theorem txts_append : ∀ a b, txts (a ++ b) = txts a ++ txts b
  | [], b => by simp [txts]
  | x :: r, b => by rw [List.cons_append]; simp only [txts]; rw [txts_append r b, List.append_assoc]
theorem txts_snoc (a : List In) (x : In) : txts (a ++ [x]) = txts a ++ txt x := by rw [txts_append]; simp [txts]
theorem txts_take {l : List In} {k : Nat} (h : k < l.length) : txts (l.take (k + 1)) = txts (l.take k) ++ txt l[k] := by rw [List.take_succ_eq_append_getElem h, txts_snoc]
theorem txts_part (l : List In) (k : Nat) : (txts (l.take k)).length ≤ (txts l).length := by
  conv => rhs; rw [← List.take_append_drop k l, txts_append, List.length_append]
  omega
theorem txts_kid {l : List In} {k : Nat} (h : k < l.length) : (txt l[k]).length + (txts (l.take k)).length ≤ (txts l).length := by
  have := txts_part l (k + 1)
  rw [txts_take h, List.length_append] at this
  omega
/-- none with too many of its own -/
inductive Few : In → Prop where
  | mk {k : Nat} {t d : List UInt8} {ks : List In} : k ≤ 1000 → ks.length ≤ 1000000000 → (∀ x ∈ ks, Few x) → Few (.mk k t d ks)
theorem kid_size {kd : Nat} {t d : List UInt8} {ks : List In} {k : Nat} (hk : k < ks.length) : SizeOf.sizeOf ks[k] < SizeOf.sizeOf (In.mk kd t d ks) := by
  have := List.sizeOf_lt_of_mem (List.getElem_mem hk)
  simp only [In.mk.sizeOf_spec]
  omega
end Go.Proofs.YtkfhkfagmokjpaaDoor.Il

namespace Go.Proofs.YtkfhkfagmokjpaaDoor.Em

/-- neither of a pair's runs lies within another pair -/
def outside (y x : Nat × Nat × Nat) : Prop := ¬ (y.1 < x.1 ∧ x.1 < y.2.1) ∧ ¬ (y.1 < x.2.1 ∧ x.2.1 < y.2.1)
theorem outside_step {l : List R} {c o : Nat} {st : St} (h : Inv l c st) (hp : st.2.Pairwise outside) (hl : 0 < lf st.1 c) (ho : opener l st.1 c c = some o) : (st.2 ++ [(o, c, size st.1 o c)]).Pairwise outside := by
  have hok := (opener_spec _ ho).2
  unfold ok at hok
  simp only [Bool.and_eq_true, decide_eq_true_eq] at hok
  have hlo := hok.1.2
  rw [List.pairwise_append]
  refine ⟨hp, List.pairwise_singleton _ _, fun y hy x hx => ?_⟩
  obtain rfl : x = (o, c, size st.1 o c) := by simpa using hx
  refine ⟨fun hc => ?_, fun hc => ?_⟩
  · have := h.zero y hy o hc.1 hc.2; omega
  · have := h.zero y hy c hc.1 hc.2; omega
theorem outside_innerF {l : List R} {c : Nat} : ∀ (f : Nat) (st : St), Inv l c st → st.2.Pairwise outside → (innerF l c f st).2.Pairwise outside
  | 0, _, _, hp => hp
  | f + 1, st, h, hp => by
    unfold innerF
    split
    · rename_i hc
      split
      · exact hp
      · rename_i o ho
        exact outside_innerF f _ (inv_step h hc.1 hc.2 ho) (outside_step h hp hc.2 ho)
    · exact hp
theorem outside_outer {l : List R} : ∀ (k c : Nat) (st : St), Inv l c st → st.2.Pairwise outside → (outer l k c st).2.Pairwise outside
  | 0, _, _, _, hp => hp
  | k + 1, c, st, h, hp => outside_outer k (c + 1) _ (inv_next (inv_innerF (lf st.1 c) st h)) (outside_innerF (lf st.1 c) st h hp)
theorem outside_pairs (l : List R) : (pairs l).Pairwise outside := by
  refine outside_outer l.length 0 _ ⟨by simp, by simp, by simp, fun i hi => ?_, List.Pairwise.nil⟩ List.Pairwise.nil
  simp only [used, List.map_nil, List.sum_nil, Nat.zero_add]
  rw [lf_at (by simpa using hi), List.getElem_map, get_at hi]
  exact Nat.le_refl _
end Go.Proofs.YtkfhkfagmokjpaaDoor.Em

namespace Go.Proofs.YtkfhkfagmokjpaaDoor.Ru
open Go.Lib

/-- 0 is read as U+FFFD -/
def zr (x : Nat) : Nat := if x = 0 then 65533 else x
def textR (l : List UInt8) : List Nat := (runes l).map zr
def text (l : List UInt8) : List UInt8 := enc (textR l)
theorem zr_zr (x : Nat) : zr (zr x) = zr x := by unfold zr; split <;> simp_all
theorem zr_vr {x : Nat} (h : vr x) : vr (zr x) := by unfold zr vr at *; split <;> omega
theorem zr_ne (x : Nat) : zr x ≠ 0 := by unfold zr; split <;> omega
theorem zr_id {x : Nat} (h : x ≠ 0) : zr x = x := by unfold zr; rw [if_neg h]
theorem map_zr_vr {X : List Nat} (h : ∀ x ∈ X, vr x) : ∀ x ∈ X.map zr, vr x := by
  intro x hx; obtain ⟨y, hy, rfl⟩ := List.mem_map.1 hx; exact zr_vr (h y hy)
theorem textR_vr (l : List UInt8) : ∀ x ∈ textR l, vr x := map_zr_vr (runes_vr l)
theorem map_zr_id {X : List Nat} (h : ∀ x ∈ X, x ≠ 0) : X.map zr = X := by
  induction X with
  | nil => rfl
  | cons x X ih => rw [List.map_cons, zr_id (h x (by simp)), ih fun y hy => h y (by simp [hy])]
theorem textR_ne (l : List UInt8) : ∀ x ∈ textR l, x ≠ 0 := by
  intro x hx; obtain ⟨y, _, rfl⟩ := List.mem_map.1 hx; exact zr_ne y
/-- valid texts without nought stay as they are -/
theorem text_enc {X : List Nat} (h : ∀ x ∈ X, vr x) (h0 : ∀ x ∈ X, x ≠ 0) : text (enc X) = enc X := by
  unfold text textR; rw [runes_enc h, map_zr_id h0]
theorem text_text (l : List UInt8) : text (text l) = text l := text_enc (textR_vr l) (textR_ne l)
theorem runes_text (l : List UInt8) : runes (text l) = textR l := runes_enc (textR_vr l)
theorem textR_len (l : List UInt8) : (textR l).length = (runes l).length := by simp [textR]
theorem text_len (l : List UInt8) : (text l).length ≤ 4 * l.length := by
  have h1 := (enc_len (textR l)).2
  have h2 := runes_len l
  rw [textR_len] at h1
  unfold text; omega
theorem enc_ne {X : List Nat} (h : ∀ x ∈ X, vr x) (h0 : ∀ x ∈ X, x ≠ 0) : ∀ b ∈ enc X, b ≠ 0 := by
  intro b hb hb0
  obtain ⟨x, hx, hbx⟩ := List.mem_flatMap.1 hb
  have hv := h x hx
  have hn := h0 x hx
  obtain ⟨z, hz, he⟩ := List.mem_map.1 hbx
  have hby := encodeRuneZ_byte (x : Int) z hz
  have hz0 : z.toNat.toUInt8.toNat = z.toNat := ofNat_toNat' z hby.1 hby.2
  have : z.toNat = 0 := by rw [← hz0, he, hb0]; rfl
  have hzz : z = 0 := by omega
  subst hzz
  unfold encodeRuneZ at hz
  unfold vr at hv
  split at hz
  · simp at hz; omega
  · split at hz
    · simp at hz; omega
    · split at hz
      · simp at hz; omega
      · split at hz
        · simp at hz; omega
        · simp at hz

/-- small letters -/
def sml (x : Nat) : Nat := if 65 ≤ x ∧ x ≤ 90 then x + 32 else x
def bl (x : Nat) : Bool := blankB (x : Int)
theorem bl_iff (x : Nat) : bl x = true ↔ (9 ≤ x ∧ x ≤ 13) ∨ x = 32 ∨ x = 160 ∨ x = 8195 ∨ x = 12288 := by
  unfold bl blankB; rw [decide_eq_true_iff]; omega
theorem bl_false (x : Nat) : bl x = false ↔ ¬ ((9 ≤ x ∧ x ≤ 13) ∨ x = 32 ∨ x = 160 ∨ x = 8195 ∨ x = 12288) := by
  rw [← bl_iff]; simp
theorem sml_small (x : Nat) : smallR (x : Int) = (sml x : Int) := by unfold smallR sml; split <;> split <;> omega
theorem sml_vr {x : Nat} (h : vr x) : vr (sml x) := by unfold sml vr at *; split <;> omega

/-- one step: whether a blank was before, and what is out -/
def fstep (st : Bool × List Nat) (x : Nat) : Bool × List Nat :=
  if bl x = true then (true, st.2) else (false, (if st.1 = true ∧ st.2 ≠ [] then st.2 ++ [32] else st.2) ++ [sml x])
def foldS (X : List Nat) : Bool × List Nat := X.foldl fstep (false, [])
def fold (X : List Nat) : List Nat := (foldS X).2
theorem foldS_snoc (X : List Nat) (x : Nat) : foldS (X ++ [x]) = fstep (foldS X) x := by simp [foldS]
theorem foldS_nil : foldS [] = (false, []) := rfl

/-- from the end -/
theorem snoc_ind {P : List Nat → Prop} (h0 : P []) (h1 : ∀ X x, P X → P (X ++ [x])) : ∀ X, P X := by
  intro X
  have : ∀ Y : List Nat, P Y.reverse := by
    intro Y
    induction Y with
    | nil => exact h0
    | cons y Y ih => rw [List.reverse_cons]; exact h1 _ _ ih
  have := this X.reverse
  rwa [List.reverse_reverse] at this

theorem fold_vr {X : List Nat} (h : ∀ x ∈ X, vr x) : ∀ y ∈ fold X, vr y := by
  revert h
  refine snoc_ind (P := fun X => (∀ x ∈ X, vr x) → ∀ y ∈ fold X, vr y) (by simp [fold, foldS]) ?_ X
  intro X x ih h y hy
  have ih' := ih fun z hz => h z (by simp [hz])
  have hx := h x (by simp)
  unfold fold at hy ih'
  rw [foldS_snoc] at hy
  unfold fstep at hy
  split at hy
  · exact ih' y hy
  · simp only [List.mem_append, List.mem_singleton] at hy
    rcases hy with hy | rfl
    · split at hy
      · simp only [List.mem_append, List.mem_singleton] at hy
        rcases hy with hy | rfl
        · exact ih' y hy
        · unfold vr; omega
      · exact ih' y hy
    · exact sml_vr hx

/-- what may stand behind a rune in a folded text -/
def okn (last x : Nat) : Bool := !((bl x && (x != 32 || last == 32)) || (decide (65 ≤ x) && decide (x ≤ 90)))
def chk : Nat → List Nat → Bool
  | _, [] => true
  | d, x :: r => okn d x && chk x r
def lastD : Nat → List Nat → Nat
  | d, [] => d
  | _, x :: r => lastD x r
theorem chk_snoc : ∀ (X : List Nat) (d x : Nat), chk d (X ++ [x]) = (chk d X && okn (lastD d X) x)
  | [], d, x => by simp [chk, lastD]
  | y :: X, d, x => by simp only [List.cons_append, chk, lastD, chk_snoc X y x, Bool.and_assoc]
theorem lastD_snoc : ∀ (X : List Nat) (d x : Nat), lastD d (X ++ [x]) = x
  | [], _, _ => rfl
  | y :: X, _, x => by simp only [List.cons_append, lastD, lastD_snoc X y x]
theorem chk_app : ∀ (X Y : List Nat) (d : Nat), chk d (X ++ Y) = (chk d X && chk (lastD d X) Y)
  | [], Y, d => by simp [chk, lastD]
  | y :: X, Y, d => by simp only [List.cons_append, chk, lastD, chk_app X Y y, Bool.and_assoc]

theorem okn_sml {d x : Nat} (h : bl x = false) : okn d (sml x) = true := by
  have h1 : bl (sml x) = false := by rw [bl_false] at h ⊢; unfold sml; split <;> omega
  unfold okn
  rw [h1]
  simp only [Bool.false_and, Bool.false_or, Bool.not_eq_true', Bool.and_eq_false_iff, decide_eq_false_iff_not]
  unfold sml
  split <;> omega
theorem okn_32 {d : Nat} (h : d ≠ 32) : okn d 32 = true := by
  unfold okn
  have : (d == 32) = false := by simpa using h
  rw [this]
  simp
theorem sml_ne {x : Nat} (h : bl x = false) : sml x ≠ 32 := by rw [bl_false] at h; unfold sml; split <;> omega

theorem foldS_inv (X : List Nat) : chk 32 (foldS X).2 = true ∧ ((foldS X).2 ≠ [] → lastD 32 (foldS X).2 ≠ 32) ∧
    (foldS X).2.length ≤ X.length ∧ ((foldS X).1 = true → (foldS X).2.length + 1 ≤ X.length) := by
  refine snoc_ind (P := fun X => chk 32 (foldS X).2 = true ∧ ((foldS X).2 ≠ [] → lastD 32 (foldS X).2 ≠ 32) ∧ (foldS X).2.length ≤ X.length ∧ ((foldS X).1 = true → (foldS X).2.length + 1 ≤ X.length)) (by simp [foldS, chk]) ?_ X
  intro X x ⟨i1, i2, i3, i4⟩
  rw [foldS_snoc]
  unfold fstep
  cases hb : bl x with
  | true =>
    simp only [if_true, List.length_append, List.length_cons, List.length_nil]
    exact ⟨i1, i2, by omega, fun _ => by omega⟩
  | false =>
    simp only [Bool.false_eq_true, if_false]
    refine ⟨?_, fun _ => by rw [lastD_snoc]; exact sml_ne hb, ?_, fun h => by cases h⟩
    · rw [chk_snoc, okn_sml hb, Bool.and_true]
      split
      · rename_i hc
        rw [chk_snoc, i1, okn_32 (i2 hc.2)]; rfl
      · exact i1
    · simp only [List.length_append, List.length_cons, List.length_nil]
      split
      · rename_i hc
        have := i4 hc.1
        simp only [List.length_append, List.length_cons, List.length_nil]; omega
      · omega

theorem fold_chk (X : List Nat) : chk 32 (fold X) = true := (foldS_inv X).1
theorem fold_last (X : List Nat) (h : fold X ≠ []) : lastD 32 (fold X) ≠ 32 := (foldS_inv X).2.1 h
theorem fold_len (X : List Nat) : (fold X).length ≤ X.length := (foldS_inv X).2.2.1

theorem foldS_fix (X : List Nat) : chk 32 X = true → (X = [] ∨ lastD 32 X ≠ 32 → foldS X = (false, X)) ∧ (∀ Q, X = Q ++ [32] → foldS X = (true, Q) ∧ Q ≠ []) := by
  refine snoc_ind (P := fun X => chk 32 X = true → (X = [] ∨ lastD 32 X ≠ 32 → foldS X = (false, X)) ∧ (∀ Q, X = Q ++ [32] → foldS X = (true, Q) ∧ Q ≠ [])) ?_ ?_ X
  · intro _
    exact ⟨fun _ => rfl, fun Q h => by simp at h⟩
  · intro X x ih hc
    rw [chk_snoc, Bool.and_eq_true] at hc
    obtain ⟨h1, h2⟩ := hc
    obtain ⟨ia, ib⟩ := ih h1
    have hup : ¬ (65 ≤ x ∧ x ≤ 90) := by
      unfold okn at h2; simp at h2; omega
    rw [foldS_snoc, lastD_snoc]
    cases hb : bl x with
    | true =>
      unfold okn at h2
      rw [hb] at h2
      simp at h2
      obtain ⟨⟨hx, hl⟩, _⟩ := h2
      subst hx
      have hX : X ≠ [] := by intro h0; rw [h0] at hl; exact hl rfl
      have hs := ia (.inr hl)
      refine ⟨fun h => ?_, fun Q hQ => ?_⟩
      · rcases h with h | h
        · simp at h
        · exact absurd rfl h
      · obtain rfl : X = Q := by
          have := List.append_inj' hQ rfl
          exact this.1
        rw [hs]; unfold fstep; rw [hb]; exact ⟨rfl, hX⟩
    | false =>
      have hx : x ≠ 32 := by intro h0; rw [h0] at hb; exact absurd hb (by decide)
      have hsm : sml x = x := by unfold sml; rw [if_neg hup]
      refine ⟨fun _ => ?_, fun Q hQ => ?_⟩
      · by_cases hl : X = [] ∨ lastD 32 X ≠ 32
        · rw [ia hl]; unfold fstep; rw [hb, hsm]; simp
        · have hne : X ≠ [] := fun h => hl (.inl h)
          have h32 : lastD 32 X = 32 := by
            rcases Nat.decEq (lastD 32 X) 32 with h | h
            · exact absurd (.inr h) hl
            · exact h
          obtain ⟨Q, hQ⟩ : ∃ Q, X = Q ++ [32] := by
            refine ⟨X.dropLast, ?_⟩
            have e := List.dropLast_concat_getLast hne
            have : X.getLast hne = 32 := by
              rw [← e, lastD_snoc] at h32; exact h32
            rw [this] at e; exact e.symm
          obtain ⟨hs, hQn⟩ := ib Q hQ
          rw [hs]; unfold fstep; rw [hb, hsm]
          simp [hQn, hQ]
      · have := List.append_inj' hQ rfl
        simp at this
        exact absurd this.2 hx

theorem fold_fix {X : List Nat} (h : chk 32 X = true) (hl : X = [] ∨ lastD 32 X ≠ 32) : fold X = X := by
  unfold fold; rw [((foldS_fix X) h).1 hl]
theorem fold_fold (X : List Nat) : fold (fold X) = fold X :=
  fold_fix (fold_chk X) (by
    by_cases h : fold X = []
    · exact .inl h
    · exact .inr (fold_last X h))
end Go.Proofs.YtkfhkfagmokjpaaDoor.Ru

namespace Go.Proofs.YtkfhkfagmokjpaaDoor
open Go.RowKit

theorem runesBytes_enc (X : List Nat) : runesBytes (X.map fun x : Nat => (x : Int)) = bs (Ru.enc X) := by
  have : ∀ (X : List Nat) (s : List UInt8), (X.map fun x : Nat => (x : Int)).foldl (fun r n => r ++ Utf8.encode n) (bs s) = bs (s ++ Ru.enc X) := by
    intro X
    induction X with
    | nil => intro s; simp [Ru.enc_nil]
    | cons x X ih =>
      intro s
      have he : Utf8.encode (x : Int) = bs (Lib.encodeRune (x : Int)) := Ru.encode_eq _
      rw [List.map_cons, List.foldl_cons, he, bs_append, ih, Ru.enc_cons, List.append_assoc]
  exact this X []

/-- runes made a text -/
theorem run_runes {P : Program} {w : World} {B n c : Nat} {A : Option Addr} {X : List Nat} (h : Row w B 1 A n (rcells X)) (src e dst : TypeId) (hs : P.underlying src = some (.slice e)) (he : P.underlying e = some (.int .i32)) (hd : P.underlying dst = some .string) :
    (convert src dst (.slice A n c)).run P w = .ok (.string (bs (Ru.enc X))) w := by
  have hn : X.length = n := by have := h.1; simpa [rcells] using this
  rcases A with _ | ad
  · have h0 : n = 0 := by
      rcases Nat.eq_zero_or_pos n with h0 | h0
      · exact h0
      · obtain ⟨b, o, e, _⟩ := h.2 h0; cases e
    subst h0
    have : X = [] := List.eq_nil_of_length_eq_zero hn
    subst this
    rw [run_convert_runes_nil w src dst e 0 c hs he hd]
    rfl
  · rw [run_convert_runes w src dst e ad n c (X.map fun x : Nat => (x : Int)) (by simp; omega) hs he hd ?_]
    · rw [List.take_of_length_le (by simp; omega), runesBytes_enc]
    · intro j hj
      have hj' : j < X.length := by simpa using hj
      obtain ⟨b, o, ha, _, hc⟩ := h.2 (by omega)
      cases ha
      have := hc j (.int .i32 (X[j] : Int)) (by simp [rcells, List.getElem?_eq_getElem hj'])
      have ea : (⟨b, o, none⟩ : Addr).add j = ⟨b, o + j, none⟩ := by unfold Addr.add; split <;> simp_all
      rw [ea, this]
      simp [List.getD, List.getElem?_eq_getElem hj']
end Go.Proofs.YtkfhkfagmokjpaaDoor

namespace Go.Proofs.YtkfhkfagmokjpaaDoor
open Go.RowKit

/-- what Next answers -/
def nextV (l : List UInt8) (k : Nat) : Value := .tuple #[.int .i32 ((Es.next l k).1 : Int), .int .i64 ((Es.next l k).2.1 : Int), .bool (Es.next l k).2.2]
theorem nextV_out {l : List UInt8} {k : Nat} (h : l.length ≤ k) : nextV l k = .tuple #[.int .i32 0, .int .i64 (l.length : Int), .bool false] := by
  unfold nextV; rw [Es.next_out h]; rfl
theorem nextV_yes {l : List UInt8} {k : Nat} (h : k + 1 < l.length) (h1 : l[k] = 92) (h2 : Es.asc l[k + 1] = true) : nextV l k = .tuple #[.int .i32 (l[k + 1].toNat : Int), .int .i64 ((k : Int) + 2), .bool true] := by
  have hd : l.drop k = l[k] :: l[k + 1] :: l.drop (k + 2) := by rw [List.drop_eq_getElem_cons (by omega), List.drop_eq_getElem_cons (by omega)]
  have he : Es.isEsc (l.drop k) = true := by rw [hd]; simp [Es.isEsc, h1, h2]
  unfold nextV; rw [Es.next_in (by omega), Es.step_yes he, hd]; rfl
theorem nextV_no {l : List UInt8} {k : Nat} (h : k < l.length) (he : Es.isEsc (l.drop k) = false) : nextV l k = .tuple #[.int .i32 ((Lib.decodeL (l.drop k)).1 : Int), .int .i64 ((k : Int) + (Lib.decodeL (l.drop k)).2), .bool false] := by
  unfold nextV; rw [Es.next_in h, Es.step_no he]; simp
theorem isEsc_no {l : List UInt8} {k : Nat} (h : k < l.length) (h1 : l[k] ≠ 92 ∨ l.length ≤ k + 1 ∨ ∃ h : k + 1 < l.length, Es.asc l[k + 1] = false) : Es.isEsc (l.drop k) = false := by
  rw [List.drop_eq_getElem_cons h]
  rcases h1 with h1 | h1 | ⟨h1, h2⟩
  · exact Es.isEsc_high h1
  · rw [List.drop_eq_nil_of_le h1]; rfl
  · rw [List.drop_eq_getElem_cons h1]; simp [Es.isEsc, h2]

end Go.Proofs.YtkfhkfagmokjpaaDoor

namespace Go.Proofs.YtkfhkfagmokjpaaDoor
open Go.RowKit

/-- the rune at a place: a byte below 128 is itself; else it is 128 or more, and so are its bytes -/
theorem first_rune {l : List UInt8} {pos : Nat} (h : pos < l.length) : ∃ x k : Nat, 1 ≤ k ∧ pos + k ≤ l.length ∧ Utf8.decode (bs l) pos = (x, k) ∧ x ≤ 1114111 ∧ Lib.decodeL (l.drop pos) = (x, k) ∧
    ((l[pos].toNat < 128 ∧ x = l[pos].toNat ∧ k = 1) ∨ (128 ≤ l[pos].toNat ∧ 128 ≤ x ∧ ∀ j (hj : j < l.length), pos ≤ j → j < pos + k → 128 ≤ l[j].toNat)) := by
  have hd := runes_next.decodeL_drop' l pos
  have hne : l.drop pos ≠ [] := Es.drop_ne h
  obtain ⟨h4, hle, hct⟩ := Ru.rune_bytes hne
  have hle2 := hle
  rw [List.length_drop] at hle2
  refine ⟨(Lib.decodeL (l.drop pos)).1, (Lib.decodeL (l.drop pos)).2, Lib.decodeL_width _, by omega, by rw [← hd], Lib.decodeL_rune _, rfl, ?_⟩
  have hc : l.drop pos = l[pos] :: l.drop (pos + 1) := List.drop_eq_getElem_cons h
  by_cases hb : l[pos].toNat < 128
  · left
    rw [hc, Es.decodeL_low hb]
    exact ⟨hb, rfl, rfl⟩
  · right
    refine ⟨by omega, ?_, ?_⟩
    · rw [Lib.decodeL_N]
      have e0 : (l.drop pos).getD 0 0 = l[pos] := by rw [hc]; rfl
      rw [e0]
      rcases Lib.decodeN_shape (l.drop pos).length l[pos].toNat ((l.drop pos).getD 1 0).toNat ((l.drop pos).getD 2 0).toNat ((l.drop pos).getD 3 0).toNat with ⟨c, e⟩ | ⟨c1, c2, c3, cv, e⟩ | ⟨c1, c2, c3, c4, cv, cs, e⟩ | ⟨c1, c2, c3, c4, c5, cv, cw, e⟩ | e
      all_goals (rw [e]; simp only; omega)
    · intro j hj h1 h2
      rcases Nat.lt_or_eq_of_le h1 with h1 | h1
      · have := hct (j - pos) (by omega) (by omega)
        have e : (l.drop pos).getD (j - pos) 0 = l[j] := by
          rw [List.getD_eq_getElem?_getD, List.getElem?_drop, show pos + (j - pos) = j by omega, List.getElem?_eq_getElem hj]; rfl
        rw [e] at this
        omega
      · subst h1; omega

/-- q: what stands for a byte; g: what is said of a rune -/
structure Stead (q : UInt8 → List UInt8) (g : Nat → List UInt8) : Prop where
  high : ∀ b : UInt8, 128 ≤ b.toNat → q b = [b]
  still : ∀ x : Nat, 128 ≤ x → g x = []
  low : ∀ b : UInt8, g b.toNat = [] → q b = [b]
  said : ∀ b : UInt8, g b.toNat ≠ [] → q b = g b.toNat
  few : ∀ x : Nat, (g x).length ≤ 6
/-- X is written, what is behind 'at_' up to 'pos' is not yet -/
def StAt (q : UInt8 → List UInt8) (l X : List UInt8) (at_ pos : Nat) : Prop := (l.take pos).flatMap q = X ++ mid l at_ pos
theorem mid_take (l : List UInt8) (i j : Nat) : mid l i j = (l.take j).drop i := by unfold mid; rw [List.drop_take]
theorem stAt_start (q : UInt8 → List UInt8) (l : List UInt8) : StAt q l [] 0 0 := by simp [StAt, mid]
theorem stAt_quiet {q : UInt8 → List UInt8} {l X : List UInt8} {a pos k : Nat} (h : StAt q l X a pos) (ha : a ≤ pos) (hk : pos + k ≤ l.length) (hq : ∀ j (hj : j < l.length), pos ≤ j → j < pos + k → q l[j] = [l[j]]) : StAt q l X a (pos + k) := by
  unfold StAt at h ⊢
  rw [mid_take] at h ⊢
  have e : l.take (pos + k) = l.take pos ++ (l.drop pos).take k := List.take_add
  have hm : ((l.drop pos).take k).flatMap q = (l.drop pos).take k := by
    have : ∀ M : List UInt8, (∀ b ∈ M, q b = [b]) → M.flatMap q = M := by
      intro M
      induction M with
      | nil => intro _; rfl
      | cons b M ih => intro hb; rw [List.flatMap_cons, hb b (by simp), ih fun c hc => hb c (by simp [hc])]; rfl
    refine this _ fun b hb => ?_
    obtain ⟨j, hj, rfl⟩ := List.getElem_of_mem hb
    have hj2 : j < k ∧ pos + j < l.length := by rw [List.length_take, List.length_drop] at hj; omega
    have := hq (pos + j) hj2.2 (by omega) (by omega)
    simpa using this
  rw [e, List.flatMap_append, h, hm, List.append_assoc, List.drop_append_of_le_length (by rw [List.length_take]; omega)]
theorem stAt_said {q : UInt8 → List UInt8} {l X G : List UInt8} {a pos : Nat} (h : StAt q l X a pos) (hp : pos < l.length) (hq : q l[pos] = G) : StAt q l (X ++ mid l a pos ++ G) (pos + 1) (pos + 1) := by
  unfold StAt at h ⊢
  rw [List.take_succ_eq_append_getElem hp, List.flatMap_append, h]
  have : mid l (pos + 1) (pos + 1) = [] := by simp [mid]
  rw [this]
  simp [hq]
theorem stAt_end {q : UInt8 → List UInt8} {l X : List UInt8} {a : Nat} (h : StAt q l X a l.length) : X ++ l.drop a = l.flatMap q := by
  unfold StAt at h
  rw [mid_take, List.take_length] at h
  exact h.symm
theorem stead_len {q : UInt8 → List UInt8} {g : Nat → List UInt8} (h : Stead q g) (b : UInt8) : (q b).length ≤ 6 := by
  by_cases hg : g b.toNat = []
  · rw [h.low b hg]; simp
  · rw [h.said b hg]; exact h.few _
theorem stead_flat {q : UInt8 → List UInt8} {g : Nat → List UInt8} (h : Stead q g) (l : List UInt8) : (l.flatMap q).length ≤ 6 * l.length := by
  induction l with
  | nil => simp
  | cons b l ih => have := stead_len h b; rw [List.flatMap_cons, List.length_append, List.length_cons]; omega
theorem stAt_len {q : UInt8 → List UInt8} {g : Nat → List UInt8} (hS : Stead q g) {l X : List UInt8} {a pos : Nat} (h : StAt q l X a pos) : X.length + (mid l a pos).length ≤ 6 * l.length := by
  have h1 := congrArg List.length h
  have h2 := stead_flat hS (l.take pos)
  rw [List.length_append] at h1
  rw [List.length_take] at h2
  omega

/-- what is said of a sign -/
def sayQ (x : Nat) : List UInt8 := if asciiB (x : Int) = true then [92, UInt8.ofNat x] else []
theorem steadQ : Stead Es.quote1 sayQ where
  high b h := by unfold Es.quote1; rw [Es.asc_high h]; rfl
  still x h := by
    unfold sayQ
    rw [if_neg]
    unfold asciiB
    rw [decide_eq_true_iff]; omega
  low b h := by
    unfold Es.quote1 Es.asc
    unfold sayQ at h
    by_cases hb : asciiB (b.toNat : Int) = true
    · rw [if_pos hb] at h; cases h
    · rw [if_neg hb]
  said b h := by
    unfold Es.quote1 Es.asc
    unfold sayQ at h ⊢
    by_cases hb : asciiB (b.toNat : Int) = true
    · rw [if_pos hb, if_pos hb]; simp
    · rw [if_neg hb] at h; exact absurd rfl h
  few x := by unfold sayQ; split <;> simp
/-- what a page says of a rune -/
def sayP (x : Nat) : List UInt8 := if x = 38 then [38, 97, 109, 112, 59] else if x = 60 then [38, 108, 116, 59] else if x = 62 then [38, 103, 116, 59] else if x = 34 then [38, 113, 117, 111, 116, 59] else []
theorem byte_nat {b : UInt8} {n : Nat} (hn : n < 256) : b = UInt8.ofNat n ↔ b.toNat = n := by
  constructor
  · intro h; subst h; simp; omega
  · intro h; subst h; simp
theorem page1_nat (b : UInt8) : Es.page1 b = if b.toNat = 38 then [38, 97, 109, 112, 59] else if b.toNat = 60 then [38, 108, 116, 59] else if b.toNat = 62 then [38, 103, 116, 59] else if b.toNat = 34 then [38, 113, 117, 111, 116, 59] else [b] := by
  unfold Es.page1
  have h38 : (b = 38) ↔ b.toNat = 38 := byte_nat (n := 38) (by omega)
  have h60 : (b = 60) ↔ b.toNat = 60 := byte_nat (n := 60) (by omega)
  have h62 : (b = 62) ↔ b.toNat = 62 := byte_nat (n := 62) (by omega)
  have h34 : (b = 34) ↔ b.toNat = 34 := byte_nat (n := 34) (by omega)
  simp only [h38, h60, h62, h34]
theorem steadP : Stead Es.page1 sayP where
  high b h := by rw [page1_nat, if_neg (by omega), if_neg (by omega), if_neg (by omega), if_neg (by omega)]
  still x h := by unfold sayP; rw [if_neg (by omega), if_neg (by omega), if_neg (by omega), if_neg (by omega)]
  low b h := by
    unfold sayP at h
    rw [page1_nat]
    repeat' split at h
    all_goals first | (cases h; done) | (rename_i a b c d; rw [if_neg a, if_neg b, if_neg c, if_neg d])
  said b h := by
    unfold sayP at h ⊢
    rw [page1_nat]
    repeat' split at h
    all_goals first | (exact absurd rfl h) | (simp_all)
  few x := by unfold sayP; repeat' split
              all_goals simp
end Go.Proofs.YtkfhkfagmokjpaaDoor

namespace Go.Proofs.YtkfhkfagmokjpaaDoor
open Go.RowKit

theorem auto_no {l : List UInt8} {at_ : Int} (h : at_ < 0 ∨ (0 ≤ at_ ∧ (l.length : Int) ≤ at_) ∨ (0 ≤ at_ ∧ ∃ h : at_.toNat < l.length, l[at_.toNat] ≠ 60)) : Lk.auto l at_ = none := by
  rcases h with h | ⟨h0, h⟩ | ⟨h0, hl, h⟩
  · exact Lk.auto_neg h
  · obtain ⟨k, rfl⟩ : ∃ k : Nat, at_ = (k : Int) := ⟨at_.toNat, by omega⟩
    exact Lk.auto_off (Lk.starts_no (.inl (by omega)))
  · obtain ⟨k, rfl⟩ : ∃ k : Nat, at_ = (k : Int) := ⟨at_.toNat, by omega⟩
    refine Lk.auto_off (Lk.starts_no (.inr (.inl ?_)))
    rw [List.getD_eq_getElem?_getD, List.getElem?_eq_getElem (by simpa using hl)]
    simpa using h

end Go.Proofs.YtkfhkfagmokjpaaDoor

namespace Go.Proofs.YtkfhkfagmokjpaaDoor
open Go.RowKit

/-- a place, or none -/
def placeV : Option Nat → Value
  | none => .tuple #[.int .i64 0, .bool false]
  | some p => .tuple #[.int .i64 (p : Int), .bool true]
theorem close_no {l : List UInt8} {at_ : Int} (h : at_ < 0 ∨ (0 ≤ at_ ∧ (l.length : Int) ≤ at_) ∨ (0 ≤ at_ ∧ ∃ h : at_.toNat < l.length, l[at_.toNat] ≠ 91)) : Lk.close l at_ = none := by
  rcases h with h | ⟨h0, h⟩ | ⟨h0, hl, h⟩
  · exact Lk.close_neg h
  · obtain ⟨k, rfl⟩ : ∃ k : Nat, at_ = (k : Int) := ⟨at_.toNat, by omega⟩
    exact Lk.close_off (.inl (by omega))
  · obtain ⟨k, rfl⟩ : ∃ k : Nat, at_ = (k : Int) := ⟨at_.toNat, by omega⟩
    refine Lk.close_off (.inr ?_)
    rw [List.getD_eq_getElem?_getD, List.getElem?_eq_getElem (by simpa using hl)]
    simpa using h

end Go.Proofs.YtkfhkfagmokjpaaDoor

namespace Go.Proofs.YtkfhkfagmokjpaaDoor
open Go.RowKit

theorem dest_no {l : List UInt8} {at_ : Int} (h : at_ < 0 ∨ (0 ≤ at_ ∧ (l.length : Int) ≤ at_) ∨ (0 ≤ at_ ∧ ∃ h : at_.toNat < l.length, l[at_.toNat] ≠ 40)) : Lk.dest l at_ = none := by
  rcases h with h | ⟨h0, h⟩ | ⟨h0, hl, h⟩
  · exact Lk.dest_neg h
  · obtain ⟨k, rfl⟩ : ∃ k : Nat, at_ = (k : Int) := ⟨at_.toNat, by omega⟩
    exact Lk.dest_off (.inl (by omega))
  · obtain ⟨k, rfl⟩ : ∃ k : Nat, at_ = (k : Int) := ⟨at_.toNat, by omega⟩
    refine Lk.dest_off (.inr ?_)
    rw [List.getD_eq_getElem?_getD, List.getElem?_eq_getElem (by simpa using hl)]
    simpa using h

/-- a byte in a new block, as a text -/
theorem run_onetext {c : UInt8} {v : Int} (hv : v = (c.toNat : Int)) (w : World) :
    (convert 22 9 (.slice (some ⟨w.heap.size, 0, none⟩) 1 1)).run Tryd.prog (w.alloc (.cells #[.int .u8 v] 5)) = .ok (.string (bs [c])) (w.alloc (.cells #[.int .u8 v] 5)) := by
  subst hv
  refine run_text (c := 1) (l := [c]) (B := w.heap.size + 1) ⟨rfl, fun _ => ⟨w.heap.size, 0, rfl, by omega, fun j u hu => ?_⟩⟩ 22 5 9 Tryd.underlying22 Tryd.underlying5 Tryd.underlying9
  have := cells_new w #[.int .u8 (c.toNat : Int)] 5 rfl j u hu
  rwa [show (⟨w.heap.size, 0, none⟩ : Addr).add j = ⟨w.heap.size, 0 + j, none⟩ from by unfold Addr.add; split <;> simp_all] at this

theorem low_up {b : UInt8} (h1 : 65 ≤ b.toNat) (h2 : b.toNat ≤ 90) : (Lk.low b).toNat = b.toNat + 32 ∧ Lk.small (Lk.low b) = true := by
  have h : (Lk.low b).toNat = b.toNat + 32 := by unfold Lk.low; rw [if_pos ⟨h1, h2⟩, UInt8.toNat_add]; simp; omega
  exact ⟨h, (Lk.small_iff _).2 (by omega)⟩
theorem low_id {b : UInt8} (h : b.toNat < 65 ∨ 90 < b.toNat) : Lk.low b = b := by unfold Lk.low; rw [if_neg (by omega)]
theorem low_text_ne {D L : List UInt8} (h : D ≠ L) : ((bs D).toList == L) = false := by rw [bs_toList]; simpa using h
theorem head_none {l : List UInt8} (h : ∀ b ∈ l, b ≠ 58) : Lk.head l = none := by
  unfold Lk.head; rw [if_neg]; simp only [List.contains_iff_mem]; exact fun hc => h 58 hc rfl
theorem head_some {l : List UInt8} {i : Nat} (hi : i < l.length) (h58 : l[i] = 58) (h : ∀ b ∈ l.take i, b ≠ 58) : Lk.head l = some (l.take i) := by
  unfold Lk.head
  rw [if_pos (by simp only [List.contains_iff_mem]; rw [← h58]; exact List.getElem_mem hi)]
  congr 1
  have e : l = l.take i ++ 58 :: l.drop (i + 1) := by rw [← h58, ← List.drop_eq_getElem_cons hi, List.take_append_drop]
  conv => lhs; rw [e]
  rw [List.takeWhile_append_of_pos (fun b hb => by simpa using h b hb)]
  simp

end Go.Proofs.YtkfhkfagmokjpaaDoor
