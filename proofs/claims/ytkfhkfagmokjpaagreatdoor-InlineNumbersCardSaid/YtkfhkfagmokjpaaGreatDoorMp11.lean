/- Runs that stress, as lists, by no program: which fit, which pairs they make; no two pairs cross, none takes more signs than there are. A range over a text: what is handed over at a place, and what is left behind it. How a run of signs is judged, by no program: the rune ahead, the one behind. Signs that mean themselves, as lists, by no program: the rune at a place, what is plain, what is quoted, what is fit for a page; what is quoted is plain as it was. Links, as lists, by no program: an address between < and >, where a bracket closes, where it leads, whether one may go there. Inlines, as trees and lists, by no program: parts of a text, what they settle to, what they say. Pairs of runs, by no program: a later pair has neither of its runs within an earlier one. What is read once and for all, and what is folded: lists of runes, by no program. The document's own runes of a text; runes made a text. The document's own signs that mean themselves: one contract for each function. What stands in the stead of a byte, told over a range of runes, by no program. The document's own links: an address between < and >, where a bracket closes, where it leads, whether one may go there: one contract for each function. The document's own links: where a bracket closes. The document's own links: where one leads, whether one may go there. -/
import Derived.Test.YtkfhkfagmokjpaaGreatDoorMp04
import Derived.Test.YtkfhkfagmokjpaaGreatDoorMp01
import Derived.Laws.Cover4
import Derived.Lib.OthersKept
namespace Go.Proofs.YtkfhkfagmokjpaaGreatDoor.Em

/-- a run: its sign, how many, whether it opens, whether it closes -/
structure R where
  ch : UInt8
  n : Int
  o : Bool
  c : Bool
deriving DecidableEq
def none_ : R := ⟨0, 0, false, false⟩
def get (l : List R) (i : Nat) : R := l.getD i none_
theorem get_at {l : List R} {i : Nat} (h : i < l.length) : get l i = l[i] := by simp [get, List.getD, List.getElem?_eq_getElem h]
def held (n : Int) : Nat := (max (min n 100) 0).toNat
theorem held_le (n : Int) : held n ≤ 100 := by unfold held; omega
def fits (x y : R) : Bool := (held x.n % 3 == 0 && held y.n % 3 == 0) || !((x.o && x.c || y.o && y.c) && (held x.n + held y.n) % 3 == 0)

/-- how many signs each has left -/
def lf (L : List Nat) (i : Nat) : Nat := L.getD i 0
theorem lf_at {L : List Nat} {i : Nat} (h : i < L.length) : lf L i = L[i] := by simp [lf, List.getD, List.getElem?_eq_getElem h]
def ok (l : List R) (L : List Nat) (o c : Nat) : Bool := (get l o).o && (get l o).ch == (get l c).ch && decide (0 < lf L o) && fits (get l o) (get l c)
/-- the nearest one ahead -/
def opener (l : List R) (L : List Nat) (c : Nat) : Nat → Option Nat
  | 0 => none
  | k + 1 => if ok l L k c = true then some k else opener l L c k
theorem opener_yes {l : List R} {L : List Nat} {c k : Nat} (h : ok l L k c = true) : opener l L c (k + 1) = some k := by unfold opener; rw [if_pos h]
theorem opener_no {l : List R} {L : List Nat} {c k : Nat} (h : ok l L k c = false) : opener l L c (k + 1) = opener l L c k := by
  conv => lhs; unfold opener
  rw [if_neg (by rw [h]; decide)]
theorem opener_spec {l : List R} {L : List Nat} {c o : Nat} : ∀ k, opener l L c k = some o → o < k ∧ ok l L o c = true
  | 0, h => by simp [opener] at h
  | k + 1, h => by
    cases hk : ok l L k c with
    | true => rw [opener_yes hk] at h; injection h with h; subst h; exact ⟨by omega, hk⟩
    | false => rw [opener_no hk] at h; have := opener_spec k h; exact ⟨by omega, this.2⟩
/-- what is left behind a pair -/
def lower (L : List Nat) (o c s : Nat) : List Nat := L.mapIdx fun i x => if i = o ∨ i = c then x - s else if o < i ∧ i < c then 0 else x
theorem lower_len (L : List Nat) (o c s : Nat) : (lower L o c s).length = L.length := by simp [lower]
theorem lf_lower {L : List Nat} {o c s i : Nat} (h : i < L.length) : lf (lower L o c s) i = if i = o ∨ i = c then lf L i - s else if o < i ∧ i < c then 0 else lf L i := by
  simp only [lf, List.getD, lower, List.getElem?_mapIdx, List.getElem?_eq_getElem h, Option.map_some, Option.getD_some]
def size (L : List Nat) (o c : Nat) : Nat := if 1 < lf L o ∧ 1 < lf L c then 2 else 1
abbrev St := List Nat × List (Nat × Nat × Nat)

/-- one that closes: all its pairs, by at most so many steps -/
def innerF (l : List R) (c : Nat) : Nat → St → St
  | 0, st => st
  | f + 1, st =>
    if (get l c).c = true ∧ 0 < lf st.1 c then
      match opener l st.1 c c with
      | none => st
      | some o => innerF l c f (lower st.1 o c (size st.1 o c), st.2 ++ [(o, c, size st.1 o c)])
    else st
def inner (l : List R) (c : Nat) (st : St) : St := innerF l c (lf st.1 c) st
theorem size_pos (L : List Nat) (o c : Nat) : 1 ≤ size L o c ∧ size L o c ≤ 2 := by unfold size; split <;> omega
theorem size_le {L : List Nat} {o c : Nat} (ho : 0 < lf L o) (hc : 0 < lf L c) : size L o c ≤ lf L o ∧ size L o c ≤ lf L c := by unfold size; split <;> omega
theorem lf_pos_lt {L : List Nat} {c : Nat} (h : 0 < lf L c) : c < L.length := by
  rcases Nat.lt_or_ge c L.length with h1 | h1
  · exact h1
  · simp [lf, List.getD, List.getElem?_eq_none h1] at h
theorem lf_lower_c {L : List Nat} {o c s : Nat} (h : 0 < lf L c) : lf (lower L o c s) c = lf L c - s := by rw [lf_lower (lf_pos_lt h), if_pos (.inr rfl)]
theorem innerF_fuel (l : List R) (c : Nat) : ∀ (f g : Nat) (st : St), lf st.1 c ≤ f → lf st.1 c ≤ g → innerF l c f st = innerF l c g st
  | 0, 0, _, _, _ => rfl
  | 0, g + 1, st, h, _ => by unfold innerF; rw [if_neg (by omega)]
  | f + 1, 0, st, _, h => by unfold innerF; rw [if_neg (by omega)]
  | f + 1, g + 1, st, hf, hg => by
    unfold innerF
    by_cases h : (get l c).c = true ∧ 0 < lf st.1 c
    · rw [if_pos h, if_pos h]
      cases ho : opener l st.1 c c with
      | none => rfl
      | some o =>
        have h1 := lf_lower_c (o := o) (s := size st.1 o c) h.2
        have h2 := size_pos st.1 o c
        exact innerF_fuel l c f g _ (by simp only; omega) (by simp only; omega)
    · rw [if_neg h, if_neg h]
theorem inner_stop {l : List R} {c : Nat} {st : St} (h : ¬ ((get l c).c = true ∧ 0 < lf st.1 c)) : inner l c st = st := by
  unfold inner
  cases lf st.1 c with
  | zero => rfl
  | succ f => unfold innerF; rw [if_neg h]
theorem inner_none {l : List R} {c : Nat} {st : St} (h : opener l st.1 c c = none) : inner l c st = st := by
  by_cases hc : (get l c).c = true ∧ 0 < lf st.1 c
  · unfold inner
    obtain ⟨f, hf⟩ : ∃ f, lf st.1 c = f + 1 := ⟨lf st.1 c - 1, by omega⟩
    rw [hf]; unfold innerF; rw [if_pos hc, h]
  · exact inner_stop hc
theorem inner_step {l : List R} {c o : Nat} {st : St} (hc : (get l c).c = true) (hl : 0 < lf st.1 c) (h : opener l st.1 c c = some o) :
    inner l c st = inner l c (lower st.1 o c (size st.1 o c), st.2 ++ [(o, c, size st.1 o c)]) := by
  obtain ⟨f, hf⟩ : ∃ f, lf st.1 c = f + 1 := ⟨lf st.1 c - 1, by omega⟩
  unfold inner
  rw [hf]
  conv => lhs; unfold innerF
  rw [if_pos ⟨hc, hl⟩, h]
  have h1 := lf_lower_c (o := o) (s := size st.1 o c) hl
  have h2 := size_pos st.1 o c
  exact innerF_fuel l c f _ _ (by simp only; omega) (Nat.le_refl _)

/-- from one on, so many -/
def outer (l : List R) : Nat → Nat → St → St
  | 0, _, st => st
  | k + 1, c, st => outer l k (c + 1) (inner l c st)
def pairs (l : List R) : List (Nat × Nat × Nat) := (outer l l.length 0 (l.map (fun r => held r.n), [])).2

/-! ### what holds of pairs -/
/-- how many signs of one are taken -/
def used (out : List (Nat × Nat × Nat)) (i : Nat) : Nat := (out.map fun x => (if x.1 = i then x.2.2 else 0) + if x.2.1 = i then x.2.2 else 0).sum
theorem used_snoc (out : List (Nat × Nat × Nat)) (x : Nat × Nat × Nat) (i : Nat) : used (out ++ [x]) i = used out i + ((if x.1 = i then x.2.2 else 0) + if x.2.1 = i then x.2.2 else 0) := by simp [used]
/-- a pair lies within another one, or apart from it -/
def apart (y x : Nat × Nat × Nat) : Prop := ¬ (y.1 < x.1 ∧ x.1 < y.2.1 ∧ y.2.1 < x.2.1) ∧ ¬ (x.1 < y.1 ∧ y.1 < x.2.1 ∧ x.2.1 < y.2.1)
structure Inv (l : List R) (c : Nat) (st : St) : Prop where
  len : st.1.length = l.length
  good : ∀ x ∈ st.2, x.1 < x.2.1 ∧ x.2.1 ≤ c ∧ x.2.1 < l.length ∧ 1 ≤ x.2.2 ∧ x.2.2 ≤ 2 ∧ (get l x.1).o = true ∧ (get l x.2.1).c = true ∧ (get l x.1).ch = (get l x.2.1).ch
  zero : ∀ x ∈ st.2, ∀ i, x.1 < i → i < x.2.1 → lf st.1 i = 0
  sum : ∀ i, i < l.length → used st.2 i + lf st.1 i ≤ held (get l i).n
  cross : st.2.Pairwise apart
theorem inv_next {l : List R} {c : Nat} {st : St} (h : Inv l c st) : Inv l (c + 1) st :=
  ⟨h.len, fun x hx => by have := h.good x hx; exact ⟨this.1, by omega, this.2.2⟩, h.zero, h.sum, h.cross⟩
theorem inv_step {l : List R} {c o : Nat} {st : St} (h : Inv l c st) (hc : (get l c).c = true) (hl : 0 < lf st.1 c) (ho : opener l st.1 c c = some o) :
    Inv l c (lower st.1 o c (size st.1 o c), st.2 ++ [(o, c, size st.1 o c)]) := by
  obtain ⟨hoc, hok⟩ := opener_spec _ ho
  simp only [ok, Bool.and_eq_true, decide_eq_true_eq, beq_iff_eq] at hok
  obtain ⟨⟨⟨ho1, ho2⟩, ho3⟩, _⟩ := hok
  have hcl := lf_pos_lt hl
  have hs := size_pos st.1 o c
  have hsl := size_le ho3 hl
  obtain ⟨s, hse⟩ : ∃ s, s = size st.1 o c := ⟨_, rfl⟩
  rw [← hse] at hs hsl ⊢
  have hlen := h.len
  refine ⟨by rw [lower_len]; exact h.len, ?_, ?_, ?_, ?_⟩
  · intro x hx
    rcases List.mem_append.1 hx with hx | hx
    · exact h.good x hx
    · obtain rfl : x = (o, c, s) := by simpa using hx
      exact ⟨hoc, Nat.le_refl _, show c < l.length by omega, hs.1, hs.2, ho1, hc, ho2⟩
  · intro x hx i h1 h2
    rcases List.mem_append.1 hx with hx | hx
    · have hz := h.zero x hx i h1 h2
      have hg := h.good x hx
      simp only
      rw [lf_lower (by omega)]
      split
      · omega
      · split
        · rfl
        · exact hz
    · obtain rfl : x = (o, c, s) := by simpa using hx
      simp only at h1 h2 ⊢
      rw [lf_lower (by omega), if_neg (by omega), if_pos ⟨h1, h2⟩]
  · intro i hi
    have hsum := h.sum i hi
    simp only
    rw [used_snoc, lf_lower (by omega)]
    simp only
    by_cases h1 : o = i
    · subst h1
      rw [if_pos rfl, if_neg (by omega), if_pos (.inl rfl)]
      omega
    · by_cases h2 : c = i
      · subst h2
        rw [if_neg h1, if_pos rfl, if_pos (.inr rfl)]
        omega
      · rw [if_neg h1, if_neg h2, if_neg (by omega)]
        split
        · omega
        · omega
  · simp only
    rw [List.pairwise_append]
    refine ⟨h.cross, by simp, fun y hy x hx => ?_⟩
    obtain rfl : x = (o, c, s) := by simpa using hx
    have hg := h.good y hy
    refine ⟨fun ⟨h1, h2, h3⟩ => ?_, fun ⟨h1, h2, h3⟩ => ?_⟩
    · have := h.zero y hy o h1 h2
      omega
    · simp only at h3; omega
theorem inv_innerF {l : List R} {c : Nat} : ∀ (f : Nat) (st : St), Inv l c st → Inv l c (innerF l c f st)
  | 0, _, h => h
  | f + 1, st, h => by
    unfold innerF
    split
    · rename_i hc
      split
      · exact h
      · rename_i o ho
        exact inv_innerF f _ (inv_step h hc.1 hc.2 ho)
    · exact h
theorem inv_outer {l : List R} : ∀ (k c : Nat) (st : St), Inv l c st → Inv l (c + k) (outer l k c st)
  | 0, _, _, h => h
  | k + 1, c, st, h => by
    have := inv_outer k (c + 1) _ (inv_next (inv_innerF (lf st.1 c) st h))
    rw [show c + (k + 1) = c + 1 + k by omega]
    exact this
theorem inv_pairs (l : List R) : Inv l l.length (outer l l.length 0 (l.map (fun r => held r.n), [])) := by
  have h0 : Inv l 0 (l.map (fun r => held r.n), []) := by
    refine ⟨by simp, by simp, by simp, fun i hi => ?_, List.Pairwise.nil⟩
    simp only [used, List.map_nil, List.sum_nil, Nat.zero_add]
    rw [lf_at (by simpa using hi), List.getElem_map, get_at hi]
    exact Nat.le_refl _
  have := inv_outer l.length 0 _ h0
  rwa [Nat.zero_add] at this
theorem lf_lower_le (L : List Nat) (o c s i : Nat) : lf (lower L o c s) i ≤ lf L i := by
  rcases Nat.lt_or_ge i L.length with h | h
  · rw [lf_lower h]
    split
    · omega
    · split
      · omega
      · exact Nat.le_refl _
  · simp [lf, List.getD, List.getElem?_eq_none (show (lower L o c s).length ≤ i by rw [lower_len]; exact h)]
/-- bounds: no more than a hundred left each, no more than a hundred pairs each -/
def Bd (c : Nat) (st : St) : Prop := (∀ i, lf st.1 i ≤ 100) ∧ st.2.length ≤ 100 * c
def Bi (c : Nat) (st : St) : Prop := (∀ i, lf st.1 i ≤ 100) ∧ st.2.length + lf st.1 c ≤ 100 * (c + 1)
theorem bd_in {c : Nat} {st : St} (h : Bd c st) : Bi c st := ⟨h.1, by have := h.1 c; have := h.2; omega⟩
theorem bd_out {c : Nat} {st : St} (h : Bi c st) : Bd (c + 1) st := ⟨h.1, by have := h.2; omega⟩
theorem bi_step {c o : Nat} {st : St} (h : Bi c st) (hl : 0 < lf st.1 c) : Bi c (lower st.1 o c (size st.1 o c), st.2 ++ [(o, c, size st.1 o c)]) := by
  have h1 := lf_lower_c (o := o) (s := size st.1 o c) hl
  have h2 := size_pos st.1 o c
  have h3 := h.2
  refine ⟨fun i => Nat.le_trans (lf_lower_le _ _ _ _ _) (h.1 i), ?_⟩
  simp only [List.length_append, List.length_cons, List.length_nil]
  omega
theorem bi_innerF {l : List R} {c : Nat} : ∀ (f : Nat) (st : St), Bi c st → Bi c (innerF l c f st)
  | 0, _, h => h
  | f + 1, st, h => by
    unfold innerF
    split
    · rename_i hc
      split
      · exact h
      · rename_i o ho
        exact bi_innerF f _ (bi_step h hc.2)
    · exact h
theorem bd_outer {l : List R} : ∀ (k c : Nat) (st : St), Bd c st → Bd (c + k) (outer l k c st)
  | 0, _, _, h => h
  | k + 1, c, st, h => by
    have := bd_outer (l := l) k (c + 1) _ (bd_out (bi_innerF (l := l) (lf st.1 c) st (bd_in h)))
    rw [show c + (k + 1) = c + 1 + k by omega]
    exact this
/-- no more than a hundred pairs a run -/
theorem bd_pairs (l : List R) : (pairs l).length ≤ 100 * l.length := by
  have h0 : Bd 0 (l.map (fun r => held r.n), []) := by
    refine ⟨fun i => ?_, by simp⟩
    rcases Nat.lt_or_ge i l.length with h | h
    · rw [lf_at (by simpa using h), List.getElem_map]; exact held_le _
    · simp [lf, List.getD, List.getElem?_eq_none h]
  have := (bd_outer (l := l) l.length 0 _ h0).2
  rwa [Nat.zero_add] at this
/-- behind the pair: what lies between is nought from one on, up to a place -/
def wiped (L : List Nat) (o c s k : Nat) : List Nat := L.mapIdx fun i x => if i = o ∨ i = c then x - s else if o < i ∧ i < k then 0 else x
theorem wiped_zero {L : List Nat} {o c s : Nat} (h : o < c) (hc : c < L.length) : wiped L o c s (o + 1) = (L.set o (lf L o - s)).set c (lf L c - s) := by
  apply List.ext_getElem?
  intro i
  simp only [wiped, List.getElem?_mapIdx, List.getElem?_set, List.length_set]
  by_cases h1 : c = i
  · subst h1
    rw [if_pos rfl, if_pos hc, List.getElem?_eq_getElem hc, lf_at hc]
    simp
  · rw [if_neg h1]
    by_cases h2 : o = i
    · subst h2
      rw [if_pos rfl, if_pos (by omega), List.getElem?_eq_getElem (by omega), lf_at (by omega)]
      simp
    · rw [if_neg h2]
      rcases Nat.lt_or_ge i L.length with h3 | h3
      · rw [List.getElem?_eq_getElem h3]
        simp only [Option.map_some, Option.some.injEq]
        rw [if_neg (by omega), if_neg (by omega)]
      · rw [List.getElem?_eq_none h3]; rfl
theorem wiped_step {L : List Nat} {o c s k : Nat} (h : o < k) (hk : k < c) (hc : c < L.length) : wiped L o c s (k + 1) = (wiped L o c s k).set k 0 := by
  apply List.ext_getElem?
  intro i
  simp only [wiped, List.getElem?_mapIdx, List.getElem?_set, List.length_mapIdx]
  by_cases h1 : k = i
  · subst h1
    rw [if_pos rfl, if_pos (by omega), List.getElem?_eq_getElem (by omega)]
    simp only [Option.map_some, Option.some.injEq]
    rw [if_neg (by omega), if_pos (by omega)]
  · rw [if_neg h1]
    rcases Nat.lt_or_ge i L.length with h3 | h3
    · rw [List.getElem?_eq_getElem h3]
      simp only [Option.map_some, Option.some.injEq]
      by_cases h4 : i = o ∨ i = c
      · rw [if_pos h4, if_pos h4]
      · rw [if_neg h4, if_neg h4]
        by_cases h5 : o < i ∧ i < k
        · rw [if_pos h5, if_pos (by omega)]
        · rw [if_neg h5, if_neg (by omega)]
    · rw [List.getElem?_eq_none h3]; rfl
theorem wiped_len (L : List Nat) (o c s k : Nat) : (wiped L o c s k).length = L.length := by simp [wiped]
end Go.Proofs.YtkfhkfagmokjpaaGreatDoor.Em

namespace Go.Proofs.YtkfhkfagmokjpaaGreatDoor
open Go.RowKit

/-- runes as cells -/
def rcells (X : List Nat) : List Value := X.map fun x : Nat => .int .i32 (x : Int)
/-- what 'next' hands over at a place of a text, and what is left behind it -/
theorem runes_next {l : List UInt8} {pos : Nat} (h : pos < l.length) {D : List Nat} (hD : D ++ Ru.runes (l.drop pos) = Ru.runes l) :
    ∃ x k : Nat, 1 ≤ k ∧ Ru.vr x ∧ Utf8.decode (bs l) pos = (x, k) ∧ (D ++ [x]) ++ Ru.runes (l.drop (pos + k)) = Ru.runes l := by
  have hd := decodeL_drop' l pos
  refine ⟨(Utf8.decode (bs l) pos).1, (Utf8.decode (bs l) pos).2, ?_, ?_, rfl, ?_⟩
  · rw [← hd]; exact Lib.decodeL_width _
  · rw [← hd]; exact Ru.decodeL_vr _
  · rw [← hD, Ru.runes_at h, List.append_assoc]; rfl
where decodeL_drop' (l : List UInt8) (pos : Nat) : Lib.decodeL (l.drop pos) = Utf8.decode (bs l) pos := by
        have := Lib.decodeL_drop (bs l) pos
        simpa [bs] using this

theorem run_next_rune {w : World} {k : Nat} {l : List UInt8} {pos x n : Nat} (hk : w.heap[k]? = some (.stringIter (bs l) pos)) (h : pos < l.length) (hd : Utf8.decode (bs l) pos = (x, n)) (ty : TypeId) :
    (Instr.next (.pointer (some ⟨k, 0, none⟩)) true ty).run Tryz.prog w = .ok (.tuple #[.bool true, .int .i64 pos, .int .i32 (x : Int)]) (w.iterAt k (bs l) (pos + n)) := by
  rw [Lib.run_next_any_at w k (bs l) pos ty hk (by rw [bs_size]; exact h), hd]
theorem run_next_done {w : World} {k : Nat} {l : List UInt8} {pos : Nat} (hk : w.heap[k]? = some (.stringIter (bs l) pos)) (h : ¬ pos < l.length) (ty : TypeId) :
    (Instr.next (.pointer (some ⟨k, 0, none⟩)) true ty).run Tryz.prog w = .ok (.tuple #[.bool false]) w :=
  Lib.run_next_end_at w k (bs l) pos ty hk (by rw [bs_size]; exact h)
theorem runes_done {l : List UInt8} {pos : Nat} (h : ¬ pos < l.length) {D : List Nat} (hD : D ++ Ru.runes (l.drop pos) = Ru.runes l) : D = Ru.runes l := by
  rw [List.drop_eq_nil_of_le (by omega), Ru.runes_nil, List.append_nil] at hD; exact hD
theorem runes_part {l : List UInt8} {pos : Nat} {D : List Nat} (hD : D ++ Ru.runes (l.drop pos) = Ru.runes l) : D.length ≤ l.length := by
  have h1 := congrArg List.length hD
  have h2 := Ru.runes_len l
  rw [List.length_append] at h1; omega
/-- the iterator of a range that is made last -/
theorem iter_new (w : World) (l : List UInt8) (o : Obj) (ho : o = .stringIter (bs l) 0) : (w.alloc o).heap[w.heap.size]? = some (.stringIter (bs l) 0) := by
  subst ho; exact heap_alloc_new w _

theorem own_iterAt {w : World} {base : Nat} {e : TypeId} {size n : Nat} {v : Value} {xs : List Value} (h : w.ownsRow base e size v n xs) {k : Nat} (hk : k < base) (s : ByteArray) (pos : Nat) : (w.iterAt k s pos).ownsRow base e size v n xs := by
  refine ⟨h.1, ?_⟩
  rcases h.2 with hn | ⟨g, cap, cur, rfl, hbg, hgg, rest⟩
  · exact .inl hn
  · exact .inr ⟨g, cap, cur, rfl, hbg, (Lib.iterAt_other w k g s pos (by omega)).trans hgg, rest⟩
theorem rune_at {l : List UInt8} {pos : Nat} (h : pos < l.length) : ∃ x k : Nat, 1 ≤ k ∧ pos + k ≤ l.length ∧ Utf8.decode (bs l) pos = (x, k) ∧ Ru.runes (l.drop pos) = x :: Ru.runes (l.drop (pos + k)) := by
  have hd := runes_next.decodeL_drop' l pos
  have hne : l.drop pos ≠ [] := by intro h0; have := congrArg List.length h0; rw [List.length_drop] at this; simp at this; omega
  have hle := (Ru.rune_bytes hne).2.1
  rw [hd, List.length_drop] at hle
  exact ⟨(Utf8.decode (bs l) pos).1, (Utf8.decode (bs l) pos).2, by rw [← hd]; exact Lib.decodeL_width _, by omega, rfl, Ru.runes_at h⟩
end Go.Proofs.YtkfhkfagmokjpaaGreatDoor

namespace Go.Proofs.YtkfhkfagmokjpaaGreatDoor.Em
open Go.Lib Ru

/-- the rune ahead of a place; the one at a place -/
def ahead (l : List UInt8) (k : Nat) : Nat := (runes (l.take k)).getLastD 32
def behind (l : List UInt8) (k : Nat) : Nat := if k < l.length then (decodeL (l.drop k)).1 else 32
theorem behind_in {l : List UInt8} {k : Nat} (h : k < l.length) : behind l k = (decodeL (l.drop k)).1 := by unfold behind; rw [if_pos h]
theorem behind_out {l : List UInt8} {k : Nat} (h : ¬ k < l.length) : behind l k = 32 := by unfold behind; rw [if_neg h]
/-- of what is behind it -/
def leanB (b a : Nat) : Bool := !blankB a && (!punctB a || blankB b || punctB b)
def judge (c : UInt8) (n b a : Nat) : R :=
  if c = 95 then ⟨c, n, leanB b a && (!leanB a b || punctB b), leanB a b && (!leanB b a || punctB a)⟩ else ⟨c, n, leanB b a, leanB a b⟩
/-- whether a run begins at a place -/
def starts (l : List UInt8) (at_ : Int) : Bool :=
  decide (0 ≤ at_ ∧ at_.toNat < l.length ∧ (l.getD at_.toNat 0 = 42 ∨ l.getD at_.toNat 0 = 95) ∧ (at_ = 0 ∨ l.getD (at_.toNat - 1) 0 ≠ l.getD at_.toNat 0))
def kind (l : List UInt8) (at_ : Int) : Option (R × Nat) :=
  if starts l at_ = true then
    some (judge (l.getD at_.toNat 0) (Fn.run (l.getD at_.toNat 0) (l.drop at_.toNat)) (ahead l at_.toNat) (behind l (at_.toNat + Fn.run (l.getD at_.toNat 0) (l.drop at_.toNat))), at_.toNat + Fn.run (l.getD at_.toNat 0) (l.drop at_.toNat))
  else none
theorem kind_off {l : List UInt8} {at_ : Int} (h : starts l at_ = false) : kind l at_ = none := by unfold kind; rw [if_neg (by rw [h]; decide)]
theorem getD_at {l : List UInt8} {k : Nat} (h : k < l.length) : l.getD k 0 = l[k] := by simp [List.getD, List.getElem?_eq_getElem h]
theorem starts_yes {l : List UInt8} {k : Nat} (h : k < l.length) (h1 : l[k] = 42 ∨ l[k] = 95) (h2 : k = 0 ∨ ∃ h3 : k - 1 < l.length, l[k - 1] ≠ l[k]) : starts l (k : Int) = true := by
  unfold starts
  refine decide_eq_true ⟨by omega, h, ?_, ?_⟩
  · rw [show ((k : Int)).toNat = k from by omega, getD_at h]; exact h1
  · rw [show ((k : Int)).toNat = k from by omega, getD_at h]
    rcases h2 with h2 | ⟨h3, h2⟩
    · exact .inl (by omega)
    · exact .inr (by rw [getD_at h3]; exact h2)
theorem starts_no {l : List UInt8} {at_ : Int} (h : at_ < 0 ∨ (l.length : Int) ≤ at_ ∨ (∃ h : at_.toNat < l.length, l[at_.toNat] ≠ 42 ∧ l[at_.toNat] ≠ 95) ∨ (0 < at_ ∧ ∃ h : at_.toNat < l.length, l[at_.toNat - 1] = l[at_.toNat])) : starts l at_ = false := by
  unfold starts
  refine decide_eq_false ?_
  rintro ⟨h1, h2, h3, h4⟩
  rw [getD_at h2] at h3 h4
  rcases h with h | h | ⟨_, h, h'⟩ | ⟨h0, _, h⟩
  · omega
  · omega
  · rcases h3 with h3 | h3
    · exact h h3
    · exact h' h3
  · rcases h4 with h4 | h4
    · omega
    · rw [getD_at (by omega)] at h4; exact h4 h
theorem kind_on {l : List UInt8} {k : Nat} (h : k < l.length) (hs : starts l (k : Int) = true) :
    kind l (k : Int) = some (judge l[k] (Fn.run l[k] (l.drop k)) (ahead l k) (behind l (k + Fn.run l[k] (l.drop k))), k + Fn.run l[k] (l.drop k)) := by
  unfold kind
  rw [if_pos hs, show ((k : Int)).toNat = k from by omega, getD_at h]
theorem run_pos {l : List UInt8} {k : Nat} (h : k < l.length) : 1 ≤ Fn.run l[k] (l.drop k) := by rw [Fn.run_at h rfl]; omega
theorem runs_in {l : List UInt8} {k : Nat} (h : k < l.length) (c : UInt8) : k + Fn.run c (l.drop k) ≤ l.length := by
  have := Fn.run_le c (l.drop k)
  rw [List.length_drop] at this; omega
end Go.Proofs.YtkfhkfagmokjpaaGreatDoor.Em

namespace Go.Proofs.YtkfhkfagmokjpaaGreatDoor.Es
open Go.Lib Ru

/-- a sign of ASCII -/
def asc (b : UInt8) : Bool := asciiB (b.toNat : Int)
theorem asc_iff (b : UInt8) : asc b = true ↔ (33 ≤ b.toNat ∧ b.toNat ≤ 47) ∨ (58 ≤ b.toNat ∧ b.toNat ≤ 64) ∨ (91 ≤ b.toNat ∧ b.toNat ≤ 96) ∨ (123 ≤ b.toNat ∧ b.toNat ≤ 126) := by
  unfold asc asciiB; rw [decide_eq_true_iff]; omega
theorem asc_lt {b : UInt8} (h : asc b = true) : b.toNat < 128 := by rw [asc_iff] at h; omega
theorem asc_high {b : UInt8} (h : 128 ≤ b.toNat) : asc b = false := by
  cases he : asc b with
  | false => rfl
  | true => have := asc_lt he; omega

/-- whether a sign behind a backslash stands ahead -/
def isEsc : List UInt8 → Bool
  | a :: b :: _ => a == 92 && asc b
  | _ => false
/-- what stands ahead: its rune, how long it is, whether it means itself -/
def step (l : List UInt8) : Nat × Nat × Bool :=
  if isEsc l = true then ((l.getD 1 0).toNat, 2, true) else ((decodeL l).1, (decodeL l).2, false)
theorem step_yes {l : List UInt8} (h : isEsc l = true) : step l = ((l.getD 1 0).toNat, 2, true) := by unfold step; rw [if_pos h]
theorem step_no {l : List UInt8} (h : isEsc l = false) : step l = ((decodeL l).1, (decodeL l).2, false) := by unfold step; rw [if_neg (by rw [h]; decide)]
theorem isEsc_len {l : List UInt8} (h : isEsc l = true) : 2 ≤ l.length := by
  match l, h with
  | [], h => simp [isEsc] at h
  | [_], h => simp [isEsc] at h
  | _ :: _ :: _, _ => simp
theorem isEsc_asc {l : List UInt8} (h : isEsc l = true) : asc (l.getD 1 0) = true := by
  match l, h with
  | [], h => simp [isEsc] at h
  | [_], h => simp [isEsc] at h
  | a :: b :: r, h => simp only [isEsc, Bool.and_eq_true] at h; exact h.2
theorem step_pos (l : List UInt8) : 1 ≤ (step l).2.1 := by
  cases h : isEsc l with
  | true => rw [step_yes h]; simp
  | false => rw [step_no h]; exact decodeL_width l
theorem step_le {l : List UInt8} (hl : l ≠ []) : (step l).2.1 ≤ l.length := by
  cases h : isEsc l with
  | true => rw [step_yes h]; exact isEsc_len h
  | false => rw [step_no h]; exact decodeL_le l hl
theorem step_vr (l : List UInt8) : vr (step l).1 := by
  cases h : isEsc l with
  | true => rw [step_yes h]; have := asc_lt (isEsc_asc h); unfold vr; simp only; omega
  | false => rw [step_no h]; exact decodeL_vr l
/-- the runes, signs that mean themselves among them, by at most so many steps -/
def plainF : Nat → List UInt8 → List Nat
  | 0, _ => []
  | f + 1, l => if l = [] then [] else (step l).1 :: plainF f (l.drop (step l).2.1)
def plain (l : List UInt8) : List Nat := plainF l.length l
theorem plainF_fuel : ∀ (f g : Nat) (l : List UInt8), l.length ≤ f → l.length ≤ g → plainF f l = plainF g l
  | 0, 0, _, _, _ => rfl
  | 0, g + 1, l, h, _ => by
    have : l = [] := List.eq_nil_of_length_eq_zero (by omega)
    simp [plainF, this]
  | f + 1, 0, l, _, h => by
    have : l = [] := List.eq_nil_of_length_eq_zero (by omega)
    simp [plainF, this]
  | f + 1, g + 1, l, hf, hg => by
    unfold plainF
    by_cases h : l = []
    · simp [h]
    · have hl : 0 < l.length := List.length_pos_iff.2 h
      have hw := step_pos l
      simp only [h, if_false]
      rw [plainF_fuel f g _ (by rw [List.length_drop]; omega) (by rw [List.length_drop]; omega)]
theorem plain_nil : plain [] = [] := rfl
theorem plain_step {l : List UInt8} (h : l ≠ []) : plain l = (step l).1 :: plain (l.drop (step l).2.1) := by
  have hl : 0 < l.length := List.length_pos_iff.2 h
  have hw := step_pos l
  obtain ⟨n, hn⟩ : ∃ n, l.length = n + 1 := ⟨l.length - 1, by omega⟩
  unfold plain
  rw [hn]
  conv => lhs; unfold plainF
  simp only [h, if_false]
  rw [plainF_fuel n _ _ (by rw [List.length_drop]; omega) (Nat.le_refl _)]
theorem step_ind {P : List UInt8 → Prop} (h0 : P []) (h1 : ∀ l, l ≠ [] → P (l.drop (step l).2.1) → P l) : ∀ l, P l := by
  have : ∀ (n : Nat) (l : List UInt8), l.length ≤ n → P l := by
    intro n
    induction n with
    | zero => intro l hl; have : l = [] := List.eq_nil_of_length_eq_zero (by omega); rw [this]; exact h0
    | succ n ih =>
      intro l hl
      by_cases h : l = []
      · rw [h]; exact h0
      · have hp : 0 < l.length := List.length_pos_iff.2 h
        have hw := step_pos l
        exact h1 l h (ih _ (by rw [List.length_drop]; omega))
  exact fun l => this _ l (Nat.le_refl _)
theorem plain_len : ∀ l, (plain l).length ≤ l.length := by
  refine step_ind (by simp [plain_nil]) ?_
  intro l h ih
  have hp : 0 < l.length := List.length_pos_iff.2 h
  have hw := step_pos l
  rw [plain_step h, List.length_cons]
  rw [List.length_drop] at ih
  omega

/-- the rune at a place of a text, where the next one is, whether it means itself -/
def next (l : List UInt8) (at_ : Nat) : Nat × Nat × Bool :=
  if at_ < l.length then ((step (l.drop at_)).1, at_ + (step (l.drop at_)).2.1, (step (l.drop at_)).2.2) else (0, l.length, false)
theorem next_in {l : List UInt8} {k : Nat} (h : k < l.length) : next l k = ((step (l.drop k)).1, k + (step (l.drop k)).2.1, (step (l.drop k)).2.2) := by unfold next; rw [if_pos h]
theorem next_out {l : List UInt8} {k : Nat} (h : l.length ≤ k) : next l k = (0, l.length, false) := by unfold next; rw [if_neg (by omega)]
theorem drop_ne {l : List UInt8} {k : Nat} (h : k < l.length) : l.drop k ≠ [] := by
  intro h0; have := congrArg List.length h0; rw [List.length_drop] at this; simp at this; omega
theorem next_more {l : List UInt8} {k : Nat} (h : k < l.length) : k < (next l k).2.1 ∧ (next l k).2.1 ≤ l.length := by
  rw [next_in h]
  have h1 := step_pos (l.drop k)
  have h2 := step_le (drop_ne h)
  rw [List.length_drop] at h2
  simp only
  omega
theorem next_vr (l : List UInt8) (k : Nat) : vr (next l k).1 := by
  by_cases hk : k < l.length
  · rw [next_in hk]; exact step_vr _
  · rw [next_out (by omega)]; unfold vr; simp
/-- from a place on -/
theorem plain_at {l : List UInt8} {k : Nat} (h : k < l.length) : plain (l.drop k) = (next l k).1 :: plain (l.drop (next l k).2.1) := by
  rw [plain_step (drop_ne h), next_in h, List.drop_drop]

theorem isEsc_high {b : UInt8} {r : List UInt8} (h : b ≠ 92) : isEsc (b :: r) = false := by
  match r with
  | [] => rfl
  | c :: r => simp [isEsc, h]
theorem decodeL_low {b : UInt8} {r : List UInt8} (h : b.toNat < 128) : decodeL (b :: r) = (b.toNat, 1) := by
  rw [decodeL_N]; simp only [List.getD_cons_zero]; exact decodeN_ascii _ _ _ _ _ h

end Go.Proofs.YtkfhkfagmokjpaaGreatDoor.Es

namespace Go.Proofs.YtkfhkfagmokjpaaGreatDoor.Lk
open Go.Lib Ru

/-! ### an address between < and > -/
def small (b : UInt8) : Bool := decide (97 ≤ b.toNat ∧ b.toNat ≤ 122)
theorem small_iff (b : UInt8) : small b = true ↔ 97 ≤ b.toNat ∧ b.toNat ≤ 122 := by unfold small; rw [decide_eq_true_iff]
theorem small_no {b : UInt8} (h : small b = false) : b.toNat < 97 ∨ (97 ≤ b.toNat ∧ 122 < b.toNat) := by
  unfold small at h; have := of_decide_eq_false h; omega
/-- how many small letters stand ahead -/
def letters : List UInt8 → Nat
  | [] => 0
  | b :: r => if small b = true then letters r + 1 else 0
theorem letters_le : ∀ l, letters l ≤ l.length
  | [] => Nat.le_refl _
  | b :: r => by unfold letters; have := letters_le r; split <;> simp <;> omega
theorem letters_at {l : List UInt8} {i : Nat} (h : i < l.length) (hs : small l[i] = true) : letters (l.drop i) = letters (l.drop (i + 1)) + 1 := by
  rw [List.drop_eq_getElem_cons h]; conv => lhs; unfold letters
  rw [if_pos hs]
theorem letters_no {l : List UInt8} {i : Nat} (h : i < l.length) (hs : small l[i] = false) : letters (l.drop i) = 0 := by
  rw [List.drop_eq_getElem_cons h]; unfold letters; rw [if_neg (by rw [hs]; decide)]
theorem letters_end {l : List UInt8} {i : Nat} (h : ¬ i < l.length) : letters (l.drop i) = 0 := by rw [List.drop_eq_nil_of_le (by omega)]; rfl

/-- where the sign > is that ends it, by at most so many steps -/
def endF : Nat → List UInt8 → Nat → Option Nat
  | 0, _, _ => none
  | f + 1, l, i =>
    if i < l.length then
      (if (decodeL (l.drop i)).1 = 62 then some i
       else if (decodeL (l.drop i)).1 = 60 ∨ blankB ((decodeL (l.drop i)).1 : Int) = true then none
       else endF f l (i + (decodeL (l.drop i)).2))
    else none
def ends (l : List UInt8) (i : Nat) : Option Nat := endF (l.length + 1 - i) l i
theorem endF_fuel : ∀ (f g : Nat) (l : List UInt8) (i : Nat), l.length < f + i → l.length < g + i → endF f l i = endF g l i
  | 0, 0, _, _, _, _ => rfl
  | 0, g + 1, l, i, h, _ => by unfold endF; rw [if_neg (by omega)]
  | f + 1, 0, l, i, _, h => by unfold endF; rw [if_neg (by omega)]
  | f + 1, g + 1, l, i, hf, hg => by
    have hw := decodeL_width (l.drop i)
    unfold endF
    rw [endF_fuel f g l _ (by omega) (by omega)]
theorem ends_out {l : List UInt8} {i : Nat} (h : l.length ≤ i) : ends l i = none := by
  unfold ends
  cases hf : l.length + 1 - i with
  | zero => rfl
  | succ f => unfold endF; rw [if_neg (by omega)]
theorem ends_step {l : List UInt8} {i : Nat} (h : i < l.length) :
    ends l i = if (decodeL (l.drop i)).1 = 62 then some i else if (decodeL (l.drop i)).1 = 60 ∨ blankB ((decodeL (l.drop i)).1 : Int) = true then none else ends l (i + (decodeL (l.drop i)).2) := by
  have hw := decodeL_width (l.drop i)
  unfold ends
  obtain ⟨f, hf⟩ : ∃ f, l.length + 1 - i = f + 1 := ⟨l.length - i, by omega⟩
  rw [hf]
  conv => lhs; unfold endF
  rw [if_pos h, endF_fuel f (l.length + 1 - (i + (decodeL (l.drop i)).2)) l _ (by omega) (by omega)]
theorem ends_spec {l : List UInt8} : ∀ (f i j : Nat), endF f l i = some j → i ≤ j ∧ j < l.length
  | 0, _, _, h => by simp [endF] at h
  | f + 1, i, j, h => by
    unfold endF at h
    split at h
    · split at h
      · injection h with h; subst h; exact ⟨Nat.le_refl _, by assumption⟩
      · split at h
        · cases h
        · have := ends_spec f _ j h; omega
    · cases h
/-- whether an address may begin at a place, by its scheme -/
def starts (l : List UInt8) (k : Nat) : Bool :=
  decide (k < l.length ∧ l.getD k 0 = 60 ∧ 2 ≤ letters (l.drop (k + 1)) ∧ letters (l.drop (k + 1)) ≤ 12 ∧ l.getD (k + 1 + letters (l.drop (k + 1))) 0 = 58)
def auto (l : List UInt8) (at_ : Int) : Option (List UInt8 × Nat) :=
  if 0 ≤ at_ ∧ starts l at_.toNat = true then (ends l (at_.toNat + 1 + letters (l.drop (at_.toNat + 1)))).map fun j => (mid l (at_.toNat + 1) j, j + 1) else none
theorem auto_neg {l : List UInt8} {at_ : Int} (h : at_ < 0) : auto l at_ = none := by unfold auto; rw [if_neg (by omega)]
theorem auto_off {l : List UInt8} {k : Nat} (h : starts l k = false) : auto l (k : Int) = none := by
  unfold auto; rw [if_neg (fun hc => by have := hc.2; rw [Int.toNat_natCast, h] at this; cases this)]
theorem auto_on {l : List UInt8} {k n : Nat} (h : starts l k = true) (hn : n = letters (l.drop (k + 1))) : auto l (k : Int) = (ends l (k + 1 + n)).map fun j => (mid l (k + 1) j, j + 1) := by
  subst hn; unfold auto; rw [if_pos ⟨by omega, by rw [Int.toNat_natCast]; exact h⟩, Int.toNat_natCast]
theorem starts_no {l : List UInt8} {k : Nat} (h : l.length ≤ k ∨ l.getD k 0 ≠ 60 ∨ letters (l.drop (k + 1)) < 2 ∨ 12 < letters (l.drop (k + 1)) ∨ l.getD (k + 1 + letters (l.drop (k + 1))) 0 ≠ 58) : starts l k = false := by
  unfold starts; refine decide_eq_false ?_
  rintro ⟨h1, h2, h3, h4, h5⟩
  rcases h with h | h | h | h | h
  · omega
  · exact h h2
  · omega
  · omega
  · exact h h5
theorem auto_spec {l : List UInt8} {k : Nat} {t : List UInt8} {e : Nat} (h : auto l (k : Int) = some (t, e)) : k < e ∧ e ≤ l.length ∧ l.getD k 0 = 60 := by
  cases hs : starts l k with
  | false => rw [auto_off hs] at h; cases h
  | true =>
    rw [auto_on hs rfl] at h
    obtain ⟨j, hj, he⟩ := Option.map_eq_some_iff.1 h
    injection he with _ he
    have := ends_spec _ _ _ hj
    unfold starts at hs
    exact ⟨by omega, by omega, (of_decide_eq_true hs).2.1⟩

/-! ### where a bracket closes -/
/-- where the next piece begins: behind code, an address, a sign -/
def hop (l : List UInt8) (i : Nat) : Nat :=
  if l.getD i 0 = 96 then (match Cd.span l (i : Int) with | some x => x.2 | none => i + Fn.run 96 (l.drop i))
  else match auto l (i : Int) with | some x => x.2 | none => (Es.next l i).2.1
/-- the sign that stands at a place and means something (0: none) -/
def sign (l : List UInt8) (i : Nat) : Nat :=
  if l.getD i 0 = 96 then 0
  else match auto l (i : Int) with | some _ => 0 | none => if (Es.next l i).2.2 = true then 0 else (Es.next l i).1
theorem hop_span {l : List UInt8} {i : Nat} {t : List UInt8} {e : Nat} (h : l.getD i 0 = 96) (hs : Cd.span l (i : Int) = some (t, e)) : hop l i = e ∧ sign l i = 0 := by
  unfold hop sign; rw [if_pos h, if_pos h, hs]; exact ⟨rfl, rfl⟩
theorem hop_run {l : List UInt8} {i : Nat} (h : l.getD i 0 = 96) (hs : Cd.span l (i : Int) = none) : hop l i = i + Fn.run 96 (l.drop i) ∧ sign l i = 0 := by
  unfold hop sign; rw [if_pos h, if_pos h, hs]; exact ⟨rfl, rfl⟩
theorem hop_auto {l : List UInt8} {i : Nat} {t : List UInt8} {e : Nat} (h : l.getD i 0 ≠ 96) (hs : auto l (i : Int) = some (t, e)) : hop l i = e ∧ sign l i = 0 := by
  unfold hop sign; rw [if_neg h, if_neg h, hs]; exact ⟨rfl, rfl⟩
theorem hop_next {l : List UInt8} {i : Nat} (h : l.getD i 0 ≠ 96) (hs : auto l (i : Int) = none) : hop l i = (Es.next l i).2.1 ∧ sign l i = if (Es.next l i).2.2 = true then 0 else (Es.next l i).1 := by
  unfold hop sign; rw [if_neg h, if_neg h, hs]; exact ⟨rfl, rfl⟩
theorem hop_more {l : List UInt8} {i : Nat} (h : i < l.length) : i < hop l i ∧ hop l i ≤ l.length := by
  by_cases h1 : l.getD i 0 = 96
  · have hr : 1 ≤ Fn.run 96 (l.drop i) := by
      rw [Fn.run_at h (by simpa [List.getD, List.getElem?_eq_getElem h] using h1)]; omega
    cases hs : Cd.span l (i : Int) with
    | none =>
      rw [(hop_run h1 hs).1]
      have := Fn.run_le 96 (l.drop i)
      rw [List.length_drop] at this
      omega
    | some x =>
      obtain ⟨t, e⟩ := x
      rw [(hop_span h1 hs).1]
      have := Cd.span_spec hs
      omega
  · cases hs : auto l (i : Int) with
    | some x =>
      obtain ⟨t, e⟩ := x
      rw [(hop_auto h1 hs).1]
      have := auto_spec hs
      omega
    | none => rw [(hop_next h1 hs).1]; exact Es.next_more h
def closeF : Nat → List UInt8 → Nat → Nat → Option Nat
  | 0, _, _, _ => none
  | f + 1, l, i, d =>
    if i < l.length then
      (if sign l i = 93 then (if d = 0 then some i else closeF f l (hop l i) (d - 1))
       else closeF f l (hop l i) (if sign l i = 91 then d + 1 else d))
    else none
def closes (l : List UInt8) (i d : Nat) : Option Nat := closeF (l.length + 1 - i) l i d
theorem closeF_fuel : ∀ (f g : Nat) (l : List UInt8) (i d : Nat), l.length < f + i → l.length < g + i → closeF f l i d = closeF g l i d
  | 0, 0, _, _, _, _, _ => rfl
  | 0, g + 1, l, i, d, h, _ => by unfold closeF; rw [if_neg (by omega)]
  | f + 1, 0, l, i, d, _, h => by unfold closeF; rw [if_neg (by omega)]
  | f + 1, g + 1, l, i, d, hf, hg => by
    unfold closeF
    by_cases hi : i < l.length
    · have hh := hop_more hi
      rw [if_pos hi, if_pos hi, closeF_fuel f g l _ (d - 1) (by omega) (by omega), closeF_fuel f g l _ (if sign l i = 91 then d + 1 else d) (by omega) (by omega)]
    · rw [if_neg hi, if_neg hi]
theorem closes_out {l : List UInt8} {i d : Nat} (h : l.length ≤ i) : closes l i d = none := by
  unfold closes
  cases hf : l.length + 1 - i with
  | zero => rfl
  | succ f => unfold closeF; rw [if_neg (by omega)]
theorem closes_step {l : List UInt8} {i d : Nat} (h : i < l.length) :
    closes l i d = if sign l i = 93 then (if d = 0 then some i else closes l (hop l i) (d - 1)) else closes l (hop l i) (if sign l i = 91 then d + 1 else d) := by
  have hh := hop_more h
  unfold closes
  obtain ⟨f, hf⟩ : ∃ f, l.length + 1 - i = f + 1 := ⟨l.length - i, by omega⟩
  rw [hf]
  conv => lhs; unfold closeF
  rw [if_pos h, closeF_fuel f (l.length + 1 - hop l i) l _ (d - 1) (by omega) (by omega), closeF_fuel f (l.length + 1 - hop l i) l _ (if sign l i = 91 then d + 1 else d) (by omega) (by omega)]
theorem closes_end {l : List UInt8} {i : Nat} (h : i < l.length) (h1 : sign l i = 93) : closes l i 0 = some i := by rw [closes_step h, if_pos h1, if_pos rfl]
theorem closes_down {l : List UInt8} {i d : Nat} (h : i < l.length) (h1 : sign l i = 93) : closes l i (d + 1) = closes l (hop l i) d := by rw [closes_step h, if_pos h1, if_neg (by omega)]; rfl
theorem closes_up {l : List UInt8} {i d : Nat} (h : i < l.length) (h1 : sign l i = 91) : closes l i d = closes l (hop l i) (d + 1) := by rw [closes_step h, if_neg (by omega), if_pos h1]
theorem closes_on {l : List UInt8} {i d : Nat} (h : i < l.length) (h1 : sign l i ≠ 93) (h2 : sign l i ≠ 91) : closes l i d = closes l (hop l i) d := by rw [closes_step h, if_neg h1, if_neg h2]
def close (l : List UInt8) (at_ : Int) : Option Nat := if 0 ≤ at_ ∧ at_.toNat < l.length ∧ l.getD at_.toNat 0 = 91 then closes l (at_.toNat + 1) 0 else none
theorem close_neg {l : List UInt8} {at_ : Int} (h : at_ < 0) : close l at_ = none := by unfold close; rw [if_neg (by omega)]
theorem close_off {l : List UInt8} {k : Nat} (h : l.length ≤ k ∨ l.getD k 0 ≠ 91) : close l (k : Int) = none := by
  unfold close; rw [Int.toNat_natCast, if_neg]
  rintro ⟨_, h1, h2⟩
  rcases h with h | h
  · omega
  · exact h h2
theorem close_on {l : List UInt8} {k : Nat} (h : k < l.length) (h1 : l.getD k 0 = 91) : close l (k : Int) = closes l (k + 1) 0 := by
  unfold close; rw [Int.toNat_natCast, if_pos ⟨by omega, h, h1⟩]

/-! ### where it leads -/
def destF : Nat → List UInt8 → Nat → Option Nat
  | 0, _, _ => none
  | f + 1, l, i =>
    if i < l.length then
      (if (Es.next l i).2.2 = false ∧ (Es.next l i).1 = 41 then some i
       else if (Es.next l i).2.2 = false ∧ ((Es.next l i).1 = 40 ∨ blankB ((Es.next l i).1 : Int) = true) then none
       else destF f l (Es.next l i).2.1)
    else none
def dends (l : List UInt8) (i : Nat) : Option Nat := destF (l.length + 1 - i) l i
theorem destF_fuel : ∀ (f g : Nat) (l : List UInt8) (i : Nat), l.length < f + i → l.length < g + i → destF f l i = destF g l i
  | 0, 0, _, _, _, _ => rfl
  | 0, g + 1, l, i, h, _ => by unfold destF; rw [if_neg (by omega)]
  | f + 1, 0, l, i, _, h => by unfold destF; rw [if_neg (by omega)]
  | f + 1, g + 1, l, i, hf, hg => by
    unfold destF
    by_cases hi : i < l.length
    · have hh := Es.next_more hi
      rw [if_pos hi, if_pos hi, destF_fuel f g l _ (by omega) (by omega)]
    · rw [if_neg hi, if_neg hi]
theorem dends_out {l : List UInt8} {i : Nat} (h : l.length ≤ i) : dends l i = none := by
  unfold dends
  cases hf : l.length + 1 - i with
  | zero => rfl
  | succ f => unfold destF; rw [if_neg (by omega)]
theorem dends_step {l : List UInt8} {i : Nat} (h : i < l.length) :
    dends l i = if (Es.next l i).2.2 = false ∧ (Es.next l i).1 = 41 then some i else if (Es.next l i).2.2 = false ∧ ((Es.next l i).1 = 40 ∨ blankB ((Es.next l i).1 : Int) = true) then none else dends l (Es.next l i).2.1 := by
  have hh := Es.next_more h
  unfold dends
  obtain ⟨f, hf⟩ : ∃ f, l.length + 1 - i = f + 1 := ⟨l.length - i, by omega⟩
  rw [hf]
  conv => lhs; unfold destF
  rw [if_pos h, destF_fuel f (l.length + 1 - (Es.next l i).2.1) l _ (by omega) (by omega)]
theorem dends_spec {l : List UInt8} : ∀ (f i j : Nat), destF f l i = some j → i ≤ j ∧ j < l.length
  | 0, _, _, h => by simp [destF] at h
  | f + 1, i, j, h => by
    unfold destF at h
    split at h
    · rename_i hi
      split at h
      · injection h with h; subst h; exact ⟨Nat.le_refl _, by assumption⟩
      · split at h
        · cases h
        · have := dends_spec f _ j h; have := Es.next_more hi; omega
    · cases h
def dest (l : List UInt8) (at_ : Int) : Option (List UInt8 × Nat) :=
  if 0 ≤ at_ ∧ at_.toNat < l.length ∧ l.getD at_.toNat 0 = 40 then (dends l (at_.toNat + 1)).map fun j => (Ru.enc (Es.plain (mid l (at_.toNat + 1) j)), j + 1) else none
theorem dest_neg {l : List UInt8} {at_ : Int} (h : at_ < 0) : dest l at_ = none := by unfold dest; rw [if_neg (by omega)]
theorem dest_off {l : List UInt8} {k : Nat} (h : l.length ≤ k ∨ l.getD k 0 ≠ 40) : dest l (k : Int) = none := by
  unfold dest; rw [Int.toNat_natCast, if_neg]
  rintro ⟨_, h1, h2⟩
  rcases h with h | h
  · omega
  · exact h h2
theorem dest_on {l : List UInt8} {k : Nat} (h : k < l.length) (h1 : l.getD k 0 = 40) : dest l (k : Int) = (dends l (k + 1)).map fun j => (Ru.enc (Es.plain (mid l (k + 1) j)), j + 1) := by
  unfold dest; rw [Int.toNat_natCast, if_pos ⟨by omega, h, h1⟩]

/-! ### whether one may go there -/
end Go.Proofs.YtkfhkfagmokjpaaGreatDoor.Lk

namespace Go.Proofs.YtkfhkfagmokjpaaGreatDoor.Il

/-- an inline -/
inductive In where
  | mk (kind : Nat) (text dest : List UInt8) (kids : List In)
/-- an inline, or a run (its place among the runs), of which so many signs are left -/
structure Pt where
  inn : In
  run : Option Nat
  left : Nat
  ch : UInt8
def none_ : In := .mk 0 [] [] []
def word (s : List UInt8) : In := .mk 0 s [] []
/-- one plain more -/
def pput (l : List Pt) (s : List UInt8) : List Pt :=
  match l.getLast? with
  | some ⟨.mk 0 t d k, none, n, c⟩ => l.dropLast ++ [⟨.mk 0 (t ++ s) d k, none, n, c⟩]
  | _ => l ++ [⟨word s, none, 0, 0⟩]
/-- a part as an inline: a run's signs are text -/
def eff (p : Pt) : In :=
  match p.run with
  | some _ => (match p.inn with | .mk k _ d ks => .mk k (List.replicate p.left p.ch) d ks)
  | none => p.inn
/-- one inline more: plains side by side are one, empty ones are none -/
def iput (out : List In) (x : In) : List In :=
  match x with
  | .mk 0 t d ks =>
    if t = [] then out
    else (match out.getLast? with
      | some (.mk 0 t' d' ks') => out.dropLast ++ [.mk 0 (t' ++ t) d' ks']
      | _ => out ++ [.mk 0 t d ks])
  | x => out ++ [x]
def settle (l : List Pt) : List In := l.foldl (fun out p => iput out (eff p)) []
mutual
/-- what an inline says -/
def txt : In → List UInt8
  | .mk k t _ ks => (if k = 5 then [32] else []) ++ t ++ txts ks
def txts : List In → List UInt8
  | [] => []
  | x :: r => txt x ++ txts r
end
theorem txts_append : ∀ a b, txts (a ++ b) = txts a ++ txts b
  | [], b => by simp [txts]
  | x :: r, b => by rw [List.cons_append]; simp only [txts]; rw [txts_append r b, List.append_assoc]
theorem txts_snoc (a : List In) (x : In) : txts (a ++ [x]) = txts a ++ txt x := by rw [txts_append]; simp [txts]
theorem txts_take {l : List In} {k : Nat} (h : k < l.length) : txts (l.take (k + 1)) = txts (l.take k) ++ txt l[k] := by rw [List.take_succ_eq_append_getElem h, txts_snoc]
theorem txts_part (l : List In) (k : Nat) : (txts (l.take k)).length ≤ (txts l).length := by
  conv => rhs; rw [← List.take_append_drop k l, txts_append, List.length_append]
  omega
theorem txts_kid {l : List In} {k : Nat} (h : k < l.length) : (txt l[k]).length + (txts (l.take k)).length ≤ (txts l).length := by
  have := txts_part l (k + 1)
  rw [txts_take h, List.length_append] at this
  omega
/-- none with too many of its own -/
inductive Few : In → Prop where
  | mk {k : Nat} {t d : List UInt8} {ks : List In} : k ≤ 1000 → ks.length ≤ 1000000000 → (∀ x ∈ ks, Few x) → Few (.mk k t d ks)
end Go.Proofs.YtkfhkfagmokjpaaGreatDoor.Il

namespace Go.Proofs.YtkfhkfagmokjpaaGreatDoor.Em

/-- neither of a pair's runs lies within another pair -/
def outside (y x : Nat × Nat × Nat) : Prop := ¬ (y.1 < x.1 ∧ x.1 < y.2.1) ∧ ¬ (y.1 < x.2.1 ∧ x.2.1 < y.2.1)
theorem outside_step {l : List R} {c o : Nat} {st : St} (h : Inv l c st) (hp : st.2.Pairwise outside) (hl : 0 < lf st.1 c) (ho : opener l st.1 c c = some o) : (st.2 ++ [(o, c, size st.1 o c)]).Pairwise outside := by
  have hok := (opener_spec _ ho).2
  unfold ok at hok
  simp only [Bool.and_eq_true, decide_eq_true_eq] at hok
  have hlo := hok.1.2
  rw [List.pairwise_append]
  refine ⟨hp, List.pairwise_singleton _ _, fun y hy x hx => ?_⟩
  obtain rfl : x = (o, c, size st.1 o c) := by simpa using hx
  refine ⟨fun hc => ?_, fun hc => ?_⟩
  · have := h.zero y hy o hc.1 hc.2; omega
  · have := h.zero y hy c hc.1 hc.2; omega
theorem outside_innerF {l : List R} {c : Nat} : ∀ (f : Nat) (st : St), Inv l c st → st.2.Pairwise outside → (innerF l c f st).2.Pairwise outside
  | 0, _, _, hp => hp
  | f + 1, st, h, hp => by
    unfold innerF
    split
    · rename_i hc
      split
      · exact hp
      · rename_i o ho
        exact outside_innerF f _ (inv_step h hc.1 hc.2 ho) (outside_step h hp hc.2 ho)
    · exact hp
theorem outside_outer {l : List R} : ∀ (k c : Nat) (st : St), Inv l c st → st.2.Pairwise outside → (outer l k c st).2.Pairwise outside
  | 0, _, _, _, hp => hp
  | k + 1, c, st, h, hp => outside_outer k (c + 1) _ (inv_next (inv_innerF (lf st.1 c) st h)) (outside_innerF (lf st.1 c) st h hp)
theorem outside_pairs (l : List R) : (pairs l).Pairwise outside := by
  refine outside_outer l.length 0 _ ⟨by simp, by simp, by simp, fun i hi => ?_, List.Pairwise.nil⟩ List.Pairwise.nil
  simp only [used, List.map_nil, List.sum_nil, Nat.zero_add]
  rw [lf_at (by simpa using hi), List.getElem_map, get_at hi]
  exact Nat.le_refl _
end Go.Proofs.YtkfhkfagmokjpaaGreatDoor.Em

namespace Go.Proofs.YtkfhkfagmokjpaaGreatDoor.Ru
open Go.Lib

/-- 0 is read as U+FFFD -/
def zr (x : Nat) : Nat := if x = 0 then 65533 else x
def textR (l : List UInt8) : List Nat := (runes l).map zr
def text (l : List UInt8) : List UInt8 := enc (textR l)
/-- small letters -/
def sml (x : Nat) : Nat := if 65 ≤ x ∧ x ≤ 90 then x + 32 else x
def bl (x : Nat) : Bool := blankB (x : Int)
theorem bl_iff (x : Nat) : bl x = true ↔ (9 ≤ x ∧ x ≤ 13) ∨ x = 32 ∨ x = 160 ∨ x = 8195 ∨ x = 12288 := by
  unfold bl blankB; rw [decide_eq_true_iff]; omega
/-- one step: whether a blank was before, and what is out -/
def fstep (st : Bool × List Nat) (x : Nat) : Bool × List Nat :=
  if bl x = true then (true, st.2) else (false, (if st.1 = true ∧ st.2 ≠ [] then st.2 ++ [32] else st.2) ++ [sml x])
def foldS (X : List Nat) : Bool × List Nat := X.foldl fstep (false, [])
def fold (X : List Nat) : List Nat := (foldS X).2
end Go.Proofs.YtkfhkfagmokjpaaGreatDoor.Ru

namespace Go.Proofs.YtkfhkfagmokjpaaGreatDoor
open Go.RowKit

theorem runeEI : EI Tryz.prog 69 21 1 4 := EI.mk' Tryz.underlying69 (z := .int .i32 0) (by kernel_rfl) rfl (by omega)

set_option maxHeartbeats 1000000 in
set_option maxRecDepth 100000 in
theorem rrunes_any (l : List UInt8) (w : World) (hs : l.length ≤ 1000000000) :
    Calls Tryz.prog 28 #[.string (bs l)] w fun e w' => (∃ v, e = .returned v ∧ w'.ownsRow (w.heap.size + 1) 21 1 v (Ru.runes l).length (rcells (Ru.runes l))) ∧ Below w.heap.size w w' := by
  go_enter Tryz.func28, Tryz.ntmps28
  go_wp2
  go_loopw [3] (fun v wr => ∃ (pos : Nat) (D : List Nat), Hid (wr.heap[w.heap.size]? = some (.stringIter (bs l) pos)) ∧ Hid (D ++ Ru.runes (l.drop pos) = Ru.runes l) ∧ wr.ownsRow (w.heap.size + 1) 21 1 v D.length (rcells D) ∧ Below w.heap.size w wr)
    (fun _ wr => l.length - wr.iterPos w.heap.size)
  case atStart => exact ⟨0, [], Lib.hid (iter_new _ _ _ rfl), Lib.hid rfl, World.ownsRow_nil _ _ _ _, ext_alloc _ _⟩
  case round =>
    obtain ⟨pos, D, hit, hD, hown, hb⟩ := hrel
    have hdl := runes_part hD.out
    have hlt : w.heap.size < wr.heap.size := (Array.getElem?_eq_some_iff.1 hit.out).1
    by_cases hp : pos < l.length
    · obtain ⟨x, k, hk, hv, hd, hD2⟩ := runes_next hp hD.out
      have hnx := run_next_rune hit.out hp hd
      replace hD2 := Lib.hid hD2
      replace hd := Lib.hid hd
      have hit2 := Lib.hid (Lib.iterAt_heap wr w.heap.size (bs l) pos (pos + k) hit.out)
      have hb2 := Lib.below_iterAt hb (k := w.heap.size) (Nat.le_refl _) (bs l) (pos + k)
      have hpos : Hid (wr.iterPos w.heap.size = pos) := Lib.hid (by simp only [World.iterPos, hit.out])
      have hown2 := own_iterAt hown (k := w.heap.size) (by omega) (bs l) (pos + k)
      have hz2 : w.heap.size + 1 ≤ (wr.iterAt w.heap.size (bs l) (pos + k)).heap.size := by rw [Lib.iterAt_size]; omega
      go_wp2_with (at_builtin; refine wpList_app_new rfl (.tmp 11) (.tmp 13) rfl runeEI rfl hown2 rfl rfl rfl (by simp; rfl) (by omega) (by omega) hz2 ?_; intro v2 w2 hown3 hg hb3)
      have hit3 : Hid (w2.heap[w.heap.size]? = some (.stringIter (bs l) (pos + k))) := Lib.hid ((hg.out.block w.heap.size (by omega) (fun e => own_ne_lt hown2 (k := w.heap.size) (by omega) e.symm)).trans hit2.out)
      have hpos2 : Hid (w2.iterPos w.heap.size = pos + k) := Lib.hid (by simp only [World.iterPos, hit3.out])
      go_roundw
      case rel => exact ⟨pos + k, D ++ [x], hit3, hD2, by simpa [rcells] using hown3, hb2.trans (hb3.mono (by omega))⟩
      case measure => rw [hpos.out, hpos2.out]; omega
    · have hnx := run_next_done hit.out hp
      have hDe := runes_done hp hD.out
      clear hD
      subst hDe
      go_wp2
      go_ret
      exact ⟨⟨_, rfl, hown⟩, hb⟩

theorem runesBytes_enc (X : List Nat) : runesBytes (X.map fun x : Nat => (x : Int)) = bs (Ru.enc X) := by
  have : ∀ (X : List Nat) (s : List UInt8), (X.map fun x : Nat => (x : Int)).foldl (fun r n => r ++ Utf8.encode n) (bs s) = bs (s ++ Ru.enc X) := by
    intro X
    induction X with
    | nil => intro s; simp [Ru.enc_nil]
    | cons x X ih =>
      intro s
      have he : Utf8.encode (x : Int) = bs (Lib.encodeRune (x : Int)) := Ru.encode_eq _
      rw [List.map_cons, List.foldl_cons, he, bs_append, ih, Ru.enc_cons, List.append_assoc]
  exact this X []

/-- runes made a text -/
theorem run_runes {P : Program} {w : World} {B n c : Nat} {A : Option Addr} {X : List Nat} (h : Row w B 1 A n (rcells X)) (src e dst : TypeId) (hs : P.underlying src = some (.slice e)) (he : P.underlying e = some (.int .i32)) (hd : P.underlying dst = some .string) :
    (convert src dst (.slice A n c)).run P w = .ok (.string (bs (Ru.enc X))) w := by
  have hn : X.length = n := by have := h.1; simpa [rcells] using this
  rcases A with _ | ad
  · have h0 : n = 0 := by
      rcases Nat.eq_zero_or_pos n with h0 | h0
      · exact h0
      · obtain ⟨b, o, e, _⟩ := h.2 h0; cases e
    subst h0
    have : X = [] := List.eq_nil_of_length_eq_zero hn
    subst this
    rw [run_convert_runes_nil w src dst e 0 c hs he hd]
    rfl
  · rw [run_convert_runes w src dst e ad n c (X.map fun x : Nat => (x : Int)) (by simp; omega) hs he hd ?_]
    · rw [List.take_of_length_le (by simp; omega), runesBytes_enc]
    · intro j hj
      have hj' : j < X.length := by simpa using hj
      obtain ⟨b, o, ha, _, hc⟩ := h.2 (by omega)
      cases ha
      have := hc j (.int .i32 (X[j] : Int)) (by simp [rcells, List.getElem?_eq_getElem hj'])
      have ea : (⟨b, o, none⟩ : Addr).add j = ⟨b, o + j, none⟩ := by unfold Addr.add; split <;> simp_all
      rw [ea, this]
      simp [List.getD, List.getElem?_eq_getElem hj']
end Go.Proofs.YtkfhkfagmokjpaaGreatDoor

namespace Go.Proofs.YtkfhkfagmokjpaaGreatDoor
open Go.RowKit

set_option maxHeartbeats 2000000 in
set_option maxRecDepth 100000 in
theorem rone_any (l : List UInt8) (k : Nat) (h : k < l.length) (hs : l.length ≤ 1000000000000) (w : World) :
    Calls Tryz.prog 51 #[.string (bs l), .int .i64 (k : Int)] w fun e w' => e = .returned (.tuple #[.int .i32 ((Lib.decodeL (l.drop k)).1 : Int), .int .i64 ((Lib.decodeL (l.drop k)).2 : Int)]) ∧ Below w.heap.size w w' := by
  have hfr := run_from (S := l) (i := k) (by omega) w
  have hsz := bs_size l
  obtain ⟨T, hT⟩ : ∃ T, T = l.drop k := ⟨_, rfl⟩
  have hTl : T.length = l.length - k := by rw [hT, List.length_drop]
  rw [← hT] at hfr ⊢
  clear hT
  obtain ⟨x, n, hn, hle, hd, _⟩ := rune_at (l := T) (pos := 0) (by omega)
  rw [Nat.zero_add] at hle
  have hde : Hid (Lib.decodeL T = (x, n)) := Lib.hid (by rw [← hd, ← runes_next.decodeL_drop' T 0, List.drop_zero])
  rw [hde.out]
  go_enter Tryz.func51, Tryz.ntmps51
  go_wp2
  go_loopw [7, 6] (fun o m wr => ∃ (pos : Nat), Hid (wr.heap[w.heap.size]? = some (.stringIter (bs T) pos)) ∧ Below w.heap.size w wr ∧ (pos = 0 ∨ pos = n ∧ o = .int .i32 (x : Int) ∧ m = .int .i64 ((l.length : Int) - k)))
    (fun _ _ wr => T.length - wr.iterPos w.heap.size)
  case atStart => exact ⟨0, Lib.hid (iter_new _ _ _ rfl), ext_alloc _ _, .inl rfl⟩
  case round =>
    obtain ⟨pos, hit, hb, rfl | ⟨rfl, rfl, rfl⟩⟩ := hrel
    · have hnx := run_next_rune hit.out (show 0 < T.length by omega) hd
      replace hd := Lib.hid hd
      have hit2 := Lib.hid (Lib.iterAt_heap wr w.heap.size (bs T) 0 n hit.out)
      have hb2 := Lib.below_iterAt hb (k := w.heap.size) (Nat.le_refl _) (bs T) n
      have hpos := Lib.hid (show wr.iterPos w.heap.size = 0 by simp only [World.iterPos, hit.out])
      have hpos2 := Lib.hid (show (wr.iterAt w.heap.size (bs T) n).iterPos w.heap.size = n by simp only [World.iterPos, hit2.out])
      go_wp2
      go_roundw
      case rel => exact ⟨n, hit2, hb2, .inr ⟨rfl, rfl, by go_num⟩⟩
      case measure => rw [hpos.out, hpos2.out]; omega
    · by_cases hp : pos < T.length
      · obtain ⟨x2, n2, _, _, hd2, _⟩ := rune_at (l := T) (pos := pos) hp
        have hnx := run_next_rune hit.out hp hd2
        replace hd := Lib.hid hd
        replace hd2 := Lib.hid hd2
        have hb2 := Lib.below_iterAt hb (k := w.heap.size) (Nat.le_refl _) (bs T) (pos + n2)
        go_wp2
        go_ret2
        exact ⟨rfl, hb2⟩
      · have hnx := run_next_done hit.out hp
        replace hd := Lib.hid hd
        have he : ((l.length : Int) - k) = pos := by omega
        rw [he]
        go_wp2
        go_ret2
        exact ⟨rfl, hb⟩

/-- what Next answers -/
def nextV (l : List UInt8) (k : Nat) : Value := .tuple #[.int .i32 ((Es.next l k).1 : Int), .int .i64 ((Es.next l k).2.1 : Int), .bool (Es.next l k).2.2]
theorem nextV_out {l : List UInt8} {k : Nat} (h : l.length ≤ k) : nextV l k = .tuple #[.int .i32 0, .int .i64 (l.length : Int), .bool false] := by
  unfold nextV; rw [Es.next_out h]; rfl
theorem nextV_yes {l : List UInt8} {k : Nat} (h : k + 1 < l.length) (h1 : l[k] = 92) (h2 : Es.asc l[k + 1] = true) : nextV l k = .tuple #[.int .i32 (l[k + 1].toNat : Int), .int .i64 ((k : Int) + 2), .bool true] := by
  have hd : l.drop k = l[k] :: l[k + 1] :: l.drop (k + 2) := by rw [List.drop_eq_getElem_cons (by omega), List.drop_eq_getElem_cons (by omega)]
  have he : Es.isEsc (l.drop k) = true := by rw [hd]; simp [Es.isEsc, h1, h2]
  unfold nextV; rw [Es.next_in (by omega), Es.step_yes he, hd]; rfl
theorem nextV_no {l : List UInt8} {k : Nat} (h : k < l.length) (he : Es.isEsc (l.drop k) = false) : nextV l k = .tuple #[.int .i32 ((Lib.decodeL (l.drop k)).1 : Int), .int .i64 ((k : Int) + (Lib.decodeL (l.drop k)).2), .bool false] := by
  unfold nextV; rw [Es.next_in h, Es.step_no he]; simp
theorem isEsc_no {l : List UInt8} {k : Nat} (h : k < l.length) (h1 : l[k] ≠ 92 ∨ l.length ≤ k + 1 ∨ ∃ h : k + 1 < l.length, Es.asc l[k + 1] = false) : Es.isEsc (l.drop k) = false := by
  rw [List.drop_eq_getElem_cons h]
  rcases h1 with h1 | h1 | ⟨h1, h2⟩
  · exact Es.isEsc_high h1
  · rw [List.drop_eq_nil_of_le h1]; rfl
  · rw [List.drop_eq_getElem_cons h1]; simp [Es.isEsc, h2]

set_option maxHeartbeats 4000000 in
set_option maxRecDepth 100000 in
theorem rnext_any (l : List UInt8) (at_ : Int) (hs : l.length ≤ 1000000000000) (w : World) :
    Calls Tryz.prog 32 #[.string (bs l), .int .i64 at_] w fun e w' => e = .returned (nextV l at_.toNat) ∧ Below w.heap.size w w' := by
  have hsz := bs_size l
  obtain ⟨k, hk⟩ : ∃ k, k = at_.toNat := ⟨_, rfl⟩
  have hmx : max at_ 0 = (k : Int) := by omega
  have hmx2 : (if at_ < 0 then 0 else at_) = (k : Int) := by omega
  rw [← hk]
  by_cases hin : k < l.length
  · have hix := run_byte hin
    have hdl : k + (Lib.decodeL (l.drop k)).2 ≤ l.length := by
      have := Lib.decodeL_le (l.drop k) (Es.drop_ne hin)
      rw [List.length_drop] at this; omega
    by_cases h92 : l[k] = 92
    · have ht : ((l[k].toNat : Int) == 92) = true := by rw [h92]; rfl
      by_cases hk1 : k + 1 < l.length
      · have hix1 : ∀ w : World, (Instr.index 9 (.string (bs l)) (.int .i64 ((k : Int) + 1))).run Tryz.prog w = .ok (.int .u8 (l[k + 1].toNat : Int)) w := fun w => run_byte_at hk1 (by omega) w
        have hb8 := l[k + 1].toNat_lt
        cases hasc : Es.asc l[k + 1] with
        | true =>
          have ha : asciiB (l[k + 1].toNat : Int) = true := hasc
          rw [nextV_yes hk1 h92 hasc]
          replace hasc := Lib.hid hasc
          replace hk := Lib.hid hk
          go_enter Tryz.func32, Tryz.ntmps32
          go_wp2_with (go_at_call 55; refine (rascii_any _ _).mono ?_; rintro e w1 ⟨rfl, rfl⟩; rw [ha])
          go_ret3
          exact ⟨rfl, Below.refl _ _⟩
        | false =>
          have ha : asciiB (l[k + 1].toNat : Int) = false := hasc
          rw [nextV_no hin (isEsc_no hin (.inr (.inr ⟨hk1, hasc⟩)))]
          replace hasc := Lib.hid hasc
          replace hk := Lib.hid hk
          go_enter Tryz.func32, Tryz.ntmps32
          go_wp2_with (first | (go_at_call 55; refine (rascii_any _ _).mono ?_; rintro e w1 ⟨rfl, rfl⟩; rw [ha]) | (go_at_call 51; refine (rone_any l k hin hs _).mono ?_; rintro e w2 ⟨rfl, hb⟩))
          go_ret3
          exact ⟨rfl, hb⟩
      · rw [nextV_no hin (isEsc_no hin (.inr (.inl (by omega))))]
        replace hk := Lib.hid hk
        go_enter Tryz.func32, Tryz.ntmps32
        go_wp2_with (first | (go_at_call 51; refine (rone_any l k hin hs _).mono ?_; rintro e w2 ⟨rfl, hb⟩))
        go_ret3
        exact ⟨rfl, hb⟩
    · have ht : ((l[k].toNat : Int) == 92) = false := byte_ne (n := 92) (by omega) h92
      rw [nextV_no hin (isEsc_no hin (.inl h92))]
      replace hk := Lib.hid hk
      go_enter Tryz.func32, Tryz.ntmps32
      go_wp2_with (first | (go_at_call 51; refine (rone_any l k hin hs _).mono ?_; rintro e w2 ⟨rfl, hb⟩))
      go_ret3
      exact ⟨rfl, hb⟩
  · rw [nextV_out (by omega)]
    replace hk := Lib.hid hk
    go_enter Tryz.func32, Tryz.ntmps32
    go_wp2
    go_ret3
    exact ⟨rfl, Below.refl _ _⟩

set_option maxHeartbeats 2000000 in
set_option maxRecDepth 100000 in
theorem rplain_any (l : List UInt8) (w : World) (hs : l.length ≤ 1000000000) :
    Calls Tryz.prog 53 #[.string (bs l)] w fun e w' => e = .returned (.string (bs (Ru.enc (Es.plain l)))) ∧ Below w.heap.size w w' := by
  have hsz := bs_size l
  go_enter Tryz.func53, Tryz.ntmps53
  go_wp2
  go_loopw [3, 4] (fun v i wr => ∃ (k : Nat) (D : List Nat), k ≤ l.length ∧ D.length ≤ k ∧ i = .int .i64 k ∧ Hid (D ++ Es.plain (l.drop k) = Es.plain l) ∧ wr.ownsRow w.heap.size 21 1 v D.length (rcells D) ∧ Below w.heap.size w wr)
    (fun _ i _ => l.length - (intOf i).toNat)
  case atStart => exact ⟨0, [], Nat.zero_le _, Nat.zero_le _, rfl, Lib.hid rfl, World.ownsRow_nil _ _ _ _, Below.refl _ _⟩
  case round =>
    obtain ⟨k, D, hk, hDk, rfl, hD, hown, hb⟩ := hrel
    by_cases hp : k < l.length
    · obtain ⟨hm1, hm2⟩ := Es.next_more hp
      have hD2 : Hid ((D ++ [(Es.next l k).1]) ++ Es.plain (l.drop (Es.next l k).2.1) = Es.plain l) := Lib.hid (by rw [← hD.out, Es.plain_at hp, List.append_assoc]; rfl)
      have hV : nextV l k = .tuple #[.int .i32 ((Es.next l k).1 : Int), .int .i64 ((Es.next l k).2.1 : Int), .bool (Es.next l k).2.2] := rfl
      have hcall := fun w => rnext_any l (k : Int) (by omega) w
      rw [show ((k : Int)).toNat = k from by omega, hV] at hcall
      clear hV
      obtain ⟨x, hx⟩ : ∃ x, x = (Es.next l k).1 := ⟨_, rfl⟩
      obtain ⟨n, hn⟩ : ∃ n, n = (Es.next l k).2.1 := ⟨_, rfl⟩
      obtain ⟨o, ho⟩ : ∃ o, o = (Es.next l k).2.2 := ⟨_, rfl⟩
      rw [← hx, ← hn, ← ho] at hcall
      rw [← hx, ← hn] at hD2
      rw [← hn] at hm1 hm2
      clear hx hn ho
      go_wp2_with fail
      refine (hcall _).mono ?_
      rintro e w1 ⟨rfl, hb1⟩
      clear hcall
      have hown1 := own_below hown hb1
      have hb1' := hb.trans (hb1.mono hb.size)
      clear hown
      have hz1 : w.heap.size ≤ w1.heap.size := hb1'.size
      go_wp2_with (at_builtin; refine wpList_app_new rfl (.tmp 19) (.tmp 21) rfl runeEI rfl hown1 rfl rfl rfl (by simp; rfl) (by omega) (by omega) hz1 ?_; intro v2 w2 hown3 hg hb3)
      go_roundw
      case rel => exact ⟨n, D ++ [x], hm2, by simp; omega, rfl, hD2, by simpa [rcells] using hown3, hb1'.trans hb3⟩
      case measure => simp [intOf]; omega
    · have hDe : D = Es.plain l := by
        rw [← hD.out, List.drop_eq_nil_of_le (by omega), Es.plain_nil, List.append_nil]
      subst hDe
      clear hD
      obtain ⟨A, c, rfl, hc⟩ := own_shape hown
      have hcv := run_runes (c := c) (Row.own hown) 69 21 9 Tryz.underlying69 Tryz.underlying21 Tryz.underlying9
      go_wp2
      go_ret
      exact ⟨rfl, hb⟩

end Go.Proofs.YtkfhkfagmokjpaaGreatDoor

namespace Go.Proofs.YtkfhkfagmokjpaaGreatDoor
open Go.RowKit

/-- the rune at a place: a byte below 128 is itself; else it is 128 or more, and so are its bytes -/
theorem first_rune {l : List UInt8} {pos : Nat} (h : pos < l.length) : ∃ x k : Nat, 1 ≤ k ∧ pos + k ≤ l.length ∧ Utf8.decode (bs l) pos = (x, k) ∧ x ≤ 1114111 ∧ Lib.decodeL (l.drop pos) = (x, k) ∧
    ((l[pos].toNat < 128 ∧ x = l[pos].toNat ∧ k = 1) ∨ (128 ≤ l[pos].toNat ∧ 128 ≤ x ∧ ∀ j (hj : j < l.length), pos ≤ j → j < pos + k → 128 ≤ l[j].toNat)) := by
  have hd := runes_next.decodeL_drop' l pos
  have hne : l.drop pos ≠ [] := Es.drop_ne h
  obtain ⟨h4, hle, hct⟩ := Ru.rune_bytes hne
  have hle2 := hle
  rw [List.length_drop] at hle2
  refine ⟨(Lib.decodeL (l.drop pos)).1, (Lib.decodeL (l.drop pos)).2, Lib.decodeL_width _, by omega, by rw [← hd], Lib.decodeL_rune _, rfl, ?_⟩
  have hc : l.drop pos = l[pos] :: l.drop (pos + 1) := List.drop_eq_getElem_cons h
  by_cases hb : l[pos].toNat < 128
  · left
    rw [hc, Es.decodeL_low hb]
    exact ⟨hb, rfl, rfl⟩
  · right
    refine ⟨by omega, ?_, ?_⟩
    · rw [Lib.decodeL_N]
      have e0 : (l.drop pos).getD 0 0 = l[pos] := by rw [hc]; rfl
      rw [e0]
      rcases Lib.decodeN_shape (l.drop pos).length l[pos].toNat ((l.drop pos).getD 1 0).toNat ((l.drop pos).getD 2 0).toNat ((l.drop pos).getD 3 0).toNat with ⟨c, e⟩ | ⟨c1, c2, c3, cv, e⟩ | ⟨c1, c2, c3, c4, cv, cs, e⟩ | ⟨c1, c2, c3, c4, c5, cv, cw, e⟩ | e
      all_goals (rw [e]; simp only; omega)
    · intro j hj h1 h2
      rcases Nat.lt_or_eq_of_le h1 with h1 | h1
      · have := hct (j - pos) (by omega) (by omega)
        have e : (l.drop pos).getD (j - pos) 0 = l[j] := by
          rw [List.getD_eq_getElem?_getD, List.getElem?_drop, show pos + (j - pos) = j by omega, List.getElem?_eq_getElem hj]; rfl
        rw [e] at this
        omega
      · subst h1; omega

end Go.Proofs.YtkfhkfagmokjpaaGreatDoor

namespace Go.Proofs.YtkfhkfagmokjpaaGreatDoor
open Go.RowKit

theorem auto_no {l : List UInt8} {at_ : Int} (h : at_ < 0 ∨ (0 ≤ at_ ∧ (l.length : Int) ≤ at_) ∨ (0 ≤ at_ ∧ ∃ h : at_.toNat < l.length, l[at_.toNat] ≠ 60)) : Lk.auto l at_ = none := by
  rcases h with h | ⟨h0, h⟩ | ⟨h0, hl, h⟩
  · exact Lk.auto_neg h
  · obtain ⟨k, rfl⟩ : ∃ k : Nat, at_ = (k : Int) := ⟨at_.toNat, by omega⟩
    exact Lk.auto_off (Lk.starts_no (.inl (by omega)))
  · obtain ⟨k, rfl⟩ : ∃ k : Nat, at_ = (k : Int) := ⟨at_.toNat, by omega⟩
    refine Lk.auto_off (Lk.starts_no (.inr (.inl ?_)))
    rw [List.getD_eq_getElem?_getD, List.getElem?_eq_getElem (by simpa using hl)]
    simpa using h

set_option maxHeartbeats 4000000 in
set_option maxRecDepth 100000 in
theorem rauto_out (l : List UInt8) (at_ : Int) (_hs : l.length ≤ 1000000000000) (ho : at_ < 0 ∨ (0 ≤ at_ ∧ (l.length : Int) ≤ at_) ∨ (0 ≤ at_ ∧ ∃ h : at_.toNat < l.length, l[at_.toNat] ≠ 60)) (w : World) :
    Calls Tryz.prog 27 #[.string (bs l), .int .i64 at_] w fun e w' => e = .returned (spanV none) ∧ Below w.heap.size w w' := by
  have hsz := bs_size l
  rcases ho with h | ⟨h0, h⟩ | ⟨h0, hl, h⟩
  · go_enter Tryz.func27, Tryz.ntmps27
    go_wp2
    go_ret3
    exact ⟨rfl, Below.refl _ _⟩
  · go_enter Tryz.func27, Tryz.ntmps27
    go_wp2
    go_ret3
    exact ⟨rfl, Below.refl _ _⟩
  · have hix := run_byte_at (i := at_.toNat) (v := at_) (S := l) hl (by omega) w
    have h1 : ((l[at_.toNat].toNat : Int) == 60) = false := byte_ne (n := 60) (by omega) h
    have h' : ((l[at_.toNat].toNat : Int) != 60) = true := by simp only [bne, h1]; rfl
    clear h
    go_enter Tryz.func27, Tryz.ntmps27
    go_wp2
    go_ret3
    exact ⟨rfl, Below.refl _ _⟩

set_option maxHeartbeats 4000000 in
set_option maxRecDepth 100000 in
theorem rauto_on (l : List UInt8) (k : Nat) (hk : k < l.length) (hs : l.length ≤ 1000000000000) (h60 : l[k] = 60) (w : World) :
    Calls Tryz.prog 27 #[.string (bs l), .int .i64 (k : Int)] w fun e w' => e = .returned (spanV (Lk.auto l (k : Int))) ∧ Below w.heap.size w w' := by
  have hsz := bs_size l
  have hix := run_byte hk w
  have ht : ((l[k].toNat : Int) == 60) = true := byte_eq (n := 60) (by omega) h60
  have ht2 : ((l[k].toNat : Int) != 60) = false := by simp only [bne, ht]; rfl
  have hg60 : Hid (l.getD k 0 = 60) := Lib.hid (by rw [List.getD_eq_getElem?_getD, List.getElem?_eq_getElem hk]; simpa using h60)
  clear h60
  have hnl := Lk.letters_le (l.drop (k + 1))
  rw [List.length_drop] at hnl
  have hon := fun h => Lk.auto_on (l := l) (k := k) h rfl
  have hoff := fun h => Lk.auto_off (l := l) (k := k) (Lk.starts_no (.inr (.inr h)))
  have hst : 2 ≤ Lk.letters (l.drop (k + 1)) → Lk.letters (l.drop (k + 1)) ≤ 12 → l.getD (k + 1 + Lk.letters (l.drop (k + 1))) 0 = 58 → Lk.starts l k = true := fun h1 h2 h3 => by
    unfold Lk.starts; exact decide_eq_true ⟨hk, hg60.out, h1, h2, h3⟩
  obtain ⟨R, hR⟩ : ∃ R, R = Lk.auto l (k : Int) := ⟨_, rfl⟩
  rw [← hR] at hon hoff ⊢
  clear hR hg60
  obtain ⟨n, hn⟩ : ∃ n, n = Lk.letters (l.drop (k + 1)) := ⟨_, rfl⟩
  rw [← hn] at hon hoff hst hnl
  replace hn := Lib.hid hn
  replace hon := Lib.hid (fun h1 h2 h3 => hon (hst h1 h2 h3))
  replace hoff := Lib.hid hoff
  clear hst
  go_enter Tryz.func27, Tryz.ntmps27
  go_wp2_with fail
  go_loop [7] (fun u => ∃ i : Nat, k + 1 ≤ i ∧ i ≤ l.length ∧ u = .int .i64 i ∧ Hid (i + Lk.letters (l.drop i) = k + 1 + n)) (fun u => l.length - (intOf u).toNat)
  case atStart => exact ⟨k + 1, by omega, by omega, by go_num, Lib.hid (by rw [hn.out])⟩
  case round =>
    obtain ⟨i, hi1, hi2, rfl, hf⟩ := hrel
    clear hix ht ht2
    by_cases hil : i < l.length
    · have hx := run_byte hil w
      cases hsm : Lk.small l[i] with
      | true =>
        have hf2 : Hid (i + 1 + Lk.letters (l.drop (i + 1)) = k + 1 + n) := Lib.hid (by have := hf.out; rw [Lk.letters_at hil hsm] at this; omega)
        obtain ⟨q1, q2⟩ := (Lk.small_iff _).1 hsm
        clear hsm
        go_wp2
        go_round
        case rel => exact ⟨i + 1, by omega, by omega, by go_num, hf2⟩
        case measure => simp [intOf]; omega
      | false =>
        have hin : i = k + 1 + n := by have := hf.out; rw [Lk.letters_no hil hsm] at this; omega
        have hgi : l.getD (k + 1 + n) 0 = l[i] := by rw [← hin, List.getD_eq_getElem?_getD, List.getElem?_eq_getElem hil]; rfl
        have hb8 := l[i].toNat_lt
        rw [hgi] at hoff hon
        clear hf hgi
        have hin1 : i ≤ k + 1 + n := by omega
        have hin2 : k + 1 + n ≤ i := by omega
        replace hin := Lib.hid hin
        by_cases h2 : n < 2
        · have hres : R = none := hoff.out (.inl h2)
          subst hres
          clear hoff hon
          have hcase := Lk.small_no hsm
          clear hsm
          rcases hcase with q | ⟨q1, q2⟩
          all_goals
            go_wp2
            go_ret3
            exact ⟨rfl, Below.refl _ _⟩
        · by_cases h12 : 12 < n
          · have hres : R = none := hoff.out (.inr (.inl h12))
            subst hres
            clear hoff hon
            have hcase := Lk.small_no hsm
            clear hsm
            rcases hcase with q | ⟨q1, q2⟩
            all_goals
              go_wp2
              go_ret3
              exact ⟨rfl, Below.refl _ _⟩
          · by_cases h58 : l[i] = 58
            · have hR2 : R = (Lk.ends l i).map fun j => (mid l (k + 1) j, j + 1) := by rw [hin.out]; exact hon.out (by omega) (by omega) h58
              have t58 : ((l[i].toNat : Int) == 58) = true := byte_eq (n := 58) (by omega) h58
              have t58' : ((l[i].toNat : Int) != 58) = false := by simp only [bne, t58]; rfl
              have q : l[i].toNat < 97 := by rw [h58]; decide
              have tle : ((i : Int) == (l.length : Int)) = false := by simp; omega
              replace hR2 := Lib.hid hR2
              clear hoff hon hsm h58
              go_wp2_with fail
              go_loopw [7, 9, 10] (fun u _ _ wr => ∃ j : Nat, i ≤ j ∧ j ≤ l.length ∧ u = .int .i64 j ∧ Hid (Lk.ends l i = Lk.ends l j) ∧ Below w.heap.size w wr) (fun u _ _ _ => l.length - (intOf u).toNat)
              case atStart => exact ⟨i, by omega, hi2, by go_num, Lib.hid rfl, Below.refl _ _⟩
              case round =>
                obtain ⟨j, hj1, hj2, rfl, he, hb⟩ := hrel
                clear hx t58 t58'
                by_cases hjl : j < l.length
                · have hstep := Lk.ends_step hjl
                  rw [← he.out] at hstep
                  have hw1 := Lib.decodeL_width (l.drop j)
                  have hw2 := Lib.decodeL_le (l.drop j) (Es.drop_ne hjl)
                  rw [List.length_drop] at hw2
                  have q1 := rone_any l j hjl (by omega) wr
                  obtain ⟨x, hx⟩ : ∃ x, x = (Lib.decodeL (l.drop j)).1 := ⟨_, rfl⟩
                  obtain ⟨m, hm⟩ : ∃ m, m = (Lib.decodeL (l.drop j)).2 := ⟨_, rfl⟩
                  rw [← hx] at q1 hstep
                  rw [← hm] at q1 hstep hw1 hw2
                  clear hx hm
                  by_cases h62 : x = 62
                  · have hres : R = some (mid l (k + 1) j, j + 1) := by rw [hR2.out, hstep, if_pos h62]; rfl
                    have t : (((x : Nat) : Int) == 62) = true := by simp [h62]
                    have hcut := fun w => run_mid_at (S := l) (i := k + 1) (j := j) (v := (k : Int) + 1) (u := (j : Int)) (by omega) (by omega) (by omega) rfl w
                    subst hres
                    clear hstep he hR2 h62
                    go_wp2_with fail
                    refine q1.mono ?_
                    rintro e w1 ⟨rfl, hb1⟩
                    replace hb1 := ext_trans hb hb1
                    have hcut1 := hcut w1
                    go_wp2
                    go_ret3
                    exact ⟨rfl, hb1⟩
                  · have t : (((x : Nat) : Int) == 62) = false := by simp; omega
                    rw [if_neg h62] at hstep
                    by_cases h60 : x = 60
                    · have hres : R = none := by rw [hR2.out, hstep, if_pos (.inl h60)]; rfl
                      have t2 : (((x : Nat) : Int) == 60) = true := by simp [h60]
                      subst hres
                      clear hstep he hR2 h62 h60
                      go_wp2_with fail
                      refine q1.mono ?_
                      rintro e w1 ⟨rfl, hb1⟩
                      replace hb1 := ext_trans hb hb1
                      go_wp2
                      go_ret3
                      exact ⟨rfl, hb1⟩
                    · have t2 : (((x : Nat) : Int) == 60) = false := by simp; omega
                      have qb := fun w => rblank_any (x : Int) w
                      cases hbl : blankB (x : Int) with
                      | true =>
                        have hres : R = none := by rw [hR2.out, hstep, if_pos (.inr hbl)]; rfl
                        rw [hbl] at qb
                        subst hres
                        clear hstep he hR2 h62 h60 hbl
                        go_wp2_with fail
                        refine q1.mono ?_
                        rintro e w1 ⟨rfl, hb1⟩
                        replace hb1 := ext_trans hb hb1
                        go_wp2_with fail
                        refine (qb _).mono ?_
                        rintro e w2 ⟨rfl, rfl⟩
                        go_wp2
                        go_ret3
                        exact ⟨rfl, hb1⟩
                      | false =>
                        rw [if_neg (by rw [hbl]; simp [h60])] at hstep
                        rw [hbl] at qb
                        have he2 : Hid (Lk.ends l i = Lk.ends l (j + m)) := Lib.hid hstep
                        clear hstep he h62 h60 hbl
                        go_wp2_with fail
                        refine q1.mono ?_
                        rintro e w1 ⟨rfl, hb1⟩
                        replace hb1 := ext_trans hb hb1
                        go_wp2_with fail
                        refine (qb _).mono ?_
                        rintro e w2 ⟨rfl, rfl⟩
                        go_wp2_with fail
                        go_roundw
                        case rel => exact ⟨j + m, by omega, by omega, by go_num, he2, hb1⟩
                        case measure => simp [intOf]; omega
                · have hres : R = none := by rw [hR2.out, he.out, Lk.ends_out (by omega)]; rfl
                  subst hres
                  clear he hR2
                  go_wp2
                  go_ret3
                  exact ⟨rfl, hb⟩
            · have hres : R = none := hoff.out (.inr (.inr h58))
              have t58 : ((l[i].toNat : Int) == 58) = false := byte_ne (n := 58) (by omega) h58
              have t58' : ((l[i].toNat : Int) != 58) = true := by simp only [bne, t58]; rfl
              subst hres
              clear hoff hon h58
              have hcase := Lk.small_no hsm
              clear hsm
              rcases hcase with q | ⟨q1, q2⟩
              all_goals
                go_wp2
                go_ret3
                exact ⟨rfl, Below.refl _ _⟩
    · have hin : i = k + 1 + n := by have := hf.out; rw [Lk.letters_end hil] at this; omega
      have hgi : l.getD (k + 1 + n) 0 = 0 := by rw [← hin, List.getD_eq_getElem?_getD, List.getElem?_eq_none (by omega)]; rfl
      have hres : R = none := hoff.out (.inr (.inr (by rw [hgi]; decide)))
      subst hres
      have hin1 : i ≤ k + 1 + n := by omega
      have hin2 : k + 1 + n ≤ i := by omega
      clear hoff hon hf hgi hin
      by_cases h2 : n < 2
      · go_wp2
        go_ret3
        exact ⟨rfl, Below.refl _ _⟩
      · by_cases h12 : 12 < n
        · go_wp2
          go_ret3
          exact ⟨rfl, Below.refl _ _⟩
        · go_wp2
          go_ret3
          exact ⟨rfl, Below.refl _ _⟩

theorem rauto_any (l : List UInt8) (at_ : Int) (hs : l.length ≤ 1000000000000) (w : World) :
    Calls Tryz.prog 27 #[.string (bs l), .int .i64 at_] w fun e w' => e = .returned (spanV (Lk.auto l at_)) ∧ Below w.heap.size w w' := by
  by_cases h : at_ < 0 ∨ (0 ≤ at_ ∧ (l.length : Int) ≤ at_) ∨ (0 ≤ at_ ∧ ∃ h : at_.toNat < l.length, l[at_.toNat] ≠ 60)
  · rw [auto_no h]; exact rauto_out l at_ hs h w
  · obtain ⟨k, rfl⟩ : ∃ k : Nat, at_ = (k : Int) := ⟨at_.toNat, by omega⟩
    have hk : k < l.length := by omega
    exact rauto_on l k hk hs (Decidable.byContradiction fun hc => h (.inr (.inr ⟨by omega, by simpa using hk, by simpa using hc⟩))) w
end Go.Proofs.YtkfhkfagmokjpaaGreatDoor

namespace Go.Proofs.YtkfhkfagmokjpaaGreatDoor
open Go.RowKit

/-- a place, or none -/
def placeV : Option Nat → Value
  | none => .tuple #[.int .i64 0, .bool false]
  | some p => .tuple #[.int .i64 (p : Int), .bool true]
theorem close_no {l : List UInt8} {at_ : Int} (h : at_ < 0 ∨ (0 ≤ at_ ∧ (l.length : Int) ≤ at_) ∨ (0 ≤ at_ ∧ ∃ h : at_.toNat < l.length, l[at_.toNat] ≠ 91)) : Lk.close l at_ = none := by
  rcases h with h | ⟨h0, h⟩ | ⟨h0, hl, h⟩
  · exact Lk.close_neg h
  · obtain ⟨k, rfl⟩ : ∃ k : Nat, at_ = (k : Int) := ⟨at_.toNat, by omega⟩
    exact Lk.close_off (.inl (by omega))
  · obtain ⟨k, rfl⟩ : ∃ k : Nat, at_ = (k : Int) := ⟨at_.toNat, by omega⟩
    refine Lk.close_off (.inr ?_)
    rw [List.getD_eq_getElem?_getD, List.getElem?_eq_getElem (by simpa using hl)]
    simpa using h

set_option maxHeartbeats 4000000 in
set_option maxRecDepth 100000 in
theorem rclose_out (l : List UInt8) (at_ : Int) (_hs : l.length ≤ 1000000000000) (ho : at_ < 0 ∨ (0 ≤ at_ ∧ (l.length : Int) ≤ at_) ∨ (0 ≤ at_ ∧ ∃ h : at_.toNat < l.length, l[at_.toNat] ≠ 91)) (w : World) :
    Calls Tryz.prog 29 #[.string (bs l), .int .i64 at_] w fun e w' => e = .returned (placeV none) ∧ Below w.heap.size w w' := by
  have hsz := bs_size l
  rcases ho with h | ⟨h0, h⟩ | ⟨h0, hl, h⟩
  · go_enter Tryz.func29, Tryz.ntmps29
    go_wp2
    go_ret2
    exact ⟨rfl, Below.refl _ _⟩
  · go_enter Tryz.func29, Tryz.ntmps29
    go_wp2
    go_ret2
    exact ⟨rfl, Below.refl _ _⟩
  · have hix := run_byte_at (i := at_.toNat) (v := at_) (S := l) hl (by omega) w
    have h1 : ((l[at_.toNat].toNat : Int) == 91) = false := byte_ne (n := 91) (by omega) h
    have h' : ((l[at_.toNat].toNat : Int) != 91) = true := by simp only [bne, h1]; rfl
    clear h
    go_enter Tryz.func29, Tryz.ntmps29
    go_wp2
    go_ret2
    exact ⟨rfl, Below.refl _ _⟩

set_option maxHeartbeats 8000000 in
set_option maxRecDepth 100000 in
theorem rclose_on (l : List UInt8) (k : Nat) (hk : k < l.length) (hs : l.length ≤ 1000000000000) (h91 : l[k] = 91) (w : World) :
    Calls Tryz.prog 29 #[.string (bs l), .int .i64 (k : Int)] w fun e w' => e = .returned (placeV (Lk.close l (k : Int))) ∧ Below w.heap.size w w' := by
  have hsz := bs_size l
  have hix := run_byte hk w
  have ht : ((l[k].toNat : Int) == 91) = true := byte_eq (n := 91) (by omega) h91
  have ht2 : ((l[k].toNat : Int) != 91) = false := by simp only [bne, ht]; rfl
  have hcl := Lk.close_on hk (by rw [List.getD_eq_getElem?_getD, List.getElem?_eq_getElem hk]; simpa using h91)
  obtain ⟨R, hR⟩ : ∃ R, R = Lk.close l (k : Int) := ⟨_, rfl⟩
  rw [← hR] at hcl ⊢
  clear hR h91
  replace hcl := Lib.hid hcl
  go_enter Tryz.func29, Tryz.ntmps29
  go_wp2_with fail
  have hdk : decide (l.length ≤ k) = false := decide_eq_false (by omega)
  simp only [hdk, Bool.or_false]
  clear hdk
  go_loopw [6, 7] (fun dv u wr => ∃ i d : Nat, k + 1 ≤ i ∧ i ≤ l.length ∧ u = .int .i64 i ∧ dv = .int .i64 d ∧ d ≤ i ∧ Hid (Lk.closes l (k + 1) 0 = Lk.closes l i d) ∧ Below w.heap.size w wr) (fun _ u _ => l.length - (intOf u).toNat)
  case atStart => exact ⟨k + 1, 0, by omega, by omega, by go_num, rfl, by omega, Lib.hid rfl, Below.refl _ _⟩
  case round =>
    obtain ⟨i, d, hi1, hi2, rfl, rfl, hdi, he, hb⟩ := hrel
    clear hix ht ht2
    by_cases hil : i < l.length
    · have hx := fun w => run_byte hil w
      have hon := Lk.closes_on (d := d) hil
      have hup := Lk.closes_up (d := d) hil
      have hhop := Lk.hop_more hil
      rw [← he.out] at hon hup
      have hgi : l.getD i 0 = l[i] := by rw [List.getD_eq_getElem?_getD, List.getElem?_eq_getElem hil]; rfl
      by_cases h96 : l[i] = 96
      · have t : ((l[i].toNat : Int) == 96) = true := byte_eq (n := 96) (by omega) h96
        have q1 := fun w => rspan_any l (i : Int) (by omega) w
        cases hsp : Cd.span l (i : Int) with
        | some x =>
          obtain ⟨tt, e⟩ := x
          obtain ⟨j1, j2⟩ := Lk.hop_span (hgi.trans h96) hsp
          rw [hsp, show spanV (some (tt, e)) = .tuple #[.string (bs tt), .int .i64 (e : Int), .bool true] from rfl] at q1
          have he2 : Hid (Lk.closes l (k + 1) 0 = Lk.closes l e d) := Lib.hid (by rw [hon (by rw [j2]; decide) (by rw [j2]; decide), j1])
          rw [j1] at hhop
          clear hon hup he j1 j2 hsp h96 hgi
          go_wp2_with fail
          refine (q1 _).mono ?_
          rintro e w1 ⟨rfl, rfl⟩
          go_wp2_with fail
          go_roundw
          case rel => exact ⟨e, d, by omega, by omega, rfl, rfl, by omega, he2, hb⟩
          case measure => simp [intOf]; omega
        | none =>
          obtain ⟨j1, j2⟩ := Lk.hop_run (hgi.trans h96) hsp
          rw [hsp, show spanV none = .tuple #[.string ⟨#[]⟩, .int .i64 0, .bool false] from rfl] at q1
          have q2 := fun w => rrun_any l i 96 w (by omega) (by omega)
          obtain ⟨m, hm⟩ : ∃ m, m = Fn.run 96 (l.drop i) := ⟨_, rfl⟩
          rw [← hm] at q2 j1
          have he2 : Hid (Lk.closes l (k + 1) 0 = Lk.closes l (i + m) d) := Lib.hid (by rw [hon (by rw [j2]; decide) (by rw [j2]; decide), j1])
          rw [j1] at hhop
          clear hon hup he j1 j2 hsp h96 hgi hm
          go_wp2_with fail
          refine (q1 _).mono ?_
          rintro e w1 ⟨rfl, rfl⟩
          go_wp2_with fail
          refine (q2 _).mono ?_
          rintro e w1 ⟨rfl, rfl⟩
          go_wp2_with fail
          go_roundw
          case rel => exact ⟨i + m, d, by omega, by omega, by go_num, rfl, by omega, he2, hb⟩
          case measure => simp [intOf]; omega
      · have t : ((l[i].toNat : Int) == 96) = false := byte_ne (n := 96) (by omega) h96
        have hg96 : l.getD i 0 ≠ 96 := by rw [hgi]; exact h96
        have q1 := fun w => rauto_any l (i : Int) hs w
        cases hau : Lk.auto l (i : Int) with
        | some x =>
          obtain ⟨tt, e⟩ := x
          obtain ⟨j1, j2⟩ := Lk.hop_auto hg96 hau
          rw [hau, show spanV (some (tt, e)) = .tuple #[.string (bs tt), .int .i64 (e : Int), .bool true] from rfl] at q1
          have he2 : Hid (Lk.closes l (k + 1) 0 = Lk.closes l e d) := Lib.hid (by rw [hon (by rw [j2]; decide) (by rw [j2]; decide), j1])
          rw [j1] at hhop
          clear hon hup he j1 j2 hau h96 hgi hg96
          go_wp2_with fail
          refine (q1 _).mono ?_
          rintro e w1 ⟨rfl, hb1⟩
          replace hb1 := ext_trans hb hb1
          go_wp2_with fail
          go_roundw
          case rel => exact ⟨e, d, by omega, by omega, rfl, rfl, by omega, he2, hb1⟩
          case measure => simp [intOf]; omega
        | none =>
          obtain ⟨j1, j2⟩ := Lk.hop_next hg96 hau
          rw [hau, show spanV none = .tuple #[.string ⟨#[]⟩, .int .i64 0, .bool false] from rfl] at q1
          have q2 := fun w => rnext_any l (i : Int) hs w
          rw [Int.toNat_natCast] at q2
          unfold nextV at q2
          obtain ⟨⟨r, nx, its⟩, hN⟩ : ∃ x, x = Es.next l i := ⟨_, rfl⟩
          rw [← hN] at q2 j1 j2
          simp only at q2 j1 j2
          rw [j1] at hhop hon hup
          have hdown := fun (d : Nat) h => Lk.closes_down (d := d) hil h
          have hend := fun h => Lk.closes_end hil h
          rw [j1] at hdown
          have hee := he
          clear j1 hau h96 hgi hg96 hN
          cases its with
          | true =>
            rw [if_pos rfl] at j2
            have he2 : Hid (Lk.closes l (k + 1) 0 = Lk.closes l nx d) := Lib.hid (hon (by rw [j2]; decide) (by rw [j2]; decide))
            clear hon hup he hdown hend j2 hee
            go_wp2_with fail
            refine (q1 _).mono ?_
            rintro e w1 ⟨rfl, hb1⟩
            replace hb1 := ext_trans hb hb1
            go_wp2_with fail
            refine (q2 _).mono ?_
            rintro e w2 ⟨rfl, hb2⟩
            replace hb2 := ext_trans hb1 hb2
            go_wp2_with fail
            go_roundw
            case rel => exact ⟨nx, d, by omega, by omega, rfl, rfl, by omega, he2, hb2⟩
            case measure => simp [intOf]; omega
          | false =>
            rw [if_neg (by decide)] at j2
            rw [j2] at hon hup hdown hend
            by_cases h91 : r = 91
            · have he2 : Hid (Lk.closes l (k + 1) 0 = Lk.closes l nx (d + 1)) := Lib.hid (hup h91)
              have t1 : (((r : Nat) : Int) == 91) = true := by simp [h91]
              have t2 : (((r : Nat) : Int) == 93) = false := by simp [h91]
              clear hon hup he hdown hend j2 hee h91
              go_wp2_with fail
              refine (q1 _).mono ?_
              rintro e w1 ⟨rfl, hb1⟩
              replace hb1 := ext_trans hb hb1
              go_wp2_with fail
              refine (q2 _).mono ?_
              rintro e w2 ⟨rfl, hb2⟩
              replace hb2 := ext_trans hb1 hb2
              go_wp2_with fail
              go_roundw
              case rel => exact ⟨nx, d + 1, by omega, by omega, rfl, by go_num, by omega, he2, hb2⟩
              case measure => simp [intOf]; omega
            · have t1 : (((r : Nat) : Int) == 91) = false := by simp; omega
              by_cases h93 : r = 93
              · have t2 : (((r : Nat) : Int) == 93) = true := by simp [h93]
                rcases Nat.eq_zero_or_pos d with hd | hd
                · have hres : R = some i := by rw [hcl.out, hee.out, hd]; exact hend h93
                  have t3 : (((d : Nat) : Int) == 0) = true := by simp [hd]
                  subst hres
                  clear hon hup he hdown hend j2 hee h91 h93 hcl hd
                  go_wp2_with fail
                  refine (q1 _).mono ?_
                  rintro e w1 ⟨rfl, hb1⟩
                  replace hb1 := ext_trans hb hb1
                  go_wp2_with fail
                  refine (q2 _).mono ?_
                  rintro e w2 ⟨rfl, hb2⟩
                  replace hb2 := ext_trans hb1 hb2
                  go_wp2
                  go_ret2
                  exact ⟨rfl, hb2⟩
                · have t3 : (((d : Nat) : Int) == 0) = false := by simp; omega
                  have he2 : Hid (Lk.closes l (k + 1) 0 = Lk.closes l nx (d - 1)) := Lib.hid (by rw [hee.out, show d = d - 1 + 1 by omega]; exact hdown (d - 1) h93)
                  clear hon hup he hdown hend j2 hee h91 h93
                  go_wp2_with fail
                  refine (q1 _).mono ?_
                  rintro e w1 ⟨rfl, hb1⟩
                  replace hb1 := ext_trans hb hb1
                  go_wp2_with fail
                  refine (q2 _).mono ?_
                  rintro e w2 ⟨rfl, hb2⟩
                  replace hb2 := ext_trans hb1 hb2
                  go_wp2_with fail
                  go_roundw
                  case rel => exact ⟨nx, d - 1, by omega, by omega, rfl, by congr 1; omega, by omega, he2, hb2⟩
                  case measure => simp [intOf]; omega
              · have t2 : (((r : Nat) : Int) == 93) = false := by simp; omega
                have he2 : Hid (Lk.closes l (k + 1) 0 = Lk.closes l nx d) := Lib.hid (hon h93 h91)
                clear hon hup he hdown hend j2 hee h91 h93
                go_wp2_with fail
                refine (q1 _).mono ?_
                rintro e w1 ⟨rfl, hb1⟩
                replace hb1 := ext_trans hb hb1
                go_wp2_with fail
                refine (q2 _).mono ?_
                rintro e w2 ⟨rfl, hb2⟩
                replace hb2 := ext_trans hb1 hb2
                go_wp2_with fail
                go_roundw
                case rel => exact ⟨nx, d, by omega, by omega, rfl, rfl, by omega, he2, hb2⟩
                case measure => simp [intOf]; omega
    · have hres : R = none := by rw [hcl.out, he.out, Lk.closes_out (by omega)]
      subst hres
      clear hcl he
      go_wp2
      go_ret2
      exact ⟨rfl, hb⟩

theorem rclose_any (l : List UInt8) (at_ : Int) (hs : l.length ≤ 1000000000000) (w : World) :
    Calls Tryz.prog 29 #[.string (bs l), .int .i64 at_] w fun e w' => e = .returned (placeV (Lk.close l at_)) ∧ Below w.heap.size w w' := by
  by_cases h : at_ < 0 ∨ (0 ≤ at_ ∧ (l.length : Int) ≤ at_) ∨ (0 ≤ at_ ∧ ∃ h : at_.toNat < l.length, l[at_.toNat] ≠ 91)
  · rw [close_no h]; exact rclose_out l at_ hs h w
  · obtain ⟨k, rfl⟩ : ∃ k : Nat, at_ = (k : Int) := ⟨at_.toNat, by omega⟩
    have hk : k < l.length := by omega
    exact rclose_on l k hk hs (Decidable.byContradiction fun hc => h (.inr (.inr ⟨by omega, by simpa using hk, by simpa using hc⟩))) w
end Go.Proofs.YtkfhkfagmokjpaaGreatDoor

namespace Go.Proofs.YtkfhkfagmokjpaaGreatDoor
open Go.RowKit

theorem dest_no {l : List UInt8} {at_ : Int} (h : at_ < 0 ∨ (0 ≤ at_ ∧ (l.length : Int) ≤ at_) ∨ (0 ≤ at_ ∧ ∃ h : at_.toNat < l.length, l[at_.toNat] ≠ 40)) : Lk.dest l at_ = none := by
  rcases h with h | ⟨h0, h⟩ | ⟨h0, hl, h⟩
  · exact Lk.dest_neg h
  · obtain ⟨k, rfl⟩ : ∃ k : Nat, at_ = (k : Int) := ⟨at_.toNat, by omega⟩
    exact Lk.dest_off (.inl (by omega))
  · obtain ⟨k, rfl⟩ : ∃ k : Nat, at_ = (k : Int) := ⟨at_.toNat, by omega⟩
    refine Lk.dest_off (.inr ?_)
    rw [List.getD_eq_getElem?_getD, List.getElem?_eq_getElem (by simpa using hl)]
    simpa using h

set_option maxHeartbeats 4000000 in
set_option maxRecDepth 100000 in
theorem rdest_out (l : List UInt8) (at_ : Int) (_hs : l.length ≤ 1000000000) (ho : at_ < 0 ∨ (0 ≤ at_ ∧ (l.length : Int) ≤ at_) ∨ (0 ≤ at_ ∧ ∃ h : at_.toNat < l.length, l[at_.toNat] ≠ 40)) (w : World) :
    Calls Tryz.prog 30 #[.string (bs l), .int .i64 at_] w fun e w' => e = .returned (spanV none) ∧ Below w.heap.size w w' := by
  have hsz := bs_size l
  rcases ho with h | ⟨h0, h⟩ | ⟨h0, hl, h⟩
  · go_enter Tryz.func30, Tryz.ntmps30
    go_wp2
    go_ret3
    exact ⟨rfl, Below.refl _ _⟩
  · go_enter Tryz.func30, Tryz.ntmps30
    go_wp2
    go_ret3
    exact ⟨rfl, Below.refl _ _⟩
  · have hix := run_byte_at (i := at_.toNat) (v := at_) (S := l) hl (by omega) w
    have h1 : ((l[at_.toNat].toNat : Int) == 40) = false := byte_ne (n := 40) (by omega) h
    have h' : ((l[at_.toNat].toNat : Int) != 40) = true := by simp only [bne, h1]; rfl
    clear h
    go_enter Tryz.func30, Tryz.ntmps30
    go_wp2
    go_ret3
    exact ⟨rfl, Below.refl _ _⟩

set_option maxHeartbeats 8000000 in
set_option maxRecDepth 100000 in
theorem rdest_on (l : List UInt8) (k : Nat) (hk : k < l.length) (hs : l.length ≤ 1000000000) (h40 : l[k] = 40) (w : World) :
    Calls Tryz.prog 30 #[.string (bs l), .int .i64 (k : Int)] w fun e w' => e = .returned (spanV (Lk.dest l (k : Int))) ∧ Below w.heap.size w w' := by
  have hsz := bs_size l
  have hix := run_byte hk w
  have ht : ((l[k].toNat : Int) == 40) = true := byte_eq (n := 40) (by omega) h40
  have ht2 : ((l[k].toNat : Int) != 40) = false := by simp only [bne, ht]; rfl
  have hcl := Lk.dest_on hk (by rw [List.getD_eq_getElem?_getD, List.getElem?_eq_getElem hk]; simpa using h40)
  obtain ⟨R, hR⟩ : ∃ R, R = Lk.dest l (k : Int) := ⟨_, rfl⟩
  rw [← hR] at hcl ⊢
  clear hR h40
  replace hcl := Lib.hid hcl
  go_enter Tryz.func30, Tryz.ntmps30
  go_wp2_with fail
  have hdk : decide (l.length ≤ k) = false := decide_eq_false (by omega)
  try simp only [hdk, Bool.or_false]
  clear hdk
  go_loopw [7] (fun u wr => ∃ i : Nat, k + 1 ≤ i ∧ i ≤ l.length ∧ u = .int .i64 i ∧ Hid (Lk.dends l (k + 1) = Lk.dends l i) ∧ Below w.heap.size w wr) (fun u _ => l.length - (intOf u).toNat)
  case atStart => exact ⟨k + 1, by omega, by omega, by go_num, Lib.hid rfl, Below.refl _ _⟩
  case round =>
    obtain ⟨i, hi1, hi2, rfl, he, hb⟩ := hrel
    clear hix ht ht2
    by_cases hil : i < l.length
    · have hst := Lk.dends_step hil
      have hmo := Es.next_more hil
      rw [← he.out] at hst
      have q2 := fun w => rnext_any l (i : Int) (by omega) w
      rw [Int.toNat_natCast] at q2
      unfold nextV at q2
      obtain ⟨⟨r, nx, its⟩, hN⟩ : ∃ x, x = Es.next l i := ⟨_, rfl⟩
      rw [← hN] at q2 hst hmo
      simp only at q2 hst hmo
      clear hN
      cases its with
      | true =>
        have he2 : Hid (Lk.dends l (k + 1) = Lk.dends l nx) := Lib.hid (by rw [hst, if_neg (by simp), if_neg (by simp)])
        clear he hst
        go_wp2_with fail
        refine (q2 _).mono ?_
        rintro e w2 ⟨rfl, hb2⟩
        replace hb2 := ext_trans hb hb2
        go_wp2_with fail
        go_roundw
        case rel => exact ⟨nx, by omega, by omega, rfl, he2, hb2⟩
        case measure => simp [intOf]; omega
      | false =>
        by_cases h41 : r = 41
        · have hres : R = some (Ru.enc (Es.plain (mid l (k + 1) i)), i + 1) := by rw [hcl.out, hst, if_pos ⟨rfl, h41⟩]; rfl
          have t1 : (((r : Nat) : Int) == 41) = true := by simp [h41]
          have hcut := fun w => run_mid_at (S := l) (i := k + 1) (j := i) (v := (k : Int) + 1) (u := (i : Int)) (by omega) (by omega) (by omega) rfl w
          have q3 := fun w => rplain_any (mid l (k + 1) i) w (by rw [mid_len (by omega)]; omega)
          clear he hst h41 hcl
          obtain ⟨T, hT⟩ : ∃ T, T = Ru.enc (Es.plain (mid l (k + 1) i)) := ⟨_, rfl⟩
          rw [← hT] at q3 hres
          clear hT
          subst hres
          go_wp2_with fail
          refine (q2 _).mono ?_
          rintro e w2 ⟨rfl, hb2⟩
          replace hb2 := ext_trans hb hb2
          have hcut1 := hcut w2
          go_wp2_with fail
          refine (q3 _).mono ?_
          rintro e w3 ⟨rfl, hb3⟩
          replace hb3 := ext_trans hb2 hb3
          go_wp2
          go_ret3
          exact ⟨rfl, hb3⟩
        · have t1 : (((r : Nat) : Int) == 41) = false := by simp; omega
          rw [if_neg (fun h => h41 h.2)] at hst
          by_cases h40 : r = 40
          · have hres : R = none := by rw [hcl.out, hst, if_pos ⟨rfl, .inl h40⟩]; rfl
            have t2 : (((r : Nat) : Int) == 40) = true := by simp [h40]
            subst hres
            clear he hst h41 hcl h40
            go_wp2_with fail
            refine (q2 _).mono ?_
            rintro e w2 ⟨rfl, hb2⟩
            replace hb2 := ext_trans hb hb2
            go_wp2
            go_ret3
            exact ⟨rfl, hb2⟩
          · have t2 : (((r : Nat) : Int) == 40) = false := by simp; omega
            have qb := fun w => rblank_any (r : Int) w
            cases hbl : blankB (r : Int) with
            | true =>
              have hres : R = none := by rw [hcl.out, hst, if_pos ⟨rfl, .inr hbl⟩]; rfl
              rw [hbl] at qb
              subst hres
              clear he hst h41 hcl h40 hbl
              go_wp2_with fail
              refine (q2 _).mono ?_
              rintro e w2 ⟨rfl, hb2⟩
              replace hb2 := ext_trans hb hb2
              go_wp2_with fail
              refine (qb _).mono ?_
              rintro e w3 ⟨rfl, rfl⟩
              go_wp2
              go_ret3
              exact ⟨rfl, hb2⟩
            | false =>
              have he2 : Hid (Lk.dends l (k + 1) = Lk.dends l nx) := Lib.hid (by rw [hst, if_neg (by rw [hbl]; simp [h40])])
              rw [hbl] at qb
              clear he hst h41 h40 hbl
              go_wp2_with fail
              refine (q2 _).mono ?_
              rintro e w2 ⟨rfl, hb2⟩
              replace hb2 := ext_trans hb hb2
              go_wp2_with fail
              refine (qb _).mono ?_
              rintro e w3 ⟨rfl, rfl⟩
              go_wp2_with fail
              go_roundw
              case rel => exact ⟨nx, by omega, by omega, rfl, he2, hb2⟩
              case measure => simp [intOf]; omega
    · have hres : R = none := by rw [hcl.out, he.out, Lk.dends_out (by omega)]; rfl
      subst hres
      clear hcl he
      go_wp2
      go_ret3
      exact ⟨rfl, hb⟩

theorem rdest_any (l : List UInt8) (at_ : Int) (hs : l.length ≤ 1000000000) (w : World) :
    Calls Tryz.prog 30 #[.string (bs l), .int .i64 at_] w fun e w' => e = .returned (spanV (Lk.dest l at_)) ∧ Below w.heap.size w w' := by
  by_cases h : at_ < 0 ∨ (0 ≤ at_ ∧ (l.length : Int) ≤ at_) ∨ (0 ≤ at_ ∧ ∃ h : at_.toNat < l.length, l[at_.toNat] ≠ 40)
  · rw [dest_no h]; exact rdest_out l at_ hs h w
  · obtain ⟨k, rfl⟩ : ∃ k : Nat, at_ = (k : Int) := ⟨at_.toNat, by omega⟩
    have hk : k < l.length := by omega
    exact rdest_on l k hk hs (Decidable.byContradiction fun hc => h (.inr (.inr ⟨by omega, by simpa using hk, by simpa using hc⟩))) w

end Go.Proofs.YtkfhkfagmokjpaaGreatDoor
