/- Plain mathematics of infos: words, keys, texts in quotes, pairs. No program is spoken of here. A range over a text: what is handed over at a place, and what is left behind it. The document's own runes of a text; runes made a text. Plain mathematics of infos: all pairs of an info. No program is spoken of here. What is read once and for all, and what is folded: lists of runes, by no program. The document's own text of bytes: nought as U+FFFD. -/
import Derived.Test.YtmmgfoepfapnkaaGreatDoorQ02
import Derived.Test.YtmmgfoepfapnkaaGreatDoorQ01
import Derived.Laws.Cover4
import Derived.Lib.OthersKept
import Derived.Laws.OwnMore
namespace Go.Proofs.YtmmgfoepfapnkaaGreatDoor.At
open Go.Proofs.YtmmgfoepfapnkaaGreatDoor.Cl (isGap gaps)

/-- the first ones that are such -/
def tw (p : UInt8 → Bool) : List UInt8 → List UInt8
  | [] => []
  | b :: r => if p b then b :: tw p r else []
theorem tw_yes {p : UInt8 → Bool} {b : UInt8} (r : List UInt8) (h : p b = true) : tw p (b :: r) = b :: tw p r := by simp [tw, h]
theorem tw_no {p : UInt8 → Bool} {b : UInt8} (r : List UInt8) (h : p b = false) : tw p (b :: r) = [] := by simp [tw, h]
theorem tw_len (p : UInt8 → Bool) (l : List UInt8) : (tw p l).length ≤ l.length := by
  induction l with
  | nil => simp [tw]
  | cons b r ih => simp only [tw]; split <;> simp only [List.length_cons, List.length_nil] <;> omega
theorem tw_take (p : UInt8 → Bool) (l : List UInt8) : l.take (tw p l).length = tw p l := by
  induction l with
  | nil => simp [tw]
  | cons b r ih =>
    cases h : p b with
    | true => rw [tw_yes _ h, List.length_cons, List.take_succ_cons, ih]
    | false => rw [tw_no _ h]; rfl
/-- what is left behind them begins with none such -/
theorem tw_rest (p : UInt8 → Bool) (l : List UInt8) : l.drop (tw p l).length = [] ∨ ∃ b r, l.drop (tw p l).length = b :: r ∧ p b = false := by
  induction l with
  | nil => exact .inl rfl
  | cons b r ih =>
    cases h : p b with
    | true => rw [tw_yes _ h, List.length_cons, List.drop_succ_cons]; exact ih
    | false => rw [tw_no _ h]; exact .inr ⟨b, r, rfl, h⟩
/-- from a place on -/
theorem tw_at {p : UInt8 → Bool} {l : List UInt8} {k : Nat} (hk : k < l.length) (h : p l[k] = true) : (tw p (l.drop k)).length = (tw p (l.drop (k + 1))).length + 1 := by
  rw [List.drop_eq_getElem_cons hk, tw_yes _ h]; rfl
theorem tw_not {p : UInt8 → Bool} {l : List UInt8} {k : Nat} (hk : k < l.length) (h : p l[k] = false) : (tw p (l.drop k)).length = 0 := by
  rw [List.drop_eq_getElem_cons hk, tw_no _ h]; rfl
theorem tw_end {p : UInt8 → Bool} {l : List UInt8} {k : Nat} (hk : ¬ k < l.length) : (tw p (l.drop k)).length = 0 := by
  rw [List.drop_eq_nil_of_le (by omega)]; rfl

def word (b : UInt8) : Bool := !isGap b
def letter (b : UInt8) : Bool := decide (97 ≤ b.toNat ∧ b.toNat ≤ 122)

/-- the text in quotes that begins here, behind the first quote: the text, the bytes -/
def qd : List UInt8 → Option (List UInt8 × Nat)
  | [] => none
  | b :: r =>
    if b = 34 then some ([], 1)
    else if b = 92 then
      match r with
      | [] => none
      | c :: r' => if c = 34 ∨ c = 92 then (qd r').map fun x => (c :: x.1, x.2 + 2) else none
    else (qd r).map fun x => (b :: x.1, x.2 + 1)
theorem qd_end (r : List UInt8) : qd (34 :: r) = some ([], 1) := by rw [qd.eq_def]; simp
theorem qd_one {b : UInt8} (r : List UInt8) (h : b ≠ 34) (h' : b ≠ 92) : qd (b :: r) = (qd r).map fun x => (b :: x.1, x.2 + 1) := by rw [qd.eq_def]; simp [h, h']
theorem qd_esc {c : UInt8} (r : List UInt8) (h : c = 34 ∨ c = 92) : qd (92 :: c :: r) = (qd r).map fun x => (c :: x.1, x.2 + 2) := by rw [qd.eq_def]; simp [h]
theorem qd_bad {c : UInt8} (r : List UInt8) (h : ¬ (c = 34 ∨ c = 92)) : qd (92 :: c :: r) = none := by rw [qd.eq_def]; simp [h]
theorem qd_last : qd [92] = none := by rw [qd.eq_def]; simp
theorem qd_nil : qd [] = none := by rw [qd.eq_def]

/-- a blank rune -/
def blank (x : Nat) : Bool := decide ((9 ≤ x ∧ x ≤ 13) ∨ x = 32 ∨ x = 160 ∨ x = 8195 ∨ x = 12288)
/-- a text that needs no quotes -/
def okRune (x : Nat) : Bool := !(blank x || decide (x = 34) || decide (x = 61) || decide (x = 92))
def bare (l : List UInt8) : Bool := (Ru.runes l).all okRune && decide (l ≠ [])

/-- a key; its text, or that it is alone -/
structure Pr where
  key : List UInt8
  text : List UInt8
  alone : Bool

/-- the end, or a blank or tab -/
def stop (l : List UInt8) : Bool := match l with
  | [] => true
  | b :: _ => isGap b

/-- a pair that begins here: where it ends (counted from a place), and whether it is one -/
def pair (r : List UInt8) (a : Nat) : Pr × Nat × Bool :=
  if tw letter r = [] then (⟨[], [], false⟩, 0, false)
  else match r.drop (tw letter r).length with
  | [] => (⟨tw letter r, [], true⟩, a + (tw letter r).length, true)
  | b :: q =>
    if isGap b = true then (⟨tw letter r, [], true⟩, a + (tw letter r).length, true)
    else if b ≠ 61 then (⟨[], [], false⟩, 0, false)
    else match q with
    | 34 :: q' => match qd q' with
      | none => (⟨tw letter r, [], false⟩, 0, false)
      | some (t, n) => (⟨tw letter r, t, false⟩, a + (tw letter r).length + 2 + n, stop (q'.drop n))
    | q => (⟨tw letter r, tw word q, false⟩, a + (tw letter r).length + 1 + (tw word q).length, bare (tw word q))
section
variable {r : List UInt8} {a : Nat}
theorem pair_empty (h : tw letter r = []) : pair r a = (⟨[], [], false⟩, 0, false) := by unfold pair; rw [if_pos h]
theorem pair_end (h : tw letter r ≠ []) (h1 : r.drop (tw letter r).length = []) : pair r a = (⟨tw letter r, [], true⟩, a + (tw letter r).length, true) := by unfold pair; rw [if_neg h, h1]
theorem pair_gap {b : UInt8} {q : List UInt8} (h : tw letter r ≠ []) (h1 : r.drop (tw letter r).length = b :: q) (hb : isGap b = true) : pair r a = (⟨tw letter r, [], true⟩, a + (tw letter r).length, true) := by
  unfold pair; rw [if_neg h, h1]; simp only; rw [if_pos hb]
theorem pair_bad {b : UInt8} {q : List UInt8} (h : tw letter r ≠ []) (h1 : r.drop (tw letter r).length = b :: q) (hb : isGap b = false) (h6 : b ≠ 61) : pair r a = (⟨[], [], false⟩, 0, false) := by
  unfold pair; rw [if_neg h, h1]; simp only; rw [if_neg (by rw [hb]; simp), if_pos h6]
theorem pair_open {q : List UInt8} (h : tw letter r ≠ []) (h1 : r.drop (tw letter r).length = 61 :: 34 :: q) (h2 : qd q = none) : pair r a = (⟨tw letter r, [], false⟩, 0, false) := by
  unfold pair; rw [if_neg h, h1]; simp only; rw [if_neg (by decide), if_neg (by simp), h2]
theorem pair_quote {q t : List UInt8} {n : Nat} (h : tw letter r ≠ []) (h1 : r.drop (tw letter r).length = 61 :: 34 :: q) (h2 : qd q = some (t, n)) : pair r a = (⟨tw letter r, t, false⟩, a + (tw letter r).length + 2 + n, stop (q.drop n)) := by
  unfold pair; rw [if_neg h, h1]; simp only; rw [if_neg (by decide), if_neg (by simp), h2]
theorem pair_word {q : List UInt8} (h : tw letter r ≠ []) (h1 : r.drop (tw letter r).length = 61 :: q) (h2 : ∀ x, q ≠ 34 :: x) : pair r a = (⟨tw letter r, tw word q, false⟩, a + (tw letter r).length + 1 + (tw word q).length, bare (tw word q)) := by
  unfold pair; rw [if_neg h, h1]; simp only; rw [if_neg (by decide), if_neg (by simp)]
end
theorem qd_le : ∀ (n : Nat) (r : List UInt8), r.length ≤ n → ∀ x, qd r = some x → x.2 ≤ r.length ∧ x.1.length ≤ r.length := by
  intro n
  induction n with
  | zero => intro r hr x hx; have : r = [] := List.eq_nil_of_length_eq_zero (by omega); subst this; rw [qd_nil] at hx; cases hx
  | succ n ih =>
    intro r hr x hx
    rcases r with _ | ⟨b, r⟩
    · rw [qd_nil] at hx; cases hx
    · simp only [List.length_cons] at hr ⊢
      by_cases h : b = 34
      · subst h; rw [qd_end] at hx; cases hx; simp
      · by_cases h' : b = 92
        · subst h'
          rcases r with _ | ⟨c, r⟩
          · rw [qd_last] at hx; cases hx
          · simp only [List.length_cons] at hr ⊢
            by_cases hc : c = 34 ∨ c = 92
            · rw [qd_esc _ hc] at hx
              obtain ⟨y, hy, rfl⟩ := Option.map_eq_some_iff.1 hx
              have := ih r (by omega) y hy
              simp only [List.length_cons]; omega
            · rw [qd_bad _ hc] at hx; cases hx
        · rw [qd_one _ h h'] at hx
          obtain ⟨y, hy, rfl⟩ := Option.map_eq_some_iff.1 hx
          have := ih r (by omega) y hy
          simp only [List.length_cons]; omega
end Go.Proofs.YtmmgfoepfapnkaaGreatDoor.At

namespace Go.Proofs.YtmmgfoepfapnkaaGreatDoor
open Go.RowKit

/-- what 'next' hands over at a place of a text, and what is left behind it -/
theorem runes_next {l : List UInt8} {pos : Nat} (h : pos < l.length) {D : List Nat} (hD : D ++ Ru.runes (l.drop pos) = Ru.runes l) :
    ∃ x k : Nat, 1 ≤ k ∧ Ru.vr x ∧ Utf8.decode (bs l) pos = (x, k) ∧ (D ++ [x]) ++ Ru.runes (l.drop (pos + k)) = Ru.runes l := by
  have hd := decodeL_drop' l pos
  refine ⟨(Utf8.decode (bs l) pos).1, (Utf8.decode (bs l) pos).2, ?_, ?_, rfl, ?_⟩
  · rw [← hd]; exact Lib.decodeL_width _
  · rw [← hd]; exact Ru.decodeL_vr _
  · rw [← hD, Ru.runes_at h, List.append_assoc]; rfl
where decodeL_drop' (l : List UInt8) (pos : Nat) : Lib.decodeL (l.drop pos) = Utf8.decode (bs l) pos := by
        have := Lib.decodeL_drop (bs l) pos
        simpa [bs] using this

theorem run_next_rune {w : World} {k : Nat} {l : List UInt8} {pos x n : Nat} (hk : w.heap[k]? = some (.stringIter (bs l) pos)) (h : pos < l.length) (hd : Utf8.decode (bs l) pos = (x, n)) (ty : TypeId) :
    (Instr.next (.pointer (some ⟨k, 0, none⟩)) true ty).run Tryz.prog w = .ok (.tuple #[.bool true, .int .i64 pos, .int .i32 (x : Int)]) (w.iterAt k (bs l) (pos + n)) := by
  rw [Lib.run_next_any_at w k (bs l) pos ty hk (by rw [bs_size]; exact h), hd]
theorem run_next_done {w : World} {k : Nat} {l : List UInt8} {pos : Nat} (hk : w.heap[k]? = some (.stringIter (bs l) pos)) (h : ¬ pos < l.length) (ty : TypeId) :
    (Instr.next (.pointer (some ⟨k, 0, none⟩)) true ty).run Tryz.prog w = .ok (.tuple #[.bool false]) w :=
  Lib.run_next_end_at w k (bs l) pos ty hk (by rw [bs_size]; exact h)
theorem runes_done {l : List UInt8} {pos : Nat} (h : ¬ pos < l.length) {D : List Nat} (hD : D ++ Ru.runes (l.drop pos) = Ru.runes l) : D = Ru.runes l := by
  rw [List.drop_eq_nil_of_le (by omega), Ru.runes_nil, List.append_nil] at hD; exact hD
theorem runes_part {l : List UInt8} {pos : Nat} {D : List Nat} (hD : D ++ Ru.runes (l.drop pos) = Ru.runes l) : D.length ≤ l.length := by
  have h1 := congrArg List.length hD
  have h2 := Ru.runes_len l
  rw [List.length_append] at h1; omega
/-- the iterator of a range that is made last -/
theorem iter_new (w : World) (l : List UInt8) (o : Obj) (ho : o = .stringIter (bs l) 0) : (w.alloc o).heap[w.heap.size]? = some (.stringIter (bs l) 0) := by
  subst ho; exact heap_alloc_new w _

theorem rune_at {l : List UInt8} {pos : Nat} (h : pos < l.length) : ∃ x k : Nat, 1 ≤ k ∧ pos + k ≤ l.length ∧ Utf8.decode (bs l) pos = (x, k) ∧ Ru.runes (l.drop pos) = x :: Ru.runes (l.drop (pos + k)) := by
  have hd := runes_next.decodeL_drop' l pos
  have hne : l.drop pos ≠ [] := by intro h0; have := congrArg List.length h0; rw [List.length_drop] at this; simp at this; omega
  have hle := (Ru.rune_bytes hne).2.1
  rw [hd, List.length_drop] at hle
  exact ⟨(Utf8.decode (bs l) pos).1, (Utf8.decode (bs l) pos).2, by rw [← hd]; exact Lib.decodeL_width _, by omega, rfl, Ru.runes_at h⟩
end Go.Proofs.YtmmgfoepfapnkaaGreatDoor

namespace Go.Proofs.YtmmgfoepfapnkaaGreatDoor
open Go.RowKit

end Go.Proofs.YtmmgfoepfapnkaaGreatDoor

namespace Go.Proofs.YtmmgfoepfapnkaaGreatDoor.At
open Go.Proofs.YtmmgfoepfapnkaaGreatDoor.Cl (isGap gaps)

def wAppend : List UInt8 := [97, 112, 112, 101, 110, 100]
def wNoline : List UInt8 := [110, 111, 108, 105, 110, 101]
/-- the word that is the language -/
def isLang (first : Bool) (w : List UInt8) : Bool := first && (!decide ((61 : UInt8) ∈ w)) && decide (w ≠ wAppend) && decide (w ≠ wNoline)
/-- a key that is there already -/
def twice (out : List Pr) (key : List UInt8) : Bool := out.any fun q => decide (q.key = key)

/-- from place i on, by at most so many steps -/
def prs (l : List UInt8) : Nat → Bool → List UInt8 → List Pr → Nat → List UInt8 × List Pr × Bool
  | 0, _, _, _, _ => ([], [], false)
  | f + 1, first, lang, out, i =>
    if l.drop (i + gaps (l.drop i)) = [] then (lang, out, true)
    else if isLang first (tw word (l.drop (i + gaps (l.drop i)))) = true then
      prs l f false (tw word (l.drop (i + gaps (l.drop i)))) out (i + gaps (l.drop i) + (tw word (l.drop (i + gaps (l.drop i)))).length)
    else if (pair (l.drop (i + gaps (l.drop i))) (i + gaps (l.drop i))).2.2 = false then ([], [], false)
    else if twice out (pair (l.drop (i + gaps (l.drop i))) (i + gaps (l.drop i))).1.key = true then ([], [], false)
    else prs l f false lang (out ++ [(pair (l.drop (i + gaps (l.drop i))) (i + gaps (l.drop i))).1]) (pair (l.drop (i + gaps (l.drop i))) (i + gaps (l.drop i))).2.1
def pairs (l : List UInt8) : List UInt8 × List Pr × Bool := prs l (l.length + 1) true [] [] 0

section
variable {l : List UInt8} {f : Nat} {first : Bool} {lang : List UInt8} {out : List Pr} {i j : Nat}
theorem prs_done (hj : i + gaps (l.drop i) = j) (h : l.drop j = []) : prs l (f + 1) first lang out i = (lang, out, true) := by rw [prs, hj, if_pos h]
theorem prs_lang (hj : i + gaps (l.drop i) = j) (h : l.drop j ≠ []) (h1 : isLang first (tw word (l.drop j)) = true) : prs l (f + 1) first lang out i = prs l f false (tw word (l.drop j)) out (j + (tw word (l.drop j)).length) := by rw [prs, hj, if_neg h, if_pos h1]
theorem prs_bad (hj : i + gaps (l.drop i) = j) (h : l.drop j ≠ []) (h1 : isLang first (tw word (l.drop j)) = false) (h2 : (pair (l.drop j) j).2.2 = false) : prs l (f + 1) first lang out i = ([], [], false) := by
  rw [prs, hj, if_neg h, if_neg (by rw [h1]; simp), if_pos h2]
theorem prs_twice (hj : i + gaps (l.drop i) = j) (h : l.drop j ≠ []) (h1 : isLang first (tw word (l.drop j)) = false) (h2 : (pair (l.drop j) j).2.2 = true) (h3 : twice out (pair (l.drop j) j).1.key = true) : prs l (f + 1) first lang out i = ([], [], false) := by
  rw [prs, hj, if_neg h, if_neg (by rw [h1]; simp), if_neg (by rw [h2]; simp), if_pos h3]
theorem prs_more (hj : i + gaps (l.drop i) = j) (h : l.drop j ≠ []) (h1 : isLang first (tw word (l.drop j)) = false) (h2 : (pair (l.drop j) j).2.2 = true) (h3 : twice out (pair (l.drop j) j).1.key = false) :
    prs l (f + 1) first lang out i = prs l f false lang (out ++ [(pair (l.drop j) j).1]) (pair (l.drop j) j).2.1 := by
  rw [prs, hj, if_neg h, if_neg (by rw [h1]; simp), if_neg (by rw [h2]; simp), if_neg (by rw [h3]; simp)]
end
/-- a pair ends behind where it begins, within the text -/
theorem pair_within {r : List UInt8} {a : Nat} (h : (pair r a).2.2 = true) : a < (pair r a).2.1 ∧ (pair r a).2.1 ≤ a + r.length := by
  have hk := tw_len letter r
  by_cases h0 : tw letter r = []
  · rw [pair_empty h0] at h; cases h
  · have hp : 0 < (tw letter r).length := List.length_pos_iff.2 h0
    rcases hr : r.drop (tw letter r).length with _ | ⟨b, q⟩
    · rw [pair_end h0 hr]; simp only; omega
    · have hl := congrArg List.length hr
      rw [List.length_drop, List.length_cons] at hl
      cases hb : isGap b with
      | true => rw [pair_gap h0 hr hb]; simp only; omega
      | false =>
        by_cases h61 : b = 61
        · subst h61
          by_cases hq : ∃ q', q = 34 :: q'
          · obtain ⟨q', rfl⟩ := hq
            cases hQ : qd q' with
            | none => rw [pair_open h0 hr hQ] at h; cases h
            | some x =>
              obtain ⟨t, n⟩ := x
              have := qd_le q'.length q' (Nat.le_refl _) _ hQ
              rw [pair_quote h0 hr hQ]; simp only [List.length_cons] at hl ⊢; simp only at this; omega
          · have := tw_len word q
            rw [pair_word h0 hr (fun x hx => hq ⟨x, hx⟩)]; simp only; omega
        · rw [pair_bad h0 hr hb h61] at h; cases h
end Go.Proofs.YtmmgfoepfapnkaaGreatDoor.At

namespace Go.Proofs.YtmmgfoepfapnkaaGreatDoor.Ru
open Go.Lib

/-- 0 is read as U+FFFD -/
def zr (x : Nat) : Nat := if x = 0 then 65533 else x
def textR (l : List UInt8) : List Nat := (runes l).map zr
def text (l : List UInt8) : List UInt8 := enc (textR l)
theorem textR_len (l : List UInt8) : (textR l).length = (runes l).length := by simp [textR]
theorem text_len (l : List UInt8) : (text l).length ≤ 4 * l.length := by
  have h1 := (enc_len (textR l)).2
  have h2 := runes_len l
  rw [textR_len] at h1
  unfold text; omega
end Go.Proofs.YtmmgfoepfapnkaaGreatDoor.Ru

namespace Go.Proofs.YtmmgfoepfapnkaaGreatDoor
open Go.RowKit

end Go.Proofs.YtmmgfoepfapnkaaGreatDoor
