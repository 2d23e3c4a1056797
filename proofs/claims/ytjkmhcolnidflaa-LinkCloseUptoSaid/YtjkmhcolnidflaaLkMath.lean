/- Links, as lists, by no program: an address between < and >, where a bracket closes, where it leads, whether one may go there. -/
import Derived.Test.YtjkmhcolnidflaaEsMath
import Derived.Test.YtjkmhcolnidflaaCdMath
namespace Go.Proofs.Ytjkmhcolnidflaa.Lk
open Go.Lib Ru

/-! ### an address between < and > -/
def small (b : UInt8) : Bool := decide (97 ≤ b.toNat ∧ b.toNat ≤ 122)
theorem small_iff (b : UInt8) : small b = true ↔ 97 ≤ b.toNat ∧ b.toNat ≤ 122 := by unfold small; rw [decide_eq_true_iff]
theorem small_no {b : UInt8} (h : small b = false) : b.toNat < 97 ∨ (97 ≤ b.toNat ∧ 122 < b.toNat) := by
  unfold small at h; have := of_decide_eq_false h; omega
/-- how many small letters stand ahead -/
def letters : List UInt8 → Nat
  | [] => 0
  | b :: r => if small b = true then letters r + 1 else 0
theorem letters_le : ∀ l, letters l ≤ l.length
  | [] => Nat.le_refl _
  | b :: r => by unfold letters; have := letters_le r; split <;> simp <;> omega
theorem letters_at {l : List UInt8} {i : Nat} (h : i < l.length) (hs : small l[i] = true) : letters (l.drop i) = letters (l.drop (i + 1)) + 1 := by
  rw [List.drop_eq_getElem_cons h]; conv => lhs; unfold letters
  rw [if_pos hs]
theorem letters_no {l : List UInt8} {i : Nat} (h : i < l.length) (hs : small l[i] = false) : letters (l.drop i) = 0 := by
  rw [List.drop_eq_getElem_cons h]; unfold letters; rw [if_neg (by rw [hs]; decide)]
theorem letters_end {l : List UInt8} {i : Nat} (h : ¬ i < l.length) : letters (l.drop i) = 0 := by rw [List.drop_eq_nil_of_le (by omega)]; rfl

/-- where the sign > is that ends it, by at most so many steps -/
def endF : Nat → List UInt8 → Nat → Option Nat
  | 0, _, _ => none
  | f + 1, l, i =>
    if i < l.length then
      (if (decodeL (l.drop i)).1 = 62 then some i
       else if (decodeL (l.drop i)).1 = 60 ∨ blankB ((decodeL (l.drop i)).1 : Int) = true then none
       else endF f l (i + (decodeL (l.drop i)).2))
    else none
def ends (l : List UInt8) (i : Nat) : Option Nat := endF (l.length + 1 - i) l i
theorem endF_fuel : ∀ (f g : Nat) (l : List UInt8) (i : Nat), l.length < f + i → l.length < g + i → endF f l i = endF g l i
  | 0, 0, _, _, _, _ => rfl
  | 0, g + 1, l, i, h, _ => by unfold endF; rw [if_neg (by omega)]
  | f + 1, 0, l, i, _, h => by unfold endF; rw [if_neg (by omega)]
  | f + 1, g + 1, l, i, hf, hg => by
    have hw := decodeL_width (l.drop i)
    unfold endF
    rw [endF_fuel f g l _ (by omega) (by omega)]
theorem ends_out {l : List UInt8} {i : Nat} (h : l.length ≤ i) : ends l i = none := by
  unfold ends
  cases hf : l.length + 1 - i with
  | zero => rfl
  | succ f => unfold endF; rw [if_neg (by omega)]
theorem ends_step {l : List UInt8} {i : Nat} (h : i < l.length) :
    ends l i = if (decodeL (l.drop i)).1 = 62 then some i else if (decodeL (l.drop i)).1 = 60 ∨ blankB ((decodeL (l.drop i)).1 : Int) = true then none else ends l (i + (decodeL (l.drop i)).2) := by
  have hw := decodeL_width (l.drop i)
  unfold ends
  obtain ⟨f, hf⟩ : ∃ f, l.length + 1 - i = f + 1 := ⟨l.length - i, by omega⟩
  rw [hf]
  conv => lhs; unfold endF
  rw [if_pos h, endF_fuel f (l.length + 1 - (i + (decodeL (l.drop i)).2)) l _ (by omega) (by omega)]
theorem ends_spec {l : List UInt8} : ∀ (f i j : Nat), endF f l i = some j → i ≤ j ∧ j < l.length
  | 0, _, _, h => by simp [endF] at h
  | f + 1, i, j, h => by
    unfold endF at h
    split at h
    · split at h
      · injection h with h; subst h; exact ⟨Nat.le_refl _, by assumption⟩
      · split at h
        · cases h
        · have := ends_spec f _ j h; omega
    · cases h
/-- whether an address may begin at a place, by its scheme -/
def starts (l : List UInt8) (k : Nat) : Bool :=
  decide (k < l.length ∧ l.getD k 0 = 60 ∧ 2 ≤ letters (l.drop (k + 1)) ∧ letters (l.drop (k + 1)) ≤ 12 ∧ l.getD (k + 1 + letters (l.drop (k + 1))) 0 = 58)
def auto (l : List UInt8) (at_ : Int) : Option (List UInt8 × Nat) :=
  if 0 ≤ at_ ∧ starts l at_.toNat = true then (ends l (at_.toNat + 1 + letters (l.drop (at_.toNat + 1)))).map fun j => (mid l (at_.toNat + 1) j, j + 1) else none
theorem auto_neg {l : List UInt8} {at_ : Int} (h : at_ < 0) : auto l at_ = none := by unfold auto; rw [if_neg (by omega)]
theorem auto_off {l : List UInt8} {k : Nat} (h : starts l k = false) : auto l (k : Int) = none := by
  unfold auto; rw [if_neg (fun hc => by have := hc.2; rw [Int.toNat_natCast, h] at this; cases this)]
theorem auto_on {l : List UInt8} {k n : Nat} (h : starts l k = true) (hn : n = letters (l.drop (k + 1))) : auto l (k : Int) = (ends l (k + 1 + n)).map fun j => (mid l (k + 1) j, j + 1) := by
  subst hn; unfold auto; rw [if_pos ⟨by omega, by rw [Int.toNat_natCast]; exact h⟩, Int.toNat_natCast]
theorem starts_no {l : List UInt8} {k : Nat} (h : l.length ≤ k ∨ l.getD k 0 ≠ 60 ∨ letters (l.drop (k + 1)) < 2 ∨ 12 < letters (l.drop (k + 1)) ∨ l.getD (k + 1 + letters (l.drop (k + 1))) 0 ≠ 58) : starts l k = false := by
  unfold starts; refine decide_eq_false ?_
  rintro ⟨h1, h2, h3, h4, h5⟩
  rcases h with h | h | h | h | h
  · omega
  · exact h h2
  · omega
  · omega
  · exact h h5
theorem auto_spec {l : List UInt8} {k : Nat} {t : List UInt8} {e : Nat} (h : auto l (k : Int) = some (t, e)) : k < e ∧ e ≤ l.length ∧ l.getD k 0 = 60 := by
  cases hs : starts l k with
  | false => rw [auto_off hs] at h; cases h
  | true =>
    rw [auto_on hs rfl] at h
    obtain ⟨j, hj, he⟩ := Option.map_eq_some_iff.1 h
    injection he with _ he
    have := ends_spec _ _ _ hj
    unfold starts at hs
    exact ⟨by omega, by omega, (of_decide_eq_true hs).2.1⟩

/-! ### where a bracket closes -/
/-- where the next piece begins: behind code, an address, a sign -/
def hop (l : List UInt8) (i : Nat) : Nat :=
  if l.getD i 0 = 96 then (match Cd.span l (i : Int) with | some x => x.2 | none => i + Fn.run 96 (l.drop i))
  else match auto l (i : Int) with | some x => x.2 | none => (Es.next l i).2.1
/-- the sign that stands at a place and means something (0: none) -/
def sign (l : List UInt8) (i : Nat) : Nat :=
  if l.getD i 0 = 96 then 0
  else match auto l (i : Int) with | some _ => 0 | none => if (Es.next l i).2.2 = true then 0 else (Es.next l i).1
theorem hop_span {l : List UInt8} {i : Nat} {t : List UInt8} {e : Nat} (h : l.getD i 0 = 96) (hs : Cd.span l (i : Int) = some (t, e)) : hop l i = e ∧ sign l i = 0 := by
  unfold hop sign; rw [if_pos h, if_pos h, hs]; exact ⟨rfl, rfl⟩
theorem hop_run {l : List UInt8} {i : Nat} (h : l.getD i 0 = 96) (hs : Cd.span l (i : Int) = none) : hop l i = i + Fn.run 96 (l.drop i) ∧ sign l i = 0 := by
  unfold hop sign; rw [if_pos h, if_pos h, hs]; exact ⟨rfl, rfl⟩
theorem hop_auto {l : List UInt8} {i : Nat} {t : List UInt8} {e : Nat} (h : l.getD i 0 ≠ 96) (hs : auto l (i : Int) = some (t, e)) : hop l i = e ∧ sign l i = 0 := by
  unfold hop sign; rw [if_neg h, if_neg h, hs]; exact ⟨rfl, rfl⟩
theorem hop_next {l : List UInt8} {i : Nat} (h : l.getD i 0 ≠ 96) (hs : auto l (i : Int) = none) : hop l i = (Es.next l i).2.1 ∧ sign l i = if (Es.next l i).2.2 = true then 0 else (Es.next l i).1 := by
  unfold hop sign; rw [if_neg h, if_neg h, hs]; exact ⟨rfl, rfl⟩
theorem hop_more {l : List UInt8} {i : Nat} (h : i < l.length) : i < hop l i ∧ hop l i ≤ l.length := by
  by_cases h1 : l.getD i 0 = 96
  · have hr : 1 ≤ Fn.run 96 (l.drop i) := by
      rw [Fn.run_at h (by simpa [List.getD, List.getElem?_eq_getElem h] using h1)]; omega
    cases hs : Cd.span l (i : Int) with
    | none =>
      rw [(hop_run h1 hs).1]
      have := Fn.run_le 96 (l.drop i)
      rw [List.length_drop] at this
      omega
    | some x =>
      obtain ⟨t, e⟩ := x
      rw [(hop_span h1 hs).1]
      have := Cd.span_spec hs
      omega
  · cases hs : auto l (i : Int) with
    | some x =>
      obtain ⟨t, e⟩ := x
      rw [(hop_auto h1 hs).1]
      have := auto_spec hs
      omega
    | none => rw [(hop_next h1 hs).1]; exact Es.next_more h
def closeF : Nat → List UInt8 → Nat → Nat → Option Nat
  | 0, _, _, _ => none
  | f + 1, l, i, d =>
    if i < l.length then
      (if sign l i = 93 then (if d = 0 then some i else closeF f l (hop l i) (d - 1))
       else closeF f l (hop l i) (if sign l i = 91 then d + 1 else d))
    else none
def closes (l : List UInt8) (i d : Nat) : Option Nat := closeF (l.length + 1 - i) l i d
theorem closeF_fuel : ∀ (f g : Nat) (l : List UInt8) (i d : Nat), l.length < f + i → l.length < g + i → closeF f l i d = closeF g l i d
  | 0, 0, _, _, _, _, _ => rfl
  | 0, g + 1, l, i, d, h, _ => by unfold closeF; rw [if_neg (by omega)]
  | f + 1, 0, l, i, d, _, h => by unfold closeF; rw [if_neg (by omega)]
  | f + 1, g + 1, l, i, d, hf, hg => by
    unfold closeF
    by_cases hi : i < l.length
    · have hh := hop_more hi
      rw [if_pos hi, if_pos hi, closeF_fuel f g l _ (d - 1) (by omega) (by omega), closeF_fuel f g l _ (if sign l i = 91 then d + 1 else d) (by omega) (by omega)]
    · rw [if_neg hi, if_neg hi]
theorem closes_out {l : List UInt8} {i d : Nat} (h : l.length ≤ i) : closes l i d = none := by
  unfold closes
  cases hf : l.length + 1 - i with
  | zero => rfl
  | succ f => unfold closeF; rw [if_neg (by omega)]
theorem closes_step {l : List UInt8} {i d : Nat} (h : i < l.length) :
    closes l i d = if sign l i = 93 then (if d = 0 then some i else closes l (hop l i) (d - 1)) else closes l (hop l i) (if sign l i = 91 then d + 1 else d) := by
  have hh := hop_more h
  unfold closes
  obtain ⟨f, hf⟩ : ∃ f, l.length + 1 - i = f + 1 := ⟨l.length - i, by omega⟩
  rw [hf]
  conv => lhs; unfold closeF
  rw [if_pos h, closeF_fuel f (l.length + 1 - hop l i) l _ (d - 1) (by omega) (by omega), closeF_fuel f (l.length + 1 - hop l i) l _ (if sign l i = 91 then d + 1 else d) (by omega) (by omega)]
theorem closes_end {l : List UInt8} {i : Nat} (h : i < l.length) (h1 : sign l i = 93) : closes l i 0 = some i := by rw [closes_step h, if_pos h1, if_pos rfl]
theorem closes_down {l : List UInt8} {i d : Nat} (h : i < l.length) (h1 : sign l i = 93) : closes l i (d + 1) = closes l (hop l i) d := by rw [closes_step h, if_pos h1, if_neg (by omega)]; rfl
theorem closes_up {l : List UInt8} {i d : Nat} (h : i < l.length) (h1 : sign l i = 91) : closes l i d = closes l (hop l i) (d + 1) := by rw [closes_step h, if_neg (by omega), if_pos h1]
theorem closes_on {l : List UInt8} {i d : Nat} (h : i < l.length) (h1 : sign l i ≠ 93) (h2 : sign l i ≠ 91) : closes l i d = closes l (hop l i) d := by rw [closes_step h, if_neg h1, if_neg h2]
def close (l : List UInt8) (at_ : Int) : Option Nat := if 0 ≤ at_ ∧ at_.toNat < l.length ∧ l.getD at_.toNat 0 = 91 then closes l (at_.toNat + 1) 0 else none
theorem close_neg {l : List UInt8} {at_ : Int} (h : at_ < 0) : close l at_ = none := by unfold close; rw [if_neg (by omega)]
theorem close_off {l : List UInt8} {k : Nat} (h : l.length ≤ k ∨ l.getD k 0 ≠ 91) : close l (k : Int) = none := by
  unfold close; rw [Int.toNat_natCast, if_neg]
  rintro ⟨_, h1, h2⟩
  rcases h with h | h
  · omega
  · exact h h2
theorem close_on {l : List UInt8} {k : Nat} (h : k < l.length) (h1 : l.getD k 0 = 91) : close l (k : Int) = closes l (k + 1) 0 := by
  unfold close; rw [Int.toNat_natCast, if_pos ⟨by omega, h, h1⟩]

/-! ### where it leads -/
def destF : Nat → List UInt8 → Nat → Option Nat
  | 0, _, _ => none
  | f + 1, l, i =>
    if i < l.length then
      (if (Es.next l i).2.2 = false ∧ (Es.next l i).1 = 41 then some i
       else if (Es.next l i).2.2 = false ∧ ((Es.next l i).1 = 40 ∨ blankB ((Es.next l i).1 : Int) = true) then none
       else destF f l (Es.next l i).2.1)
    else none
def dends (l : List UInt8) (i : Nat) : Option Nat := destF (l.length + 1 - i) l i
theorem destF_fuel : ∀ (f g : Nat) (l : List UInt8) (i : Nat), l.length < f + i → l.length < g + i → destF f l i = destF g l i
  | 0, 0, _, _, _, _ => rfl
  | 0, g + 1, l, i, h, _ => by unfold destF; rw [if_neg (by omega)]
  | f + 1, 0, l, i, _, h => by unfold destF; rw [if_neg (by omega)]
  | f + 1, g + 1, l, i, hf, hg => by
    unfold destF
    by_cases hi : i < l.length
    · have hh := Es.next_more hi
      rw [if_pos hi, if_pos hi, destF_fuel f g l _ (by omega) (by omega)]
    · rw [if_neg hi, if_neg hi]
theorem dends_out {l : List UInt8} {i : Nat} (h : l.length ≤ i) : dends l i = none := by
  unfold dends
  cases hf : l.length + 1 - i with
  | zero => rfl
  | succ f => unfold destF; rw [if_neg (by omega)]
theorem dends_step {l : List UInt8} {i : Nat} (h : i < l.length) :
    dends l i = if (Es.next l i).2.2 = false ∧ (Es.next l i).1 = 41 then some i else if (Es.next l i).2.2 = false ∧ ((Es.next l i).1 = 40 ∨ blankB ((Es.next l i).1 : Int) = true) then none else dends l (Es.next l i).2.1 := by
  have hh := Es.next_more h
  unfold dends
  obtain ⟨f, hf⟩ : ∃ f, l.length + 1 - i = f + 1 := ⟨l.length - i, by omega⟩
  rw [hf]
  conv => lhs; unfold destF
  rw [if_pos h, destF_fuel f (l.length + 1 - (Es.next l i).2.1) l _ (by omega) (by omega)]
theorem dends_spec {l : List UInt8} : ∀ (f i j : Nat), destF f l i = some j → i ≤ j ∧ j < l.length
  | 0, _, _, h => by simp [destF] at h
  | f + 1, i, j, h => by
    unfold destF at h
    split at h
    · rename_i hi
      split at h
      · injection h with h; subst h; exact ⟨Nat.le_refl _, by assumption⟩
      · split at h
        · cases h
        · have := dends_spec f _ j h; have := Es.next_more hi; omega
    · cases h
def dest (l : List UInt8) (at_ : Int) : Option (List UInt8 × Nat) :=
  if 0 ≤ at_ ∧ at_.toNat < l.length ∧ l.getD at_.toNat 0 = 40 then (dends l (at_.toNat + 1)).map fun j => (Ru.enc (Es.plain (mid l (at_.toNat + 1) j)), j + 1) else none
theorem dest_neg {l : List UInt8} {at_ : Int} (h : at_ < 0) : dest l at_ = none := by unfold dest; rw [if_neg (by omega)]
theorem dest_off {l : List UInt8} {k : Nat} (h : l.length ≤ k ∨ l.getD k 0 ≠ 40) : dest l (k : Int) = none := by
  unfold dest; rw [Int.toNat_natCast, if_neg]
  rintro ⟨_, h1, h2⟩
  rcases h with h | h
  · omega
  · exact h h2
theorem dest_on {l : List UInt8} {k : Nat} (h : k < l.length) (h1 : l.getD k 0 = 40) : dest l (k : Int) = (dends l (k + 1)).map fun j => (Ru.enc (Es.plain (mid l (k + 1) j)), j + 1) := by
  unfold dest; rw [Int.toNat_natCast, if_pos ⟨by omega, h, h1⟩]

/-! ### whether one may go there -/
def low (b : UInt8) : UInt8 := if 65 ≤ b.toNat ∧ b.toNat ≤ 90 then b + 32 else b
/-- the small letters of what stands there, great ones made small -/
def word (l : List UInt8) : List UInt8 := (l.map low).filter small
theorem word_snoc (l : List UInt8) (b : UInt8) : word (l ++ [b]) = word l ++ if small (low b) = true then [low b] else [] := by
  unfold word; rw [List.map_append, List.filter_append]
  cases h : small (low b) <;> simp [h]
theorem word_len (l : List UInt8) : (word l).length ≤ l.length := by
  unfold word; have := List.length_filter_le small (l.map low); rwa [List.length_map] at this
def js : List UInt8 := [106, 97, 118, 97, 115, 99, 114, 105, 112, 116]
def data : List UInt8 := [100, 97, 116, 97]
/-- whether a sign : is there, and what stands ahead of the first one -/
def head (l : List UInt8) : Option (List UInt8) := if l.contains 58 = true then some (l.takeWhile (· != 58)) else none
def safe (l : List UInt8) : Bool := l.getD 0 0 != 35 && (match head l with | none => true | some h => word h != js && word h != data)
end Go.Proofs.Ytjkmhcolnidflaa.Lk
