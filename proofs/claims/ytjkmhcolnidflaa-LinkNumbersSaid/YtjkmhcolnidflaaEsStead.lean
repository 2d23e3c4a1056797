/- What stands in the stead of a byte, told over a range of runes, by no program. -/
import Derived.Test.YtjkmhcolnidflaaEsMath
import Derived.Test.YtjkmhcolnidflaaRnIter
namespace Go.Proofs.Ytjkmhcolnidflaa
open Go.RowKit

/-- the rune at a place: a byte below 128 is itself; else it is 128 or more, and so are its bytes -/
theorem first_rune {l : List UInt8} {pos : Nat} (h : pos < l.length) : ∃ x k : Nat, 1 ≤ k ∧ pos + k ≤ l.length ∧ Utf8.decode (bs l) pos = (x, k) ∧ x ≤ 1114111 ∧ Lib.decodeL (l.drop pos) = (x, k) ∧
    ((l[pos].toNat < 128 ∧ x = l[pos].toNat ∧ k = 1) ∨ (128 ≤ l[pos].toNat ∧ 128 ≤ x ∧ ∀ j (hj : j < l.length), pos ≤ j → j < pos + k → 128 ≤ l[j].toNat)) := by
  have hd := runes_next.decodeL_drop' l pos
  have hne : l.drop pos ≠ [] := Es.drop_ne h
  obtain ⟨h4, hle, hct⟩ := Ru.rune_bytes hne
  have hle2 := hle
  rw [List.length_drop] at hle2
  refine ⟨(Lib.decodeL (l.drop pos)).1, (Lib.decodeL (l.drop pos)).2, Lib.decodeL_width _, by omega, by rw [← hd], Lib.decodeL_rune _, rfl, ?_⟩
  have hc : l.drop pos = l[pos] :: l.drop (pos + 1) := List.drop_eq_getElem_cons h
  by_cases hb : l[pos].toNat < 128
  · left
    rw [hc, Es.decodeL_low hb]
    exact ⟨hb, rfl, rfl⟩
  · right
    refine ⟨by omega, ?_, ?_⟩
    · rw [Lib.decodeL_N]
      have e0 : (l.drop pos).getD 0 0 = l[pos] := by rw [hc]; rfl
      rw [e0]
      rcases Lib.decodeN_shape (l.drop pos).length l[pos].toNat ((l.drop pos).getD 1 0).toNat ((l.drop pos).getD 2 0).toNat ((l.drop pos).getD 3 0).toNat with ⟨c, e⟩ | ⟨c1, c2, c3, cv, e⟩ | ⟨c1, c2, c3, c4, cv, cs, e⟩ | ⟨c1, c2, c3, c4, c5, cv, cw, e⟩ | e
      all_goals (rw [e]; simp only; omega)
    · intro j hj h1 h2
      rcases Nat.lt_or_eq_of_le h1 with h1 | h1
      · have := hct (j - pos) (by omega) (by omega)
        have e : (l.drop pos).getD (j - pos) 0 = l[j] := by
          rw [List.getD_eq_getElem?_getD, List.getElem?_drop, show pos + (j - pos) = j by omega, List.getElem?_eq_getElem hj]; rfl
        rw [e] at this
        omega
      · subst h1; omega

/-- q: what stands for a byte; g: what is said of a rune -/
structure Stead (q : UInt8 → List UInt8) (g : Nat → List UInt8) : Prop where
  high : ∀ b : UInt8, 128 ≤ b.toNat → q b = [b]
  still : ∀ x : Nat, 128 ≤ x → g x = []
  low : ∀ b : UInt8, g b.toNat = [] → q b = [b]
  said : ∀ b : UInt8, g b.toNat ≠ [] → q b = g b.toNat
  few : ∀ x : Nat, (g x).length ≤ 6
/-- X is written, what is behind 'at_' up to 'pos' is not yet -/
def StAt (q : UInt8 → List UInt8) (l X : List UInt8) (at_ pos : Nat) : Prop := (l.take pos).flatMap q = X ++ mid l at_ pos
theorem mid_take (l : List UInt8) (i j : Nat) : mid l i j = (l.take j).drop i := by unfold mid; rw [List.drop_take]
theorem stAt_start (q : UInt8 → List UInt8) (l : List UInt8) : StAt q l [] 0 0 := by simp [StAt, mid]
theorem stAt_quiet {q : UInt8 → List UInt8} {l X : List UInt8} {a pos k : Nat} (h : StAt q l X a pos) (ha : a ≤ pos) (hk : pos + k ≤ l.length) (hq : ∀ j (hj : j < l.length), pos ≤ j → j < pos + k → q l[j] = [l[j]]) : StAt q l X a (pos + k) := by
  unfold StAt at h ⊢
  rw [mid_take] at h ⊢
  have e : l.take (pos + k) = l.take pos ++ (l.drop pos).take k := List.take_add
  have hm : ((l.drop pos).take k).flatMap q = (l.drop pos).take k := by
    have : ∀ M : List UInt8, (∀ b ∈ M, q b = [b]) → M.flatMap q = M := by
      intro M
      induction M with
      | nil => intro _; rfl
      | cons b M ih => intro hb; rw [List.flatMap_cons, hb b (by simp), ih fun c hc => hb c (by simp [hc])]; rfl
    refine this _ fun b hb => ?_
    obtain ⟨j, hj, rfl⟩ := List.getElem_of_mem hb
    have hj2 : j < k ∧ pos + j < l.length := by rw [List.length_take, List.length_drop] at hj; omega
    have := hq (pos + j) hj2.2 (by omega) (by omega)
    simpa using this
  rw [e, List.flatMap_append, h, hm, List.append_assoc, List.drop_append_of_le_length (by rw [List.length_take]; omega)]
theorem stAt_said {q : UInt8 → List UInt8} {l X G : List UInt8} {a pos : Nat} (h : StAt q l X a pos) (hp : pos < l.length) (hq : q l[pos] = G) : StAt q l (X ++ mid l a pos ++ G) (pos + 1) (pos + 1) := by
  unfold StAt at h ⊢
  rw [List.take_succ_eq_append_getElem hp, List.flatMap_append, h]
  have : mid l (pos + 1) (pos + 1) = [] := by simp [mid]
  rw [this]
  simp [hq]
theorem stAt_end {q : UInt8 → List UInt8} {l X : List UInt8} {a : Nat} (h : StAt q l X a l.length) : X ++ l.drop a = l.flatMap q := by
  unfold StAt at h
  rw [mid_take, List.take_length] at h
  exact h.symm
theorem stead_len {q : UInt8 → List UInt8} {g : Nat → List UInt8} (h : Stead q g) (b : UInt8) : (q b).length ≤ 6 := by
  by_cases hg : g b.toNat = []
  · rw [h.low b hg]; simp
  · rw [h.said b hg]; exact h.few _
theorem stead_flat {q : UInt8 → List UInt8} {g : Nat → List UInt8} (h : Stead q g) (l : List UInt8) : (l.flatMap q).length ≤ 6 * l.length := by
  induction l with
  | nil => simp
  | cons b l ih => have := stead_len h b; rw [List.flatMap_cons, List.length_append, List.length_cons]; omega
theorem stAt_len {q : UInt8 → List UInt8} {g : Nat → List UInt8} (hS : Stead q g) {l X : List UInt8} {a pos : Nat} (h : StAt q l X a pos) : X.length + (mid l a pos).length ≤ 6 * l.length := by
  have h1 := congrArg List.length h
  have h2 := stead_flat hS (l.take pos)
  rw [List.length_append] at h1
  rw [List.length_take] at h2
  omega

/-- what is said of a sign -/
def sayQ (x : Nat) : List UInt8 := if asciiB (x : Int) = true then [92, UInt8.ofNat x] else []
theorem steadQ : Stead Es.quote1 sayQ where
  high b h := by unfold Es.quote1; rw [Es.asc_high h]; rfl
  still x h := by
    unfold sayQ
    rw [if_neg]
    unfold asciiB
    rw [decide_eq_true_iff]; omega
  low b h := by
    unfold Es.quote1 Es.asc
    unfold sayQ at h
    by_cases hb : asciiB (b.toNat : Int) = true
    · rw [if_pos hb] at h; cases h
    · rw [if_neg hb]
  said b h := by
    unfold Es.quote1 Es.asc
    unfold sayQ at h ⊢
    by_cases hb : asciiB (b.toNat : Int) = true
    · rw [if_pos hb, if_pos hb]; simp
    · rw [if_neg hb] at h; exact absurd rfl h
  few x := by unfold sayQ; split <;> simp
/-- what a page says of a rune -/
def sayP (x : Nat) : List UInt8 := if x = 38 then [38, 97, 109, 112, 59] else if x = 60 then [38, 108, 116, 59] else if x = 62 then [38, 103, 116, 59] else if x = 34 then [38, 113, 117, 111, 116, 59] else []
theorem byte_nat {b : UInt8} {n : Nat} (hn : n < 256) : b = UInt8.ofNat n ↔ b.toNat = n := by
  constructor
  · intro h; subst h; simp; omega
  · intro h; subst h; simp
theorem page1_nat (b : UInt8) : Es.page1 b = if b.toNat = 38 then [38, 97, 109, 112, 59] else if b.toNat = 60 then [38, 108, 116, 59] else if b.toNat = 62 then [38, 103, 116, 59] else if b.toNat = 34 then [38, 113, 117, 111, 116, 59] else [b] := by
  unfold Es.page1
  have h38 : (b = 38) ↔ b.toNat = 38 := byte_nat (n := 38) (by omega)
  have h60 : (b = 60) ↔ b.toNat = 60 := byte_nat (n := 60) (by omega)
  have h62 : (b = 62) ↔ b.toNat = 62 := byte_nat (n := 62) (by omega)
  have h34 : (b = 34) ↔ b.toNat = 34 := byte_nat (n := 34) (by omega)
  simp only [h38, h60, h62, h34]
theorem steadP : Stead Es.page1 sayP where
  high b h := by rw [page1_nat, if_neg (by omega), if_neg (by omega), if_neg (by omega), if_neg (by omega)]
  still x h := by unfold sayP; rw [if_neg (by omega), if_neg (by omega), if_neg (by omega), if_neg (by omega)]
  low b h := by
    unfold sayP at h
    rw [page1_nat]
    repeat' split at h
    all_goals first | (cases h; done) | (rename_i a b c d; rw [if_neg a, if_neg b, if_neg c, if_neg d])
  said b h := by
    unfold sayP at h ⊢
    rw [page1_nat]
    repeat' split at h
    all_goals first | (exact absurd rfl h) | (simp_all)
  few x := by unfold sayP; repeat' split
              all_goals simp
end Go.Proofs.Ytjkmhcolnidflaa
