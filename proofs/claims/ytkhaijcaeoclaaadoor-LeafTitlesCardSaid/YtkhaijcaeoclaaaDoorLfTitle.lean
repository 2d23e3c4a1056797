/- Plain mathematics of single lines: a heading's text is told, however many signs close it. No program is spoken of here. -/
import Derived.Test.YtkhaijcaeoclaaaDoorLfOne
import Derived.Test.YtkhaijcaeoclaaaDoorRu
namespace Go.Proofs.YtkhaijcaeoclaaaDoor
open Go.Proofs.YtkhaijcaeoclaaaDoor.Cl (isGap)
open Go.Lib (encodeRune encodeRuneZ)

/-- a byte that is no blank, no tab, no sign -/
def Lf.dark (b : UInt8) : Bool := !isGap b && b != 35
/-- a word of them -/
def Lf.word (N : List UInt8) : Prop := N ≠ [] ∧ N.length ≤ 44 ∧ ∀ b ∈ N, Lf.dark b = true
theorem Lf.dark_gap {b : UInt8} (h : Lf.dark b = true) : isGap b = false ∧ b ≠ 35 := by
  unfold Lf.dark at h; simp at h; exact h
theorem Lf.dark_of {b : UInt8} (h : 33 ≤ b.toNat) (h' : b.toNat ≠ 35) : Lf.dark b = true := by
  have h1 : b ≠ 32 := by rintro rfl; revert h; decide
  have h2 : b ≠ 9 := by rintro rfl; revert h; decide
  have h3 : b ≠ 35 := by rintro rfl; exact h' rfl
  unfold Lf.dark Cl.isGap; simp [h1, h2, h3]
/-- a rune's bytes -/
theorem Lf.rune_dark {x : Nat} (h : 32 < x) (h' : x ≠ 35) : (encodeRune (x : Int)).length ≤ 4 ∧ ∀ b ∈ encodeRune (x : Int), Lf.dark b = true := by
  have hl := (Lib.encodeRuneZ_length (x : Int)).2
  refine ⟨by unfold Lib.encodeRune; rw [List.length_map]; exact hl, fun b hb => ?_⟩
  unfold Lib.encodeRune at hb
  obtain ⟨z, hz, rfl⟩ := List.mem_map.1 hb
  have hb2 := Lib.encodeRuneZ_byte (x : Int) z hz
  have key : 33 ≤ z ∧ z ≠ 35 := by
    by_cases h1 : x ≤ 127
    · rw [Lib.encodeRuneZ_one (by omega) (by omega)] at hz
      simp at hz; omega
    · by_cases h2 : x ≤ 2047
      · rw [Lib.encodeRuneZ_two (by omega) (by omega)] at hz
        simp at hz; omega
      · by_cases h3 : (2048 ≤ (x : Int) ∧ (x : Int) < 55296) ∨ (57343 < (x : Int) ∧ (x : Int) ≤ 65535)
        · rw [Lib.encodeRuneZ_three h3] at hz
          simp at hz; omega
        · by_cases h4 : 65536 ≤ (x : Int) ∧ (x : Int) ≤ 1114111
          · rw [Lib.encodeRuneZ_four h4.1 h4.2] at hz
            simp at hz; omega
          · rw [Lib.encodeRuneZ_bad (by omega)] at hz
            simp at hz; omega
  refine Lf.dark_of ?_ ?_
  · simp; omega
  · simp; omega
theorem Lf.word_more {N E : List UInt8} (h : Lf.word N) (hl : N.length < 40) (hE : E.length ≤ 4) (hd : ∀ b ∈ E, Lf.dark b = true) : Lf.word (N ++ E) := by
  refine ⟨by simp [h.1], by simp; omega, fun b hb => ?_⟩
  rcases List.mem_append.1 hb with hb | hb
  · exact h.2.2 b hb
  · exact hd b hb

section
variable {N : List UInt8} (h : Lf.word N)
include h
theorem Lf.word_front (r : List UInt8) : Fn.front (N ++ r) = N ++ r := by
  rcases N with _ | ⟨b, q⟩
  · exact absurd rfl h.1
  · exact Fn.front_word _ (Lf.dark_gap (h.2.2 b (.head _))).1
theorem Lf.word_last : ∃ q b, N = q ++ [b] ∧ isGap b = false ∧ b ≠ 35 := by
  rcases List.eq_nil_or_concat N with e | ⟨q, b, e⟩
  · exact absurd e h.1
  · rw [List.concat_eq_append] at e
    exact ⟨q, b, e, Lf.dark_gap (h.2.2 b (by rw [e]; simp))⟩
theorem Lf.word_back : Fn.back N = N := by
  obtain ⟨q, b, rfl, hg, _⟩ := Lf.word_last h
  exact Fn.back_snoc_word q hg
theorem Lf.word_title : Lf.title N = N := by
  obtain ⟨q, b, e, hg, h35⟩ := Lf.word_last h
  have hu : Lf.unhash N = N := by rw [e, Lf.unhash_snoc_word q h35]
  unfold Lf.title
  rw [hu, if_neg]
  unfold Lf.closed
  rw [e, List.getLast?_concat]
  simp [hg]
omit h in
theorem Lf.unhash_signs (l : List UInt8) (m : Nat) : Lf.unhash (l ++ List.replicate m 35) = Lf.unhash l := by
  induction m with
  | zero => simp
  | succ m ih => rw [List.replicate_succ', ← List.append_assoc, Lf.unhash_snoc_sign, ih]
theorem Lf.signs_title (m : Nat) : Lf.title (Fn.trim (32 :: (N ++ 32 :: List.replicate m 35))) = N := by
  unfold Fn.trim
  rw [Fn.front_gap _ (by decide), Lf.word_front h]
  rcases Nat.eq_zero_or_pos m with rfl | hm
  · rw [show N ++ 32 :: List.replicate 0 35 = N ++ [32] from rfl, Fn.back_snoc_gap N (by decide), Lf.word_back h, Lf.word_title h]
  · obtain ⟨j, rfl⟩ : ∃ j, m = j + 1 := ⟨m - 1, by omega⟩
    have e : N ++ 32 :: List.replicate (j + 1) 35 = (N ++ [32] ++ List.replicate j 35) ++ [35] := by rw [List.replicate_succ']; simp
    rw [e, Fn.back_snoc_word _ (by decide)]
    have hu : Lf.unhash ((N ++ [32] ++ List.replicate j 35) ++ [35]) = N ++ [32] := by
      rw [Lf.unhash_snoc_sign, Lf.unhash_signs, Lf.unhash_snoc_word N (by decide)]
    unfold Lf.title
    rw [hu, if_pos (by unfold Lf.closed; rw [List.getLast?_concat]; rfl), Fn.back_snoc_gap N (by decide), Lf.word_back h]
omit h in
theorem Lf.signs_first {k : Nat} (h1 : 1 ≤ k) (r : List UInt8) : Fn.cl (List.replicate k 35 ++ r) = 0 ∧ Fn.rs (List.replicate k 35 ++ r) = List.replicate k 35 ++ r := by
  obtain ⟨j, rfl⟩ : ∃ j, k = j + 1 := ⟨k - 1, by omega⟩
  have hl : Cl.lead Cl.inf (List.replicate (j + 1) 35 ++ r) 0 = (0, 0) := by
    rw [List.replicate_succ, List.cons_append]
    exact Cl.lead_word _ (by decide)
  unfold Fn.cl Fn.rs
  rw [hl]
  exact ⟨rfl, rfl⟩
omit h in
theorem Lf.signs_run {k : Nat} {b : UInt8} {r : List UInt8} (hb : b ≠ 35) : Fn.run 35 (List.replicate k 35 ++ b :: r) = k := by
  rw [Fn.run_rep, Fn.run_stop _ hb]; rfl
theorem Lf.title_one {k : Nat} (h1 : 1 ≤ k) (h6 : k ≤ 6) (m : Nat) : Lf.heading (List.replicate k 35 ++ 32 :: (N ++ 32 :: List.replicate m 35)) = some (k, N) := by
  obtain ⟨hc, hr⟩ := Lf.signs_first h1 (32 :: (N ++ 32 :: List.replicate m 35))
  have hn := Lf.signs_run (k := k) (b := 32) (r := N ++ 32 :: List.replicate m 35) (by decide)
  have hd : (List.replicate k (35 : UInt8) ++ 32 :: (N ++ 32 :: List.replicate m 35)).drop k = 32 :: (N ++ 32 :: List.replicate m 35) := List.drop_left' (by simp)
  unfold Lf.heading
  rw [hc, hr, hn, hd, if_pos ⟨by omega, h1, h6, rfl⟩, Lf.signs_title h]
theorem Lf.title_two {k : Nat} (h1 : 1 ≤ k) (h6 : k ≤ 6) : Lf.heading (List.replicate k 35 ++ 9 :: (N ++ [32, 32])) = some (k, N) := by
  obtain ⟨hc, hr⟩ := Lf.signs_first h1 (9 :: (N ++ [32, 32]))
  have hn := Lf.signs_run (k := k) (b := 9) (r := N ++ [32, 32]) (by decide)
  have hd : (List.replicate k (35 : UInt8) ++ 9 :: (N ++ [32, 32])).drop k = 9 :: (N ++ [32, 32]) := List.drop_left' (by simp)
  have ht : Fn.trim (9 :: (N ++ [32, 32])) = N := by
    unfold Fn.trim
    rw [Fn.front_gap _ (by decide), Lf.word_front h, show N ++ [32, 32] = (N ++ [32]) ++ [32] from by simp, Fn.back_snoc_gap _ (by decide), Fn.back_snoc_gap _ (by decide), Lf.word_back h]
  unfold Lf.heading
  rw [hc, hr, hn, hd, if_pos ⟨by omega, h1, h6, rfl⟩, ht, Lf.word_title h]
theorem Lf.title_three {k : Nat} (h1 : 1 ≤ k) : Lf.heading (List.replicate k 35 ++ N) = none := by
  obtain ⟨hc, hr⟩ := Lf.signs_first h1 N
  rcases N with _ | ⟨b, q⟩
  · exact absurd rfl h.1
  · obtain ⟨hg, h35⟩ := Lf.dark_gap (h.2.2 b (.head _))
    have hn := Lf.signs_run (k := k) (b := b) (r := q) h35
    have hd : (List.replicate k (35 : UInt8) ++ b :: q).drop k = b :: q := List.drop_left' (by simp)
    unfold Lf.heading
    rw [hc, hr, hn, hd, if_neg]
    intro hh
    have := hh.2.2.2
    rw [show Lf.stop (b :: q) = isGap b from rfl, hg] at this
    cases this
omit h in
theorem Lf.title_four (N : List UInt8) : Lf.heading (List.replicate 7 35 ++ 32 :: N) = none := by
  obtain ⟨hc, hr⟩ := Lf.signs_first (k := 7) (by omega) (32 :: N)
  have hn := Lf.signs_run (k := 7) (b := 32) (r := N) (by decide)
  unfold Lf.heading
  rw [hc, hr, hn, if_neg (by omega)]
end
end Go.Proofs.YtkhaijcaeoclaaaDoor
