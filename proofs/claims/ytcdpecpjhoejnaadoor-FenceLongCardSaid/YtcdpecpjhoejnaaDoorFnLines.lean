/- Plain mathematics of fences: a line of so many blanks, so many of a sign, and what is behind them. No program is spoken of here. -/
import Derived.Test.YtcdpecpjhoejnaaDoorFnMath
namespace Go.Proofs.YtcdpecpjhoejnaaDoor.Fn
open Go.Proofs.YtcdpecpjhoejnaaDoor.Cl

/-- blanks, signs, the rest -/
def line (i k : Nat) (c : UInt8) (T : List UInt8) : List UInt8 := List.replicate i 32 ++ (List.replicate k c ++ T)
theorem sign_gap {c : UInt8} (h : c = 96 ∨ c = 126) : isGap c = false := by rcases h with rfl | rfl <;> rfl
theorem gaps_sign {c : UInt8} {k : Nat} (T : List UInt8) (h : c = 96 ∨ c = 126) (hk : 1 ≤ k) : gaps (List.replicate k c ++ T) = 0 := by
  obtain ⟨k, rfl⟩ : ∃ j, k = j + 1 := ⟨k - 1, by omega⟩
  rw [List.replicate_succ, List.cons_append, gaps_word _ (sign_gap h)]
theorem line_lead {i k : Nat} {c : UInt8} {T : List UInt8} (h : c = 96 ∨ c = 126) (hk : 1 ≤ k) (hi : i ≤ 1000) : cl (line i k c T) = i ∧ rs (line i k c T) = List.replicate k c ++ T := by
  have h1 : lead inf (line i k c T) 0 = (i, i) := lead_flat i _ (gaps_sign T h hk) hi
  constructor
  · unfold cl; rw [h1]
  · unfold rs; rw [h1]
    unfold line
    rw [List.drop_append, List.length_replicate, List.drop_eq_nil_of_le (by simp), Nat.sub_self]; rfl
theorem drop_signs (k : Nat) (c : UInt8) (T : List UInt8) : (List.replicate k c ++ T).drop k = T := by
  rw [List.drop_append, List.length_replicate, List.drop_eq_nil_of_le (by simp), Nat.sub_self]; rfl

theorem begins_line {i k : Nat} {c : UInt8} {T : List UInt8} (h : c = 96 ∨ c = 126) (hT : run c T = 0) (hi : i ≤ 3) (hk : 3 ≤ k) :
    begins (line i k c T) = if c = 96 ∧ 96 ∈ trim T then none else some ⟨c, k, i, trim T⟩ := by
  obtain ⟨h1, h2⟩ := line_lead (T := T) h (show 1 ≤ k by omega) (show i ≤ 1000 by omega)
  have hr : run c (List.replicate k c ++ T) = k := by rw [run_rep, hT]; rfl
  have hf : info (List.replicate k c ++ T) c = trim T := by unfold info; rw [hr, drop_signs]
  obtain ⟨j, rfl⟩ : ∃ j, k = j + 1 := ⟨k - 1, by omega⟩
  rw [List.replicate_succ, List.cons_append] at h2 hr hf
  by_cases hq : c = 96 ∧ 96 ∈ trim T
  · rw [if_pos hq, begins_no h2 (fun hh => hh.2.2.2 (by rw [hf]; exact hq))]
  · rw [if_neg hq, begins_yes h2 (by omega) h (by omega) (by rw [hf]; exact hq), hr, hf, h1]
theorem ends_line {i k : Nat} {c : UInt8} {T : List UInt8} (n : Int) (h : c = 96 ∨ c = 126) (hT : run c T = 0) (hi : i ≤ 1000) (hk : 1 ≤ k) :
    ends c n (line i k c T) = (decide (1 ≤ n ∧ i ≤ 3 ∧ n ≤ (k : Int)) && emp T) := by
  obtain ⟨h1, h2⟩ := line_lead (T := T) h hk hi
  have hr : run c (List.replicate k c ++ T) = k := by rw [run_rep, hT]; rfl
  unfold ends
  rw [h1, h2, hr, drop_signs]

/-- nothing of it is a blank or a tab, nor a sign -/
def clean (s : List UInt8) : Prop := ∀ b ∈ s, isGap b = false ∧ b ≠ 96 ∧ b ≠ 126
theorem front_clean {s : List UInt8} (h : clean s) (T : List UInt8) (hs : s ≠ []) : front (s ++ T) = s ++ T := by
  rcases s with _ | ⟨b, r⟩
  · exact absurd rfl hs
  · exact front_word _ (h b (by simp)).1
theorem back_clean {s : List UInt8} (h : clean s) : back s = s := by
  induction s with
  | nil => rfl
  | cons b r ih => rw [back_word _ (h b (by simp)).1, ih (fun x hx => h x (by simp [hx]))]
theorem trim_clean {s : List UInt8} (h : clean s) : trim s = s := by
  unfold trim
  by_cases hs : s = []
  · rw [hs]; rfl
  · have := front_clean h [] hs
    rw [List.append_nil] at this
    rw [this, back_clean h]
theorem trim_around {s : List UInt8} (h : clean s) : trim ([32, 9] ++ (s ++ [32])) = s := by
  unfold trim
  rw [List.cons_append, List.cons_append, List.nil_append, front_gap _ (by rfl), front_gap _ (by rfl)]
  by_cases hs : s = []
  · subst hs; rfl
  · rw [front_clean h _ hs, back_snoc_gap _ (by rfl), back_clean h]
theorem trim_tick {s : List UInt8} : trim (120 :: (s ++ [96])) = 120 :: (s ++ [96]) := by
  unfold trim
  rw [front_word _ (by rfl), show (120 : UInt8) :: (s ++ [96]) = (120 :: s) ++ [96] from rfl, back_snoc_word _ (by rfl)]
theorem trim_tilde {s : List UInt8} (h : clean s) : trim (32 :: (s ++ [126])) = s ++ [126] := by
  unfold trim
  rw [front_gap _ (by rfl)]
  by_cases hs : s = []
  · subst hs; rfl
  · rw [front_clean h _ hs, back_snoc_word _ (by rfl)]
theorem run_clean {s : List UInt8} (h : clean s) : run 96 s = 0 := by
  rcases s with _ | ⟨b, r⟩
  · rfl
  · exact run_stop _ (h b (by simp)).2.1
theorem clean_no {s : List UInt8} (h : clean s) : ¬ (96 : UInt8) ∈ s := fun hm => (h 96 hm).2.1 rfl

/-- the four lines of a word without signs -/
theorem info_one {s : List UInt8} (h : clean s) {k : Nat} (hk : 3 ≤ k) : begins (List.replicate k 126 ++ ([32, 9] ++ (s ++ [32]))) = some ⟨126, k, 0, s⟩ := by
  have := begins_line (i := 0) (k := k) (c := 126) (T := [32, 9] ++ (s ++ [32])) (.inr rfl) (by rfl) (by omega) hk
  rw [if_neg (fun hh => absurd hh.1 (by decide)), trim_around h] at this
  exact this
theorem info_two {s : List UInt8} (h : clean s) : begins ([96, 96, 96] ++ s) = some ⟨96, 3, 0, s⟩ := by
  have := begins_line (i := 0) (k := 3) (c := 96) (T := s) (.inl rfl) (run_clean h) (by omega) (by omega)
  rw [trim_clean h, if_neg (fun hh => clean_no h hh.2)] at this
  exact this
theorem info_three (s : List UInt8) : begins ([96, 96, 96] ++ (120 :: (s ++ [96]))) = none := by
  have := begins_line (i := 0) (k := 3) (c := 96) (T := 120 :: (s ++ [96])) (.inl rfl) (by rfl) (by omega) (by omega)
  rw [trim_tick, if_pos ⟨rfl, by simp⟩] at this
  exact this
theorem info_four {s : List UInt8} (h : clean s) : begins ([126, 126, 126] ++ (32 :: (s ++ [126]))) = some ⟨126, 3, 0, s ++ [126]⟩ := by
  have := begins_line (i := 0) (k := 3) (c := 126) (T := 32 :: (s ++ [126])) (.inr rfl) (by rfl) (by omega) (by omega)
  rw [if_neg (fun hh => absurd hh.1 (by decide)), trim_tilde h] at this
  exact this

/-- a fence of blanks and signs alone -/
theorem self_begins {i k : Nat} {c : UInt8} (h : c = 96 ∨ c = 126) (hi : i ≤ 3) (hk : 3 ≤ k) : begins (List.replicate i 32 ++ List.replicate k c) = some ⟨c, k, i, []⟩ := by
  have := begins_line (i := i) (k := k) (c := c) (T := []) h (by rfl) hi hk
  rw [show trim [] = [] from rfl, if_neg (by simp)] at this
  unfold line at this
  rwa [List.append_nil] at this
theorem self_ends {i k m : Nat} {c : UInt8} (h : c = 96 ∨ c = 126) (hi : i ≤ 1000) (hk : 1 ≤ k) (T : List UInt8) (hT : run c T = 0) :
    ends c (m : Nat) (List.replicate i 32 ++ (List.replicate k c ++ T)) = (decide (1 ≤ m ∧ i ≤ 3 ∧ m ≤ k) && emp T) := by
  rw [show List.replicate i 32 ++ (List.replicate k c ++ T) = line i k c T from rfl, ends_line _ h hT hi hk]
  congr 1
  rw [decide_eq_decide]; omega
/-- a fence as long as Long says ends at no text of its own -/
theorem long_ends {ls : List (List UInt8)} {s : List UInt8} (h : s ∈ ls) : ends 96 (long ls : Nat) s = false := by
  have h1 := lgs_mem h
  have h2 : run 96 (rs s) ≤ lg s := Nat.le_trans (run_lg _) (lg_drop _ _)
  refine ends_no fun hh => ?_
  have := hh.2.2
  unfold long at this
  omega
theorem long_le {ls : List (List UInt8)} {n : Nat} (h : ∀ s ∈ ls, s.length ≤ n) : 3 ≤ long ls ∧ long ls ≤ max (n + 1) 3 := by
  have := lgs_le h
  unfold long; omega
end Go.Proofs.YtcdpecpjhoejnaaDoor.Fn
