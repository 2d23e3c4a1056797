/- The library's words as mine: what is cut off in front, where a word ends, which texts are valid; a rune's bytes. No program is spoken of here. -/
import Derived.Test.YtmmgfoepfapnkaaGreatDoorQ12
import Derived.Lib.SlTrimSet
import Derived.Lib.IndexAny
import Derived.Lib.ValidU
import Derived.Lib.MapLaws
namespace Go.Proofs.YtmmgfoepfapnkaaGreatDoor

theorem at_gap_in (b : UInt8) : [(32 : UInt8), 9].contains b = Cl.isGap b := by
  simp only [Cl.isGap, List.contains, List.elem]
  cases b == 32 <;> cases b == 9 <;> rfl
theorem trimLeft_gaps (l : List UInt8) : Lib.trimLeftS l [32, 9] = l.drop (Cl.gaps l) := by
  unfold Lib.trimLeftS
  induction l with
  | nil => rfl
  | cons b r ih =>
    rw [List.dropWhile_cons, at_gap_in]
    cases hb : Cl.isGap b with
    | true => rw [if_pos rfl, ih, Cl.gaps_go _ hb, List.drop_succ_cons]
    | false => rw [if_neg (by simp), Cl.gaps_word _ hb, List.drop_zero]
theorem indexAny_word (l : List UInt8) : Lib.indexAny l [32, 9] = if (At.tw At.word l).length < l.length then ((At.tw At.word l).length : Int) else -1 := by
  induction l with
  | nil => rfl
  | cons b r ih =>
    rw [Lib.indexAny, at_gap_in]
    cases hb : Cl.isGap b with
    | true => rw [At.tw_no _ (by unfold At.word; rw [hb]; rfl)]; simp
    | false =>
      rw [At.tw_yes _ (by unfold At.word; rw [hb]; rfl), ih]
      simp only [List.length_cons]
      rw [if_neg Bool.false_ne_true]
      by_cases h : (At.tw At.word r).length < r.length
      · rw [if_pos h, if_pos (show (At.tw At.word r).length + 1 < r.length + 1 by omega), if_neg (by rw [beq_iff_eq]; omega)]
        push_cast; rfl
      · rw [if_neg h, if_neg (show ¬ (At.tw At.word r).length + 1 < r.length + 1 by omega)]; rfl

theorem validGo_eq : ∀ (n : Nat) (l : List UInt8), l.length ≤ n → Lib.validGoD n l = decide (Ru.enc (Ru.runes l) = l) := by
  intro n
  induction n with
  | zero =>
    intro l hl
    have : l = [] := List.eq_nil_of_length_eq_zero (by omega)
    subst this
    rfl
  | succ n ih =>
    intro l hl
    rw [Lib.validGoD]
    by_cases h0 : l = []
    · subst h0; rfl
    · rw [if_neg h0, Ru.runes_step h0, Ru.enc_cons]
      have hw := Lib.decodeL_width l
      by_cases hbad : (Lib.decodeL l).1 = 65533 ∧ (Lib.decodeL l).2 = 1
      · rw [if_pos hbad]
        refine (decide_eq_false fun he => ?_).symm
        have := Ru.decode_encode (Lib.decodeL l).1 (Ru.decodeL_vr l) (Ru.enc (Ru.runes (l.drop (Lib.decodeL l).2)))
        rw [he] at this
        have h2 := congrArg Prod.snd this
        simp only at h2
        rw [hbad.1, hbad.2] at h2
        exact absurd h2 (by decide)
      · rw [if_neg hbad, ih _ (by rw [List.length_drop]; omega), Lib.encode_decode l h0 hbad]
        rw [decide_eq_decide]
        constructor
        · intro h; rw [h, List.take_append_drop]
        · intro h
          have h3 := List.take_append_drop (Lib.decodeL l).2 l
          exact List.append_cancel_left (h.trans h3.symm)
theorem valid_eq (l : List UInt8) : Lib.validD l = decide (Ru.enc (Ru.runes l) = l) := validGo_eq _ _ (Nat.le_refl _)

/-- a rune that begins with an ASCII byte is that byte -/
theorem low_rune {b : UInt8} (r : List UInt8) (h : b.toNat < 128) : Lib.decodeL (b :: r) = (b.toNat, 1) := by
  rw [Lib.decodeL_N]
  simp only [List.getD_cons_zero]
  exact Lib.decodeN_ascii _ _ _ _ _ h
theorem decodeN_high (n b0 b1 b2 b3 : Nat) (h : 128 ≤ b0) : 128 ≤ (Lib.decodeN n b0 b1 b2 b3).1 := by
  unfold Lib.decodeN
  rw [if_neg (by omega)]
  repeat' split
  all_goals (simp only; omega)
theorem high_rune {b : UInt8} (r : List UInt8) (h : 128 ≤ b.toNat) : 128 ≤ (Lib.decodeL (b :: r)).1 := by
  rw [Lib.decodeL_N]
  exact decodeN_high _ _ _ _ _ (by simpa using h)
/-- a rune from 128 on: all of its bytes are, and none is a blank or a tab -/
theorem high_word {l : List UInt8} (h : l ≠ []) (hx : 128 ≤ (Lib.decodeL l).1) : (At.tw At.word l).length = (Lib.decodeL l).2 + (At.tw At.word (l.drop (Lib.decodeL l).2)).length := by
  have key : ∀ (k : Nat) (l : List UInt8), k ≤ l.length → (∀ j, j < k → 128 ≤ (l.getD j 0).toNat) → (At.tw At.word l).length = k + (At.tw At.word (l.drop k)).length := by
    intro k
    induction k with
    | zero => intro l _ _; simp
    | succ k ih =>
      intro l hk hj
      rcases l with _ | ⟨b, r⟩
      · simp at hk
      · have h0 := hj 0 (by omega)
        simp only [List.getD_cons_zero] at h0
        rw [At.tw_yes _ (by
          unfold At.word Cl.isGap
          have e1 : (b == 32) = false := beq_eq_false_iff_ne.2 (fun e => by subst e; exact absurd h0 (by decide))
          have e2 : (b == 9) = false := beq_eq_false_iff_ne.2 (fun e => by subst e; exact absurd h0 (by decide))
          simp only [e1, e2]; rfl), List.length_cons, List.drop_succ_cons, ih r (by simpa using hk) (fun j hj' => by have := hj (j + 1) (by omega); simpa using this)]
        omega
  obtain ⟨_, hle, hct⟩ := Ru.rune_bytes h
  refine key _ l hle (fun j hj => ?_)
  rcases Nat.eq_zero_or_pos j with rfl | hp
  · rcases l with _ | ⟨b, r⟩
    · exact absurd rfl h
    · simp only [List.getD_cons_zero]
      rcases Nat.lt_or_ge b.toNat 128 with hb | hb
      · rw [low_rune r hb] at hx; simp only at hx; omega
      · exact hb
  · have := hct j hp hj
    omega
/-- the bytes of a rune from 128 on are from 128 on -/
theorem enc_high {x : Nat} (hx : 128 ≤ x) (hv : Ru.vr x) : 2 ≤ (Lib.encodeRune (x : Int)).length ∧ (Lib.encodeRune (x : Int)).length ≤ 4 ∧ ∀ b ∈ Lib.encodeRune (x : Int), 128 ≤ b.toNat := by
  have key : ∀ L : List Int, (∀ z ∈ L, 128 ≤ z ∧ z < 256) → ∀ b ∈ L.map (fun z : Int => z.toNat.toUInt8), 128 ≤ b.toNat := by
    intro L hL b hb
    obtain ⟨z, hz, rfl⟩ := List.mem_map.1 hb
    have := hL z hz
    have h2 := Ru.ofNat_toNat' z (by omega) (by omega)
    rw [h2]; omega
  have hvr : (x : Nat) < 55296 ∨ (57344 ≤ x ∧ x ≤ 1114111) := hv
  unfold Lib.encodeRune
  rw [List.length_map]
  rcases Nat.lt_or_ge x 2048 with h2 | h2
  · rw [Lib.encodeRuneZ_two (by omega) (by omega)]
    exact ⟨by simp, by simp, key _ (by intro z hz; simp at hz; omega)⟩
  · rcases Nat.lt_or_ge x 65536 with h3 | h3
    · rw [Lib.encodeRuneZ_three (by omega)]
      exact ⟨by simp, by simp, key _ (by intro z hz; simp at hz; omega)⟩
    · rw [Lib.encodeRuneZ_four (by omega) (by omega)]
      exact ⟨by simp, by simp, key _ (by intro z hz; simp at hz; omega)⟩
/-- a byte that is not in a text is nowhere in it -/
theorem indexByte_none {l : List UInt8} {c : UInt8} (h : c ∉ l) : Lib.indexByte l c = -1 := by
  have h1 := Lib.contains_iff_indexByte l c
  rw [show l.contains c = false from by simpa using h] at h1
  have h2 : ¬ (0 : Int) ≤ Lib.indexByte l c := of_decide_eq_false h1.symm
  have h3 : -1 ≤ Lib.indexByte l c := by
    clear h1 h2 h
    induction l with
    | nil => exact Int.le_refl _
    | cons b r ih =>
      unfold Lib.indexByte
      split
      · decide
      · split
        · decide
        · omega
  omega
end Go.Proofs.YtmmgfoepfapnkaaGreatDoor
