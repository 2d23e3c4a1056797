/- Runes of a text as lists, by no program: what is read, what is written, what is folded; written is read again; the last rune. -/
import Derived.Lib.MapLaws
import Derived.Lib.QuoteLoop
import Derived.Lib.SpaceUEq
import Derived.Lib.RuneBytes
namespace Go.Proofs.YtmmgfoepfapnkaaGreatDoor.Ru
open Go.Lib

/-- the runes of bytes, by at most so many steps -/
def runesF : Nat → List UInt8 → List Nat
  | 0, _ => []
  | f + 1, l => if l = [] then [] else (decodeL l).1 :: runesF f (l.drop (decodeL l).2)
/-- the runes of bytes -/
def runes (l : List UInt8) : List Nat := runesF l.length l

theorem runesF_fuel : ∀ (f g : Nat) (l : List UInt8), l.length ≤ f → l.length ≤ g → runesF f l = runesF g l
  | 0, 0, _, _, _ => rfl
  | 0, g + 1, l, h, _ => by
    have : l = [] := List.eq_nil_of_length_eq_zero (by omega)
    simp [runesF, this]
  | f + 1, 0, l, _, h => by
    have : l = [] := List.eq_nil_of_length_eq_zero (by omega)
    simp [runesF, this]
  | f + 1, g + 1, l, hf, hg => by
    unfold runesF
    by_cases h : l = []
    · simp [h]
    · have hl : 0 < l.length := List.length_pos_iff.2 h
      have hw := decodeL_width l
      simp only [h, if_false]
      rw [runesF_fuel f g _ (by rw [List.length_drop]; omega) (by rw [List.length_drop]; omega)]

theorem runes_nil : runes [] = [] := rfl
theorem runes_step {l : List UInt8} (h : l ≠ []) : runes l = (decodeL l).1 :: runes (l.drop (decodeL l).2) := by
  have hl : 0 < l.length := List.length_pos_iff.2 h
  have hw := decodeL_width l
  obtain ⟨n, hn⟩ : ∃ n, l.length = n + 1 := ⟨l.length - 1, by omega⟩
  unfold runes
  rw [hn]
  conv => lhs; unfold runesF
  simp only [h, if_false]
  rw [runesF_fuel n _ _ (by rw [List.length_drop]; omega) (Nat.le_refl _)]

theorem runes_ne {l : List UInt8} (h : l ≠ []) : runes l ≠ [] := by rw [runes_step h]; simp
/-- what may be a rune -/
def vr (r : Nat) : Prop := r < 55296 ∨ (57344 ≤ r ∧ r ≤ 1114111)
theorem decodeL_vr (l : List UInt8) : vr (decodeL l).1 := by
  rw [decodeL_N]
  have := decodeN_valid l.length (l.getD 0 0).toNat (l.getD 1 0).toNat (l.getD 2 0).toNat (l.getD 3 0).toNat (l.getD 0 0).toNat_lt
  unfold vr; omega

/-- by steps: what holds of nothing, and of one rune more ahead, holds of all -/
theorem bytes_ind {P : List UInt8 → Prop} (h0 : P []) (h1 : ∀ l, l ≠ [] → P (l.drop (decodeL l).2) → P l) : ∀ l, P l := by
  have : ∀ (n : Nat) (l : List UInt8), l.length ≤ n → P l := by
    intro n
    induction n with
    | zero => intro l hl; have : l = [] := List.eq_nil_of_length_eq_zero (by omega); rw [this]; exact h0
    | succ n ih =>
      intro l hl
      by_cases h : l = []
      · rw [h]; exact h0
      · have hp : 0 < l.length := List.length_pos_iff.2 h
        have hw := decodeL_width l
        exact h1 l h (ih _ (by rw [List.length_drop]; omega))
  exact fun l => this _ l (Nat.le_refl _)

theorem runes_len : ∀ l, (runes l).length ≤ l.length := by
  refine bytes_ind (by simp [runes_nil]) ?_
  intro l h ih
  have hp : 0 < l.length := List.length_pos_iff.2 h
  have hw := decodeL_width l
  rw [runes_step h, List.length_cons]
  rw [List.length_drop] at ih
  omega

/-- at a place -/
theorem runes_at {l : List UInt8} {pos : Nat} (h : pos < l.length) : runes (l.drop pos) = (Utf8.decode ⟨l.toArray⟩ pos).1 :: runes (l.drop (pos + (Utf8.decode ⟨l.toArray⟩ pos).2)) := by
  have hd := decodeL_drop ⟨l.toArray⟩ pos
  simp only at hd
  rw [← hd, runes_step (by intro h0; have := congrArg List.length h0; rw [List.length_drop] at this; simp at this; omega), List.drop_drop]

/-- one text -/
def enc (X : List Nat) : List UInt8 := X.flatMap fun x : Nat => encodeRune (x : Int)
theorem enc_nil : enc [] = [] := rfl
theorem enc_cons (x : Nat) (X : List Nat) : enc (x :: X) = encodeRune (x : Int) ++ enc X := rfl
theorem enc_append (X Y : List Nat) : enc (X ++ Y) = enc X ++ enc Y := by simp [enc]
theorem enc_snoc (X : List Nat) (x : Nat) : enc (X ++ [x]) = enc X ++ encodeRune (x : Int) := by rw [enc_append, enc_cons, enc_nil, List.append_nil]
theorem encodeRune_len (r : Int) : 1 ≤ (encodeRune r).length ∧ (encodeRune r).length ≤ 4 := by
  have := encodeRuneZ_length r
  simpa [encodeRune] using this
theorem enc_len (X : List Nat) : X.length ≤ (enc X).length ∧ (enc X).length ≤ 4 * X.length := by
  induction X with
  | nil => simp [enc_nil]
  | cons x X ih => have := encodeRune_len (x : Int); rw [enc_cons, List.length_append, List.length_cons]; omega
theorem ofNat_toNat (z : Int) (h0 : 0 ≤ z) (h1 : z < 256) : ((z.toNat.toUInt8).toNat : Int) = z := by
  have : (z.toNat.toUInt8).toNat = z.toNat % 256 := by simp
  rw [this]; omega
theorem ofNat_toNat' (z : Int) (h0 : 0 ≤ z) (h1 : z < 256) : (z.toNat.toUInt8).toNat = z.toNat := by
  have := ofNat_toNat z h0 h1
  omega

/-- what is written is read -/
theorem decode_encode (r : Nat) (hv : vr r) (t : List UInt8) : decodeL (encodeRune (r : Int) ++ t) = (r, (encodeRune (r : Int)).length) := by
  unfold vr at hv
  rw [decodeL_N]
  by_cases h1 : r ≤ 127
  · have e : encodeRune (r : Int) = [(r : Int).toNat.toUInt8] := by rw [encodeRune, encodeRuneZ_one (by omega) (by omega)]; rfl
    rw [e]
    simp only [List.cons_append, List.nil_append, List.getD_cons_zero]
    rw [decodeN_ascii _ _ _ _ _ (by rw [ofNat_toNat' _ (by omega) (by omega)]; omega), ofNat_toNat' _ (by omega) (by omega)]
    simp
  · by_cases h2 : r ≤ 2047
    · have e : encodeRune (r : Int) = [(192 + (r : Int) / 64).toNat.toUInt8, (128 + (r : Int) % 64).toNat.toUInt8] := by rw [encodeRune, encodeRuneZ_two (by omega) (by omega)]; rfl
      rw [e]
      simp only [List.cons_append, List.nil_append, List.getD_cons_zero, List.getD_cons_succ, List.length_cons, List.length_nil]
      have b0 := ofNat_toNat' (192 + (r : Int) / 64) (by omega) (by omega)
      have b1 := ofNat_toNat' (128 + (r : Int) % 64) (by omega) (by omega)
      unfold decodeN
      rw [b0, b1]
      rw [if_neg (by omega), if_pos (by omega), if_pos (by omega)]
      exact Prod.ext (by simp only; omega) rfl
    · by_cases h3 : r ≤ 65535
      · have e : encodeRune (r : Int) = [(224 + (r : Int) / 4096).toNat.toUInt8, (128 + (r : Int) / 64 % 64).toNat.toUInt8, (128 + (r : Int) % 64).toNat.toUInt8] := by rw [encodeRune, encodeRuneZ_three (by omega)]; rfl
        rw [e]
        simp only [List.cons_append, List.nil_append, List.getD_cons_zero, List.getD_cons_succ, List.length_cons, List.length_nil]
        have b0 := ofNat_toNat' (224 + (r : Int) / 4096) (by omega) (by omega)
        have b1 := ofNat_toNat' (128 + (r : Int) / 64 % 64) (by omega) (by omega)
        have b2 := ofNat_toNat' (128 + (r : Int) % 64) (by omega) (by omega)
        unfold decodeN
        rw [b0, b1, b2]
        rw [if_neg (by omega), if_neg (by omega), if_pos (by omega), if_pos (by omega)]
        exact Prod.ext (by simp only; omega) rfl
      · have e : encodeRune (r : Int) = [(240 + (r : Int) / 262144).toNat.toUInt8, (128 + (r : Int) / 4096 % 64).toNat.toUInt8, (128 + (r : Int) / 64 % 64).toNat.toUInt8, (128 + (r : Int) % 64).toNat.toUInt8] := by rw [encodeRune, encodeRuneZ_four (by omega) (by omega)]; rfl
        rw [e]
        simp only [List.cons_append, List.nil_append, List.getD_cons_zero, List.getD_cons_succ, List.length_cons, List.length_nil]
        have b0 := ofNat_toNat' (240 + (r : Int) / 262144) (by omega) (by omega)
        have b1 := ofNat_toNat' (128 + (r : Int) / 4096 % 64) (by omega) (by omega)
        have b2 := ofNat_toNat' (128 + (r : Int) / 64 % 64) (by omega) (by omega)
        have b3 := ofNat_toNat' (128 + (r : Int) % 64) (by omega) (by omega)
        unfold decodeN
        rw [b0, b1, b2, b3]
        rw [if_neg (by omega), if_neg (by omega), if_neg (by omega), if_pos (by omega), if_pos (by omega)]
        exact Prod.ext (by simp only; omega) rfl

theorem valid_yes {r : Int} (h : (0 ≤ r ∧ r < 55296) ∨ (57344 ≤ r ∧ r ≤ 1114111)) : Utf8.valid r = true := by unfold Utf8.valid; simp; omega
theorem valid_no {r : Int} (h : ¬ ((0 ≤ r ∧ r < 55296) ∨ (57344 ≤ r ∧ r ≤ 1114111))) : Utf8.valid r = false := by
  cases hv : Utf8.valid r with
  | false => rfl
  | true => unfold Utf8.valid at hv; simp at hv; omega
theorem encode_eq (r : Int) : Utf8.encode r = ⟨(encodeRune r).toArray⟩ := by
  unfold Utf8.encode encodeRune
  by_cases hb : r < 0 ∨ (55296 ≤ r ∧ r ≤ 57343) ∨ 1114111 < r
  · rw [encodeRuneZ_bad hb, valid_no (by omega)]
    simp only [Bool.false_eq_true, if_false]
    rfl
  · rw [valid_yes (by omega)]
    simp only [if_true]
    by_cases h1 : r ≤ 127
    · rw [if_pos (by omega), encodeRuneZ_one (by omega) h1]
      rfl
    · by_cases h2 : r ≤ 2047
      · rw [if_neg (by omega), if_pos (by omega), encodeRuneZ_two (by omega) h2]
        have e0 : (192 + r / 64).toNat = 192 + r.toNat / 64 := by omega
        have e1 : (128 + r % 64).toNat = 128 + r.toNat % 64 := by omega
        simp only [List.map_cons, List.map_nil, e0, e1]
      · by_cases h3 : r ≤ 65535
        · rw [if_neg (by omega), if_neg (by omega), if_pos (by omega), encodeRuneZ_three (by omega)]
          have e0 : (224 + r / 4096).toNat = 224 + r.toNat / 4096 := by omega
          have e1 : (128 + r / 64 % 64).toNat = 128 + r.toNat / 64 % 64 := by omega
          have e2 : (128 + r % 64).toNat = 128 + r.toNat % 64 := by omega
          simp only [List.map_cons, List.map_nil, e0, e1, e2]
        · rw [if_neg (by omega), if_neg (by omega), if_neg (by omega), encodeRuneZ_four (by omega) (by omega)]
          have e0 : (240 + r / 262144).toNat = 240 + r.toNat / 262144 := by omega
          have e1 : (128 + r / 4096 % 64).toNat = 128 + r.toNat / 4096 % 64 := by omega
          have e2 : (128 + r / 64 % 64).toNat = 128 + r.toNat / 64 % 64 := by omega
          have e3 : (128 + r % 64).toNat = 128 + r.toNat % 64 := by omega
          simp only [List.map_cons, List.map_nil, e0, e1, e2, e3]

/-! ### the last rune -/
/-- the bytes of a rune behind its first are none that a rune begins with; and the first is none, if more follow -/
theorem rune_bytes {l : List UInt8} (h : l ≠ []) : (decodeL l).2 ≤ 4 ∧ (decodeL l).2 ≤ l.length ∧ ∀ j, 1 ≤ j → j < (decodeL l).2 → (l.getD j 0).toNat / 64 = 2 := by
  have hc := decodeN_conts l.length (l.getD 0 0).toNat (l.getD 1 0).toNat (l.getD 2 0).toNat (l.getD 3 0).toNat
  rw [← decodeL_N] at hc
  have hle := decodeL_le l h
  refine ⟨hc.2.2.2, hle, fun j h1 h2 => ?_⟩
  obtain ⟨c1, c2, c3, c4⟩ := hc
  have : j = 1 ∨ j = 2 ∨ j = 3 := by omega
  rcases this with rfl | rfl | rfl
  · exact (c1 (by omega)).1
  · exact (c2 (by omega)).1
  · exact (c3 (by omega)).1
theorem decode_cont {l : List UInt8} (h : (l.getD 0 0).toNat / 64 = 2) : decodeL l = (65533, 1) := by
  rw [decodeL_N, decodeN_cont _ _ _ _ _ h]

/-- where the last rune's beginning is looked for -/
theorem lastStart_spec (l : List UInt8) (h : l ≠ []) :
    (lastStart l + 5 = l.length ∧ ∀ j, 2 ≤ j → j ≤ 4 → (l.getD (l.length - j) 0).toNat / 64 = 2) ∨
    (lastStart l = 0 ∧ l.length ≤ 4 ∧ ∀ j, 2 ≤ j → j ≤ l.length → (l.getD (l.length - j) 0).toNat / 64 = 2) ∨
    (∃ j, 2 ≤ j ∧ j ≤ 4 ∧ lastStart l + j = l.length ∧ (l.getD (l.length - j) 0).toNat / 64 ≠ 2 ∧ ∀ i, 2 ≤ i → i < j → (l.getD (l.length - i) 0).toNat / 64 = 2) := by
  have hp : 0 < l.length := List.length_pos_iff.2 h
  unfold lastStart runeStartB
  simp only [bne_iff_ne, ne_eq]
  have k : ∀ i n : Nat, 2 ≤ i → i ≤ n → n ≤ 4 → i = 2 ∨ i = 3 ∨ i = 4 := fun i n h1 h2 h3 => by omega
  by_cases e2 : l.length < 2
  · rw [if_pos e2]
    exact .inr (.inl ⟨rfl, by omega, fun j h1 h2 => by omega⟩)
  rw [if_neg e2]
  by_cases a2 : (l.getD (l.length - 2) 0).toNat / 64 = 2
  · rw [if_neg (by simpa using a2)]
    by_cases e3 : l.length < 3
    · rw [if_pos e3]
      exact .inr (.inl ⟨rfl, by omega, fun j h1 h2 => (show j = 2 by omega) ▸ a2⟩)
    rw [if_neg e3]
    by_cases a3 : (l.getD (l.length - 3) 0).toNat / 64 = 2
    · rw [if_neg (by simpa using a3)]
      by_cases e4 : l.length < 4
      · rw [if_pos e4]
        refine .inr (.inl ⟨rfl, by omega, fun j h1 h2 => ?_⟩)
        rcases k j 3 h1 (by omega) (by omega) with rfl | rfl | rfl
        · exact a2
        · exact a3
        · omega
      rw [if_neg e4]
      by_cases a4 : (l.getD (l.length - 4) 0).toNat / 64 = 2
      · rw [if_neg (by simpa using a4)]
        by_cases e5 : l.length < 5
        · rw [if_pos e5]
          refine .inr (.inl ⟨rfl, by omega, fun j h1 h2 => ?_⟩)
          rcases k j 4 h1 (by omega) (by omega) with rfl | rfl | rfl
          · exact a2
          · exact a3
          · exact a4
        · rw [if_neg e5]
          refine .inl ⟨by omega, fun j h1 h2 => ?_⟩
          rcases k j 4 h1 h2 (by omega) with rfl | rfl | rfl
          · exact a2
          · exact a3
          · exact a4
      · rw [if_pos (by simpa using a4)]
        refine .inr (.inr ⟨4, by omega, by omega, by omega, a4, fun i h1 h2 => ?_⟩)
        rcases k i 4 h1 (by omega) (by omega) with rfl | rfl | rfl
        · exact a2
        · exact a3
        · omega
    · rw [if_pos (by simpa using a3)]
      refine .inr (.inr ⟨3, by omega, by omega, by omega, a3, fun i h1 h2 => ?_⟩)
      obtain rfl : i = 2 := by omega
      exact a2
  · rw [if_pos (by simpa using a2)]
    exact .inr (.inr ⟨2, by omega, by omega, by omega, a2, fun i h1 h2 => by omega⟩)

theorem getD_drop (l : List UInt8) (k j : Nat) : (l.drop k).getD j 0 = l.getD (k + j) 0 := by simp [List.getD]

theorem decodeLast_high {l : List UInt8} (h : l ≠ []) (hb : 128 ≤ (l.getD (l.length - 1) 0).toNat) :
    decodeLastL l = if lastStart l + (decodeL (l.drop (lastStart l))).2 = l.length then decodeL (l.drop (lastStart l)) else (65533, 1) := by
  unfold decodeLastL
  rw [if_neg h, if_neg (by omega)]
  rfl

/-- a rune alone -/
theorem last_one {l : List UInt8} (h : l ≠ []) (hw : (decodeL l).2 = l.length) : (decodeLastL l).1 = (decodeL l).1 := by
  have hp : 0 < l.length := List.length_pos_iff.2 h
  obtain ⟨r4, _, rb⟩ := rune_bytes h
  by_cases hb : (l.getD (l.length - 1) 0).toNat < 128
  · have h1 : l.length = 1 := by
      rcases Nat.lt_or_ge 1 l.length with h1 | h1
      · have := rb (l.length - 1) (by omega) (by omega); omega
      · omega
    rw [decodeL_N]
    unfold decodeLastL
    rw [if_neg h, if_pos hb]
    rw [h1] at hb ⊢
    rw [decodeN_ascii _ _ _ _ _ hb]
  · rw [decodeLast_high h (by omega)]
    have h0 : lastStart l = 0 := by
      rcases lastStart_spec l h with ⟨h5, _⟩ | ⟨h5, _⟩ | ⟨j, j2, j4, hj, ha, _⟩
      · omega
      · exact h5
      · rcases Nat.lt_or_ge j l.length with h1 | h1
        · exact absurd (rb (l.length - j) (by omega) (by omega)) ha
        · omega
    rw [h0, List.drop_zero, if_pos (by omega)]

/-- behind a rune that is not the last one, the last one is the rest's -/
theorem last_step {l : List UInt8} (h : l ≠ []) (hw : (decodeL l).2 < l.length) : decodeLastL l = decodeLastL (l.drop (decodeL l).2) := by
  have hp : 0 < l.length := List.length_pos_iff.2 h
  have hk := decodeL_width l
  obtain ⟨r4, _, rb⟩ := rune_bytes h
  obtain ⟨k, hke⟩ : ∃ k, k = (decodeL l).2 := ⟨_, rfl⟩
  rw [← hke] at hw hk r4 rb ⊢
  have hlen : (l.drop k).length = l.length - k := List.length_drop ..
  have hr : l.drop k ≠ [] := by intro h0; rw [h0] at hlen; simp at hlen; omega
  have hat : ∀ j, 1 ≤ j → j ≤ l.length - k → (l.drop k).getD ((l.drop k).length - j) 0 = l.getD (l.length - j) 0 := by
    intro j h1 h2
    rw [getD_drop, hlen]
    congr 1
    omega
  by_cases hb : (l.getD (l.length - 1) 0).toNat < 128
  · have h1 := hat 1 (by omega) (by omega)
    unfold decodeLastL
    rw [if_neg h, if_neg hr, h1, if_pos hb, if_pos hb]
  have hb' : 128 ≤ ((l.drop k).getD ((l.drop k).length - 1) 0).toNat := by rw [hat 1 (by omega) (by omega)]; omega
  rw [decodeLast_high h (by omega), decodeLast_high hr hb']
  -- either they begin at one place, or neither ends at the end
  have hcase : lastStart l = k + lastStart (l.drop k) ∨ (l.length - k ≤ 4 ∧ lastStart (l.drop k) = 0 ∧ ∀ j, 2 ≤ j → j ≤ l.length - k → (l.getD (l.length - j) 0).toNat / 64 = 2) := by
    rcases lastStart_spec (l.drop k) hr with ⟨h5, ha⟩ | ⟨h5, h4, ha⟩ | ⟨j, j2, j4, hj, ha, hi⟩
    · left
      rw [hlen] at h5
      have ha' : ∀ j, 2 ≤ j → j ≤ 4 → (l.getD (l.length - j) 0).toNat / 64 = 2 := fun j h1 h2 => by rw [← hat j (by omega) (by omega)]; exact ha j h1 h2
      rcases lastStart_spec l h with ⟨g5, _⟩ | ⟨_, g4, _⟩ | ⟨j, j2, j4, hj, hx, _⟩
      · omega
      · omega
      · exact absurd (ha' j j2 j4) hx
    · right
      rw [hlen] at h4 ha
      exact ⟨h4, h5, fun j h1 h2 => by have := ha j h1 h2; rwa [← hlen, hat j (by omega) (by omega)] at this⟩
    · left
      rw [hlen] at hj
      rw [hat j (by omega) (by omega)] at ha
      have hi' : ∀ i, 2 ≤ i → i < j → (l.getD (l.length - i) 0).toNat / 64 = 2 := fun i h1 h2 => by rw [← hat i (by omega) (by omega)]; exact hi i h1 h2
      rcases lastStart_spec l h with ⟨_, g⟩ | ⟨_, _, g⟩ | ⟨j', j2', j4', hj', hx, g⟩
      · exact absurd (g j j2 j4) ha
      · exact absurd (g j j2 (by omega)) ha
      · have : j' = j := by
          rcases Nat.lt_trichotomy j' j with h1 | h1 | h1
          · exact absurd (hi' j' j2' h1) hx
          · exact h1
          · exact absurd (g j j2 h1) ha
        omega
  rcases hcase with hc | ⟨n4, hs, ha⟩
  · rw [hc, ← List.drop_drop, hlen]
    by_cases hq : lastStart (l.drop k) + (decodeL ((l.drop k).drop (lastStart (l.drop k)))).2 = l.length - k
    · rw [if_pos hq, if_pos (by omega)]
    · rw [if_neg hq, if_neg (by omega)]
  · -- the rest: no rune
    have e1 : decodeL (l.drop k) = (65533, 1) := by
      rcases Nat.lt_or_ge 1 (l.length - k) with h1 | h1
      · refine decode_cont ?_
        have := ha (l.length - k) (by omega) (by omega)
        rw [getD_drop, Nat.add_zero]
        rwa [show l.length - (l.length - k) = k by omega] at this
      · rw [decodeL_N, hlen]
        refine decodeN_alone _ _ _ _ _ ?_ (.inl h1)
        have := hat 1 (by omega) (by omega)
        rw [hlen, show l.length - k - 1 = 0 by omega] at this
        rw [this]
        omega
    have e2 : lastStart l + (decodeL (l.drop (lastStart l))).2 ≠ l.length := by
      rcases lastStart_spec l h with ⟨g5, _⟩ | ⟨g0, _, _⟩ | ⟨j, j2, j4, hj, hx, _⟩
      · have hne : l.drop (lastStart l) ≠ [] := by
          intro h0; have := congrArg List.length h0; rw [List.length_drop] at this; simp at this; omega
        have := (rune_bytes hne).1
        omega
      · rw [g0, List.drop_zero, ← hke]; omega
      · rcases Nat.lt_or_ge (l.length - k) j with h1 | h1
        · rcases Nat.eq_zero_or_pos (lastStart l) with g0 | g0
          · rw [g0, List.drop_zero, ← hke]; omega
          · exact absurd (rb (l.length - j) (by omega) (by omega)) hx
        · exact absurd (ha j j2 h1) hx
    rw [if_neg e2, hs, List.drop_zero, e1]
    split <;> rfl

theorem runes_last : ∀ l, l ≠ [] → (runes l).getLast? = some (decodeLastL l).1 := by
  refine bytes_ind (fun h => absurd rfl h) ?_
  intro l h ih _
  rw [runes_step h]
  have hle := (rune_bytes h).2.1
  by_cases hw : (decodeL l).2 = l.length
  · rw [List.drop_eq_nil_of_le (by omega), runes_nil]
    simp only [List.getLast?_singleton]
    rw [last_one h hw]
  · have hr : l.drop (decodeL l).2 ≠ [] := by
      intro h0; have := congrArg List.length h0; rw [List.length_drop] at this; simp at this; omega
    have := ih hr
    rw [last_step h (by omega), ← this]
    rw [List.getLast?_cons]
    cases hx : (runes (l.drop (decodeL l).2)).getLast? with
    | none => exact absurd (List.getLast?_eq_none_iff.1 hx) (runes_ne hr)
    | some x => rfl
end Go.Proofs.YtmmgfoepfapnkaaGreatDoor.Ru
