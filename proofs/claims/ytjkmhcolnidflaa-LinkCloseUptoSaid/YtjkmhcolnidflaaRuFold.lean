/- What is read once and for all, and what is folded: lists of runes, by no program. -/
import Derived.Test.YtjkmhcolnidflaaRu
import Derived.Test.YtjkmhcolnidflaaRnKinds
namespace Go.Proofs.Ytjkmhcolnidflaa.Ru
open Go.Lib

/-- 0 is read as U+FFFD -/
def zr (x : Nat) : Nat := if x = 0 then 65533 else x
def textR (l : List UInt8) : List Nat := (runes l).map zr
def text (l : List UInt8) : List UInt8 := enc (textR l)
theorem zr_zr (x : Nat) : zr (zr x) = zr x := by unfold zr; split <;> simp_all
theorem zr_vr {x : Nat} (h : vr x) : vr (zr x) := by unfold zr vr at *; split <;> omega
theorem zr_ne (x : Nat) : zr x ≠ 0 := by unfold zr; split <;> omega
theorem zr_id {x : Nat} (h : x ≠ 0) : zr x = x := by unfold zr; rw [if_neg h]
theorem map_zr_vr {X : List Nat} (h : ∀ x ∈ X, vr x) : ∀ x ∈ X.map zr, vr x := by
  intro x hx; obtain ⟨y, hy, rfl⟩ := List.mem_map.1 hx; exact zr_vr (h y hy)
theorem textR_vr (l : List UInt8) : ∀ x ∈ textR l, vr x := map_zr_vr (runes_vr l)
theorem map_zr_id {X : List Nat} (h : ∀ x ∈ X, x ≠ 0) : X.map zr = X := by
  induction X with
  | nil => rfl
  | cons x X ih => rw [List.map_cons, zr_id (h x (by simp)), ih fun y hy => h y (by simp [hy])]
theorem textR_ne (l : List UInt8) : ∀ x ∈ textR l, x ≠ 0 := by
  intro x hx; obtain ⟨y, _, rfl⟩ := List.mem_map.1 hx; exact zr_ne y
/-- valid texts without nought stay as they are -/
theorem text_enc {X : List Nat} (h : ∀ x ∈ X, vr x) (h0 : ∀ x ∈ X, x ≠ 0) : text (enc X) = enc X := by
  unfold text textR; rw [runes_enc h, map_zr_id h0]
theorem text_text (l : List UInt8) : text (text l) = text l := text_enc (textR_vr l) (textR_ne l)
theorem runes_text (l : List UInt8) : runes (text l) = textR l := runes_enc (textR_vr l)
theorem textR_len (l : List UInt8) : (textR l).length = (runes l).length := by simp [textR]
theorem text_len (l : List UInt8) : (text l).length ≤ 4 * l.length := by
  have h1 := (enc_len (textR l)).2
  have h2 := runes_len l
  rw [textR_len] at h1
  unfold text; omega
theorem enc_ne {X : List Nat} (h : ∀ x ∈ X, vr x) (h0 : ∀ x ∈ X, x ≠ 0) : ∀ b ∈ enc X, b ≠ 0 := by
  intro b hb hb0
  obtain ⟨x, hx, hbx⟩ := List.mem_flatMap.1 hb
  have hv := h x hx
  have hn := h0 x hx
  obtain ⟨z, hz, he⟩ := List.mem_map.1 hbx
  have hby := encodeRuneZ_byte (x : Int) z hz
  have hz0 : z.toNat.toUInt8.toNat = z.toNat := ofNat_toNat' z hby.1 hby.2
  have : z.toNat = 0 := by rw [← hz0, he, hb0]; rfl
  have hzz : z = 0 := by omega
  subst hzz
  unfold encodeRuneZ at hz
  unfold vr at hv
  split at hz
  · simp at hz; omega
  · split at hz
    · simp at hz; omega
    · split at hz
      · simp at hz; omega
      · split at hz
        · simp at hz; omega
        · simp at hz

/-- small letters -/
def sml (x : Nat) : Nat := if 65 ≤ x ∧ x ≤ 90 then x + 32 else x
def bl (x : Nat) : Bool := blankB (x : Int)
theorem bl_iff (x : Nat) : bl x = true ↔ (9 ≤ x ∧ x ≤ 13) ∨ x = 32 ∨ x = 160 ∨ x = 8195 ∨ x = 12288 := by
  unfold bl blankB; rw [decide_eq_true_iff]; omega
theorem bl_false (x : Nat) : bl x = false ↔ ¬ ((9 ≤ x ∧ x ≤ 13) ∨ x = 32 ∨ x = 160 ∨ x = 8195 ∨ x = 12288) := by
  rw [← bl_iff]; simp
theorem sml_small (x : Nat) : smallR (x : Int) = (sml x : Int) := by unfold smallR sml; split <;> split <;> omega
theorem sml_vr {x : Nat} (h : vr x) : vr (sml x) := by unfold sml vr at *; split <;> omega

/-- one step: whether a blank was before, and what is out -/
def fstep (st : Bool × List Nat) (x : Nat) : Bool × List Nat :=
  if bl x = true then (true, st.2) else (false, (if st.1 = true ∧ st.2 ≠ [] then st.2 ++ [32] else st.2) ++ [sml x])
def foldS (X : List Nat) : Bool × List Nat := X.foldl fstep (false, [])
def fold (X : List Nat) : List Nat := (foldS X).2
theorem foldS_snoc (X : List Nat) (x : Nat) : foldS (X ++ [x]) = fstep (foldS X) x := by simp [foldS]
theorem foldS_nil : foldS [] = (false, []) := rfl

/-- from the end -/
theorem snoc_ind {P : List Nat → Prop} (h0 : P []) (h1 : ∀ X x, P X → P (X ++ [x])) : ∀ X, P X := by
  intro X
  have : ∀ Y : List Nat, P Y.reverse := by
    intro Y
    induction Y with
    | nil => exact h0
    | cons y Y ih => rw [List.reverse_cons]; exact h1 _ _ ih
  have := this X.reverse
  rwa [List.reverse_reverse] at this

theorem fold_vr {X : List Nat} (h : ∀ x ∈ X, vr x) : ∀ y ∈ fold X, vr y := by
  revert h
  refine snoc_ind (P := fun X => (∀ x ∈ X, vr x) → ∀ y ∈ fold X, vr y) (by simp [fold, foldS]) ?_ X
  intro X x ih h y hy
  have ih' := ih fun z hz => h z (by simp [hz])
  have hx := h x (by simp)
  unfold fold at hy ih'
  rw [foldS_snoc] at hy
  unfold fstep at hy
  split at hy
  · exact ih' y hy
  · simp only [List.mem_append, List.mem_singleton] at hy
    rcases hy with hy | rfl
    · split at hy
      · simp only [List.mem_append, List.mem_singleton] at hy
        rcases hy with hy | rfl
        · exact ih' y hy
        · unfold vr; omega
      · exact ih' y hy
    · exact sml_vr hx

/-- what may stand behind a rune in a folded text -/
def okn (last x : Nat) : Bool := !((bl x && (x != 32 || last == 32)) || (decide (65 ≤ x) && decide (x ≤ 90)))
def chk : Nat → List Nat → Bool
  | _, [] => true
  | d, x :: r => okn d x && chk x r
def lastD : Nat → List Nat → Nat
  | d, [] => d
  | _, x :: r => lastD x r
theorem chk_snoc : ∀ (X : List Nat) (d x : Nat), chk d (X ++ [x]) = (chk d X && okn (lastD d X) x)
  | [], d, x => by simp [chk, lastD]
  | y :: X, d, x => by simp only [List.cons_append, chk, lastD, chk_snoc X y x, Bool.and_assoc]
theorem lastD_snoc : ∀ (X : List Nat) (d x : Nat), lastD d (X ++ [x]) = x
  | [], _, _ => rfl
  | y :: X, _, x => by simp only [List.cons_append, lastD, lastD_snoc X y x]
theorem chk_app : ∀ (X Y : List Nat) (d : Nat), chk d (X ++ Y) = (chk d X && chk (lastD d X) Y)
  | [], Y, d => by simp [chk, lastD]
  | y :: X, Y, d => by simp only [List.cons_append, chk, lastD, chk_app X Y y, Bool.and_assoc]

theorem okn_sml {d x : Nat} (h : bl x = false) : okn d (sml x) = true := by
  have h1 : bl (sml x) = false := by rw [bl_false] at h ⊢; unfold sml; split <;> omega
  unfold okn
  rw [h1]
  simp only [Bool.false_and, Bool.false_or, Bool.not_eq_true', Bool.and_eq_false_iff, decide_eq_false_iff_not]
  unfold sml
  split <;> omega
theorem okn_32 {d : Nat} (h : d ≠ 32) : okn d 32 = true := by
  unfold okn
  have : (d == 32) = false := by simpa using h
  rw [this]
  simp
theorem sml_ne {x : Nat} (h : bl x = false) : sml x ≠ 32 := by rw [bl_false] at h; unfold sml; split <;> omega

theorem foldS_inv (X : List Nat) : chk 32 (foldS X).2 = true ∧ ((foldS X).2 ≠ [] → lastD 32 (foldS X).2 ≠ 32) ∧
    (foldS X).2.length ≤ X.length ∧ ((foldS X).1 = true → (foldS X).2.length + 1 ≤ X.length) := by
  refine snoc_ind (P := fun X => chk 32 (foldS X).2 = true ∧ ((foldS X).2 ≠ [] → lastD 32 (foldS X).2 ≠ 32) ∧ (foldS X).2.length ≤ X.length ∧ ((foldS X).1 = true → (foldS X).2.length + 1 ≤ X.length)) (by simp [foldS, chk]) ?_ X
  intro X x ⟨i1, i2, i3, i4⟩
  rw [foldS_snoc]
  unfold fstep
  cases hb : bl x with
  | true =>
    simp only [if_true, List.length_append, List.length_cons, List.length_nil]
    exact ⟨i1, i2, by omega, fun _ => by omega⟩
  | false =>
    simp only [Bool.false_eq_true, if_false]
    refine ⟨?_, fun _ => by rw [lastD_snoc]; exact sml_ne hb, ?_, fun h => by cases h⟩
    · rw [chk_snoc, okn_sml hb, Bool.and_true]
      split
      · rename_i hc
        rw [chk_snoc, i1, okn_32 (i2 hc.2)]; rfl
      · exact i1
    · simp only [List.length_append, List.length_cons, List.length_nil]
      split
      · rename_i hc
        have := i4 hc.1
        simp only [List.length_append, List.length_cons, List.length_nil]; omega
      · omega

theorem fold_chk (X : List Nat) : chk 32 (fold X) = true := (foldS_inv X).1
theorem fold_last (X : List Nat) (h : fold X ≠ []) : lastD 32 (fold X) ≠ 32 := (foldS_inv X).2.1 h
theorem fold_len (X : List Nat) : (fold X).length ≤ X.length := (foldS_inv X).2.2.1

theorem foldS_fix (X : List Nat) : chk 32 X = true → (X = [] ∨ lastD 32 X ≠ 32 → foldS X = (false, X)) ∧ (∀ Q, X = Q ++ [32] → foldS X = (true, Q) ∧ Q ≠ []) := by
  refine snoc_ind (P := fun X => chk 32 X = true → (X = [] ∨ lastD 32 X ≠ 32 → foldS X = (false, X)) ∧ (∀ Q, X = Q ++ [32] → foldS X = (true, Q) ∧ Q ≠ [])) ?_ ?_ X
  · intro _
    exact ⟨fun _ => rfl, fun Q h => by simp at h⟩
  · intro X x ih hc
    rw [chk_snoc, Bool.and_eq_true] at hc
    obtain ⟨h1, h2⟩ := hc
    obtain ⟨ia, ib⟩ := ih h1
    have hup : ¬ (65 ≤ x ∧ x ≤ 90) := by
      unfold okn at h2; simp at h2; omega
    rw [foldS_snoc, lastD_snoc]
    cases hb : bl x with
    | true =>
      unfold okn at h2
      rw [hb] at h2
      simp at h2
      obtain ⟨⟨hx, hl⟩, _⟩ := h2
      subst hx
      have hX : X ≠ [] := by intro h0; rw [h0] at hl; exact hl rfl
      have hs := ia (.inr hl)
      refine ⟨fun h => ?_, fun Q hQ => ?_⟩
      · rcases h with h | h
        · simp at h
        · exact absurd rfl h
      · obtain rfl : X = Q := by
          have := List.append_inj' hQ rfl
          exact this.1
        rw [hs]; unfold fstep; rw [hb]; exact ⟨rfl, hX⟩
    | false =>
      have hx : x ≠ 32 := by intro h0; rw [h0] at hb; exact absurd hb (by decide)
      have hsm : sml x = x := by unfold sml; rw [if_neg hup]
      refine ⟨fun _ => ?_, fun Q hQ => ?_⟩
      · by_cases hl : X = [] ∨ lastD 32 X ≠ 32
        · rw [ia hl]; unfold fstep; rw [hb, hsm]; simp
        · have hne : X ≠ [] := fun h => hl (.inl h)
          have h32 : lastD 32 X = 32 := by
            rcases Nat.decEq (lastD 32 X) 32 with h | h
            · exact absurd (.inr h) hl
            · exact h
          obtain ⟨Q, hQ⟩ : ∃ Q, X = Q ++ [32] := by
            refine ⟨X.dropLast, ?_⟩
            have e := List.dropLast_concat_getLast hne
            have : X.getLast hne = 32 := by
              rw [← e, lastD_snoc] at h32; exact h32
            rw [this] at e; exact e.symm
          obtain ⟨hs, hQn⟩ := ib Q hQ
          rw [hs]; unfold fstep; rw [hb, hsm]
          simp [hQn, hQ]
      · have := List.append_inj' hQ rfl
        simp at this
        exact absurd this.2 hx

theorem fold_fix {X : List Nat} (h : chk 32 X = true) (hl : X = [] ∨ lastD 32 X ≠ 32) : fold X = X := by
  unfold fold; rw [((foldS_fix X) h).1 hl]
theorem fold_fold (X : List Nat) : fold (fold X) = fold X :=
  fold_fix (fold_chk X) (by
    by_cases h : fold X = []
    · exact .inl h
    · exact .inr (fold_last X h))
end Go.Proofs.Ytjkmhcolnidflaa.Ru
