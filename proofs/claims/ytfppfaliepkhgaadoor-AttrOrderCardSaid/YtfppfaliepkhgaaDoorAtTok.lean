/- Plain mathematics of infos: an info read token by token. No program is spoken of here. -/
import Derived.Test.YtfppfaliepkhgaaDoorAtRun
import Derived.Test.YtfppfaliepkhgaaDoorAtWriteM
namespace Go.Proofs.YtfppfaliepkhgaaDoor.At
open Go.Proofs.YtfppfaliepkhgaaDoor.Cl (isGap gaps)

theorem tw_app {p : UInt8 → Bool} {w : List UInt8} (r : List UInt8) (h : ∀ b ∈ w, p b = true) : tw p (w ++ r) = w ++ tw p r := by
  induction w with
  | nil => rfl
  | cons b w ih => rw [List.cons_append, tw_yes _ (h b (.head _)), ih fun c hc => h c (.tail _ hc)]; rfl
theorem tw_stop {r : List UInt8} (h : stop r = true) : tw word r = [] := by
  rcases r with _ | ⟨b, r⟩
  · rfl
  · exact tw_no _ (by unfold word; rw [show isGap b = true from h]; rfl)
theorem letter_gap {b : UInt8} (h : letter b = true) : isGap b = false := by
  cases hg : isGap b with
  | false => rfl
  | true =>
    exfalso
    unfold letter at h
    unfold Cl.isGap at hg
    simp at h hg
    rcases hg with rfl | rfl <;> revert h <;> decide
theorem gaps_zero {b : UInt8} {r : List UInt8} (h : isGap b = false) : (b :: r).drop (gaps (b :: r)) = b :: r := by rw [Cl.gaps_word _ h]; rfl

section
variable {f : Nat} {first : Bool} {lang key v w r : List UInt8} {out : List Pr}
theorem run_nil : run (f + 1) first lang out [] = (lang, out, true) := by rw [run]; simp
theorem run_gap {b : UInt8} (h : isGap b = true) : run (f + 1) first lang out (b :: r) = run (f + 1) first lang out r := by
  rw [run, run, Cl.gaps_go _ h, List.drop_succ_cons]
theorem run_lang (hw : w ≠ []) (h : ∀ b ∈ w, isGap b = false) (hL : isLang first w = true) (hs : stop r = true) : run (f + 1) first lang out (w ++ r) = run f false w out r := by
  have ht : tw word (w ++ r) = w := by rw [tw_app r (fun b hb => by unfold word; rw [h b hb]; rfl), tw_stop hs, List.append_nil]
  have hg : (w ++ r).drop (gaps (w ++ r)) = w ++ r := by
    rcases w with _ | ⟨b, w⟩
    · exact absurd rfl hw
    · exact gaps_zero (h b (.head _))
  rw [run, hg, if_neg (by simp [hw]), ht, if_pos hL, List.drop_left]

theorem run_alone (hk : key ≠ []) (h : ∀ b ∈ key, letter b = true) (hL : isLang first key = false) (hT : twice out key = false) (hs : stop r = true) :
    run (f + 1) first lang out (key ++ r) = run f false lang (out ++ [⟨key, [], true⟩]) r := by
  have hgp : ∀ b ∈ key, isGap b = false := fun b hb => letter_gap (h b hb)
  have ht : tw word (key ++ r) = key := by rw [tw_app r (fun b hb => by unfold word; rw [hgp b hb]; rfl), tw_stop hs, List.append_nil]
  have hg : (key ++ r).drop (gaps (key ++ r)) = key ++ r := by
    rcases key with _ | ⟨b, w⟩
    · exact absurd rfl hk
    · exact gaps_zero (hgp b (.head _))
  have hl : tw letter (key ++ r) = key := by
    rw [tw_app r h]
    rcases r with _ | ⟨b, r⟩
    · simp [tw]
    · rw [tw_no _ (by cases hb : letter b with
        | false => rfl
        | true => exact absurd (show isGap b = true from hs) (by rw [letter_gap hb]; simp)), List.append_nil]
  have hp : pair (key ++ r) 0 = (⟨key, [], true⟩, key.length, true) := by
    rcases hr : r with _ | ⟨b, q⟩
    · rw [hr] at hl; rw [pair_end (by rw [hl]; exact hk) (by rw [hl]; simp), hl]; simp
    · rw [hr] at hl hs; rw [pair_gap (b := b) (q := q) (by rw [hl]; exact hk) (by rw [hl]; simp) hs, hl]; simp
  rw [run, hg, if_neg (by simp [hk]), ht, if_neg (by rw [hL]; simp), hp, if_neg (by simp), if_neg (by rw [hT]; simp), List.drop_left]

theorem word_sign {X : List UInt8} (hk : key ≠ []) (h : ∀ b ∈ key, letter b = true) : isLang first (tw word (key ++ 61 :: X)) = false ∧ (key ++ 61 :: X).drop (gaps (key ++ 61 :: X)) = key ++ 61 :: X ∧ tw letter (key ++ 61 :: X) = key := by
  have hgp : ∀ b ∈ key, isGap b = false := fun b hb => letter_gap (h b hb)
  refine ⟨?_, ?_, ?_⟩
  · rw [tw_app _ (fun b hb => by unfold word; rw [hgp b hb]; rfl), tw_yes _ (by decide)]
    unfold isLang; simp
  · rcases key with _ | ⟨b, w⟩
    · exact absurd rfl hk
    · exact gaps_zero (hgp b (.head _))
  · rw [tw_app _ h, tw_no _ (by decide), List.append_nil]

theorem run_word (hk : key ≠ []) (h : ∀ b ∈ key, letter b = true) (hT : twice out key = false) (hv : bare v = true) (hs : stop r = true) :
    run (f + 1) first lang out (key ++ 61 :: (v ++ r)) = run f false lang (out ++ [⟨key, v, false⟩]) r := by
  obtain ⟨h1, h2, h3⟩ := word_sign (first := first) (X := v ++ r) hk h
  have hn := bare_nogap hv
  have hv0 : v ≠ [] := by intro h0; subst h0; simp [bare] at hv
  have ht : tw word (v ++ r) = v := by rw [tw_app r (fun b hb => by unfold word; rw [(hn b hb).1]; rfl), tw_stop hs, List.append_nil]
  have hd : (key ++ 61 :: (v ++ r)).drop (tw letter (key ++ 61 :: (v ++ r))).length = 61 :: (v ++ r) := by rw [h3, List.drop_left]
  have hp : pair (key ++ 61 :: (v ++ r)) 0 = (⟨key, v, false⟩, key.length + 1 + v.length, true) := by
    rw [pair_word (by rw [h3]; exact hk) hd (fun x hx => by
      rcases v with _ | ⟨c, v⟩
      · exact hv0 rfl
      · injection hx with hc _; exact (hn c (.head _)).2.1 hc), h3, ht, hv]
    simp
  rw [run, h2, if_neg (by simp), if_neg (by rw [h1]; simp), hp, if_neg (by simp), if_neg (by rw [hT]; simp)]
  have e : (key ++ 61 :: (v ++ r)).drop (key.length + 1 + v.length) = r := by
    rw [show key ++ 61 :: (v ++ r) = (key ++ 61 :: v) ++ r from by simp, List.drop_left' (by simp; omega)]
  simp only [e]

theorem run_quote {q t : List UInt8} {n : Nat} (hk : key ≠ []) (h : ∀ b ∈ key, letter b = true) (hT : twice out key = false) (hq : qd q = some (t, n)) (hs : stop (q.drop n) = true) :
    run (f + 1) first lang out (key ++ 61 :: 34 :: q) = run f false lang (out ++ [⟨key, t, false⟩]) (q.drop n) := by
  obtain ⟨h1, h2, h3⟩ := word_sign (first := first) (X := 34 :: q) hk h
  have hd : (key ++ 61 :: 34 :: q).drop (tw letter (key ++ 61 :: 34 :: q)).length = 61 :: 34 :: q := by rw [h3, List.drop_left]
  have hp : pair (key ++ 61 :: 34 :: q) 0 = (⟨key, t, false⟩, key.length + 2 + n, true) := by
    rw [pair_quote (by rw [h3]; exact hk) hd hq, h3, hs]
    simp
  rw [run, h2, if_neg (by simp), if_neg (by rw [h1]; simp), hp, if_neg (by simp), if_neg (by rw [hT]; simp)]
  have e : (key ++ 61 :: 34 :: q).drop (key.length + 2 + n) = q.drop n := by
    rw [show key ++ 61 :: 34 :: q = (key ++ [61, 34]) ++ q from by simp, ← List.drop_drop, List.drop_left' (by simp)]
  simp only [e]
end
end Go.Proofs.YtfppfaliepkhgaaDoor.At
