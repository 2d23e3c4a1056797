/- Plain mathematics of infos: what is written in quotes is read as it was. No program is spoken of here. -/
import Derived.Test.YtfppfaliepkhgaaDoorAtOrder
import Derived.Test.YtfppfaliepkhgaaDoorAtCompose
namespace Go.Proofs.YtfppfaliepkhgaaDoor.At

theorem qd_esc_all (t r : List UInt8) : qd (esc t ++ 34 :: r) = some (t, (esc t).length + 1) := by
  induction t with
  | nil => exact qd_end _
  | cons b t ih =>
    by_cases h : b = 34 ∨ b = 92
    · rw [esc, if_pos h, List.cons_append, List.cons_append, qd_esc _ h, ih]
      simp
    · rw [esc, if_neg h, List.cons_append, qd_one _ (fun e => h (.inl e)) (fun e => h (.inr e)), ih]
      simp
/-- a pair as it is composed, read -/
theorem run_pval {f : Nat} {first : Bool} {lang key t r : List UInt8} {out : List Pr} (hk : key ≠ []) (h : ∀ b ∈ key, letter b = true) (hT : twice out key = false) (hs : stop r = true) :
    run (f + 1) first lang out (key ++ 61 :: (pval t ++ r)) = run f false lang (out ++ [⟨key, t, false⟩]) r := by
  unfold pval
  by_cases hb : bare t = true
  · rw [if_pos hb]; exact run_word hk h hT hb hs
  · rw [if_neg hb]
    have e : (34 :: (esc t ++ [34])) ++ r = 34 :: (esc t ++ 34 :: r) := by simp
    rw [e, run_quote hk h hT (qd_esc_all t r) (by rw [drop_quote]; exact hs), drop_quote]
end Go.Proofs.YtfppfaliepkhgaaDoor.At
