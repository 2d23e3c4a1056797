/- Plain mathematics of infos: where the pairs begin; a pair counted from another place; the keys that were seen. No program is walked here. -/
import Derived.Test.YtfppfaliepkhgaaDoorAtFns
import Derived.Maps.OwnSet
namespace Go.Proofs.YtfppfaliepkhgaaDoor
open Go.RowKit

/-- a pair is the same from wherever its place is counted -/
theorem At.pair_shift (r : List UInt8) (a : Nat) : (At.pair r a).1 = (At.pair r 0).1 ∧ (At.pair r a).2.2 = (At.pair r 0).2.2 ∧ ((At.pair r 0).2.2 = true → (At.pair r a).2.1 = a + (At.pair r 0).2.1) := by
  by_cases h0 : At.tw At.letter r = []
  · rw [At.pair_empty h0, At.pair_empty h0]; exact ⟨rfl, rfl, fun h => by cases h⟩
  · rcases hr : r.drop (At.tw At.letter r).length with _ | ⟨b, q⟩
    · rw [At.pair_end h0 hr, At.pair_end h0 hr]; exact ⟨rfl, rfl, fun _ => by simp only; omega⟩
    · cases hb : Cl.isGap b with
      | true => rw [At.pair_gap h0 hr hb, At.pair_gap h0 hr hb]; exact ⟨rfl, rfl, fun _ => by simp only; omega⟩
      | false =>
        by_cases h61 : b = 61
        · subst h61
          by_cases hq : ∃ q', q = 34 :: q'
          · obtain ⟨q', rfl⟩ := hq
            cases hQ : At.qd q' with
            | none => rw [At.pair_open h0 hr hQ, At.pair_open h0 hr hQ]; exact ⟨rfl, rfl, fun h => by cases h⟩
            | some x =>
              obtain ⟨t, n⟩ := x
              rw [At.pair_quote h0 hr hQ, At.pair_quote h0 hr hQ]; exact ⟨rfl, rfl, fun _ => by simp only; omega⟩
          · rw [At.pair_word h0 hr (fun x hx => hq ⟨x, hx⟩), At.pair_word h0 hr (fun x hx => hq ⟨x, hx⟩)]; exact ⟨rfl, rfl, fun _ => by simp only; omega⟩
        · rw [At.pair_bad h0 hr hb h61, At.pair_bad h0 hr hb h61]; exact ⟨rfl, rfl, fun h => by cases h⟩

/-- the rest behind the language, where the pairs begin -/
theorem lang_start (l : List UInt8) : ∃ (f : Nat) (first : Bool) (i : Nat), l.length + 1 ≤ f + i ∧ i ≤ l.length ∧
    ((At.langOf (l.drop (Cl.gaps l))).2.drop (Cl.gaps (At.langOf (l.drop (Cl.gaps l))).2)) = l.drop (i + Cl.gaps (l.drop i)) ∧
    At.prs l f first (At.langOf (l.drop (Cl.gaps l))).1 [] i = At.pairs l ∧ (l.drop (i + Cl.gaps (l.drop i)) ≠ [] → At.isLang first (At.tw At.word (l.drop (i + Cl.gaps (l.drop i)))) = false) := by
  have hj : 0 + Cl.gaps (l.drop 0) = Cl.gaps l := by rw [List.drop_zero, Nat.zero_add]
  have hgl := Cl.gaps_le l
  by_cases hr : l.drop (Cl.gaps l) = []
  · refine ⟨l.length + 1, false, 0, by omega, by omega, ?_, ?_, ?_⟩
    · rw [hj, hr]; rfl
    · rw [hr]
      unfold At.pairs
      rw [At.prs_done hj hr, At.prs_done hj hr]; rfl
    · rw [hj]; exact fun h => absurd hr h
  · cases hl : At.isLang true (At.tw At.word (l.drop (Cl.gaps l))) with
    | true =>
      have hlo : At.langOf (l.drop (Cl.gaps l)) = (At.tw At.word (l.drop (Cl.gaps l)), (l.drop (Cl.gaps l)).drop (At.tw At.word (l.drop (Cl.gaps l))).length) := if_pos hl
      have hW := At.tw_len At.word (l.drop (Cl.gaps l))
      rw [List.length_drop] at hW
      rw [hlo]
      refine ⟨l.length, false, Cl.gaps l + (At.tw At.word (l.drop (Cl.gaps l))).length, ?_, by omega, ?_, ?_, fun _ => rfl⟩
      · have : 0 < (At.tw At.word (l.drop (Cl.gaps l))).length := by
          rcases At.tw_rest (fun b => Cl.isGap b) l with h | ⟨b, r, h, hb⟩
          all_goals
            rcases hq : l.drop (Cl.gaps l) with _ | ⟨c, q⟩
            · exact absurd hq hr
            · have hc : Cl.isGap c = false := by
                have h0 : Cl.gaps (l.drop (Cl.gaps l)) = 0 := by rw [Cl.gaps_drop l _ (Nat.le_refl _)]; omega
                rw [hq] at h0
                cases hg : Cl.isGap c with
                | false => rfl
                | true => rw [Cl.gaps_go _ hg] at h0; omega
              rw [At.tw_yes _ (by unfold At.word; rw [hc]; rfl)]; simp
        omega
      · simp only [List.drop_drop]
      · unfold At.pairs
        rw [At.prs_lang hj hr hl]
    | false =>
      have hlo : At.langOf (l.drop (Cl.gaps l)) = ([], l.drop (Cl.gaps l)) := if_neg (by rw [hl]; simp)
      rw [hlo]
      refine ⟨l.length + 1, true, 0, by omega, by omega, ?_, rfl, ?_⟩
      · simp only; rw [hj, Cl.gaps_drop l _ (Nat.le_refl _), Nat.sub_self, List.drop_zero]
      · rw [hj]; exact fun _ => hl

/-- the keys that were seen, as a set -/
def keyLit (p : At.Pr) : Lit := .string p.key
def keySet (out : List At.Pr) : DataW Unit := Maps.setOf (.agg []) (out.map keyLit)
theorem keySet_more (out : List At.Pr) (p : At.Pr) : keySet (out ++ [p]) = (keySet out).put (.string p.key) (.agg []) := by
  unfold keySet
  rw [List.map_append, List.map_cons, List.map_nil, Maps.setOf_snoc]; rfl
theorem keySet_has (out : List At.Pr) (k : List UInt8) : Maps.has (keySet out) (.string k) = At.twice out k := by
  unfold keySet
  rw [Maps.has_setOf _ _ _ (by intro x hx; obtain ⟨p, _, rfl⟩ := List.mem_map.1 hx; trivial)]
  unfold At.twice
  rw [List.any_map]
  congr 1
  funext p
  simp only [Function.comp, keyLit, Lit.sameKey]
  rw [Bool.eq_iff_iff]; simp

/-- pairs as cells -/
def qcells (l : List At.Pr) : List Value := l.flatMap fun p => [.string (bs p.key), av p]
theorem av_one (p : At.Pr) : (av p).oneCell' = true := by unfold av; split <;> rfl

theorem strLaw : Maps.Keyed Tryd.prog 9 := Maps.string_keyed Tryd.underlying9
theorem zeroUnit (w : World) : (zeroValue 63).run Tryd.prog w = .ok (.agg #[]) w := by kernel_rfl
theorem qpairEI : EI Tryd.prog 35 44 2 32 := EI.mk' (z := .agg #[.string .empty, .nilIface]) Tryd.underlying35 (by kernel_rfl) rfl (by omega)
theorem map_ext {w w1 : World} {b n : Nat} {D : DataW Unit} (h : w.ownsMap Tryd.prog 9 unitElem b n D) (hb : Below w.heap.size w w1) : w1.ownsMap Tryd.prog 9 unitElem b n D := by
  have hlt := h.lt
  obtain ⟨es, clock, h1, r⟩ := h
  exact ⟨es, clock, (hb.block b hlt).trans h1, r⟩
end Go.Proofs.YtfppfaliepkhgaaDoor
