/- The document's own answer of chapter 5: all pairs of an info. -/
import Derived.Test.YtfppfaliepkhgaaDoorAtPair
import Derived.Test.YtfppfaliepkhgaaDoorAtPairsMath
namespace Go.Proofs.YtfppfaliepkhgaaDoor
open Go.RowKit

def pcells (l : List At.Pr) : List Value := l.flatMap fun p => [.string (bs p.key), .string (bs p.text), .bool p.alone]
theorem rpairEI : EI Tryd.prog 38 46 3 40 := EI.mk' (z := .agg #[.string .empty, .string .empty, .bool false]) Tryd.underlying38 (by kernel_rfl) rfl (by omega)

/-- the cells of a row of pairs -/
theorem pair_cell {ls : List At.Pr} {w : World} {B : Nat} {A : Option Addr} (h : Row w B 3 A ls.length (pcells ls)) (hn : 0 < ls.length) :
    ∃ b o, A = some ⟨b, o, none⟩ ∧ b < B ∧ ∀ k, (hk : k < ls.length) → w.cell? ⟨b, o + k * 3, none⟩ = some (.string (bs ls[k].key)) ∧ w.cell? ⟨b, o + k * 3 + 1, none⟩ = some (.string (bs ls[k].text)) ∧ w.cell? ⟨b, o + k * 3 + 2, none⟩ = some (.bool ls[k].alone) := by
  obtain ⟨b, o, e, hb, hc⟩ := h.2 hn
  have key : ∀ (ls : List At.Pr) (k : Nat), (hk : k < ls.length) → (pcells ls)[k * 3]? = some (.string (bs ls[k].key)) ∧ (pcells ls)[k * 3 + 1]? = some (.string (bs ls[k].text)) ∧ (pcells ls)[k * 3 + 2]? = some (.bool ls[k].alone) := by
    intro ls
    induction ls with
    | nil => intro k hk; simp at hk
    | cons x r ih =>
      intro k hk
      match k, hk with
      | 0, _ => simp [pcells]
      | k + 1, hk =>
        have := ih k (by simpa using hk)
        have e : pcells (x :: r) = [.string (bs x.key), .string (bs x.text), .bool x.alone] ++ pcells r := rfl
        rw [e, Nat.add_mul]
        simpa [List.getElem?_append, Nat.add_assoc] using this
  refine ⟨b, o, e, hb, fun k hk => ?_⟩
  obtain ⟨k0, k1, k2⟩ := key ls k hk
  refine ⟨hc _ _ k0, ?_, ?_⟩
  · have := hc _ _ k1
    rwa [← Nat.add_assoc] at this
  · have := hc _ _ k2
    rwa [← Nat.add_assoc] at this

theorem gaps_at {l : List UInt8} {k : Nat} (hk : k < l.length) : (Cl.isGap l[k] = true → Cl.gaps (l.drop k) = Cl.gaps (l.drop (k + 1)) + 1) ∧ (Cl.isGap l[k] = false → Cl.gaps (l.drop k) = 0) := by
  rw [List.drop_eq_getElem_cons hk]
  exact ⟨fun h => Cl.gaps_go _ h, fun h => Cl.gaps_word _ h⟩

set_option maxHeartbeats 8000000 in
set_option maxRecDepth 100000 in
theorem pairs_any (l : List UInt8) (w : World) (hl : l.length ≤ 1000000000) :
    Calls Tryd.prog 17 #[.string (bs l)] w fun e w' => (∃ v, e = .returned (.tuple #[.string (bs (At.pairs l).1), v, .bool (At.pairs l).2.2]) ∧ w'.ownsRow w.heap.size 46 3 v (At.pairs l).2.1.length (pcells (At.pairs l).2.1)) ∧ Below w.heap.size w w' := by
  have hsz := bs_size l
  go_enter Tryd.func17, Tryd.ntmps17
  go_wp2_with fail
  go_loopw [5, 6, 7, 8] (fun vl vo vi vf wr => ∃ (f : Nat) (first : Bool) (lang : List UInt8) (out : List At.Pr) (i : Nat), i ≤ l.length ∧ l.length + 1 ≤ f + i ∧ out.length ≤ i ∧ vl = .string (bs lang) ∧ wr.ownsRow w.heap.size 46 3 vo out.length (pcells out) ∧ vi = .int .i64 (i : Int) ∧ vf = .bool first ∧ Hid (At.prs l f first lang out i = At.pairs l) ∧ Below w.heap.size w wr) (fun _ _ vi _ _ => l.length - (intOf vi).toNat)
  case atStart => exact ⟨l.length + 1, true, [], [], 0, by omega, by omega, by simp, rfl, World.ownsRow_nil _ _ _ _, rfl, rfl, Lib.hid rfl, Below.refl _ _⟩
  case round =>
    obtain ⟨f, first, lang, out, i, hi, hfu, hoi, rfl, hown, rfl, rfl, hp, hb⟩ := hrel
    obtain ⟨wo, rfl⟩ : ∃ wo : World, wo = wr := ⟨_, rfl⟩
    obtain ⟨f, rfl⟩ : ∃ g, f = g + 1 := ⟨f - 1, by omega⟩
    obtain ⟨A, c, rfl, hlc⟩ := own_shape hown
    replace hown := Lib.hid hown
    go_wp2_with fail
    go_loop [7] (fun u => ∃ k : Nat, i ≤ k ∧ k ≤ l.length ∧ u = .int .i64 (k : Int) ∧ Hid (i + Cl.gaps (l.drop i) = k + Cl.gaps (l.drop k))) (fun u => l.length - (intOf u).toNat)
    case atStart => exact ⟨i, by omega, hi, rfl, Lib.hid rfl⟩
    case round =>
      obtain ⟨k, hik, hk, rfl, hf⟩ := hrel
      rcases Nat.lt_or_eq_of_le hk with hlt | rfl
      · have hx := run_byte hlt
        have hg := gap5_any l[k]
        have hga := gaps_at hlt
        cases hgp : Cl.isGap l[k] with
        | true =>
          have hf2 : Hid (i + Cl.gaps (l.drop i) = k + 1 + Cl.gaps (l.drop (k + 1))) := Lib.hid (by have := hf.out; rw [hga.1 hgp] at this; omega)
          rw [hgp] at hg
          clear hga hgp
          go_wp2_with (go_at_call 35; refine (hg _).mono ?_; rintro e w' ⟨rfl, rfl⟩)
          go_round
          case rel => exact ⟨k + 1, by omega, by omega, by go_num, hf2⟩
          case measure => simp [intOf]; omega
        | false =>
          have hj : i + Cl.gaps (l.drop i) = k := by have := hf.out; rw [hga.2 hgp] at this; omega
          have hne : l.drop k ≠ [] := by rw [List.drop_eq_getElem_cons hlt]; exact List.cons_ne_nil _ _
          have hwne : At.tw At.word (l.drop k) ≠ [] := by rw [List.drop_eq_getElem_cons hlt, At.tw_yes _ (by unfold At.word; rw [hgp]; rfl)]; simp
          rw [hgp] at hg
          have hwc := fun w => word_any l k w (by omega) (by omega)
          have hWl := At.tw_len At.word (l.drop k)
          rw [List.length_drop] at hWl
          have hwlen := List.length_pos_iff.2 hwne
          have hKe : ((k : Int) == (l.length : Int)) = false := by rw [beq_eq_false_iff_ne]; omega
          have hpl := @At.prs_lang l f first lang out i k hj hne
          have hpb := @At.prs_bad l f first lang out i k hj hne
          have hpt := @At.prs_twice l f first lang out i k hj hne
          have hpm := @At.prs_more l f first lang out i k hj hne
          obtain ⟨W, hW⟩ : ∃ W, At.tw At.word (l.drop k) = W := ⟨_, rfl⟩
          rw [hW] at hwc hWl hwlen hpl hpb hpt hpm
          have hzW := bs_size W
          have hh : ∀ w, Calls Tryd.prog 31 #[.string (bs W), .int .u8 61] w fun e w' => e = .returned (.bool (decide ((61 : UInt8) ∈ W))) ∧ w = w' := fun w => has5_any W 61 w (by omega)
          clear hga hgp hf hj hne hwne hW
          have eqA : ((bs W).toList == [97, 112, 112, 101, 110, 100]) = decide (W = At.wAppend) := by
            rw [bs_toList]
            by_cases h : W = At.wAppend
            · rw [decide_eq_true h, h]; rfl
            · rw [decide_eq_false h]; exact beq_eq_false_iff_ne.2 h
          have eqN : ((bs W).toList == [110, 111, 108, 105, 110, 101]) = decide (W = At.wNoline) := by
            rw [bs_toList]
            by_cases h : W = At.wNoline
            · rw [decide_eq_true h, h]; rfl
            · rw [decide_eq_false h]; exact beq_eq_false_iff_ne.2 h
          have hways : (first = true ∧ decide ((61 : UInt8) ∈ W) = false ∧ ((bs W).toList == [97, 112, 112, 101, 110, 100]) = false ∧ ((bs W).toList == [110, 111, 108, 105, 110, 101]) = false ∧ At.isLang first W = true) ∨
              (first = false ∧ At.isLang first W = false) ∨ (first = true ∧ decide ((61 : UInt8) ∈ W) = true ∧ At.isLang first W = false) ∨
              (first = true ∧ decide ((61 : UInt8) ∈ W) = false ∧ ((bs W).toList == [97, 112, 112, 101, 110, 100]) = true ∧ At.isLang first W = false) ∨
              (first = true ∧ decide ((61 : UInt8) ∈ W) = false ∧ ((bs W).toList == [97, 112, 112, 101, 110, 100]) = false ∧ ((bs W).toList == [110, 111, 108, 105, 110, 101]) = true ∧ At.isLang first W = false) := by
            rw [eqA, eqN]
            unfold At.isLang
            simp only [ne_eq, decide_not]
            cases first <;> cases decide ((61 : UInt8) ∈ W) <;> cases decide (W = At.wAppend) <;> cases decide (W = At.wNoline) <;> simp
          clear eqA eqN
          rcases hways with ⟨rfl, a1, a2, a3, hL⟩ | hways
          · rw [a1] at hh
            have hp2 : Hid (At.prs l f false W out (k + W.length) = At.pairs l) := Lib.hid (by rw [← hp.out, hpl hL])
            clear hL hpl hpb hpt hpm a1
            go_wp2_with fail
            refine (hg _).mono ?_
            rintro e w' ⟨rfl, rfl⟩
            go_wp2_with fail
            refine (hwc _).mono ?_
            rintro e w' ⟨rfl, rfl⟩
            go_wp2_with fail
            refine (hh _).mono ?_
            rintro e w' ⟨rfl, rfl⟩
            go_wp2_with fail
            go_roundw
            case rel => exact ⟨f, false, W, out, k + W.length, by omega, by omega, by omega, rfl, hown.out, by go_num, rfl, hp2, hb⟩
            case measure => simp [intOf]; omega
          · have hL : At.isLang first W = false := by rcases hways with ⟨_, h⟩ | ⟨_, _, h⟩ | ⟨_, _, _, h⟩ | ⟨_, _, _, _, h⟩ <;> exact h
            have hpc := fun w => pair_any l k w (by omega) (by omega)
            have hpw := @At.pair_within (l.drop k) k
            rw [List.length_drop] at hpw
            replace hpb := hpb hL
            replace hpt := hpt hL
            replace hpm := hpm hL
            obtain ⟨P, hP⟩ : ∃ P, At.pair (l.drop k) k = P := ⟨_, rfl⟩
            rw [hP] at hpc hpw hpb hpt hpm
            obtain ⟨p, te, ok⟩ := P
            simp only at hpw hpb hpt hpm
            simp only [pairv, prv] at hpc
            clear hP hL hpl
            cases ok with
            | false =>
              have hfin : Hid (At.pairs l = ([], [], false)) := Lib.hid (by rw [← hp.out]; exact hpb rfl)
              clear hpb hpt hpm hpw
              rcases hways with ⟨rfl, _⟩ | ⟨rfl, a1, _⟩ | ⟨rfl, a1, a2, _⟩ | ⟨rfl, a1, a2, a3, _⟩
              all_goals
                try rw [a1] at hh
                try clear a1
                go_wp2_with (first | (go_at_call 35; refine (hg _).mono ?_; rintro e w' ⟨rfl, rfl⟩) | (go_at_call 36; refine (hwc _).mono ?_; rintro e w' ⟨rfl, rfl⟩) | (go_at_call 31; refine (hh _).mono ?_; rintro e w' ⟨rfl, rfl⟩) | (go_at_call 37; refine (hpc _).mono ?_; rintro e w1 ⟨rfl, hb1⟩; replace hb1 := Lib.hid (hb.trans (hb1.mono hb.size))))
                go_returns
                exact ⟨⟨_, by rw [hfin.out]; rfl, by rw [hfin.out]; exact World.ownsRow_nil _ _ _ _⟩, hb1.out.trans ((ext_alloc _ _).mono hb1.out.size)⟩
            | true =>
              have hpw2 := hpw rfl
              replace hpt := hpt rfl
              replace hpm := hpm rfl
              clear hpb hpw
              rcases hways with ⟨rfl, _⟩ | ⟨rfl, a1, _⟩ | ⟨rfl, a1, a2, _⟩ | ⟨rfl, a1, a2, a3, _⟩
              all_goals
                try rw [a1] at hh
                try clear a1
                replace hpt := Lib.hid hpt
                replace hpm := Lib.hid hpm
                go_wp2_with (first | (go_at_call 35; refine (hg _).mono ?_; rintro e w' ⟨rfl, rfl⟩) | (go_at_call 36; refine (hwc _).mono ?_; rintro e w' ⟨rfl, rfl⟩) | (go_at_call 31; refine (hh _).mono ?_; rintro e w' ⟨rfl, rfl⟩) | (go_at_call 37; refine (hpc _).mono ?_; rintro e w1 ⟨rfl, hb1⟩; replace hb1 := Lib.hid hb1))
                obtain ⟨w2, hw2⟩ : ∃ w2, w2 = w1.alloc (.cells #[.string (bs p.key), .string (bs p.text), .bool p.alone] 46) := ⟨_, rfl⟩
                have hb2 : Hid (Below wo.heap.size wo w2) := Lib.hid (by rw [hw2]; exact ext_trans hb1.out (ext_alloc _ _))
                have f2 : Hid (w2.heap[w1.heap.size]? = some (.cells #[.string (bs p.key), .string (bs p.text), .bool p.alone] 46)) := Lib.hid (by rw [hw2]; exact heap_alloc_new w1 _)
                have ho2 := Lib.hid (own_below hown.out hb2.out)
                have hR2 := Lib.hid (Row.own ho2.out)
                rw [← hw2]
                clear hw2
                go_loopw [66] (fun u wr => ∃ m : Nat, m ≤ out.length ∧ u = .int .i64 (m : Int) ∧ Hid (At.twice (out.take m) p.key = false) ∧ Below w2.heap.size w2 wr) (fun u _ => out.length - (intOf u).toNat)
                case atStart => exact ⟨0, by omega, rfl, Lib.hid rfl, Below.refl _ _⟩
                case round =>
                  obtain ⟨m, hm, rfl, htw, hb3⟩ := hrel
                  obtain ⟨p0, p1, p2⟩ := three (keep f2.out hb3).1
                  have hgt := (keep f2.out hb3).2
                  by_cases hmo : m < out.length
                  · obtain ⟨bb, oo, rfl, hbb, hc⟩ := pair_cell hR2.out (by omega)
                    obtain ⟨c0, c1, c2⟩ := hc m hmo
                    have d0 := (hb3.cell hbb).trans c0
                    have d1 := (hb3.cell hbb).trans c1
                    have d2 := (hb3.cell hbb).trans c2
                    have htn := @At.twice_next out m p.key hmo htw.out
                    have hth := @At.twice_hit out m p.key hmo
                    obtain ⟨q, hq⟩ : ∃ q, out[m] = q := ⟨_, rfl⟩
                    rw [hq] at d0 d1 d2 htn hth
                    clear hc c0 c1 c2 hq
                    by_cases hk2 : q.key = p.key
                    · have ht := bs_eq hk2
                      have hfin : Hid (At.pairs l = ([], [], false)) := Lib.hid (by rw [← hp.out]; exact hpt.out (hth hk2))
                      clear hk2 htn hth
                      go_wp2_with fail
                      go_returns
                      exact ⟨⟨_, by rw [hfin.out]; rfl, by rw [hfin.out]; exact World.ownsRow_nil _ _ _ _⟩, (hb.trans ((ext_trans hb2.out hb3).mono hb.size)).alloc (by have := hb.size; have := hb2.out.size; have := hb3.size; omega) _⟩
                    · have ht := bs_ne hk2
                      have htw2 := Lib.hid (htn hk2)
                      clear hk2 htn hth
                      go_wp2_with fail
                      go_roundw
                      case rel => exact ⟨m + 1, by omega, by go_num, htw2, hb3.alloc hb3.size _⟩
                      case measure => simp [intOf]; omega
                  · have hno : At.twice out p.key = false := by
                      have := htw.out
                      rwa [List.take_of_length_le (by omega)] at this
                    have hp2 : Hid (At.prs l f false lang (out ++ [p]) te = At.pairs l) := Lib.hid (by rw [← hp.out]; exact (hpm.out hno).symm)
                    have hown3 := own_below ho2.out hb3
                    have hbw := hb.trans ((ext_trans hb2.out hb3).mono hb.size)
                    have hz3 := hbw.size
                    clear hno
                    go_wp2_with (at_builtin; refine wpList_app_new rfl (.tmp 76) (.tmp 78) rfl rpairEI rfl hown3 rfl rfl rfl (by simp; exact ⟨rfl, rfl, rfl⟩) (by omega) (by omega) hz3 ?_; intro v2 w4 hown4 hg4 hb4)
                    go_roundw
                    case rel => exact ⟨f, false, lang, out ++ [p], te, by omega, by omega, by rw [List.length_append]; simp; omega, rfl, by rw [List.length_append]; simpa [pcells] using hown4, rfl, rfl, hp2, hbw.trans hb4⟩
                    case measure => simp [intOf]; omega
      · have hj : i + Cl.gaps (l.drop i) = l.length := by have := hf.out; rw [List.drop_length] at this; exact this
        have hfin : Hid (At.pairs l = (lang, out, true)) := Lib.hid (by rw [← hp.out]; exact At.prs_done hj (List.drop_length))
        clear hj hf
        go_wp2_with fail
        go_returns
        exact ⟨⟨_, by rw [hfin.out]; rfl, by rw [hfin.out]; exact hown.out⟩, hb⟩
end Go.Proofs.YtfppfaliepkhgaaDoor
