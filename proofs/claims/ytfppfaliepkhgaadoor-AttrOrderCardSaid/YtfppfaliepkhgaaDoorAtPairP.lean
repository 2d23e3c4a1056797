/- Package attr: a value, a pair. -/
import Derived.Test.YtfppfaliepkhgaaDoorAtBld
import Derived.Test.YtfppfaliepkhgaaDoorCanon2
import Derived.Test.YtfppfaliepkhgaaDoorBlk
namespace Go.Proofs.YtfppfaliepkhgaaDoor
open Go.RowKit
attribute [local go_sem] canOp readsAs readUpon

/-- what a value that begins here is -/
def valv (l : List UInt8) : Value := if heads 34 l = true then uqv (l.drop 1) (At.qd (l.drop 1)) else .tuple #[.string (bs (At.tw At.word l)), .string (bs (l.drop (At.tw At.word l).length)), .bool (At.bare (At.tw At.word l))]

set_option maxHeartbeats 4000000 in
set_option maxRecDepth 100000 in
theorem pvalue_any (l : List UInt8) (w : World) (hl : l.length ≤ 1000000000) :
    Calls Tryd.prog 54 #[.string (bs l)] w fun e w' => e = .returned (valv l) ∧ Below w.heap.size w w' := by
  have hp := hasPrefix_any l 34
  have hsz := bs_size l
  cases hh : heads 34 l with
  | true =>
    have hv : valv l = uqv (l.drop 1) (At.qd (l.drop 1)) := if_pos hh
    have h1 : 1 ≤ l.length := by
      rcases l with _ | ⟨b, r⟩
      · cases hh
      · simp
    have hsl := run_from (S := l) (i := 1) h1
    have hdl : (l.drop 1).length = l.length - 1 := List.length_drop ..
    rw [show ((1 : Nat) : Int) = 1 from rfl] at hsl
    rw [hv]
    rw [hh] at hp
    obtain ⟨R, hR⟩ : ∃ R, l.drop 1 = R := ⟨_, rfl⟩
    rw [hR] at hsl hdl
    rw [hR]
    have hu := fun w => unquote_any R w (by omega)
    clear hR hv hh
    cases hq : At.qd R with
    | none =>
      rw [hq] at hu
      simp only [uqv] at hu
      go_enter Tryd.func54, Tryd.ntmps54
      go_wp2_with (first | (go_at_call 53; refine (hp _).mono ?_; rintro e w' ⟨rfl, rfl⟩) | (go_at_call 75; refine (hu _).mono ?_; rintro e w1 ⟨rfl, hb1⟩))
      go_returns
      exact ⟨rfl, hb1⟩
    | some x =>
      obtain ⟨t, n⟩ := x
      rw [hq] at hu
      simp only [uqv] at hu
      go_enter Tryd.func54, Tryd.ntmps54
      go_wp2_with (first | (go_at_call 53; refine (hp _).mono ?_; rintro e w' ⟨rfl, rfl⟩) | (go_at_call 75; refine (hu _).mono ?_; rintro e w1 ⟨rfl, hb1⟩))
      go_returns
      exact ⟨rfl, hb1⟩
  | false =>
    have hv : valv l = .tuple #[.string (bs (At.tw At.word l)), .string (bs (l.drop (At.tw At.word l).length)), .bool (At.bare (At.tw At.word l))] := if_neg (by rw [hh]; simp)
    rw [hv]
    rw [hh] at hp
    have hw := fun w => pword_any l w hl
    have hlen := At.tw_len At.word l
    obtain ⟨W, hW⟩ : ∃ W, At.tw At.word l = W := ⟨_, rfl⟩
    rw [hW] at hw hlen
    rw [hW]
    have hzW := bs_size W
    have hsl := run_from (S := l) (i := W.length) hlen
    have hcl := fun w => clone_any W w (by omega)
    have hba := pbare_any W
    clear hW hh hv
    go_enter Tryd.func54, Tryd.ntmps54
    go_wp2_with (first | (go_at_call 53; refine (hp _).mono ?_; rintro e w' ⟨rfl, rfl⟩) | (go_at_call 49; refine (hw _).mono ?_; rintro e w1 ⟨rfl, hb1⟩))
    refine wp_region_can [(true, 0), (true, 2), (true, 3), (true, 4), (true, 5), (true, 6), (false, 1), (false, 7), (true, 8), (true, 9), (true, 10)] (Ext w1) (ext_drew w1) (by kernel_rfl) (by kernel_rfl) (by kernel_rfl) (fun _ _ d _ _ h => by cases d <;> exact h) ?_
    repeat (first | refine wpCan_move rfl ?_ | (refine wpCan_cons rfl ?_; intro K hK; go_simp; refine hK _ _ _ ?_; clear hK K))
    refine wpCan_cons rfl ?_
    intro K hK
    go_simp
    refine (hcl _).mono ?_
    rintro e w2 ⟨rfl, hb2⟩
    refine can_ext (ext_trans (ext_drew _) hb2) (hK _ _ _ ?_)
    clear hK K
    refine wpCan_cons rfl ?_
    intro K hK
    go_simp
    refine (hba _).mono ?_
    rintro e w3 ⟨rfl, hb3⟩
    refine can_ext hb3 (hK _ _ _ ?_)
    clear hK K
    repeat (first | refine wpCan_move rfl ?_ | (refine wpCan_cons rfl ?_; intro K hK; go_simp; refine hK _ _ _ ?_; clear hK K))
    refine wpCan_nil ?_
    go_wp2_with fail
    go_returns
    exact ⟨rfl, ext_trans hb1 (ext_trans (ext_drew _) (ext_trans hb2 hb3))⟩

theorem word_stop (R : List UInt8) : (bs (At.tw At.word R)).toList.isEmpty = At.stop R := by
  rcases R with _ | ⟨b, r⟩
  · exact text_nil
  · cases hb : Cl.isGap b with
    | true => rw [At.tw_no _ (by unfold At.word; rw [hb]; rfl)]; exact text_nil.trans hb.symm
    | false => rw [At.tw_yes _ (by unfold At.word; rw [hb]; rfl)]; exact (text_cons _ _).trans hb.symm

theorem run_flag (w : World) : (Instr.makeInterface 4 (.bool true)).run Tryd.prog w = .ok (.iface 4 (.bool true)) w := run_makeInterface w _ _ (by kernel_rfl)
theorem run_textv (t : List UInt8) (w : World) : (Instr.makeInterface 9 (.string (bs t))).run Tryd.prog w = .ok (.iface 9 (.string (bs t))) w := run_makeInterface w _ _ (by kernel_rfl)

/-- what a pair gives: a key, a value, what is behind it -/
def PairOut (P : At.Pr × Nat × Bool) (l : List UInt8) (e : Ending) : Prop :=
  ∃ k v r, e = .returned (.tuple #[.agg #[.string (bs k), v], .string (bs r), .bool P.2.2]) ∧ (P.2.2 = true → k = P.1.key ∧ v = av P.1 ∧ r = l.drop P.2.1) ∧ k.length ≤ l.length ∧ (v = .nilIface ∨ ∃ t x, v = .iface t x)

theorem two {w1 : World} {g : Nat} {a b : Value} {t : TypeId} {fr : Nat × Nat} (h : w1.heap[g]? = some (.cells #[a, b] t fr)) :
    w1.cell? ⟨g, 0, none⟩ = some a ∧ w1.cell? ⟨g, 1, none⟩ = some b := ⟨blk_cell h 0, blk_cell h 1⟩

theorem set_two {w : World} {g k : Nat} (h : k ≠ g) (a b : Value) : ((w.setCell ⟨g, 0, none⟩ a).setCell ⟨g, 1, none⟩ b).heap[k]? = w.heap[k]? := by
  rw [Below.heap_setCell _ _ _ _ h, Below.heap_setCell _ _ _ _ h]
theorem set_two_same {w : World} {g : Nat} {x y : Value} {t : TypeId} (h : w.heap[g]? = some (.cells #[x, y] t)) (a b : Value) : ((w.setCell ⟨g, 0, none⟩ a).setCell ⟨g, 1, none⟩ b).heap[g]? = some (.cells #[a, b] t) :=
  heap_setCell_same _ _ 1 _ _ _ (heap_setCell_same _ _ 0 _ _ _ h)
theorem below_two {B g : Nat} {w w1 : World} (h : Below B w w1) (hg : B ≤ g) (a b : Value) : Below B w ((w1.setCell ⟨g, 0, none⟩ a).setCell ⟨g, 1, none⟩ b) := (h.setCell hg _).setCell hg _

set_option maxHeartbeats 4000000 in
set_option maxRecDepth 100000 in
/-- no key -/
theorem ppair_none (l : List UInt8) (w : World) (hl : l.length ≤ 1000000000) (h0 : At.tw At.letter l = []) :
    Calls Tryd.prog 34 #[.string (bs l)] w fun e w' => PairOut (At.pair l 0) l e ∧ Below w.heap.size w w' := by
  have hk := fun w => keyLength_any l w hl
  rw [h0] at hk
  rw [At.pair_empty h0]
  clear h0
  go_enter Tryd.func34, Tryd.ntmps34
  go_wp2_with (go_at_call 52; refine (hk _).mono ?_; rintro e w' ⟨rfl, rfl⟩)
  exact bodyPost_ret (v := .tuple #[.agg #[.string ⟨#[]⟩, .nilIface], .string ⟨#[]⟩, .bool false]) (by rw [results_cell_tmp2 rfl]; go_simp) rfl ⟨⟨[], .nilIface, [], rfl, (fun h => by cases h), by simp, .inl rfl⟩, ext_alloc _ _⟩

/-- what a value gives a pair -/
theorem val_pair {l q : List UInt8} (hT : At.tw At.letter l ≠ []) (hr : l.drop (At.tw At.letter l).length = 61 :: q) :
    ∃ t r ok, valv q = .tuple #[.string (bs t), .string (bs r), .bool ok] ∧ r.length ≤ q.length ∧ (ok = false → (At.pair l 0).2.2 = false) ∧
      (ok = true → (At.pair l 0).2.2 = At.stop r ∧ (At.stop r = true → (At.pair l 0).1 = ⟨At.tw At.letter l, t, false⟩ ∧ r = l.drop (At.pair l 0).2.1)) := by
  by_cases hq : ∃ q', q = 34 :: q'
  · obtain ⟨q', rfl⟩ := hq
    have hv : valv (34 :: q') = uqv q' (At.qd q') := if_pos rfl
    rw [hv]
    cases hQ : At.qd q' with
    | none => exact ⟨[], [], false, rfl, by simp, fun _ => by rw [At.pair_open hT hr hQ], fun h => by cases h⟩
    | some x =>
      obtain ⟨t, n⟩ := x
      refine ⟨t, q'.drop n, true, rfl, by rw [List.length_drop, List.length_cons]; omega, fun h => (by cases h), fun _ => ?_⟩
      rw [At.pair_quote hT hr hQ]
      refine ⟨rfl, fun _ => ⟨rfl, ?_⟩⟩
      simp only
      rw [Nat.zero_add, ← List.drop_drop, ← List.drop_drop, hr]; rfl
  · have hn : ∀ x, q ≠ 34 :: x := fun x hx => hq ⟨x, hx⟩
    have hh : heads 34 q = false := by
      rcases q with _ | ⟨b, r⟩
      · rfl
      · exact decide_eq_false (fun h => hn r (by rw [h]))
    have hv : valv q = .tuple #[.string (bs (At.tw At.word q)), .string (bs (q.drop (At.tw At.word q).length)), .bool (At.bare (At.tw At.word q))] := if_neg (by rw [hh]; simp)
    have hst : At.stop (q.drop (At.tw At.word q).length) = true := by
      rcases At.tw_rest At.word q with h | ⟨b, r, h, hb⟩
      · rw [h]; rfl
      · rw [h]; unfold At.word at hb; simpa [At.stop] using hb
    refine ⟨_, _, _, hv, by rw [List.length_drop]; omega, fun h => by rw [At.pair_word hT hr hn]; exact h, fun h => ?_⟩
    rw [At.pair_word hT hr hn]
    refine ⟨h.trans hst.symm, fun _ => ⟨rfl, ?_⟩⟩
    simp only
    rw [Nat.zero_add, ← List.drop_drop, ← List.drop_drop, hr]; rfl

set_option maxHeartbeats 8000000 in
set_option maxRecDepth 100000 in
/-- a key alone, or a bad word -/
theorem ppair_alone (l : List UInt8) (w : World) (hl : l.length ≤ 1000000000) (h0 : At.tw At.letter l ≠ []) (h61 : heads 61 (l.drop (At.tw At.letter l).length) = false) :
    Calls Tryd.prog 34 #[.string (bs l)] w fun e w' => PairOut (At.pair l 0) l e ∧ Below w.heap.size w w' := by
  have hk := fun w => keyLength_any l w hl
  have htk := At.tw_take At.letter l
  have hlen := At.tw_len At.letter l
  obtain ⟨P, hP⟩ : ∃ P, At.pair l 0 = P := ⟨_, rfl⟩
  have hPP : Hid (P.2.2 = At.stop (l.drop (At.tw At.letter l).length) ∧ (P.2.2 = true → P = (⟨At.tw At.letter l, [], true⟩, (At.tw At.letter l).length, true))) := Lib.hid (by
    rw [← hP]
    rcases hr : l.drop (At.tw At.letter l).length with _ | ⟨b, q⟩
    · rw [At.pair_end h0 hr]; exact ⟨rfl, fun _ => by rw [Nat.zero_add]⟩
    · cases hb : Cl.isGap b with
      | true => rw [At.pair_gap h0 hr hb]; exact ⟨hb.symm, fun _ => by rw [Nat.zero_add]⟩
      | false =>
        rw [At.pair_bad h0 hr hb (fun h => by rw [hr] at h61; simp [heads, h] at h61)]
        exact ⟨hb.symm, fun h => by cases h⟩)
  rw [hP]
  clear hP
  have hT0 : 0 < (At.tw At.letter l).length := List.length_pos_iff.2 h0
  obtain ⟨T, hT⟩ : ∃ T, At.tw At.letter l = T := ⟨_, rfl⟩
  rw [hT] at hk htk hlen hPP hT0 h61
  have hzT := bs_size T
  have hs1 := run_upto (S := l) (i := T.length) hlen
  have hs2 := run_from (S := l) (i := T.length) hlen
  rw [htk] at hs1
  obtain ⟨R, hR⟩ : ∃ R, l.drop T.length = R := ⟨_, rfl⟩
  have hRl : R.length ≤ l.length := by rw [← hR, List.length_drop]; omega
  rw [hR] at hs2 hPP h61
  have hcl := fun w => clone_any T w (by omega)
  have hpx := hasPrefix_any R 61
  rw [h61] at hpx
  have hwd := fun w => pword_any R w (by omega)
  have hem := word_stop R
  have hn0 : ((T.length : Int) == 0) = false := beq_eq_false_iff_ne.2 (by omega)
  have hmi := run_flag
  have hRr := Lib.hid hR
  clear h0 hT htk hR h61
  go_enter Tryd.func34, Tryd.ntmps34
  go_wp2_with (go_at_call 52; refine (hk _).mono ?_; rintro e w' ⟨rfl, rfl⟩)
  refine wp_region_tree (.rd 0 (.rd 1 (.rd 2 (.rd 6 (.rd 7 (.rd 8 (.rd 4 (.fk 3 (.rd 5 (.mk 9 (.mk 10 (.rd 11 .fin)))) 9 (.mk 3 (.rd 5 (.mk 10 (.rd 11 .fin)))))))))))) (fun _ => True) trivial (by kernel_rfl) (by kernel_rfl) (by kernel_rfl) (fun _ _ d _ _ h => by cases d <;> exact h) ?_
  repeat (first | refine wpT_move rfl ?_ | (refine wpT_rd rfl ?_; intro K hK; go_simp; refine hK _ _ _ ?_; clear hK K))
  refine wpT_fk ?wa ?wb
  case' wa =>
    refine wpT_mk rfl ?_
    intro K hK
    go_simp
    refine (hcl _).mono ?_
    rintro e w2 ⟨rfl, hb2⟩
    refine ⟨fun _ => True, trivial, hK _ _ _ ?_⟩
    clear hK K
    repeat (first | refine wpT_move rfl ?_ | (refine wpT_rd rfl ?_; intro K hK; go_simp; refine hK _ _ _ ?_; clear hK K))
    refine wpT_mk rfl ?_
    intro K hK
    go_simp
    refine ⟨fun _ => True, trivial, hK _ _ _ ?_⟩
    clear hK K
    refine wpT_mk rfl ?_
    intro K hK
    go_simp
    refine ⟨fun _ => True, trivial, hK _ _ _ ?_⟩
    clear hK K
    repeat (first | refine wpT_move rfl ?_ | (refine wpT_rd rfl ?_; intro K hK; go_simp; refine hK _ _ _ ?_; clear hK K))
    refine wpT_fin ?_
    have hr2 := (keep (heap_alloc_new w _) (ext_trans (ext_drew _) hb2)).1
    have hG := heap_alloc_new w2 (.cells #[.string (bs T), .iface 4 (.bool true)] 44)
    have hRR := (keep hr2 (ext_alloc w2 (.cells #[.string (bs T), .iface 4 (.bool true)] 44))).1
    have hBZ := Lib.hid (ext_trans (ext_trans (ext_alloc _ _) (ext_trans (ext_drew _) hb2)) (ext_alloc w2 (.cells #[.string (bs T), .iface 4 (.bool true)] 44)))
    have hne : w.heap.size < w2.heap.size := by have := hb2.size; simp at this; omega
    clear hr2 hb2
    obtain ⟨wz, hwz⟩ : ∃ wz, w2.alloc (.cells #[.string (bs T), .iface 4 (.bool true)] 44) = wz := ⟨_, rfl⟩
    rw [hwz] at hG hRR hBZ ⊢
    obtain ⟨g, hg⟩ : ∃ g, w2.heap.size = g := ⟨_, rfl⟩
    rw [hg] at hG hne ⊢
    clear hwz hg
  case' wb =>
    refine wpT_mk rfl ?_
    intro K hK
    go_simp
    refine ⟨fun _ => True, trivial, hK _ _ _ ?_⟩
    clear hK K
    refine wpT_mk rfl ?_
    intro K hK
    go_simp
    refine (hcl _).mono ?_
    rintro e w2 ⟨rfl, hb2⟩
    replace hb2 := ext_trans (ext_drew _) hb2
    have hr2 := (keep (blk_one w _ _) hb2).1
    have c1 := (keep (blk_two w _ _) hb2).1
    obtain ⟨d1, d2⟩ := two c1
    have d3 := blk_free c1
    have hne : w.heap.size < w.heap.size + 1 := by omega
    refine ⟨fun _ => True, trivial, hK _ _ _ ?_⟩
    clear hK K
    repeat (first | refine wpT_move rfl ?_ | (refine wpT_rd rfl ?_; intro K hK; go_simp; refine hK _ _ _ ?_; clear hK K))
    refine wpT_mk rfl ?_
    intro K hK
    go_simp
    refine ⟨fun _ => True, trivial, hK _ _ _ ?_⟩
    clear hK K
    repeat (first | refine wpT_move rfl ?_ | (refine wpT_rd rfl ?_; intro K hK; go_simp; refine hK _ _ _ ?_; clear hK K))
    refine wpT_fin ?_
    have hG := set_two_same c1 (.string (bs T)) (.iface 4 (.bool true))
    have hRR := (set_two (w := w2) (g := w.heap.size + 1) (k := w.heap.size) (by omega) (.string (bs T)) (.iface 4 (.bool true))).trans hr2
    have hBZ := Lib.hid (below_two (g := w.heap.size + 1) (ext_trans (ext_trans (ext_alloc _ _) (ext_alloc _ _)) hb2) (by omega) (.string (bs T)) (.iface 4 (.bool true)))
    clear hr2 hb2 c1 d1 d2 d3
    obtain ⟨wz, hwz⟩ : ∃ wz, ((w2.setCell ⟨w.heap.size + 1, 0, none⟩ (.string (bs T))).setCell ⟨w.heap.size + 1, 1, none⟩ (.iface 4 (.bool true))) = wz := ⟨_, rfl⟩
    rw [hwz] at hG hRR hBZ ⊢
    obtain ⟨g, hg⟩ : ∃ g, w.heap.size + 1 = g := ⟨_, rfl⟩
    rw [hg] at hG hne ⊢
    clear hwz hg
  all_goals
    obtain ⟨g0, g1⟩ := two hG
    go_wp2_with (go_at_call 53; refine (hpx _).mono ?_; rintro e wz ⟨rfl, rfl⟩)
    refine wp_region_can [(true, 0), (true, 1), (true, 2), (false, 3), (true, 4), (false, 5), (true, 6), (true, 7)] (fun u => u.heap[g]? = some (.cells #[.string (bs T), .iface 4 (.bool true)] 44)) hG (by kernel_rfl) (by kernel_rfl) (by kernel_rfl) (fun _ _ d _ _ h => by cases d <;> exact h) ?_
    refine wpCan_read (.agg #[.string (bs T), .iface 4 (.bool true)]) rfl rfl hG (fun u hu => by obtain ⟨k0, k1⟩ := two hu; go_simp) ?_
    repeat (first | refine wpCan_move rfl ?_ | (refine wpCan_cons rfl ?_; intro K hK; go_simp; refine hK _ _ _ ?_; clear hK K))
    refine wpCan_cons rfl ?_
    intro K hK
    go_simp
    refine (hwd _).mono ?_
    rintro e w5 ⟨rfl, hb5⟩
    have hG5 := (keep hG (ext_trans (ext_drew _) hb5)).1
    have hR5 := (keep hRR (ext_trans (ext_drew _) hb5)).1
    have hBZ5 := hBZ.out.trans ((ext_trans (ext_drew _) hb5).mono hBZ.out.size)
    refine can_same (S := fun u => u.heap[g]? = some (.cells #[.string (bs T), .iface 4 (.bool true)] 44)) hG5 (hK _ _ _ ?_)
    clear hK K
    repeat (first | refine wpCan_move rfl ?_ | (refine wpCan_cons rfl ?_; intro K hK; go_simp; refine hK _ _ _ ?_; clear hK K))
    obtain ⟨r0, r1⟩ := two hR5
    have rf := blk_free hR5
    refine wpCan_cons rfl ?_
    intro K hK
    go_simp
    refine can_same (S := fun u => u.heap[g]? = some (.cells #[.string (bs T), .iface 4 (.bool true)] 44)) ((set_two (Nat.ne_of_gt hne) _ _).trans hG5) (hK _ _ _ ?_)
    clear hK K
    repeat (first | refine wpCan_move rfl ?_ | (refine wpCan_cons rfl ?_; intro K hK; go_simp; refine hK _ _ _ ?_; clear hK K))
    refine wpCan_nil ?_
    go_wp2_with fail
    exact bodyPost_ret (v := .tuple #[.agg #[.string (bs T), .iface 4 (.bool true)], .string (bs R), .bool (At.stop R)]) (by rw [results_cell_tmp2 rfl]; go_simp) rfl
      ⟨⟨T, .iface 4 (.bool true), R, by rw [hPP.out.1], (fun h => by rw [hPP.out.2 h]; exact ⟨rfl, rfl, hRr.out.symm⟩), hlen, .inr ⟨_, _, rfl⟩⟩, below_two hBZ5 (Nat.le_refl _) _ _⟩
end Go.Proofs.YtfppfaliepkhgaaDoor
