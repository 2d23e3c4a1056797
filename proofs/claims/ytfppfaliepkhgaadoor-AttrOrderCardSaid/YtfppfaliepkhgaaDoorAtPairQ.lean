/- Package attr: a pair of a key and a text; any pair. -/
import Derived.Test.YtfppfaliepkhgaaDoorAtPairP
namespace Go.Proofs.YtfppfaliepkhgaaDoor
open Go.RowKit
attribute [local go_sem] canOp readsAs readUpon

set_option maxHeartbeats 8000000 in
set_option maxRecDepth 100000 in
/-- a key and a text -/
theorem ppair_text (l : List UInt8) (w : World) (hl : l.length ≤ 1000000000) (h0 : At.tw At.letter l ≠ []) (q : List UInt8) (hq : l.drop (At.tw At.letter l).length = 61 :: q) :
    Calls Tryd.prog 34 #[.string (bs l)] w fun e w' => PairOut (At.pair l 0) l e ∧ Below w.heap.size w w' := by
  have hk := fun w => keyLength_any l w hl
  have htk := At.tw_take At.letter l
  have hlen := At.tw_len At.letter l
  obtain ⟨t, r, okv, hval, hrq, hbad, hgood⟩ := val_pair h0 hq
  obtain ⟨P, hP⟩ : ∃ P, At.pair l 0 = P := ⟨_, rfl⟩
  rw [hP] at hbad hgood
  rw [hP]
  clear hP
  replace hbad := Lib.hid hbad
  replace hgood := Lib.hid hgood
  have hT0 : 0 < (At.tw At.letter l).length := List.length_pos_iff.2 h0
  obtain ⟨T, hT⟩ : ∃ T, At.tw At.letter l = T := ⟨_, rfl⟩
  rw [hT] at hk htk hlen hT0 hq hgood
  have hzT := bs_size T
  have hs1 := run_upto (S := l) (i := T.length) hlen
  have hs2 := run_from (S := l) (i := T.length) hlen
  have hs3 := run_from (S := 61 :: q) (i := 1) (by simp)
  rw [show ((1 : Nat) : Int) = 1 from rfl, show (61 :: q).drop 1 = q from rfl] at hs3
  rw [htk] at hs1
  rw [hq] at hs2
  have hql : q.length ≤ l.length := by have := congrArg List.length hq; rw [List.length_drop, List.length_cons] at this; omega
  have hcl := fun w => clone_any T w (by omega)
  have hpx := hasPrefix_any (61 :: q) 61
  rw [show heads 61 (61 :: q) = true from rfl] at hpx
  have hvl := fun w => pvalue_any q w (by omega)
  rw [hval] at hvl
  have hzR : (bs (61 :: q)).size = q.length + 1 := by rw [bs_size, List.length_cons]
  obtain ⟨R, hR⟩ : ∃ R, 61 :: q = R := ⟨_, rfl⟩
  rw [hR] at hs2 hs3 hpx hzR
  have hwd := fun w => pword_any r w (by omega)
  have hem := word_stop r
  have hn0 : ((T.length : Int) == 0) = false := beq_eq_false_iff_ne.2 (by omega)
  have hmi := run_flag
  have hmt := run_textv t
  clear h0 hT htk hR hq hval
  go_enter Tryd.func34, Tryd.ntmps34
  go_wp2_with (go_at_call 52; refine (hk _).mono ?_; rintro e w' ⟨rfl, rfl⟩)
  refine wp_region_tree (.rd 0 (.rd 1 (.rd 2 (.rd 6 (.rd 7 (.rd 8 (.rd 4 (.fk 3 (.rd 5 (.mk 9 (.mk 10 (.rd 11 .fin)))) 9 (.mk 3 (.rd 5 (.mk 10 (.rd 11 .fin)))))))))))) (fun _ => True) trivial (by kernel_rfl) (by kernel_rfl) (by kernel_rfl) (fun _ _ d _ _ h => by cases d <;> exact h) ?_
  repeat (first | refine wpT_move rfl ?_ | (refine wpT_rd rfl ?_; intro K hK; go_simp; refine hK _ _ _ ?_; clear hK K))
  refine wpT_fk ?wa ?wb
  case' wa =>
    refine wpT_mk rfl ?_
    intro K hK
    go_simp
    refine (hcl _).mono ?_
    rintro e w2 ⟨rfl, hb2⟩
    refine ⟨fun _ => True, trivial, hK _ _ _ ?_⟩
    clear hK K
    repeat (first | refine wpT_move rfl ?_ | (refine wpT_rd rfl ?_; intro K hK; go_simp; refine hK _ _ _ ?_; clear hK K))
    refine wpT_mk rfl ?_
    intro K hK
    go_simp
    refine ⟨fun _ => True, trivial, hK _ _ _ ?_⟩
    clear hK K
    refine wpT_mk rfl ?_
    intro K hK
    go_simp
    refine ⟨fun _ => True, trivial, hK _ _ _ ?_⟩
    clear hK K
    repeat (first | refine wpT_move rfl ?_ | (refine wpT_rd rfl ?_; intro K hK; go_simp; refine hK _ _ _ ?_; clear hK K))
    refine wpT_fin ?_
    have hr2 := (keep (heap_alloc_new w _) (ext_trans (ext_drew _) hb2)).1
    have hG := heap_alloc_new w2 (.cells #[.string (bs T), .iface 4 (.bool true)] 44)
    have hRR := (keep hr2 (ext_alloc w2 (.cells #[.string (bs T), .iface 4 (.bool true)] 44))).1
    have hBZ := Lib.hid (ext_trans (ext_trans (ext_alloc _ _) (ext_trans (ext_drew _) hb2)) (ext_alloc w2 (.cells #[.string (bs T), .iface 4 (.bool true)] 44)))
    have hne : w.heap.size < w2.heap.size := by have := hb2.size; simp at this; omega
    clear hr2 hb2
    obtain ⟨wz, hwz⟩ : ∃ wz, w2.alloc (.cells #[.string (bs T), .iface 4 (.bool true)] 44) = wz := ⟨_, rfl⟩
    rw [hwz] at hG hRR hBZ ⊢
    obtain ⟨g, hg⟩ : ∃ g, w2.heap.size = g := ⟨_, rfl⟩
    rw [hg] at hG hne ⊢
    clear hwz hg
  case' wb =>
    refine wpT_mk rfl ?_
    intro K hK
    go_simp
    refine ⟨fun _ => True, trivial, hK _ _ _ ?_⟩
    clear hK K
    refine wpT_mk rfl ?_
    intro K hK
    go_simp
    refine (hcl _).mono ?_
    rintro e w2 ⟨rfl, hb2⟩
    replace hb2 := ext_trans (ext_drew _) hb2
    have hr2 := (keep (blk_one w _ _) hb2).1
    have c1 := (keep (blk_two w _ _) hb2).1
    obtain ⟨d1, d2⟩ := two c1
    have d3 := blk_free c1
    have hne : w.heap.size < w.heap.size + 1 := by omega
    refine ⟨fun _ => True, trivial, hK _ _ _ ?_⟩
    clear hK K
    repeat (first | refine wpT_move rfl ?_ | (refine wpT_rd rfl ?_; intro K hK; go_simp; refine hK _ _ _ ?_; clear hK K))
    refine wpT_mk rfl ?_
    intro K hK
    go_simp
    refine ⟨fun _ => True, trivial, hK _ _ _ ?_⟩
    clear hK K
    repeat (first | refine wpT_move rfl ?_ | (refine wpT_rd rfl ?_; intro K hK; go_simp; refine hK _ _ _ ?_; clear hK K))
    refine wpT_fin ?_
    have hG := set_two_same c1 (.string (bs T)) (.iface 4 (.bool true))
    have hRR := (set_two (w := w2) (g := w.heap.size + 1) (k := w.heap.size) (by omega) (.string (bs T)) (.iface 4 (.bool true))).trans hr2
    have hBZ := Lib.hid (below_two (g := w.heap.size + 1) (ext_trans (ext_trans (ext_alloc _ _) (ext_alloc _ _)) hb2) (by omega) (.string (bs T)) (.iface 4 (.bool true)))
    clear hr2 hb2 c1 d1 d2 d3
    obtain ⟨wz, hwz⟩ : ∃ wz, ((w2.setCell ⟨w.heap.size + 1, 0, none⟩ (.string (bs T))).setCell ⟨w.heap.size + 1, 1, none⟩ (.iface 4 (.bool true))) = wz := ⟨_, rfl⟩
    rw [hwz] at hG hRR hBZ ⊢
    obtain ⟨g, hg⟩ : ∃ g, w.heap.size + 1 = g := ⟨_, rfl⟩
    rw [hg] at hG hne ⊢
    clear hwz hg
  all_goals
    obtain ⟨g0, g1⟩ := two hG
    have gf := blk_free hG
    obtain ⟨r0, r1⟩ := two hRR
    have rf := blk_free hRR
    have hzz := hBZ.out.size
    have hgg : g < wz.heap.size := (Array.getElem?_eq_some_iff.1 hG).1
    cases okv with
    | false =>
      have hbad2 : Hid (P.2.2 = false) := Lib.hid (hbad.out rfl)
      clear hbad hgood
      go_wp2_with fail
      refine (hpx _).mono ?_
      rintro e wz ⟨rfl, rfl⟩
      go_wp2_with fail
      refine (hvl _).mono ?_
      rintro e w4 ⟨rfl, hb4⟩
      obtain ⟨r0, r1⟩ := two (keep hRR hb4).1
      have rf := blk_free (keep hRR hb4).1
      have hBZ4 := hBZ.out.trans (hb4.mono hBZ.out.size)
      go_wp2_with fail
      exact bodyPost_ret (v := .tuple #[.agg #[.string ⟨#[]⟩, .nilIface], .string ⟨#[]⟩, .bool false]) (by rw [results_cell_tmp2 rfl]; go_simp) rfl
        ⟨⟨[], .nilIface, [], by rw [hbad2.out]; rfl, (fun h => by rw [hbad2.out] at h; cases h), by simp, .inl rfl⟩, below_two hBZ4 (Nat.le_refl _) _ _⟩
    | true =>
      have hgood2 := Lib.hid (hgood.out rfl)
      clear hbad hgood
      go_wp2_with fail
      refine (hpx _).mono ?_
      rintro e wz ⟨rfl, rfl⟩
      go_wp2_with fail
      refine (hvl _).mono ?_
      rintro e w4 ⟨rfl, hb4⟩
      have hG4 := (keep hG hb4).1
      have hR4 := (keep hRR hb4).1
      have hBZ4 := Lib.hid (hBZ.out.trans (hb4.mono hBZ.out.size))
      obtain ⟨g0, g1⟩ := two hG4
      have gf := blk_free hG4
      clear hb4 hBZ hG hRR
      go_wp2_with fail
      have hG5 := heap_setCell_same _ _ 1 _ _ (.iface 9 (.string (bs t))) hG4
      have hG5 : (w4.setCell ⟨g, 1, none⟩ (.iface 9 (.string (bs t)))).heap[g]? = some (.cells #[.string (bs T), .iface 9 (.string (bs t))] 44) := heap_setCell_same _ _ 1 _ _ (.iface 9 (.string (bs t))) hG4
      have hR5 := (Below.heap_setCell w4 ⟨g, 1, none⟩ (.iface 9 (.string (bs t))) w.heap.size (Nat.ne_of_lt hne)).trans hR4
      have hBZ5 := Lib.hid (hBZ4.out.setCell (p := ⟨g, 1, none⟩) (Nat.le_of_lt hne) (.iface 9 (.string (bs t))))
      clear hBZ4 hR4 hG4
      obtain ⟨wy, hwy⟩ : ∃ wy, w4.setCell ⟨g, 1, none⟩ (.iface 9 (.string (bs t))) = wy := ⟨_, rfl⟩
      rw [hwy] at hG5 hR5 hBZ5 ⊢
      clear hwy g0 g1 gf
      refine wp_region_can [(true, 0), (true, 1), (true, 2), (false, 3), (true, 4), (false, 5), (true, 6), (true, 7)] (fun u => u.heap[g]? = some (.cells #[.string (bs T), .iface 9 (.string (bs t))] 44)) hG5 (by kernel_rfl) (by kernel_rfl) (by kernel_rfl) (fun _ _ d _ _ h => by cases d <;> exact h) ?_
      refine wpCan_read (.agg #[.string (bs T), .iface 9 (.string (bs t))]) rfl rfl hG5 (fun u hu => by obtain ⟨k0, k1⟩ := two hu; go_simp) ?_
      repeat (first | refine wpCan_move rfl ?_ | (refine wpCan_cons rfl ?_; intro K hK; go_simp; refine hK _ _ _ ?_; clear hK K))
      refine wpCan_cons rfl ?_
      intro K hK
      go_simp
      refine (hwd _).mono ?_
      rintro e w6 ⟨rfl, hb6⟩
      have hG6 := (keep hG5 (ext_trans (ext_drew _) hb6)).1
      have hR6 := (keep hR5 (ext_trans (ext_drew _) hb6)).1
      have hBZ6 := hBZ5.out.trans ((ext_trans (ext_drew _) hb6).mono hBZ5.out.size)
      refine can_same (S := fun u => u.heap[g]? = some (.cells #[.string (bs T), .iface 9 (.string (bs t))] 44)) hG6 (hK _ _ _ ?_)
      clear hK K
      repeat (first | refine wpCan_move rfl ?_ | (refine wpCan_cons rfl ?_; intro K hK; go_simp; refine hK _ _ _ ?_; clear hK K))
      obtain ⟨r0, r1⟩ := two hR6
      have rf := blk_free hR6
      refine wpCan_cons rfl ?_
      intro K hK
      go_simp
      refine can_same (S := fun u => u.heap[g]? = some (.cells #[.string (bs T), .iface 9 (.string (bs t))] 44)) ((set_two (Nat.ne_of_gt hne) _ _).trans hG6) (hK _ _ _ ?_)
      clear hK K
      repeat (first | refine wpCan_move rfl ?_ | (refine wpCan_cons rfl ?_; intro K hK; go_simp; refine hK _ _ _ ?_; clear hK K))
      refine wpCan_nil ?_
      go_wp2_with fail
      exact bodyPost_ret (v := .tuple #[.agg #[.string (bs T), .iface 9 (.string (bs t))], .string (bs r), .bool (At.stop r)]) (by rw [results_cell_tmp2 rfl]; go_simp) rfl
        ⟨⟨T, .iface 9 (.string (bs t)), r, by rw [hgood2.out.1], (fun h => by
          obtain ⟨e1, e2⟩ := hgood2.out.2 (by rw [← hgood2.out.1]; exact h)
          rw [e1]; exact ⟨rfl, rfl, e2⟩), hlen, .inr ⟨_, _, rfl⟩⟩, below_two hBZ6 (Nat.le_refl _) _ _⟩

/-- a pair, whatever it is -/
theorem ppair_any (l : List UInt8) (w : World) (hl : l.length ≤ 1000000000) :
    Calls Tryd.prog 34 #[.string (bs l)] w fun e w' => PairOut (At.pair l 0) l e ∧ Below w.heap.size w w' := by
  by_cases h0 : At.tw At.letter l = []
  · exact ppair_none l w hl h0
  · cases h61 : heads 61 (l.drop (At.tw At.letter l).length) with
    | false => exact ppair_alone l w hl h0 h61
    | true =>
      rcases hr : l.drop (At.tw At.letter l).length with _ | ⟨b, q⟩
      · rw [hr] at h61; cases h61
      · rw [hr] at h61
        have hb : b = 61 := of_decide_eq_true h61
        subst hb
        exact ppair_text l w hl h0 q hr
end Go.Proofs.YtfppfaliepkhgaaDoor
