/- The document's own answer of chapter 5: a pair. -/
import Derived.Test.YtfppfaliepkhgaaDoorAtRef3
import Derived.Test.YtfppfaliepkhgaaDoorCanon
namespace Go.Proofs.YtfppfaliepkhgaaDoor
open Go.RowKit
attribute [local go_sem] canOp readsAs readUpon

def prv (p : At.Pr) : Value := .agg #[.string (bs p.key), .string (bs p.text), .bool p.alone]
def pairv (x : At.Pr × Nat × Bool) : Value := .tuple #[prv x.1, .int .i64 (x.2.1 : Int), .bool x.2.2]

/-- where a key ends -/
theorem key_stop {l : List UInt8} {a k : Nat} (hak : a ≤ k) (hf : Hid ((k - a) + (At.tw At.letter (l.drop k)).length = (At.tw At.letter (l.drop a)).length)) (h0 : (At.tw At.letter (l.drop k)).length = 0) :
    mid l a k = At.tw At.letter (l.drop a) ∧ (l.drop a).drop (At.tw At.letter (l.drop a)).length = l.drop k ∧ a + (At.tw At.letter (l.drop a)).length = k ∧ (k = a ↔ At.tw At.letter (l.drop a) = []) := by
  have h := hf.out
  have h1 := tw_fin hf h0
  have hl : (At.tw At.letter (l.drop a)).length = k - a := by omega
  refine ⟨h1, ?_, by omega, ?_⟩
  · rw [hl, List.drop_drop, show a + (k - a) = k from by omega]
  · rw [← List.length_eq_zero_iff, hl]; omega
theorem letter_tests (b : UInt8) : (decide ((97 : Int) ≤ (b.toNat : Int)) = true ∧ decide ((b.toNat : Int) ≤ 122) = true ∧ At.letter b = true) ∨ (decide ((97 : Int) ≤ (b.toNat : Int)) = false ∧ At.letter b = false) ∨ (decide ((97 : Int) ≤ (b.toNat : Int)) = true ∧ decide ((b.toNat : Int) ≤ 122) = false ∧ At.letter b = false) := by
  unfold At.letter
  by_cases h : 97 ≤ b.toNat
  · by_cases h' : b.toNat ≤ 122
    · exact .inl ⟨by simp; omega, by simp; omega, by simp; omega⟩
    · exact .inr (.inr ⟨by simp; omega, by simp; omega, by simp; omega⟩)
  · exact .inr (.inl ⟨by simp; omega, by simp; omega⟩)

set_option maxHeartbeats 8000000 in
set_option maxRecDepth 100000 in
theorem pair_any (l : List UInt8) (a : Nat) (w : World) (hl : l.length ≤ 140737488355328) (ha : a ≤ l.length) :
    Calls Tryd.prog 37 #[.string (bs l), .int .i64 (a : Int)] w fun e w' => e = .returned (pairv (At.pair (l.drop a) a)) ∧ Below w.heap.size w w' := by
  have hsz := bs_size l
  go_enter Tryd.func37, Tryd.ntmps37
  go_wp2_with fail
  go_loop [7] (fun u => ∃ k : Nat, a ≤ k ∧ k ≤ l.length ∧ u = .int .i64 (k : Int) ∧ Hid ((k - a) + (At.tw At.letter (l.drop k)).length = (At.tw At.letter (l.drop a)).length)) (fun u => l.length - (intOf u).toNat)
  case atStart => exact ⟨a, by omega, ha, rfl, Lib.hid (by omega)⟩
  case round =>
    obtain ⟨k, hak, hk, rfl, hf⟩ := hrel
    have hks := key_stop hak hf
    have hsl := run_mid (S := l) (i := a) (j := k) hak hk
    obtain ⟨T, hT⟩ : ∃ T, mid l a k = T := ⟨_, rfl⟩
    rw [hT] at hks hsl
    clear hT
    rcases Nat.lt_or_eq_of_le hk with hlt | hke
    · have hx := run_byte hlt
      rcases letter_tests l[k] with ⟨g1, g2, h3⟩ | g
      · have hf2 : Hid ((k + 1 - a) + (At.tw At.letter (l.drop (k + 1))).length = (At.tw At.letter (l.drop a)).length) := Lib.hid (by have := hf.out; rw [At.tw_at hlt h3] at this; omega)
        clear hks hsl h3
        go_wp2
        go_round
        case rel => exact ⟨k + 1, by omega, by omega, by go_num, hf2⟩
        case measure => simp [intOf]; omega
      · have hno : At.letter l[k] = false := by rcases g with ⟨_, h⟩ | ⟨_, _, h⟩ <;> exact h
        obtain ⟨e1, e2, e3, e4⟩ := hks (At.tw_not hlt hno)
        have hdr : l.drop k = l[k] :: l.drop (k + 1) := List.drop_eq_getElem_cons hlt
        have hKe : ((k : Int) == (l.length : Int)) = false := by rw [beq_eq_false_iff_ne]; omega
        have g' : (decide ((97 : Int) ≤ (l[k].toNat : Int)) = false) ∨ (decide ((97 : Int) ≤ (l[k].toNat : Int)) = true ∧ decide ((l[k].toNat : Int) ≤ 122) = false) := by
          rcases g with ⟨h, _⟩ | ⟨h, h', _⟩
          · exact .inl h
          · exact .inr ⟨h, h'⟩
        clear g hno
        by_cases hka : k = a
        · have hfin := Lib.hid (At.pair_empty (a := a) (e4.1 hka))
          clear e1 e2 e3 e4 hdr
          subst hka
          rcases g' with g1 | ⟨g1, g2⟩
          all_goals
            go_wp2_with fail
            exact bodyPost_ret (v := pairv (⟨[], [], false⟩, 0, false)) (by rw [results_cell_tmp2 rfl]; go_simp; rfl) rfl ⟨by rw [hfin.out], ext_trans (ext_alloc _ _) (ext_alloc _ _)⟩
        · have hkb : ((k : Int) == (a : Int)) = false := by rw [beq_eq_false_iff_ne]; omega
          have hne : At.tw At.letter (l.drop a) ≠ [] := fun h => hka (e4.2 h)
          have hg := gap5_any l[k]
          cases hgp : Cl.isGap l[k] with
          | true =>
            have hfin : Hid (At.pair (l.drop a) a = (⟨T, [], true⟩, k, true)) := Lib.hid (by rw [At.pair_gap hne (e2.trans hdr) hgp, e3, ← e1])
            rw [hgp] at hg
            clear e1 e2 e3 e4 hdr hgp hne
            rcases g' with g1 | ⟨g1, g2⟩
            all_goals
              go_wp2_with (go_at_call 35; refine (hg _).mono ?_; rintro e w' ⟨rfl, rfl⟩)
              exact bodyPost_ret (v := pairv (⟨T, [], true⟩, k, true)) (by rw [results_cell_tmp2 rfl]; go_simp; rfl) rfl ⟨by rw [hfin.out], ext_trans (ext_alloc _ _) (ext_alloc _ _)⟩
          | false =>
            rw [hgp] at hg
            by_cases h61 : l[k] = 61
            · have hc1 : ((l[k].toNat : Int) != 61) = false := by rw [h61]; rfl
              have g1 : decide ((97 : Int) ≤ (l[k].toNat : Int)) = false := by rw [h61]; rfl
              rw [h61] at hdr
              clear g' h61 hgp
              by_cases hq34 : ∃ q, l.drop (k + 1) = 34 :: q
              · obtain ⟨q, hq⟩ := hq34
                have hl1 : k + 1 < l.length := by
                  rcases Nat.lt_or_ge (k + 1) l.length with h' | h'
                  · exact h'
                  · rw [List.drop_eq_nil_of_le h'] at hq; cases hq
                have hq2 := List.drop_eq_getElem_cons hl1
                rw [hq] at hq2
                injection hq2 with hq3 hq4
                have hxq : ∀ w, (Instr.index 9 (.string (bs l)) (.int .i64 ((k : Int) + 1))).run Tryd.prog w = .ok (.int .u8 34) w := by
                  intro w
                  have := run_byte_at hl1 (v := (k : Int) + 1) (by omega) w
                  rw [← hq3] at this
                  exact this
                have hqc := fun w => quoted_any l (k + 1) w hl hl1
                rw [show k + 1 + 1 = k + 2 from rfl, ← hq4, show ((k + 1 : Nat) : Int) = (k : Int) + 1 from by omega] at hqc
                have hqd := At.qd_le q.length q (Nat.le_refl _)
                have hqlen := congrArg List.length hq4
                rw [List.length_drop] at hqlen
                cases hQ : At.qd q with
                | none =>
                  have hfin : Hid (At.pair (l.drop a) a = (⟨T, [], false⟩, 0, false)) := Lib.hid (by rw [At.pair_open hne (e2.trans (by rw [hdr, hq])) hQ, ← e1])
                  rw [hQ] at hqc
                  simp only [qv] at hqc
                  clear e1 e2 e3 e4 hdr hne hq hq3 hq4 hqd hqlen hQ
                  go_wp2_with fail
                  refine (hg _).mono ?_
                  rintro e w' ⟨rfl, rfl⟩
                  go_wp2_with fail
                  refine (hqc _).mono ?_
                  rintro e w' ⟨rfl, rfl⟩
                  go_wp2_with fail
                  refine wp_region_can [(true, 0), (true, 1), (true, 2), (true, 3), (true, 4), (true, 5), (true, 6), (true, 7), (true, 8), (true, 9), (true, 10), (true, 11), (false, 12), (true, 13), (true, 14), (false, 15), (true, 16), (true, 17)] (fun u => u.heap[w.heap.size + 1]? = some (.cells #[.string (bs T), .string ⟨#[]⟩, .bool false] 46)) (blk_two w _ _) (by kernel_rfl) (by kernel_rfl) (by kernel_rfl) (fun _ _ d _ _ h => by cases d <;> exact h) ?_
                  refine wpCan_read (.agg #[.string (bs T), .string ⟨#[]⟩, .bool false]) rfl rfl (blk_two w _ _) (fun u hu => by obtain ⟨k0, k1, k2⟩ := three hu; go_simp) ?_
                  repeat (first | refine wpCan_move rfl ?_ | (refine wpCan_cons rfl ?_; intro K hK; go_simp; refine hK _ _ _ ?_; clear hK K))
                  refine wpCan_cons rfl ?_
                  intro K hK
                  go_simp
                  refine can_same (blk_two w _ _) (hK _ _ _ ?_)
                  clear hK K
                  repeat (first | refine wpCan_move rfl ?_ | (refine wpCan_cons rfl ?_; intro K hK; go_simp; refine hK _ _ _ ?_; clear hK K))
                  refine wpCan_nil ?_
                  go_wp2
                  exact bodyPost_ret (v := pairv (⟨T, [], false⟩, 0, false)) (by rw [results_cell_tmp2 rfl]; go_simp; rfl) rfl ⟨by rw [hfin.out], ext_trans (ext_alloc _ _) (ext_trans (ext_alloc _ _) (ext_drew _))⟩
                | some x =>
                  obtain ⟨t, n⟩ := x
                  obtain ⟨hq5, hq6⟩ := hqd _ hQ
                  simp only at hq5 hq6
                  have hfin : Hid (At.pair (l.drop a) a = (⟨T, t, false⟩, k + 2 + n, At.stop (l.drop (k + 2 + n)))) := Lib.hid (by rw [At.pair_quote hne (e2.trans (by rw [hdr, hq])) hQ, e3, ← e1, hq4, List.drop_drop])
                  rw [hQ] at hqc
                  simp only [qv] at hqc
                  rw [show k + 1 + 1 + n = k + 2 + n from rfl] at hqc
                  obtain ⟨M, hM⟩ : ∃ M, k + 2 + n = M := ⟨_, rfl⟩
                  have hMl : M ≤ l.length := by omega
                  rw [hM] at hqc hfin
                  clear e1 e2 e3 e4 hdr hne hq hq3 hq4 hq5 hq6 hqd hqlen hQ hM
                  rcases Nat.lt_or_eq_of_le hMl with hMlt | hMe
                  · have hxM := run_byte hMlt
                    have hgM := gap5_any l[M]
                    have hMk : ((M : Int) == (l.length : Int)) = false := by rw [beq_eq_false_iff_ne]; omega
                    rw [show At.stop (l.drop M) = Cl.isGap l[M] from by rw [List.drop_eq_getElem_cons hMlt]; rfl] at hfin
                    obtain ⟨G, hG⟩ : ∃ G, Cl.isGap l[M] = G := ⟨_, rfl⟩
                    rw [hG] at hgM hfin
                    clear hG
                    go_wp2_with fail
                    refine (hg _).mono ?_
                    rintro e w' ⟨rfl, rfl⟩
                    go_wp2_with fail
                    refine (hqc _).mono ?_
                    rintro e w' ⟨rfl, rfl⟩
                    go_wp2_with fail
                    refine wp_region_can [(true, 0), (true, 1), (true, 2), (true, 3), (true, 4), (true, 5), (true, 6), (true, 7), (true, 8), (true, 9), (true, 10), (true, 11), (false, 12), (true, 13), (true, 14), (false, 15), (true, 16), (true, 17)] (fun u => u.heap[w.heap.size + 1]? = some (.cells #[.string (bs T), .string (bs t), .bool false] 46)) (blk_two w _ _) (by kernel_rfl) (by kernel_rfl) (by kernel_rfl) (fun _ _ d _ _ h => by cases d <;> exact h) ?_
                    refine wpCan_read (.agg #[.string (bs T), .string (bs t), .bool false]) rfl rfl (blk_two w _ _) (fun u hu => by obtain ⟨k0, k1, k2⟩ := three hu; go_simp) ?_
                    repeat (first | refine wpCan_move rfl ?_ | (refine wpCan_cons rfl ?_; intro K hK; go_simp; refine hK _ _ _ ?_; clear hK K))
                    refine wpCan_cons rfl ?_
                    intro K hK
                    go_simp
                    refine (hgM _).mono ?_
                    rintro e w' ⟨rfl, rfl⟩
                    refine can_same (blk_two w _ _) (hK _ _ _ ?_)
                    clear hK K
                    repeat (first | refine wpCan_move rfl ?_ | (refine wpCan_cons rfl ?_; intro K hK; go_simp; refine hK _ _ _ ?_; clear hK K))
                    refine wpCan_cons rfl ?_
                    intro K hK
                    go_simp
                    refine can_same (blk_two w _ _) (hK _ _ _ ?_)
                    clear hK K
                    repeat (first | refine wpCan_move rfl ?_ | (refine wpCan_cons rfl ?_; intro K hK; go_simp; refine hK _ _ _ ?_; clear hK K))
                    refine wpCan_nil ?_
                    go_wp2
                    exact bodyPost_ret (v := pairv (⟨T, t, false⟩, M, G)) (by rw [results_cell_tmp2 rfl]; go_simp; rfl) rfl ⟨by rw [hfin.out], ext_trans (ext_alloc _ _) (ext_trans (ext_alloc _ _) (ext_drew _))⟩
                  · rw [show At.stop (l.drop M) = true from by rw [List.drop_eq_nil_of_le (by omega)]; rfl] at hfin
                    have hMk : ((M : Int) == (l.length : Int)) = true := by rw [beq_iff_eq]; omega
                    clear hMl
                    subst hMe
                    go_wp2_with fail
                    refine (hg _).mono ?_
                    rintro e w' ⟨rfl, rfl⟩
                    go_wp2_with fail
                    refine (hqc _).mono ?_
                    rintro e w' ⟨rfl, rfl⟩
                    go_wp2_with fail
                    refine wp_region_can [(true, 0), (true, 1), (true, 2), (true, 3), (true, 4), (true, 5), (true, 6), (true, 7), (true, 8), (true, 9), (true, 10), (true, 11), (false, 12), (true, 13), (true, 14), (false, 15), (true, 16), (true, 17)] (fun u => u.heap[w.heap.size + 1]? = some (.cells #[.string (bs T), .string (bs t), .bool false] 46)) (blk_two w _ _) (by kernel_rfl) (by kernel_rfl) (by kernel_rfl) (fun _ _ d _ _ h => by cases d <;> exact h) ?_
                    refine wpCan_read (.agg #[.string (bs T), .string (bs t), .bool false]) rfl rfl (blk_two w _ _) (fun u hu => by obtain ⟨k0, k1, k2⟩ := three hu; go_simp) ?_
                    repeat (first | refine wpCan_move rfl ?_ | (refine wpCan_cons rfl ?_; intro K hK; go_simp; refine hK _ _ _ ?_; clear hK K))
                    refine wpCan_cons rfl ?_
                    intro K hK
                    go_simp
                    refine can_same (blk_two w _ _) (hK _ _ _ ?_)
                    clear hK K
                    repeat (first | refine wpCan_move rfl ?_ | (refine wpCan_cons rfl ?_; intro K hK; go_simp; refine hK _ _ _ ?_; clear hK K))
                    refine wpCan_nil ?_
                    go_wp2
                    exact bodyPost_ret (v := pairv (⟨T, t, false⟩, l.length, true)) (by rw [results_cell_tmp2 rfl]; go_simp; rfl) rfl ⟨by rw [hfin.out], ext_trans (ext_alloc _ _) (ext_trans (ext_alloc _ _) (ext_drew _))⟩
              · obtain ⟨W, hW⟩ : ∃ W, At.tw At.word (l.drop (k + 1)) = W := ⟨_, rfl⟩
                have hwc := fun w => word_any l (k + 1) w hl (by omega)
                rw [hW, show ((k + 1 : Nat) : Int) = (k : Int) + 1 from by omega] at hwc
                have hWl := At.tw_len At.word (l.drop (k + 1))
                rw [hW, List.length_drop] at hWl
                have hbc := bare_any W
                have hfin : Hid (pairv (At.pair (l.drop a) a) = .tuple #[.agg #[.string (bs T), .string (bs W), .bool false], .int .i64 ((k : Int) + 1 + (W.length : Int)), .bool (At.bare W)]) := Lib.hid (by
                  rw [At.pair_word hne (e2.trans hdr) (fun x hx => hq34 ⟨x, hx⟩), e3, ← e1, hW]
                  simp only [pairv, prv]
                  rw [show ((k + 1 + W.length : Nat) : Int) = (k : Int) + 1 + (W.length : Int) from by omega])
                obtain ⟨Bb, hBb⟩ : ∃ Bb, At.bare W = Bb := ⟨_, rfl⟩
                rw [hBb] at hbc hfin
                have hzW := bs_size W
                have hw1 : IntKind.i64.wrap ((k : Int) + 1) = (k : Int) + 1 := by rw [IntKind.wrap_i64]; omega
                have hw2 : IntKind.i64.wrap ((k : Int) + 1 + (W.length : Int)) = (k : Int) + 1 + (W.length : Int) := by rw [IntKind.wrap_i64]; omega
                have hways : ((k : Int) + 1 = (l.length : Int)) ∨ (k + 1 < l.length ∧ ∃ b2 : UInt8, (∀ w, (Instr.index 9 (.string (bs l)) (.int .i64 ((k : Int) + 1))).run Tryd.prog w = .ok (.int .u8 (b2.toNat : Int)) w) ∧ ((b2.toNat : Int) == 34) = false) := by
                  by_cases h1 : k + 1 < l.length
                  · refine .inr ⟨h1, l[k + 1], fun w => run_byte_at h1 (by omega) w, byte_ne (n := 34) (by omega) (fun h => hq34 ⟨l.drop (k + 2), ?_⟩)⟩
                    rw [List.drop_eq_getElem_cons h1, h]; rfl
                  · exact .inl (by omega)
                clear e1 e2 e3 e4 hdr hne hq34 hW hBb
                rcases hways with hke2 | ⟨h1, b2, hx2, hb34⟩
                case inl =>
                  have hnl : ¬ ((k : Int) + 1 < (l.length : Int)) := by omega
                  clear hke2
                  go_wp2_with fail
                  refine (hg _).mono ?_
                  rintro e w' ⟨rfl, rfl⟩
                  go_wp2_with fail
                  refine (hwc _).mono ?_
                  rintro e w' ⟨rfl, rfl⟩
                  go_wp2_with fail
                  refine wp_region_can [(true, 0), (true, 1), (true, 2), (true, 3), (true, 4), (true, 5), (true, 6), (true, 7), (true, 8), (false, 9), (false, 10), (true, 11), (true, 12)] (fun u => u.heap[w.heap.size + 1]? = some (.cells #[.string (bs T), .string (bs W), .bool false] 46)) (blk_two w _ _) (by kernel_rfl) (by kernel_rfl) (by kernel_rfl) (fun _ _ d _ _ h => by cases d <;> exact h) ?_
                  refine wpCan_read (.agg #[.string (bs T), .string (bs W), .bool false]) rfl rfl (blk_two w _ _) (fun u hu => by obtain ⟨k0, k1, k2⟩ := three hu; go_simp) ?_
                  repeat (first | refine wpCan_move rfl ?_ | (refine wpCan_cons rfl ?_; intro K hK; go_simp; refine hK _ _ _ ?_; clear hK K))
                  refine wpCan_read (.string (bs W)) rfl rfl (blk_two w _ _) (fun u hu => by obtain ⟨k0, k1, k2⟩ := three hu; go_simp) ?_
                  repeat (first | refine wpCan_move rfl ?_ | (refine wpCan_cons rfl ?_; intro K hK; go_simp; refine hK _ _ _ ?_; clear hK K))
                  refine wpCan_read (.string (bs W)) rfl rfl (blk_two w _ _) (fun u hu => by obtain ⟨k0, k1, k2⟩ := three hu; go_simp) ?_
                  refine wpCan_cons rfl ?_
                  intro K hK
                  go_simp
                  refine (hbc _).mono ?_
                  rintro e w5 ⟨rfl, hb5⟩
                  have p5 := (hb5.block (w.heap.size + 1) (by simp)).trans (blk_two w _ _)
                  have f5 := (hb5.block w.heap.size (by simp; omega)).trans (blk_one w _ _)
                  refine can_same p5 (hK _ _ _ ?_)
                  clear hK K
                  obtain ⟨k0, k1, k2⟩ := three f5
                  have k4 := blk_free f5
                  replace f5 := Lib.hid f5
                  replace p5 := Lib.hid p5
                  replace hb5 := Lib.hid (ext_trans (ext_alloc _ _) (ext_trans (ext_alloc _ _) (ext_trans (ext_drew _) hb5)))
                  refine wpCan_cons rfl ?_
                  intro K hK
                  go_simp
                  refine can_same ?_ (hK _ _ _ ?_)
                  · exact (set_three (by omega) _ _ _).trans p5.out
                  clear hK K
                  repeat (first | refine wpCan_move rfl ?_ | (refine wpCan_cons rfl ?_; intro K hK; go_simp; refine hK _ _ _ ?_; clear hK K))
                  refine wpCan_nil ?_
                  go_wp2
                  exact bodyPost_ret (v := .tuple #[.agg #[.string (bs T), .string (bs W), .bool false], .int .i64 ((k : Int) + 1 + (W.length : Int)), .bool Bb]) (by rw [results_cell_tmp2 rfl]; go_simp; try rfl) rfl ⟨by rw [hfin.out], below_three hb5.out (Nat.le_refl _) _ _ _⟩
                case inr =>
                  go_wp2_with fail
                  refine (hg _).mono ?_
                  rintro e w' ⟨rfl, rfl⟩
                  go_wp2_with fail
                  refine (hwc _).mono ?_
                  rintro e w' ⟨rfl, rfl⟩
                  go_wp2_with fail
                  refine wp_region_can [(true, 0), (true, 1), (true, 2), (true, 3), (true, 4), (true, 5), (true, 6), (true, 7), (true, 8), (false, 9), (false, 10), (true, 11), (true, 12)] (fun u => u.heap[w.heap.size + 1]? = some (.cells #[.string (bs T), .string (bs W), .bool false] 46)) (blk_two w _ _) (by kernel_rfl) (by kernel_rfl) (by kernel_rfl) (fun _ _ d _ _ h => by cases d <;> exact h) ?_
                  refine wpCan_read (.agg #[.string (bs T), .string (bs W), .bool false]) rfl rfl (blk_two w _ _) (fun u hu => by obtain ⟨k0, k1, k2⟩ := three hu; go_simp) ?_
                  repeat (first | refine wpCan_move rfl ?_ | (refine wpCan_cons rfl ?_; intro K hK; go_simp; refine hK _ _ _ ?_; clear hK K))
                  refine wpCan_read (.string (bs W)) rfl rfl (blk_two w _ _) (fun u hu => by obtain ⟨k0, k1, k2⟩ := three hu; go_simp) ?_
                  repeat (first | refine wpCan_move rfl ?_ | (refine wpCan_cons rfl ?_; intro K hK; go_simp; refine hK _ _ _ ?_; clear hK K))
                  refine wpCan_read (.string (bs W)) rfl rfl (blk_two w _ _) (fun u hu => by obtain ⟨k0, k1, k2⟩ := three hu; go_simp) ?_
                  refine wpCan_cons rfl ?_
                  intro K hK
                  go_simp
                  refine (hbc _).mono ?_
                  rintro e w5 ⟨rfl, hb5⟩
                  have p5 := (hb5.block (w.heap.size + 1) (by simp)).trans (blk_two w _ _)
                  have f5 := (hb5.block w.heap.size (by simp; omega)).trans (blk_one w _ _)
                  refine can_same p5 (hK _ _ _ ?_)
                  clear hK K
                  obtain ⟨k0, k1, k2⟩ := three f5
                  have k4 := blk_free f5
                  replace f5 := Lib.hid f5
                  replace p5 := Lib.hid p5
                  replace hb5 := Lib.hid (ext_trans (ext_alloc _ _) (ext_trans (ext_alloc _ _) (ext_trans (ext_drew _) hb5)))
                  refine wpCan_cons rfl ?_
                  intro K hK
                  go_simp
                  refine can_same ?_ (hK _ _ _ ?_)
                  · exact (set_three (by omega) _ _ _).trans p5.out
                  clear hK K
                  repeat (first | refine wpCan_move rfl ?_ | (refine wpCan_cons rfl ?_; intro K hK; go_simp; refine hK _ _ _ ?_; clear hK K))
                  refine wpCan_nil ?_
                  go_wp2
                  exact bodyPost_ret (v := .tuple #[.agg #[.string (bs T), .string (bs W), .bool false], .int .i64 ((k : Int) + 1 + (W.length : Int)), .bool Bb]) (by rw [results_cell_tmp2 rfl]; go_simp; try rfl) rfl ⟨by rw [hfin.out], below_three hb5.out (Nat.le_refl _) _ _ _⟩
            · have hfin := Lib.hid (At.pair_bad (a := a) hne (e2.trans hdr) hgp h61)
              have hc1 : ((l[k].toNat : Int) != 61) = true := by have := byte_ne (n := 61) (by omega) h61; simpa using this
              clear e1 e2 e3 e4 hdr hgp hne h61
              rcases g' with g1 | ⟨g1, g2⟩
              all_goals
                go_wp2_with (go_at_call 35; refine (hg _).mono ?_; rintro e w' ⟨rfl, rfl⟩)
                exact bodyPost_ret (v := pairv (⟨[], [], false⟩, 0, false)) (by rw [results_cell_tmp2 rfl]; go_simp; rfl) rfl ⟨by rw [hfin.out], ext_trans (ext_alloc _ _) (ext_alloc _ _)⟩
    · have hlt : ¬ k < l.length := by omega
      obtain ⟨e1, e2, e3, e4⟩ := hks (At.tw_end hlt)
      have hnil : l.drop k = [] := List.drop_eq_nil_of_le (by omega)
      by_cases hka : k = a
      · have hfin := Lib.hid (At.pair_empty (a := a) (e4.1 hka))
        clear e1 e2 e3 e4 hnil hke
        subst hka
        go_wp2_with fail
        exact bodyPost_ret (v := pairv (⟨[], [], false⟩, 0, false)) (by rw [results_cell_tmp2 rfl]; go_simp; rfl) rfl ⟨by rw [hfin.out], ext_trans (ext_alloc _ _) (ext_alloc _ _)⟩
      · have hkb : ((k : Int) == (a : Int)) = false := by rw [beq_eq_false_iff_ne]; omega
        have hne : At.tw At.letter (l.drop a) ≠ [] := fun h => hka (e4.2 h)
        have hfin : Hid (At.pair (l.drop a) a = (⟨T, [], true⟩, k, true)) := Lib.hid (by rw [At.pair_end hne (e2.trans hnil), e3, ← e1])
        have hKe : ((k : Int) == (l.length : Int)) = true := by rw [beq_iff_eq]; omega
        clear e1 e2 e3 e4 hnil hne hke
        go_wp2_with fail
        exact bodyPost_ret (v := pairv (⟨T, [], true⟩, k, true)) (by rw [results_cell_tmp2 rfl]; go_simp; rfl) rfl ⟨by rw [hfin.out], ext_trans (ext_alloc _ _) (ext_alloc _ _)⟩
end Go.Proofs.YtfppfaliepkhgaaDoor
