/- RunesText: what is read is read once and for all; valid texts without nought stay as they are. -/
import Derived.Test.YtlpjpgcdcigihaaDoorWFold
import Derived.Test.YtlpjpgcdcigihaaDoorCanon
namespace Go.Proofs.YtlpjpgcdcigihaaDoor
open Go.RowKit
attribute [local go_sem] canOp readsAs readUpon

/-- a word made a rune: what is no rune goes in as U+FFFD -/
theorem rune_fix (x : Nat) (h : x ≤ 65535) (h0 : 0 < x) : ∃ y : Nat, Ru.vr y ∧ y ≠ 0 ∧ Lib.encodeRune (x : Int) = Ru.enc [y] := by
  by_cases hs : 55296 ≤ x ∧ x ≤ 57343
  · refine ⟨65533, by unfold Ru.vr; omega, by omega, ?_⟩
    have h1 : Lib.encodeRune (x : Int) = [239, 191, 189] := by unfold Lib.encodeRune; rw [Lib.encodeRuneZ_bad (by omega)]; rfl
    rw [h1]; decide +kernel
  · refine ⟨x, by unfold Ru.vr; omega, by omega, ?_⟩
    simp [Ru.enc]

theorem run_byte {S : List UInt8} {i : Nat} (h : i < S.length) (w : World) :
    (Instr.index 9 (.string (bs S)) (.int .i64 (i : Int))).run Tryd.prog w = .ok (.int .u8 (S[i].toNat : Int)) w := by
  have hs := bs_size S
  rw [run_index_string w 9 (bs S) .i64 (i : Int) Tryd.underlying9, dif_pos ⟨by omega, by omega⟩]
  rfl

theorem text_n (l : List UInt8) (A : Option Addr) (n c : Nat) (hn : n = l.length) (w : World) (hR : Row w w.heap.size 1 A n (bcells l)) (hs : l.length ≤ 1000000000) :
    Calls Tryd.prog 16 #[.slice A n c] w fun e w' => e = .returned (.string (bs (Ru.text l))) ∧ Below w.heap.size w w' := by
  subst hn; exact text_any l A c w hR hs

set_option maxHeartbeats 8000000 in
set_option maxRecDepth 100000 in
theorem text_law (l : List UInt8) (A : Option Addr) (c : Nat) (ws : List Nat) (A1 : Option Addr) (c1 : Nat) (w : World) (h0 : Row w w.heap.size 1 A l.length (bcells l)) (_hc : l.length ≤ c) (h1 : Row w w.heap.size 1 A1 ws.length (ucells ws)) (_hc1 : ws.length ≤ c1) (hx : ∀ x ∈ ws, x ≤ 65535) (hT : Tabs w) (hk : l.length + ws.length ≤ 1048576) :
    Calls Tryd.prog 7 #[.slice A l.length c, .slice A1 ws.length c1] w fun e w' => e = .returned (.bool true) ∧ Below w.heap.size w w' := by
  have hR0 := Lib.hid h0
  have hR := Lib.hid h1
  replace hT := Lib.hid hT
  replace hx := Lib.hid hx
  clear h1 h0
  go_enter Tryd.func7, Tryd.ntmps7
  go_wp2_with fail
  refine (text_any l A c w hR0.out (by omega)).mono ?_
  rintro e w1 ⟨rfl, hb1⟩
  have hT1 := Lib.hid (tabs_ext hT.out hb1)
  have hR0' := Lib.hid (hR0.out.ext hb1)
  have hR1 := Lib.hid (hR.out.ext hb1)
  replace hb1 := Lib.hid hb1
  obtain ⟨S, hS⟩ : ∃ S, S = Ru.text l := ⟨_, rfl⟩
  have hSl : S.length ≤ 5000000 := by rw [hS]; have := Ru.text_len l; omega
  rw [← hS]
  replace hS := Lib.hid hS
  clear hR hT
  go_wp2_with fail
  go_loop [6, 7] (fun t i => ∃ (k : Nat) (V : List Nat), k ≤ ws.length ∧ k ≤ 30 ∧ V.length ≤ k ∧ Hid (∀ x ∈ V, Ru.vr x ∧ x ≠ 0) ∧ i = .int .i64 k ∧ t = .string (bs (Ru.enc V)))
    (fun _ i => ws.length - (intOf i).toNat)
  case atStart => exact ⟨0, [], Nat.zero_le _, Nat.zero_le _, Nat.zero_le _, Lib.hid (by simp), rfl, rfl⟩
  case round =>
    obtain ⟨k, V, hk1, hk2, hVl, hV, rfl, rfl⟩ := hrel
    have hVe := (Ru.enc_len V).2
    by_cases hgo : k < ws.length ∧ k < 30
    · obtain ⟨hg1, hg2⟩ := hgo
      obtain ⟨b, o, rfl, hbb, hc⟩ := word_cell hR1.out (by omega)
      have hcell : w1.cell? ⟨b, o + k, none⟩ = some (.int .u16 (ws[k] : Int)) := hc k hg1
      have hlk := hx.out ws[k] (List.getElem_mem hg1)
      obtain ⟨x, hxk⟩ : ∃ x, x = ws[k] := ⟨_, rfl⟩
      rw [← hxk] at hcell hlk
      clear hxk hc
      rcases Nat.eq_zero_or_pos x with hx0 | hx0
      · subst hx0
        go_wp2_with fail
        go_round
        case rel => exact ⟨k + 1, V, by omega, by omega, by omega, hV, by go_num, rfl⟩
        case measure => simp [intOf]; omega
      · obtain ⟨y, hy1, hy2, hy3⟩ := rune_fix x hlk hx0
        have hcv := run_rune (x : Int) w1
        have hl4 := (Ru.encodeRune_len (x : Int)).2
        rw [hy3] at hcv hl4
        have ha := bs_append (Ru.enc V) (Ru.enc [y])
        rw [← Ru.enc_append] at ha
        have hs1 := bs_size (Ru.enc V)
        have hs2 := bs_size (Ru.enc [y])
        have hs3 : (Ru.enc V).length + (Ru.enc [y]).length ≤ 2000000 := by omega
        have hV2 : Hid (∀ x ∈ V ++ [y], Ru.vr x ∧ x ≠ 0) := Lib.hid (by
          intro z hz
          rcases List.mem_append.1 hz with h | h
          · exact hV.out z h
          · obtain rfl : z = y := by simpa using h
            exact ⟨hy1, hy2⟩)
        replace hy3 := Lib.hid hy3
        go_wp2_with fail
        go_round
        case rel => exact ⟨k + 1, V ++ [y], by omega, by omega, by simp; omega, hV2, by go_num, rfl⟩
        case measure => simp [intOf]; omega
    · have hstop : ws.length ≤ k ∨ k < ws.length ∧ 30 ≤ k := by omega
      clear hgo
      have hss := bs_size S
      have hSn : Hid (∀ b ∈ S, b ≠ 0) := Lib.hid (by rw [hS.out]; exact Ru.enc_ne (Ru.textR_vr l) (Ru.textR_ne l))
      have hEV : (Ru.enc V).length ≤ 1000 := by omega
      rcases hstop with hst | ⟨hst, hst2⟩
      all_goals
        go_wp2_with fail
        go_loop [8] (fun i => ∃ j : Nat, j ≤ S.length ∧ i = .int .i64 j) (fun i => S.length - (intOf i).toNat)
        case atStart => exact ⟨0, Nat.zero_le _, rfl⟩
        case round =>
          obtain ⟨j, hj, rfl⟩ := hrel
          rcases Nat.lt_or_eq_of_le hj with hlt | rfl
          · have hix := run_byte hlt w1
            have hne : ((S[j].toNat : Int) == 0) = false := by
              have := hSn.out S[j] (List.getElem_mem hlt)
              simp only [beq_eq_false_iff_ne, ne_eq]
              intro h
              exact this (UInt8.toNat_inj.1 (by simpa using h))
            go_wp2_with fail
            go_round
            case rel => exact ⟨j + 1, by omega, by go_num⟩
            case measure => simp [intOf]; omega
          · have hcS := run_bytes S
            have hcV := run_bytes (Ru.enc V)
            have hTS : Ru.text S = S := by rw [hS.out, Ru.text_text]
            have hTV : Ru.text (Ru.enc V) = Ru.enc V := Ru.text_enc (fun x hx => (hV.out x hx).1) (fun x hx => (hV.out x hx).2)
            have hRS : (Ru.runes S).length = (Ru.runes l).length := by rw [hS.out, Ru.runes_text, Ru.textR_len]
            replace hTS := Lib.hid hTS
            replace hTV := Lib.hid hTV
            replace hRS := Lib.hid hRS
            replace hcS := Lib.hid hcS
            replace hcV := Lib.hid hcV
            go_wp2_with fail
            refine wp_region_can [(true, 0), (true, 3), (false, 1), (false, 2), (true, 4), (true, 5), (true, 6), (true, 9), (false, 7), (false, 8), (true, 10), (true, 11), (true, 12), (true, 13), (true, 15), (true, 16), (false, 14), (false, 17), (true, 18), (true, 19), (true, 20), (false, 21), (true, 22), (true, 23)] (Ext _) (Ext.refl _) (by kernel_rfl) (by kernel_rfl) (by kernel_rfl) (fun _ _ d _ _ h => by cases d <;> exact h) ?_
            repeat (first | refine wpCan_move rfl ?_ | (refine wpCan_cons rfl ?_; intro K hK; go_simp; refine hK _ _ _ ?_; clear hK K))
            refine wpCan_cons rfl ?_
            intro K hK
            have hcS' := hcS.out w1.drew
            go_simp
            have hb2 := Lib.hid (show Below w1.heap.size w1 (Lib.bytesWorld w1.drew 5 (bs S)) from ext_trans (ext_drew w1) (below_bytes w1.drew (bs S)))
            refine can_ext (below_bytes _ _) (hK _ _ _ ?_)
            clear hK K hcS'
            repeat (first | refine wpCan_move rfl ?_ | (refine wpCan_cons rfl ?_; intro K hK; go_simp; refine hK _ _ _ ?_; clear hK K))
            refine wpCan_cons rfl ?_
            intro K hK
            go_simp
            refine (text_n S _ _ _ rfl _ (row_bytes w1.drew S) (by omega)).mono ?_
            rintro e w2 ⟨rfl, hb3⟩
            have hb2' := Lib.hid (ext_trans hb2.out hb3)
            rw [hTS.out]
            refine can_ext hb3 (hK _ _ _ ?_)
            clear hK K hb3 hb2
            repeat (first | refine wpCan_move rfl ?_ | (refine wpCan_cons rfl ?_; intro K hK; go_simp; refine hK _ _ _ ?_; clear hK K))
            refine wpCan_cons rfl ?_
            intro K hK
            have hcV' := hcV.out w2
            go_simp
            have hb4 := Lib.hid (ext_trans hb2'.out (below_bytes w2 (bs (Ru.enc V))))
            refine can_ext (below_bytes _ _) (hK _ _ _ ?_)
            clear hK K hcV'
            repeat (first | refine wpCan_move rfl ?_ | (refine wpCan_cons rfl ?_; intro K hK; go_simp; refine hK _ _ _ ?_; clear hK K))
            refine wpCan_cons rfl ?_
            intro K hK
            go_simp
            refine (text_n (Ru.enc V) _ _ _ rfl _ (row_bytes w2 _) (by omega)).mono ?_
            rintro e w3 ⟨rfl, hb5⟩
            have hb4' := Lib.hid (ext_trans hb4.out hb5)
            rw [hTV.out]
            refine can_ext hb5 (hK _ _ _ ?_)
            clear hK K hb5 hb4
            repeat (first | refine wpCan_move rfl ?_ | (refine wpCan_cons rfl ?_; intro K hK; go_simp; refine hK _ _ _ ?_; clear hK K))
            have hR3 := hR0'.out.ext hb4'.out
            have hcv3 : ∀ w', Ext w3 w' → _ := fun w' hw' => run_text (c := c) (hR3.ext hw') 23 5 9 Tryd.underlying23 Tryd.underlying5 Tryd.underlying9
            have hcv3' := hcv3 w3 (Ext.refl w3)
            have hcvh := Lib.hid hcv3
            clear hcv3 hR3
            refine wpCan_cons rfl ?_
            intro K hK
            go_simp
            refine ⟨fun w' hw' => by rw [hcvh.out w' hw']; exact ⟨rfl, rfl⟩, hK _ _ _ ?_⟩
            clear hK K hcv3' hcvh
            repeat (first | refine wpCan_move rfl ?_ | (refine wpCan_cons rfl ?_; intro K hK; go_simp; refine hK _ _ _ ?_; clear hK K))
            refine wpCan_cons rfl ?_
            intro K hK
            go_simp
            refine (count_any S _ (by omega)).mono ?_
            rintro e w4 ⟨rfl, hb6⟩
            have hb6' := Lib.hid (ext_trans hb4'.out hb6)
            rw [hRS.out]
            refine can_ext hb6 (hK _ _ _ ?_)
            clear hK K hb6
            repeat (first | refine wpCan_move rfl ?_ | (refine wpCan_cons rfl ?_; intro K hK; go_simp; refine hK _ _ _ ?_; clear hK K))
            refine wpCan_cons rfl ?_
            intro K hK
            go_simp
            refine (count_any l _ (by omega)).mono ?_
            rintro e w5 ⟨rfl, hb7⟩
            have hb7' := Lib.hid (ext_trans hb6'.out hb7)
            have hT5 := Lib.hid (tabs_ext hT1.out hb7'.out)
            refine can_ext hb7 (hK _ _ _ ?_)
            clear hK K hb7
            repeat (first | refine wpCan_move rfl ?_ | (refine wpCan_cons rfl ?_; intro K hK; go_simp; refine hK _ _ _ ?_; clear hK K))
            refine wpCan_cons rfl ?_
            intro K hK
            go_simp
            refine (known_any _ hT5.out).mono ?_
            rintro e w6 ⟨rfl, hb8⟩
            have hb8' := Lib.hid (ext_trans hb7'.out hb8)
            refine can_ext hb8 (hK _ _ _ ?_)
            clear hK K hb8
            repeat (first | refine wpCan_move rfl ?_ | (refine wpCan_cons rfl ?_; intro K hK; go_simp; refine hK _ _ _ ?_; clear hK K))
            refine wpCan_nil ?_
            go_wp2
            go_returns
            exact ⟨rfl, ext_trans hb1.out hb8'.out⟩
end Go.Proofs.YtlpjpgcdcigihaaDoor
