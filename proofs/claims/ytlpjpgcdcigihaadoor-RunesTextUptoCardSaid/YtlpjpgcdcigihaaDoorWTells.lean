/- RunesTells: runes are judged, texts are read and folded as the document says, for any. -/
import Derived.Test.YtlpjpgcdcigihaaDoorRnKnown
import Derived.Test.YtlpjpgcdcigihaaDoorOpenW
namespace Go.Proofs.YtlpjpgcdcigihaaDoor
open Go.RowKit

/-- a rune made a text -/
theorem run_rune (r : Int) (w : World) : (convert 21 9 (.int .i32 r)).run Tryd.prog w = .ok (.string (bs (Lib.encodeRune r))) w := by
  rw [run_convert_int_string w 21 9 .i32 r (by kernel_rfl) Tryd.underlying9, Ru.encode_eq]
  rfl

set_option maxHeartbeats 4000000 in
set_option maxRecDepth 100000 in
theorem tells_law (r : Int) (l : List UInt8) (ws : List Nat) (A : Option Addr) (c : Nat) (w : World) (_hr : -2147483648 ≤ r ∧ r ≤ 2147483647) (h1 : Row w w.heap.size 1 A ws.length (ucells ws)) (_hc : ws.length ≤ c) (hx : ∀ x ∈ ws, x ≤ 65535) (hT : Tabs w) (hk : l.length + ws.length ≤ 1048576) :
    Calls Tryd.prog 4 #[.int .i32 r, .string (bs l), .slice A ws.length c] w fun e w' => e = .returned (.bool true) ∧ Below w.heap.size w w' := by
  have hR := Lib.hid h1
  replace hT := Lib.hid hT
  replace hx := Lib.hid hx
  clear h1
  go_enter Tryd.func4, Tryd.ntmps4
  go_wp2_with fail
  go_loop [7, 8] (fun t i => ∃ (k : Nat) (T : List UInt8), k ≤ ws.length ∧ k ≤ 40 ∧ T.length ≤ 4 * k ∧ i = .int .i64 k ∧ t = .string (bs T))
    (fun _ i => ws.length - (intOf i).toNat)
  case atStart => exact ⟨0, [], Nat.zero_le _, Nat.zero_le _, Nat.zero_le _, rfl, rfl⟩
  case round =>
    obtain ⟨k, T, hk1, hk2, hTl, rfl, rfl⟩ := hrel
    by_cases hgo : k < ws.length ∧ k < 40
    · obtain ⟨hg1, hg2⟩ := hgo
      obtain ⟨b, o, rfl, hbb, hc⟩ := word_cell hR.out (by omega)
      have hcell : w.cell? ⟨b, o + k, none⟩ = some (.int .u16 (ws[k] : Int)) := hc k hg1
      have hlk := hx.out ws[k] (List.getElem_mem hg1)
      obtain ⟨x, hxk⟩ : ∃ x, x = ws[k] := ⟨_, rfl⟩
      rw [← hxk] at hcell hlk
      clear hxk hc
      have hcv := run_rune (x : Int) w
      have hl4 := (Ru.encodeRune_len (x : Int)).2
      obtain ⟨E, hE⟩ : ∃ E, E = Lib.encodeRune (x : Int) := ⟨_, rfl⟩
      rw [← hE] at hcv hl4
      clear hE
      have ha := bs_append T E
      have hs1 := bs_size T
      have hs2 := bs_size E
      have hs3 : T.length + E.length ≤ 1000 := by omega
      go_wp2_with fail
      go_round
      case rel => exact ⟨k + 1, T ++ E, by omega, by omega, by rw [List.length_append]; omega, by go_num, rfl⟩
      case measure => simp [intOf]; omega
    · have hstop : ws.length ≤ k ∨ k < ws.length ∧ 40 ≤ k := by omega
      clear hgo
      have ha := bs_append l T
      have hz1 : (bs l).size + (bs T).size ≤ 9223372036854775807 := by rw [bs_size, bs_size]; omega
      have h1 : l.length ≤ 1000000000 := by omega
      have h2 : T.length ≤ 1000000000 := by omega
      have h3 : (l ++ T).length ≤ 1000000000 := by rw [List.length_append]; omega
      rcases hstop with hst | ⟨hst, hst2⟩
      all_goals
        go_wp2_with (go_at_call 8; refine (kinds_any _ _).mono ?_; rintro e w' ⟨rfl, rfl⟩)
        refine (same_any l _ h1 hT.out).mono ?_
        rintro e w1 ⟨rfl, hb1⟩
        have hT1 := Lib.hid (tabs_ext hT.out hb1)
        replace hb1 := Lib.hid hb1
        go_wp2_with fail
        refine (same_any T _ h2 hT1.out).mono ?_
        rintro e w2 ⟨rfl, hb2⟩
        have hT2 := Lib.hid (tabs_ext hT1.out hb2)
        have hb2' := Lib.hid (ext_trans hb1.out hb2)
        clear hb2
        go_wp2_with fail
        refine (same_any (l ++ T) _ h3 hT2.out).mono ?_
        rintro e w3 ⟨rfl, hb3⟩
        have hT3 := Lib.hid (tabs_ext hT2.out hb3)
        have hb3' := Lib.hid (ext_trans hb2'.out hb3)
        clear hb3
        go_wp2_with fail
        refine (known_any _ hT3.out).mono ?_
        rintro e w4 ⟨rfl, hb4⟩
        go_wp2
        go_ret
        exact ⟨rfl, ext_trans hb3'.out hb4⟩
end Go.Proofs.YtlpjpgcdcigihaaDoor
