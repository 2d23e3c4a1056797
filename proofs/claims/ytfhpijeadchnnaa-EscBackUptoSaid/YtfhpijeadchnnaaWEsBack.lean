/- EscBack: what is quoted is plain as it was; what is made fit for a page has none of its signs. -/
import Derived.Test.YtfhpijeadchnnaaEsMade
import Derived.Test.YtfhpijeadchnnaaOpenW
namespace Go.Proofs.Ytfhpijeadchnnaa
open Go.RowKit

theorem runes_enc_runes (l : List UInt8) : Ru.runes (Ru.enc (Ru.runes l)) = Ru.runes l := Ru.runes_enc (Ru.runes_vr l)

set_option maxHeartbeats 8000000 in
set_option maxRecDepth 100000 in
theorem back_any (l : List UInt8) (ws : List Nat) (A : Option Addr) (c : Nat) (w : World) (h : Row w w.heap.size 1 A ws.length (ucells ws)) (hx : ∀ x ∈ ws, x ≤ 65535) (hl : l.length ≤ 10000000) (hk : ws.length ≤ 9223372036854775807) (hT : EsT w) :
    Calls Try.prog 5 #[.string (bs l), .slice A ws.length c] w fun e w' => e = .returned (.bool true) ∧ Below w.heap.size w w' := by
  have hR := Lib.hid h
  replace hT := Lib.hid hT
  replace hx := Lib.hid hx
  clear h
  go_enter Try.func5, Try.ntmps5
  go_wp2_with fail
  go_loop [0, 5] (fun t i => ∃ (k : Nat) (T : List UInt8), k ≤ ws.length ∧ k ≤ 30 ∧ T.length ≤ l.length + 4 * k ∧ i = .int .i64 k ∧ t = .string (bs T)) (fun _ i => ws.length - (intOf i).toNat)
  case atStart => exact ⟨0, l, Nat.zero_le _, Nat.zero_le _, by omega, rfl, rfl⟩
  case round =>
    obtain ⟨k, T, hk1, hk2, hTl, rfl, rfl⟩ := hrel
    by_cases hgo : k < ws.length ∧ k < 30
    · obtain ⟨hg1, hg2⟩ := hgo
      obtain ⟨b, o, rfl, hbb, hc⟩ := word_cell hR.out (by omega)
      have hcell : w.cell? ⟨b, o + k, none⟩ = some (.int .u16 (ws[k] : Int)) := hc k hg1
      have hlk := hx.out ws[k] (List.getElem_mem hg1)
      obtain ⟨x, hxk⟩ : ∃ x, x = ws[k] := ⟨_, rfl⟩
      rw [← hxk] at hcell hlk
      clear hxk hc
      have hcv := runeText (x : Int) w
      have hl4 := (Ru.encodeRune_len (x : Int)).2
      obtain ⟨E, hE⟩ : ∃ E, E = Lib.encodeRune (x : Int) := ⟨_, rfl⟩
      rw [← hE] at hcv hl4
      clear hE
      have ha := bs_append T E
      have hs1 := bs_size T
      have hs2 := bs_size E
      have hs3 : T.length + E.length ≤ 20000000 := by omega
      go_wp2_with fail
      go_round
      case rel => exact ⟨k + 1, T ++ E, by omega, by omega, by rw [List.length_append]; omega, by go_num, rfl⟩
      case measure => simp [intOf]; omega
    · have hstop : ws.length ≤ k ∨ k < ws.length ∧ 30 ≤ k := by omega
      clear hgo
      obtain ⟨S, hS⟩ : ∃ S, S = T := ⟨_, rfl⟩
      rw [← hS] at hTl ⊢
      clear hS
      have hSl : S.length ≤ 20000000 := by omega
      clear hTl
      rcases hstop with hst | ⟨hst, hst2⟩
      all_goals
        go_wp2_with fail
        go_loopw [6, 8] (fun v _ wr => ∃ (pos : Nat) (D : List Nat), Hid (wr.heap[w.heap.size]? = some (.stringIter (bs S) pos)) ∧ Hid (D ++ Ru.runes (S.drop pos) = Ru.runes S) ∧ v = .string (bs (Ru.enc D)) ∧ Below w.heap.size w wr)
          (fun _ _ wr => S.length - wr.iterPos w.heap.size)
        case atStart => exact ⟨0, [], Lib.hid (iter_new _ _ _ rfl), Lib.hid rfl, rfl, ext_alloc _ _⟩
        case round =>
          obtain ⟨pos, D, hit, hD, rfl, hb⟩ := hrel
          have hdl := runes_part hD.out
          have hlt : w.heap.size < wr.heap.size := (Array.getElem?_eq_some_iff.1 hit.out).1
          by_cases hp : pos < S.length
          · obtain ⟨x, n, hn, hv, hd, hD2⟩ := runes_next hp hD.out
            have hnx := run_next_rune hit.out hp hd
            replace hD2 := Lib.hid hD2
            replace hd := Lib.hid hd
            have hit2 := Lib.hid (Lib.iterAt_heap wr w.heap.size (bs S) pos (pos + n) hit.out)
            have hb2 := Lib.below_iterAt hb (k := w.heap.size) (Nat.le_refl _) (bs S) (pos + n)
            have hpos : Hid (wr.iterPos w.heap.size = pos) := Lib.hid (by simp only [World.iterPos, hit.out])
            have hpos2 : Hid ((wr.iterAt w.heap.size (bs S) (pos + n)).iterPos w.heap.size = pos + n) := Lib.hid (by simp only [World.iterPos, hit2.out])
            have hcv := runeText (x : Int) (wr.iterAt w.heap.size (bs S) (pos + n))
            have hl4 := (Ru.encodeRune_len (x : Int)).2
            have hle := (Ru.enc_len D).2
            have hsn := Lib.hid (Ru.enc_snoc D x)
            obtain ⟨E, hE⟩ : ∃ E, E = Lib.encodeRune (x : Int) := ⟨_, rfl⟩
            rw [← hE] at hcv hl4 hsn
            clear hE
            have ha := bs_append (Ru.enc D) E
            rw [← hsn.out] at ha
            have hs1 := bs_size (Ru.enc D)
            have hs2 := bs_size E
            go_wp2_with fail
            go_roundw
            case rel => exact ⟨pos + n, D ++ [x], hit2, hD2, rfl, hb2⟩
            case measure => rw [hpos.out, hpos2.out]; omega
          · have hnx := run_next_done hit.out hp
            have hDe := runes_done hp hD.out
            clear hD
            subst hDe
            have hT1 := Lib.hid (est_ext hT.out hb)
            have hVl := (Ru.enc_len (Ru.runes S)).2
            have hV1 : Hid (Ru.enc (Es.plain (Es.quote (Ru.enc (Ru.runes S)))) = Ru.enc (Ru.runes S)) := Lib.hid (by rw [Es.plain_quote, runes_enc_runes])
            have hV2 : Hid (Ru.enc (Es.plain (Es.quote S)) = Ru.enc (Ru.runes S)) := Lib.hid (by rw [Es.plain_quote])
            obtain ⟨V, hV⟩ : ∃ V, V = Ru.enc (Ru.runes S) := ⟨_, rfl⟩
            rw [← hV] at hV1 hV2 hVl
            rw [← hV]
            clear hV
            have hVs : V.length ≤ 80000000 := by omega
            replace hb := Lib.hid hb
            go_wp2_with fail
            refine (ppage_any S _ (by omega) hT1.out).mono ?_
            rintro e w1 ⟨rfl, hb1⟩
            have hT2 := Lib.hid (est_ext hT1.out hb1)
            replace hb1 := Lib.hid (ext_trans hb.out hb1)
            have hPl := Es.page_len S
            have hPn := Lib.hid (Es.page_not S)
            obtain ⟨P, hP⟩ : ∃ P, P = Es.page S := ⟨_, rfl⟩
            rw [← hP] at hPl hPn ⊢
            clear hP
            have hPs := bs_size P
            have hSs := bs_size S
            have hP63 : P.length ≤ 2000000000 := by omega
            go_wp2_with fail
            go_loop [10] (fun i => ∃ j : Nat, j ≤ P.length ∧ i = .int .i64 j) (fun i => P.length - (intOf i).toNat)
            case atStart => exact ⟨0, Nat.zero_le _, rfl⟩
            case round =>
              obtain ⟨j, hj, rfl⟩ := hrel
              rcases Nat.lt_or_eq_of_le hj with hlt2 | rfl
              · have hix := run_byte hlt2 w1
                obtain ⟨n1, n2, n3⟩ := hPn.out P[j] (List.getElem_mem hlt2)
                have f1 : ((P[j].toNat : Int) == 60) = false := byte_ne (n := 60) (by omega) n1
                have f2 : ((P[j].toNat : Int) == 62) = false := byte_ne (n := 62) (by omega) n2
                have f3 : ((P[j].toNat : Int) == 34) = false := byte_ne (n := 34) (by omega) n3
                clear n1 n2 n3
                go_wp2_with fail
                go_round
                case rel => exact ⟨j + 1, by omega, by go_num⟩
                case measure => simp [intOf]; omega
              · have hq1 := Es.quote_len V
                have hq2 := Es.quote_len S
                go_wp2_with fail
                refine (pquote_any V _ (by omega) hT2.out).mono ?_
                rintro e w2 ⟨rfl, hb2⟩
                have hT3 := Lib.hid (est_ext hT2.out hb2)
                replace hb2 := Lib.hid (ext_trans hb1.out hb2)
                go_wp2_with fail
                refine (pplain_any (Es.quote V) _ (by omega) hT3.out).mono ?_
                rintro e w3 ⟨rfl, hb3⟩
                have hT4 := Lib.hid (est_ext hT3.out hb3)
                replace hb3 := Lib.hid (ext_trans hb2.out hb3)
                rw [hV1.out]
                go_wp2_with fail
                refine (pquote_any S _ (by omega) hT4.out).mono ?_
                rintro e w4 ⟨rfl, hb4⟩
                have hT5 := Lib.hid (est_ext hT4.out hb4)
                replace hb4 := Lib.hid (ext_trans hb3.out hb4)
                go_wp2_with fail
                refine (pplain_any (Es.quote S) _ (by omega) hT5.out).mono ?_
                rintro e w5 ⟨rfl, hb5⟩
                have hT6 := Lib.hid (est_ext hT5.out hb5)
                replace hb5 := Lib.hid (ext_trans hb4.out hb5)
                rw [hV2.out]
                go_wp2_with fail
                refine (known_any _ hT6.out).mono ?_
                rintro e w6 ⟨rfl, hb6⟩
                replace hb6 := Lib.hid (ext_trans hb5.out hb6)
                go_wp2
                go_ret
                exact ⟨rfl, hb6.out⟩

theorem back_small (l : List UInt8) (ws : List Nat) (A : Option Addr) (c : Nat) (w : World) (h : Row w w.heap.size 1 A ws.length (ucells ws)) (_hc : ws.length ≤ c) (hx : ∀ x ∈ ws, x ≤ 65535) (hk : l.length + ws.length ≤ 1048576) :
    Calls Try.prog 5 #[.string (bs l), .slice A ws.length c] w fun e w' => e = .returned (.bool true) ∧ Below w.heap.size w w' :=
  back_any l ws A c w h hx (by omega) (by omega) trivial
end Go.Proofs.Ytfhpijeadchnnaa
