/- LinkDest: any text whose signs are escaped is a destination, if it has no blank; and comes back. -/
import Derived.Test.YtjkmhcolnidflaaLkSame
import Derived.Test.YtjkmhcolnidflaaLkThere
import Derived.Test.YtjkmhcolnidflaaOpenW
namespace Go.Proofs.Ytjkmhcolnidflaa
open Go.RowKit

theorem lk_run_rune (r : Int) (w : World) : (convert 21 9 (.int .i32 r)).run Try.prog w = .ok (.string (bs (Lib.encodeRune r))) w := by
  rw [run_convert_int_string w 21 9 .i32 r (by kernel_rfl) Try.underlying9, Ru.encode_eq]
  rfl
/-- a word made a rune: what is no rune goes in as U+FFFD -/
theorem lk_rune_fix (x : Nat) (h : x ≤ 65535) (hb : blankB (x : Int) = false) : ∃ y : Nat, Ru.vr y ∧ blankB (y : Int) = false ∧ Lib.encodeRune (x : Int) = Ru.enc [y] := by
  by_cases hs : 55296 ≤ x ∧ x ≤ 57343
  · refine ⟨65533, by unfold Ru.vr; omega, by decide, ?_⟩
    have h1 : Lib.encodeRune (x : Int) = [239, 191, 189] := by unfold Lib.encodeRune; rw [Lib.encodeRuneZ_bad (by omega)]; rfl
    rw [h1]; decide +kernel
  · exact ⟨x, by unfold Ru.vr; omega, hb, by simp [Ru.enc]⟩

set_option maxHeartbeats 1000000 in
set_option maxRecDepth 100000 in
theorem lkdest_any (ws : List Nat) (A : Option Addr) (c : Nat) (w : World) (h : Row w w.heap.size 1 A ws.length (ucells ws)) (hl : ws.length ≤ 9223372036854775807) (hx : ∀ x ∈ ws, x ≤ 65535) :
    Calls Try.prog 6 #[.slice A ws.length c] w fun e w' => e = .returned (.bool true) ∧ Below w.heap.size w w' := by
  have hR := Lib.hid h
  replace hx := Lib.hid hx
  clear h
  go_enter Try.func6, Try.ntmps6
  go_wp2_with fail
  go_loop [3, 4] (fun t i => ∃ (k : Nat) (V : List Nat), k ≤ ws.length ∧ k ≤ 20 ∧ V.length ≤ k ∧ Hid (∀ x ∈ V, Ru.vr x ∧ blankB (x : Int) = false) ∧ i = .int .i64 k ∧ t = .string (bs (Ru.enc V))) (fun _ i => ws.length - (intOf i).toNat)
  case atStart => exact ⟨0, [], Nat.zero_le _, Nat.zero_le _, Nat.zero_le _, Lib.hid (by simp), rfl, rfl⟩
  case round =>
    obtain ⟨k, V, hk1, hk2, hVl, hV, rfl, rfl⟩ := hrel
    have hVe := (Ru.enc_len V).2
    by_cases hgo : k < ws.length ∧ k < 20
    · obtain ⟨hg1, hg2⟩ := hgo
      obtain ⟨b, o, rfl, hbb, hc⟩ := word_cell hR.out (by omega)
      have hcell : w.cell? ⟨b, o + k, none⟩ = some (.int .u16 (ws[k] : Int)) := hc k hg1
      have hlk := hx.out ws[k] (List.getElem_mem hg1)
      obtain ⟨x, hxk⟩ : ∃ x, x = ws[k] := ⟨_, rfl⟩
      rw [← hxk] at hcell hlk
      clear hxk hc
      have qb := fun w => rblank_any (x : Int) w
      cases hbl : blankB (x : Int) with
      | true =>
        rw [hbl] at qb
        clear hbl
        go_wp2_with fail
        refine (qb _).mono ?_
        rintro e w2 ⟨rfl, rfl⟩
        go_wp2_with fail
        go_round
        case rel => exact ⟨k + 1, V, by omega, by omega, by omega, hV, by go_num, rfl⟩
        case measure => simp [intOf]; omega
      | false =>
        rw [hbl] at qb
        by_cases hfd : x = 65533
        · have t1 : (((x : Nat) : Int) == 65533) = true := by simp [hfd]
          have t2 : (((x : Nat) : Int) != 65533) = false := by simp [hfd]
          clear hbl hfd
          go_wp2_with fail
          refine (qb _).mono ?_
          rintro e w2 ⟨rfl, rfl⟩
          go_wp2_with fail
          go_round
          case rel => exact ⟨k + 1, V, by omega, by omega, by omega, hV, by go_num, rfl⟩
          case measure => simp [intOf]; omega
        · have t1 : (((x : Nat) : Int) == 65533) = false := by simp; omega
          have t2 : (((x : Nat) : Int) != 65533) = true := by simp; omega
          obtain ⟨y, hy1, hy2, hy3⟩ := lk_rune_fix x hlk hbl
          have hcv := fun w => lk_run_rune (x : Int) w
          have hl4 := (Ru.encodeRune_len (x : Int)).2
          rw [hy3] at hcv hl4
          have ha := bs_append (Ru.enc V) (Ru.enc [y])
          rw [← Ru.enc_append] at ha
          have hs1 := bs_size (Ru.enc V)
          have hs2 := bs_size (Ru.enc [y])
          have hV2 : Hid (∀ x ∈ V ++ [y], Ru.vr x ∧ blankB (x : Int) = false) := Lib.hid (by
            intro z hz
            rcases List.mem_append.1 hz with h | h
            · exact hV.out z h
            · obtain rfl : z = y := by simpa using h
              exact ⟨hy1, hy2⟩)
          replace hy3 := Lib.hid hy3
          clear hbl hfd hy2
          go_wp2_with fail
          refine (qb _).mono ?_
          rintro e w2 ⟨rfl, rfl⟩
          go_wp2_with fail
          go_round
          case rel => exact ⟨k + 1, V ++ [y], by omega, by omega, by simp; omega, hV2, by go_num, rfl⟩
          case measure => simp [intOf]; omega
    · have hstop : ws.length ≤ k ∨ k < ws.length ∧ 20 ≤ k := by omega
      clear hgo
      have hVr : ∀ x ∈ V, Ru.vr x := fun x hx => (hV.out x hx).1
      have hrun := Ru.runes_enc hVr
      have hdq := Lib.hid (Lk.dest_quote hV.out [120])
      have hVe2 := Ru.enc_len V
      obtain ⟨T, hT⟩ : ∃ T, T = Ru.enc V := ⟨_, rfl⟩
      rw [← hT] at hrun hdq hVe hVe2 ⊢
      have hTl : T.length ≤ 80 := by omega
      have hTs := bs_size T
      have hlV : Hid (∀ D : List Nat, (∃ pos : Nat, D ++ Ru.runes (T.drop pos) = Ru.runes T) → D.length ≤ 20 ∧ (Ru.enc D).length ≤ 80 ∧ (Lk.quoteV D).length ≤ 100) := Lib.hid (fun D hD => by
        obtain ⟨pos, hD⟩ := hD
        have h1 := congrArg List.length hD
        rw [hrun, List.length_append] at h1
        have h2 := (Ru.enc_len D).2
        have h3 := Lk.quoteV_len D
        omega)
      have hfin1 : Hid (∀ (D : List Nat) (pos : Nat), D ++ Ru.runes (T.drop pos) = Ru.runes T → ¬ pos < T.length → D = V) := Lib.hid (fun D pos hD hp => by rw [← hrun]; exact runes_done hp hD)
      replace hrun := Lib.hid hrun
      replace hT := Lib.hid hT
      replace hVr := Lib.hid hVr
      have hgo2 : Hid (ws.length ≤ k ∨ k < ws.length ∧ 20 ≤ k) := Lib.hid hstop
      rcases hstop with hst | ⟨hst, hst2⟩
      all_goals
        go_wp2_with fail
        go_loopw [6] (fun q wr => ∃ (pos : Nat) (D : List Nat), Hid (wr.heap[w.heap.size]? = some (.stringIter (bs T) pos)) ∧ Below w.heap.size w wr ∧ Hid (D ++ Ru.runes (T.drop pos) = Ru.runes T) ∧ q = .string (bs (40 :: Lk.quoteV D)))
          (fun _ wr => T.length - wr.iterPos w.heap.size)
        case atStart => exact ⟨0, [], Lib.hid (iter_new _ _ _ rfl), ext_alloc _ _, Lib.hid rfl, rfl⟩
        case round =>
          obtain ⟨pos, D, hit, hb, hD, rfl⟩ := hrel
          obtain ⟨d1, d2, d3⟩ := hlV.out D ⟨pos, hD.out⟩
          have hqs := bs_size (40 :: Lk.quoteV D)
          simp only [List.length_cons] at hqs
          by_cases hp : pos < T.length
          · obtain ⟨x, n, hn, hvx, hdc, hD2⟩ := runes_next hp hD.out
            have hnx := run_next_rune hit.out hp hdc
            have hle : pos + n ≤ T.length := by
              obtain ⟨_, n', _, hle, hdc', _⟩ := rune_at (l := T) (pos := pos) hp
              rw [hdc] at hdc'
              injection hdc' with _ hnn
              omega
            have hit2 := Lib.hid (Lib.iterAt_heap wr w.heap.size (bs T) pos (pos + n) hit.out)
            have hb2 := Lib.below_iterAt hb (k := w.heap.size) (Nat.le_refl _) (bs T) (pos + n)
            have hpos := Lib.hid (show wr.iterPos w.heap.size = pos by simp only [World.iterPos, hit.out])
            have hpos2 := Lib.hid (show (wr.iterAt w.heap.size (bs T) (pos + n)).iterPos w.heap.size = pos + n by simp only [World.iterPos, hit2.out])
            have hcv := fun w => lk_run_rune (x : Int) w
            have hl4 := (Ru.encodeRune_len (x : Int)).2
            have qa := fun w => rascii_any (x : Int) w
            have hqq := Lk.quoteV_snoc D x
            have hz4 := bs_size (Lib.encodeRune (x : Int))
            unfold Lk.quoteR at hqq
            replace hdc := Lib.hid hdc
            cases has : asciiB (x : Int) with
            | true =>
              rw [has] at qa hqq
              rw [if_pos rfl] at hqq
              have c1 : bs (40 :: Lk.quoteV D) ++ (⟨#[92]⟩ : ByteArray) = bs (40 :: Lk.quoteV D ++ [92]) := bs_append _ [92]
              have c2 : bs (40 :: Lk.quoteV D ++ [92]) ++ bs (Lib.encodeRune (x : Int)) = bs (40 :: Lk.quoteV (D ++ [x])) := by rw [bs_append, hqq]; simp
              obtain ⟨Q, hQ⟩ : ∃ Q, Q = 40 :: Lk.quoteV D := ⟨_, rfl⟩
              rw [← hQ] at c1 c2 hqs ⊢
              obtain ⟨Q1, hQ1⟩ : ∃ Q1, Q1 = Q ++ [92] := ⟨_, rfl⟩
              have hq1 := bs_size Q1
              have hq1l : Q1.length = Q.length + 1 := by rw [hQ1]; simp
              have hqs2 := bs_size Q
              rw [← hQ1] at c1 c2
              clear hqq hQ hQ1 has
              replace c2 := Lib.hid c2
              go_wp2_with fail
              refine (qa _).mono ?_
              rintro e w3 ⟨rfl, rfl⟩
              go_wp2_with fail
              go_roundw
              case rel => exact ⟨pos + n, D ++ [x], hit2, hb2, Lib.hid hD2, by rw [c2.out]⟩
              case measure => rw [hpos.out, hpos2.out]; omega
            | false =>
              rw [has] at qa hqq
              rw [if_neg (by decide), List.nil_append] at hqq
              have c2 : bs (40 :: Lk.quoteV D) ++ bs (Lib.encodeRune (x : Int)) = bs (40 :: Lk.quoteV (D ++ [x])) := by rw [bs_append, hqq]; simp
              obtain ⟨Q, hQ⟩ : ∃ Q, Q = 40 :: Lk.quoteV D := ⟨_, rfl⟩
              rw [← hQ] at c2 hqs ⊢
              have hqs2 := bs_size Q
              clear hqq hQ has
              replace c2 := Lib.hid c2
              go_wp2_with fail
              refine (qa _).mono ?_
              rintro e w3 ⟨rfl, rfl⟩
              go_wp2_with fail
              go_roundw
              case rel => exact ⟨pos + n, D ++ [x], hit2, hb2, Lib.hid hD2, by rw [c2.out]⟩
              case measure => rw [hpos.out, hpos2.out]; omega
          · have hDV := hfin1.out D pos hD.out hp
            subst hDV
            have hnx := run_next_done hit.out hp
            have c3 : bs (40 :: Lk.quoteV D) ++ (⟨#[41, 120]⟩ : ByteArray) = bs (40 :: Lk.quoteV D ++ [41, 120]) := bs_append _ [41, 120]
            have q := fun w => pdest_any (40 :: Lk.quoteV D ++ [41, 120]) 0 (by simp; omega) w
            have hdq2 : Lk.dest (40 :: Lk.quoteV D ++ [41, 120]) 0 = some (T, (Lk.quoteV D).length + 2) := hdq.out
            rw [hdq2, show spanV (some (T, (Lk.quoteV D).length + 2)) = .tuple #[.string (bs T), .int .i64 (((Lk.quoteV D).length + 2 : Nat) : Int), .bool true] from rfl] at q
            obtain ⟨Q, hQ⟩ : ∃ Q, Q = 40 :: Lk.quoteV D := ⟨_, rfl⟩
            have hQl : Q.length = (Lk.quoteV D).length + 1 := by rw [hQ]; simp
            rw [← hQ] at c3 q hqs ⊢
            obtain ⟨Q2, hQ2⟩ : ∃ Q2, Q2 = Q ++ [41, 120] := ⟨_, rfl⟩
            rw [← hQ2] at c3 q
            obtain ⟨m, hm⟩ : ∃ m, m = (Lk.quoteV D).length + 2 := ⟨_, rfl⟩
            rw [← hm] at q
            have hqs2 := bs_size Q
            have hmq : ((m : Int) == (Q.length : Int) + 1) = true := by simp; omega
            have hQb : Q.length ≤ 101 := by omega
            clear hdq2 hQ hQ2 hm hdq hqs hQl
            go_wp2_with fail
            refine (q _).mono ?_
            rintro e w3 ⟨rfl, hb3⟩
            replace hb3 := Lib.hid (ext_trans hb hb3)
            go_wp2_with fail
            go_loopw [12] (fun q wr => ∃ (pos : Nat) (D : List Nat), Hid (wr.heap[w3.heap.size]? = some (.stringIter (bs T) pos)) ∧ Hid (Below w3.heap.size w3 wr) ∧ Hid (D ++ Ru.runes (T.drop pos) = Ru.runes T) ∧ q = .string (bs (Ru.enc D)))
              (fun _ wr => T.length - wr.iterPos w3.heap.size)
            case atStart => exact ⟨0, [], Lib.hid (iter_new _ _ _ rfl), Lib.hid (ext_alloc _ _), Lib.hid rfl, rfl⟩
            case round =>
              clear hit hnx
              obtain ⟨pos, D2, hit, hb4, hD4, rfl⟩ := hrel
              obtain ⟨d1', d2', d3'⟩ := hlV.out D2 ⟨pos, hD4.out⟩
              have hq5 := bs_size (Ru.enc D2)
              by_cases hp : pos < T.length
              · obtain ⟨x, n, hn, hvx, hdc, hD2⟩ := runes_next hp hD4.out
                have hnx := run_next_rune hit.out hp hdc
                have hle : pos + n ≤ T.length := by
                  obtain ⟨_, n', _, hle, hdc', _⟩ := rune_at (l := T) (pos := pos) hp
                  rw [hdc] at hdc'
                  injection hdc' with _ hnn
                  omega
                have hit2 := Lib.hid (Lib.iterAt_heap wr w3.heap.size (bs T) pos (pos + n) hit.out)
                have hb2 := Lib.below_iterAt hb4.out (k := w3.heap.size) (Nat.le_refl _) (bs T) (pos + n)
                have hpos := Lib.hid (show wr.iterPos w3.heap.size = pos by simp only [World.iterPos, hit.out])
                have hpos2 := Lib.hid (show (wr.iterAt w3.heap.size (bs T) (pos + n)).iterPos w3.heap.size = pos + n by simp only [World.iterPos, hit2.out])
                have hcv := fun w => lk_run_rune (x : Int) w
                have hl4 := (Ru.encodeRune_len (x : Int)).2
                have hz4 := bs_size (Lib.encodeRune (x : Int))
                have c2 : bs (Ru.enc D2) ++ bs (Lib.encodeRune (x : Int)) = bs (Ru.enc (D2 ++ [x])) := by rw [bs_append, Ru.enc_snoc]
                obtain ⟨E, hE⟩ : ∃ E, E = Ru.enc D2 := ⟨_, rfl⟩
                rw [← hE] at c2 hq5 d2' ⊢
                clear hE
                replace hdc := Lib.hid hdc
                replace c2 := Lib.hid c2
                go_wp2_with fail
                go_roundw
                case rel => exact ⟨pos + n, D2 ++ [x], hit2, Lib.hid hb2, Lib.hid hD2, by rw [c2.out]⟩
                case measure => rw [hpos.out, hpos2.out]; omega
              · have hDV := hfin1.out D2 pos hD4.out hp
                subst hDV
                have hnx := run_next_done hit.out hp
                have hbe := Lib.hid (ext_trans hb3.out hb4.out)
                rw [← hT.out]
                go_wp2_with fail
                refine (lkknown_any _).mono ?_
                rintro e w5 ⟨rfl, hb5⟩
                replace hb5 := Lib.hid (ext_trans hbe.out hb5)
                go_wp2_with fail
                go_ret
                exact ⟨rfl, hb5.out⟩

theorem lkdest_said (ws : List Nat) (A : Option Addr) (c : Nat) (w : World) (h : Row w w.heap.size 1 A ws.length (ucells ws)) (hc : ws.length ≤ c) (hm : c ≤ maxLen) (hx : ∀ x ∈ ws, x ≤ 65535) :
    Calls Try.prog 6 #[.slice A ws.length c] w fun e w' => e = .returned (.bool true) ∧ Below w.heap.size w w' :=
  lkdest_any ws A c w h (by unfold maxLen at hm; omega) hx
end Go.Proofs.Ytjkmhcolnidflaa
