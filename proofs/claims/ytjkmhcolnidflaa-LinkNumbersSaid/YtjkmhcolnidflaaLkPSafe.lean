/- Package link: Safe. -/
import Derived.Test.YtjkmhcolnidflaaLkFold
import Derived.Test.YtjkmhcolnidflaaLkCut
import Derived.Test.YtjkmhcolnidflaaLkPSch
namespace Go.Proofs.Ytjkmhcolnidflaa
open Go.RowKit

theorem smallN_int (x : Nat) : decide (97 ≤ (x : Int) ∧ (x : Int) ≤ 122) = smallN x := by
  unfold smallN; rw [Bool.eq_iff_iff, decide_eq_true_iff, decide_eq_true_iff]; omega
theorem filter_snoc_yes {D : List Nat} {x : Nat} (h : smallN x = true) : (D ++ [x]).filter smallN = D.filter smallN ++ [x] := by rw [List.filter_append]; simp [h]
theorem filter_snoc_no {D : List Nat} {x : Nat} (h : smallN x = false) : (D ++ [x]).filter smallN = D.filter smallN := by rw [List.filter_append]; simp [h]

set_option maxHeartbeats 8000000 in
set_option maxRecDepth 100000 in
theorem pletters_any (l : List UInt8) (w : World) (hs : l.length ≤ 1000000000) :
    Calls Try.prog 39 #[.string (bs l)] w fun e w' => e = .returned (.string (bs (Lk.word l))) ∧ Below w.heap.size w w' := by
  have hsz := bs_size l
  have qf := fun w => pfold_any l w hs
  have hfl : (Ru.enc (Ru.fold (Ru.runes l))).length ≤ 4000000000 := by
    have h1 := (Ru.enc_len (Ru.fold (Ru.runes l))).2
    have h2 := Ru.fold_len (Ru.runes l)
    have h3 := Ru.runes_len l
    omega
  have hrf : Ru.runes (Ru.enc (Ru.fold (Ru.runes l))) = Ru.fold (Ru.runes l) := Ru.runes_enc (Ru.fold_vr (Ru.runes_vr l))
  have hwf := word_fold l
  rw [← hrf] at hwf
  obtain ⟨F, hF⟩ : ∃ F, F = Ru.enc (Ru.fold (Ru.runes l)) := ⟨_, rfl⟩
  rw [← hF] at qf hfl hwf
  rw [← hwf]
  clear hrf hF hwf
  have hFs := bs_size F
  go_enter Try.func39, Try.ntmps39
  go_wp2_with fail
  refine (qf _).mono ?_
  rintro e w1 ⟨rfl, hb1⟩
  have hI1 : IsB w.heap.size w.heap.size (bcells []) w1 := isB_below (fresh_bld w) hb1
  have hb1' : Below w.heap.size w w1 := ext_trans (ext_alloc _ _) hb1
  have hz1 : w.heap.size < w1.heap.size := by
    have h1 := isB_lt hI1
    omega
  clear hb1
  go_wp2_with fail
  go_loopw [] (fun wr => ∃ (pos : Nat) (D : List Nat), IsB w.heap.size w.heap.size (bcells (Ru.enc (D.filter smallN))) wr ∧ Hid (wr.heap[w1.heap.size]? = some (.stringIter (bs F) pos)) ∧ Hid (D ++ Ru.runes (F.drop pos) = Ru.runes F) ∧ Below w.heap.size w wr)
    (fun wr => F.length - wr.iterPos w1.heap.size)
  case atStart => exact ⟨0, [], hI1.alloc _, Lib.hid (iter_new _ _ _ rfl), Lib.hid rfl, hb1'.alloc hb1'.size _⟩
  case round =>
    obtain ⟨pos, D, hI, hit, hD, hb⟩ := hrel
    have hdl := runes_part hD.out
    have hfD : (D.filter smallN).length ≤ D.length := List.length_filter_le _ _
    by_cases hp : pos < F.length
    · obtain ⟨x, k, hk, hv, hd, hD2⟩ := runes_next hp hD.out
      have hnx := run_next_rune hit.out hp hd
      replace hD2 := Lib.hid hD2
      replace hd := Lib.hid hd
      have hit2 := Lib.hid (Lib.iterAt_heap wr w1.heap.size (bs F) pos (pos + k) hit.out)
      have hb2 := Lib.below_iterAt hb (k := w1.heap.size) (by omega) (bs F) (pos + k)
      have hI2 : IsB _ _ _ _ := hI.iterAt hit.out (pos + k)
      have hpos : Hid (wr.iterPos w1.heap.size = pos) := Lib.hid (by simp only [World.iterPos, hit.out])
      have hz2 : w.heap.size ≤ (wr.iterAt w1.heap.size (bs F) (pos + k)).heap.size := by rw [Lib.iterAt_size]; have := hb.size; omega
      have hl4 := (Ru.enc_len (D.filter smallN)).2
      have hvx : x ≤ 1114111 := by unfold Ru.vr at hv; omega
      have hlen : (bcells (Ru.enc (D.filter smallN))).length + 4 ≤ 140737488355328 := by rw [bcells_len]; omega
      have qs := fun w => lsmall_any (x : Int) w
      rw [smallN_int] at qs
      clear hl4 hv
      cases hsm : smallN x with
      | true =>
        rw [hsm] at qs
        have hfy := Lib.hid (filter_snoc_yes (D := D) hsm)
        clear hsm
        obtain ⟨Y, hY⟩ : ∃ Y, Y = D.filter smallN := ⟨_, rfl⟩
        rw [← hY] at hI hI2 hlen hfy
        clear hY
        go_wp2_with (go_at_call 46; refine (qs _).mono ?_; rintro e w' ⟨rfl, rfl⟩)
        refine (writeRune_any w.heap.size w.heap.size _ (x : Int) (by omega) (by omega) _ hI2 hlen hz2).mono ?_
        rintro e w3 ⟨⟨v, rfl⟩, h2, b2, k2⟩
        have hit4 := Lib.hid (k2.iter hit2.out (by omega))
        have hpos2 : Hid (w3.iterPos w1.heap.size = pos + k) := Lib.hid (by simp only [World.iterPos, hit4.out])
        have h2' := builder_rune h2
        clear h2
        go_wp2
        go_roundw
        case rel => exact ⟨pos + k, D ++ [x], by rw [hfy.out]; exact h2', hit4, hD2, hb2.trans b2⟩
        case measure => rw [hpos.out, hpos2.out]; omega
      | false =>
        rw [hsm] at qs
        have hfy := Lib.hid (filter_snoc_no (D := D) hsm)
        clear hsm
        go_wp2_with (go_at_call 46; refine (qs _).mono ?_; rintro e w' ⟨rfl, rfl⟩)
        have hpos2 : Hid ((wr.iterAt w1.heap.size (bs F) (pos + k)).iterPos w1.heap.size = pos + k) := Lib.hid (by simp only [World.iterPos, hit2.out])
        go_roundw
        case rel => exact ⟨pos + k, D ++ [x], by rw [hfy.out]; exact hI2, hit2, hD2, hb2⟩
        case measure => rw [hpos.out, hpos2.out]; omega
    · have hnx := run_next_done hit.out hp
      have hDe := runes_done hp hD.out
      subst hDe
      clear hD
      have hz : w.heap.size ≤ wr.heap.size := hb.size
      go_wp2_with fail
      refine (bld_string w.heap.size w.heap.size _ _ hI hz).mono ?_
      rintro e w3 ⟨rfl, b3⟩
      go_wp2
      go_ret
      exact ⟨rfl, hb.trans b3⟩

set_option maxHeartbeats 4000000 in
set_option maxRecDepth 100000 in
theorem psafe_any (l : List UInt8) (hs : l.length ≤ 1000000000) (w : World) :
    Calls Try.prog 20 #[.string (bs l)] w fun e w' => e = .returned (.bool (Lk.safe l)) ∧ Below w.heap.size w w' := by
  have hsz := bs_size l
  have q1 := fun w => lk_hasPrefix_any l 35 (by decide) w
  have q2 := fun w => cut_any l 58 (by omega) w
  obtain ⟨R, hR⟩ : ∃ R, R = Lk.safe l := ⟨_, rfl⟩
  rw [← hR]
  unfold Lk.safe Lk.head at hR
  cases h35 : l.getD 0 0 == 35 with
  | true =>
    have hres : R = false := by rw [hR]; simp only [bne, h35]; rfl
    rw [h35] at q1
    subst hres
    clear hR h35
    go_enter Try.func20, Try.ntmps20
    go_wp2_with fail
    refine (q1 _).mono ?_
    rintro e w1 ⟨rfl, rfl⟩
    go_wp2
    go_ret
    exact ⟨rfl, Below.refl _ _⟩
  | false =>
    simp only [bne, h35] at hR
    rw [h35] at q1
    cases hc : l.contains 58 with
    | false =>
      have hres : R = true := by rw [hR]; simp only [hc]; rfl
      rw [hc] at q2
      subst hres
      clear hR h35 hc
      obtain ⟨H, hH⟩ : ∃ H, H = l.takeWhile (· != 58) := ⟨_, rfl⟩
      rw [← hH] at q2
      clear hH
      go_enter Try.func20, Try.ntmps20
      go_wp2_with fail
      refine (q1 _).mono ?_
      rintro e w1 ⟨rfl, rfl⟩
      go_wp2_with fail
      refine (q2 _).mono ?_
      rintro e w2 ⟨⟨a, rfl⟩, hb2⟩
      go_wp2
      go_ret
      exact ⟨rfl, hb2⟩
    | true =>
      rw [hc] at q2
      simp only [hc, if_true] at hR
      have hHl : (l.takeWhile (· != 58)).length ≤ l.length := (List.takeWhile_sublist _).length_le
      have q3 := fun w => pletters_any (l.takeWhile (· != 58)) w (by omega)
      have hR2 : R = (!(Lk.word (l.takeWhile (· != 58)) == Lk.js) && !(Lk.word (l.takeWhile (· != 58)) == Lk.data)) := by rw [hR]; simp only [bne, Bool.not_false, Bool.true_and]
      clear hR
      obtain ⟨H, hH⟩ : ∃ H, H = l.takeWhile (· != 58) := ⟨_, rfl⟩
      rw [← hH] at q2 q3 hR2 hHl
      obtain ⟨D, hD⟩ : ∃ D, D = Lk.word H := ⟨_, rfl⟩
      rw [← hD] at q3 hR2
      have hDs := bs_size D
      clear hH hD h35 hc
      by_cases f1 : D = Lk.js
      · have e1 : ((bs D).toList == [106, 97, 118, 97, 115, 99, 114, 105, 112, 116]) = true := by rw [bs_toList, f1]; rfl
        rw [f1] at hR2
        simp only [beq_self_eq_true, Bool.not_true, Bool.false_and] at hR2
        subst hR2
        clear f1
        go_enter Try.func20, Try.ntmps20
        go_wp2_with fail
        refine (q1 _).mono ?_
        rintro e w1 ⟨rfl, rfl⟩
        go_wp2_with fail
        refine (q2 _).mono ?_
        rintro e w2 ⟨⟨a, rfl⟩, hb2⟩
        go_wp2_with fail
        refine (q3 _).mono ?_
        rintro e w3 ⟨rfl, hb3⟩
        replace hb3 := ext_trans hb2 hb3
        go_wp2
        go_ret
        exact ⟨rfl, hb3⟩
      · have e1 := low_text_ne f1
        unfold Lk.js at e1
        have f1' : (D == Lk.js) = false := by simpa using f1
        rw [f1'] at hR2
        simp only [Bool.not_false, Bool.true_and] at hR2
        clear f1 f1'
        by_cases f2 : D = Lk.data
        · have e2 : ((bs D).toList == [100, 97, 116, 97]) = true := by rw [bs_toList, f2]; rfl
          rw [f2] at hR2
          simp only [beq_self_eq_true, Bool.not_true] at hR2
          subst hR2
          clear f2
          go_enter Try.func20, Try.ntmps20
          go_wp2_with fail
          refine (q1 _).mono ?_
          rintro e w1 ⟨rfl, rfl⟩
          go_wp2_with fail
          refine (q2 _).mono ?_
          rintro e w2 ⟨⟨a, rfl⟩, hb2⟩
          go_wp2_with fail
          refine (q3 _).mono ?_
          rintro e w3 ⟨rfl, hb3⟩
          replace hb3 := ext_trans hb2 hb3
          go_wp2
          go_ret
          exact ⟨rfl, hb3⟩
        · have e2 := low_text_ne f2
          unfold Lk.data at e2
          have f2' : (D == Lk.data) = false := by simpa using f2
          rw [f2'] at hR2
          simp only [Bool.not_false] at hR2
          subst hR2
          clear f2 f2'
          go_enter Try.func20, Try.ntmps20
          go_wp2_with fail
          refine (q1 _).mono ?_
          rintro e w1 ⟨rfl, rfl⟩
          go_wp2_with fail
          refine (q2 _).mono ?_
          rintro e w2 ⟨⟨a, rfl⟩, hb2⟩
          go_wp2_with fail
          refine (q3 _).mono ?_
          rintro e w3 ⟨rfl, hb3⟩
          replace hb3 := ext_trans hb2 hb3
          go_wp2
          go_ret
          exact ⟨rfl, hb3⟩
end Go.Proofs.Ytjkmhcolnidflaa
