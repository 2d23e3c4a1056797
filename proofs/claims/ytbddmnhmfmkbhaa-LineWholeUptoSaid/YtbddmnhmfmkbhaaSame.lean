/- Contracts of Same over rows of texts. -/
import Derived.Test.YtbddmnhmfmkbhaaRef
namespace Go.Proofs.Ytbddmnhmfmkbhaa
open Go.RowKit

set_option maxHeartbeats 1000000 in
theorem sames_any (xs ys : List (List UInt8)) (A B : Option Addr) (c d : Nat) (w : World) (hx : Row w w.heap.size 1 A xs.length (scells xs)) (hy : Row w w.heap.size 1 B ys.length (scells ys)) (hl : xs.length ≤ 1000000000000) :
    Calls Try.prog 13 #[.slice A xs.length c, .slice B ys.length d] w fun e w' =>
      e = .returned (.bool (decide (xs = ys))) ∧ Below w.heap.size w w' := by
  have hX := Lib.hid hx
  have hY := Lib.hid hy
  clear hx hy
  by_cases hlen : xs.length = ys.length
  · have hne : ((xs.length : Int) != (ys.length : Int)) = false := by simp [hlen]
    have hL := Lib.hid hlen
    have hle1 : xs.length ≤ ys.length := by omega
    have hle2 : ys.length ≤ xs.length := by omega
    clear hlen
    go_enter Try.func13, Try.ntmps13
    go_wp2_with fail
    go_loopw [5] (fun i wr => ∃ (k : Nat), k ≤ xs.length ∧ i = .int .i64 k ∧ Hid (xs.take k = ys.take k) ∧ Below w.heap.size w wr)
      (fun i _ => xs.length - (intOf i).toNat)
    case atStart => exact ⟨0, Nat.zero_le _, rfl, Lib.hid rfl, Below.refl _ _⟩
    case round =>
      obtain ⟨k, hk, rfl, htk, hb⟩ := hrel
      rcases Nat.lt_or_eq_of_le hk with hlt | rfl
      · obtain ⟨b, o, rfl, hbb, hc⟩ := text_cell hX.out (by omega)
        obtain ⟨b', o', rfl, hbb', hc'⟩ := text_cell hY.out (by omega)
        have hlt' : k < ys.length := by omega
        have h1 : wr.cell? ⟨b, o + k, none⟩ = some (.string (bs xs[k])) := (hb.cell hbb).trans (hc k hlt)
        have h2 : wr.cell? ⟨b', o' + k, none⟩ = some (.string (bs ys[k])) := (hb.cell hbb').trans (hc' k hlt')
        clear hc hc'
        have hi1 : (k : Int) < (xs.length : Int) := by omega
        have hi2 : (k : Int) < (ys.length : Int) := by omega
        by_cases heq : xs[k] = ys[k]
        · have ht := bs_eq heq
          have htk2 := Lib.hid (show xs.take (k + 1) = ys.take (k + 1) from by rw [List.take_succ_eq_append_getElem hlt, List.take_succ_eq_append_getElem hlt', htk.out, heq])
          clear heq
          go_wp2
          go_quiet (fail)
          go_wp2
          go_roundw
          case rel => exact ⟨k + 1, by omega, by go_num, htk2, below_drewN hb _⟩
          case measure => simp [intOf]; omega
        · have ht := bs_ne heq
          have hfin := Lib.hid (show xs ≠ ys from fun h => heq (by subst h; rfl))
          clear heq
          go_wp2
          go_quiet (fail)
          go_wp2
          go_returns
          exact ⟨by simp [hfin.out], below_drewN hb _⟩
      · have hfin := Lib.hid (show xs = ys from by have := htk.out; rw [List.take_length, hL.out, List.take_length] at this; exact this)
        go_wp2
        go_returns
        exact ⟨by simp [hfin.out], hb⟩
  · have hne : ((xs.length : Int) != (ys.length : Int)) = true := by simp; omega
    have hfin := Lib.hid (show xs ≠ ys from fun h => hlen (by subst h; rfl))
    clear hlen
    go_enter Try.func13, Try.ntmps13
    go_wp2
    go_returns
    exact ⟨by simp [hfin.out], Below.refl _ _⟩

theorem sames_eq (xs : List (List UInt8)) (A B : Option Addr) (c d : Nat) (w : World) (hx : Row w w.heap.size 1 A xs.length (scells xs)) (hy : Row w w.heap.size 1 B xs.length (scells xs)) (hl : xs.length ≤ 1000000000000) :
    Calls Try.prog 13 #[.slice A xs.length c, .slice B xs.length d] w fun e w' => e = .returned (.bool true) ∧ Below w.heap.size w w' :=
  (sames_any xs xs A B c d w hx hy hl).mono fun _ _ ⟨he, hb⟩ => ⟨by rw [he]; simp, hb⟩

set_option maxHeartbeats 1000000 in
theorem same_any (l : List UInt8) (A : Option Addr) (c : Nat) (w : World) (h : Row w w.heap.size 1 A l.length (bcells l)) (hlc : l.length ≤ c) (hl : l.length ≤ 1000000000000) :
    Calls Try.prog 8 #[.slice A l.length c] w fun e w' => e = .returned (.bool true) ∧ Below w.heap.size w w' := by
  have hR := Lib.hid h
  clear h
  have hll := Ln.lines_len l 0
  have htl := Ln.texts_len l 0
  go_enter Try.func8, Try.ntmps8
  go_wp2_with fail
  refine (split_any l _ c _ hR.out hl).mono ?_
  rintro e w1 ⟨v1, rfl, ho1, hb1⟩
  obtain ⟨A1, c1, rfl, hc1⟩ := own_shape ho1
  have hL1 := Lib.hid (Row.own ho1)
  have hz1 := hb1.size
  have hR1 := Lib.hid ((hR.out.below hb1).more hz1)
  clear ho1
  go_wp2_with fail
  refine (rsplit_any l _ c _ hR1.out hl).mono ?_
  rintro e w2 ⟨v2, rfl, ho2, hb2⟩
  obtain ⟨A2, c2, rfl, hc2⟩ := own_shape ho2
  have hL2 := Lib.hid (Row.own ho2)
  have hz2 := hb2.size
  have hL1' := Lib.hid ((hL1.out.below hb2).more hz2)
  clear ho2 hL1
  go_wp2_with fail
  go_loopw [17] (fun i wr => ∃ (k : Nat), k ≤ (Ln.lines l 0).length ∧ i = .int .i64 k ∧ Below w2.heap.size w2 wr)
    (fun i _ => (Ln.lines l 0).length - (intOf i).toNat)
  case atStart => exact ⟨0, Nat.zero_le _, rfl, Below.refl _ _⟩
  case round =>
    obtain ⟨k, hk, rfl, hb⟩ := hrel
    have hz := hb.size
    rcases Nat.lt_or_eq_of_le hk with hlt | hke
    · obtain ⟨b, o, rfl, hbb, hc⟩ := line_cell hL1'.out (by omega)
      obtain ⟨b', o', rfl, hbb', hc'⟩ := line_cell hL2.out (by omega)
      obtain ⟨lo, hi, nx, hx⟩ : ∃ lo hi nx, (Ln.lines l 0)[k] = (lo, hi, nx) := ⟨_, _, _, rfl⟩
      obtain ⟨q0, q1, q2⟩ := hc k hlt
      obtain ⟨r0, r1, r2⟩ := hc' k hlt
      rw [hx] at q0 q1 q2 r0 r1 r2
      have s0 : wr.cell? ⟨b, o + k * 3, none⟩ = some (.int .i64 (lo : Nat)) := (hb.cell hbb).trans q0
      have s1 : wr.cell? ⟨b, o + k * 3 + 1, none⟩ = some (.int .i64 (hi : Nat)) := (hb.cell hbb).trans q1
      have s2 : wr.cell? ⟨b, o + k * 3 + 2, none⟩ = some (.int .i64 (nx : Nat)) := (hb.cell hbb).trans q2
      have t0 : wr.cell? ⟨b', o' + k * 3, none⟩ = some (.int .i64 (lo : Nat)) := (hb.cell hbb').trans r0
      have t1 : wr.cell? ⟨b', o' + k * 3 + 1, none⟩ = some (.int .i64 (hi : Nat)) := (hb.cell hbb').trans r1
      have t2 : wr.cell? ⟨b', o' + k * 3 + 2, none⟩ = some (.int .i64 (nx : Nat)) := (hb.cell hbb').trans r2
      have hik : (k : Int) < ((Ln.lines l 0).length : Int) := by omega
      clear hc hc' q0 q1 q2 r0 r1 r2 hx
      go_wp2
      go_quiet (fail)
      go_wp2
      go_roundw
      case rel => exact ⟨k + 1, by omega, by go_num, below_drewN hb _⟩
      case measure => simp [intOf]; omega
    · have hRr := Lib.hid ((((hR1.out.below hb2).more hz2).below hb).more hz)
      subst hke
      go_wp2_with fail
      refine (texts_any l _ c _ hRr.out hlc hl).mono ?_
      rintro e w3 ⟨v3, rfl, ho3, hb3⟩
      obtain ⟨A3, c3, rfl, hc3⟩ := own_shape ho3
      have hT3 := Lib.hid (Row.own ho3)
      have hz3 := hb3.size
      have hR3 := Lib.hid ((hRr.out.below hb3).more hz3)
      clear ho3
      go_wp2_with fail
      refine (rtexts_any l _ c _ hR3.out hlc hl).mono ?_
      rintro e w4 ⟨v4, rfl, ho4, hb4⟩
      obtain ⟨A4, c4, rfl, hc4⟩ := own_shape ho4
      have hT4 := Lib.hid (Row.own ho4)
      have hz4 := hb4.size
      have hR4 := Lib.hid ((hR3.out.below hb4).more hz4)
      have hT3' := Lib.hid ((hT3.out.below hb4).more hz4)
      clear ho4
      go_wp2_with fail
      refine (sames_eq _ _ _ _ _ _ hT3'.out hT4.out (by omega)).mono ?_
      rintro e w5 ⟨rfl, hb5⟩
      have hz5 := hb5.size
      have hR5 := Lib.hid ((hR4.out.below hb5).more hz5)
      go_wp2_with fail
      refine (last_any l _ c _ hR5.out hlc hl).mono ?_
      rintro e w6 ⟨rfl, hb6⟩
      have hz6 := hb6.size
      have hR6 := Lib.hid ((hR5.out.below hb6).more hz6)
      go_wp2_with fail
      refine (rend_any l _ c _ hR6.out hlc hl).mono ?_
      rintro e w7 ⟨rfl, hb7⟩
      go_wp2
      go_returns
      exact ⟨by simp, ext_trans hb1 (ext_trans hb2 (ext_trans hb (ext_trans hb3 (ext_trans hb4 (ext_trans hb5 (ext_trans hb6 hb7))))))⟩
end Go.Proofs.Ytbddmnhmfmkbhaa
