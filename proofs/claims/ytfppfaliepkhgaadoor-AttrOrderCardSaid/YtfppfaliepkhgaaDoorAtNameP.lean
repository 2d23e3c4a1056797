/- Package attr: names. -/
import Derived.Test.YtfppfaliepkhgaaDoorAtFns
namespace Go.Proofs.YtfppfaliepkhgaaDoor
open Go.RowKit

theorem tabs_size {w : World} (h : Tabs w) : 2 ≤ w.heap.size := by
  have h2 := (h.2 0 (by decide)).1
  rcases Nat.lt_or_ge 1 w.heap.size with h' | h'
  · omega
  · exfalso
    have : w.cell? ⟨1, 2 * 0, none⟩ = none := by
      simp only [World.cell?]
      rw [Array.getElem?_eq_none h']
    first
      | (rw [this] at h2; cases h2)
      | (simp [World.cell?, Array.getElem?_eq_none h'] at h2)
theorem tabs_low {w w' : World} {B : Nat} (h : Tabs w) (hb : Below B w w') (hB : 2 ≤ B) : Tabs w' :=
  ⟨fun c hc => (hb.cell (show 0 < B by omega)).trans (h.1 c hc), fun i hi => ⟨(hb.cell (show 1 < B by omega)).trans (h.2 i hi).1, (hb.cell (show 1 < B by omega)).trans (h.2 i hi).2⟩⟩

/-- the first rune, the last one -/
def hdR (l : List UInt8) : Nat := (Ru.runes l).headD 0
def ltR (l : List UInt8) : Nat := (Ru.runes l).getLastD 0

set_option maxHeartbeats 1000000 in
set_option maxRecDepth 100000 in
theorem first_some (l : List UInt8) (hne : l ≠ []) (w : World) :
    Calls Tryd.prog 26 #[.string (bs l)] w fun e w' => e = .returned (.tuple #[.int .i32 (hdR l : Int), .bool true]) ∧ Below w.heap.size w w' := by
  have hp : 0 < l.length := List.length_pos_iff.2 hne
  obtain ⟨x, k, hk, hv, hd, hD2⟩ := runes_next (D := []) hp rfl
  have hx : hdR l = x := by unfold hdR; rw [← hD2]; rfl
  replace hx := Lib.hid hx
  replace hne := Lib.hid hne
  clear hD2
  go_enter Tryd.func26, Tryd.ntmps26
  go_wp2
  go_loopw [] (fun wr => Hid (wr.heap[w.heap.size]? = some (.stringIter (bs l) 0)) ∧ Below w.heap.size w wr) (fun _ => 0)
  case atStart => exact ⟨Lib.hid (iter_new _ _ _ rfl), ext_alloc _ _⟩
  case round =>
    obtain ⟨hit, hb⟩ := hrel
    have hnx := run_next_rune hit.out hp hd
    replace hd := Lib.hid hd
    go_wp2
    go_ret2
    exact ⟨by rw [hx.out]; rfl, Lib.below_iterAt hb (Nat.le_refl _) _ _⟩

set_option maxHeartbeats 1000000 in
set_option maxRecDepth 100000 in
theorem last_some (l : List UInt8) (hne : l ≠ []) (w : World) (hs : l.length ≤ 1000000000000) (hT : Tabs w) :
    Calls Tryd.prog 27 #[.string (bs l)] w fun e w' => e = .returned (.tuple #[.int .i32 (ltR l : Int), .bool true]) ∧ Below w.heap.size w w' := by
  have h0 : (bs l).toList.isEmpty = false := by rw [bs_toList]; simpa using hne
  have hx : ((Lib.decodeLastL (bs l).data.toList).1) = ltR l := by
    unfold ltR
    have := Ru.runes_last l hne
    rw [List.getLastD_eq_getLast?, this]
    simp [bs]
  replace hx := Lib.hid hx
  replace hne := Lib.hid hne
  replace hT := Lib.hid hT
  go_enter Tryd.func27, Tryd.ntmps27
  go_wp2_with (go_at_call 48; refine (Tryd.utf8_DecodeLastRuneInString (bs l) _ (by rw [bs_size]; omega) hT.out).mono ?_; rintro e w' ⟨rfl, hb⟩)
  go_ret2
  exact ⟨by rw [hx.out]; rfl, hb⟩

theorem name_rune (x : Nat) : (decide ((x : Int) < 32) = true ∧ At.nameRune x = false) ∨ (decide ((x : Int) < 32) = false ∧ (decide (x < 128) && decide (UInt8.ofNat x ∈ At.sharp)) = true ∧ At.nameRune x = false) ∨
    (decide ((x : Int) < 32) = false ∧ (decide (x < 128) && decide (UInt8.ofNat x ∈ At.sharp)) = false ∧ At.nameRune x = true) := by
  have e1 : decide ((x : Int) < 32) = decide (x < 32) := by rw [decide_eq_decide]; omega
  rw [e1]
  unfold At.nameRune
  cases decide (x < 32) <;> cases (decide (x < 128) && decide (UInt8.ofNat x ∈ At.sharp)) <;> simp

set_option maxHeartbeats 8000000 in
set_option maxRecDepth 100000 in
theorem pname_any (l : List UInt8) (w : World) (hl : l.length ≤ 1000000000) (hT : Tabs w) :
    Calls Tryd.prog 14 #[.string (bs l)] w fun e w' => e = .returned (.bool (At.name l)) ∧ Below w.heap.size w w' := by
  have hsz := bs_size l
  have hsp : At.name l = (decide (1 ≤ l.length ∧ l.length ≤ 60) && decide (Ru.enc (Ru.runes l) = l) && !At.blank ((Ru.runes l).headD 0) && !At.blank ((Ru.runes l).getLastD 0) && (Ru.runes l).all At.nameRune) := rfl
  by_cases h0 : l = []
  · subst h0
    have hfin : Hid (At.name [] = false) := Lib.hid (by rw [hsp]; rfl)
    have ht := text_nil
    clear hsp
    go_enter Tryd.func14, Tryd.ntmps14
    go_wp2_with fail
    go_ret
    exact ⟨by rw [hfin.out]; rfl, Below.refl _ _⟩
  · have ht : (bs l).toList.isEmpty = false := by rw [bs_toList]; simpa using h0
    have hpos := List.length_pos_iff.2 h0
    by_cases h60 : l.length ≤ 60
    · have hl2 : decide ((60 : Int) < (l.length : Int)) = false := by simp; omega
      rw [decide_eq_true ⟨hpos, h60⟩, Bool.true_and] at hsp
      have hvd := valid_any l w (by omega) hT
      cases hv : decide (Ru.enc (Ru.runes l) = l) with
      | false =>
        rw [hv] at hvd hsp
        have hfin : Hid (At.name l = false) := Lib.hid (by rw [hsp]; rfl)
        clear hsp hv
        go_enter Tryd.func14, Tryd.ntmps14
        go_wp2_with (go_at_call 24; refine hvd.mono ?_; rintro e w1 ⟨rfl, hb1⟩)
        go_ret
        exact ⟨by rw [hfin.out]; rfl, hb1⟩
      | true =>
        rw [hv] at hvd hsp
        rw [Bool.true_and] at hsp
        replace hsp := Lib.hid hsp
        replace hT := Lib.hid hT
        clear hv
        go_enter Tryd.func14, Tryd.ntmps14
        go_wp2_with (go_at_call 24; refine hvd.mono ?_; rintro e w1 ⟨rfl, hb1⟩)
        have hT1 := Lib.hid (tabs_ext hT.out hb1)
        replace hb1 := Lib.hid hb1
        go_loopw [] (fun wr => ∃ pos : Nat, Hid (wr.heap[w1.heap.size]? = some (.stringIter (bs l) pos)) ∧ Hid ((Ru.runes l).all At.nameRune = (Ru.runes (l.drop pos)).all At.nameRune) ∧ Below w1.heap.size w1 wr)
          (fun wr => l.length - wr.iterPos w1.heap.size)
        case atStart => exact ⟨0, Lib.hid (iter_new _ _ _ rfl), Lib.hid rfl, ext_alloc _ _⟩
        case round =>
          obtain ⟨pos, hit, hD, hb⟩ := hrel
          by_cases hp : pos < l.length
          · obtain ⟨x, k, hk, _, hd, hr⟩ := rune_at hp
            have hnx := run_next_rune hit.out hp hd
            have hvr : Ru.vr x := by
              have := Ru.decodeL_vr (l.drop pos)
              rw [runes_next.decodeL_drop' l pos, hd] at this; exact this
            have hcr := containsRune_any x hvr
            replace hd := Lib.hid hd
            replace hr := Lib.hid hr
            have hit2 := Lib.hid (Lib.iterAt_heap wr w1.heap.size (bs l) pos (pos + k) hit.out)
            have hb2 := Lib.below_iterAt hb (k := w1.heap.size) (Nat.le_refl _) (bs l) (pos + k)
            have hps : Hid (wr.iterPos w1.heap.size = pos) := Lib.hid (by simp only [World.iterPos, hit.out])
            have hD3 : (Ru.runes l).all At.nameRune = (At.nameRune x && (Ru.runes (l.drop (pos + k))).all At.nameRune) := by rw [hD.out, hr.out, List.all_cons]
            clear hr hvr
            rcases name_rune x with ⟨g1, h⟩ | ⟨g1, g2, h⟩ | ⟨g1, g2, h⟩
            · have hfin : Hid (At.name l = false) := Lib.hid (by rw [hsp.out, hD3, h]; simp)
              clear hD3 h hcr
              go_wp2_with fail
              go_returns
              exact ⟨by rw [hfin.out]; rfl, ext_trans hb1.out hb2⟩
            · have hfin : Hid (At.name l = false) := Lib.hid (by rw [hsp.out, hD3, h]; simp)
              rw [g2] at hcr
              clear hD3 h g2
              go_wp2_with (go_at_call 25; refine (hcr _).mono ?_; rintro e w5 ⟨rfl, hb5⟩)
              go_returns
              exact ⟨by rw [hfin.out]; rfl, ext_trans hb1.out (hb2.trans (hb5.mono hb2.size))⟩
            · have hD2 : Hid ((Ru.runes l).all At.nameRune = (Ru.runes (l.drop (pos + k))).all At.nameRune) := Lib.hid (by rw [hD3, h, Bool.true_and])
              rw [g2] at hcr
              clear hD3 h g2
              go_wp2_with (go_at_call 25; refine (hcr _).mono ?_; rintro e w5 ⟨rfl, hb5⟩)
              have hit5 := Lib.hid (keep hit2.out hb5).1
              have hb6 := hb2.trans (hb5.mono hb2.size)
              have hps5 : Hid (w5.iterPos w1.heap.size = pos + k) := Lib.hid (by simp only [World.iterPos, hit5.out])
              clear hb5 hb2 hit2
              go_wp2_with fail
              go_roundw
              case rel => exact ⟨pos + k, hit5, hD2, hb6⟩
              case measure => rw [hps.out, hps5.out]; omega
          · have hnx := run_next_done hit.out hp
            have hall : (Ru.runes l).all At.nameRune = true := by
              rw [hD.out, List.drop_eq_nil_of_le (by omega)]; rfl
            have hsp2 : At.name l = (!At.blank (hdR l) && !At.blank (ltR l)) := by rw [hsp.out, hall, Bool.and_true]; rfl
            have hTr := Lib.hid (tabs_ext hT1.out hb)
            have hbF := fun w => first_some l h0 w
            have hbL := fun w h => last_some l h0 w (by omega) h
            have hbB1 := blank_any (hdR l)
            have hbB2 := blank_any (ltR l)
            obtain ⟨B1, hB1⟩ : ∃ B, At.blank (hdR l) = B := ⟨_, rfl⟩
            obtain ⟨B2, hB2⟩ : ∃ B, At.blank (ltR l) = B := ⟨_, rfl⟩
            rw [hB1] at hbB1 hsp2
            rw [hB2] at hbB2 hsp2
            replace hsp2 := Lib.hid hsp2
            replace h0 := Lib.hid h0
            have hbw := Lib.hid (ext_trans hb1.out hb)
            clear hall hD hB1 hB2 hb1 hb
            go_wp2_with fail
            refine (hbF _).mono ?_
            rintro e w5 ⟨rfl, hb5⟩
            have hT5 := Lib.hid (tabs_ext hTr.out hb5)
            replace hbw := Lib.hid (ext_trans hbw.out hb5)
            go_wp2_with fail
            refine (hbL _ hT5.out).mono ?_
            rintro e w6 ⟨rfl, hb6⟩
            replace hbw := Lib.hid (ext_trans hbw.out hb6)
            cases B1 with
            | true =>
              go_wp2_with fail
              refine (hbB1 _).mono ?_
              rintro e w7 ⟨rfl, rfl⟩
              go_wp2_with fail
              go_returns
              exact ⟨by rw [hsp2.out]; rfl, hbw.out⟩
            | false =>
              go_wp2_with fail
              refine (hbB1 _).mono ?_
              rintro e w7 ⟨rfl, rfl⟩
              go_wp2_with fail
              refine (hbB2 _).mono ?_
              rintro e w7 ⟨rfl, rfl⟩
              go_wp2_with fail
              go_returns
              exact ⟨by rw [hsp2.out]; rfl, hbw.out⟩
    · have hl2 : decide ((60 : Int) < (l.length : Int)) = true := by simp; omega
      have hfin : Hid (At.name l = false) := Lib.hid (by rw [hsp, decide_eq_false (by omega)]; rfl)
      clear hsp
      go_enter Tryd.func14, Tryd.ntmps14
      go_wp2_with fail
      go_ret
      exact ⟨by rw [hfin.out]; rfl, Below.refl _ _⟩
end Go.Proofs.YtfppfaliepkhgaaDoor
