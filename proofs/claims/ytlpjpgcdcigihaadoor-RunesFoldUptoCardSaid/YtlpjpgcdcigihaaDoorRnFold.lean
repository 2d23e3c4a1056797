/- Package runes and the document's own answer: Fold; rows of runes held against each other. -/
import Derived.Test.YtlpjpgcdcigihaaDoorRnText
import Derived.Deep.QuietTactic
import Derived.BigQuiet
namespace Go.Proofs.YtlpjpgcdcigihaaDoor
open Go.RowKit

theorem small_nat (x : Nat) (w : World) (h : x ≤ 1114111) :
    Calls Tryd.prog 29 #[.int .i32 (x : Int)] w fun e w' => e = .returned (.int .i32 (Ru.sml x : Int)) ∧ w = w' :=
  (small_any x w (by omega) (by omega)).mono fun _ _ ⟨he, hw⟩ => ⟨by rw [he, Ru.sml_small], hw⟩
theorem len_nat (B b : Nat) (l : List UInt8) (n : Nat) (hn : n = l.length) (w : World) (h : IsB B b (Lib.byteCells l) w) :
    Calls Tryd.prog 26 #[.pointer (some ⟨b, 0, none⟩)] w fun e w' => e = .returned (.int .i64 n) ∧ w = w' :=
  (Tryd.Builder_Len_f B b _ w h).mono fun _ _ ⟨he, hw⟩ => ⟨by rw [he, Lib.byteCells_length, hn], hw.symm⟩
theorem builder_rune {B b : Nat} {X : List Nat} {z : Nat} {wz : World} (h : IsB B b (Lib.byteCells (Ru.enc X) ++ Lib.runeCells (z : Int)) wz) : IsB B b (Lib.byteCells (Ru.enc (X ++ [z]))) wz := by
  rw [Ru.enc_snoc, Lib.byteCells_append, Lib.byteCells_encodeRune]; exact h
theorem builder_blank {B b : Nat} {X : List Nat} {wz : World} (h : IsB B b (Lib.byteCells (Ru.enc X) ++ [.int .u8 32]) wz) : IsB B b (Lib.byteCells (Ru.enc (X ++ [32]))) wz := by
  rw [Ru.enc_snoc, Lib.byteCells_append]; exact h

theorem fold_step {D : List Nat} {g : Bool} {O : List Nat} {x : Nat} (h : Ru.foldS D = (g, O)) :
    (blankB (x : Int) = true → Ru.foldS (D ++ [x]) = (true, O)) ∧
    (blankB (x : Int) = false → g = true → O ≠ [] → Ru.foldS (D ++ [x]) = (false, (O ++ [32]) ++ [Ru.sml x])) ∧
    (blankB (x : Int) = false → (g = false ∨ O = []) → Ru.foldS (D ++ [x]) = (false, O ++ [Ru.sml x])) := by
  rw [Ru.foldS_snoc, h]
  unfold Ru.fstep Ru.bl
  refine ⟨fun hb => by rw [hb]; rfl, fun hb hg hO => by rw [hb]; simp [hg, hO], fun hb hg => ?_⟩
  rw [hb]
  rcases hg with hg | hg <;> simp [hg]

set_option maxHeartbeats 8000000 in
set_option maxRecDepth 100000 in
theorem fold_any (l : List UInt8) (w : World) (hs : l.length ≤ 1000000000) :
    Calls Tryd.prog 11 #[.string (bs l)] w fun e w' => e = .returned (.string (bs (Ru.enc (Ru.fold (Ru.runes l))))) ∧ Below w.heap.size w w' := by
  go_enter Tryd.func11, Tryd.ntmps11
  go_wp2
  go_loopw [4] (fun gv wr => ∃ (pos : Nat) (D : List Nat) (g : Bool) (O : List Nat), gv = .bool g ∧ IsB w.heap.size w.heap.size (Lib.byteCells (Ru.enc O)) wr ∧ Hid (Ru.foldS D = (g, O)) ∧ Hid (wr.heap[w.heap.size + 1]? = some (.stringIter (bs l) pos)) ∧ Hid (D ++ Ru.runes (l.drop pos) = Ru.runes l) ∧ Below w.heap.size w wr)
    (fun _ wr => l.length - wr.iterPos (w.heap.size + 1))
  case atStart => exact ⟨0, [], false, [], rfl, (fresh_builder w).alloc _, Lib.hid rfl, Lib.hid (iter_new2 _ _ _), Lib.hid rfl, ext_alloc2 _ _ _⟩
  case round =>
    obtain ⟨pos, D, g, O, rfl, hI, hfo, hit, hD, hb⟩ := hrel
    have hdl := runes_part hD.out
    have hlt : w.heap.size + 1 < wr.heap.size := (Array.getElem?_eq_some_iff.1 hit.out).1
    have hOl : O.length ≤ D.length := by have := (Ru.foldS_inv D).2.2.1; rw [hfo.out] at this; exact this
    by_cases hp : pos < l.length
    · obtain ⟨x, k, hk, hv, hd, hD2⟩ := runes_next hp hD.out
      have hnx := run_next_rune hit.out hp hd
      replace hD2 := Lib.hid hD2
      replace hd := Lib.hid hd
      have hit2 := Lib.hid (Lib.iterAt_heap wr (w.heap.size + 1) (bs l) pos (pos + k) hit.out)
      have hb2 := Lib.below_iterAt hb (k := w.heap.size + 1) (by omega) (bs l) (pos + k)
      have hI2 : IsB _ _ _ _ := hI.iterAt hit.out (pos + k)
      have hpos : Hid (wr.iterPos (w.heap.size + 1) = pos) := Lib.hid (by simp only [World.iterPos, hit.out])
      have hz2 : w.heap.size ≤ (wr.iterAt (w.heap.size + 1) (bs l) (pos + k)).heap.size := by rw [Lib.iterAt_size]; omega
      have hl4 := (Ru.enc_len O).2
      have hl1 := (Ru.enc_len O).1
      have hvx : x ≤ 1114111 := by unfold Ru.vr at hv; omega
      have hsx : Ru.sml x ≤ 1114200 := by unfold Ru.sml; split <;> omega
      have hst := Lib.hid (fold_step (x := x) hfo.out)
      obtain ⟨n, hn⟩ : ∃ n, n = (Ru.enc O).length := ⟨_, rfl⟩
      have hlen : (Lib.byteCells (Ru.enc O)).length + 5 ≤ 140737488355328 := by rw [Lib.byteCells_length]; omega
      have hO0 : Hid (O = [] ↔ n = 0) := Lib.hid (by rw [hn, ← List.eq_nil_iff_length_eq_zero, Ru.enc_eq_nil])
      have hnl : n ≤ 4000000000 := by omega
      replace hn := Lib.hid hn
      clear hl4 hl1 hv
      by_cases hbl : blankB (x : Int) = true
      · have hf2 := Lib.hid (hst.out.1 hbl)
        go_wp2_with (go_at_call 12; refine (blank_any _ _).mono ?_; rintro e w' ⟨rfl, rfl⟩)
        have hpos2 : Hid ((wr.iterAt (w.heap.size + 1) (bs l) (pos + k)).iterPos (w.heap.size + 1) = pos + k) := Lib.hid (by simp only [World.iterPos, hit2.out])
        go_roundw
        case rel => exact ⟨pos + k, D ++ [x], true, O, rfl, hI2, hf2, hit2, hD2, hb2⟩
        case measure => rw [hpos.out, hpos2.out]; omega
      · replace hbl : blankB (x : Int) = false := by simpa using hbl
        by_cases hgo : g = true ∧ O ≠ []
        · obtain ⟨rfl, hO⟩ := hgo
          have hf2 := Lib.hid (hst.out.2.1 hbl rfl hO)
          have hn0 : 0 < n := Nat.pos_of_ne_zero fun h => hO (hO0.out.2 h)
          clear hO
          go_wp2_with (first
            | (go_at_call 12; refine (blank_any _ _).mono ?_; rintro e w' ⟨rfl, rfl⟩)
            | (go_at_call 26; refine (len_nat w.heap.size w.heap.size _ n hn.out _ hI2).mono ?_; rintro e w' ⟨rfl, rfl⟩)
            | (go_at_call 27; refine (writeByte_any w.heap.size w.heap.size _ 32 _ hI2 (by omega) hz2).mono ?_; rintro e w2 ⟨rfl, h1, b1, k1⟩))
          have hit3 := Lib.hid (k1.iter hit2.out (by omega))
          have hz3 : w.heap.size ≤ w2.heap.size := by have := b1.size; omega
          have h1' := builder_blank h1
          have hle2 : (Lib.byteCells (Ru.enc (O ++ [32]))).length + 4 ≤ 140737488355328 := by
            rw [Ru.enc_snoc, Lib.byteCells_append, List.length_append]
            have : (Lib.byteCells (Lib.encodeRune ((32 : Nat) : Int))).length = 1 := rfl
            omega
          clear h1 k1
          go_wp2_with (first
            | (go_at_call 29; refine (small_nat _ _ hvx).mono ?_; rintro e w' ⟨rfl, rfl⟩)
            | (go_at_call 28; refine (writeRune_any w.heap.size w.heap.size _ _ (by omega) (by omega) _ h1' hle2 hz3).mono ?_; rintro e w3 ⟨⟨v, rfl⟩, h2, b2, k2⟩))
          have hit4 := Lib.hid (k2.iter hit3.out (by omega))
          have hpos2 : Hid (w3.iterPos (w.heap.size + 1) = pos + k) := Lib.hid (by simp only [World.iterPos, hit4.out])
          go_wp2
          go_roundw
          case rel => exact ⟨pos + k, D ++ [x], false, _, rfl, builder_rune h2, hf2, hit4, hD2, (hb2.trans b1).trans b2⟩
          case measure => rw [hpos.out, hpos2.out]; omega
        · have hgo' : g = false ∨ O = [] := by
            cases g with
            | false => exact .inl rfl
            | true => exact .inr (by by_cases h : O = []; exact h; exact absurd ⟨rfl, h⟩ hgo)
          have hf2 := Lib.hid (hst.out.2.2 hbl hgo')
          have hcase : g = false ∨ (g = true ∧ n = 0) := by
            cases g with
            | false => exact .inl rfl
            | true => exact .inr ⟨rfl, hO0.out.1 (hgo'.resolve_left (by simp))⟩
          clear hgo hgo'
          have hl4' : (Lib.byteCells (Ru.enc O)).length + 4 ≤ 140737488355328 := by omega
          rcases hcase with rfl | ⟨rfl, hn0⟩
          · go_wp2_with (first
              | (go_at_call 12; refine (blank_any _ _).mono ?_; rintro e w' ⟨rfl, rfl⟩)
              | (go_at_call 29; refine (small_nat _ _ hvx).mono ?_; rintro e w' ⟨rfl, rfl⟩)
              | (go_at_call 28; refine (writeRune_any w.heap.size w.heap.size _ _ (by omega) (by omega) _ hI2 hl4' hz2).mono ?_; rintro e w3 ⟨⟨v, rfl⟩, h2, b2, k2⟩))
            have hit4 := Lib.hid (k2.iter hit2.out (by omega))
            have hpos2 : Hid (w3.iterPos (w.heap.size + 1) = pos + k) := Lib.hid (by simp only [World.iterPos, hit4.out])
            go_wp2
            go_roundw
            case rel => exact ⟨pos + k, D ++ [x], false, _, rfl, builder_rune h2, hf2, hit4, hD2, hb2.trans b2⟩
            case measure => rw [hpos.out, hpos2.out]; omega
          · subst hn0
            go_wp2_with (first
              | (go_at_call 12; refine (blank_any _ _).mono ?_; rintro e w' ⟨rfl, rfl⟩)
              | (go_at_call 26; refine (len_nat w.heap.size w.heap.size _ 0 hn.out _ hI2).mono ?_; rintro e w' ⟨rfl, rfl⟩)
              | (go_at_call 29; refine (small_nat _ _ hvx).mono ?_; rintro e w' ⟨rfl, rfl⟩)
              | (go_at_call 28; refine (writeRune_any w.heap.size w.heap.size _ _ (by omega) (by omega) _ hI2 hl4' hz2).mono ?_; rintro e w3 ⟨⟨v, rfl⟩, h2, b2, k2⟩))
            have hit4 := Lib.hid (k2.iter hit2.out (by omega))
            have hpos2 : Hid (w3.iterPos (w.heap.size + 1) = pos + k) := Lib.hid (by simp only [World.iterPos, hit4.out])
            go_wp2
            go_roundw
            case rel => exact ⟨pos + k, D ++ [x], false, _, rfl, builder_rune h2, hf2, hit4, hD2, hb2.trans b2⟩
            case measure => rw [hpos.out, hpos2.out]; omega
    · have hnx := run_next_done hit.out hp
      have hDe := runes_done hp hD.out
      have hO : O = Ru.fold (Ru.runes l) := by unfold Ru.fold; rw [← hDe, hfo.out]
      subst hO
      clear hD hDe hfo
      go_wp2_with (go_at_call 30; refine (Tryd.Builder_String_any_k w.heap.size w.heap.size _ _ hI (by omega)).mono ?_; rintro e w2 ⟨rfl, _, b1, _⟩)
      go_wp2
      go_ret
      exact ⟨rfl, hb.trans b1⟩

theorem own_one {w : World} {b : Nat} {v : Value} {O : List Nat} {n x : Nat} {cs : List Value} (hn : n = O.length) (h : w.ownsRow b 21 1 v (n + 1) (rcells O ++ cs)) (hz : cs = [.int .i32 (x : Int)]) :
    w.ownsRow b 21 1 v (O ++ [x]).length (rcells (O ++ [x])) := by
  subst hn hz; simpa [rcells] using h
theorem upper_cases (x : Nat) : (65 ≤ x ∧ x ≤ 90 ∧ Ru.sml x = x + 32) ∨ (x < 65 ∧ Ru.sml x = x) ∨ (65 ≤ x ∧ 90 < x ∧ Ru.sml x = x) := by
  unfold Ru.sml; split <;> omega

set_option maxHeartbeats 8000000 in
set_option maxRecDepth 100000 in
theorem rfold_any (l : List UInt8) (w : World) (hs : l.length ≤ 1000000000) :
    Calls Tryd.prog 25 #[.string (bs l)] w fun e w' => e = .returned (.string (bs (Ru.enc (Ru.fold (Ru.runes l))))) ∧ Below w.heap.size w w' := by
  go_enter Tryd.func25, Tryd.ntmps25
  go_wp2
  go_loopw [3, 4, 6] (fun ov gv _ wr => ∃ (pos : Nat) (D : List Nat) (g : Bool) (O : List Nat), gv = .bool g ∧ wr.ownsRow (w.heap.size + 1) 21 1 ov O.length (rcells O) ∧ Hid (Ru.foldS D = (g, O)) ∧ Hid (wr.heap[w.heap.size]? = some (.stringIter (bs l) pos)) ∧ Hid (D ++ Ru.runes (l.drop pos) = Ru.runes l) ∧ Below w.heap.size w wr)
    (fun _ _ _ wr => l.length - wr.iterPos w.heap.size)
  case atStart => exact ⟨0, [], false, [], rfl, World.ownsRow_nil _ _ _ _, Lib.hid rfl, Lib.hid (iter_new _ _ _ rfl), Lib.hid rfl, ext_alloc _ _⟩
  case round =>
    obtain ⟨pos, D, g, O, rfl, hown, hfo, hit, hD, hb⟩ := hrel
    have hdl := runes_part hD.out
    have hlt : w.heap.size < wr.heap.size := (Array.getElem?_eq_some_iff.1 hit.out).1
    have hOl : O.length ≤ D.length := by have := (Ru.foldS_inv D).2.2.1; rw [hfo.out] at this; exact this
    by_cases hp : pos < l.length
    · obtain ⟨x, k, hk, hv, hd, hD2⟩ := runes_next hp hD.out
      have hnx := run_next_rune hit.out hp hd
      replace hD2 := Lib.hid hD2
      replace hd := Lib.hid hd
      have hit2 := Lib.hid (Lib.iterAt_heap wr w.heap.size (bs l) pos (pos + k) hit.out)
      have hb2 := Lib.below_iterAt hb (k := w.heap.size) (Nat.le_refl _) (bs l) (pos + k)
      have hpos : Hid (wr.iterPos w.heap.size = pos) := Lib.hid (by simp only [World.iterPos, hit.out])
      have hz2 : w.heap.size + 1 ≤ (wr.iterAt w.heap.size (bs l) (pos + k)).heap.size := by rw [Lib.iterAt_size]; omega
      have hown2 := own_iterAt hown (k := w.heap.size) (by omega) (bs l) (pos + k)
      have hvx : x ≤ 1114111 := by unfold Ru.vr at hv; omega
      have hst := Lib.hid (fold_step (x := x) hfo.out)
      have hne2 := own_ne_lt hown2 (k := w.heap.size) (by omega)
      obtain ⟨Ao, co, rfl, hco⟩ := own_shape hown
      replace hne2 := Lib.hid hne2
      clear hown hv
      obtain ⟨n, hn⟩ : ∃ n, n = O.length := ⟨_, rfl⟩
      have hO0 : Hid (O = [] ↔ n = 0) := Lib.hid (by rw [hn, ← List.eq_nil_iff_length_eq_zero])
      rw [← hn] at hown2 hOl hco hne2
      have hnn := Lib.hid hn
      rw [← hn]
      clear hn
      by_cases hbl : blankB (x : Int) = true
      · have hf2 := Lib.hid (hst.out.1 hbl)
        go_wp2_with (go_at_call 19; refine (rblank_any _ _).mono ?_; rintro e w' ⟨rfl, rfl⟩)
        have hpos2 : Hid ((wr.iterAt w.heap.size (bs l) (pos + k)).iterPos w.heap.size = pos + k) := Lib.hid (by simp only [World.iterPos, hit2.out])
        go_roundw
        case rel => exact ⟨pos + k, D ++ [x], true, O, rfl, by rw [← hnn.out]; exact hown2, hf2, hit2, hD2, hb2⟩
        case measure => rw [hpos.out, hpos2.out]; omega
      · replace hbl : blankB (x : Int) = false := by simpa using hbl
        by_cases hgo : g = true ∧ O ≠ []
        · obtain ⟨rfl, hO⟩ := hgo
          have hf2 := Lib.hid (hst.out.2.1 hbl rfl hO)
          have hn0 : 0 < n := Nat.pos_of_ne_zero fun h => hO (hO0.out.2 h)
          clear hO
          rcases upper_cases x with ⟨u1, u2, u3⟩ | ⟨u1, u3⟩ | ⟨u1, u2, u3⟩
          all_goals
            replace u3 := Lib.hid u3
            go_wp2_with (first
              | (go_at_call 19; refine (rblank_any _ _).mono ?_; rintro e w' ⟨rfl, rfl⟩)
              | (at_builtin; refine wpList_app_new rfl (.tmp 20) (.tmp 21) rfl runeEI rfl hown2 rfl rfl rfl (by simp; rfl) (by omega) (by omega) hz2 ?_; intro v2 w2 hown3 hg3 hb3)
              | (at_builtin; refine wpList_app_new rfl (.tmp 31) (.tmp 33) rfl runeEI rfl hown3 rfl rfl rfl (by simp; rfl) (by omega) (by omega) (by have := hb3.size; omega) ?_; intro v3 w3 hown4 hg4 hb4))
            have hit3 := Lib.hid ((hg3.out.block w.heap.size (by rw [Lib.iterAt_size]; omega) (fun e => hne2.out e.symm)).trans hit2.out)
            have hit4 := Lib.hid ((hg4.out.block w.heap.size (by have := hb3.size; omega) (fun e => own_ne_lt hown3 (k := w.heap.size) (by omega) e.symm)).trans hit3.out)
            have hpos2 : Hid (w3.iterPos w.heap.size = pos + k) := Lib.hid (by simp only [World.iterPos, hit4.out])
            have hf : w3.ownsRow (w.heap.size + 1) 21 1 v3 ((O ++ [32]) ++ [Ru.sml x]).length (rcells ((O ++ [32]) ++ [Ru.sml x])) := by
              rw [u3.out]; simpa [rcells, hnn.out] using hown4
            clear hown4
            go_roundw
            case rel => exact ⟨pos + k, D ++ [x], false, _, rfl, hf, hf2, hit4, hD2, (hb2.trans (hb3.mono (by omega))).trans (hb4.mono (by omega))⟩
            case measure => rw [hpos.out, hpos2.out]; omega
        · have hgo' : g = false ∨ O = [] := by
            cases g with
            | false => exact .inl rfl
            | true => exact .inr (by by_cases h : O = []; exact h; exact absurd ⟨rfl, h⟩ hgo)
          have hf2 := Lib.hid (hst.out.2.2 hbl hgo')
          have hcase : g = false ∨ (g = true ∧ n = 0) := by
            cases g with
            | false => exact .inl rfl
            | true => exact .inr ⟨rfl, hO0.out.1 (hgo'.resolve_left (by simp))⟩
          clear hgo hgo'
          rcases hcase with rfl | ⟨rfl, hn0⟩
          all_goals
            try subst hn0
            rcases upper_cases x with ⟨u1, u2, u3⟩ | ⟨u1, u3⟩ | ⟨u1, u2, u3⟩
            all_goals
              replace u3 := Lib.hid u3
              go_wp2_with (first
                | (go_at_call 19; refine (rblank_any _ _).mono ?_; rintro e w' ⟨rfl, rfl⟩)
                | (at_builtin; refine wpList_app_new rfl (.tmp 31) (.tmp 33) rfl runeEI rfl hown2 rfl rfl rfl (by simp; rfl) (by omega) (by omega) hz2 ?_; intro v3 w3 hown4 hg4 hb4))
              have hit4 := Lib.hid ((hg4.out.block w.heap.size (by rw [Lib.iterAt_size]; omega) (fun e => hne2.out e.symm)).trans hit2.out)
              have hpos2 : Hid (w3.iterPos w.heap.size = pos + k) := Lib.hid (by simp only [World.iterPos, hit4.out])
              have hf : w3.ownsRow (w.heap.size + 1) 21 1 v3 (O ++ [Ru.sml x]).length (rcells (O ++ [Ru.sml x])) := by
                rw [u3.out]; simpa [rcells, ← hnn.out] using hown4
              clear hown4
              go_roundw
              case rel => exact ⟨pos + k, D ++ [x], false, _, rfl, hf, hf2, hit4, hD2, hb2.trans (hb4.mono (by omega))⟩
              case measure => rw [hpos.out, hpos2.out]; omega
    · have hnx := run_next_done hit.out hp
      have hDe := runes_done hp hD.out
      have hO : O = Ru.fold (Ru.runes l) := by unfold Ru.fold; rw [← hDe, hfo.out]
      subst hO
      clear hD hDe hfo
      obtain ⟨Ao, co, rfl, hco⟩ := own_shape hown
      have hcv2 := run_runes (c := co) (Row.own hown) 33 21 9 Tryd.underlying33 Tryd.underlying21 Tryd.underlying9
      replace hown := Lib.hid hown
      go_wp2
      go_ret
      exact ⟨rfl, hb⟩

set_option maxHeartbeats 1000000 in
theorem sames_any (X Y : List Nat) (A B : Option Addr) (c d : Nat) (w : World) (hx : Row w w.heap.size 1 A X.length (rcells X)) (hy : Row w w.heap.size 1 B Y.length (rcells Y)) (hl : X.length ≤ 1000000000000) :
    Calls Tryd.prog 14 #[.slice A X.length c, .slice B Y.length d] w fun e w' =>
      e = .returned (.bool (decide (X = Y))) ∧ Below w.heap.size w w' := by
  have hX := Lib.hid hx
  have hY := Lib.hid hy
  clear hx hy
  by_cases hlen : X.length = Y.length
  · have hne : ((X.length : Int) != (Y.length : Int)) = false := by simp [hlen]
    have hL := Lib.hid hlen
    have hle1 : X.length ≤ Y.length := by omega
    have hle2 : Y.length ≤ X.length := by omega
    clear hlen
    go_enter Tryd.func14, Tryd.ntmps14
    go_wp2_with fail
    go_loopw [5] (fun i wr => ∃ (k : Nat), k ≤ X.length ∧ i = .int .i64 k ∧ Hid (X.take k = Y.take k) ∧ Below w.heap.size w wr)
      (fun i _ => X.length - (intOf i).toNat)
    case atStart => exact ⟨0, Nat.zero_le _, rfl, Lib.hid rfl, Below.refl _ _⟩
    case round =>
      obtain ⟨k, hk, rfl, htk, hb⟩ := hrel
      rcases Nat.lt_or_eq_of_le hk with hlt | rfl
      · obtain ⟨b, o, rfl, hbb, hc⟩ := hX.out.at1 hlt
        obtain ⟨b', o', rfl, hbb', hc'⟩ := hY.out.at1 (k := k) (by omega)
        have hlt' : k < Y.length := by omega
        have h1 : wr.cell? ⟨b, o + k, none⟩ = some (.int .i32 (X[k] : Int)) := (hb.cell hbb).trans (by rw [hc k hlt]; simp [rcells])
        have h2 : wr.cell? ⟨b', o' + k, none⟩ = some (.int .i32 (Y[k] : Int)) := (hb.cell hbb').trans (by rw [hc' k hlt']; simp [rcells])
        clear hc hc'
        have hi1 : (k : Int) < (X.length : Int) := by omega
        have hi2 : (k : Int) < (Y.length : Int) := by omega
        by_cases heq : X[k] = Y[k]
        · have ht : (((X[k] : Nat) : Int) != ((Y[k] : Nat) : Int)) = false := by simp [heq]
          have htk2 := Lib.hid (show X.take (k + 1) = Y.take (k + 1) from by rw [List.take_succ_eq_append_getElem hlt, List.take_succ_eq_append_getElem hlt', htk.out, heq])
          clear heq
          go_wp2
          go_quiet (fail)
          go_wp2
          go_roundw
          case rel => exact ⟨k + 1, by omega, by go_num, htk2, below_drewN hb _⟩
          case measure => simp [intOf]; omega
        · have ht : (((X[k] : Nat) : Int) != ((Y[k] : Nat) : Int)) = true := bne_iff_ne.2 (by omega)
          have hfin := Lib.hid (show X ≠ Y from fun h => heq (by subst h; rfl))
          clear heq
          go_wp2
          go_quiet (fail)
          go_wp2
          go_returns
          exact ⟨by simp [hfin.out], below_drewN hb _⟩
      · have hfin := Lib.hid (show X = Y from by have := htk.out; rw [List.take_length, hL.out, List.take_length] at this; exact this)
        go_wp2
        go_returns
        exact ⟨by simp [hfin.out], hb⟩
  · have hne : ((X.length : Int) != (Y.length : Int)) = true := by simp; omega
    have hfin := Lib.hid (show X ≠ Y from fun h => hlen (by subst h; rfl))
    clear hlen
    go_enter Tryd.func14, Tryd.ntmps14
    go_wp2
    go_returns
    exact ⟨by simp [hfin.out], Below.refl _ _⟩
end Go.Proofs.YtlpjpgcdcigihaaDoor
