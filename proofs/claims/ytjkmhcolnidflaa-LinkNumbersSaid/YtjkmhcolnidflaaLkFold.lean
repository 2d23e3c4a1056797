/- Package runes: Fold, where package esc's laws are at hand; the small letters of a folded text. -/
import Derived.Test.YtjkmhcolnidflaaEsProg
import Derived.Test.YtjkmhcolnidflaaRuFold
import Derived.Test.YtjkmhcolnidflaaLkRef3
namespace Go.Proofs.Ytjkmhcolnidflaa
open Go.RowKit

theorem lk_small_nat (x : Nat) (w : World) (h : x ≤ 1114111) :
    Calls Try.prog 60 #[.int .i32 (x : Int)] w fun e w' => e = .returned (.int .i32 (Ru.sml x : Int)) ∧ w = w' :=
  (small_any x w (by omega) (by omega)).mono fun _ _ ⟨he, hw⟩ => ⟨by rw [he, Ru.sml_small], hw⟩
theorem lk_len_nat (B b : Nat) (l : List UInt8) (n : Nat) (hn : n = l.length) (w : World) (h : IsB B b (bcells l) w) :
    Calls Try.prog 58 #[.pointer (some ⟨b, 0, none⟩)] w fun e w' => e = .returned (.int .i64 n) ∧ w = w' :=
  (Try.Builder_Len_f B b _ w h).mono fun _ _ ⟨he, hw⟩ => ⟨by rw [he, bcells_len, hn], hw.symm⟩
theorem lk_builder_blank {B b : Nat} {X : List Nat} {wz : World} (h : IsB B b (bcells (Ru.enc X) ++ [.int .u8 32]) wz) : IsB B b (bcells (Ru.enc (X ++ [32]))) wz := by
  rw [Ru.enc_snoc, bcells_append]; exact h

theorem lk_fold_step {D : List Nat} {g : Bool} {O : List Nat} {x : Nat} (h : Ru.foldS D = (g, O)) :
    (blankB (x : Int) = true → Ru.foldS (D ++ [x]) = (true, O)) ∧
    (blankB (x : Int) = false → g = true → O ≠ [] → Ru.foldS (D ++ [x]) = (false, (O ++ [32]) ++ [Ru.sml x])) ∧
    (blankB (x : Int) = false → (g = false ∨ O = []) → Ru.foldS (D ++ [x]) = (false, O ++ [Ru.sml x])) := by
  rw [Ru.foldS_snoc, h]
  unfold Ru.fstep Ru.bl
  refine ⟨fun hb => by rw [hb]; rfl, fun hb hg hO => by rw [hb]; simp [hg, hO], fun hb hg => ?_⟩
  rw [hb]
  rcases hg with hg | hg <;> simp [hg]

set_option maxHeartbeats 8000000 in
set_option maxRecDepth 100000 in
theorem pfold_any (l : List UInt8) (w : World) (hs : l.length ≤ 1000000000) :
    Calls Try.prog 51 #[.string (bs l)] w fun e w' => e = .returned (.string (bs (Ru.enc (Ru.fold (Ru.runes l))))) ∧ Below w.heap.size w w' := by
  go_enter Try.func51, Try.ntmps51
  go_wp2
  go_loopw [4] (fun gv wr => ∃ (pos : Nat) (D : List Nat) (g : Bool) (O : List Nat), gv = .bool g ∧ IsB w.heap.size w.heap.size (bcells (Ru.enc O)) wr ∧ Hid (Ru.foldS D = (g, O)) ∧ Hid (wr.heap[w.heap.size + 1]? = some (.stringIter (bs l) pos)) ∧ Hid (D ++ Ru.runes (l.drop pos) = Ru.runes l) ∧ Below w.heap.size w wr)
    (fun _ wr => l.length - wr.iterPos (w.heap.size + 1))
  case atStart => exact ⟨0, [], false, [], rfl, (fresh_bld w).alloc _, Lib.hid rfl, Lib.hid (iter_new2 _ _ _), Lib.hid rfl, ext_alloc2 _ _ _⟩
  case round =>
    obtain ⟨pos, D, g, O, rfl, hI, hfo, hit, hD, hb⟩ := hrel
    have hdl := runes_part hD.out
    have hlt : w.heap.size + 1 < wr.heap.size := (Array.getElem?_eq_some_iff.1 hit.out).1
    have hOl : O.length ≤ D.length := by have := (Ru.foldS_inv D).2.2.1; rw [hfo.out] at this; exact this
    by_cases hp : pos < l.length
    · obtain ⟨x, k, hk, hv, hd, hD2⟩ := runes_next hp hD.out
      have hnx := run_next_rune hit.out hp hd
      replace hD2 := Lib.hid hD2
      replace hd := Lib.hid hd
      have hit2 := Lib.hid (Lib.iterAt_heap wr (w.heap.size + 1) (bs l) pos (pos + k) hit.out)
      have hb2 := Lib.below_iterAt hb (k := w.heap.size + 1) (by omega) (bs l) (pos + k)
      have hI2 : IsB _ _ _ _ := hI.iterAt hit.out (pos + k)
      have hpos : Hid (wr.iterPos (w.heap.size + 1) = pos) := Lib.hid (by simp only [World.iterPos, hit.out])
      have hz2 : w.heap.size ≤ (wr.iterAt (w.heap.size + 1) (bs l) (pos + k)).heap.size := by rw [Lib.iterAt_size]; omega
      have hl4 := (Ru.enc_len O).2
      have hl1 := (Ru.enc_len O).1
      have hvx : x ≤ 1114111 := by unfold Ru.vr at hv; omega
      have hsx : Ru.sml x ≤ 1114200 := by unfold Ru.sml; split <;> omega
      have hst := Lib.hid (lk_fold_step (x := x) hfo.out)
      obtain ⟨n, hn⟩ : ∃ n, n = (Ru.enc O).length := ⟨_, rfl⟩
      have hlen : (bcells (Ru.enc O)).length + 5 ≤ 140737488355328 := by rw [bcells_len]; omega
      have hO0 : Hid (O = [] ↔ n = 0) := Lib.hid (by rw [hn, ← List.eq_nil_iff_length_eq_zero, Ru.enc_eq_nil])
      have hnl : n ≤ 4000000000 := by omega
      replace hn := Lib.hid hn
      clear hl4 hl1 hv
      by_cases hbl : blankB (x : Int) = true
      · have hf2 := Lib.hid (hst.out.1 hbl)
        go_wp2_with (go_at_call 29; refine (blank_any _ _).mono ?_; rintro e w' ⟨rfl, rfl⟩)
        have hpos2 : Hid ((wr.iterAt (w.heap.size + 1) (bs l) (pos + k)).iterPos (w.heap.size + 1) = pos + k) := Lib.hid (by simp only [World.iterPos, hit2.out])
        go_roundw
        case rel => exact ⟨pos + k, D ++ [x], true, O, rfl, hI2, hf2, hit2, hD2, hb2⟩
        case measure => rw [hpos.out, hpos2.out]; omega
      · replace hbl : blankB (x : Int) = false := by simpa using hbl
        by_cases hgo : g = true ∧ O ≠ []
        · obtain ⟨rfl, hO⟩ := hgo
          have hf2 := Lib.hid (hst.out.2.1 hbl rfl hO)
          have hn0 : 0 < n := Nat.pos_of_ne_zero fun h => hO (hO0.out.2 h)
          clear hO
          go_wp2_with (first
            | (go_at_call 29; refine (blank_any _ _).mono ?_; rintro e w' ⟨rfl, rfl⟩)
            | (go_at_call 58; refine (lk_len_nat w.heap.size w.heap.size _ n hn.out _ hI2).mono ?_; rintro e w' ⟨rfl, rfl⟩)
            | (go_at_call 59; refine (writeByte_any w.heap.size w.heap.size _ 32 _ hI2 (by omega) hz2).mono ?_; rintro e w2 ⟨rfl, h1, b1, k1⟩))
          have hit3 := Lib.hid (k1.iter hit2.out (by omega))
          have hz3 : w.heap.size ≤ w2.heap.size := by have := b1.size; omega
          have h1' := lk_builder_blank h1
          have hle2 : (bcells (Ru.enc (O ++ [32]))).length + 4 ≤ 140737488355328 := by
            rw [Ru.enc_snoc, bcells_append, List.length_append]
            have : (bcells (Lib.encodeRune ((32 : Nat) : Int))).length = 1 := rfl
            omega
          clear h1 k1
          go_wp2_with (first
            | (go_at_call 60; refine (lk_small_nat _ _ hvx).mono ?_; rintro e w' ⟨rfl, rfl⟩)
            | (go_at_call 44; refine (writeRune_any w.heap.size w.heap.size _ _ (by omega) (by omega) _ h1' hle2 hz3).mono ?_; rintro e w3 ⟨⟨v, rfl⟩, h2, b2, k2⟩))
          have hit4 := Lib.hid (k2.iter hit3.out (by omega))
          have hpos2 : Hid (w3.iterPos (w.heap.size + 1) = pos + k) := Lib.hid (by simp only [World.iterPos, hit4.out])
          go_wp2
          go_roundw
          case rel => exact ⟨pos + k, D ++ [x], false, _, rfl, builder_rune h2, hf2, hit4, hD2, (hb2.trans b1).trans b2⟩
          case measure => rw [hpos.out, hpos2.out]; omega
        · have hgo' : g = false ∨ O = [] := by
            cases g with
            | false => exact .inl rfl
            | true => exact .inr (by by_cases h : O = []; exact h; exact absurd ⟨rfl, h⟩ hgo)
          have hf2 := Lib.hid (hst.out.2.2 hbl hgo')
          have hcase : g = false ∨ (g = true ∧ n = 0) := by
            cases g with
            | false => exact .inl rfl
            | true => exact .inr ⟨rfl, hO0.out.1 (hgo'.resolve_left (by simp))⟩
          clear hgo hgo'
          have hl4' : (bcells (Ru.enc O)).length + 4 ≤ 140737488355328 := by omega
          rcases hcase with rfl | ⟨rfl, hn0⟩
          · go_wp2_with (first
              | (go_at_call 29; refine (blank_any _ _).mono ?_; rintro e w' ⟨rfl, rfl⟩)
              | (go_at_call 60; refine (lk_small_nat _ _ hvx).mono ?_; rintro e w' ⟨rfl, rfl⟩)
              | (go_at_call 44; refine (writeRune_any w.heap.size w.heap.size _ _ (by omega) (by omega) _ hI2 hl4' hz2).mono ?_; rintro e w3 ⟨⟨v, rfl⟩, h2, b2, k2⟩))
            have hit4 := Lib.hid (k2.iter hit2.out (by omega))
            have hpos2 : Hid (w3.iterPos (w.heap.size + 1) = pos + k) := Lib.hid (by simp only [World.iterPos, hit4.out])
            go_wp2
            go_roundw
            case rel => exact ⟨pos + k, D ++ [x], false, _, rfl, builder_rune h2, hf2, hit4, hD2, hb2.trans b2⟩
            case measure => rw [hpos.out, hpos2.out]; omega
          · subst hn0
            go_wp2_with (first
              | (go_at_call 29; refine (blank_any _ _).mono ?_; rintro e w' ⟨rfl, rfl⟩)
              | (go_at_call 58; refine (lk_len_nat w.heap.size w.heap.size _ 0 hn.out _ hI2).mono ?_; rintro e w' ⟨rfl, rfl⟩)
              | (go_at_call 60; refine (lk_small_nat _ _ hvx).mono ?_; rintro e w' ⟨rfl, rfl⟩)
              | (go_at_call 44; refine (writeRune_any w.heap.size w.heap.size _ _ (by omega) (by omega) _ hI2 hl4' hz2).mono ?_; rintro e w3 ⟨⟨v, rfl⟩, h2, b2, k2⟩))
            have hit4 := Lib.hid (k2.iter hit2.out (by omega))
            have hpos2 : Hid (w3.iterPos (w.heap.size + 1) = pos + k) := Lib.hid (by simp only [World.iterPos, hit4.out])
            go_wp2
            go_roundw
            case rel => exact ⟨pos + k, D ++ [x], false, _, rfl, builder_rune h2, hf2, hit4, hD2, hb2.trans b2⟩
            case measure => rw [hpos.out, hpos2.out]; omega
    · have hnx := run_next_done hit.out hp
      have hDe := runes_done hp hD.out
      have hO : O = Ru.fold (Ru.runes l) := by unfold Ru.fold; rw [← hDe, hfo.out]
      subst hO
      clear hD hDe hfo
      have hz : w.heap.size ≤ wr.heap.size := by omega
      go_wp2_with fail
      refine (bld_string w.heap.size w.heap.size _ _ hI hz).mono ?_
      rintro e w3 ⟨rfl, b3⟩
      go_wp2
      go_ret
      exact ⟨rfl, hb.trans b3⟩

/-! ### the small letters of a folded text -/
/-- a rune that is a small letter -/
def smallN (x : Nat) : Bool := decide (97 ≤ x ∧ x ≤ 122)
theorem smallN_bl {x : Nat} (h : Ru.bl x = true) : smallN (Ru.sml x) = false := by
  rw [Ru.bl_iff] at h; unfold smallN Ru.sml; refine decide_eq_false ?_; split <;> omega
theorem smallN_fold (X : List Nat) : (Ru.fold X).filter smallN = (X.map Ru.sml).filter smallN := by
  unfold Ru.fold
  refine Ru.snoc_ind (P := fun X => (Ru.foldS X).2.filter smallN = (X.map Ru.sml).filter smallN) rfl ?_ X
  intro X x ih
  rw [Ru.foldS_snoc, List.map_append, List.filter_append, ← ih]
  unfold Ru.fstep
  cases hb : Ru.bl x with
  | true => simp [smallN_bl hb]
  | false =>
    simp only [Bool.false_eq_true, if_false, List.filter_append, List.map_cons, List.map_nil]
    congr 1
    split
    · rw [List.filter_append]
      have : ([32] : List Nat).filter smallN = [] := rfl
      rw [this, List.append_nil]
    · rfl
theorem smallN_enc (X : List Nat) : Ru.enc (X.filter smallN) = (X.filter smallN).map UInt8.ofNat := by
  induction X with
  | nil => rfl
  | cons x X ih =>
    rw [List.filter_cons]
    split
    · rename_i h
      unfold smallN at h
      have h2 := of_decide_eq_true h
      have he : Lib.encodeRune (x : Int) = [UInt8.ofNat x] := by
        rw [Lib.encodeRune, Lib.encodeRuneZ_one (by omega) (by omega)]; rfl
      rw [List.map_cons, ← ih]
      show Lib.encodeRune (x : Int) ++ _ = _
      rw [he]; rfl
    · exact ih
theorem smallN_byte (b : UInt8) : smallN (Ru.sml b.toNat) = Lk.small (Lk.low b) ∧ UInt8.ofNat (Ru.sml b.toNat) = Lk.low b := by
  have h : Ru.sml b.toNat = (Lk.low b).toNat := by
    unfold Ru.sml
    split
    · rename_i h; exact (low_up h.1 h.2).1.symm
    · rw [low_id (by omega)]
  rw [h]
  exact ⟨rfl, by simp⟩
theorem word_high {l : List UInt8} (h : ∀ b ∈ l, 128 ≤ b.toNat) : Lk.word l = [] := by
  unfold Lk.word
  rw [List.filter_eq_nil_iff]
  intro b hb
  obtain ⟨c, hc, rfl⟩ := List.mem_map.1 hb
  have := h c hc
  rw [low_id (by omega)]
  intro hs
  have := (Lk.small_iff _).1 hs
  omega
theorem word_append (a b : List UInt8) : Lk.word (a ++ b) = Lk.word a ++ Lk.word b := by unfold Lk.word; rw [List.map_append, List.filter_append]
theorem word_runes : ∀ (n : Nat) (l : List UInt8), l.length ≤ n → (((Ru.runes l).map Ru.sml).filter smallN).map UInt8.ofNat = Lk.word l
  | 0, l, h => by obtain rfl : l = [] := List.eq_nil_of_length_eq_zero (by omega); rfl
  | n + 1, l, h => by
    by_cases hl : 0 < l.length
    · obtain ⟨x, k, hk, hkl, hd, _, hdL, hc⟩ := first_rune hl
      have hr : Ru.runes l = x :: Ru.runes (l.drop k) := by
        have := Ru.runes_at (l := l) (pos := 0) hl
        change Ru.runes (l.drop 0) = (Utf8.decode (bs l) 0).1 :: Ru.runes (l.drop (0 + (Utf8.decode (bs l) 0).2)) at this
        rw [hd] at this
        simpa using this
      have ih := word_runes n (l.drop k) (by rw [List.length_drop]; omega)
      rw [hr, List.map_cons, List.filter_cons]
      have hs : Lk.word l = Lk.word (l.take k) ++ Lk.word (l.drop k) := by rw [← word_append, List.take_append_drop]
      rw [hs, ← ih]
      rcases hc with ⟨h1, rfl, rfl⟩ | ⟨h1, h2, h3⟩
      · have ht : l.take 1 = [l[0]] := by rw [List.take_succ_eq_append_getElem hl]; rfl
        obtain ⟨e1, e2⟩ := smallN_byte l[0]
        rw [ht, e1]
        unfold Lk.word
        rw [List.map_cons, List.map_nil, List.filter_cons]
        cases hq : Lk.small (Lk.low l[0]) with
        | true => simp only [if_true, List.map_cons, e2]; rfl
        | false => simp
      · rw [if_neg (by unfold smallN Ru.sml; rw [decide_eq_true_iff]; split <;> omega)]
        rw [word_high (l := l.take k) (fun b hb => by
          obtain ⟨j, hj, rfl⟩ := List.mem_iff_getElem.1 hb
          rw [List.length_take] at hj
          rw [List.getElem_take]
          exact h3 j (by omega) (by omega) (by omega))]
        rfl
    · obtain rfl : l = [] := List.eq_nil_of_length_eq_zero (by omega); rfl
theorem word_fold (l : List UInt8) : Ru.enc ((Ru.fold (Ru.runes l)).filter smallN) = Lk.word l := by
  rw [smallN_enc, smallN_fold, word_runes l.length l (Nat.le_refl _)]
end Go.Proofs.Ytjkmhcolnidflaa
