/- The document's own answer of chapter 5: texts that need no quotes. -/
import Derived.Test.YtfppfaliepkhgaaDoorAtRef2
import Derived.Test.YtfppfaliepkhgaaDoorBlk
namespace Go.Proofs.YtfppfaliepkhgaaDoor
open Go.RowKit

theorem ret_bool {a b : Bool} (h : a = b) : Ending.returned (.bool a) = .returned (.bool b) := by rw [h]

set_option maxHeartbeats 1000000 in
set_option maxRecDepth 100000 in
theorem rblank_any (x : Nat) (w : World) :
    Calls Tryd.prog 30 #[.int .i32 (x : Int)] w fun e w' => e = .returned (.bool (At.blank x)) ∧ w = w' := by
  go_enter Tryd.func30, Tryd.ntmps30
  go_wp2
  all_goals go_ret
  all_goals (refine ⟨ret_bool ?_, rfl⟩; (try simp only [beq_iff_eq, beq_eq_false_iff_ne, ne_eq] at *); rw [Bool.eq_iff_iff]; simp [At.blank]; try omega)

/-- what a range hands over at a place, and the rest -/
theorem rune_at {l : List UInt8} {pos : Nat} (h : pos < l.length) : ∃ x k : Nat, 1 ≤ k ∧ pos + k ≤ l.length ∧ Utf8.decode (bs l) pos = (x, k) ∧ Ru.runes (l.drop pos) = x :: Ru.runes (l.drop (pos + k)) := by
  have hd := runes_next.decodeL_drop' l pos
  have hne : l.drop pos ≠ [] := by intro h0; have := congrArg List.length h0; rw [List.length_drop] at this; simp at this; omega
  have hle := (Ru.rune_bytes hne).2.1
  rw [hd, List.length_drop] at hle
  exact ⟨(Utf8.decode (bs l) pos).1, (Utf8.decode (bs l) pos).2, by rw [← hd]; exact Lib.decodeL_width _, by omega, rfl, Ru.runes_at h⟩

theorem bare_split (x : Nat) : (At.blank x = true ∧ At.okRune x = false) ∨ (At.blank x = false ∧ ((x : Int) == 34) = true ∧ At.okRune x = false) ∨ (At.blank x = false ∧ ((x : Int) == 34) = false ∧ ((x : Int) == 61) = true ∧ At.okRune x = false) ∨
    (At.blank x = false ∧ ((x : Int) == 34) = false ∧ ((x : Int) == 61) = false ∧ ((x : Int) == 92) = true ∧ At.okRune x = false) ∨ (At.blank x = false ∧ ((x : Int) == 34) = false ∧ ((x : Int) == 61) = false ∧ ((x : Int) == 92) = false ∧ At.okRune x = true) := by
  have c : ∀ n : Nat, ((x : Int) == (n : Int)) = decide (x = n) := fun n => by rw [Bool.eq_iff_iff]; simp; omega
  have c1 := c 34
  have c2 := c 61
  have c3 := c 92
  rw [show ((34 : Nat) : Int) = 34 from rfl] at c1
  rw [show ((61 : Nat) : Int) = 61 from rfl] at c2
  rw [show ((92 : Nat) : Int) = 92 from rfl] at c3
  rw [c1, c2, c3]
  unfold At.okRune
  cases At.blank x <;> cases decide (x = 34) <;> cases decide (x = 61) <;> cases decide (x = 92) <;> simp

set_option maxHeartbeats 4000000 in
set_option maxRecDepth 100000 in
theorem bare_any (l : List UInt8) (w : World) :
    Calls Tryd.prog 44 #[.string (bs l)] w fun e w' => e = .returned (.bool (At.bare l)) ∧ Below w.heap.size w w' := by
  go_enter Tryd.func44, Tryd.ntmps44
  go_wp2_with fail
  go_loopw [] (fun wr => ∃ pos : Nat, Hid (wr.heap[w.heap.size]? = some (.stringIter (bs l) pos)) ∧ Hid ((Ru.runes l).all At.okRune = (Ru.runes (l.drop pos)).all At.okRune) ∧ Below w.heap.size w wr)
    (fun wr => l.length - wr.iterPos w.heap.size)
  case atStart => exact ⟨0, Lib.hid (iter_new _ _ _ rfl), Lib.hid rfl, ext_alloc _ _⟩
  case round =>
    obtain ⟨pos, hit, hD, hb⟩ := hrel
    by_cases hp : pos < l.length
    · obtain ⟨x, k, hk, _, hd, hr⟩ := rune_at hp
      have hnx := run_next_rune hit.out hp hd
      replace hd := Lib.hid hd
      replace hr := Lib.hid hr
      have hit2 := Lib.hid (Lib.iterAt_heap wr w.heap.size (bs l) pos (pos + k) hit.out)
      have hb2 := Lib.below_iterAt hb (k := w.heap.size) (Nat.le_refl _) (bs l) (pos + k)
      have hpos : Hid (wr.iterPos w.heap.size = pos) := Lib.hid (by simp only [World.iterPos, hit.out])
      have hpos2 : Hid ((wr.iterAt w.heap.size (bs l) (pos + k)).iterPos w.heap.size = pos + k) := Lib.hid (by simp only [World.iterPos, hit2.out])
      have hbl := rblank_any x
      rcases bare_split x with ⟨a, h⟩ | ⟨a, b, h⟩ | ⟨a, b, c, h⟩ | ⟨a, b, c, d, h⟩ | ⟨a, b, c, d, h⟩
      case inr.inr.inr.inr =>
        have hD2 : Hid ((Ru.runes l).all At.okRune = (Ru.runes (l.drop (pos + k))).all At.okRune) := Lib.hid (by rw [hD.out, hr.out, List.all_cons, h, Bool.true_and])
        rw [a] at hbl
        clear a h
        go_wp2_with (go_at_call 30; refine (hbl _).mono ?_; rintro e w' ⟨rfl, rfl⟩)
        go_roundw
        case rel => exact ⟨pos + k, hit2, hD2, hb2⟩
        case measure => rw [hpos.out, hpos2.out]; omega
      all_goals
        have hfin : Hid (At.bare l = false) := Lib.hid (by unfold At.bare; rw [hD.out, hr.out, List.all_cons, h, Bool.false_and, Bool.false_and])
        rw [a] at hbl
        clear a h
        go_wp2_with (go_at_call 30; refine (hbl _).mono ?_; rintro e w' ⟨rfl, rfl⟩)
        go_returns
        exact ⟨by rw [hfin.out]; rfl, hb2⟩
    · have hnx := run_next_done hit.out hp
      have hall : (Ru.runes l).all At.okRune = true := by
        rw [hD.out, List.drop_eq_nil_of_le (by omega)]; rfl
      have hfin : Hid (At.bare l = decide (l ≠ [])) := Lib.hid (by unfold At.bare; rw [hall, Bool.true_and])
      clear hall hD
      rcases l with _ | ⟨b, r⟩
      · have ht := text_nil
        go_wp2_with fail
        go_returns
        exact ⟨by rw [hfin.out]; rfl, hb⟩
      · have ht := text_cons b r
        go_wp2_with fail
        go_returns
        exact ⟨by rw [hfin.out]; rfl, hb⟩
end Go.Proofs.YtfppfaliepkhgaaDoor
