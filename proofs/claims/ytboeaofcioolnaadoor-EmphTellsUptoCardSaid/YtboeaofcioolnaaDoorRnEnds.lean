/- Package runes: the first rune of a text, the last one. -/
import Derived.Test.YtboeaofcioolnaaDoorRnIter
import Derived.Test.YtboeaofcioolnaaDoorRuFold
import Derived.Test.YtboeaofcioolnaaDoorShelf
namespace Go.Proofs.YtboeaofcioolnaaDoor
open Go.RowKit

/-- the first rune, the last one -/
def hdR (l : List UInt8) : Nat := (Ru.runes l).headD 0
def ltR (l : List UInt8) : Nat := (Ru.runes l).getLastD 0

set_option maxHeartbeats 1000000 in
theorem first_none (w : World) :
    Calls Tryd.prog 37 #[.string (bs [])] w fun e w' => e = .returned (.tuple #[.int .i32 0, .bool false]) ∧ Below w.heap.size w w' := by
  go_enter Tryd.func37, Tryd.ntmps37
  go_wp2
  go_loopw [] (fun wr => Hid (wr.heap[w.heap.size]? = some (.stringIter (bs []) 0)) ∧ Below w.heap.size w wr) (fun _ => 0)
  case atStart => exact ⟨Lib.hid (iter_new _ _ _ rfl), ext_alloc _ _⟩
  case round =>
    obtain ⟨hit, hb⟩ := hrel
    have hnx := run_next_done hit.out (Nat.lt_irrefl 0)
    go_wp2
    go_ret2
    exact ⟨rfl, hb⟩

set_option maxHeartbeats 1000000 in
theorem first_some (l : List UInt8) (hne : l ≠ []) (w : World) :
    Calls Tryd.prog 37 #[.string (bs l)] w fun e w' => e = .returned (.tuple #[.int .i32 (hdR l : Int), .bool true]) ∧ Below w.heap.size w w' := by
  have hp : 0 < l.length := List.length_pos_iff.2 hne
  obtain ⟨x, k, hk, hv, hd, hD2⟩ := runes_next (D := []) hp rfl
  have hx : hdR l = x := by unfold hdR; rw [← hD2]; rfl
  replace hx := Lib.hid hx
  replace hne := Lib.hid hne
  clear hD2
  go_enter Tryd.func37, Tryd.ntmps37
  go_wp2
  go_loopw [] (fun wr => Hid (wr.heap[w.heap.size]? = some (.stringIter (bs l) 0)) ∧ Below w.heap.size w wr) (fun _ => 0)
  case atStart => exact ⟨Lib.hid (iter_new _ _ _ rfl), ext_alloc _ _⟩
  case round =>
    obtain ⟨hit, hb⟩ := hrel
    have hnx := run_next_rune hit.out hp hd
    replace hd := Lib.hid hd
    go_wp2
    go_ret2
    exact ⟨by rw [hx.out]; rfl, Lib.below_iterAt hb (Nat.le_refl _) _ _⟩

/-- the tables of unicode/utf8, as they lie -/
abbrev Tabs (w : World) : Prop := Lib.Utf8Tabs 0 1 w

set_option maxHeartbeats 1000000 in
theorem last_none (w : World) :
    Calls Tryd.prog 36 #[.string (bs [])] w fun e w' => e = .returned (.tuple #[.int .i32 0, .bool false]) ∧ Below w.heap.size w w' := by
  have h0 : (bs []).toList = [] := bs_toList []
  go_enter Tryd.func36, Tryd.ntmps36
  go_wp2
  go_ret2
  exact ⟨rfl, Below.refl _ _⟩

set_option maxHeartbeats 1000000 in
theorem last_some (l : List UInt8) (hne : l ≠ []) (w : World) (hs : l.length ≤ 1000000000000) (hT : Tabs w) :
    Calls Tryd.prog 36 #[.string (bs l)] w fun e w' => e = .returned (.tuple #[.int .i32 (ltR l : Int), .bool true]) ∧ Below w.heap.size w w' := by
  have h0 : (bs l).toList.isEmpty = false := by rw [bs_toList]; simpa using hne
  have hx : ((Lib.decodeLastL (bs l).data.toList).1) = ltR l := by
    unfold ltR
    have := Ru.runes_last l hne
    rw [List.getLastD_eq_getLast?, this]
    simp [bs]
  replace hx := Lib.hid hx
  replace hne := Lib.hid hne
  replace hT := Lib.hid hT
  go_enter Tryd.func36, Tryd.ntmps36
  go_wp2_with (go_at_call 43; refine (Tryd.utf8_DecodeLastRuneInString (bs l) _ (by rw [bs_size]; omega) hT.out).mono ?_; rintro e w' ⟨rfl, hb⟩)
  go_ret2
  exact ⟨by rw [hx.out]; rfl, hb⟩
theorem tabs_below {w w' : World} (h : Tabs w) (hb : Below w.heap.size w w') : Tabs w' := Utf8Tabs_below h hb
end Go.Proofs.YtboeaofcioolnaaDoor
