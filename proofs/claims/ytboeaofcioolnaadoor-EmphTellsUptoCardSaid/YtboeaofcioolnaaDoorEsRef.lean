/- The document's own signs that mean themselves: one contract for each function. -/
import Derived.Test.YtboeaofcioolnaaDoorEsMath
import Derived.Test.YtboeaofcioolnaaDoorByt
import Derived.Test.YtboeaofcioolnaaDoorRnIter
import Derived.Test.YtboeaofcioolnaaDoorRnRunes
namespace Go.Proofs.YtboeaofcioolnaaDoor
open Go.RowKit

set_option maxHeartbeats 2000000 in
set_option maxRecDepth 100000 in
theorem rone_any (l : List UInt8) (k : Nat) (h : k < l.length) (hs : l.length ≤ 1000000000000) (w : World) :
    Calls Tryd.prog 30 #[.string (bs l), .int .i64 (k : Int)] w fun e w' => e = .returned (.tuple #[.int .i32 ((Lib.decodeL (l.drop k)).1 : Int), .int .i64 ((Lib.decodeL (l.drop k)).2 : Int)]) ∧ Below w.heap.size w w' := by
  have hfr := run_from (S := l) (i := k) (by omega) w
  have hsz := bs_size l
  obtain ⟨T, hT⟩ : ∃ T, T = l.drop k := ⟨_, rfl⟩
  have hTl : T.length = l.length - k := by rw [hT, List.length_drop]
  rw [← hT] at hfr ⊢
  clear hT
  obtain ⟨x, n, hn, hle, hd, _⟩ := rune_at (l := T) (pos := 0) (by omega)
  rw [Nat.zero_add] at hle
  have hde : Hid (Lib.decodeL T = (x, n)) := Lib.hid (by rw [← hd, ← runes_next.decodeL_drop' T 0, List.drop_zero])
  rw [hde.out]
  go_enter Tryd.func30, Tryd.ntmps30
  go_wp2
  go_loopw [7, 6] (fun o m wr => ∃ (pos : Nat), Hid (wr.heap[w.heap.size]? = some (.stringIter (bs T) pos)) ∧ Below w.heap.size w wr ∧ (pos = 0 ∨ pos = n ∧ o = .int .i32 (x : Int) ∧ m = .int .i64 ((l.length : Int) - k)))
    (fun _ _ wr => T.length - wr.iterPos w.heap.size)
  case atStart => exact ⟨0, Lib.hid (iter_new _ _ _ rfl), ext_alloc _ _, .inl rfl⟩
  case round =>
    obtain ⟨pos, hit, hb, rfl | ⟨rfl, rfl, rfl⟩⟩ := hrel
    · have hnx := run_next_rune hit.out (show 0 < T.length by omega) hd
      replace hd := Lib.hid hd
      have hit2 := Lib.hid (Lib.iterAt_heap wr w.heap.size (bs T) 0 n hit.out)
      have hb2 := Lib.below_iterAt hb (k := w.heap.size) (Nat.le_refl _) (bs T) n
      have hpos := Lib.hid (show wr.iterPos w.heap.size = 0 by simp only [World.iterPos, hit.out])
      have hpos2 := Lib.hid (show (wr.iterAt w.heap.size (bs T) n).iterPos w.heap.size = n by simp only [World.iterPos, hit2.out])
      go_wp2
      go_roundw
      case rel => exact ⟨n, hit2, hb2, .inr ⟨rfl, rfl, by go_num⟩⟩
      case measure => rw [hpos.out, hpos2.out]; omega
    · by_cases hp : pos < T.length
      · obtain ⟨x2, n2, _, _, hd2, _⟩ := rune_at (l := T) (pos := pos) hp
        have hnx := run_next_rune hit.out hp hd2
        replace hd := Lib.hid hd
        replace hd2 := Lib.hid hd2
        have hb2 := Lib.below_iterAt hb (k := w.heap.size) (Nat.le_refl _) (bs T) (pos + n2)
        go_wp2
        go_ret2
        exact ⟨rfl, hb2⟩
      · have hnx := run_next_done hit.out hp
        replace hd := Lib.hid hd
        have he : ((l.length : Int) - k) = pos := by omega
        rw [he]
        go_wp2
        go_ret2
        exact ⟨rfl, hb⟩

/-- what Next answers -/
def nextV (l : List UInt8) (k : Nat) : Value := .tuple #[.int .i32 ((Es.next l k).1 : Int), .int .i64 ((Es.next l k).2.1 : Int), .bool (Es.next l k).2.2]
theorem nextV_out {l : List UInt8} {k : Nat} (h : l.length ≤ k) : nextV l k = .tuple #[.int .i32 0, .int .i64 (l.length : Int), .bool false] := by
  unfold nextV; rw [Es.next_out h]; rfl
theorem nextV_yes {l : List UInt8} {k : Nat} (h : k + 1 < l.length) (h1 : l[k] = 92) (h2 : Es.asc l[k + 1] = true) : nextV l k = .tuple #[.int .i32 (l[k + 1].toNat : Int), .int .i64 ((k : Int) + 2), .bool true] := by
  have hd : l.drop k = l[k] :: l[k + 1] :: l.drop (k + 2) := by rw [List.drop_eq_getElem_cons (by omega), List.drop_eq_getElem_cons (by omega)]
  have he : Es.isEsc (l.drop k) = true := by rw [hd]; simp [Es.isEsc, h1, h2]
  unfold nextV; rw [Es.next_in (by omega), Es.step_yes he, hd]; rfl
theorem nextV_no {l : List UInt8} {k : Nat} (h : k < l.length) (he : Es.isEsc (l.drop k) = false) : nextV l k = .tuple #[.int .i32 ((Lib.decodeL (l.drop k)).1 : Int), .int .i64 ((k : Int) + (Lib.decodeL (l.drop k)).2), .bool false] := by
  unfold nextV; rw [Es.next_in h, Es.step_no he]; simp
theorem isEsc_no {l : List UInt8} {k : Nat} (h : k < l.length) (h1 : l[k] ≠ 92 ∨ l.length ≤ k + 1 ∨ ∃ h : k + 1 < l.length, Es.asc l[k + 1] = false) : Es.isEsc (l.drop k) = false := by
  rw [List.drop_eq_getElem_cons h]
  rcases h1 with h1 | h1 | ⟨h1, h2⟩
  · exact Es.isEsc_high h1
  · rw [List.drop_eq_nil_of_le h1]; rfl
  · rw [List.drop_eq_getElem_cons h1]; simp [Es.isEsc, h2]

end Go.Proofs.YtboeaofcioolnaaDoor
