/- A row of bytes that a text was made: read, written, made a text again. No function of the program is spoken of here. -/
import Derived.Test.YtjkmhcolnidflaaByts
import Derived.Laws.OwnMore
namespace Go.Proofs.Ytjkmhcolnidflaa
open Go.RowKit

/-- a row of bytes, new out of a text (its mark lies behind its cells) -/
def BRow (w : World) (g : Nat) (l : List UInt8) : Prop :=
  ∃ cur : Array Value, w.heap[g]? = some (.cells cur 5 (cur.size, cur.size + 1)) ∧ l.length ≤ cur.size ∧ cur.toList.take l.length = bcells l

theorem BRow.lt {w : World} {g : Nat} {l : List UInt8} (h : BRow w g l) : g < w.heap.size := by
  obtain ⟨cur, hg, _, _⟩ := h
  exact (Array.getElem?_eq_some_iff.1 hg).1
theorem BRow.cell {w : World} {g : Nat} {l : List UInt8} (h : BRow w g l) {j : Nat} (hj : j < l.length) : w.cell? ⟨g, j, none⟩ = some (.int .u8 (l[j].toNat : Int)) := by
  obtain ⟨cur, hg, hl, ht⟩ := h
  rw [cell_of_row w g j cur _ _ hg]
  have h1 : (cur.toList.take l.length)[j]? = (bcells l)[j]? := by rw [ht]
  rw [List.getElem?_take, if_pos hj] at h1
  simpa [bcells, bv, List.getElem?_eq_getElem hj] using h1
theorem BRow.frozen {w : World} {g : Nat} {l : List UInt8} (h : BRow w g l) {j : Nat} (hj : j < l.length) : w.frozen? ⟨g, j, none⟩ = false := by
  obtain ⟨cur, hg, hl, ht⟩ := h
  simp only [World.frozen?, hg, Bool.and_eq_false_iff, decide_eq_false_iff_not]
  left; omega
theorem BRow.set {w : World} {g : Nat} {l : List UInt8} (h : BRow w g l) (j : Nat) (b : UInt8) : BRow (w.setCell ⟨g, j, none⟩ (.int .u8 (b.toNat : Int))) g (l.set j b) := by
  obtain ⟨cur, hg, hl, ht⟩ := h
  refine ⟨cur.setIfInBounds j (.int .u8 (b.toNat : Int)), ?_, by simpa using hl, ?_⟩
  · rw [setCell_eq_setRow w g j cur _ _ _ hg, setRow_heap w g cur _ _ _ hg]
    simp
  · rw [Array.toList_setIfInBounds, List.length_set, List.take_set, ht]
    simp [bcells, List.map_set, bv]
theorem BRow.new (w : World) (l : List UInt8) : BRow (Lib.bytesWorld w 5 (bs l)) w.heap.size l := by
  refine ⟨_, Lib.bytesWorld_at_new w _ _, ?_, ?_⟩
  · simp only [Lib.bytesCells, Array.size_append, Array.size_map, Array.size_replicate]
    have := bs_size l
    simp only [ByteArray.size] at this
    omega
  · simp only [Lib.bytesCells, Array.toList_append, Array.toList_map]
    rw [List.take_append_of_le_length (by simp [bs])]
    simp [bs, bcells, bv, List.take_of_length_le]
theorem BRow.row {w : World} {g : Nat} {l : List UInt8} (h : BRow w g l) : Row w w.heap.size 1 (some ⟨g, 0, none⟩) l.length (bcells l) := by
  refine ⟨by simp [bcells], fun _ => ⟨g, 0, rfl, h.lt, fun j u hu => ?_⟩⟩
  have hj : j < l.length := by have := (List.getElem?_eq_some_iff.1 hu).1; simpa [bcells] using this
  rw [Nat.zero_add, h.cell hj]
  simpa [bcells, bv, List.getElem?_eq_getElem hj] using hu
/-- how many of a sign, and whether all are it -/
theorem count_lt (l : List UInt8) (b : UInt8) : l.count b < l.length ↔ l.all (· == b) = false := by
  have h := List.count_le_length (a := b) (l := l)
  have he := List.count_eq_length (a := b) (l := l)
  rw [← Bool.not_eq_true, List.all_eq_true]
  constructor
  · intro hlt hall
    have := he.2 fun x hx => by have := hall x hx; simp at this; exact this.symm
    omega
  · intro hn
    rcases Nat.lt_or_eq_of_le h with h1 | h1
    · exact h1
    · exact absurd (fun x hx => by have := he.1 h1 x hx; simp [this]) hn
end Go.Proofs.Ytjkmhcolnidflaa
