/- A text made bytes. No function of the program is spoken of here. -/
import Derived.Test.YtjkmhcolnidflaaMem
import Derived.Test.YtjkmhcolnidflaaRows
import Derived.Lib.ConvBytes
namespace Go.Proofs.Ytjkmhcolnidflaa
open Go.RowKit

theorem run_bytes (l : List UInt8) (w : World) :
    (convert 9 22 (.string (bs l))).run Try.prog w = .ok (.slice (some ⟨w.heap.size, 0, none⟩) l.length (grownCap w l.length 0 5)) (Lib.bytesWorld w 5 (bs l)) := by
  have := Lib.run_convert_string_bytes (P := Try.prog) w 9 22 5 (bs l) Try.underlying9 Try.underlying22 Try.underlying5
  rwa [bs_size] at this
theorem below_bytes (w : World) (s : ByteArray) : Below w.heap.size w (Lib.bytesWorld w 5 s) := by
  refine ⟨?_, ?_, ?_, by rw [Lib.bytesWorld_size]; omega, fun k hk => Lib.bytesWorld_at_old w _ s k hk⟩
  all_goals
    unfold Lib.bytesWorld World.freeze
    split <;> rfl
theorem row_bytes (w : World) (l : List UInt8) : Row (Lib.bytesWorld w 5 (bs l)) (Lib.bytesWorld w 5 (bs l)).heap.size 1 (some ⟨w.heap.size, 0, none⟩) l.length (bcells l) := by
  refine ⟨by simp [bcells], fun _ => ⟨w.heap.size, 0, rfl, by rw [Lib.bytesWorld_size]; omega, fun j u hu => ?_⟩⟩
  have hj : j < l.length := by have := (List.getElem?_eq_some_iff.1 hu).1; simpa [bcells] using this
  rw [Nat.zero_add, Lib.bytesWorld_cell w _ _ j (by rw [bs_size]; exact hj)]
  simp [bcells, bv, List.getElem?_eq_getElem hj] at hu
  simp [bs, List.getD, List.getElem?_eq_getElem hj, ← hu]
end Go.Proofs.Ytjkmhcolnidflaa
