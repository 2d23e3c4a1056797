/- Go's library, where package link calls it, in my words: Cut at one byte, HasPrefix of one byte, Clone. -/
import Derived.Test.YtkfhkfagmokjpaaGreatDoorMp11
import Derived.Test.YtkfhkfagmokjpaaGreatDoorMp03
import Derived.Lib.IndexAny
import Derived.Deep.QuietTactic
import Derived.BigQuiet
namespace Go.Proofs.YtkfhkfagmokjpaaGreatDoor
open Go.RowKit

theorem run_from_at {S : List UInt8} {i : Nat} {v : Int} (h : i ≤ S.length) (hv : v = (i : Int)) (w : World) :
    (Instr.slice 9 (.string (bs S)) (some (.int .i64 v)) none none).run Tryz.prog w = .ok (.string (bs (S.drop i))) w := by subst hv; exact run_from h w

set_option maxHeartbeats 1000000 in
set_option maxRecDepth 100000 in
theorem lk_clone_any (l : List UInt8) (w : World) (hl : l.length ≤ 140737488355328) :
    Calls Tryz.prog 79 #[.string (bs l)] w fun e w' => e = .returned (.string (bs l)) ∧ Below w.heap.size w w' := by
  go_enter Tryz.func79, Tryz.ntmps79
  go_wp2_with (go_at_call 92; refine (Tryz.stringslite_Clone (bs l) _ (by rw [bs_size]; omega)).mono ?_; rintro e w' ⟨rfl, hb⟩)
  go_ret
  exact ⟨rfl, hb⟩
end Go.Proofs.YtkfhkfagmokjpaaGreatDoor
