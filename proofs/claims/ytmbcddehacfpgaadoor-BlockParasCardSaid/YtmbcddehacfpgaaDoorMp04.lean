/- The program's tree of a text made bytes. -/
import Derived.Test.YtmbcddehacfpgaaDoorMr22
import Derived.Test.YtmbcddehacfpgaaDoorMr04
namespace Go.Proofs.YtmbcddehacfpgaaDoor
open Go.RowKit

theorem parse_conv (l : List UInt8) (hl : l.length ≤ 1000000) (w : World) :
    Calls Tryd.prog 7 #[.slice (some ⟨w.heap.size, 0, none⟩) l.length (grownCap w l.length 0 5)] (Lib.bytesWorld w 5 (bs l)) fun e w' => ∃ cs, e = .returned (.agg cs.toArray) ∧ TC w' (fun b => w.heap.size ≤ b ∧ b < w'.heap.size) (Pb.tree (Pb.linesOf l)) cs ∧ Below w.heap.size w w' := by
  refine (pparse l _ _ _ (row_bytes w l) (grownCap_ge _ _ _ _) (by omega)).mono ?_
  rintro e w' ⟨cs, rfl, hT, hb⟩
  have hz := Lib.bytesWorld_size w 5 (bs l)
  exact ⟨cs, rfl, TC_frame (fun b _ => rfl) (fun b hb => ⟨by have := hb.1; omega, hb.2⟩) hT, ext_trans (below_bytes w (bs l)) hb⟩
end Go.Proofs.YtmbcddehacfpgaaDoor
