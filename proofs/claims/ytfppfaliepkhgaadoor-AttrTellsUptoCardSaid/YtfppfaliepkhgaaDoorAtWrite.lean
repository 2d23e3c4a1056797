/- The document's own answer of chapter 5: an info, written, whatever it is of. -/
import Derived.Test.YtfppfaliepkhgaaDoorAtWriteA
import Derived.Test.YtfppfaliepkhgaaDoorAtWriteB
import Derived.Test.YtfppfaliepkhgaaDoorAtWriteC
import Derived.Test.YtfppfaliepkhgaaDoorAtWriteD
namespace Go.Proofs.YtfppfaliepkhgaaDoor
open Go.RowKit

theorem rwrite_any (a : At.Attr) (w : World) (ha : At.fits a) :
    Calls Tryd.prog 11 #[.agg (acells a)] w fun e w' => e = .returned (.string (bs (At.write a))) ∧ Below w.heap.size w w' := by
  obtain ⟨an, nm, fl, sy, ap, nl⟩ := a
  by_cases h : an = []
  · cases ap <;> cases nl
    · exact rwrite_nil_n_n an nm fl sy w ha h
    · exact rwrite_nil_n_l an nm fl sy w ha h
    · exact rwrite_nil_a_n an nm fl sy w ha h
    · exact rwrite_nil_a_l an nm fl sy w ha h
  · cases ap <;> cases nl
    · exact rwrite_cons_n_n an nm fl sy w ha h
    · exact rwrite_cons_n_l an nm fl sy w ha h
    · exact rwrite_cons_a_n an nm fl sy w ha h
    · exact rwrite_cons_a_l an nm fl sy w ha h
end Go.Proofs.YtfppfaliepkhgaaDoor
