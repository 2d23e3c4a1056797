/- The document's own answer: a text without its first columns. -/
import Derived.Test.YtmbcddehacfpgaaDoorMr02
import Derived.Deep.CutBlock
import Derived.Deep.DeepCutAuto
namespace Go.Proofs.YtmbcddehacfpgaaDoor
open Go.RowKit

theorem strip_parts {n : Int} {l : List UInt8} {j : Nat} (h : j = (Cl.lead n l 0).1 - n.toNat) : List.replicate j 32 ++ l.drop (Cl.lead n l 0).2 = Cl.strip n l := by
  subst h; rfl
theorem text_blank (j : Nat) : bs (List.replicate j 32) ++ ⟨#[32]⟩ = bs (List.replicate (j + 1) 32) := by
  rw [show (⟨#[32]⟩ : ByteArray) = bs [32] from rfl, bs_append, List.replicate_succ']

end Go.Proofs.YtmbcddehacfpgaaDoor
