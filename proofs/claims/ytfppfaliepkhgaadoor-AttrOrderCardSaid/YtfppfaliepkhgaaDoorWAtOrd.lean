/- AttrOrder's walk, as its frame wants it. -/
import Derived.Test.YtfppfaliepkhgaaDoorWAtOrder
namespace Go.Proofs.YtfppfaliepkhgaaDoor
open Go.RowKit
theorem order_said {P0 P1 : Prop} (l st ks : List UInt8) (A : Option Addr) (c : Nat) (w : World) (_ : P0) (_ : P1) (hR : Row w w.heap.size 1 A ks.length (bcells ks)) (hc : ks.length ≤ c) (hm : c ≤ maxLen) (hT : Tabs w) :
    Calls Tryd.prog 6 #[.string (bs l), .string (bs st), .slice A ks.length c] w fun e w' => e = .returned (.bool true) ∧ Below w.heap.size w w' :=
  order_any l st ks A c w hR (by unfold maxLen at hm; omega) hT
end Go.Proofs.YtfppfaliepkhgaaDoor
