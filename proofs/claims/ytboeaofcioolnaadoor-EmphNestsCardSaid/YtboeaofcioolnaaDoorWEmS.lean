/- Law 10, no two pairs cross: by the program as it is. -/
import Derived.Test.YtboeaofcioolnaaDoorEmReal
import Derived.Test.YtboeaofcioolnaaDoorWEmNests2
namespace Go.Proofs.YtboeaofcioolnaaDoor
open Go.RowKit

theorem nests_real (ks : List UInt8) (A : Option Addr) (c : Nat) (w : World) (h : Row w w.heap.size 1 A ks.length (bcells ks)) (hc : ks.length ≤ c) (hm : c ≤ maxLen) (hT : Tabs w) :
    Calls Tryd.prog 5 #[.slice A ks.length c] w fun e w' => e = .returned (.bool true) ∧ Below w.heap.size w w' := nests_said pmatch ks A c w h hc hm hT
end Go.Proofs.YtboeaofcioolnaaDoor
