/- Law 10, the closed sentence: by the program as it is. -/
import Derived.Test.YtboeaofcioolnaaDoorEmReal
import Derived.Test.YtboeaofcioolnaaDoorWEmNumbers
namespace Go.Proofs.YtboeaofcioolnaaDoor
open Go.RowKit

theorem numbers_real (w : World) (hT : Tabs w) :
    Calls Tryd.prog 3 #[] w fun e w' => e = .returned (.bool true) ∧ Below w.heap.size w w' := numbers_any pmatch w hT
end Go.Proofs.YtboeaofcioolnaaDoor
