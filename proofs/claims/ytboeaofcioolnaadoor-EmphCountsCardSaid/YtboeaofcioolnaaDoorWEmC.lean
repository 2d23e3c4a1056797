/- Law 10, two runs of as many signs: by the program as it is. -/
import Derived.Test.YtboeaofcioolnaaDoorEmReal
import Derived.Test.YtboeaofcioolnaaDoorWEmCounts
namespace Go.Proofs.YtboeaofcioolnaaDoor
open Go.RowKit

theorem counts_real (n : Int) (b : Bool) (w : World) (_ : -9223372036854775808 ≤ n ∧ n ≤ 9223372036854775807) (hT : Tabs w) :
    Calls Tryd.prog 7 #[.int .i64 n, .bool b] w fun e w' => e = .returned (.bool true) ∧ Below w.heap.size w w' := counts_said pmatch n b w hT
end Go.Proofs.YtboeaofcioolnaaDoor
