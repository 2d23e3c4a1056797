/- Law 10, runs between blanks and letters: by the program as it is. -/
import Derived.Test.YtboeaofcioolnaaDoorEmReal
import Derived.Test.YtboeaofcioolnaaDoorWEmPlain
namespace Go.Proofs.YtboeaofcioolnaaDoor
open Go.RowKit

theorem plain_real (n : Int) (b : Bool) (w : World) (_ : -9223372036854775808 ≤ n ∧ n ≤ 9223372036854775807) (hT : Tabs w) :
    Calls Tryd.prog 6 #[.int .i64 n, .bool b] w fun e w' => e = .returned (.bool true) ∧ Below w.heap.size w w' := plain_said pmatch n b w hT
end Go.Proofs.YtboeaofcioolnaaDoor
