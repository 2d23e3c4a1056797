/- Law 12, the closed sentence: by the program as it is. -/
import Derived.Test.YtkfhkfagmokjpaaGreatDoorMp27
import Derived.Test.YtkfhkfagmokjpaaGreatDoorMp21
import Derived.Test.YtkfhkfagmokjpaaGreatDoorMp22
namespace Go.Proofs.YtkfhkfagmokjpaaGreatDoor
open Go.RowKit

theorem inline_numbers (w : World) (hT : Tabs w) :
    Calls Tryz.prog 3 #[] w fun e w' => e = .returned (.bool true) ∧ Below w.heap.size w w' := ilnumbers_any parse_any ptext_any w hT
end Go.Proofs.YtkfhkfagmokjpaaGreatDoor
