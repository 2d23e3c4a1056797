/- Law 12, words that are stressed, code, a link: by the program as it is. -/
import Derived.Test.YtkfhkfagmokjpaaDoorMn24
import Derived.Test.YtkfhkfagmokjpaaDoorMn18
import Derived.Test.YtkfhkfagmokjpaaDoorMn19
namespace Go.Proofs.YtkfhkfagmokjpaaDoor
open Go.RowKit

theorem inline_nested (b : Bool) (ws : List Nat) (A2 : Option Addr) (c2 : Nat) (w : World) (h2 : Row w w.heap.size 1 A2 ws.length (ucells ws)) (hc : ws.length ≤ c2) (hm : c2 ≤ maxLen) (hx : ∀ x ∈ ws, x ≤ 65535) (hT : Tabs w) :
    Calls Tryd.prog 4 #[.bool b, .slice A2 ws.length c2] w fun e w' => e = .returned (.bool true) ∧ Below w.heap.size w w' :=
  ilnested_any parse_any ptext_any b ws A2 c2 w h2 (by unfold maxLen at hm; omega) hx hT
end Go.Proofs.YtkfhkfagmokjpaaDoor
