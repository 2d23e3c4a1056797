/- Law 12, rows are as rows are: by the program as it is. -/
import Derived.Test.YtkfhkfagmokjpaaDoorMn24
import Derived.Test.YtkfhkfagmokjpaaDoorMn18
import Derived.Test.YtkfhkfagmokjpaaDoorMn19
namespace Go.Proofs.YtkfhkfagmokjpaaDoor
open Go.RowKit

theorem inline_right (s ks : List UInt8) (A : Option Addr) (c : Nat) (ws : List Nat) (A2 : Option Addr) (c2 : Nat) (w : World) (h : Row w w.heap.size 1 A ks.length (bcells ks)) (_ : ks.length ≤ c) (h2 : Row w w.heap.size 1 A2 ws.length (ucells ws)) (_ : ws.length ≤ c2) (hx : ∀ x ∈ ws, x ≤ 65535) (hT : Tabs w)
    (hk : s.length + ks.length + ws.length ≤ 1048576) :
    Calls Tryd.prog 3 #[.string (bs s), .slice A ks.length c, .slice A2 ws.length c2] w fun e w' => e = .returned (.bool true) ∧ Below w.heap.size w w' :=
  ilright_any parse_any ptext_any s ks ws A c A2 c2 w h h2 (by omega) (by omega) (by omega) hx hT
end Go.Proofs.YtkfhkfagmokjpaaDoor
