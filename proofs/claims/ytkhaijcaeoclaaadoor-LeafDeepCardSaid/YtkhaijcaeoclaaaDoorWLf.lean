/- Stage 6's walks, as their frames want them. -/
import Derived.Test.YtkhaijcaeoclaaaDoorWLfTells
import Derived.Test.YtkhaijcaeoclaaaDoorWLfOne
import Derived.Test.YtkhaijcaeoclaaaDoorWLfDeep
import Derived.Test.YtkhaijcaeoclaaaDoorWLfTitles
namespace Go.Proofs.YtkhaijcaeoclaaaDoor
open Go.RowKit
theorem tells_said (l ks : List UInt8) (A : Option Addr) (c : Nat) (w : World) (hz : l.length ≤ 140737488351232) (hR : Row w w.heap.size 1 A ks.length (bcells ks)) (hc : ks.length ≤ c) (hm : c ≤ maxLen) :
    Calls Tryd.prog 4 #[.string (bs l), .slice A ks.length c] w fun e w' => e = .returned (.bool true) ∧ Below w.heap.size w w' :=
  tells_any l ks A c w hR (by omega) (by unfold maxLen at hm; omega)
theorem one_said (ks : List UInt8) (A : Option Addr) (c : Nat) (l : List UInt8) (w : World) (hR : Row w w.heap.size 1 A ks.length (bcells ks)) (hc : ks.length ≤ c) (hm : c ≤ maxLen) (hz : l.length ≤ 140737488351232) :
    Calls Tryd.prog 5 #[.slice A ks.length c, .string (bs l)] w fun e w' => e = .returned (.bool true) ∧ Below w.heap.size w w' :=
  one_any ks l A c w hR (by unfold maxLen at hm; omega) (by omega)
theorem deep_said (ks : List UInt8) (A : Option Addr) (c : Nat) (n : Int) (w : World) (hR : Row w w.heap.size 1 A ks.length (bcells ks)) (hc : ks.length ≤ c) (hm : c ≤ maxLen) (_hn : -9223372036854775808 ≤ n ∧ n ≤ 9223372036854775807) :
    Calls Tryd.prog 6 #[.slice A ks.length c, .int .i64 n] w fun e w' => e = .returned (.bool true) ∧ Below w.heap.size w w' :=
  deep_any ks A c n w hR (by unfold maxLen at hm; omega)
theorem titles_said (n m : Int) (l : List UInt8) (w : World) (hn : -9223372036854775808 ≤ n ∧ n ≤ 9223372036854775807) (_hm : -9223372036854775808 ≤ m ∧ m ≤ 9223372036854775807) (_hz : l.length ≤ 140737488351232) :
    Calls Tryd.prog 7 #[.int .i64 n, .int .i64 m, .string (bs l)] w fun e w' => e = .returned (.bool true) ∧ Below w.heap.size w w' :=
  titles_any n m l w hn
end Go.Proofs.YtkhaijcaeoclaaaDoor
