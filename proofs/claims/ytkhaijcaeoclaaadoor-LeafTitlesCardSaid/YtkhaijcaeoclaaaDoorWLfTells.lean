/- LeafTells: lines are looked at as the document says. -/
import Derived.Test.YtkhaijcaeoclaaaDoorLfSame
import Derived.Test.YtkhaijcaeoclaaaDoorLfKnown
import Derived.Test.YtkhaijcaeoclaaaDoorLfMade
import Derived.ProofKit
namespace Go.Proofs.YtkhaijcaeoclaaaDoor
open Go.RowKit

set_option maxHeartbeats 4000000 in
set_option maxRecDepth 100000 in
theorem tells_any (l ks : List UInt8) (A : Option Addr) (c : Nat) (w : World) (hR : Row w w.heap.size 1 A ks.length (bcells ks)) (hl : l.length + 300 ≤ 140737488355328) (hkm : ks.length ≤ 9223372036854775807) :
    Calls Tryd.prog 4 #[.string (bs l), .slice A ks.length c] w fun e w' => e = .returned (.bool true) ∧ Below w.heap.size w w' := by
  have hml := md_all ks
  obtain ⟨T, hTT⟩ : ∃ T, md 24 ks = T := ⟨_, rfl⟩
  have hmd := fun w h => made_fn ks A c w h hkm
  rw [hTT] at hml hmd
  have a1 : bs T ++ bs l = bs (T ++ l) := bs_append T l
  have n0 := bs_size T
  have n1 := bs_size l
  have hno : ¬ 9223372036854775807 < T.length + l.length := by omega
  have l1 : (T ++ l).length + 100 ≤ 140737488355328 := by rw [List.length_append]; omega
  obtain ⟨T1, hT1⟩ : ∃ T1, T ++ l = T1 := ⟨_, rfl⟩
  rw [hT1] at a1 l1
  have s0 := fun w => same_any l w (by omega)
  have s1 := fun w => same_any T w (by omega)
  have s2 := fun w => same_any T1 w l1
  clear hTT hT1 l1
  replace hR := Lib.hid hR
  go_enter Tryd.func4, Tryd.ntmps4
  go_wp2_with fail
  refine (s0 _).mono ?_
  rintro e w1 ⟨rfl, hb1⟩
  have hB1 := Lib.hid hb1
  clear hb1
  have hR1 := hR.out.ext hB1.out
  go_wp2_with fail
  refine (hmd _ hR1).mono ?_
  rintro e w2 ⟨rfl, hb2⟩
  have hB2 := Lib.hid (ext_trans hB1.out hb2)
  clear hb2 hB1 hR1
  go_wp2_with fail
  refine (s1 _).mono ?_
  rintro e w3 ⟨rfl, hb3⟩
  have hB3 := Lib.hid (ext_trans hB2.out hb3)
  clear hb3 hB2
  have hR3 := hR.out.ext hB3.out
  go_wp2_with fail
  refine (hmd _ hR3).mono ?_
  rintro e w4 ⟨rfl, hb4⟩
  have hB4 := Lib.hid (ext_trans hB3.out hb4)
  clear hb4 hB3 hR3
  go_wp2_with fail
  refine (s2 _).mono ?_
  rintro e w5 ⟨rfl, hb5⟩
  have hB5 := Lib.hid (ext_trans hB4.out hb5)
  clear hb5 hB4
  go_wp2_with fail
  refine (known_fn _).mono ?_
  rintro e w6 ⟨rfl, hb6⟩
  have hB6 := Lib.hid (ext_trans hB5.out hb6)
  go_wp2_with fail
  go_returns
  exact ⟨rfl, hB6.out⟩
end Go.Proofs.YtkhaijcaeoclaaaDoor
