/- ColsTells: columns are reckoned as the document says, for any text. -/
import Derived.Test.YthjhbckacpnhnaaClMade
namespace Go.Proofs.Ythjhbckacpnhnaa
open Go.RowKit

set_option maxHeartbeats 4000000 in
set_option maxRecDepth 100000 in
theorem tells_any (l0 : List UInt8) (l1 : List UInt8) (A1 : Option Addr) (c1 : Nat) (n : Int) (w : World) (hz : l0.length ≤ 140737488351232)
    (h1 : Row w w.heap.size 1 A1 l1.length (bcells l1)) (hc1 : l1.length ≤ c1) (hm1 : c1 ≤ maxLen) (_hn : -9223372036854775808 ≤ n ∧ n ≤ 9223372036854775807) :
    Calls Try.prog 4 #[.string (bs l0), .slice A1 l1.length c1, .int .i64 n] w fun e w' => e = .returned (.bool true) ∧ Below w.heap.size w w' := by
  have hR := Lib.hid h1
  have hl1 : l1.length ≤ 9223372036854775807 := by unfold maxLen at hm1; omega
  clear h1 hc1 hm1
  go_enter Try.func4, Try.ntmps4
  go_wp2_with fail
  refine (same_any l0 n _ (by omega)).mono ?_
  rintro e w1 ⟨rfl, hb1⟩
  replace hb1 := Lib.hid hb1
  go_wp2_with fail
  refine (same_any l0 _ _ (by omega)).mono ?_
  rintro e w2 ⟨rfl, hb2⟩
  replace hb2 := Lib.hid (ext_trans hb1.out hb2)
  go_wp2_with fail
  refine (made_any l1 _ _ _ (hR.out.ext hb2.out) hl1).mono ?_
  rintro e w3 ⟨⟨t, rfl, ht, _⟩, hb3⟩
  replace hb3 := Lib.hid (ext_trans hb2.out hb3)
  go_wp2_with fail
  refine (same_any t _ _ (by omega)).mono ?_
  rintro e w4 ⟨rfl, hb4⟩
  replace hb4 := Lib.hid (ext_trans hb3.out hb4)
  go_wp2_with fail
  refine (made_any l1 _ _ _ (hR.out.ext hb4.out) hl1).mono ?_
  rintro e w5 ⟨⟨t2, rfl, ht2, _⟩, hb5⟩
  replace hb5 := Lib.hid (ext_trans hb4.out hb5)
  have hs1 := bs_size t2
  have hs2 := bs_size l0
  go_wp2_with fail
  rw [bs_append]
  refine (same_any (t2 ++ l0) n _ (by rw [List.length_append]; omega)).mono ?_
  rintro e w6 ⟨rfl, hb6⟩
  replace hb6 := Lib.hid (ext_trans hb5.out hb6)
  go_wp2_with fail
  refine (known_any _).mono ?_
  rintro e w7 ⟨rfl, hb7⟩
  go_wp2
  go_ret
  exact ⟨rfl, ext_trans hb6.out hb7⟩
end Go.Proofs.Ythjhbckacpnhnaa
