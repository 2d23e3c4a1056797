/- FenceNumbers: the closed sentence: all rows of up to five of a blank, two signs, a are known as the document says. No condition. -/
import Derived.Test.YtcdpecpjhoejnaaDoorFnSame
import Derived.Test.YtcdpecpjhoejnaaDoorFnMade
import Derived.ProofKit
namespace Go.Proofs.YtcdpecpjhoejnaaDoor
open Go.RowKit

theorem byteEI : EI Tryd.prog 22 5 1 1 := EI.mk' (z := .int .u8 0) Tryd.underlying22 (by kernel_rfl) rfl (by omega)

theorem four_ways (k : Nat) (hk : 0 < k) : ∃ (m : Nat) (x : UInt8), ((k : Int) - 1) % 4 = (m : Int) ∧ ((m = 0 ∧ x = 0) ∨ (m = 1 ∧ x = 2) ∨ (m = 2 ∧ x = 3) ∨ (m = 3 ∧ x = 6)) := by
  refine ⟨((k - 1) % 4), if (k - 1) % 4 = 0 then 0 else if (k - 1) % 4 = 1 then 2 else if (k - 1) % 4 = 2 then 3 else 6, by omega, ?_⟩
  have : (k - 1) % 4 < 4 := Nat.mod_lt _ (by omega)
  rcases (show (k - 1) % 4 = 0 ∨ (k - 1) % 4 = 1 ∨ (k - 1) % 4 = 2 ∨ (k - 1) % 4 = 3 from by omega) with h | h | h | h <;> simp [h]

set_option maxHeartbeats 4000000 in
set_option maxRecDepth 100000 in
theorem numbers_any (w : World) :
    Calls Tryd.prog 3 #[] w fun e w' => e = .returned (.bool true) ∧ Below w.heap.size w w' := by
  go_enter Tryd.func3, Tryd.ntmps3
  go_wp2_with fail
  go_loopw [1] (fun n wr => ∃ (k : Nat), k ≤ 1365 ∧ n = .int .i64 k ∧ Below w.heap.size w wr) (fun n _ => 1365 - (intOf n).toNat)
  case atStart => exact ⟨0, by omega, rfl, Below.refl _ _⟩
  case round =>
    obtain ⟨n, hn, rfl, hb⟩ := hrel
    by_cases hlt : n < 1365
    · obtain ⟨wo, rfl⟩ : ∃ wo : World, wo = wr := ⟨_, rfl⟩
      have hzo := hb.size
      go_wp2_with fail
      go_loopw [2, 3] (fun v i wr => ∃ (k : Nat) (l : List UInt8), k + l.length ≤ 1364 ∧ i = .int .i64 k ∧ wr.ownsRow wo.heap.size 5 1 v l.length (bcells l) ∧ Below wo.heap.size wo wr) (fun _ i _ => (intOf i).toNat)
      case atStart => exact ⟨n, [], by simp; omega, rfl, World.ownsRow_nil _ _ _ _, Below.refl _ _⟩
      case round =>
        obtain ⟨k, l, hkl, rfl, hown, hb2⟩ := hrel
        have hz2 := hb2.size
        by_cases hk : 0 < k
        · obtain ⟨m, x, hm, hways⟩ := four_ways k hk
          have hq : Hid (((k : Int) - 1) / 4 = (((k - 1) / 4 : Nat) : Int)) := Lib.hid (by omega)
          have hq2 : (k - 1) / 4 < k := by omega
          rcases hways with ⟨rfl, hx⟩ | ⟨rfl, hx⟩ | ⟨rfl, hx⟩ | ⟨rfl, hx⟩
          all_goals
            replace hx := Lib.hid hx
            go_wp2_with (at_builtin; refine wpList_app_new rfl (.tmp 14) (.tmp 21) rfl byteEI rfl (hown.alloc _) rfl (by simp) rfl (by simp; rfl) (by omega) (by omega) (by simp; omega) ?_; intro v2 w2 hown2 hg2 hb3)
            exact ⟨⟨(k - 1) / 4, l ++ [x], by simp; omega, hq.out, by rw [hx.out]; simpa [bcells, bv] using hown2, (hb2.alloc hz2 _).trans hb3⟩, by simp [intOf]; omega⟩
        · have hk0 : k = 0 := by omega
          subst hk0
          obtain ⟨A, c, rfl, hlc⟩ := own_shape hown
          have hRb := Lib.hid (Row.own hown)
          replace hb2 := Lib.hid hb2
          clear hown hk
          go_wp2_with fail
          refine (made_any l A c _ hRb.out (by omega)).mono ?_
          rintro e w3 ⟨⟨t0, rfl, h0⟩, hb3⟩
          replace hb3 := Lib.hid (ext_trans hb2.out hb3)
          go_wp2_with fail
          refine (made_any [3] _ _ _ (Row.fresh _ _ _ _ rfl rfl) (by decide)).mono ?_
          rintro e w4 ⟨⟨t1, rfl, h1⟩, hb4⟩
          replace hb4 := Lib.hid (ext_trans hb3.out (ext_trans (ext_alloc _ _) hb4))
          go_wp2_with fail
          refine (made_any [0, 3, 0] _ _ _ (Row.fresh _ _ _ _ rfl rfl) (by decide)).mono ?_
          rintro e w5 ⟨⟨t2, rfl, h2⟩, hb5⟩
          replace hb5 := Lib.hid (ext_trans hb4.out (ext_trans (ext_alloc _ _) hb5))
          go_wp2_with fail
          refine (made_any [2, 2, 2, 2, 2] _ _ _ (Row.fresh _ _ _ _ rfl rfl) (by decide)).mono ?_
          rintro e w6 ⟨⟨t3, rfl, h3⟩, hb6⟩
          replace hb6 := Lib.hid (ext_trans hb5.out (ext_trans (ext_alloc _ _) hb6))
          go_wp2_with fail
          refine (made_any [5] _ _ _ (Row.fresh _ _ _ _ rfl rfl) (by decide)).mono ?_
          rintro e w7 ⟨⟨t4, rfl, h4⟩, hb7⟩
          replace hb7 := Lib.hid (ext_trans hb6.out (ext_trans (ext_alloc _ _) hb7))
          go_wp2_with fail
          refine (same_any t0 [t1, t2, t3, t4] _ _ _ (Row.fresh _ _ _ _ rfl rfl) (by omega) (by simp) (by intro s hs; simp at hs; rcases hs with rfl | rfl | rfl | rfl <;> omega)).mono ?_
          rintro e w8 ⟨rfl, hb8⟩
          have hbz := Lib.hid (ext_trans hb (ext_trans hb7.out (ext_trans (ext_alloc _ _) hb8)))
          go_wp2
          go_roundw
          case rel => exact ⟨n + 1, by omega, by go_num, hbz.out⟩
          case measure => simp [intOf]; omega
    · have hn0 : n = 1365 := by omega
      subst hn0
      go_wp2_with fail
      refine (known_any _).mono ?_
      rintro e w3 ⟨rfl, hb3⟩
      go_wp2
      go_returns
      exact ⟨rfl, ext_trans hb hb3⟩
end Go.Proofs.YtcdpecpjhoejnaaDoor
