/- ColsNumbers: the closed sentence: all rows of up to five of a blank, a tab, a are reckoned with as the document says. No condition. -/
import Derived.Test.YthjhbckacpnhnaaClSame
import Derived.ProofKit
namespace Go.Proofs.Ythjhbckacpnhnaa
open Go.RowKit

theorem three_ways (k : Nat) (hk : 0 < k) : ∃ (m : Nat) (x : UInt8), ((k : Int) - 1) % 3 = (m : Int) ∧ ((m = 0 ∧ x = 32) ∨ (m = 1 ∧ x = 9) ∨ (m = 2 ∧ x = 97)) := by
  refine ⟨((k - 1) % 3), if (k - 1) % 3 = 0 then 32 else if (k - 1) % 3 = 1 then 9 else 97, by omega, ?_⟩
  have : (k - 1) % 3 < 3 := Nat.mod_lt _ (by omega)
  rcases (show (k - 1) % 3 = 0 ∨ (k - 1) % 3 = 1 ∨ (k - 1) % 3 = 2 from by omega) with h | h | h <;> simp [h]

set_option maxHeartbeats 1000000 in
set_option maxRecDepth 100000 in
theorem numbers_any (w : World) :
    Calls Try.prog 3 #[] w fun e w' => e = .returned (.bool true) ∧ Below w.heap.size w w' := by
  go_enter Try.func3, Try.ntmps3
  go_wp2_with fail
  go_loopw [1] (fun n wr => ∃ (k : Nat), k ≤ 364 ∧ n = .int .i64 k ∧ Below w.heap.size w wr) (fun n _ => 364 - (intOf n).toNat)
  case atStart => exact ⟨0, by omega, rfl, Below.refl _ _⟩
  case round =>
    obtain ⟨n, hn, rfl, hb⟩ := hrel
    by_cases hlt : n < 364
    · obtain ⟨wo, rfl⟩ : ∃ wo : World, wo = wr := ⟨_, rfl⟩
      go_wp2_with fail
      go_loop [2, 3] (fun v i => ∃ (k : Nat) (t : List UInt8), k + t.length ≤ 363 ∧ i = .int .i64 k ∧ v = .string (bs t)) (fun _ i => (intOf i).toNat)
      case atStart => exact ⟨n, [], by simp; omega, rfl, rfl⟩
      case round =>
        obtain ⟨k, t, hkl, rfl, rfl⟩ := hrel
        have hz := bs_size t
        by_cases hk : 0 < k
        · obtain ⟨m, x, hm, hways⟩ := three_ways k hk
          have hq : Hid (((k : Int) - 1) / 3 = (((k - 1) / 3 : Nat) : Int)) := Lib.hid (by omega)
          have hq2 : (k - 1) / 3 < k := by omega
          rcases hways with ⟨rfl, rfl⟩ | ⟨rfl, rfl⟩ | ⟨rfl, rfl⟩
          all_goals
            go_wp2_with fail
            refine ⟨⟨(k - 1) / 3, t ++ [_], by simp; omega, congrArg (Value.int .i64) hq.out, by rw [← bs_append]; rfl⟩, by simp [intOf]; omega⟩
        · have hk0 : k = 0 := by omega
          subst hk0
          clear hk
          go_wp2_with fail
          go_loopw [4] (fun c wr => ∃ (x : Int), -1 ≤ x ∧ x ≤ 22 ∧ c = .int .i64 x ∧ Below wo.heap.size wo wr) (fun c _ => (22 - intOf c).toNat)
          case atStart => exact ⟨-1, by omega, by omega, rfl, Below.refl _ _⟩
          case round =>
            obtain ⟨x, hx1, hx2, rfl, hb2⟩ := hrel
            by_cases hx : x < 22
            · go_wp2_with fail
              refine (same_any t x _ (by omega)).mono ?_
              rintro e w3 ⟨rfl, hb3⟩
              go_wp2
              go_roundw
              case rel => exact ⟨x + 1, by omega, by omega, rfl, ext_trans hb2 hb3⟩
              case measure => simp [intOf]; omega
            · go_wp2_with fail
              go_roundw
              case rel => exact ⟨n + 1, by omega, by go_num, ext_trans hb hb2⟩
              case measure => simp [intOf]; omega
    · have hn0 : n = 364 := by omega
      subst hn0
      go_wp2_with fail
      refine (same_any [9, 9] 4611686018427387904 _ (by decide)).mono ?_
      rintro e w3 ⟨rfl, hb3⟩
      go_wp2_with fail
      refine (same_any [9] (-9223372036854775808) _ (by decide)).mono ?_
      rintro e w4 ⟨rfl, hb4⟩
      go_wp2_with fail
      refine (known_any _).mono ?_
      rintro e w5 ⟨rfl, hb5⟩
      go_wp2
      go_returns
      exact ⟨rfl, ext_trans hb (ext_trans hb3 (ext_trans hb4 hb5))⟩
end Go.Proofs.Ythjhbckacpnhnaa
