/- LineNumbers: the closed sentence: all rows of up to six of a, 10, 13 are parted as the document says. No condition. -/
import Derived.Test.YtbddmnhmfmkbhaaKnown
import Derived.ProofKit
namespace Go.Proofs.Ytbddmnhmfmkbhaa
open Go.RowKit

set_option maxHeartbeats 1000000 in
set_option maxRecDepth 100000 in
theorem numbers_any (w : World) :
    Calls Try.prog 3 #[] w fun e w' => e = .returned (.bool true) ∧ Below w.heap.size w w' := by
  go_enter Try.func3, Try.ntmps3
  go_wp2_with fail
  go_loopw [1] (fun n wr => ∃ (k : Nat), k ≤ 1093 ∧ n = .int .i64 k ∧ Below w.heap.size w wr) (fun n _ => 1093 - (intOf n).toNat)
  case atStart => exact ⟨0, by omega, rfl, Below.refl _ _⟩
  case round =>
    obtain ⟨n, hn, rfl, hb⟩ := hrel
    by_cases hlt : n < 1093
    · obtain ⟨wo, rfl⟩ : ∃ wo : World, wo = wr := ⟨_, rfl⟩
      have hzo := hb.size
      go_wp2_with fail
      go_loopw [2, 3] (fun v i wr => ∃ (k : Nat) (l : List UInt8), k + l.length ≤ 1092 ∧ i = .int .i64 k ∧ wr.ownsRow wo.heap.size 5 1 v l.length (bcells l) ∧ Below wo.heap.size wo wr) (fun _ i _ => (intOf i).toNat)
      case atStart => exact ⟨n, [], by simp; omega, rfl, World.ownsRow_nil _ _ _ _, Below.refl _ _⟩
      case round =>
        obtain ⟨k, l, hkl, rfl, hown, hb2⟩ := hrel
        have hz2 := hb2.size
        by_cases hk : 0 < k
        · have hways : ∃ (m : Nat) (x : UInt8), ((k : Int) - 1) % 3 = (m : Int) ∧ ((m = 0 ∧ x = 97) ∨ (m = 1 ∧ x = 10) ∨ (m = 2 ∧ x = 13)) := by
            refine ⟨((k - 1) % 3), if (k - 1) % 3 = 0 then 97 else if (k - 1) % 3 = 1 then 10 else 13, by omega, ?_⟩
            have : (k - 1) % 3 < 3 := Nat.mod_lt _ (by omega)
            rcases (show (k - 1) % 3 = 0 ∨ (k - 1) % 3 = 1 ∨ (k - 1) % 3 = 2 from by omega) with h | h | h <;> simp [h]
          obtain ⟨m, x, hm, hways⟩ := hways
          have hq : Hid (((k : Int) - 1) / 3 = (((k - 1) / 3 : Nat) : Int)) := Lib.hid (by omega)
          have hq2 : (k - 1) / 3 < k := by omega
          rcases hways with ⟨rfl, rfl⟩ | ⟨rfl, rfl⟩ | ⟨rfl, rfl⟩
          all_goals
            go_wp2_with (at_builtin; refine wpList_app_new rfl (.tmp 14) (.tmp 19) rfl byteEI rfl hown rfl rfl rfl (by simp; rfl) (by omega) (by omega) hz2 ?_; intro v2 w2 hown2 hg2 hb3)
            exact ⟨⟨(k - 1) / 3, l ++ [_], by simp; omega, hq.out, by simpa [bcells, bv] using hown2, hb2.trans hb3⟩, by simp [intOf]; omega⟩
        · have hk0 : k = 0 := by omega
          subst hk0
          obtain ⟨A, c, rfl, hlc⟩ := own_shape hown
          have hRb := Lib.hid (Row.own hown)
          clear hown
          go_wp2_with fail
          refine (same_any l _ c _ hRb.out hlc (by omega)).mono ?_
          rintro e w3 ⟨rfl, hb3⟩
          have hbz := ext_trans hb (ext_trans hb2 hb3)
          go_wp2
          go_roundw
          case rel => exact ⟨n + 1, by omega, by go_num, hbz⟩
          case measure => simp [intOf]; omega
    · have hn0 : n = 1093 := by omega
      subst hn0
      go_wp2_with fail
      refine (known_any _).mono ?_
      rintro e w3 ⟨rfl, hb3⟩
      go_wp2
      go_returns
      exact ⟨rfl, ext_trans hb hb3⟩
end Go.Proofs.Ytbddmnhmfmkbhaa
