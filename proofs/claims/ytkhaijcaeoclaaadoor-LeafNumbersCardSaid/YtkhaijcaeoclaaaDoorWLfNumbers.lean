/- LeafNumbers: the closed sentence: chapter 6's runs, all rows of up to four of eight pieces. No condition. -/
import Derived.Test.YtkhaijcaeoclaaaDoorLfSame
import Derived.Test.YtkhaijcaeoclaaaDoorLfKnown
import Derived.Test.YtkhaijcaeoclaaaDoorLfMade
import Derived.ProofKit
namespace Go.Proofs.YtkhaijcaeoclaaaDoor
open Go.RowKit

theorem byteEI : EI Tryd.prog 22 5 1 1 := EI.mk' (z := .int .u8 0) Tryd.underlying22 (by kernel_rfl) rfl (by omega)

set_option maxHeartbeats 4000000 in
set_option maxRecDepth 100000 in
theorem numbers_any (w : World) :
    Calls Tryd.prog 3 #[] w fun e w' => e = .returned (.bool true) ∧ Below w.heap.size w w' := by
  go_enter Tryd.func3, Tryd.ntmps3
  go_wp2_with fail
  go_loopw [1] (fun n wr => ∃ (k : Nat), k ≤ 4681 ∧ n = .int .i64 k ∧ Below w.heap.size w wr) (fun n _ => 4681 - (intOf n).toNat)
  case atStart => exact ⟨0, by omega, rfl, Below.refl _ _⟩
  case round =>
    obtain ⟨n, hn, rfl, hb⟩ := hrel
    by_cases hlt : n < 4681
    · obtain ⟨wo, rfl⟩ : ∃ wo : World, wo = wr := ⟨_, rfl⟩
      have hzo := hb.size
      go_wp2_with fail
      go_loopw [2, 3] (fun v i wr => ∃ (k : Nat) (l : List UInt8), k + l.length ≤ 4680 ∧ i = .int .i64 k ∧ wr.ownsRow wo.heap.size 5 1 v l.length (bcells l) ∧ Below wo.heap.size wo wr) (fun _ i _ => (intOf i).toNat)
      case atStart => exact ⟨n, [], by simp; omega, rfl, World.ownsRow_nil _ _ _ _, Below.refl _ _⟩
      case round =>
        obtain ⟨k, l, hkl, rfl, hown, hb2⟩ := hrel
        have hz2 := hb2.size
        by_cases hk : 0 < k
        · obtain ⟨m, hm⟩ : ∃ m, (k - 1) % 8 = m := ⟨_, rfl⟩
          have hm16 : m < 8 := by omega
          have hmi : ((k : Int) - 1) % 8 = (m : Int) := by omega
          have hq : Hid (((k : Int) - 1) / 8 = (((k - 1) / 8 : Nat) : Int)) := Lib.hid (by omega)
          have hq2 : (k - 1) / 8 < k := by omega
          have hwk : IntKind.u8.wrap (m : Int) = m := by
            unfold IntKind.wrap; simp [IntKind.bits, IntKind.signed]; omega
          have hx : Hid (((UInt8.ofNat m).toNat : Int) = m) := Lib.hid (by simp; omega)
          clear hm
          go_wp2_with (at_builtin; refine wpList_app_new rfl (.tmp 16) (.tmp 21) rfl byteEI rfl hown rfl rfl rfl (by simp; rfl) (by omega) (by omega) hz2 ?_; intro v2 w2 hown2 hg2 hb3)
          exact ⟨⟨(k - 1) / 8, l ++ [UInt8.ofNat m], by simp; omega, hq.out, by
            have e : bcells (l ++ [UInt8.ofNat m]) = bcells l ++ [Value.int .u8 (m : Int)] := by
              simp only [bcells, List.map_append, List.map_cons, List.map_nil, bv]; rw [hx.out]
            rw [e, List.length_append]; exact hown2, hb2.trans hb3⟩, by simp [intOf]; omega⟩
        · have hk0 : k = 0 := by omega
          subst hk0
          obtain ⟨A, c, rfl, hlc⟩ := own_shape hown
          have hRb := Row.own hown
          have hom := own_max hown
          have hml := md_all l
          replace hb2 := Lib.hid hb2
          obtain ⟨T, hTT⟩ : ∃ T, md 24 l = T := ⟨_, rfl⟩
          have hmd := fun w h => made_fn l A c w h hom
          rw [hTT] at hml hmd
          have s0 := fun w => same_any T w (by omega)
          have hBo := Lib.hid (ext_trans hb hb2.out)
          clear hown hk hTT hb
          go_wp2_with fail
          refine (hmd _ hRb).mono ?_
          rintro e w3 ⟨rfl, hb3⟩
          have hB3 := Lib.hid (ext_trans hBo.out hb3)
          clear hRb hb3 hBo
          go_wp2_with fail
          refine (s0 _).mono ?_
          rintro e w4 ⟨rfl, hb4⟩
          have hB4 := ext_trans hB3.out hb4
          clear hb4 hB3 s0
          go_wp2_with fail
          go_roundw
          case rel => exact ⟨n + 1, by omega, by go_num, hB4⟩
          case measure => simp [intOf]; omega
    · obtain ⟨wo, rfl⟩ : ∃ wo : World, wo = wr := ⟨_, rfl⟩
      go_wp2_with fail
      go_loopw [4] (fun i wr => ∃ k : Nat, k ≤ 12 ∧ i = .int .i64 k ∧ Below w.heap.size w wr) (fun i _ => 12 - (intOf i).toNat)
      case atStart => exact ⟨0, by omega, rfl, hb⟩
      case round =>
        obtain ⟨k, hk, rfl, hb2⟩ := hrel
        by_cases hk2 : k < 12
        · obtain ⟨m, hm, hm2, hm7⟩ : ∃ m : Nat, (if (7 : Int) < (k : Int) then (7 : Int) else (k : Int)) = (m : Int) ∧ min (k : Int) 7 = (m : Int) ∧ m ≤ 7 := ⟨min k 7, by split <;> omega, by omega, by omega⟩
          have hex : (⟨#[35, 35, 35, 35, 35, 35, 35]⟩ : ByteArray).extract 0 m = bs (([35, 35, 35, 35, 35, 35, 35] : List UInt8).take m) := by
            apply ByteArray.ext
            simp only [bs, ByteArray.data_extract, List.extract_toArray, List.extract_eq_take_drop]
            simp
          obtain ⟨T, hT⟩ : ∃ T, ([35, 35, 35, 35, 35, 35, 35] : List UInt8).take m = T := ⟨_, rfl⟩
          have hTl : T.length ≤ 7 := by rw [← hT, List.length_take]; simp; omega
          rw [hT] at hex
          have a1 : bs T ++ (⟨#[32, 97]⟩ : ByteArray) = bs (T ++ [32, 97]) := bs_append T [32, 97]
          have a2 : (⟨#[32, 32, 32]⟩ : ByteArray) ++ bs T = bs ([32, 32, 32] ++ T) := bs_append [32, 32, 32] T
          have a3 : bs ([32, 32, 32] ++ T) ++ (⟨#[9, 97, 32, 35, 9]⟩ : ByteArray) = bs ([32, 32, 32] ++ T ++ [9, 97, 32, 35, 9]) := bs_append ([32, 32, 32] ++ T) [9, 97, 32, 35, 9]
          have a4 : (⟨#[32, 32, 32, 32]⟩ : ByteArray) ++ bs T = bs ([32, 32, 32, 32] ++ T) := bs_append [32, 32, 32, 32] T
          have a5 : bs ([32, 32, 32, 32] ++ T) ++ (⟨#[32, 97]⟩ : ByteArray) = bs ([32, 32, 32, 32] ++ T ++ [32, 97]) := bs_append ([32, 32, 32, 32] ++ T) [32, 97]
          have n0 := bs_size T
          have n2 := bs_size ([32, 32, 32] ++ T)
          have n4 := bs_size ([32, 32, 32, 32] ++ T)
          have l1 : (T ++ [32, 97]).length ≤ 100 := by simp; omega
          have l2 : ([32, 32, 32] ++ T).length ≤ 100 := by simp; omega
          have l3 : ([32, 32, 32] ++ T ++ [9, 97, 32, 35, 9]).length ≤ 100 := by simp; omega
          have l4 : ([32, 32, 32, 32] ++ T).length ≤ 100 := by simp; omega
          have l5 : ([32, 32, 32, 32] ++ T ++ [32, 97]).length ≤ 100 := by simp; omega
          obtain ⟨T3, hT3⟩ : ∃ T3, [32, 32, 32] ++ T ++ [9, 97, 32, 35, 9] = T3 := ⟨_, rfl⟩
          obtain ⟨T5, hT5⟩ : ∃ T5, [32, 32, 32, 32] ++ T ++ [32, 97] = T5 := ⟨_, rfl⟩
          obtain ⟨T1, hT1⟩ : ∃ T1, T ++ [32, 97] = T1 := ⟨_, rfl⟩
          rw [hT3] at a3 l3
          rw [hT5] at a5 l5
          rw [hT1] at a1 l1
          obtain ⟨T2, hT2⟩ : ∃ T2, [32, 32, 32] ++ T = T2 := ⟨_, rfl⟩
          obtain ⟨T4, hT4⟩ : ∃ T4, [32, 32, 32, 32] ++ T = T4 := ⟨_, rfl⟩
          rw [hT2] at a2 a3 n2 l2
          rw [hT4] at a4 a5 n4 l4
          have m1 : ¬ 9223372036854775807 < T.length + 2 := by omega
          have m2 : ¬ 9223372036854775807 < 3 + T.length := by omega
          have m3 : ¬ 9223372036854775807 < T2.length + 5 := by omega
          have m4 : ¬ 9223372036854775807 < 4 + T.length := by omega
          have m5 : ¬ 9223372036854775807 < T4.length + 2 := by omega
          have s0 := fun w => same_any T w (by omega)
          have s1 := fun w => same_any T1 w (by omega)
          have s3 := fun w => same_any T3 w (by omega)
          have s5 := fun w => same_any T5 w (by omega)
          clear hT hT1 hT2 hT3 hT4 hT5 l1 l2 l3 l4 l5
          replace hb2 := Lib.hid hb2
          go_wp2_with fail
          refine (s0 _).mono ?_
          rintro e w3 ⟨rfl, hb3⟩
          have hB3 := Lib.hid (ext_trans hb2.out hb3)
          clear hb3 s0
          go_wp2_with fail
          refine (s1 _).mono ?_
          rintro e w4 ⟨rfl, hb4⟩
          have hB4 := Lib.hid (ext_trans hB3.out hb4)
          clear hb4 hB3 s1
          go_wp2_with fail
          refine (s3 _).mono ?_
          rintro e w5 ⟨rfl, hb5⟩
          have hB5 := Lib.hid (ext_trans hB4.out hb5)
          clear hb5 hB4 s3
          go_wp2_with fail
          refine (s5 _).mono ?_
          rintro e w6 ⟨rfl, hb6⟩
          have hB6 := ext_trans hB5.out hb6
          clear hb6 hB5 s5
          go_wp2_with fail
          go_roundw
          case rel => exact ⟨k + 1, by omega, by go_num, hB6⟩
          case measure => simp [intOf]; omega
        · go_wp2_with fail
          refine (known_fn _).mono ?_
          rintro e w9 ⟨rfl, hb9⟩
          go_wp2_with fail
          go_returns
          exact ⟨rfl, ext_trans hb2 hb9⟩
end Go.Proofs.YtkhaijcaeoclaaaDoor
