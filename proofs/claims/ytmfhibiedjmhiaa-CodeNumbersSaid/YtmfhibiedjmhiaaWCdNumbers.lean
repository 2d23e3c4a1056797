/- CodeNumbers: chapter 9's runs, all rows of up to six of four signs, from each place. -/
import Derived.Test.YtmfhibiedjmhiaaCdSame
import Derived.ProofKit
namespace Go.Proofs.Ytmfhibiedjmhiaa
open Go.RowKit

theorem byteEI : EI Try.prog 22 5 1 1 := EI.mk' (z := .int .u8 0) Try.underlying22 (by kernel_rfl) rfl (by omega)

set_option maxHeartbeats 8000000 in
set_option maxRecDepth 100000 in
theorem numbers_any (w : World) :
    Calls Try.prog 3 #[] w fun e w' => e = .returned (.bool true) ∧ Below w.heap.size w w' := by
  go_enter Try.func3, Try.ntmps3
  go_wp2_with fail
  go_loopw [1] (fun n wr => ∃ (k : Nat), k ≤ 5461 ∧ n = .int .i64 k ∧ Below w.heap.size w wr) (fun n _ => 5461 - (intOf n).toNat)
  case atStart => exact ⟨0, by omega, rfl, Below.refl _ _⟩
  case round =>
    obtain ⟨n, hn, rfl, hb⟩ := hrel
    by_cases hlt : n < 5461
    · obtain ⟨wo, rfl⟩ : ∃ wo : World, wo = wr := ⟨_, rfl⟩
      have hzo := hb.size
      go_wp2_with fail
      rw [show decide ((n : Int) < 5461) = true from decide_eq_true (by omega)]
      go_loopw [2, 3] (fun v i wr => ∃ (k : Nat) (l : List UInt8), k + l.length ≤ 5460 ∧ i = .int .i64 k ∧ wr.ownsRow wo.heap.size 5 1 v l.length (bcells l) ∧ Below wo.heap.size wo wr) (fun _ i _ => (intOf i).toNat)
      case atStart => exact ⟨n, [], by simp; omega, rfl, World.ownsRow_nil _ _ _ _, Below.refl _ _⟩
      case round =>
        obtain ⟨k, l, hkl, rfl, hown, hb2⟩ := hrel
        have hz2 := hb2.size
        by_cases hk : 0 < k
        · obtain ⟨m, hm⟩ : ∃ m, (k - 1) % 4 = m := ⟨_, rfl⟩
          have hm16 : m < 4 := by omega
          have hmi : ((k : Int) - 1) % 4 = (m : Int) := by omega
          have hq : Hid (((k : Int) - 1) / 4 = (((k - 1) / 4 : Nat) : Int)) := Lib.hid (by omega)
          have hq2 : (k - 1) / 4 < k := by omega
          have hwk : IntKind.u8.wrap (m : Int) = m := by
            unfold IntKind.wrap; simp [IntKind.bits, IntKind.signed]; omega
          have hx : Hid (((UInt8.ofNat m).toNat : Int) = m) := Lib.hid (by simp; omega)
          clear hm
          go_wp2_with (at_builtin; refine wpList_app_new rfl (.tmp 16) (.tmp 21) rfl byteEI rfl hown rfl rfl rfl (by simp; rfl) (by omega) (by omega) hz2 ?_; intro v2 w2 hown2 hg2 hb3)
          exact ⟨⟨(k - 1) / 4, l ++ [UInt8.ofNat m], by simp; omega, by rw [hq.out], by
            have e : bcells (l ++ [UInt8.ofNat m]) = bcells l ++ [Value.int .u8 (m : Int)] := by
              simp only [bcells, List.map_append, List.map_cons, List.map_nil, bv]; rw [hx.out]
            rw [e, List.length_append]; exact hown2, hb2.trans hb3⟩, by simp [intOf]; omega⟩
        · have hk0 : k = 0 := by omega
          subst hk0
          obtain ⟨A, c, rfl, hlc⟩ := own_shape hown
          have hRb := Lib.hid (Row.own hown)
          have hom := own_max hown
          replace hb2 := Lib.hid hb2
          clear hown hk
          go_wp2_with fail
          refine (made_any l A c _ hRb.out hom).mono ?_
          rintro e w3 ⟨rfl, hb3⟩
          have hT := made9_len l
          obtain ⟨T, hTT⟩ : ∃ T, T = made9 l := ⟨_, rfl⟩
          rw [← hTT] at hT ⊢
          clear hTT
          have hbo := Lib.hid (ext_trans hb (ext_trans hb2.out hb3))
          clear hRb hb3 hb2 hb
          go_wp2_with fail
          go_loopw [5] (fun j wq => ∃ z : Int, -1 ≤ z ∧ z ≤ 7 ∧ j = .int .i64 z ∧ Below w3.heap.size w3 wq) (fun j _ => (7 - intOf j).toNat)
          case atStart => exact ⟨-1, by omega, by omega, rfl, Below.refl _ _⟩
          case round =>
            obtain ⟨z, hz1, hz3, rfl, hbq⟩ := hrel
            by_cases hzl : z < 7
            · go_wp2_with fail
              refine (same_any T z (by omega) _).mono ?_
              rintro e w4 ⟨rfl, hb4⟩
              replace hb4 := Lib.hid (ext_trans hbq hb4)
              clear hbq
              go_wp2_with fail
              refine (crun_of T z 96 _ (by omega) (by omega)).mono ?_
              rintro e w5 ⟨rfl, rfl⟩
              go_wp2_with fail
              refine (rrun_of T z 96 _ (by omega) (by omega)).mono ?_
              rintro e w5 ⟨rfl, rfl⟩
              go_wp2
              go_roundw
              case rel => exact ⟨z + 1, by omega, by omega, by go_num, hb4.out⟩
              case measure => simp [intOf]; omega
            · go_wp2_with fail
              go_roundw
              case rel => exact ⟨n + 1, by omega, by go_num, ext_trans hbo.out hbq⟩
              case measure => simp [intOf]; omega
    · have q := run_at_lit [96] ⟨#[96]⟩ (-9223372036854775808) 96 96 0 rfl rfl (by kernel_rfl) (by decide) (by omega)
      replace hb := Lib.hid hb
      go_wp2_with fail
      refine (same_any [] 4611686018427387904 (by decide) _).mono ?_
      rintro e w7 ⟨rfl, hb7⟩
      replace hb7 := Lib.hid (ext_trans hb.out hb7)
      go_wp2_with fail
      refine (q _).mono ?_
      rintro e w8 ⟨rfl, rfl⟩
      go_wp2_with fail
      refine (known_any _).mono ?_
      rintro e w10 ⟨rfl, hb10⟩
      replace hb10 := Lib.hid (ext_trans hb7.out hb10)
      go_wp2
      go_ret
      exact ⟨rfl, hb10.out⟩
end Go.Proofs.Ytmfhibiedjmhiaa
