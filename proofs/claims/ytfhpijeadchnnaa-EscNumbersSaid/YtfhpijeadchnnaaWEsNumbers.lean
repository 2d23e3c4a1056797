/- EscNumbers: the chapter's runs, each byte alone, behind a backslash, within a rune. -/
import Derived.Test.YtfhpijeadchnnaaEsMade
namespace Go.Proofs.Ytfhpijeadchnnaa
open Go.RowKit

set_option maxHeartbeats 8000000 in
set_option maxRecDepth 100000 in
theorem numbers_any (w : World) (hT : EsT w) :
    Calls Try.prog 3 #[] w fun e w' => e = .returned (.bool true) ∧ Below w.heap.size w w' := by
  replace hT := Lib.hid hT
  go_enter Try.func3, Try.ntmps3
  go_wp2_with fail
  go_loopw [1, 2, 3] (fun i _ _ wr => ∃ k : Nat, k ≤ 256 ∧ i = .int .i64 k ∧ Below w.heap.size w wr) (fun i _ _ _ => 256 - (intOf i).toNat)
  case atStart => exact ⟨0, by omega, rfl, Below.refl _ _⟩
  case round =>
    obtain ⟨k, hk, rfl, hb⟩ := hrel
    rcases Nat.lt_or_eq_of_le hk with hkl | rfl
    · obtain ⟨x, hx⟩ : ∃ x : UInt8, x.toNat = k := ⟨UInt8.ofNat k, by simp; omega⟩
      have hwk : IntKind.u8.wrap (k : Int) = k := by
        unfold IntKind.wrap; simp [IntKind.bits, IntKind.signed]; omega
      have hrow : Row (wr.alloc (.cells #[.int .u8 (k : Int)] 5)) (wr.alloc (.cells #[.int .u8 (k : Int)] 5)).heap.size 1 (some ⟨wr.heap.size, 0, none⟩) 1 (bcells [x]) :=
        Row.fresh wr 5 #[.int .u8 (k : Int)] (0, 0) rfl (by simp [bcells, bv, hx])
      have hcv := run_text (c := 1) hrow 22 5 9 Try.underlying22 Try.underlying5 Try.underlying9
      replace hx := Lib.hid hx
      clear hrow
      have hb1 := Lib.hid (ext_alloc wr (.cells #[.int .u8 (k : Int)] 5))
      obtain ⟨w5, rfl⟩ : ∃ w5 : World, w5 = wr := ⟨_, rfl⟩
      replace hb := Lib.hid hb
      go_wp2_with fail
      have a1 : (⟨#[92]⟩ : ByteArray) ++ bs [x] = bs [92, x] := bs_append [92] [x]
      have a2 : (⟨#[92, 92]⟩ : ByteArray) ++ bs [x] = bs [92, 92, x] := bs_append [92, 92] [x]
      have a3 : (⟨#[195, 169]⟩ : ByteArray) ++ bs [x] = bs [195, 169, x] := bs_append [195, 169] [x]
      have a4 : bs [195, 169, x] ++ (⟨#[92]⟩ : ByteArray) = bs [195, 169, x, 92] := bs_append [195, 169, x] [92]
      have a5 : (⟨#[228, 184]⟩ : ByteArray) ++ bs [x] = bs [228, 184, x] := bs_append [228, 184] [x]
      have z1 := bs_size [x]
      have z2 := bs_size [195, 169, x]
      simp only [List.length_cons, List.length_nil] at z1 z2
      clear hcv hwk
      obtain ⟨w6, hw6⟩ : ∃ w6 : World, w6 = w5.alloc (.cells #[.int .u8 (k : Int)] 5) := ⟨_, rfl⟩
      rw [← hw6] at hb1 ⊢
      clear hw6
      have hT6 := Lib.hid (est_ext (est_ext hT.out hb.out) hb1.out)
      rw [show decide ((k : Int) < 256) = true from decide_eq_true (by omega)]
      go_loopw [3] (fun j wq => ∃ z : Int, -1 ≤ z ∧ z ≤ 4 ∧ j = .int .i64 z ∧ Below w6.heap.size w6 wq) (fun j _ => (4 - intOf j).toNat)
      case atStart => exact ⟨-1, by omega, by omega, rfl, Below.refl _ _⟩
      case round =>
        obtain ⟨z, hz1, hz2, rfl, hbq⟩ := hrel
        have hT7 := Lib.hid (est_ext hT6.out hbq)
        replace hbq := Lib.hid hbq
        by_cases hlt : z < 4
        · go_wp2_with fail
          refine (same_any [x] z (by simp) _ hT7.out).mono ?_
          rintro e w7 ⟨rfl, hb7⟩
          have hT8 := Lib.hid (est_ext hT7.out hb7)
          replace hb7 := Lib.hid (ext_trans hbq.out hb7)
          go_wp2_with fail
          refine (same_any [92, x] z (by simp) _ hT8.out).mono ?_
          rintro e w8 ⟨rfl, hb8⟩
          have hT9 := Lib.hid (est_ext hT8.out hb8)
          replace hb8 := Lib.hid (ext_trans hb7.out hb8)
          go_wp2_with fail
          refine (same_any [92, 92, x] z (by simp) _ hT9.out).mono ?_
          rintro e w9 ⟨rfl, hb9⟩
          have hT10 := Lib.hid (est_ext hT9.out hb9)
          replace hb9 := Lib.hid (ext_trans hb8.out hb9)
          go_wp2_with fail
          refine (same_any [195, 169, x, 92] z (by simp) _ hT10.out).mono ?_
          rintro e w10 ⟨rfl, hb10⟩
          have hT11 := Lib.hid (est_ext hT10.out hb10)
          replace hb10 := Lib.hid (ext_trans hb9.out hb10)
          go_wp2_with fail
          refine (same_any [228, 184, x] z (by simp) _ hT11.out).mono ?_
          rintro e w11 ⟨rfl, hb11⟩
          replace hb11 := Lib.hid (ext_trans hb10.out hb11)
          go_wp2
          go_roundw
          case rel => exact ⟨z + 1, by omega, by omega, by go_num, hb11.out⟩
          case measure => simp [intOf]; omega
        · go_wp2_with fail
          go_roundw
          case rel => exact ⟨k + 1, by omega, by go_num, ext_trans (ext_trans hb.out hb1.out) hbq.out⟩
          case measure => simp [intOf]; omega
    · have hT1 := Lib.hid (est_ext hT.out hb)
      replace hb := Lib.hid hb
      go_wp2_with fail
      refine (same_any [] 0 (by decide) _ hT1.out).mono ?_
      rintro e w7 ⟨rfl, hb7⟩
      have hT8 := Lib.hid (est_ext hT1.out hb7)
      replace hb7 := Lib.hid (ext_trans hb.out hb7)
      go_wp2_with fail
      refine (same_any [97] 4611686018427387904 (by decide) _ hT8.out).mono ?_
      rintro e w8 ⟨rfl, hb8⟩
      have hT9 := Lib.hid (est_ext hT8.out hb8)
      replace hb8 := Lib.hid (ext_trans hb7.out hb8)
      go_wp2_with fail
      refine (same_any [97] (-9223372036854775808) (by decide) _ hT9.out).mono ?_
      rintro e w9 ⟨rfl, hb9⟩
      have hT10 := Lib.hid (est_ext hT9.out hb9)
      replace hb9 := Lib.hid (ext_trans hb8.out hb9)
      go_wp2_with fail
      refine (known_any _ hT10.out).mono ?_
      rintro e w10 ⟨rfl, hb10⟩
      replace hb10 := Lib.hid (ext_trans hb9.out hb10)
      go_wp2
      go_ret
      exact ⟨rfl, hb10.out⟩

theorem numbers_small (w : World) :
    Calls Try.prog 3 #[] w fun e w' => e = .returned (.bool true) ∧ Below w.heap.size w w' := numbers_any w trivial
end Go.Proofs.Ytfhpijeadchnnaa
