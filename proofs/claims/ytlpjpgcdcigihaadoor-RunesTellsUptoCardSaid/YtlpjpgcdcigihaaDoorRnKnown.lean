/- Package runes: some of the chapter's runs. -/
import Derived.Test.YtlpjpgcdcigihaaDoorRnSame
namespace Go.Proofs.YtlpjpgcdcigihaaDoor
open Go.RowKit

theorem first_eA (w : World) : Calls Tryd.prog 22 #[.string ⟨#[195, 169, 97]⟩] w fun e w' => e = .returned (.tuple #[.int .i32 233, .bool true]) ∧ Below w.heap.size w w' :=
  (first_some [195, 169, 97] (by decide) w).mono fun _ _ ⟨he, hb⟩ => ⟨by rw [he, show hdR [195, 169, 97] = 233 by decide +kernel]; rfl, hb⟩
theorem last_aF (w : World) (hT : Tabs w) : Calls Tryd.prog 23 #[.string ⟨#[97, 255]⟩] w fun e w' => e = .returned (.tuple #[.int .i32 65533, .bool true]) ∧ Below w.heap.size w w' :=
  (last_some [97, 255] (by decide) w (by decide) hT).mono fun _ _ ⟨he, hb⟩ => ⟨by rw [he, show ltR [97, 255] = 65533 by decide +kernel]; rfl, hb⟩
theorem first_no (w : World) : Calls Tryd.prog 22 #[.string ⟨#[]⟩] w fun e w' => e = .returned (.tuple #[.int .i32 0, .bool false]) ∧ Below w.heap.size w w' := first_none w
theorem text_F (A : Option Addr) (c : Nat) (w : World) (hR : Row w w.heap.size 1 A 3 (bcells [255, 97, 0])) :
    Calls Tryd.prog 16 #[.slice A 3 c] w fun e w' => e = .returned (.string ⟨#[239, 191, 189, 97, 239, 191, 189]⟩) ∧ Below w.heap.size w w' :=
  (text_any [255, 97, 0] A c w hR (by decide)).mono fun _ _ ⟨he, hb⟩ => ⟨by rw [he, show Ru.text [255, 97, 0] = [239, 191, 189, 97, 239, 191, 189] by decide +kernel]; rfl, hb⟩
theorem fold_AbC (w : World) : Calls Tryd.prog 11 #[.string ⟨#[32, 65, 32, 32, 98, 227, 128, 128, 67, 32]⟩] w fun e w' => e = .returned (.string ⟨#[97, 32, 98, 32, 99]⟩) ∧ Below w.heap.size w w' :=
  (fold_any [32, 65, 32, 32, 98, 227, 128, 128, 67, 32] w (by decide)).mono fun _ _ ⟨he, hb⟩ => ⟨by rw [he, show Ru.enc (Ru.fold (Ru.runes [32, 65, 32, 32, 98, 227, 128, 128, 67, 32])) = [97, 32, 98, 32, 99] by decide +kernel]; rfl, hb⟩
theorem count_aeF (w : World) : Calls Tryd.prog 13 #[.string ⟨#[97, 195, 169, 255]⟩] w fun e w' => e = .returned (.int .i64 3) ∧ Below w.heap.size w w' :=
  (count_any [97, 195, 169, 255] w (by decide)).mono fun _ _ ⟨he, hb⟩ => ⟨by rw [he, show (Ru.runes [97, 195, 169, 255]).length = 3 by decide +kernel]; rfl, hb⟩

set_option maxHeartbeats 4000000 in
set_option maxRecDepth 100000 in
theorem known_any (w : World) (hT : Tabs w) :
    Calls Tryd.prog 10 #[] w fun e w' => e = .returned (.bool true) ∧ Below w.heap.size w w' := by
  replace hT := Lib.hid hT
  have k1 : blankB 160 = true := by decide
  have k2 : blankB 97 = false := by decide
  have k3 : punctB 42 = true := by decide
  have k4 : punctB 8212 = true := by decide
  have k5 : punctB 97 = false := by decide
  have k6 : letterB 233 = true := by decide
  have k7 : letterB 49 = false := by decide
  go_enter Tryd.func10, Tryd.ntmps10
  go_wp2_with fail
  refine (first_eA _).mono ?_
  rintro e w1 ⟨rfl, hb1⟩
  have hT1 := Lib.hid (tabs_ext hT.out hb1)
  replace hb1 := Lib.hid hb1
  go_wp2_with fail
  refine (last_aF _ hT1.out).mono ?_
  rintro e w2 ⟨rfl, hb2⟩
  have hb2' := Lib.hid (ext_trans hb1.out hb2)
  clear hb2
  go_wp2_with fail
  refine (first_no _).mono ?_
  rintro e w3 ⟨rfl, hb3⟩
  have hb3' := Lib.hid (ext_trans hb2'.out hb3)
  clear hb3
  go_wp2_with fail
  refine (text_F _ _ _ (Row.fresh w3 _ _ _ rfl rfl)).mono ?_
  rintro e w4 ⟨rfl, hb4⟩
  have hb4' := Lib.hid (ext_trans (ext_trans hb3'.out (ext_alloc _ _)) hb4)
  clear hb4
  go_wp2_with fail
  refine (fold_AbC _).mono ?_
  rintro e w5 ⟨rfl, hb5⟩
  have hb5' := Lib.hid (ext_trans hb4'.out hb5)
  clear hb5
  go_wp2_with (first
    | (go_at_call 12; refine (blank_any _ _).mono ?_; rintro e w' ⟨rfl, rfl⟩)
    | (go_at_call 17; refine (punct_any _ _).mono ?_; rintro e w' ⟨rfl, rfl⟩)
    | (go_at_call 18; refine (letter_any _ _).mono ?_; rintro e w' ⟨rfl, rfl⟩)
    | (go_at_call 13; refine (count_aeF _).mono ?_; rintro e w6 ⟨rfl, hb6⟩))
  go_ret
  exact ⟨rfl, ext_trans hb5'.out hb6⟩
end Go.Proofs.YtlpjpgcdcigihaaDoor
