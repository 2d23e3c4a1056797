/- CodeTells: spans of code are found as the document says, for any. -/
import Derived.Test.YtmfhibiedjmhiaaCdSame
import Derived.Test.YtmfhibiedjmhiaaTapeText
import Derived.Test.YtmfhibiedjmhiaaBit64
namespace Go.Proofs.Ytmfhibiedjmhiaa
open Go.RowKit

set_option maxHeartbeats 8000000 in
set_option maxRecDepth 100000 in
theorem tells_any (l : List UInt8) (at_ : Int) (ks : List UInt8) (A : Option Addr) (c : Nat) (u : UInt8) (xs : List Int) (A1 : Option Addr) (c1 : Nat) (w : World)
    (h : Row w w.heap.size 1 A ks.length (bcells ks)) (h1 : Row w w.heap.size 1 A1 xs.length (icells xs)) (hc1 : xs.length ≤ c1) (hl : l.length ≤ 140737488351232) (hk : ks.length ≤ 9223372036854775807) (hx : xs.length ≤ 9223372036854775807) (h63 : at_ ≤ 9223372036854775807) :
    Calls Try.prog 4 #[.string (bs l), .int .i64 at_, .slice A ks.length c, .int .u8 (u.toNat : Int), .slice A1 xs.length c1] w fun e w' => e = .returned (.bool true) ∧ Below w.heap.size w w' := by
  have hT := tapeNew w xs A1 c1 h1 hc1 hx
  have hbA := ext_alloc w (.cells #[.slice A1 xs.length c1, .int .i64 0] 30)
  have hzA : (w.alloc (.cells #[.slice A1 xs.length c1, .int .i64 0] 30)).heap.size = w.heap.size + 1 := by simp
  have hm := fun w' h => words_any w' w.heap.size h 20 (by omega) 20 rfl
  obtain ⟨a15, h15, g15⟩ : ∃ m : Nat, bits .and .i64 at_ 15 = (m : Int) ∧ m ≤ 15 := ⟨(at_ % 16).toNat, by rw [i64_and15]; omega, by omega⟩
  obtain ⟨a31, h31, g31⟩ : ∃ m : Nat, bits .and .i64 at_ 31 = (m : Int) ∧ m ≤ 31 := ⟨(at_ % 32).toNat, by rw [i64_and31]; omega, by omega⟩
  obtain ⟨a63, h63', g63⟩ : ∃ m : Nat, bits .and .i64 at_ 63 = (m : Int) ∧ m ≤ 63 := ⟨(at_ % 64).toNat, by rw [i64_and63]; omega, by omega⟩
  have hR := Lib.hid h
  replace hbA := Lib.hid hbA
  replace hm := Lib.hid hm
  replace hT := Lib.hid hT
  clear h h1
  go_enter Try.func4, Try.ntmps4
  go_wp2_with fail
  generalize w.alloc (.cells #[.slice A1 xs.length c1, .int .i64 0] 30) = wa at hT hbA hzA ⊢
  refine (hm.out wa hT.out).mono ?_
  rintro e w1 ⟨s, rfl, hs, _, hb1⟩
  have hb1' := Lib.hid (hbA.out.trans hb1.1)
  clear hb1 hbA hm hT
  have hRx : ∀ wz, Below w.heap.size w wz → Row wz wz.heap.size 1 A ks.length (bcells ks) := fun wz hz => hR.out.ext hz
  replace hRx := Lib.hid hRx
  go_wp2_with fail
  refine (same_any l at_ (by omega) _).mono ?_
  rintro e w2 ⟨rfl, hb2⟩
  replace hb2 := Lib.hid (ext_trans hb1'.out hb2)
  go_wp2_with fail
  have hmk := fun w h => made_any ks A c w h hk
  have ht3 := made9_len ks
  obtain ⟨t3, hTT⟩ : ∃ T, T = made9 ks := ⟨_, rfl⟩
  rw [← hTT] at hmk ht3
  clear hTT
  replace hmk := Lib.hid hmk
  refine (hmk.out _ (hRx.out _ hb2.out)).mono ?_
  rintro e w3 ⟨rfl, hb3⟩
  replace hb3 := Lib.hid (ext_trans hb2.out hb3)
  go_wp2_with fail
  refine (same_any t3 _ (by omega) _).mono ?_
  rintro e w4 ⟨rfl, hb4⟩
  replace hb4 := Lib.hid (ext_trans hb3.out hb4)
  go_wp2_with fail
  refine (same_any s _ (by omega) _).mono ?_
  rintro e w5 ⟨rfl, hb5⟩
  replace hb5 := Lib.hid (ext_trans hb4.out hb5)
  go_wp2_with fail
  refine (same_any s _ (by omega) _).mono ?_
  rintro e w6 ⟨rfl, hb6⟩
  replace hb6 := Lib.hid (ext_trans hb5.out hb6)
  go_wp2_with fail
  refine (crun_of l at_ u _ (by omega) h63).mono ?_
  rintro e w7 ⟨rfl, rfl⟩
  go_wp2_with fail
  refine (rrun_of l at_ u _ (by omega) h63).mono ?_
  rintro e w7 ⟨rfl, rfl⟩
  go_wp2_with fail
  refine (hmk.out _ (hRx.out _ hb6.out)).mono ?_
  rintro e w7 ⟨rfl, hb7⟩
  replace hb7 := Lib.hid (ext_trans hb6.out hb7)
  go_wp2_with fail
  refine (crun_of t3 a15 u _ (by omega) (by omega)).mono ?_
  rintro e w8 ⟨rfl, rfl⟩
  go_wp2_with fail
  refine (hmk.out _ (hRx.out _ hb7.out)).mono ?_
  rintro e w8 ⟨rfl, hb8⟩
  replace hb8 := Lib.hid (ext_trans hb7.out hb8)
  go_wp2_with fail
  refine (rrun_of t3 a15 u _ (by omega) (by omega)).mono ?_
  rintro e w9 ⟨rfl, rfl⟩
  go_wp2_with fail
  refine (known_any _).mono ?_
  rintro e w9 ⟨rfl, hb9⟩
  replace hb9 := Lib.hid (ext_trans hb8.out hb9)
  go_wp2
  go_ret
  exact ⟨rfl, hb9.out⟩

theorem tells_said (l : List UInt8) (at_ : Int) (ks : List UInt8) (A : Option Addr) (c : Nat) (x : Int) (xs : List Int) (A1 : Option Addr) (c1 : Nat) (w : World) (hz : l.length ≤ 140737488351232) (hx : -9223372036854775808 ≤ at_ ∧ at_ ≤ 9223372036854775807)
    (h : Row w w.heap.size 1 A ks.length (bcells ks)) (hc : ks.length ≤ c) (hm : c ≤ maxLen) (hu : 0 ≤ x ∧ x ≤ 255) (h1 : Row w w.heap.size 1 A1 xs.length (icells xs)) (hc1 : xs.length ≤ c1) (hm1 : c1 ≤ maxLen) :
    Calls Try.prog 4 #[.string (bs l), .int .i64 at_, .slice A ks.length c, .int .u8 x, .slice A1 xs.length c1] w fun e w' => e = .returned (.bool true) ∧ Below w.heap.size w w' := by
  obtain ⟨u, rfl⟩ : ∃ u : UInt8, x = (u.toNat : Int) := ⟨UInt8.ofNat x.toNat, by rw [UInt8.toNat_ofNat']; omega⟩
  unfold maxLen at hm hm1
  exact tells_any l at_ ks A c u xs A1 c1 w h h1 hc1 hz (by omega) (by omega) hx.2
end Go.Proofs.Ytmfhibiedjmhiaa
